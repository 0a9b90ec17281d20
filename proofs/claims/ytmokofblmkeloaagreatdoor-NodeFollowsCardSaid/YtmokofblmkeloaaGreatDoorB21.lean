/- Contracts of layer 21: the Front's Stamp, Listen and follow. -/
import Derived.Test.YtmokofblmkeloaaGreatDoorB19
import Derived.Test.YtmokofblmkeloaaGreatDoorP31
import Derived.Test.YtmokofblmkeloaaGreatDoorB15
import Derived.Test.YtmokofblmkeloaaGreatDoorP22
import Derived.Test.YtmokofblmkeloaaGreatDoorP24
import Derived.Deep.CutRange
import Derived.Deep.RegionLaw
namespace Go.Proofs.YtmokofblmkeloaaGreatDoor
open Go.RowKit
set_option linter.unusedVariables false
set_option maxRecDepth 100000
attribute [local go_sem ↓] Go.wp_at_zero Go.wp_at_succ
/-- What each operation leaves. -/
def VMStaP (G : Nat) (p : Par) (s : Sta) (A : Option Addr) (cap : Nat) (k1 k2 : Int) (w : World) (v : Value) : Nat → Prop
  | 0 => v = .pointer (some ⟨G, 0, none⟩)
  | 1 => v = .pointer (some ⟨G, 0, none⟩)
  | 2 => v = .agg #[.int .i64 s.st, .int .i64 s.sn]
  | 3 => v = .pointer (some ⟨G, 0, none⟩)
  | 4 => v = .pointer (some ⟨G, 0, none⟩)
  | 5 => v = .pointer (some ⟨G, 12, none⟩)
  | 6 => v = .pointer (some ⟨G, 14, none⟩)
  | 7 => v = .int .i64 s.time
  | 8 => v = .agg #[.int .i64 k1, .int .i64 k2]
  | 9 => v = .agg #[.int .i64 k1, .int .i64 k2]
  | 10 => v = .pointer (some ⟨G, 0, none⟩)
  | 11 => v = .pointer (some ⟨G, 12, none⟩)
  | 12 => v = .pointer (some ⟨G, 20, none⟩)
  | _ => v = .bool true
/-- It stays so. -/
def VCStaP (G : Nat) (p : Par) (s : Sta) (A : Option Addr) (cap : Nat) (k1 k2 : Int) (i : Nat) (v : Value) (w : World) : Prop := ∀ w', Ok w w' → VMStaP G p s A cap k1 k2 w' v i
set_option maxHeartbeats 1600000 in
theorem frontStamp (R : List Value) (G : Nat) (p : Par) (s : Sta) (A : Option Addr) (cap : Nat) (w : World) (hO : Own w G (frontCellsR R p s A cap)) : Calls Tryz.prog 82 #[.pointer (some ⟨G, 0, none⟩)] w fun e w' => e = .returned (.tuple #[stV (Hlc.tick (s.st, s.sn) s.time), .int .i64 0]) ∧ Own w' G (frontCellsR R p (Health.stamped s) A cap) ∧ Only G w w' := by
  have KS := Lib.hid fun w h => frontStamps R G p s A cap w h
  have KT := Lib.hid fun w => hlcTick (s.st, s.sn) s.time w
  rw [show Health.stamped s = { s with st := (Hlc.tick (s.st, s.sn) s.time).1, sn := (Hlc.tick (s.st, s.sn) s.time).2 } from rfl]
  obtain ⟨⟨k1, k2⟩, hx⟩ : ∃ r, Hlc.tick (s.st, s.sn) s.time = r := ⟨_, rfl⟩
  rw [hx] at KT ⊢
  clear hx
  obtain ⟨u, hu⟩ : ∃ u, ({ s with st := k1, sn := k2 } : Sta) = u := ⟨_, rfl⟩
  simp only
  rw [hu]
  have hut : u.table = s.table := by rw [← hu]
  have HU := Lib.hid hu
  clear hu
  have hok := (Ok.refl w).alloc (.cells #[.int .i64 0, .int .i64 0] 28)
  have hZ := Slab.new w 0 0 28 rfl
  have hq : w.heap.size ≠ G := Nat.ne_of_gt hO.lt
  have hO2 := hO.alloc (.cells #[.int .i64 0, .int .i64 0] 28)
  clear hO
  go_enter Tryz.func82, Tryz.ntmps82
  go_upto_region 1 with fail
  change Code.wp _ _ _ _ (w.alloc (.cells #[.int .i64 0, .int .i64 0] 28))
  generalize w.alloc (.cells #[.int .i64 0, .int .i64 0] 28) = W at hO2 hZ hok ⊢
  obtain ⟨Z, hZe⟩ : ∃ r, w.heap.size = r := ⟨_, rfl⟩
  have hwZ : w.heap.size ≤ Z := by omega
  have hZG : Z ≠ G := by omega
  rw [hZe] at hZ ⊢
  clear hZe hq
  go_upto_region 3 with fail
  have HOK := Lib.hid hok
  have HQ := Lib.hid fun W' (k : Ok W.drew W') => hO2.drew.next k
  have HZ := Lib.hid fun W' (k : Ok W.drew W') => hZ.drew.next k
  clear hO2 hZ hok
  refine wp_region_facts_end (by kernel_rfl) 3 25 rfl (VCStaP G p s A cap k1 k2) Ok _ rfl _ 13 rfl rfl rfl rfl (by kernel_rfl) (by kernel_rfl) (by kernel_rfl) (fun i v w w' h k w'' k' => h w'' (k.trans k')) (fun a b c => Ok.trans) (Ok.refl _) [some 7, some 8, some 9, some 10, some 11, some 12, some 13, some 14, some 15, some 16, some 17, some 18, some 19] rfl ⟨?_, ?_, ?_, ?_, ?_, ?_, ?_, ?_, ?_, ?_, ?_, ?_, ?_, trivial⟩ ?_
  · intro a' w' hF hR
    have e0 : a'.tmps[0]? = some (.pointer (some ⟨G, 0, none⟩)) := hF.slot 0 (by kernel_rfl) rfl
    refine wpOp_run (v := .pointer (some ⟨G, 0, none⟩)) rfl rfl ?_ (fun _ _ => rfl) (Ok.refl _)
    clear hF
    go_simp
  · intro a' w' hF hR
    have e0 : a'.tmps[0]? = some (.pointer (some ⟨G, 0, none⟩)) := hF.slot 0 (by kernel_rfl) rfl
    refine wpOp_run (v := .pointer (some ⟨G, 0, none⟩)) rfl rfl ?_ (fun _ _ => rfl) (Ok.refl _)
    clear hF
    go_simp
  · intro a' w' hF hR
    obtain ⟨v1, hv1, e8⟩ := hF.get 1 8 (by kernel_rfl) (by kernel_rfl)
    obtain rfl : v1 = _ := hv1 _ (Ok.refl _)
    clear hF
    refine wpOp_call (f := 73) (args := #[.pointer (some ⟨G, 0, none⟩)]) rfl rfl ?_ ((KS.out _ (HQ.out _ hR)).mono ?_)
    · go_simp
    · rintro e w2 ⟨rfl, hb2⟩; exact ⟨_, rfl, fun _ _ => rfl, hb2⟩
  · intro a' w' hF hR
    have e0 : a'.tmps[0]? = some (.pointer (some ⟨G, 0, none⟩)) := hF.slot 0 (by kernel_rfl) rfl
    refine wpOp_run (v := .pointer (some ⟨G, 0, none⟩)) rfl rfl ?_ (fun _ _ => rfl) (Ok.refl _)
    clear hF
    go_simp
  · intro a' w' hF hR
    obtain ⟨v3, hv3, e10⟩ := hF.get 3 10 (by kernel_rfl) (by kernel_rfl)
    obtain rfl : v3 = _ := hv3 _ (Ok.refl _)
    refine wpOp_run (v := .pointer (some ⟨G, 0, none⟩)) rfl rfl ?_ (fun _ _ => rfl) (Ok.refl _)
    clear hF
    go_simp
  · intro a' w' hF hR
    obtain ⟨v4, hv4, e11⟩ := hF.get 4 11 (by kernel_rfl) (by kernel_rfl)
    obtain rfl : v4 = _ := hv4 _ (Ok.refl _)
    refine wpOp_run (v := .pointer (some ⟨G, 12, none⟩)) rfl rfl ?_ (fun _ _ => rfl) (Ok.refl _)
    clear hF
    go_simp
  · intro a' w' hF hR
    obtain ⟨v5, hv5, e12⟩ := hF.get 5 12 (by kernel_rfl) (by kernel_rfl)
    obtain rfl : v5 = _ := hv5 _ (Ok.refl _)
    refine wpOp_run (v := .pointer (some ⟨G, 14, none⟩)) rfl rfl ?_ (fun _ _ => rfl) (Ok.refl _)
    clear hF
    go_simp
  · intro a' w' hF hR
    obtain ⟨v6, hv6, e13⟩ := hF.get 6 13 (by kernel_rfl) (by kernel_rfl)
    obtain rfl : v6 = _ := hv6 _ (Ok.refl _)
    obtain ⟨s0, s1, s2, s3, s4, s5, s6, s7, s8, s9, s10⟩ := (HQ.out _ hR).frS
    have hgl := (HQ.out _ hR).lt
    refine wpOp_run (v := .int .i64 s.time) rfl rfl ?_ (fun _ _ => rfl) (Ok.refl _)
    clear hF
    go_simp
  · intro a' w' hF hR
    obtain ⟨v2, hv2, e9⟩ := hF.get 2 9 (by kernel_rfl) (by kernel_rfl)
    obtain rfl : v2 = _ := hv2 _ (Ok.refl _)
    obtain ⟨v7, hv7, e14⟩ := hF.get 7 14 (by kernel_rfl) (by kernel_rfl)
    obtain rfl : v7 = _ := hv7 _ (Ok.refl _)
    clear hF
    refine wpOp_call (f := 76) (args := #[.agg #[.int .i64 s.st, .int .i64 s.sn], .int .i64 s.time]) rfl rfl ?_ ((KT.out _).mono ?_)
    · go_simp
    · rintro e w2 ⟨rfl, hb2⟩; exact ⟨_, rfl, fun _ _ => rfl, hb2⟩
  · intro a' w' hF hR
    obtain ⟨v8, hv8, e15⟩ := hF.get 8 15 (by kernel_rfl) (by kernel_rfl)
    obtain rfl : v8 = _ := hv8 _ (Ok.refl _)
    have hf := clockField (k1, k2)
    refine wpOp_run (v := .agg #[.int .i64 k1, .int .i64 k2]) rfl rfl ?_ (fun _ _ => rfl) (Ok.refl _)
    clear hF
    go_simp
  · intro a' w' hF hR
    obtain ⟨v0, hv0, e7⟩ := hF.get 0 7 (by kernel_rfl) (by kernel_rfl)
    obtain rfl : v0 = _ := hv0 _ (Ok.refl _)
    refine wpOp_run (v := .pointer (some ⟨G, 0, none⟩)) rfl rfl ?_ (fun _ _ => rfl) (Ok.refl _)
    clear hF
    go_simp
  · intro a' w' hF hR
    obtain ⟨v10, hv10, e17⟩ := hF.get 10 17 (by kernel_rfl) (by kernel_rfl)
    obtain rfl : v10 = _ := hv10 _ (Ok.refl _)
    refine wpOp_run (v := .pointer (some ⟨G, 12, none⟩)) rfl rfl ?_ (fun _ _ => rfl) (Ok.refl _)
    clear hF
    go_simp
  · intro a' w' hF hR
    obtain ⟨v11, hv11, e18⟩ := hF.get 11 18 (by kernel_rfl) (by kernel_rfl)
    obtain rfl : v11 = _ := hv11 _ (Ok.refl _)
    refine wpOp_run (v := .pointer (some ⟨G, 20, none⟩)) rfl rfl ?_ (fun _ _ => rfl) (Ok.refl _)
    clear hF
    go_simp
  intro vs W' hvs hR
  have e9 : vs 9 = .agg #[.int .i64 k1, .int .i64 k2] := hvs 9 (by decide) _ (Ok.refl _)
  have e12 : vs 12 = .pointer (some ⟨G, 20, none⟩) := hvs 12 (by decide) _ (Ok.refl _)
  have hQ := HQ.out _ hR
  have hZ := HZ.out _ hR
  have hok := HOK.out.trans ((Ok.refl W).drew.trans hR)
  clear hvs HQ HZ HOK KS KT
  simp only [putFrom, e9, e12]
  simp only [Act.put, List.setIfInBounds_toArray, List.set_cons_zero, List.set_cons_succ]
  obtain ⟨s0, s1, s2, s3, s4, s5, s6, s7, s8, s9, s10⟩ := hQ.frS
  have f20 := hQ.frozen 20
  have f21 := hQ.frozen 21
  have hgl := hQ.lt
  refine wpOp_store (w' := (W'.setCell ⟨G, 20, none⟩ (.int .i64 k1)).setCell ⟨G, 21, none⟩ (.int .i64 k2)) rfl rfl rfl ?_ ?_
  · go_simp
  have hQ2 : Own ((W'.setCell ⟨G, 20, none⟩ (.int .i64 k1)).setCell ⟨G, 21, none⟩ (.int .i64 k2)) G (frontCellsR R p u A cap) := ((hQ.set 20 (.int .i64 k1)).set 21 (.int .i64 k2)).as (by rw [← HU.out]; simp [frontCellsR])
  have hZ2 := (hZ.setOther (a := ⟨G, 20, none⟩) hZG (.int .i64 k1)).setOther (a := ⟨G, 21, none⟩) hZG (.int .i64 k2)
  have hon := ((Only.of_ok (r := G) hok).setR 20 (.int .i64 k1)).setR 21 (.int .i64 k2)
  clear s0 s1 s2 s3 s4 s5 s6 s7 s8 s9 s10 f20 f21 hgl hQ hZ hok hR e9 e12
  generalize (W'.setCell ⟨G, 20, none⟩ (.int .i64 k1)).setCell ⟨G, 21, none⟩ (.int .i64 k2) = W2 at hQ2 hZ2 hon ⊢
  have us : u.st = k1 := by rw [← HU.out]
  have un : u.sn = k2 := by rw [← HU.out]
  have s8 : W2.cell? ⟨G, 20, none⟩ = some (.int .i64 k1) := by rw [← us]; exact hQ2.cell 20 rfl
  have s9 : W2.cell? ⟨G, 21, none⟩ = some (.int .i64 k2) := by rw [← un]; exact hQ2.cell 21 rfl
  have hgl := hQ2.lt
  have z0 := hZ2.c0
  have z1 := hZ2.c1
  have y0 := hZ2.f0
  have y1 := hZ2.f1
  have hzl := hZ2.lt
  generalize vs 0 = x0
  generalize vs 1 = x1
  generalize vs 2 = x2
  generalize vs 3 = x3
  generalize vs 4 = x4
  generalize vs 5 = x5
  generalize vs 6 = x6
  generalize vs 7 = x7
  generalize vs 8 = x8
  generalize vs 10 = x10
  generalize vs 11 = x11
  clear vs us un
  go_wp2_with fail
  refine bodyPost_ret (v := .tuple #[stV (k1, k2), .int .i64 0]) (by simp [results, Tryz.results82, go_sem, (hZ2.set k1 k2).c0, (hZ2.set k1 k2).c1]) rfl ⟨rfl, ?_, ?_⟩
  · exact (hQ2.setOther (a := ⟨Z, 0, none⟩) (Ne.symm hZG) _).setOther (a := ⟨Z, 1, none⟩) (Ne.symm hZG) _
  · exact (hon.setN hwZ 0 _).setN hwZ 1 _
/-- What each operation leaves. -/
def VMLisP (G X N0 : Nat) (p : Par) (s : Sta) (A : Option Addr) (cap : Nat) (x1 x2 m k1 k2 : Int) (q : Bool) (w : World) (v : Value) : Nat → Prop
  | 0 => v = .pointer (some ⟨G, 0, none⟩)
  | 1 => v = .agg #[.int .i64 s.st, .int .i64 s.sn]
  | 2 => v = .pointer (some ⟨G, 0, none⟩)
  | 3 => v = .pointer (some ⟨G, 0, none⟩)
  | 4 => v = .pointer (some ⟨G, 12, none⟩)
  | 5 => v = .pointer (some ⟨G, 14, none⟩)
  | 6 => v = .int .i64 s.time
  | 7 => v = .agg #[.int .i64 x1, .int .i64 x2]
  | 8 => v = .pointer (some ⟨G, 0, none⟩)
  | 9 => v = .int .i64 m
  | 10 => v = .tuple #[.agg #[.int .i64 k1, .int .i64 k2], .bool q]
  | 11 => v = .tuple #[.agg #[.int .i64 k1, .int .i64 k2], .bool q]
  | 12 => v = .agg #[.int .i64 k1, .int .i64 k2]
  | 13 => v = .bool q
  | 14 => ∃ g : Nat, v = .pointer (some ⟨g, 0, none⟩) ∧ Own w g #[.int .i64 0, .int .i64 0] ∧ N0 ≤ g
  | _ => v = .bool true
/-- It stays so. -/
def VCLisP (G X N0 : Nat) (p : Par) (s : Sta) (A : Option Addr) (cap : Nat) (x1 x2 m k1 k2 : Int) (q : Bool) (i : Nat) (v : Value) (w : World) : Prop := ∀ w', Ok w w' → VMLisP G X N0 p s A cap x1 x2 m k1 k2 q w' v i
set_option maxHeartbeats 1600000 in
theorem frontListen (R : List Value) (G : Nat) (p : Par) (s : Sta) (A : Option Addr) (cap : Nat) (x : Int × Int) (w : World) (hO : Own w G (frontCellsR R p s A cap)) : Calls Tryz.prog 80 #[.pointer (some ⟨G, 0, none⟩), stV x] w fun e w' => e = .returned (.tuple #[]) ∧ Own w' G (frontCellsR R p (Health.listen p s x) A cap) ∧ Only G w w' := by
  obtain ⟨x1, x2⟩ := x
  have KS := Lib.hid fun w h => frontStamps R G p s A cap w h
  have KM := Lib.hid fun w h => frontLatest R G p s A cap w h
  have KH := Lib.hid fun w => hlcHear (s.st, s.sn) s.time (x1, x2) (Health.most p s) w
  rw [show Health.listen p s (x1, x2) = { s with st := (Hlc.hear (s.st, s.sn) s.time (x1, x2) (Health.most p s)).1.1, sn := (Hlc.hear (s.st, s.sn) s.time (x1, x2) (Health.most p s)).1.2 } from rfl]
  obtain ⟨⟨⟨k1, k2⟩, q⟩, hx⟩ : ∃ r, Hlc.hear (s.st, s.sn) s.time (x1, x2) (Health.most p s) = r := ⟨_, rfl⟩
  rw [hx] at KH ⊢
  clear hx
  generalize Health.most p s = m at KM KH
  obtain ⟨u, hu⟩ : ∃ u, ({ s with st := k1, sn := k2 } : Sta) = u := ⟨_, rfl⟩
  simp only
  rw [hu]
  have hut : u.table = s.table := by rw [← hu]
  have HU := Lib.hid hu
  clear hu
  have hok := (Ok.refl w).alloc (.cells #[.int .i64 x1, .int .i64 x2] 28)
  have hX := Slab.new w x1 x2 28 rfl
  have hO2 := hO.alloc (.cells #[.int .i64 x1, .int .i64 x2] 28)
  clear hO
  go_enter Tryz.func80, Tryz.ntmps80
  go_upto_region 1 with fail
  generalize w.alloc (.cells #[.int .i64 x1, .int .i64 x2] 28) = W at hO2 hX hok ⊢
  obtain ⟨X, hXe⟩ : ∃ r, w.heap.size = r := ⟨_, rfl⟩
  rw [hXe] at hX ⊢
  clear hXe
  go_upto_region 2 with fail
  obtain ⟨N0, hN0⟩ : ∃ r, W.drew.heap.size = r := ⟨_, rfl⟩
  have HN := Lib.hid hN0
  have HN0 : Hid (w.heap.size ≤ N0) := Lib.hid (by have := hok.drew.size; omega)
  have HGN : Hid (G < N0) := Lib.hid (by have := hO2.drew.lt; omega)
  have HOK := Lib.hid hok
  have HQ := Lib.hid fun W' (k : Ok W.drew W') => hO2.drew.next k
  have HX := Lib.hid fun W' (k : Ok W.drew W') => hX.drew.next k
  clear hO2 hX hok hN0
  refine wp_region_facts_float (by kernel_rfl) 28 rfl (VCLisP G X N0 p s A cap x1 x2 m k1 k2 q) Ok 15 13 rfl (by decide) _ _ rfl rfl (by kernel_rfl) (by kernel_rfl) _ _ rfl rfl rfl (by kernel_rfl) (by kernel_rfl) (fun i v w w' h k w'' k' => h w'' (k.trans k')) (fun a b c => Ok.trans) (Ok.refl _) [some 9, some 10, some 11, some 12, some 13, some 14, some 15, some 16, some 17, some 18, some 19, some 8, some 20, some 21, some 4] [some 9, some 10, some 11, some 12, some 13, some 14, some 15, some 16, some 17, some 18, some 19, some 8, some 20, none, some 4] rfl rfl ⟨?_, ?_, ?_, ?_, ?_, ?_, ?_, ?_, ?_, ?_, ?_, ?_, ?_, ?_, ?_, trivial⟩ ?_ ?_
  · intro a' w' hF hR
    have e0 : a'.tmps[0]? = some (.pointer (some ⟨G, 0, none⟩)) := hF.slot 0 (by kernel_rfl) rfl
    refine wpOp_run (v := .pointer (some ⟨G, 0, none⟩)) rfl rfl ?_ (fun _ _ => rfl) (Ok.refl _)
    clear hF
    go_simp
  · intro a' w' hF hR
    obtain ⟨v0, hv0, e9⟩ := hF.get 0 9 (by kernel_rfl) (by kernel_rfl)
    obtain rfl : v0 = _ := hv0 _ (Ok.refl _)
    clear hF
    refine wpOp_call (f := 73) (args := #[.pointer (some ⟨G, 0, none⟩)]) rfl rfl ?_ ((KS.out _ (HQ.out _ hR)).mono ?_)
    · go_simp
    · rintro e w2 ⟨rfl, hb2⟩; exact ⟨_, rfl, fun _ _ => rfl, hb2⟩
  · intro a' w' hF hR
    have e0 : a'.tmps[0]? = some (.pointer (some ⟨G, 0, none⟩)) := hF.slot 0 (by kernel_rfl) rfl
    refine wpOp_run (v := .pointer (some ⟨G, 0, none⟩)) rfl rfl ?_ (fun _ _ => rfl) (Ok.refl _)
    clear hF
    go_simp
  · intro a' w' hF hR
    obtain ⟨v2, hv2, e11⟩ := hF.get 2 11 (by kernel_rfl) (by kernel_rfl)
    obtain rfl : v2 = _ := hv2 _ (Ok.refl _)
    refine wpOp_run (v := .pointer (some ⟨G, 0, none⟩)) rfl rfl ?_ (fun _ _ => rfl) (Ok.refl _)
    clear hF
    go_simp
  · intro a' w' hF hR
    obtain ⟨v3, hv3, e12⟩ := hF.get 3 12 (by kernel_rfl) (by kernel_rfl)
    obtain rfl : v3 = _ := hv3 _ (Ok.refl _)
    refine wpOp_run (v := .pointer (some ⟨G, 12, none⟩)) rfl rfl ?_ (fun _ _ => rfl) (Ok.refl _)
    clear hF
    go_simp
  · intro a' w' hF hR
    obtain ⟨v4, hv4, e13⟩ := hF.get 4 13 (by kernel_rfl) (by kernel_rfl)
    obtain rfl : v4 = _ := hv4 _ (Ok.refl _)
    refine wpOp_run (v := .pointer (some ⟨G, 14, none⟩)) rfl rfl ?_ (fun _ _ => rfl) (Ok.refl _)
    clear hF
    go_simp
  · intro a' w' hF hR
    obtain ⟨v5, hv5, e14⟩ := hF.get 5 14 (by kernel_rfl) (by kernel_rfl)
    obtain rfl : v5 = _ := hv5 _ (Ok.refl _)
    obtain ⟨s0, s1, s2, s3, s4, s5, s6, s7, s8, s9, s10⟩ := (HQ.out _ hR).frS
    have hgl := (HQ.out _ hR).lt
    refine wpOp_run (v := .int .i64 s.time) rfl rfl ?_ (fun _ _ => rfl) (Ok.refl _)
    clear hF
    go_simp
  · intro a' w' hF hR
    have e3 : a'.tmps[3]? = some (.pointer (some ⟨X, 0, none⟩)) := hF.slot 3 (by kernel_rfl) rfl
    have x0 := (HX.out _ hR).c0
    have x9 := (HX.out _ hR).c1
    have hxl := (HX.out _ hR).lt
    refine wpOp_run (v := .agg #[.int .i64 x1, .int .i64 x2]) rfl rfl ?_ (fun _ _ => rfl) (Ok.refl _)
    clear hF
    go_simp
  · intro a' w' hF hR
    have e0 : a'.tmps[0]? = some (.pointer (some ⟨G, 0, none⟩)) := hF.slot 0 (by kernel_rfl) rfl
    refine wpOp_run (v := .pointer (some ⟨G, 0, none⟩)) rfl rfl ?_ (fun _ _ => rfl) (Ok.refl _)
    clear hF
    go_simp
  · intro a' w' hF hR
    obtain ⟨v8, hv8, e17⟩ := hF.get 8 17 (by kernel_rfl) (by kernel_rfl)
    obtain rfl : v8 = _ := hv8 _ (Ok.refl _)
    clear hF
    refine wpOp_call (f := 75) (args := #[.pointer (some ⟨G, 0, none⟩)]) rfl rfl ?_ ((KM.out _ (HQ.out _ hR)).mono ?_)
    · go_simp
    · rintro e w2 ⟨rfl, hb2⟩; exact ⟨_, rfl, fun _ _ => rfl, hb2⟩
  · intro a' w' hF hR
    obtain ⟨v1, hv1, e10⟩ := hF.get 1 10 (by kernel_rfl) (by kernel_rfl)
    obtain rfl : v1 = _ := hv1 _ (Ok.refl _)
    obtain ⟨v6, hv6, e15⟩ := hF.get 6 15 (by kernel_rfl) (by kernel_rfl)
    obtain rfl : v6 = _ := hv6 _ (Ok.refl _)
    obtain ⟨v7, hv7, e16⟩ := hF.get 7 16 (by kernel_rfl) (by kernel_rfl)
    obtain rfl : v7 = _ := hv7 _ (Ok.refl _)
    obtain ⟨v9, hv9, e18⟩ := hF.get 9 18 (by kernel_rfl) (by kernel_rfl)
    obtain rfl : v9 = _ := hv9 _ (Ok.refl _)
    clear hF
    refine wpOp_call (f := 129) (args := #[.agg #[.int .i64 s.st, .int .i64 s.sn], .int .i64 s.time, .agg #[.int .i64 x1, .int .i64 x2], .int .i64 m]) rfl rfl ?_ ((KH.out _).mono ?_)
    · go_simp
    · rintro e w2 ⟨rfl, hb2⟩; exact ⟨_, rfl, fun _ _ => rfl, hb2⟩
  · intro a' w' hF hR
    obtain ⟨v10, hv10, e19⟩ := hF.get 10 19 (by kernel_rfl) (by kernel_rfl)
    obtain rfl : v10 = _ := hv10 _ (Ok.refl _)
    refine wpOp_run (v := .tuple #[.agg #[.int .i64 k1, .int .i64 k2], .bool q]) rfl rfl ?_ (fun _ _ => rfl) (Ok.refl _)
    clear hF
    go_simp
  · intro a' w' hF hR
    obtain ⟨v11, hv11, e8⟩ := hF.get 11 8 (by kernel_rfl) (by kernel_rfl)
    obtain rfl : v11 = _ := hv11 _ (Ok.refl _)
    refine wpOp_run (v := .agg #[.int .i64 k1, .int .i64 k2]) rfl rfl ?_ (fun _ _ => rfl) (Ok.refl _)
    clear hF
    go_simp
  · intro a' w' hF hR
    obtain ⟨v11, hv11, e8⟩ := hF.get 11 8 (by kernel_rfl) (by kernel_rfl)
    obtain rfl : v11 = _ := hv11 _ (Ok.refl _)
    refine wpOp_run (v := .bool q) rfl rfl ?_ (fun _ _ => rfl) (Ok.refl _)
    clear hF
    go_simp
  · intro a' w' hF hR
    have hzero : Sem.run Tryz.prog (zeroValue 126) w' = .ok (.agg #[.int .i64 0, .int .i64 0]) w' := by kernel_rfl
    refine wpOp_run (v := .pointer (some ⟨w'.heap.size, 0, none⟩)) (w' := w'.alloc (.cells #[.int .i64 0, .int .i64 0] 126)) rfl rfl ?_ (fun w'' k => ⟨_, rfl, (Own.new _ _ _ rfl).next k, (HN.out ▸ hR.size)⟩) ((Ok.refl _).alloc _)
    clear hF
    go_simp
  · intro vs W' hvs hR
    have e12 : vs 12 = .agg #[.int .i64 k1, .int .i64 k2] := hvs 12 (by decide) _ (Ok.refl _)
    have e13 : vs 13 = .bool q := hvs 13 (by decide) _ (Ok.refl _)
    obtain ⟨gx, e14, hX, hgx⟩ := hvs 14 (by decide) _ (Ok.refl _)
    have hQ := HQ.out _ hR
    have hok := (HOK.out.trans (Ok.refl W).drew).trans hR
    have hwx : w.heap.size ≤ gx := Nat.le_trans HN0.out hgx
    have hGx : G ≠ gx := by have := HGN.out; omega
    have hxx : Slab W' gx 0 0 := ⟨hX.blk⟩
    have f0 := hxx.f0
    have f1 := hxx.f1
    have c0 := hxx.c0
    have c1 := hxx.c1
    clear hvs HQ HX HOK HN HN0 HGN KH KS KM hX hgx
    simp only [putFrom, e12, e13, e14]
    simp only [Act.put, List.setIfInBounds_toArray, List.set_cons_zero, List.set_cons_succ]
    refine wpOp_store (w' := (W'.setCell ⟨gx, 0, none⟩ (.int .i64 k1)).setCell ⟨gx, 1, none⟩ (.int .i64 k2)) rfl rfl rfl ?_ ?_
    · go_simp
    have hx2 := hxx.set k1 k2
    have hQ2 := (hQ.setOther (a := ⟨gx, 0, none⟩) hGx (.int .i64 k1)).setOther (a := ⟨gx, 1, none⟩) hGx (.int .i64 k2)
    have hok2 := (hok.setCell (p := ⟨gx, 0, none⟩) hwx (.int .i64 k1)).setCell (p := ⟨gx, 1, none⟩) hwx (.int .i64 k2)
    clear f0 f1 c0 c1 hxx hQ hok e12 e13 e14
    generalize (W'.setCell ⟨gx, 0, none⟩ (.int .i64 k1)).setCell ⟨gx, 1, none⟩ (.int .i64 k2) = W2 at hx2 hQ2 hok2 ⊢
    refine wpOp_leaves (o := ⟨some 5, _, _, _, _, none⟩) (v := .bool q) (w' := W2) rfl rfl ?_ ?_
    · go_simp
    simp only [Act.put, List.setIfInBounds_toArray, List.set_cons_zero, List.set_cons_succ]
    try generalize vs 0 = x20
    try generalize vs 1 = x21
    try generalize vs 2 = x22
    try generalize vs 3 = x23
    try generalize vs 4 = x24
    try generalize vs 5 = x25
    try generalize vs 6 = x26
    try generalize vs 7 = x27
    try generalize vs 8 = x28
    try generalize vs 9 = x29
    try generalize vs 10 = x30
    try generalize vs 11 = x31
    try generalize vs 12 = x32
    try generalize vs 13 = x33
    clear hR vs
    obtain ⟨s0, s1, s2, s3, s4, s5, s6, s7, s8, s9, s10⟩ := hQ2.frS
    have f20 := hQ2.frozen 20
    have f21 := hQ2.frozen 21
    have hgl := hQ2.lt
    have c0 := hx2.c0
    have c1 := hx2.c1
    have hxl := hx2.lt
    go_wp2_with fail
    go_end0
    exact ⟨rfl, ((hQ2.set 20 (.int .i64 k1)).set 21 (.int .i64 k2)).as (by rw [← HU.out]; simp [frontCellsR]), ((Only.of_ok (r := G) hok2).setR 20 (.int .i64 k1)).setR 21 (.int .i64 k2)⟩
  · intro vs W' hvs hR
    have e12 : vs 12 = .agg #[.int .i64 k1, .int .i64 k2] := hvs 12 (by decide) (by decide) _ (Ok.refl _)
    have e13 : vs 11 = .tuple #[.agg #[.int .i64 k1, .int .i64 k2], .bool q] := hvs 11 (by decide) (by decide) _ (Ok.refl _)
    obtain ⟨gx, e14, hX, hgx⟩ := hvs 14 (by decide) (by decide) _ (Ok.refl _)
    have hQ := HQ.out _ hR
    have hok := (HOK.out.trans (Ok.refl W).drew).trans hR
    have hwx : w.heap.size ≤ gx := Nat.le_trans HN0.out hgx
    have hGx : G ≠ gx := by have := HGN.out; omega
    have hxx : Slab W' gx 0 0 := ⟨hX.blk⟩
    have f0 := hxx.f0
    have f1 := hxx.f1
    have c0 := hxx.c0
    have c1 := hxx.c1
    clear hvs HQ HX HOK HN HN0 HGN KH KS KM hX hgx
    simp only [putFrom, e12, e13, e14]
    simp only [Act.put, List.setIfInBounds_toArray, List.set_cons_zero, List.set_cons_succ]
    refine wpOp_store (w' := (W'.setCell ⟨gx, 0, none⟩ (.int .i64 k1)).setCell ⟨gx, 1, none⟩ (.int .i64 k2)) rfl rfl rfl ?_ ?_
    · go_simp
    have hx2 := hxx.set k1 k2
    have hQ2 := (hQ.setOther (a := ⟨gx, 0, none⟩) hGx (.int .i64 k1)).setOther (a := ⟨gx, 1, none⟩) hGx (.int .i64 k2)
    have hok2 := (hok.setCell (p := ⟨gx, 0, none⟩) hwx (.int .i64 k1)).setCell (p := ⟨gx, 1, none⟩) hwx (.int .i64 k2)
    clear f0 f1 c0 c1 hxx hQ hok e12 e13 e14
    generalize (W'.setCell ⟨gx, 0, none⟩ (.int .i64 k1)).setCell ⟨gx, 1, none⟩ (.int .i64 k2) = W2 at hx2 hQ2 hok2 ⊢
    refine wpOp_leaves (o := ⟨some 21, _, _, _, _, none⟩) (v := .bool q) (w' := W2) rfl rfl ?_ ?_
    · go_simp
    simp only [Act.put, List.setIfInBounds_toArray, List.set_cons_zero, List.set_cons_succ]
    refine wpOp_leaves (o := ⟨some 5, _, _, _, _, none⟩) (v := .bool q) (w' := W2) rfl rfl ?_ ?_
    · go_simp
    simp only [Act.put, List.setIfInBounds_toArray, List.set_cons_zero, List.set_cons_succ]
    try generalize vs 0 = x20
    try generalize vs 1 = x21
    try generalize vs 2 = x22
    try generalize vs 3 = x23
    try generalize vs 4 = x24
    try generalize vs 5 = x25
    try generalize vs 6 = x26
    try generalize vs 7 = x27
    try generalize vs 8 = x28
    try generalize vs 9 = x29
    try generalize vs 10 = x30
    try generalize vs 11 = x31
    try generalize vs 12 = x32
    try generalize vs 13 = x33
    clear hR vs
    obtain ⟨s0, s1, s2, s3, s4, s5, s6, s7, s8, s9, s10⟩ := hQ2.frS
    have f20 := hQ2.frozen 20
    have f21 := hQ2.frozen 21
    have hgl := hQ2.lt
    have c0 := hx2.c0
    have c1 := hx2.c1
    have hxl := hx2.lt
    go_wp2_with fail
    go_end0
    exact ⟨rfl, ((hQ2.set 20 (.int .i64 k1)).set 21 (.int .i64 k2)).as (by rw [← HU.out]; simp [frontCellsR]), ((Only.of_ok (r := G) hok2).setR 20 (.int .i64 k1)).setR 21 (.int .i64 k2)⟩
theorem slewAny (p : Par) (t : Int) (s : Bool) (ticks d : Int) (j : Bool) (w : World) : Calls Tryz.prog 116 #[clockV t s, parV p, .int .i64 ticks, .int .i64 d, .bool j] w fun e w' => e = .returned (clockV (if j = true ∨ s = false then Sat.clip d else Slew.step p t ticks d) true) ∧ Ok w w' := by
  cases s with
  | false =>
    rw [if_pos (.inr rfl)]
    exact slewUnset p t ticks d j w
  | true =>
    cases j with
    | true =>
      rw [if_pos (.inl rfl)]
      exact slewJump p t true ticks d w
    | false =>
      rw [if_neg (by decide)]
      exact slewStep p t ticks d w
/-- The two ways to say how far a clock is from where it is brought to. -/
theorem off_two (a b f : Int) : f < Sat.abs (Sat.sub a b) ↔ f < Sat.sub b a ∨ f < -Sat.sub b a := by
  have hn : ∀ x, Sat.clip (-x) = -Sat.clip x := fun x => by
    unfold Sat.clip
    by_cases h1 : 2305843009213693952 < x
    · rw [if_pos h1, if_neg (by omega), if_pos (by omega)]
    · by_cases h2 : x < -2305843009213693952
      · rw [if_neg h1, if_pos h2, if_pos (by omega)]; rfl
      · rw [if_neg h1, if_neg h2, if_neg (by omega), if_neg (by omega)]
  have e : Sat.sub b a = -Sat.sub a b := by
    unfold Sat.sub
    rw [← hn, Int.neg_sub]
  have hb := Sat.sub_bd a b
  rw [e]
  generalize Sat.sub a b = s at *
  unfold Sat.abs
  rw [Sat.clip_in hb.1 hb.2]
  split <;> omega
/-- What each operation leaves. -/
def VMFolT (G H : Nat) (p : Par) (s u : Sta) (A C : Option Addr) (cap cup : Nat) (h q f : Int) (jj : Bool) (w : World) (v : Value) : Nat → Prop
  | 0 => v = .pointer (some ⟨G, 0, none⟩)
  | 1 => v = .int .i64 h
  | 2 => v = .bool true
  | 3 => v = .bool true
  | 4 => v = undef
  | 5 => v = undef
  | 6 => v = undef
  | 7 => v = undef
  | 8 => v = undef
  | 9 => v = undef
  | 10 => v = undef
  | 11 => v = undef
  | 12 => v = undef
  | 13 => v = .bool true
  | 14 => v = .bool true
  | _ => v = .bool true
/-- It stays so. -/
def VCFolT (G H : Nat) (p : Par) (s u : Sta) (A C : Option Addr) (cap cup : Nat) (h q f : Int) (jj : Bool) (i : Nat) (v : Value) (w : World) : Prop := ∀ w', Ok w w' → VMFolT G H p s u A C cap cup h q f jj w' v i
/-- What each operation leaves. -/
def VMFolF (G H : Nat) (p : Par) (s u : Sta) (A C : Option Addr) (cap cup : Nat) (h q f : Int) (jj : Bool) (w : World) (v : Value) : Nat → Prop
  | 0 => v = .pointer (some ⟨G, 0, none⟩)
  | 1 => v = .int .i64 h
  | 2 => v = .bool false
  | 3 => v = .bool false
  | 4 => v = .int .i64 q
  | 5 => v = .pointer (some ⟨G, 0, none⟩)
  | 6 => v = .pointer (some ⟨G, 0, none⟩)
  | 7 => v = .pointer (some ⟨G, 0, none⟩)
  | 8 => v = parV p
  | 9 => v = .pointer (some ⟨H, 4, none⟩)
  | 10 => v = .int .i64 u.held
  | 11 => v = .int .i64 f
  | 12 => v = .bool jj
  | 13 => v = .bool jj
  | 14 => v = .bool jj
  | _ => v = .bool true
/-- It stays so. -/
def VCFolF (G H : Nat) (p : Par) (s u : Sta) (A C : Option Addr) (cap cup : Nat) (h q f : Int) (jj : Bool) (i : Nat) (v : Value) (w : World) : Prop := ∀ w', Ok w w' → VMFolF G H p s u A C cap cup h q f jj w' v i
/-- What each operation leaves. -/
def VMFolS (G H : Nat) (p : Par) (s : Sta) (A : Option Addr) (cap : Nat) (ticks tm CK : Int) (jj : Bool) (w : World) (v : Value) : Nat → Prop
  | 0 => v = .pointer (some ⟨G, 0, none⟩)
  | 1 => v = .pointer (some ⟨G, 0, none⟩)
  | 2 => v = .pointer (some ⟨G, 12, none⟩)
  | 3 => v = .pointer (some ⟨G, 14, none⟩)
  | 4 => v = .int .i64 s.time
  | 5 => v = .pointer (some ⟨G, 0, none⟩)
  | 6 => v = .pointer (some ⟨G, 0, none⟩)
  | 7 => v = .pointer (some ⟨G, 12, none⟩)
  | 8 => v = .pointer (some ⟨G, 15, none⟩)
  | 9 => v = .bool s.set
  | 10 => v = clockV s.time s.set
  | 11 => v = .pointer (some ⟨G, 0, none⟩)
  | 12 => v = .pointer (some ⟨G, 0, none⟩)
  | 13 => v = .pointer (some ⟨G, 0, none⟩)
  | 14 => v = parV p
  | 15 => v = .int .i64 ticks
  | 16 => v = .int .i64 tm
  | 17 => v = .bool jj
  | 18 => v = clockV CK true
  | _ => v = .bool true
/-- It stays so. -/
def VCFolS (G H : Nat) (p : Par) (s : Sta) (A : Option Addr) (cap : Nat) (ticks tm CK : Int) (jj : Bool) (i : Nat) (v : Value) (w : World) : Prop := ∀ w', Ok w w' → VMFolS G H p s A cap ticks tm CK jj w' v i
set_option maxHeartbeats 3200000 in
theorem frontFollow (R : List Value) (G : Nat) (p : Par) (s : Sta) (A : Option Addr) (cap : Nat) (ticks : Int) (u : Sta) (C : Option Addr) (cup : Nat) (w : World) (hO : Own w G (frontCellsR R p s A cap)) : Calls Tryz.prog 72 #[.pointer (some ⟨G, 0, none⟩), .int .i64 ticks, staV u C cup] w fun e w' => e = .returned (clockV (Health.clock p s ticks u) true) ∧ Ok w w' := by
  have KI := Lib.hid fun w => spanMid u.lo u.hi w
  rw [show (Sat.clip u.lo + Sat.clip u.hi) / 2 = Health.mid u.lo u.hi from rfl] at KI
  have KA := Lib.hid fun w A h => satAdd A [s.time, ticks] 2 w h (by simp)
  have KD := Lib.hid fun w => slewOff (Sat.sum [s.time, ticks]) false (Health.mid u.lo u.hi) w
  have KO := Lib.hid fun w h => frontHealth R G p s A cap w h
  have KF := Lib.hid fun w => healthFar p u.held w
  have KL := Lib.hid fun w => slewAny p s.time s.set ticks (Health.mid u.lo u.hi) (Health.jumps p s ticks u) w
  rw [show (if Health.jumps p s ticks u = true ∨ s.set = false then Sat.clip (Health.mid u.lo u.hi) else Slew.step p s.time ticks (Health.mid u.lo u.hi)) = Health.clock p s ticks u from rfl] at KL
  have hj : Health.jumps p s ticks u = decide (Health.of p s = 0 ∨ Health.far p u.held < Sat.abs (Sat.sub (Sat.sum [s.time, ticks]) (Health.mid u.lo u.hi))) := by
    unfold Health.jumps Health.off
    simp only [off_two]
  generalize Health.jumps p s ticks u = jj at KL hj
  generalize Health.clock p s ticks u = CK at KL ⊢
  generalize Sat.abs (Sat.sub (Sat.sum [s.time, ticks]) (Health.mid u.lo u.hi)) = q at KD hj
  generalize Sat.sum [s.time, ticks] = a at KA KD
  generalize Health.mid u.lo u.hi = tm at KI KD KL
  generalize Health.far p u.held = f at KF hj
  generalize Health.of p s = h at KO hj
  have HJ := Lib.hid hj
  clear hj
  have hN := (Own.new w (staCells u C cup) 30 rfl).alloc (.cells #[.int .i64 0, .bool false] 123)
  have hZ := Own.new (w.alloc (.cells (staCells u C cup) 30)) #[.int .i64 0, .bool false] 123 (g := w.heap.size + 1) (by simp)
  have hok := ((Ok.refl w).alloc (.cells (staCells u C cup) 30)).alloc (.cells #[.int .i64 0, .bool false] 123)
  have hQ := hO.next hok
  clear hO
  go_enter Tryz.func72, Tryz.ntmps72
  go_upto_region 1 with fail
  change Code.wp _ _ _ _ ((w.alloc (.cells (staCells u C cup) 30)).alloc (.cells #[.int .i64 0, .bool false] 123))
  generalize (w.alloc (.cells (staCells u C cup) 30)).alloc (.cells #[.int .i64 0, .bool false] 123) = W at hQ hN hZ hok ⊢
  obtain ⟨Z, hZe⟩ : ∃ r, w.heap.size + 1 = r := ⟨_, rfl⟩
  obtain ⟨H, hH⟩ : ∃ r, w.heap.size = r := ⟨_, rfl⟩
  have hwZ : w.heap.size ≤ Z := by omega
  rw [hZe] at hZ
  rw [hH] at hN
  rw [hZe, hH]
  clear hZe hH
  obtain ⟨n0, n1, n2, n3, n4, n5, n6, n7, n8, n9, n10⟩ := hN.sta
  have hnl := hN.lt
  go_upto_region 2 with (go_at_call 113; refine (KI.out _).mono ?_; rintro e w2 ⟨rfl, hb1⟩; clear n0 n1 n2 n3 n4 n5 n6 n7 n8 n9 n10 hnl; replace hQ := hQ.next hb1; replace hN := hN.next hb1; replace hZ := hZ.next hb1; replace hok := hok.trans hb1; clear hb1)
  obtain ⟨s0, s1, s2, s3, s4, s5, s6, s7, s8, s9, s10⟩ := hQ.frS
  have hgl := hQ.lt
  go_upto_region 3 with (first | (go_at_call 49; refine (KA.out _ _ (ints_new _ [s.time, ticks] _ _ rfl rfl)).mono ?_; rintro e w3 ⟨rfl, rfl⟩; clear s0 s1 s2 s3 s4 s5 s6 s7 s8 s9 s10 hgl; replace hQ := hQ.alloc (.cells #[.int .i64 s.time, .int .i64 ticks] 3); replace hN := hN.alloc (.cells #[.int .i64 s.time, .int .i64 ticks] 3); replace hZ := hZ.alloc (.cells #[.int .i64 s.time, .int .i64 ticks] 3); replace hok := hok.alloc (.cells #[.int .i64 s.time, .int .i64 ticks] 3)) | (go_at_call 114; refine (KD.out _).mono ?_; rintro e W1 ⟨rfl, hb1⟩; replace hQ := hQ.next hb1; replace hN := hN.next hb1; replace hZ := hZ.next hb1; replace hok := hok.trans hb1; clear hb1 KA KD KI))
  go_cut [9] from 24 to 37 (fun v wx => v = .bool jj ∧ Own wx G (frontCellsR R p s A cap) ∧ Own wx Z #[.int .i64 0, .bool false] ∧ Ok w wx)
  case first =>
    have HOK := Lib.hid hok
    have HQ := Lib.hid fun W' (k : Ok W1.drew W') => hQ.drew.next k
    have HN := Lib.hid fun W' (k : Ok W1.drew W') => hN.drew.next k
    have HZ := Lib.hid fun W' (k : Ok W1.drew W') => hZ.drew.next k
    clear hQ hN hZ hok
    by_cases h0 : h = 0
    · obtain rfl : jj = true := by rw [HJ.out]; exact decide_eq_true (.inl h0)
      have HE : Hid ((h == 0) = true) := Lib.hid (beq_iff_eq.2 h0)
      clear h0 HJ
      refine wp_region_facts (by kernel_rfl) 57 rfl (VCFolT G H p s u A C cap cup h q f true) Ok (by kernel_rfl) (fun i v w w' h k w'' k' => h w'' (k.trans k')) (fun a b c => Ok.trans) (Ok.refl _) [some 24, some 25, some 26, some 27, some 28, some 29, some 30, some 31, some 32, some 33, some 34, some 35, some 36, some 37, some 9] rfl 15 rfl ⟨?_, ?_, ?_, ?_, ?_, ?_, ?_, ?_, ?_, ?_, ?_, ?_, ?_, ?_, ?_, trivial⟩ ?_
      · intro a' w' hF hR
        have e0 : a'.tmps[0]? = some (.pointer (some ⟨G, 0, none⟩)) := hF.slot 0 (by kernel_rfl) rfl
        refine wpOp_run (v := .pointer (some ⟨G, 0, none⟩)) rfl rfl ?_ (fun _ _ => rfl) (Ok.refl _)
        clear hF
        go_simp
      · intro a' w' hF hR
        obtain ⟨v0, hv0, e24⟩ := hF.get 0 24 (by kernel_rfl) (by kernel_rfl)
        obtain rfl : v0 = _ := hv0 _ (Ok.refl _)
        clear hF
        refine wpOp_call (f := 115) (args := #[.pointer (some ⟨G, 0, none⟩)]) rfl rfl ?_ ((KO.out _ (HQ.out _ hR)).mono ?_)
        · go_simp
        · rintro e w2 ⟨rfl, hb2⟩; exact ⟨_, rfl, fun _ _ => rfl, hb2⟩
      · intro a' w' hF hR
        obtain ⟨v1, hv1, e25⟩ := hF.get 1 25 (by kernel_rfl) (by kernel_rfl)
        obtain rfl : v1 = _ := hv1 _ (Ok.refl _)
        have e1 := HE.out
        refine wpOp_run (v := .bool true) rfl rfl ?_ (fun _ _ => rfl) (Ok.refl _)
        clear hF
        go_simp
      · intro a' w' hF hR
        obtain ⟨v2, hv2, e26⟩ := hF.get 2 26 (by kernel_rfl) (by kernel_rfl)
        obtain rfl : v2 = _ := hv2 _ (Ok.refl _)
        refine wpOp_run (v := .bool true) rfl rfl ?_ (fun _ _ => rfl) (Ok.refl _)
        clear hF
        go_simp
      · intro a' w' hF hR
        obtain ⟨vg, hvg, eg⟩ := hF.get 3 27 (by kernel_rfl) (by kernel_rfl)
        obtain rfl : vg = _ := hvg _ (Ok.refl _)
        exact wpOp_skip rfl (wanted_not rfl (by kernel_rfl) eg (by simp)) (fun _ _ => rfl) (Ok.refl _)
      · intro a' w' hF hR
        obtain ⟨vg, hvg, eg⟩ := hF.get 3 27 (by kernel_rfl) (by kernel_rfl)
        obtain rfl : vg = _ := hvg _ (Ok.refl _)
        exact wpOp_skip rfl (wanted_not rfl (by kernel_rfl) eg (by simp)) (fun _ _ => rfl) (Ok.refl _)
      · intro a' w' hF hR
        obtain ⟨vg, hvg, eg⟩ := hF.get 3 27 (by kernel_rfl) (by kernel_rfl)
        obtain rfl : vg = _ := hvg _ (Ok.refl _)
        exact wpOp_skip rfl (wanted_not rfl (by kernel_rfl) eg (by simp)) (fun _ _ => rfl) (Ok.refl _)
      · intro a' w' hF hR
        obtain ⟨vg, hvg, eg⟩ := hF.get 3 27 (by kernel_rfl) (by kernel_rfl)
        obtain rfl : vg = _ := hvg _ (Ok.refl _)
        exact wpOp_skip rfl (wanted_not rfl (by kernel_rfl) eg (by simp)) (fun _ _ => rfl) (Ok.refl _)
      · intro a' w' hF hR
        obtain ⟨vg, hvg, eg⟩ := hF.get 3 27 (by kernel_rfl) (by kernel_rfl)
        obtain rfl : vg = _ := hvg _ (Ok.refl _)
        exact wpOp_skip rfl (wanted_not rfl (by kernel_rfl) eg (by simp)) (fun _ _ => rfl) (Ok.refl _)
      · intro a' w' hF hR
        obtain ⟨vg, hvg, eg⟩ := hF.get 3 27 (by kernel_rfl) (by kernel_rfl)
        obtain rfl : vg = _ := hvg _ (Ok.refl _)
        exact wpOp_skip rfl (wanted_not rfl (by kernel_rfl) eg (by simp)) (fun _ _ => rfl) (Ok.refl _)
      · intro a' w' hF hR
        obtain ⟨vg, hvg, eg⟩ := hF.get 3 27 (by kernel_rfl) (by kernel_rfl)
        obtain rfl : vg = _ := hvg _ (Ok.refl _)
        exact wpOp_skip rfl (wanted_not rfl (by kernel_rfl) eg (by simp)) (fun _ _ => rfl) (Ok.refl _)
      · intro a' w' hF hR
        obtain ⟨vg, hvg, eg⟩ := hF.get 3 27 (by kernel_rfl) (by kernel_rfl)
        obtain rfl : vg = _ := hvg _ (Ok.refl _)
        exact wpOp_skip rfl (wanted_not rfl (by kernel_rfl) eg (by simp)) (fun _ _ => rfl) (Ok.refl _)
      · intro a' w' hF hR
        obtain ⟨vg, hvg, eg⟩ := hF.get 3 27 (by kernel_rfl) (by kernel_rfl)
        obtain rfl : vg = _ := hvg _ (Ok.refl _)
        exact wpOp_skip rfl (wanted_not rfl (by kernel_rfl) eg (by simp)) (fun _ _ => rfl) (Ok.refl _)
      · intro a' w' hF hR
        obtain ⟨v3, hv3, e27⟩ := hF.get 3 27 (by kernel_rfl) (by kernel_rfl)
        obtain rfl : v3 = _ := hv3 _ (Ok.refl _)
        obtain ⟨v12, hv12, e36⟩ := hF.get 12 36 (by kernel_rfl) (by kernel_rfl)
        obtain rfl : v12 = _ := hv12 _ (Ok.refl _)
        refine wpOp_run (v := .bool true) rfl rfl ?_ (fun _ _ => rfl) (Ok.refl _)
        clear hF
        go_simp
      · intro a' w' hF hR
        obtain ⟨v13, hv13, e37⟩ := hF.get 13 37 (by kernel_rfl) (by kernel_rfl)
        obtain rfl : v13 = _ := hv13 _ (Ok.refl _)
        refine wpOp_run (v := .bool true) rfl rfl ?_ (fun _ _ => rfl) (Ok.refl _)
        clear hF
        go_simp
      intro vs w8 hV hR
      have e14 : vs 14 = .bool true := hV 14 (by decide) _ (Ok.refl _)
      have hQ := HQ.out _ hR
      have hZ := HZ.out _ hR
      have hok2 := HOK.out.trans ((Ok.refl W1).drew.trans hR)
      clear hV HQ HN HZ HOK
      simp only [putFrom, e14]
      simp only [Act.put, List.setIfInBounds_toArray, List.set_cons_zero, List.set_cons_succ]
      go_wp2_with fail
      go_meet
      exact ⟨rfl, hQ, hZ, hok2⟩
    · have HE : Hid ((h == 0) = false) := Lib.hid (beq_eq_false_iff_ne.2 h0)
      have HD : Hid (decide (f < q) = jj) := Lib.hid (by rw [HJ.out]; simp [h0])
      clear h0 HJ
      refine wp_region_facts (by kernel_rfl) 57 rfl (VCFolF G H p s u A C cap cup h q f jj) Ok (by kernel_rfl) (fun i v w w' h k w'' k' => h w'' (k.trans k')) (fun a b c => Ok.trans) (Ok.refl _) [some 24, some 25, some 26, some 27, some 28, some 29, some 30, some 31, some 32, some 33, some 34, some 35, some 36, some 37, some 9] rfl 15 rfl ⟨?_, ?_, ?_, ?_, ?_, ?_, ?_, ?_, ?_, ?_, ?_, ?_, ?_, ?_, ?_, trivial⟩ ?_
      · intro a' w' hF hR
        have e0 : a'.tmps[0]? = some (.pointer (some ⟨G, 0, none⟩)) := hF.slot 0 (by kernel_rfl) rfl
        refine wpOp_run (v := .pointer (some ⟨G, 0, none⟩)) rfl rfl ?_ (fun _ _ => rfl) (Ok.refl _)
        clear hF
        go_simp
      · intro a' w' hF hR
        obtain ⟨v0, hv0, e24⟩ := hF.get 0 24 (by kernel_rfl) (by kernel_rfl)
        obtain rfl : v0 = _ := hv0 _ (Ok.refl _)
        clear hF
        refine wpOp_call (f := 115) (args := #[.pointer (some ⟨G, 0, none⟩)]) rfl rfl ?_ ((KO.out _ (HQ.out _ hR)).mono ?_)
        · go_simp
        · rintro e w2 ⟨rfl, hb2⟩; exact ⟨_, rfl, fun _ _ => rfl, hb2⟩
      · intro a' w' hF hR
        obtain ⟨v1, hv1, e25⟩ := hF.get 1 25 (by kernel_rfl) (by kernel_rfl)
        obtain rfl : v1 = _ := hv1 _ (Ok.refl _)
        have e1 := HE.out
        refine wpOp_run (v := .bool false) rfl rfl ?_ (fun _ _ => rfl) (Ok.refl _)
        clear hF
        go_simp
      · intro a' w' hF hR
        obtain ⟨v2, hv2, e26⟩ := hF.get 2 26 (by kernel_rfl) (by kernel_rfl)
        obtain rfl : v2 = _ := hv2 _ (Ok.refl _)
        refine wpOp_run (v := .bool false) rfl rfl ?_ (fun _ _ => rfl) (Ok.refl _)
        clear hF
        go_simp
      · intro a' w' hF hR
        have e8 : a'.tmps[8]? = some (.int .i64 q) := hF.slot 8 (by kernel_rfl) rfl
        obtain ⟨vg, hvg, eg⟩ := hF.get 3 27 (by kernel_rfl) (by kernel_rfl)
        obtain rfl : vg = _ := hvg _ (Ok.refl _)
        refine wpOp_runG (v := .int .i64 q) rfl (wanted_yes rfl (by kernel_rfl) eg) ?_ (fun _ _ => rfl) (Ok.refl _)
        clear hF
        go_simp
      · intro a' w' hF hR
        have e0 : a'.tmps[0]? = some (.pointer (some ⟨G, 0, none⟩)) := hF.slot 0 (by kernel_rfl) rfl
        obtain ⟨vg, hvg, eg⟩ := hF.get 3 27 (by kernel_rfl) (by kernel_rfl)
        obtain rfl : vg = _ := hvg _ (Ok.refl _)
        refine wpOp_runG (v := .pointer (some ⟨G, 0, none⟩)) rfl (wanted_yes rfl (by kernel_rfl) eg) ?_ (fun _ _ => rfl) (Ok.refl _)
        clear hF
        go_simp
      · intro a' w' hF hR
        obtain ⟨v5, hv5, e29⟩ := hF.get 5 29 (by kernel_rfl) (by kernel_rfl)
        obtain rfl : v5 = _ := hv5 _ (Ok.refl _)
        obtain ⟨vg, hvg, eg⟩ := hF.get 3 27 (by kernel_rfl) (by kernel_rfl)
        obtain rfl : vg = _ := hvg _ (Ok.refl _)
        refine wpOp_runG (v := .pointer (some ⟨G, 0, none⟩)) rfl (wanted_yes rfl (by kernel_rfl) eg) ?_ (fun _ _ => rfl) (Ok.refl _)
        clear hF
        go_simp
      · intro a' w' hF hR
        obtain ⟨v6, hv6, e30⟩ := hF.get 6 30 (by kernel_rfl) (by kernel_rfl)
        obtain rfl : v6 = _ := hv6 _ (Ok.refl _)
        obtain ⟨vg, hvg, eg⟩ := hF.get 3 27 (by kernel_rfl) (by kernel_rfl)
        obtain rfl : vg = _ := hvg _ (Ok.refl _)
        refine wpOp_runG (v := .pointer (some ⟨G, 0, none⟩)) rfl (wanted_yes rfl (by kernel_rfl) eg) ?_ (fun _ _ => rfl) (Ok.refl _)
        clear hF
        go_simp
      · intro a' w' hF hR
        obtain ⟨v7, hv7, e31⟩ := hF.get 7 31 (by kernel_rfl) (by kernel_rfl)
        obtain rfl : v7 = _ := hv7 _ (Ok.refl _)
        obtain ⟨vg, hvg, eg⟩ := hF.get 3 27 (by kernel_rfl) (by kernel_rfl)
        obtain rfl : vg = _ := hvg _ (Ok.refl _)
        obtain ⟨c0, c1, c2, c3, c4, c5, c6, c7, c8, c9, c10, c11⟩ := (HQ.out _ hR).frP
        have hgl := (HQ.out _ hR).lt
        refine wpOp_runG (v := parV p) rfl (wanted_yes rfl (by kernel_rfl) eg) ?_ (fun _ _ => rfl) (Ok.refl _)
        clear hF
        go_simp
      · intro a' w' hF hR
        have e5 : a'.tmps[5]? = some (.pointer (some ⟨H, 0, none⟩)) := hF.slot 5 (by kernel_rfl) rfl
        obtain ⟨vg, hvg, eg⟩ := hF.get 3 27 (by kernel_rfl) (by kernel_rfl)
        obtain rfl : vg = _ := hvg _ (Ok.refl _)
        refine wpOp_runG (v := .pointer (some ⟨H, 4, none⟩)) rfl (wanted_yes rfl (by kernel_rfl) eg) ?_ (fun _ _ => rfl) (Ok.refl _)
        clear hF
        go_simp
      · intro a' w' hF hR
        obtain ⟨v9, hv9, e33⟩ := hF.get 9 33 (by kernel_rfl) (by kernel_rfl)
        obtain rfl : v9 = _ := hv9 _ (Ok.refl _)
        obtain ⟨vg, hvg, eg⟩ := hF.get 3 27 (by kernel_rfl) (by kernel_rfl)
        obtain rfl : vg = _ := hvg _ (Ok.refl _)
        obtain ⟨n0, n1, n2, n3, n4, n5, n6, n7, n8, n9, n10⟩ := (HN.out _ hR).sta
        have hnl := (HN.out _ hR).lt
        refine wpOp_runG (v := .int .i64 u.held) rfl (wanted_yes rfl (by kernel_rfl) eg) ?_ (fun _ _ => rfl) (Ok.refl _)
        clear hF
        go_simp
      · intro a' w' hF hR
        obtain ⟨v8, hv8, e32⟩ := hF.get 8 32 (by kernel_rfl) (by kernel_rfl)
        obtain rfl : v8 = _ := hv8 _ (Ok.refl _)
        obtain ⟨v10, hv10, e34⟩ := hF.get 10 34 (by kernel_rfl) (by kernel_rfl)
        obtain rfl : v10 = _ := hv10 _ (Ok.refl _)
        obtain ⟨vg, hvg, eg⟩ := hF.get 3 27 (by kernel_rfl) (by kernel_rfl)
        obtain rfl : vg = _ := hvg _ (Ok.refl _)
        refine wpOp_callG (f := 24) (args := #[parV p, .int .i64 u.held]) rfl (wanted_yes rfl (by kernel_rfl) eg) ?_ ((KF.out _).mono ?_)
        · go_simp
        · rintro e w2 ⟨rfl, hb2⟩; exact ⟨_, rfl, fun _ _ => rfl, hb2⟩
      · intro a' w' hF hR
        obtain ⟨v4, hv4, e28⟩ := hF.get 4 28 (by kernel_rfl) (by kernel_rfl)
        obtain rfl : v4 = _ := hv4 _ (Ok.refl _)
        obtain ⟨v11, hv11, e35⟩ := hF.get 11 35 (by kernel_rfl) (by kernel_rfl)
        obtain rfl : v11 = _ := hv11 _ (Ok.refl _)
        obtain ⟨vg, hvg, eg⟩ := hF.get 3 27 (by kernel_rfl) (by kernel_rfl)
        obtain rfl : vg = _ := hvg _ (Ok.refl _)
        have d1 := HD.out
        refine wpOp_runG (v := .bool jj) rfl (wanted_yes rfl (by kernel_rfl) eg) ?_ (fun _ _ => rfl) (Ok.refl _)
        clear hF
        go_simp
      · intro a' w' hF hR
        obtain ⟨v3, hv3, e27⟩ := hF.get 3 27 (by kernel_rfl) (by kernel_rfl)
        obtain rfl : v3 = _ := hv3 _ (Ok.refl _)
        obtain ⟨v12, hv12, e36⟩ := hF.get 12 36 (by kernel_rfl) (by kernel_rfl)
        obtain rfl : v12 = _ := hv12 _ (Ok.refl _)
        refine wpOp_run (v := .bool jj) rfl rfl ?_ (fun _ _ => rfl) (Ok.refl _)
        clear hF
        go_simp
      · intro a' w' hF hR
        obtain ⟨v13, hv13, e37⟩ := hF.get 13 37 (by kernel_rfl) (by kernel_rfl)
        obtain rfl : v13 = _ := hv13 _ (Ok.refl _)
        refine wpOp_run (v := .bool jj) rfl rfl ?_ (fun _ _ => rfl) (Ok.refl _)
        clear hF
        go_simp
      intro vs w8 hV hR
      have e14 : vs 14 = .bool jj := hV 14 (by decide) _ (Ok.refl _)
      have hQ := HQ.out _ hR
      have hZ := HZ.out _ hR
      have hok2 := HOK.out.trans ((Ok.refl W1).drew.trans hR)
      clear hV HQ HN HZ HOK
      simp only [putFrom, e14]
      simp only [Act.put, List.setIfInBounds_toArray, List.set_cons_zero, List.set_cons_succ]
      go_wp2_with fail
      go_meet
      exact ⟨rfl, hQ, hZ, hok2⟩
  case rest =>
  clear hQ hN hZ hok
  obtain ⟨rfl, hQ, hZ, hok⟩ := hcut
  have HOK := Lib.hid hok
  have HQ := Lib.hid fun W' (k : Ok wc.drew W') => hQ.drew.next k
  have HZ := Lib.hid fun W' (k : Ok wc.drew W') => hZ.drew.next k
  clear hQ hZ hok
  go_upto_region 4 with fail
  refine wp_region_facts_last (by kernel_rfl) 57 rfl (VCFolS G H p s A cap ticks tm CK jj) Ok _ rfl _ 19 rfl rfl rfl rfl (by kernel_rfl) (by kernel_rfl) (by kernel_rfl) (fun i v w w' h k w'' k' => h w'' (k.trans k')) (fun a b c => Ok.trans) (Ok.refl _) [some 38, some 39, some 40, some 41, some 42, some 43, some 44, some 45, some 46, some 47, some 48, some 49, some 50, some 51, some 52, some 53, some 54, some 55, some 56] rfl ⟨?_, ?_, ?_, ?_, ?_, ?_, ?_, ?_, ?_, ?_, ?_, ?_, ?_, ?_, ?_, ?_, ?_, ?_, ?_, trivial⟩ ?_
  · intro a' w' hF hR
    have e0 : a'.tmps[0]? = some (.pointer (some ⟨G, 0, none⟩)) := hF.slot 0 (by kernel_rfl) rfl
    refine wpOp_run (v := .pointer (some ⟨G, 0, none⟩)) rfl rfl ?_ (fun _ _ => rfl) (Ok.refl _)
    clear hF
    go_simp
  · intro a' w' hF hR
    obtain ⟨v0, hv0, e38⟩ := hF.get 0 38 (by kernel_rfl) (by kernel_rfl)
    obtain rfl : v0 = _ := hv0 _ (Ok.refl _)
    refine wpOp_run (v := .pointer (some ⟨G, 0, none⟩)) rfl rfl ?_ (fun _ _ => rfl) (Ok.refl _)
    clear hF
    go_simp
  · intro a' w' hF hR
    obtain ⟨v1, hv1, e39⟩ := hF.get 1 39 (by kernel_rfl) (by kernel_rfl)
    obtain rfl : v1 = _ := hv1 _ (Ok.refl _)
    refine wpOp_run (v := .pointer (some ⟨G, 12, none⟩)) rfl rfl ?_ (fun _ _ => rfl) (Ok.refl _)
    clear hF
    go_simp
  · intro a' w' hF hR
    obtain ⟨v2, hv2, e40⟩ := hF.get 2 40 (by kernel_rfl) (by kernel_rfl)
    obtain rfl : v2 = _ := hv2 _ (Ok.refl _)
    refine wpOp_run (v := .pointer (some ⟨G, 14, none⟩)) rfl rfl ?_ (fun _ _ => rfl) (Ok.refl _)
    clear hF
    go_simp
  · intro a' w' hF hR
    obtain ⟨v3, hv3, e41⟩ := hF.get 3 41 (by kernel_rfl) (by kernel_rfl)
    obtain rfl : v3 = _ := hv3 _ (Ok.refl _)
    obtain ⟨s0, s1, s2, s3, s4, s5, s6, s7, s8, s9, s10⟩ := (HQ.out _ hR).frS
    have hgl := (HQ.out _ hR).lt
    refine wpOp_run (v := .int .i64 s.time) rfl rfl ?_ (fun _ _ => rfl) (Ok.refl _)
    clear hF
    go_simp
  · intro a' w' hF hR
    have e0 : a'.tmps[0]? = some (.pointer (some ⟨G, 0, none⟩)) := hF.slot 0 (by kernel_rfl) rfl
    refine wpOp_run (v := .pointer (some ⟨G, 0, none⟩)) rfl rfl ?_ (fun _ _ => rfl) (Ok.refl _)
    clear hF
    go_simp
  · intro a' w' hF hR
    obtain ⟨v5, hv5, e43⟩ := hF.get 5 43 (by kernel_rfl) (by kernel_rfl)
    obtain rfl : v5 = _ := hv5 _ (Ok.refl _)
    refine wpOp_run (v := .pointer (some ⟨G, 0, none⟩)) rfl rfl ?_ (fun _ _ => rfl) (Ok.refl _)
    clear hF
    go_simp
  · intro a' w' hF hR
    obtain ⟨v6, hv6, e44⟩ := hF.get 6 44 (by kernel_rfl) (by kernel_rfl)
    obtain rfl : v6 = _ := hv6 _ (Ok.refl _)
    refine wpOp_run (v := .pointer (some ⟨G, 12, none⟩)) rfl rfl ?_ (fun _ _ => rfl) (Ok.refl _)
    clear hF
    go_simp
  · intro a' w' hF hR
    obtain ⟨v7, hv7, e45⟩ := hF.get 7 45 (by kernel_rfl) (by kernel_rfl)
    obtain rfl : v7 = _ := hv7 _ (Ok.refl _)
    refine wpOp_run (v := .pointer (some ⟨G, 15, none⟩)) rfl rfl ?_ (fun _ _ => rfl) (Ok.refl _)
    clear hF
    go_simp
  · intro a' w' hF hR
    obtain ⟨v8, hv8, e46⟩ := hF.get 8 46 (by kernel_rfl) (by kernel_rfl)
    obtain rfl : v8 = _ := hv8 _ (Ok.refl _)
    obtain ⟨s0, s1, s2, s3, s4, s5, s6, s7, s8, s9, s10⟩ := (HQ.out _ hR).frS
    have hgl := (HQ.out _ hR).lt
    refine wpOp_run (v := .bool s.set) rfl rfl ?_ (fun _ _ => rfl) (Ok.refl _)
    clear hF
    go_simp
  · intro a' w' hF hR
    obtain ⟨v4, hv4, e42⟩ := hF.get 4 42 (by kernel_rfl) (by kernel_rfl)
    obtain rfl : v4 = _ := hv4 _ (Ok.refl _)
    obtain ⟨v9, hv9, e47⟩ := hF.get 9 47 (by kernel_rfl) (by kernel_rfl)
    obtain rfl : v9 = _ := hv9 _ (Ok.refl _)
    refine wpOp_run (v := clockV s.time s.set) rfl rfl ?_ (fun _ _ => rfl) (Ok.refl _)
    clear hF
    go_simp
  · intro a' w' hF hR
    have e0 : a'.tmps[0]? = some (.pointer (some ⟨G, 0, none⟩)) := hF.slot 0 (by kernel_rfl) rfl
    refine wpOp_run (v := .pointer (some ⟨G, 0, none⟩)) rfl rfl ?_ (fun _ _ => rfl) (Ok.refl _)
    clear hF
    go_simp
  · intro a' w' hF hR
    obtain ⟨v11, hv11, e49⟩ := hF.get 11 49 (by kernel_rfl) (by kernel_rfl)
    obtain rfl : v11 = _ := hv11 _ (Ok.refl _)
    refine wpOp_run (v := .pointer (some ⟨G, 0, none⟩)) rfl rfl ?_ (fun _ _ => rfl) (Ok.refl _)
    clear hF
    go_simp
  · intro a' w' hF hR
    obtain ⟨v12, hv12, e50⟩ := hF.get 12 50 (by kernel_rfl) (by kernel_rfl)
    obtain rfl : v12 = _ := hv12 _ (Ok.refl _)
    refine wpOp_run (v := .pointer (some ⟨G, 0, none⟩)) rfl rfl ?_ (fun _ _ => rfl) (Ok.refl _)
    clear hF
    go_simp
  · intro a' w' hF hR
    obtain ⟨v13, hv13, e51⟩ := hF.get 13 51 (by kernel_rfl) (by kernel_rfl)
    obtain rfl : v13 = _ := hv13 _ (Ok.refl _)
    obtain ⟨c0, c1, c2, c3, c4, c5, c6, c7, c8, c9, c10, c11⟩ := (HQ.out _ hR).frP
    have hgl := (HQ.out _ hR).lt
    refine wpOp_run (v := parV p) rfl rfl ?_ (fun _ _ => rfl) (Ok.refl _)
    clear hF
    go_simp
  · intro a' w' hF hR
    have e1 : a'.tmps[1]? = some (.int .i64 ticks) := hF.slot 1 (by kernel_rfl) rfl
    refine wpOp_run (v := .int .i64 ticks) rfl rfl ?_ (fun _ _ => rfl) (Ok.refl _)
    clear hF
    go_simp
  · intro a' w' hF hR
    have e7 : a'.tmps[7]? = some (.int .i64 tm) := hF.slot 7 (by kernel_rfl) rfl
    refine wpOp_run (v := .int .i64 tm) rfl rfl ?_ (fun _ _ => rfl) (Ok.refl _)
    clear hF
    go_simp
  · intro a' w' hF hR
    have e9 : a'.tmps[9]? = some (.bool jj) := hF.slot 9 (by kernel_rfl) rfl
    refine wpOp_run (v := .bool jj) rfl rfl ?_ (fun _ _ => rfl) (Ok.refl _)
    clear hF
    go_simp
  · intro a' w' hF hR
    obtain ⟨v10, hv10, e48⟩ := hF.get 10 48 (by kernel_rfl) (by kernel_rfl)
    obtain rfl : v10 = _ := hv10 _ (Ok.refl _)
    obtain ⟨v14, hv14, e52⟩ := hF.get 14 52 (by kernel_rfl) (by kernel_rfl)
    obtain rfl : v14 = _ := hv14 _ (Ok.refl _)
    obtain ⟨v15, hv15, e53⟩ := hF.get 15 53 (by kernel_rfl) (by kernel_rfl)
    obtain rfl : v15 = _ := hv15 _ (Ok.refl _)
    obtain ⟨v16, hv16, e54⟩ := hF.get 16 54 (by kernel_rfl) (by kernel_rfl)
    obtain rfl : v16 = _ := hv16 _ (Ok.refl _)
    obtain ⟨v17, hv17, e55⟩ := hF.get 17 55 (by kernel_rfl) (by kernel_rfl)
    obtain rfl : v17 = _ := hv17 _ (Ok.refl _)
    clear hF
    refine wpOp_call (f := 116) (args := #[clockV s.time s.set, parV p, .int .i64 ticks, .int .i64 tm, .bool jj]) rfl rfl ?_ ((KL.out _).mono ?_)
    · go_simp
    · rintro e w2 ⟨rfl, hb2⟩; exact ⟨_, rfl, fun _ _ => rfl, hb2⟩
  intro vs W' hvs hR
  have e18 : vs 18 = clockV CK true := hvs 18 (by decide) _ (Ok.refl _)
  have hZ := HZ.out _ hR
  have hok := HOK.out.trans ((Ok.refl wc).drew.trans hR)
  clear hvs HQ HZ HOK KL
  simp only [putFrom, e18]
  simp only [Act.put, List.setIfInBounds_toArray, List.set_cons_zero, List.set_cons_succ]
  have z0 := hZ.cell 0 (v := .int .i64 0) rfl
  have z1 := hZ.cell 1 (v := .bool false) rfl
  have y0 := hZ.frozen 0
  have y1 := hZ.frozen 1
  have hzl := hZ.lt
  refine wpOp_store (w' := (W'.setCell ⟨Z, 0, none⟩ (.int .i64 CK)).setCell ⟨Z, 1, none⟩ (.bool true)) rfl rfl rfl ?_ ?_
  · go_simp
  have hZ2 : Own ((W'.setCell ⟨Z, 0, none⟩ (.int .i64 CK)).setCell ⟨Z, 1, none⟩ (.bool true)) Z #[.int .i64 CK, .bool true] := ((hZ.set 0 (.int .i64 CK)).set 1 (.bool true)).as (by simp)
  have hok2 := (hok.setCell (p := ⟨Z, 0, none⟩) hwZ (.int .i64 CK)).setCell (p := ⟨Z, 1, none⟩) hwZ (.bool true)
  clear z0 z1 y0 y1 hzl hZ hok hR e18
  generalize (W'.setCell ⟨Z, 0, none⟩ (.int .i64 CK)).setCell ⟨Z, 1, none⟩ (.bool true) = W5 at hZ2 hok2 ⊢
  have z0 := hZ2.cell 0 (v := .int .i64 CK) rfl
  have z1 := hZ2.cell 1 (v := .bool true) rfl
  go_wp2_with fail
  exact bodyPost_ret (v := clockV CK true) (by simp [results, Tryz.results72, go_sem, z0, z1]) rfl ⟨rfl, hok2⟩
end Go.Proofs.YtmokofblmkeloaaGreatDoor
