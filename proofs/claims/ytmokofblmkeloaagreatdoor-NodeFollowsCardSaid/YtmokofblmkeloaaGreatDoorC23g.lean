import Derived.Test.YtmokofblmkeloaaGreatDoorC23w
import Derived.Test.YtmokofblmkeloaaGreatDoorB19
import Derived.Test.YtmokofblmkeloaaGreatDoorP36
import Derived.Deep.CutRange
namespace Go.Proofs.YtmokofblmkeloaaGreatDoor
open Go.RowKit
set_option linter.unusedVariables false
set_option maxRecDepth 100000
attribute [local go_sem ↓] Go.wp_at_zero Go.wp_at_succ
/-- What each operation leaves. -/
def VMNNew (N0 : Nat) (p : Par) (me : Int) (s t : Sta) (A : Option Addr) (cap : Nat) (w : World) (v : Value) : Nat → Prop
  | 0 => v = parV p
  | 1 => v = parV p
  | 2 => v = .agg #[.int .i64 s.lo, .int .i64 s.hi, .int .i64 s.time, .bool s.set, .int .i64 s.held, .int .i64 s.hops, .bool s.good, .slice A s.table.length cap, .int .i64 s.st, .int .i64 s.sn, .int .i64 s.life]
  | 3 => ∃ A c, v = staV (t) A c ∧ TabRow N0 w A c (t).table
  | 4 => ∃ (A2 : Option Addr) (c2 : Nat), v = .agg #[.int .i64 p.n, .int .i64 p.f, .int .i64 p.d, .int .i64 p.beat, .int .i64 p.rho, .int .i64 p.delay, .int .i64 p.jit, .int .i64 p.eps, .int .i64 p.mu, .int .i64 p.hold, .int .i64 p.pulse, .int .i64 p.sec, .int .i64 t.lo, .int .i64 t.hi, .int .i64 t.time, .bool t.set, .int .i64 t.held, .int .i64 t.hops, .bool t.good, .slice A2 t.table.length c2, .int .i64 t.st, .int .i64 t.sn, .int .i64 t.life] ∧ TabRow N0 w A2 c2 t.table
  | 5 => v = .int .i64 me
  | 6 => ∃ (tt b : Nat), v = .pointer (some ⟨tt, 0, none⟩) ∧ TabM w tt b Mem.nobody ∧ N0 ≤ tt ∧ N0 ≤ b
  | 7 => ∃ (A2 : Option Addr) (c2 tt b : Nat), v = .agg #[.int .i64 p.n, .int .i64 p.f, .int .i64 p.d, .int .i64 p.beat, .int .i64 p.rho, .int .i64 p.delay, .int .i64 p.jit, .int .i64 p.eps, .int .i64 p.mu, .int .i64 p.hold, .int .i64 p.pulse, .int .i64 p.sec, .int .i64 t.lo, .int .i64 t.hi, .int .i64 t.time, .bool t.set, .int .i64 t.held, .int .i64 t.hops, .bool t.good, .slice A2 t.table.length c2, .int .i64 t.st, .int .i64 t.sn, .int .i64 t.life, .int .i64 me, .pointer (some ⟨tt, 0, none⟩)] ∧ TabRow N0 w A2 c2 t.table ∧ TabM w tt b Mem.nobody ∧ N0 ≤ tt ∧ N0 ≤ b
  | 8 => ∃ (g : Nat) (A2 : Option Addr) (c2 tt b : Nat), v = .pointer (some ⟨g, 0, none⟩) ∧ NodeAt w g tt b me p t A2 c2 Mem.nobody ∧ TabRow N0 w A2 c2 t.table ∧ (N0 ≤ g ∧ N0 ≤ tt ∧ N0 ≤ b) ∧ (∀ a, A2 = some a → a.block ≠ g)
  | 9 => ∃ (g : Nat) (A2 : Option Addr) (c2 tt b : Nat), v = .pointer (some ⟨g, 0, none⟩) ∧ NodeAt w g tt b me p t A2 c2 Mem.nobody ∧ TabRow N0 w A2 c2 t.table ∧ (N0 ≤ g ∧ N0 ≤ tt ∧ N0 ≤ b) ∧ (∀ a, A2 = some a → a.block ≠ g)
  | _ => v = .bool true
/-- It stays so. -/
def VCNNew (N0 : Nat) (p : Par) (me : Int) (s t : Sta) (A : Option Addr) (cap : Nat) (i : Nat) (v : Value) (w : World) : Prop := ∀ w', Ok w w' → VMNNew N0 p me s t A cap w' v i
set_option maxHeartbeats 3200000 in
theorem nodeNew (p : Par) (me : Int) (s : Sta) (A : Option Addr) (cap : Nat) (w : World) (hA : PairsAt w A s.table) (hl : s.table.length ≤ 9223372036854775807) : Calls Tryz.prog 10 #[parV p, .int .i64 me, staV s A cap] w fun e w' => ∃ (G tt b : Nat) (A2 : Option Addr) (c2 : Nat), e = .returned (.pointer (some ⟨G, 0, none⟩)) ∧ NodeAt w' G tt b me p (Health.sane p s) A2 c2 Mem.nobody ∧ TabRow w.heap.size w' A2 c2 (Health.sane p s).table ∧ (w.heap.size ≤ G ∧ w.heap.size ≤ tt ∧ w.heap.size ≤ b) ∧ (∀ a, A2 = some a → a.block ≠ G) ∧ Ok w w' := by
  obtain ⟨t, ht⟩ : ∃ y, Health.sane p s = y := ⟨_, rfl⟩
  rw [ht]
  have HT := Lib.hid ht
  have hP := (Own.new w (parCells p) 23 rfl).alloc (.cells (staCells s A cap) 30)
  have hS := Own.new (w.alloc (.cells (parCells p) 23)) (staCells s A cap) 30 (g := w.heap.size + 1) (by simp)
  have hok := ((Ok.refl w).alloc (.cells (parCells p) 23)).alloc (.cells (staCells s A cap) 30)
  unfold staV
  go_enter Tryz.func10, Tryz.ntmps10
  go_upto_region 1 with fail
  change Code.wp _ _ _ _ ((w.alloc (.cells (parCells p) 23)).alloc (.cells (staCells s A cap) 30))
  generalize (w.alloc (.cells (parCells p) 23)).alloc (.cells (staCells s A cap) 30) = W at hP hS hok ⊢
  obtain ⟨BS, hBS⟩ : ∃ y, w.heap.size + 1 = y := ⟨_, rfl⟩
  obtain ⟨BP, hBP⟩ : ∃ y, w.heap.size = y := ⟨_, rfl⟩
  rw [hBS] at hS
  rw [hBP] at hP
  rw [hBS, hBP]
  have hA2 := hA.below hok
  obtain ⟨N0, hN0⟩ : ∃ y, W.drew.heap.size = y := ⟨_, rfl⟩
  have HN := Lib.hid hN0
  have HNW : Hid (w.heap.size ≤ N0) := Lib.hid (hN0 ▸ hok.size)
  have HP := Lib.hid fun W' (k : Ok W.drew W') => hP.drew.next k
  have HS := Lib.hid fun W' (k : Ok W.drew W') => hS.drew.next k
  have KS := Lib.hid fun W' (k : Ok W.drew W') => show Calls Tryz.prog 21 #[parV p, staV s A cap] W' (SaneEnd W' t) from ht ▸ healthSane p s A cap W' (hA2.below ((Ok.refl W).drew.trans k)) hl
  unfold staV at KS
  have HOK := Lib.hid hok
  clear hP hS hok hA2 hN0 hBS hBP ht hA hl
  refine wp_region_facts (by kernel_rfl) 16 rfl (VCNNew N0 p me s t A cap) Ok (by kernel_rfl) (fun i v w w' h k w'' k' => h w'' (k.trans k')) (fun a b c => Ok.trans) (Ok.refl _) [some 7, some 8, some 9, some 10, some 11, some 12, some 13, some 14, some 15, some 6] rfl 10 rfl ⟨?_, ?_, ?_, ?_, ?_, ?_, ?_, ?_, ?_, ?_, trivial⟩ ?_
  · intro a' w' hF hR
    have e3 : a'.tmps[3]? = some (.pointer (some ⟨BP, 0, none⟩)) := hF.slot 3 (by kernel_rfl) rfl
    obtain ⟨p0, p1, p2, p3, p4, p5, p6, p7, p8, p9, p10, p11⟩ := (HP.out _ hR).pars
    have hpl := (HP.out _ hR).lt
    refine wpOp_run (v := parV p) rfl rfl ?_ (fun _ _ => rfl) (Ok.refl _)
    clear hF
    go_simp
  · intro a' w' hF hR
    have e3 : a'.tmps[3]? = some (.pointer (some ⟨BP, 0, none⟩)) := hF.slot 3 (by kernel_rfl) rfl
    obtain ⟨p0, p1, p2, p3, p4, p5, p6, p7, p8, p9, p10, p11⟩ := (HP.out _ hR).pars
    have hpl := (HP.out _ hR).lt
    refine wpOp_run (v := parV p) rfl rfl ?_ (fun _ _ => rfl) (Ok.refl _)
    clear hF
    go_simp
  · intro a' w' hF hR
    have e5 : a'.tmps[5]? = some (.pointer (some ⟨BS, 0, none⟩)) := hF.slot 5 (by kernel_rfl) rfl
    obtain ⟨s0, s1, s2, s3, s4, s5, s6, s7, s8, s9, s10⟩ := (HS.out _ hR).sta
    have hsl := (HS.out _ hR).lt
    refine wpOp_run (v := .agg #[.int .i64 s.lo, .int .i64 s.hi, .int .i64 s.time, .bool s.set, .int .i64 s.held, .int .i64 s.hops, .bool s.good, .slice A s.table.length cap, .int .i64 s.st, .int .i64 s.sn, .int .i64 s.life]) rfl rfl ?_ (fun _ _ => rfl) (Ok.refl _)
    clear hF
    go_simp
  · intro a' w' hF hR
    obtain ⟨v1, hv1, e8⟩ := hF.get 1 8 (by kernel_rfl) (by kernel_rfl)
    obtain rfl : v1 = _ := hv1 _ (Ok.refl _)
    obtain ⟨v2, hv2, e9⟩ := hF.get 2 9 (by kernel_rfl) (by kernel_rfl)
    obtain rfl : v2 = _ := hv2 _ (Ok.refl _)
    have hbase := (HN.out ▸ hR.size : N0 ≤ w'.heap.size)
    clear hF
    refine wpOp_call (f := 21) (args := #[parV p, .agg #[.int .i64 s.lo, .int .i64 s.hi, .int .i64 s.time, .bool s.set, .int .i64 s.held, .int .i64 s.hops, .bool s.good, .slice A s.table.length cap, .int .i64 s.st, .int .i64 s.sn, .int .i64 s.life]]) rfl rfl ?_ ((KS.out _ hR).mono ?_)
    · go_simp
    · rintro e w2 ⟨A2, c2, rfl, hI2, hb2⟩; exact ⟨_, rfl, fun w3 k => ⟨A2, c2, rfl, (hI2.mono hbase).next k⟩, hb2⟩
  · intro a' w' hF hR
    obtain ⟨v0, hv0, e7⟩ := hF.get 0 7 (by kernel_rfl) (by kernel_rfl)
    obtain rfl : v0 = _ := hv0 _ (Ok.refl _)
    obtain ⟨v3, hv3, e10⟩ := hF.get 3 10 (by kernel_rfl) (by kernel_rfl)
    obtain ⟨A2, c2, rfl, hT3⟩ := hv3 _ (Ok.refl _)
    unfold staV at e10
    refine wpOp_run (v := .agg #[.int .i64 p.n, .int .i64 p.f, .int .i64 p.d, .int .i64 p.beat, .int .i64 p.rho, .int .i64 p.delay, .int .i64 p.jit, .int .i64 p.eps, .int .i64 p.mu, .int .i64 p.hold, .int .i64 p.pulse, .int .i64 p.sec, .int .i64 t.lo, .int .i64 t.hi, .int .i64 t.time, .bool t.set, .int .i64 t.held, .int .i64 t.hops, .bool t.good, .slice A2 t.table.length c2, .int .i64 t.st, .int .i64 t.sn, .int .i64 t.life]) rfl rfl ?_ (fun w'' k => ⟨A2, c2, rfl, hT3.next k⟩) (Ok.refl _)
    clear hF
    go_simp
  · intro a' w' hF hR
    have e1 : a'.tmps[1]? = some (.int .i64 me) := hF.slot 1 (by kernel_rfl) rfl
    refine wpOp_run (v := .int .i64 me) rfl rfl ?_ (fun _ _ => rfl) (Ok.refl _)
    clear hF
    go_simp
  · intro a' w' hF hR
    have hN0 : N0 ≤ w'.heap.size := HN.out ▸ hR.size
    clear hF
    refine wpOp_call (f := 27) (args := #[]) rfl rfl ?_ ((memNew w').mono ?_)
    · go_simp
    · rintro e w2 ⟨rfl, hb2, hT2⟩; exact ⟨_, rfl, fun w3 k => ⟨_, _, rfl, hT2.next k, by omega, hN0⟩, hb2⟩
  · intro a' w' hF hR
    obtain ⟨v4, hv4, e11⟩ := hF.get 4 11 (by kernel_rfl) (by kernel_rfl)
    obtain ⟨v5, hv5, e12⟩ := hF.get 5 12 (by kernel_rfl) (by kernel_rfl)
    obtain rfl : v5 = _ := hv5 _ (Ok.refl _)
    obtain ⟨v6, hv6, e13⟩ := hF.get 6 13 (by kernel_rfl) (by kernel_rfl)
    obtain ⟨A2, c2, rfl, hT3⟩ := hv4 _ (Ok.refl _)
    obtain ⟨tt, b, rfl, hTM, hb1, hb2⟩ := hv6 _ (Ok.refl _)
    refine wpOp_run (v := .agg #[.int .i64 p.n, .int .i64 p.f, .int .i64 p.d, .int .i64 p.beat, .int .i64 p.rho, .int .i64 p.delay, .int .i64 p.jit, .int .i64 p.eps, .int .i64 p.mu, .int .i64 p.hold, .int .i64 p.pulse, .int .i64 p.sec, .int .i64 t.lo, .int .i64 t.hi, .int .i64 t.time, .bool t.set, .int .i64 t.held, .int .i64 t.hops, .bool t.good, .slice A2 t.table.length c2, .int .i64 t.st, .int .i64 t.sn, .int .i64 t.life, .int .i64 me, .pointer (some ⟨tt, 0, none⟩)]) rfl rfl ?_ (fun w'' k => ⟨A2, c2, tt, b, rfl, hT3.next k, hTM.next k, hb1, hb2⟩) (Ok.refl _)
    clear hF
    go_simp
  · intro a' w' hF hR
    obtain ⟨v7, hv7, e14⟩ := hF.get 7 14 (by kernel_rfl) (by kernel_rfl)
    obtain ⟨A2, c2, tt, b, rfl, hT3, hTM, hb1, hb2⟩ := hv7 _ (Ok.refl _)
    have hne : ∀ a, A2 = some a → a.block ≠ w'.heap.size := fun a ha => by subst ha; exact Nat.ne_of_lt (World.ownsRow.lt hT3 _ rfl).2
    have htl := hTM.lt
    have hn0 : N0 ≤ w'.heap.size := HN.out ▸ hR.size
    refine wpOp_run (v := .pointer (some ⟨w'.heap.size, 0, none⟩)) (w' := w'.alloc (.cells #[.int .i64 p.n, .int .i64 p.f, .int .i64 p.d, .int .i64 p.beat, .int .i64 p.rho, .int .i64 p.delay, .int .i64 p.jit, .int .i64 p.eps, .int .i64 p.mu, .int .i64 p.hold, .int .i64 p.pulse, .int .i64 p.sec, .int .i64 t.lo, .int .i64 t.hi, .int .i64 t.time, .bool t.set, .int .i64 t.held, .int .i64 t.hops, .bool t.good, .slice A2 t.table.length c2, .int .i64 t.st, .int .i64 t.sn, .int .i64 t.life, .int .i64 me, .pointer (some ⟨tt, 0, none⟩)] 43)) rfl rfl ?_ (fun w'' k => ⟨_, A2, c2, tt, b, rfl, (⟨Own.new w' (nodeCells me tt p t A2 c2) 43 rfl, hTM.next ((Ok.refl _).alloc _), Mem.Good.nobody, by omega⟩ : NodeAt _ _ tt b me p t A2 c2 Mem.nobody).next k, (TabRow.next hT3 ((Ok.refl _).alloc _)).next k, ⟨hn0, hb1, hb2⟩, hne⟩) ((Ok.refl _).alloc _)
    clear hF
    go_simp
  · intro a' w' hF hR
    obtain ⟨v8, hv8, e15⟩ := hF.get 8 15 (by kernel_rfl) (by kernel_rfl)
    obtain ⟨g, A2, c2, tt, b, rfl, hO3, hT3, hg3, hne3⟩ := hv8 _ (Ok.refl _)
    refine wpOp_run (v := .pointer (some ⟨g, 0, none⟩)) rfl rfl ?_ (fun w'' k => ⟨g, A2, c2, tt, b, rfl, hO3.next k, hT3.next k, hg3, hne3⟩) (Ok.refl _)
    clear hF
    go_simp
  intro vs w2 hV hR
  obtain ⟨g, A2, c2, tt, b, e9, hO, hT, hg, hne⟩ := hV 9 (by decide) _ (Ok.refl _)
  have hok2 := (HOK.out.trans (Ok.refl W).drew).trans hR
  have hnw := HNW.out
  clear hV HP HS KS HN
  simp only [putFrom, e9]
  simp only [Act.put, List.setIfInBounds_toArray, List.set_cons_zero, List.set_cons_succ]
  generalize vs 0 = x20
  generalize vs 1 = x21
  generalize vs 2 = x22
  generalize vs 3 = x23
  generalize vs 4 = x24
  generalize vs 5 = x25
  generalize vs 6 = x26
  generalize vs 7 = x27
  generalize vs 8 = x28
  clear hR e9 vs
  go_wp2_with fail
  go_ret
  exact ⟨g, tt, b, A2, c2, rfl, hO, hT.mono hnw, ⟨Nat.le_trans hnw hg.1, Nat.le_trans hnw hg.2.1, Nat.le_trans hnw hg.2.2⟩, hne, hok2⟩
theorem nodeNear (G t b : Nat) (me : Int) (p : Par) (s : Sta) (A : Option Addr) (cap : Nat) (f : NF) (w : World) (hN : NodeAt w G t b me p s A cap f) :
    Calls Tryz.prog 17 #[.pointer (some ⟨G, 0, none⟩)] w (NearEnd (Mem.nums f) w) := by
  have K := Lib.hid (memNear t b f w hN.tab hN.good)
  have cn := hN.cNear
  have hgl := hN.lt.1
  clear hN
  go_enter Tryz.func17, Tryz.ntmps17
  go_wp2_with (go_at_call 44; (with_reducible refine (K.out).mono ?_); rintro e w1 ⟨C, c, rfl, hI, hC, hb1⟩)
  go_ret
  exact ⟨C, c, rfl, hI, hC, hb1⟩
end Go.Proofs.YtmokofblmkeloaaGreatDoor
