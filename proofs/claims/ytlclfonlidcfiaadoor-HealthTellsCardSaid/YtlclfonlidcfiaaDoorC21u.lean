/- Contracts of layer 21: the Front's UTC and Pulse, the document's UTC; what a nil Front tells. -/
import Derived.Test.YtlclfonlidcfiaaDoorCP
import Derived.Test.YtlclfonlidcfiaaDoorC18c
import Derived.Test.YtlclfonlidcfiaaDoorC18e
import Derived.Test.YtlclfonlidcfiaaDoorC13a
namespace Go.Proofs.YtlclfonlidcfiaaDoor
open Go.RowKit
set_option linter.unusedVariables false
set_option maxRecDepth 100000
attribute [local go_sem ↓] Go.wp_at_zero Go.wp_at_succ
/-- The label of a state's time, and the error. -/
noncomputable def Health.utc (p : Par) (s : Sta) : Leap.Lb × Int := if Health.of p s = 0 then (lb0, 20) else Leap.toL s.table (Sat.clip s.time / Wide.one p.sec)
/-- What each operation leaves. -/
def VMPulP (G : Nat) (p : Par) (s : Sta) (m : Int) (w : World) (v : Value) : Nat → Prop
  | 0 => v = .pointer (some ⟨G, 0, none⟩)
  | 1 => v = .pointer (some ⟨G, 0, none⟩)
  | 2 => v = .pointer (some ⟨G, 0, none⟩)
  | 3 => v = parV p
  | 4 => v = .pointer (some ⟨G, 0, none⟩)
  | 5 => v = .pointer (some ⟨G, 0, none⟩)
  | 6 => v = .pointer (some ⟨G, 12, none⟩)
  | 7 => v = .pointer (some ⟨G, 14, none⟩)
  | 8 => v = .int .i64 s.time
  | 9 => v = .int .i64 m
  | 10 => v = .int .i64 m
  | 11 => v = .int .i64 0
  | _ => v = .bool true
/-- It stays so. -/
def VCPulP (G : Nat) (p : Par) (s : Sta) (m : Int) (i : Nat) (v : Value) (w : World) : Prop := ∀ w', Ok w w' → VMPulP G p s m w' v i
theorem frontPulse (G : Nat) (p : Par) (s : Sta) (A : Option Addr) (cap : Nat) (w : World) (hO : Own w G (frontCells p s A cap)) : Calls Tryd.prog 11 #[.pointer (some ⟨G, 0, none⟩)] w fun e w' => e = .returned (.tuple #[.int .i64 (if Health.of p s = 0 then 0 else Pulse.num p.pulse s.time), .int .i64 (if Health.of p s = 0 then 20 else 0)]) ∧ Ok w w' := by
  have hok := Ok.refl w
  have KR := Lib.hid fun w h => frontReady G p s A cap w h
  have KN := Lib.hid fun w => pulseNumber p s.time w
  generalize Pulse.num p.pulse s.time = m at KN ⊢
  generalize Health.of p s = h at KR ⊢
  by_cases j : h = 0
  · simp only [if_pos j] at KR ⊢
    clear j
    go_enter Tryd.func11, Tryd.ntmps11
    go_wp2_with (go_at_call 19; refine (KR.out _ hO).mono ?_; rintro e w1 ⟨rfl, hb1⟩; replace hO := hO.next hb1; replace hok := hok.trans hb1; clear hb1; obtain ⟨s0, s1, s2, s3, s4, s5, s6, s7, s8, s9, s10⟩ := hO.frS; have hgl := hO.lt)
    go_ret2
    exact ⟨rfl, hok⟩
  · simp only [if_neg j] at KR ⊢
    clear j
    go_enter Tryd.func11, Tryd.ntmps11
    go_upto_region 4 with (go_at_call 19; refine (KR.out _ hO).mono ?_; rintro e w1 ⟨rfl, hb1⟩; replace hO := hO.next hb1; replace hok := hok.trans hb1; clear hb1; obtain ⟨s0, s1, s2, s3, s4, s5, s6, s7, s8, s9, s10⟩ := hO.frS; have hgl := hO.lt)
    clear s0 s1 s2 s3 s4 s5 s6 s7 s8 s9 s10 hgl
    have HOK := Lib.hid hok
    have HQ := Lib.hid fun W' (k : Ok w1.drew W') => hO.drew.next k
    clear hO hok
    refine wp_region_facts (by kernel_rfl) 20 rfl (VCPulP G p s m) Ok (by kernel_rfl) (fun i v w w' h k w'' k' => h w'' (k.trans k')) (fun a b c => Ok.trans) (Ok.refl _) [some 10, some 11, some 12, some 13, some 14, some 15, some 16, some 17, some 18, some 19, some 2, some 3] rfl 12 rfl ⟨?_, ?_, ?_, ?_, ?_, ?_, ?_, ?_, ?_, ?_, ?_, ?_, trivial⟩ ?_
    · intro a' w' hF hR
      have e0 : a'.tmps[0]? = some (.pointer (some ⟨G, 0, none⟩)) := hF.slot 0 (by kernel_rfl) rfl
      refine wpOp_run (v := .pointer (some ⟨G, 0, none⟩)) rfl rfl ?_ (fun _ _ => rfl) (Ok.refl _)
      clear hF
      go_simp
    · intro a' w' hF hR
      obtain ⟨v0, hv0, e10⟩ := hF.get 0 10 (by kernel_rfl) (by kernel_rfl)
      obtain rfl : v0 = _ := hv0 _ (Ok.refl _)
      refine wpOp_run (v := .pointer (some ⟨G, 0, none⟩)) rfl rfl ?_ (fun _ _ => rfl) (Ok.refl _)
      clear hF
      go_simp
    · intro a' w' hF hR
      obtain ⟨v1, hv1, e11⟩ := hF.get 1 11 (by kernel_rfl) (by kernel_rfl)
      obtain rfl : v1 = _ := hv1 _ (Ok.refl _)
      refine wpOp_run (v := .pointer (some ⟨G, 0, none⟩)) rfl rfl ?_ (fun _ _ => rfl) (Ok.refl _)
      clear hF
      go_simp
    · intro a' w' hF hR
      obtain ⟨v2, hv2, e12⟩ := hF.get 2 12 (by kernel_rfl) (by kernel_rfl)
      obtain rfl : v2 = _ := hv2 _ (Ok.refl _)
      obtain ⟨c0, c1, c2, c3, c4, c5, c6, c7, c8, c9, c10, c11⟩ := (HQ.out _ hR).frP
      have hgl := (HQ.out _ hR).lt
      refine wpOp_run (v := parV p) rfl rfl ?_ (fun _ _ => rfl) (Ok.refl _)
      clear hF
      go_simp
    · intro a' w' hF hR
      have e0 : a'.tmps[0]? = some (.pointer (some ⟨G, 0, none⟩)) := hF.slot 0 (by kernel_rfl) rfl
      refine wpOp_run (v := .pointer (some ⟨G, 0, none⟩)) rfl rfl ?_ (fun _ _ => rfl) (Ok.refl _)
      clear hF
      go_simp
    · intro a' w' hF hR
      obtain ⟨v4, hv4, e14⟩ := hF.get 4 14 (by kernel_rfl) (by kernel_rfl)
      obtain rfl : v4 = _ := hv4 _ (Ok.refl _)
      refine wpOp_run (v := .pointer (some ⟨G, 0, none⟩)) rfl rfl ?_ (fun _ _ => rfl) (Ok.refl _)
      clear hF
      go_simp
    · intro a' w' hF hR
      obtain ⟨v5, hv5, e15⟩ := hF.get 5 15 (by kernel_rfl) (by kernel_rfl)
      obtain rfl : v5 = _ := hv5 _ (Ok.refl _)
      refine wpOp_run (v := .pointer (some ⟨G, 12, none⟩)) rfl rfl ?_ (fun _ _ => rfl) (Ok.refl _)
      clear hF
      go_simp
    · intro a' w' hF hR
      obtain ⟨v6, hv6, e16⟩ := hF.get 6 16 (by kernel_rfl) (by kernel_rfl)
      obtain rfl : v6 = _ := hv6 _ (Ok.refl _)
      refine wpOp_run (v := .pointer (some ⟨G, 14, none⟩)) rfl rfl ?_ (fun _ _ => rfl) (Ok.refl _)
      clear hF
      go_simp
    · intro a' w' hF hR
      obtain ⟨v7, hv7, e17⟩ := hF.get 7 17 (by kernel_rfl) (by kernel_rfl)
      obtain rfl : v7 = _ := hv7 _ (Ok.refl _)
      obtain ⟨s0, s1, s2, s3, s4, s5, s6, s7, s8, s9, s10⟩ := (HQ.out _ hR).frS
      have hgl := (HQ.out _ hR).lt
      refine wpOp_run (v := .int .i64 s.time) rfl rfl ?_ (fun _ _ => rfl) (Ok.refl _)
      clear hF
      go_simp
    · intro a' w' hF hR
      obtain ⟨v3, hv3, e13⟩ := hF.get 3 13 (by kernel_rfl) (by kernel_rfl)
      obtain rfl : v3 = _ := hv3 _ (Ok.refl _)
      obtain ⟨v8, hv8, e18⟩ := hF.get 8 18 (by kernel_rfl) (by kernel_rfl)
      obtain rfl : v8 = _ := hv8 _ (Ok.refl _)
      clear hF
      refine wpOp_call (f := 25) (args := #[parV p, .int .i64 s.time]) rfl rfl ?_ ((KN.out _).mono ?_)
      · go_simp
      · rintro e w2 ⟨rfl, hb2⟩; exact ⟨_, rfl, fun _ _ => rfl, hb2⟩
    · intro a' w' hF hR
      obtain ⟨v9, hv9, e19⟩ := hF.get 9 19 (by kernel_rfl) (by kernel_rfl)
      obtain rfl : v9 = _ := hv9 _ (Ok.refl _)
      refine wpOp_run (v := .int .i64 m) rfl rfl ?_ (fun _ _ => rfl) (Ok.refl _)
      clear hF
      go_simp
    · intro a' w' hF hR
      refine wpOp_run (v := .int .i64 0) rfl rfl ?_ (fun _ _ => rfl) (Ok.refl _)
      clear hF
      go_simp
    intro vs w2 hV hR
    have e10 : vs 10 = .int .i64 m := hV 10 (by decide) _ (Ok.refl _)
    have e11 : vs 11 = .int .i64 0 := hV 11 (by decide) _ (Ok.refl _)
    have hok2 := HOK.out.trans ((Ok.refl w1).drew.trans hR)
    clear hV HQ HOK KN KR
    simp only [putFrom, e10, e11]
    simp only [Act.put, List.setIfInBounds_toArray, List.set_cons_zero, List.set_cons_succ]
    go_wp2
    go_ret2
    exact ⟨rfl, hok2⟩
/-- What each operation leaves. -/
def VMUtcP (G : Nat) (p : Par) (s : Sta) (c rm : Int) (w : World) (v : Value) : Nat → Prop
  | 0 => v = .pointer (some ⟨G, 0, none⟩)
  | 1 => v = .pointer (some ⟨G, 0, none⟩)
  | 2 => v = .pointer (some ⟨G, 12, none⟩)
  | 3 => v = .pointer (some ⟨G, 14, none⟩)
  | 4 => v = .int .i64 s.time
  | 5 => v = .pointer (some ⟨G, 0, none⟩)
  | 6 => v = .pointer (some ⟨G, 0, none⟩)
  | 7 => v = .pointer (some ⟨G, 0, none⟩)
  | 8 => v = .pointer (some ⟨G, 11, none⟩)
  | 9 => v = .int .i64 p.sec
  | 10 => v = .tuple #[.int .i64 c, .int .i64 rm]
  | 11 => v = .tuple #[.int .i64 c, .int .i64 rm]
  | 12 => v = .int .i64 c
  | 13 => v = .int .i64 rm
  | 14 => v = .int .i64 c
  | 15 => v = .int .i64 rm
  | _ => v = .bool true
/-- It stays so. -/
def VCUtcP (G : Nat) (p : Par) (s : Sta) (c rm : Int) (i : Nat) (v : Value) (w : World) : Prop := ∀ w', Ok w w' → VMUtcP G p s c rm w' v i
set_option maxHeartbeats 1600000 in
theorem frontUTC (G : Nat) (p : Par) (s : Sta) (A : Option Addr) (cap : Nat) (w : World) (hT : Tab w) (hA : PairsAt w A s.table) (hl : s.table.length ≤ 9223372036854775807) (hO : Own w G (frontCells p s A cap)) : Calls Tryd.prog 9 #[.pointer (some ⟨G, 0, none⟩)] w fun e w' => e = .returned (.tuple #[lbV (Health.utc p s).1, .int .i64 (Health.utc p s).2]) ∧ Ok w w' := by
  have KR := Lib.hid fun w h => frontReady G p s A cap w h
  have KD := Lib.hid fun w => wideDiv s.time p.sec w
  have KL := Lib.hid fun w hT h => leapToLabel A s.table cap (Sat.clip s.time / Wide.one p.sec) w hT h hl
  unfold Health.utc
  generalize Leap.toL s.table (Sat.clip s.time / Wide.one p.sec) = X at KL ⊢
  obtain ⟨⟨y, mo, dd, hh, mi, sc⟩, q⟩ := X
  unfold lbV at KL
  simp only at KL
  generalize Sat.clip s.time / Wide.one p.sec = c at KL KD
  generalize Sat.clip s.time % Wide.one p.sec = rm at KD
  generalize Health.of p s = h at KR ⊢
  clear hl
  have hok := (Ok.refl w).alloc (.cells #[.int .i64 0, .int .i64 0, .int .i64 0, .int .i64 0, .int .i64 0, .int .i64 0] 43)
  have hZ := Own.new w #[.int .i64 0, .int .i64 0, .int .i64 0, .int .i64 0, .int .i64 0, .int .i64 0] 43 rfl
  replace hT := hT.next hok
  replace hA := hA.below hok
  replace hO := hO.alloc (.cells #[.int .i64 0, .int .i64 0, .int .i64 0, .int .i64 0, .int .i64 0, .int .i64 0] 43)
  by_cases j : h = 0
  · simp only [if_pos j] at KR ⊢
    clear j
    go_enter Tryd.func9, Tryd.ntmps9
    go_upto_region 1 with fail
    change Code.wp _ _ _ _ (w.alloc (.cells #[.int .i64 0, .int .i64 0, .int .i64 0, .int .i64 0, .int .i64 0, .int .i64 0] 43))
    generalize w.alloc (.cells #[.int .i64 0, .int .i64 0, .int .i64 0, .int .i64 0, .int .i64 0, .int .i64 0] 43) = W at hO hZ hok hT hA ⊢
    obtain ⟨Z, hZe⟩ : ∃ r, w.heap.size = r := ⟨_, rfl⟩
    have hwZ : w.heap.size ≤ Z := by omega
    rw [hZe] at hZ ⊢
    clear hZe
    go_upto_if 10 with (go_at_call 19; refine (KR.out _ hO).mono ?_; rintro e w1 ⟨rfl, hb1⟩; replace hO := hO.next hb1; replace hok := hok.trans hb1; replace hZ := hZ.next hb1; replace hT := hT.next hb1; replace hA := hA.below hb1; clear hb1; obtain ⟨s0, s1, s2, s3, s4, s5, s6, s7, s8, s9, s10⟩ := hO.frS; have hgl := hO.lt)
    clear s0 s1 s2 s3 s4 s5 s6 s7 s8 s9 s10 hgl
    obtain ⟨z0, z1, z2, z3, z4, z5⟩ : (w1).cell? ⟨Z, 0, none⟩ = some (.int .i64 0) ∧ (w1).cell? ⟨Z, 1, none⟩ = some (.int .i64 0) ∧ (w1).cell? ⟨Z, 2, none⟩ = some (.int .i64 0) ∧ (w1).cell? ⟨Z, 3, none⟩ = some (.int .i64 0) ∧ (w1).cell? ⟨Z, 4, none⟩ = some (.int .i64 0) ∧ (w1).cell? ⟨Z, 5, none⟩ = some (.int .i64 0) := ⟨hZ.cell 0 rfl, hZ.cell 1 rfl, hZ.cell 2 rfl, hZ.cell 3 rfl, hZ.cell 4 rfl, hZ.cell 5 rfl⟩; obtain ⟨y0, y1, y2, y3, y4, y5⟩ : (w1).frozen? ⟨Z, 0, none⟩ = false ∧ (w1).frozen? ⟨Z, 1, none⟩ = false ∧ (w1).frozen? ⟨Z, 2, none⟩ = false ∧ (w1).frozen? ⟨Z, 3, none⟩ = false ∧ (w1).frozen? ⟨Z, 4, none⟩ = false ∧ (w1).frozen? ⟨Z, 5, none⟩ = false := ⟨hZ.frozen 0, hZ.frozen 1, hZ.frozen 2, hZ.frozen 3, hZ.frozen 4, hZ.frozen 5⟩; have hzl := hZ.lt
    go_wp2_with fail
    have hX := hZ.six (.int .i64 0) (.int .i64 0) (.int .i64 0) (.int .i64 0) (.int .i64 0) (.int .i64 0)
    have hok3 := hok.six hwZ (.int .i64 0) (.int .i64 0) (.int .i64 0) (.int .i64 0) (.int .i64 0) (.int .i64 0)
    clear z0 z1 z2 z3 z4 z5 y0 y1 y2 y3 y4 y5 hzl
    generalize ((((((w1.setCell ⟨Z, 0, none⟩ (.int .i64 0)).setCell ⟨Z, 1, none⟩ (.int .i64 0)).setCell ⟨Z, 2, none⟩ (.int .i64 0)).setCell ⟨Z, 3, none⟩ (.int .i64 0)).setCell ⟨Z, 4, none⟩ (.int .i64 0)).setCell ⟨Z, 5, none⟩ (.int .i64 0)) = W9 at hX hok3 ⊢
    exact bodyPost_ret (v := .tuple #[lbV lb0, .int .i64 20]) (by simp [results, Tryd.results9, go_sem, lbV, lb0, hX.cell 0 rfl, hX.cell 1 rfl, hX.cell 2 rfl, hX.cell 3 rfl, hX.cell 4 rfl, hX.cell 5 rfl]) rfl ⟨rfl, hok3⟩
  · simp only [if_neg j] at KR ⊢
    clear j
    go_enter Tryd.func9, Tryd.ntmps9
    go_upto_region 1 with fail
    change Code.wp _ _ _ _ (w.alloc (.cells #[.int .i64 0, .int .i64 0, .int .i64 0, .int .i64 0, .int .i64 0, .int .i64 0] 43))
    generalize w.alloc (.cells #[.int .i64 0, .int .i64 0, .int .i64 0, .int .i64 0, .int .i64 0, .int .i64 0] 43) = W at hO hZ hok hT hA ⊢
    obtain ⟨Z, hZe⟩ : ∃ r, w.heap.size = r := ⟨_, rfl⟩
    have hwZ : w.heap.size ≤ Z := by omega
    rw [hZe] at hZ ⊢
    clear hZe
    go_upto_region 4 with (go_at_call 19; refine (KR.out _ hO).mono ?_; rintro e w1 ⟨rfl, hb1⟩; replace hO := hO.next hb1; replace hok := hok.trans hb1; replace hZ := hZ.next hb1; replace hT := hT.next hb1; replace hA := hA.below hb1; clear hb1; obtain ⟨s0, s1, s2, s3, s4, s5, s6, s7, s8, s9, s10⟩ := hO.frS; have hgl := hO.lt)
    clear s0 s1 s2 s3 s4 s5 s6 s7 s8 s9 s10 hgl
    have HOK := Lib.hid hok
    have HQ := Lib.hid fun W' (k : Ok w1.drew W') => hO.drew.next k
    have HZ := Lib.hid fun W' (k : Ok w1.drew W') => hZ.drew.next k
    have HT := Lib.hid fun W' (k : Ok w1.drew W') => hT.next ((Ok.refl w1).drew.trans k)
    have HA := Lib.hid fun W' (k : Ok w1.drew W') => hA.below ((Ok.refl w1).drew.trans k)
    clear hO hok hZ hT hA
    refine wp_region_facts (by kernel_rfl) 36 rfl (VCUtcP G p s c rm) Ok (by kernel_rfl) (fun i v w w' h k w'' k' => h w'' (k.trans k')) (fun a b c => Ok.trans) (Ok.refl _) [some 14, some 15, some 16, some 17, some 18, some 19, some 20, some 21, some 22, some 23, some 24, some 13, some 25, some 26, some 5, some 6] rfl 16 rfl ⟨?_, ?_, ?_, ?_, ?_, ?_, ?_, ?_, ?_, ?_, ?_, ?_, ?_, ?_, ?_, ?_, trivial⟩ ?_
    · intro a' w' hF hR
      have e0 : a'.tmps[0]? = some (.pointer (some ⟨G, 0, none⟩)) := hF.slot 0 (by kernel_rfl) rfl
      refine wpOp_run (v := .pointer (some ⟨G, 0, none⟩)) rfl rfl ?_ (fun _ _ => rfl) (Ok.refl _)
      clear hF
      go_simp
    · intro a' w' hF hR
      obtain ⟨v0, hv0, e14⟩ := hF.get 0 14 (by kernel_rfl) (by kernel_rfl)
      obtain rfl : v0 = _ := hv0 _ (Ok.refl _)
      refine wpOp_run (v := .pointer (some ⟨G, 0, none⟩)) rfl rfl ?_ (fun _ _ => rfl) (Ok.refl _)
      clear hF
      go_simp
    · intro a' w' hF hR
      obtain ⟨v1, hv1, e15⟩ := hF.get 1 15 (by kernel_rfl) (by kernel_rfl)
      obtain rfl : v1 = _ := hv1 _ (Ok.refl _)
      refine wpOp_run (v := .pointer (some ⟨G, 12, none⟩)) rfl rfl ?_ (fun _ _ => rfl) (Ok.refl _)
      clear hF
      go_simp
    · intro a' w' hF hR
      obtain ⟨v2, hv2, e16⟩ := hF.get 2 16 (by kernel_rfl) (by kernel_rfl)
      obtain rfl : v2 = _ := hv2 _ (Ok.refl _)
      refine wpOp_run (v := .pointer (some ⟨G, 14, none⟩)) rfl rfl ?_ (fun _ _ => rfl) (Ok.refl _)
      clear hF
      go_simp
    · intro a' w' hF hR
      obtain ⟨v3, hv3, e17⟩ := hF.get 3 17 (by kernel_rfl) (by kernel_rfl)
      obtain rfl : v3 = _ := hv3 _ (Ok.refl _)
      obtain ⟨s0, s1, s2, s3, s4, s5, s6, s7, s8, s9, s10⟩ := (HQ.out _ hR).frS
      have hgl := (HQ.out _ hR).lt
      refine wpOp_run (v := .int .i64 s.time) rfl rfl ?_ (fun _ _ => rfl) (Ok.refl _)
      clear hF
      go_simp
    · intro a' w' hF hR
      have e0 : a'.tmps[0]? = some (.pointer (some ⟨G, 0, none⟩)) := hF.slot 0 (by kernel_rfl) rfl
      refine wpOp_run (v := .pointer (some ⟨G, 0, none⟩)) rfl rfl ?_ (fun _ _ => rfl) (Ok.refl _)
      clear hF
      go_simp
    · intro a' w' hF hR
      obtain ⟨v5, hv5, e19⟩ := hF.get 5 19 (by kernel_rfl) (by kernel_rfl)
      obtain rfl : v5 = _ := hv5 _ (Ok.refl _)
      refine wpOp_run (v := .pointer (some ⟨G, 0, none⟩)) rfl rfl ?_ (fun _ _ => rfl) (Ok.refl _)
      clear hF
      go_simp
    · intro a' w' hF hR
      obtain ⟨v6, hv6, e20⟩ := hF.get 6 20 (by kernel_rfl) (by kernel_rfl)
      obtain rfl : v6 = _ := hv6 _ (Ok.refl _)
      refine wpOp_run (v := .pointer (some ⟨G, 0, none⟩)) rfl rfl ?_ (fun _ _ => rfl) (Ok.refl _)
      clear hF
      go_simp
    · intro a' w' hF hR
      obtain ⟨v7, hv7, e21⟩ := hF.get 7 21 (by kernel_rfl) (by kernel_rfl)
      obtain rfl : v7 = _ := hv7 _ (Ok.refl _)
      refine wpOp_run (v := .pointer (some ⟨G, 11, none⟩)) rfl rfl ?_ (fun _ _ => rfl) (Ok.refl _)
      clear hF
      go_simp
    · intro a' w' hF hR
      obtain ⟨v8, hv8, e22⟩ := hF.get 8 22 (by kernel_rfl) (by kernel_rfl)
      obtain rfl : v8 = _ := hv8 _ (Ok.refl _)
      obtain ⟨c0, c1, c2, c3, c4, c5, c6, c7, c8, c9, c10, c11⟩ := (HQ.out _ hR).frP
      have hgl := (HQ.out _ hR).lt
      refine wpOp_run (v := .int .i64 p.sec) rfl rfl ?_ (fun _ _ => rfl) (Ok.refl _)
      clear hF
      go_simp
    · intro a' w' hF hR
      obtain ⟨v4, hv4, e18⟩ := hF.get 4 18 (by kernel_rfl) (by kernel_rfl)
      obtain rfl : v4 = _ := hv4 _ (Ok.refl _)
      obtain ⟨v9, hv9, e23⟩ := hF.get 9 23 (by kernel_rfl) (by kernel_rfl)
      obtain rfl : v9 = _ := hv9 _ (Ok.refl _)
      clear hF
      refine wpOp_call (f := 20) (args := #[.int .i64 s.time, .int .i64 p.sec]) rfl rfl ?_ ((KD.out _).mono ?_)
      · go_simp
      · rintro e w2 ⟨rfl, hb2⟩; exact ⟨_, rfl, fun _ _ => rfl, hb2⟩
    · intro a' w' hF hR
      obtain ⟨v10, hv10, e24⟩ := hF.get 10 24 (by kernel_rfl) (by kernel_rfl)
      obtain rfl : v10 = _ := hv10 _ (Ok.refl _)
      refine wpOp_run (v := .tuple #[.int .i64 c, .int .i64 rm]) rfl rfl ?_ (fun _ _ => rfl) (Ok.refl _)
      clear hF
      go_simp
    · intro a' w' hF hR
      obtain ⟨v11, hv11, e13⟩ := hF.get 11 13 (by kernel_rfl) (by kernel_rfl)
      obtain rfl : v11 = _ := hv11 _ (Ok.refl _)
      refine wpOp_run (v := .int .i64 c) rfl rfl ?_ (fun _ _ => rfl) (Ok.refl _)
      clear hF
      go_simp
    · intro a' w' hF hR
      obtain ⟨v11, hv11, e13⟩ := hF.get 11 13 (by kernel_rfl) (by kernel_rfl)
      obtain rfl : v11 = _ := hv11 _ (Ok.refl _)
      refine wpOp_run (v := .int .i64 rm) rfl rfl ?_ (fun _ _ => rfl) (Ok.refl _)
      clear hF
      go_simp
    · intro a' w' hF hR
      obtain ⟨v12, hv12, e25⟩ := hF.get 12 25 (by kernel_rfl) (by kernel_rfl)
      obtain rfl : v12 = _ := hv12 _ (Ok.refl _)
      refine wpOp_run (v := .int .i64 c) rfl rfl ?_ (fun _ _ => rfl) (Ok.refl _)
      clear hF
      go_simp
    · intro a' w' hF hR
      obtain ⟨v13, hv13, e26⟩ := hF.get 13 26 (by kernel_rfl) (by kernel_rfl)
      obtain rfl : v13 = _ := hv13 _ (Ok.refl _)
      refine wpOp_run (v := .int .i64 rm) rfl rfl ?_ (fun _ _ => rfl) (Ok.refl _)
      clear hF
      go_simp
    intro vs w2 hV hR
    have e14 : vs 14 = .int .i64 c := hV 14 (by decide) _ (Ok.refl _)
    have hok := HOK.out.trans ((Ok.refl w1).drew.trans hR)
    have hO := HQ.out _ hR
    have hZ := HZ.out _ hR
    have hT := HT.out _ hR
    have hA := HA.out _ hR
    clear hV HQ HOK HZ HT HA KD KR
    simp only [putFrom, e14]
    simp only [Act.put, List.setIfInBounds_toArray, List.set_cons_zero, List.set_cons_succ]
    try generalize vs 0 = v0
    try generalize vs 1 = v1
    try generalize vs 2 = v2
    try generalize vs 3 = v3
    try generalize vs 4 = v4
    try generalize vs 5 = v5
    try generalize vs 6 = v6
    try generalize vs 7 = v7
    try generalize vs 8 = v8
    try generalize vs 9 = v9
    try generalize vs 10 = v10
    try generalize vs 11 = v11
    try generalize vs 12 = v12
    try generalize vs 13 = v13
    try generalize vs 14 = v14
    try generalize vs 15 = v15
    obtain ⟨s0, s1, s2, s3, s4, s5, s6, s7, s8, s9, s10⟩ := hO.frS
    have hgl := hO.lt
    go_wp2_with (go_at_call 21; refine (KL.out _ hT hA).mono ?_; rintro e w3 ⟨rfl, hb1⟩; clear s0 s1 s2 s3 s4 s5 s6 s7 s8 s9 s10 hgl hT hA; replace hZ := hZ.next hb1; replace hok := hok.trans hb1; clear hb1; obtain ⟨z0, z1, z2, z3, z4, z5⟩ : (w3).cell? ⟨Z, 0, none⟩ = some (.int .i64 0) ∧ (w3).cell? ⟨Z, 1, none⟩ = some (.int .i64 0) ∧ (w3).cell? ⟨Z, 2, none⟩ = some (.int .i64 0) ∧ (w3).cell? ⟨Z, 3, none⟩ = some (.int .i64 0) ∧ (w3).cell? ⟨Z, 4, none⟩ = some (.int .i64 0) ∧ (w3).cell? ⟨Z, 5, none⟩ = some (.int .i64 0) := ⟨hZ.cell 0 rfl, hZ.cell 1 rfl, hZ.cell 2 rfl, hZ.cell 3 rfl, hZ.cell 4 rfl, hZ.cell 5 rfl⟩; obtain ⟨y0, y1, y2, y3, y4, y5⟩ : (w3).frozen? ⟨Z, 0, none⟩ = false ∧ (w3).frozen? ⟨Z, 1, none⟩ = false ∧ (w3).frozen? ⟨Z, 2, none⟩ = false ∧ (w3).frozen? ⟨Z, 3, none⟩ = false ∧ (w3).frozen? ⟨Z, 4, none⟩ = false ∧ (w3).frozen? ⟨Z, 5, none⟩ = false := ⟨hZ.frozen 0, hZ.frozen 1, hZ.frozen 2, hZ.frozen 3, hZ.frozen 4, hZ.frozen 5⟩; have hzl := hZ.lt)
    have hX := hZ.six (.int .i64 y) (.int .i64 mo) (.int .i64 dd) (.int .i64 hh) (.int .i64 mi) (.int .i64 sc)
    have hok3 := hok.six hwZ (.int .i64 y) (.int .i64 mo) (.int .i64 dd) (.int .i64 hh) (.int .i64 mi) (.int .i64 sc)
    clear z0 z1 z2 z3 z4 z5 y0 y1 y2 y3 y4 y5 hzl
    generalize ((((((w3.setCell ⟨Z, 0, none⟩ (.int .i64 y)).setCell ⟨Z, 1, none⟩ (.int .i64 mo)).setCell ⟨Z, 2, none⟩ (.int .i64 dd)).setCell ⟨Z, 3, none⟩ (.int .i64 hh)).setCell ⟨Z, 4, none⟩ (.int .i64 mi)).setCell ⟨Z, 5, none⟩ (.int .i64 sc)) = W9 at hX hok3 ⊢
    exact bodyPost_ret (v := .tuple #[lbV ⟨y, mo, dd, hh, mi, sc⟩, .int .i64 q]) (by simp [results, Tryd.results9, go_sem, lbV, hX.cell 0 rfl, hX.cell 1 rfl, hX.cell 2 rfl, hX.cell 3 rfl, hX.cell 4 rfl, hX.cell 5 rfl]) rfl ⟨rfl, hok3⟩
set_option maxHeartbeats 3200000 in
theorem ref21UTC (p : Par) (s : Sta) (A : Option Addr) (cap : Nat) (w : World) (hA : PairsAt w A s.table) (hl : s.table.length ≤ 9223372036854775807) : Calls Tryd.prog 10 #[parV p, staV s A cap] w fun e w' => e = .returned (.tuple #[lbV (Health.utc p s).1, .int .i64 (Health.utc p s).2]) ∧ Ok w w' := by
  have KO := Lib.hid fun w => ref21Of p s A cap w
  have KD := Lib.hid fun w => refDiv s.time p.sec w
  have KG := Lib.hid fun w h => ref18Good A s.table cap w h hl
  have KL0 := Lib.hid fun (hg : Leap.good s.table = true) (hc : Leap.cnt (Sat.clip s.time / Wide.one p.sec)) w h => ref18Label A s.table cap (Sat.clip s.time / Wide.one p.sec) w h hg hc
  unfold Health.utc Leap.toL
  generalize Leap.lbl s.table (Sat.clip s.time / Wide.one p.sec) = X at KL0 ⊢
  obtain ⟨y, mo, dd, hh, mi, sc⟩ := X
  unfold lbV at KL0
  simp only at KL0
  generalize Sat.clip s.time / Wide.one p.sec = c at KL0 KD ⊢
  generalize Sat.clip s.time % Wide.one p.sec = rm at KD
  generalize Health.of p s = h at KO ⊢
  generalize Leap.good s.table = gd at KG KL0 ⊢
  clear hl
  have hP := (Own.new w (parCells p) 23 rfl).next (((Ok.refl _).alloc (.cells (staCells s A cap) 30)).alloc (.cells #[.int .i64 0, .int .i64 0, .int .i64 0, .int .i64 0, .int .i64 0, .int .i64 0] 43))
  have hS := (Own.new (w.alloc (.cells (parCells p) 23)) (staCells s A cap) 30 (g := w.heap.size + 1) (by simp)).alloc (.cells #[.int .i64 0, .int .i64 0, .int .i64 0, .int .i64 0, .int .i64 0, .int .i64 0] 43)
  have hZ := Own.new ((w.alloc (.cells (parCells p) 23)).alloc (.cells (staCells s A cap) 30)) #[.int .i64 0, .int .i64 0, .int .i64 0, .int .i64 0, .int .i64 0, .int .i64 0] 43 (g := w.heap.size + 1 + 1) (by simp)
  have hok := (((Ok.refl w).alloc (.cells (parCells p) 23)).alloc (.cells (staCells s A cap) 30)).alloc (.cells #[.int .i64 0, .int .i64 0, .int .i64 0, .int .i64 0, .int .i64 0, .int .i64 0] 43)
  replace hA := hA.below hok
  unfold staV
  by_cases j : h = 0
  · rw [if_pos j]
    subst j
    clear KL0 KG KD
    go_enter Tryd.func10, Tryd.ntmps10
    go_upto_region 1 with fail
    change Code.wp _ _ _ _ (((w.alloc (.cells (parCells p) 23)).alloc (.cells (staCells s A cap) 30)).alloc (.cells #[.int .i64 0, .int .i64 0, .int .i64 0, .int .i64 0, .int .i64 0, .int .i64 0] 43))
    generalize ((w.alloc (.cells (parCells p) 23)).alloc (.cells (staCells s A cap) 30)).alloc (.cells #[.int .i64 0, .int .i64 0, .int .i64 0, .int .i64 0, .int .i64 0, .int .i64 0] 43) = W at hP hS hZ hok hA ⊢
    obtain ⟨Z, hZe⟩ : ∃ r, w.heap.size + 1 + 1 = r := ⟨_, rfl⟩
    obtain ⟨G, hG⟩ : ∃ r, w.heap.size + 1 = r := ⟨_, rfl⟩
    obtain ⟨B, hB⟩ : ∃ r, w.heap.size = r := ⟨_, rfl⟩
    have hwZ : w.heap.size ≤ Z := by omega
    rw [hZe] at hZ
    rw [hG] at hS
    rw [hB] at hP
    rw [hZe, hG, hB]
    clear hZe hG hB
    obtain ⟨c0, c1, c2, c3, c4, c5, c6, c7, c8, c9, c10, c11⟩ := hP.pars
    have hPl := hP.lt
    obtain ⟨s0, s1, s2, s3, s4, s5, s6, s7, s8, s9, s10⟩ := hS.sta
    have hsl := hS.lt
    obtain ⟨z0, z1, z2, z3, z4, z5⟩ : (W).cell? ⟨Z, 0, none⟩ = some (.int .i64 0) ∧ (W).cell? ⟨Z, 1, none⟩ = some (.int .i64 0) ∧ (W).cell? ⟨Z, 2, none⟩ = some (.int .i64 0) ∧ (W).cell? ⟨Z, 3, none⟩ = some (.int .i64 0) ∧ (W).cell? ⟨Z, 4, none⟩ = some (.int .i64 0) ∧ (W).cell? ⟨Z, 5, none⟩ = some (.int .i64 0) := ⟨hZ.cell 0 rfl, hZ.cell 1 rfl, hZ.cell 2 rfl, hZ.cell 3 rfl, hZ.cell 4 rfl, hZ.cell 5 rfl⟩
    obtain ⟨y0, y1, y2, y3, y4, y5⟩ : (W).frozen? ⟨Z, 0, none⟩ = false ∧ (W).frozen? ⟨Z, 1, none⟩ = false ∧ (W).frozen? ⟨Z, 2, none⟩ = false ∧ (W).frozen? ⟨Z, 3, none⟩ = false ∧ (W).frozen? ⟨Z, 4, none⟩ = false ∧ (W).frozen? ⟨Z, 5, none⟩ = false := ⟨hZ.frozen 0, hZ.frozen 1, hZ.frozen 2, hZ.frozen 3, hZ.frozen 4, hZ.frozen 5⟩
    have hzl := hZ.lt
    go_wp2_with (first | (go_at_call 6; refine (KO.out _).mono ?_; rintro e w1 ⟨rfl, hb1⟩; clear c0 c1 c2 c3 c4 c5 c6 c7 c8 c9 c10 c11 hPl s0 s1 s2 s3 s4 s5 s6 s7 s8 s9 s10 hsl z0 z1 z2 z3 z4 z5 y0 y1 y2 y3 y4 y5 hzl; replace hP := hP.next hb1; replace hS := hS.next hb1; replace hZ := hZ.next hb1; replace hA := hA.below hb1; replace hok := hok.trans hb1; clear hb1; obtain ⟨c0, c1, c2, c3, c4, c5, c6, c7, c8, c9, c10, c11⟩ := hP.pars; have hPl := hP.lt; obtain ⟨s0, s1, s2, s3, s4, s5, s6, s7, s8, s9, s10⟩ := hS.sta; have hsl := hS.lt; obtain ⟨z0, z1, z2, z3, z4, z5⟩ : (w1).cell? ⟨Z, 0, none⟩ = some (.int .i64 0) ∧ (w1).cell? ⟨Z, 1, none⟩ = some (.int .i64 0) ∧ (w1).cell? ⟨Z, 2, none⟩ = some (.int .i64 0) ∧ (w1).cell? ⟨Z, 3, none⟩ = some (.int .i64 0) ∧ (w1).cell? ⟨Z, 4, none⟩ = some (.int .i64 0) ∧ (w1).cell? ⟨Z, 5, none⟩ = some (.int .i64 0) := ⟨hZ.cell 0 rfl, hZ.cell 1 rfl, hZ.cell 2 rfl, hZ.cell 3 rfl, hZ.cell 4 rfl, hZ.cell 5 rfl⟩; obtain ⟨y0, y1, y2, y3, y4, y5⟩ : (w1).frozen? ⟨Z, 0, none⟩ = false ∧ (w1).frozen? ⟨Z, 1, none⟩ = false ∧ (w1).frozen? ⟨Z, 2, none⟩ = false ∧ (w1).frozen? ⟨Z, 3, none⟩ = false ∧ (w1).frozen? ⟨Z, 4, none⟩ = false ∧ (w1).frozen? ⟨Z, 5, none⟩ = false := ⟨hZ.frozen 0, hZ.frozen 1, hZ.frozen 2, hZ.frozen 3, hZ.frozen 4, hZ.frozen 5⟩; have hzl := hZ.lt))
    have hX := hZ.six (.int .i64 0) (.int .i64 0) (.int .i64 0) (.int .i64 0) (.int .i64 0) (.int .i64 0)
    have hok3 := hok.six hwZ (.int .i64 0) (.int .i64 0) (.int .i64 0) (.int .i64 0) (.int .i64 0) (.int .i64 0)
    clear z0 z1 z2 z3 z4 z5 y0 y1 y2 y3 y4 y5 hzl
    generalize ((((((w1.setCell ⟨Z, 0, none⟩ (.int .i64 0)).setCell ⟨Z, 1, none⟩ (.int .i64 0)).setCell ⟨Z, 2, none⟩ (.int .i64 0)).setCell ⟨Z, 3, none⟩ (.int .i64 0)).setCell ⟨Z, 4, none⟩ (.int .i64 0)).setCell ⟨Z, 5, none⟩ (.int .i64 0)) = W9 at hX hok3 ⊢
    exact bodyPost_ret (v := .tuple #[lbV lb0, .int .i64 20]) (by simp [results, Tryd.results10, go_sem, lbV, lb0, hX.cell 0 rfl, hX.cell 1 rfl, hX.cell 2 rfl, hX.cell 3 rfl, hX.cell 4 rfl, hX.cell 5 rfl]) rfl ⟨rfl, hok3⟩
  rw [if_neg j]
  have j2 : (h == 0) = false := beq_eq_false_iff_ne.2 j
  clear j
  cases gd with
  | false =>
    rw [if_neg (by decide)]
    clear KL0
    go_enter Tryd.func10, Tryd.ntmps10
    go_upto_region 1 with fail
    change Code.wp _ _ _ _ (((w.alloc (.cells (parCells p) 23)).alloc (.cells (staCells s A cap) 30)).alloc (.cells #[.int .i64 0, .int .i64 0, .int .i64 0, .int .i64 0, .int .i64 0, .int .i64 0] 43))
    generalize ((w.alloc (.cells (parCells p) 23)).alloc (.cells (staCells s A cap) 30)).alloc (.cells #[.int .i64 0, .int .i64 0, .int .i64 0, .int .i64 0, .int .i64 0, .int .i64 0] 43) = W at hP hS hZ hok hA ⊢
    obtain ⟨Z, hZe⟩ : ∃ r, w.heap.size + 1 + 1 = r := ⟨_, rfl⟩
    obtain ⟨G, hG⟩ : ∃ r, w.heap.size + 1 = r := ⟨_, rfl⟩
    obtain ⟨B, hB⟩ : ∃ r, w.heap.size = r := ⟨_, rfl⟩
    have hwZ : w.heap.size ≤ Z := by omega
    rw [hZe] at hZ
    rw [hG] at hS
    rw [hB] at hP
    rw [hZe, hG, hB]
    clear hZe hG hB
    obtain ⟨c0, c1, c2, c3, c4, c5, c6, c7, c8, c9, c10, c11⟩ := hP.pars
    have hPl := hP.lt
    obtain ⟨s0, s1, s2, s3, s4, s5, s6, s7, s8, s9, s10⟩ := hS.sta
    have hsl := hS.lt
    obtain ⟨z0, z1, z2, z3, z4, z5⟩ : (W).cell? ⟨Z, 0, none⟩ = some (.int .i64 0) ∧ (W).cell? ⟨Z, 1, none⟩ = some (.int .i64 0) ∧ (W).cell? ⟨Z, 2, none⟩ = some (.int .i64 0) ∧ (W).cell? ⟨Z, 3, none⟩ = some (.int .i64 0) ∧ (W).cell? ⟨Z, 4, none⟩ = some (.int .i64 0) ∧ (W).cell? ⟨Z, 5, none⟩ = some (.int .i64 0) := ⟨hZ.cell 0 rfl, hZ.cell 1 rfl, hZ.cell 2 rfl, hZ.cell 3 rfl, hZ.cell 4 rfl, hZ.cell 5 rfl⟩
    obtain ⟨y0, y1, y2, y3, y4, y5⟩ : (W).frozen? ⟨Z, 0, none⟩ = false ∧ (W).frozen? ⟨Z, 1, none⟩ = false ∧ (W).frozen? ⟨Z, 2, none⟩ = false ∧ (W).frozen? ⟨Z, 3, none⟩ = false ∧ (W).frozen? ⟨Z, 4, none⟩ = false ∧ (W).frozen? ⟨Z, 5, none⟩ = false := ⟨hZ.frozen 0, hZ.frozen 1, hZ.frozen 2, hZ.frozen 3, hZ.frozen 4, hZ.frozen 5⟩
    have hzl := hZ.lt
    go_wp2_with (first | (go_at_call 6; refine (KO.out _).mono ?_; rintro e w1 ⟨rfl, hb1⟩; clear c0 c1 c2 c3 c4 c5 c6 c7 c8 c9 c10 c11 hPl s0 s1 s2 s3 s4 s5 s6 s7 s8 s9 s10 hsl z0 z1 z2 z3 z4 z5 y0 y1 y2 y3 y4 y5 hzl; replace hP := hP.next hb1; replace hS := hS.next hb1; replace hZ := hZ.next hb1; replace hA := hA.below hb1; replace hok := hok.trans hb1; clear hb1; obtain ⟨c0, c1, c2, c3, c4, c5, c6, c7, c8, c9, c10, c11⟩ := hP.pars; have hPl := hP.lt; obtain ⟨s0, s1, s2, s3, s4, s5, s6, s7, s8, s9, s10⟩ := hS.sta; have hsl := hS.lt; obtain ⟨z0, z1, z2, z3, z4, z5⟩ : (w1).cell? ⟨Z, 0, none⟩ = some (.int .i64 0) ∧ (w1).cell? ⟨Z, 1, none⟩ = some (.int .i64 0) ∧ (w1).cell? ⟨Z, 2, none⟩ = some (.int .i64 0) ∧ (w1).cell? ⟨Z, 3, none⟩ = some (.int .i64 0) ∧ (w1).cell? ⟨Z, 4, none⟩ = some (.int .i64 0) ∧ (w1).cell? ⟨Z, 5, none⟩ = some (.int .i64 0) := ⟨hZ.cell 0 rfl, hZ.cell 1 rfl, hZ.cell 2 rfl, hZ.cell 3 rfl, hZ.cell 4 rfl, hZ.cell 5 rfl⟩; obtain ⟨y0, y1, y2, y3, y4, y5⟩ : (w1).frozen? ⟨Z, 0, none⟩ = false ∧ (w1).frozen? ⟨Z, 1, none⟩ = false ∧ (w1).frozen? ⟨Z, 2, none⟩ = false ∧ (w1).frozen? ⟨Z, 3, none⟩ = false ∧ (w1).frozen? ⟨Z, 4, none⟩ = false ∧ (w1).frozen? ⟨Z, 5, none⟩ = false := ⟨hZ.frozen 0, hZ.frozen 1, hZ.frozen 2, hZ.frozen 3, hZ.frozen 4, hZ.frozen 5⟩; have hzl := hZ.lt) | (go_at_call 22; refine (KD.out _).mono ?_; rintro e w2 ⟨rfl, rfl⟩) | (go_at_call 23; refine (KG.out _ hA).mono ?_; rintro e w3 ⟨rfl, hb1⟩; clear c0 c1 c2 c3 c4 c5 c6 c7 c8 c9 c10 c11 hPl s0 s1 s2 s3 s4 s5 s6 s7 s8 s9 s10 hsl z0 z1 z2 z3 z4 z5 y0 y1 y2 y3 y4 y5 hzl; replace hP := hP.next hb1; replace hS := hS.next hb1; replace hZ := hZ.next hb1; replace hA := hA.below hb1; replace hok := hok.trans hb1; clear hb1; obtain ⟨c0, c1, c2, c3, c4, c5, c6, c7, c8, c9, c10, c11⟩ := hP.pars; have hPl := hP.lt; obtain ⟨s0, s1, s2, s3, s4, s5, s6, s7, s8, s9, s10⟩ := hS.sta; have hsl := hS.lt; obtain ⟨z0, z1, z2, z3, z4, z5⟩ : (w3).cell? ⟨Z, 0, none⟩ = some (.int .i64 0) ∧ (w3).cell? ⟨Z, 1, none⟩ = some (.int .i64 0) ∧ (w3).cell? ⟨Z, 2, none⟩ = some (.int .i64 0) ∧ (w3).cell? ⟨Z, 3, none⟩ = some (.int .i64 0) ∧ (w3).cell? ⟨Z, 4, none⟩ = some (.int .i64 0) ∧ (w3).cell? ⟨Z, 5, none⟩ = some (.int .i64 0) := ⟨hZ.cell 0 rfl, hZ.cell 1 rfl, hZ.cell 2 rfl, hZ.cell 3 rfl, hZ.cell 4 rfl, hZ.cell 5 rfl⟩; obtain ⟨y0, y1, y2, y3, y4, y5⟩ : (w3).frozen? ⟨Z, 0, none⟩ = false ∧ (w3).frozen? ⟨Z, 1, none⟩ = false ∧ (w3).frozen? ⟨Z, 2, none⟩ = false ∧ (w3).frozen? ⟨Z, 3, none⟩ = false ∧ (w3).frozen? ⟨Z, 4, none⟩ = false ∧ (w3).frozen? ⟨Z, 5, none⟩ = false := ⟨hZ.frozen 0, hZ.frozen 1, hZ.frozen 2, hZ.frozen 3, hZ.frozen 4, hZ.frozen 5⟩; have hzl := hZ.lt))
    have hX := hZ.six (.int .i64 0) (.int .i64 0) (.int .i64 0) (.int .i64 0) (.int .i64 0) (.int .i64 0)
    have hok3 := hok.six hwZ (.int .i64 0) (.int .i64 0) (.int .i64 0) (.int .i64 0) (.int .i64 0) (.int .i64 0)
    clear z0 z1 z2 z3 z4 z5 y0 y1 y2 y3 y4 y5 hzl
    generalize ((((((w3.setCell ⟨Z, 0, none⟩ (.int .i64 0)).setCell ⟨Z, 1, none⟩ (.int .i64 0)).setCell ⟨Z, 2, none⟩ (.int .i64 0)).setCell ⟨Z, 3, none⟩ (.int .i64 0)).setCell ⟨Z, 4, none⟩ (.int .i64 0)).setCell ⟨Z, 5, none⟩ (.int .i64 0)) = W9 at hX hok3 ⊢
    exact bodyPost_ret (v := .tuple #[lbV lb0, .int .i64 31]) (by simp [results, Tryd.results10, go_sem, lbV, lb0, hX.cell 0 rfl, hX.cell 1 rfl, hX.cell 2 rfl, hX.cell 3 rfl, hX.cell 4 rfl, hX.cell 5 rfl]) rfl ⟨rfl, hok3⟩
  | true =>
    rw [if_pos rfl]
    by_cases c1 : 4398046511104 < c
    · rw [if_neg (fun (k : Leap.cnt c) => by have := k.2; omega)]
      clear KL0
      go_enter Tryd.func10, Tryd.ntmps10
      go_upto_region 1 with fail
      change Code.wp _ _ _ _ (((w.alloc (.cells (parCells p) 23)).alloc (.cells (staCells s A cap) 30)).alloc (.cells #[.int .i64 0, .int .i64 0, .int .i64 0, .int .i64 0, .int .i64 0, .int .i64 0] 43))
      generalize ((w.alloc (.cells (parCells p) 23)).alloc (.cells (staCells s A cap) 30)).alloc (.cells #[.int .i64 0, .int .i64 0, .int .i64 0, .int .i64 0, .int .i64 0, .int .i64 0] 43) = W at hP hS hZ hok hA ⊢
      obtain ⟨Z, hZe⟩ : ∃ r, w.heap.size + 1 + 1 = r := ⟨_, rfl⟩
      obtain ⟨G, hG⟩ : ∃ r, w.heap.size + 1 = r := ⟨_, rfl⟩
      obtain ⟨B, hB⟩ : ∃ r, w.heap.size = r := ⟨_, rfl⟩
      have hwZ : w.heap.size ≤ Z := by omega
      rw [hZe] at hZ
      rw [hG] at hS
      rw [hB] at hP
      rw [hZe, hG, hB]
      clear hZe hG hB
      obtain ⟨c0, c1, c2, c3, c4, c5, c6, c7, c8, c9, c10, c11⟩ := hP.pars
      have hPl := hP.lt
      obtain ⟨s0, s1, s2, s3, s4, s5, s6, s7, s8, s9, s10⟩ := hS.sta
      have hsl := hS.lt
      obtain ⟨z0, z1, z2, z3, z4, z5⟩ : (W).cell? ⟨Z, 0, none⟩ = some (.int .i64 0) ∧ (W).cell? ⟨Z, 1, none⟩ = some (.int .i64 0) ∧ (W).cell? ⟨Z, 2, none⟩ = some (.int .i64 0) ∧ (W).cell? ⟨Z, 3, none⟩ = some (.int .i64 0) ∧ (W).cell? ⟨Z, 4, none⟩ = some (.int .i64 0) ∧ (W).cell? ⟨Z, 5, none⟩ = some (.int .i64 0) := ⟨hZ.cell 0 rfl, hZ.cell 1 rfl, hZ.cell 2 rfl, hZ.cell 3 rfl, hZ.cell 4 rfl, hZ.cell 5 rfl⟩
      obtain ⟨y0, y1, y2, y3, y4, y5⟩ : (W).frozen? ⟨Z, 0, none⟩ = false ∧ (W).frozen? ⟨Z, 1, none⟩ = false ∧ (W).frozen? ⟨Z, 2, none⟩ = false ∧ (W).frozen? ⟨Z, 3, none⟩ = false ∧ (W).frozen? ⟨Z, 4, none⟩ = false ∧ (W).frozen? ⟨Z, 5, none⟩ = false := ⟨hZ.frozen 0, hZ.frozen 1, hZ.frozen 2, hZ.frozen 3, hZ.frozen 4, hZ.frozen 5⟩
      have hzl := hZ.lt
      go_wp2_with (first | (go_at_call 6; refine (KO.out _).mono ?_; rintro e w1 ⟨rfl, hb1⟩; clear c0 c1 c2 c3 c4 c5 c6 c7 c8 c9 c10 c11 hPl s0 s1 s2 s3 s4 s5 s6 s7 s8 s9 s10 hsl z0 z1 z2 z3 z4 z5 y0 y1 y2 y3 y4 y5 hzl; replace hP := hP.next hb1; replace hS := hS.next hb1; replace hZ := hZ.next hb1; replace hA := hA.below hb1; replace hok := hok.trans hb1; clear hb1; obtain ⟨c0, c1, c2, c3, c4, c5, c6, c7, c8, c9, c10, c11⟩ := hP.pars; have hPl := hP.lt; obtain ⟨s0, s1, s2, s3, s4, s5, s6, s7, s8, s9, s10⟩ := hS.sta; have hsl := hS.lt; obtain ⟨z0, z1, z2, z3, z4, z5⟩ : (w1).cell? ⟨Z, 0, none⟩ = some (.int .i64 0) ∧ (w1).cell? ⟨Z, 1, none⟩ = some (.int .i64 0) ∧ (w1).cell? ⟨Z, 2, none⟩ = some (.int .i64 0) ∧ (w1).cell? ⟨Z, 3, none⟩ = some (.int .i64 0) ∧ (w1).cell? ⟨Z, 4, none⟩ = some (.int .i64 0) ∧ (w1).cell? ⟨Z, 5, none⟩ = some (.int .i64 0) := ⟨hZ.cell 0 rfl, hZ.cell 1 rfl, hZ.cell 2 rfl, hZ.cell 3 rfl, hZ.cell 4 rfl, hZ.cell 5 rfl⟩; obtain ⟨y0, y1, y2, y3, y4, y5⟩ : (w1).frozen? ⟨Z, 0, none⟩ = false ∧ (w1).frozen? ⟨Z, 1, none⟩ = false ∧ (w1).frozen? ⟨Z, 2, none⟩ = false ∧ (w1).frozen? ⟨Z, 3, none⟩ = false ∧ (w1).frozen? ⟨Z, 4, none⟩ = false ∧ (w1).frozen? ⟨Z, 5, none⟩ = false := ⟨hZ.frozen 0, hZ.frozen 1, hZ.frozen 2, hZ.frozen 3, hZ.frozen 4, hZ.frozen 5⟩; have hzl := hZ.lt) | (go_at_call 22; refine (KD.out _).mono ?_; rintro e w2 ⟨rfl, rfl⟩) | (go_at_call 23; refine (KG.out _ hA).mono ?_; rintro e w3 ⟨rfl, hb1⟩; clear c0 c1 c2 c3 c4 c5 c6 c7 c8 c9 c10 c11 hPl s0 s1 s2 s3 s4 s5 s6 s7 s8 s9 s10 hsl z0 z1 z2 z3 z4 z5 y0 y1 y2 y3 y4 y5 hzl; replace hP := hP.next hb1; replace hS := hS.next hb1; replace hZ := hZ.next hb1; replace hA := hA.below hb1; replace hok := hok.trans hb1; clear hb1; obtain ⟨c0, c1, c2, c3, c4, c5, c6, c7, c8, c9, c10, c11⟩ := hP.pars; have hPl := hP.lt; obtain ⟨s0, s1, s2, s3, s4, s5, s6, s7, s8, s9, s10⟩ := hS.sta; have hsl := hS.lt; obtain ⟨z0, z1, z2, z3, z4, z5⟩ : (w3).cell? ⟨Z, 0, none⟩ = some (.int .i64 0) ∧ (w3).cell? ⟨Z, 1, none⟩ = some (.int .i64 0) ∧ (w3).cell? ⟨Z, 2, none⟩ = some (.int .i64 0) ∧ (w3).cell? ⟨Z, 3, none⟩ = some (.int .i64 0) ∧ (w3).cell? ⟨Z, 4, none⟩ = some (.int .i64 0) ∧ (w3).cell? ⟨Z, 5, none⟩ = some (.int .i64 0) := ⟨hZ.cell 0 rfl, hZ.cell 1 rfl, hZ.cell 2 rfl, hZ.cell 3 rfl, hZ.cell 4 rfl, hZ.cell 5 rfl⟩; obtain ⟨y0, y1, y2, y3, y4, y5⟩ : (w3).frozen? ⟨Z, 0, none⟩ = false ∧ (w3).frozen? ⟨Z, 1, none⟩ = false ∧ (w3).frozen? ⟨Z, 2, none⟩ = false ∧ (w3).frozen? ⟨Z, 3, none⟩ = false ∧ (w3).frozen? ⟨Z, 4, none⟩ = false ∧ (w3).frozen? ⟨Z, 5, none⟩ = false := ⟨hZ.frozen 0, hZ.frozen 1, hZ.frozen 2, hZ.frozen 3, hZ.frozen 4, hZ.frozen 5⟩; have hzl := hZ.lt))
      have hX := hZ.six (.int .i64 0) (.int .i64 0) (.int .i64 0) (.int .i64 0) (.int .i64 0) (.int .i64 0)
      have hok3 := hok.six hwZ (.int .i64 0) (.int .i64 0) (.int .i64 0) (.int .i64 0) (.int .i64 0) (.int .i64 0)
      clear z0 z1 z2 z3 z4 z5 y0 y1 y2 y3 y4 y5 hzl
      generalize ((((((w3.setCell ⟨Z, 0, none⟩ (.int .i64 0)).setCell ⟨Z, 1, none⟩ (.int .i64 0)).setCell ⟨Z, 2, none⟩ (.int .i64 0)).setCell ⟨Z, 3, none⟩ (.int .i64 0)).setCell ⟨Z, 4, none⟩ (.int .i64 0)).setCell ⟨Z, 5, none⟩ (.int .i64 0)) = W9 at hX hok3 ⊢
      exact bodyPost_ret (v := .tuple #[lbV lb0, .int .i64 30]) (by simp [results, Tryd.results10, go_sem, lbV, lb0, hX.cell 0 rfl, hX.cell 1 rfl, hX.cell 2 rfl, hX.cell 3 rfl, hX.cell 4 rfl, hX.cell 5 rfl]) rfl ⟨rfl, hok3⟩
    by_cases c2 : c < -4398046511104
    · rw [if_neg (fun (k : Leap.cnt c) => by have := k.1; omega)]
      clear KL0
      go_enter Tryd.func10, Tryd.ntmps10
      go_upto_region 1 with fail
      change Code.wp _ _ _ _ (((w.alloc (.cells (parCells p) 23)).alloc (.cells (staCells s A cap) 30)).alloc (.cells #[.int .i64 0, .int .i64 0, .int .i64 0, .int .i64 0, .int .i64 0, .int .i64 0] 43))
      generalize ((w.alloc (.cells (parCells p) 23)).alloc (.cells (staCells s A cap) 30)).alloc (.cells #[.int .i64 0, .int .i64 0, .int .i64 0, .int .i64 0, .int .i64 0, .int .i64 0] 43) = W at hP hS hZ hok hA ⊢
      obtain ⟨Z, hZe⟩ : ∃ r, w.heap.size + 1 + 1 = r := ⟨_, rfl⟩
      obtain ⟨G, hG⟩ : ∃ r, w.heap.size + 1 = r := ⟨_, rfl⟩
      obtain ⟨B, hB⟩ : ∃ r, w.heap.size = r := ⟨_, rfl⟩
      have hwZ : w.heap.size ≤ Z := by omega
      rw [hZe] at hZ
      rw [hG] at hS
      rw [hB] at hP
      rw [hZe, hG, hB]
      clear hZe hG hB
      obtain ⟨c0, c1, c2, c3, c4, c5, c6, c7, c8, c9, c10, c11⟩ := hP.pars
      have hPl := hP.lt
      obtain ⟨s0, s1, s2, s3, s4, s5, s6, s7, s8, s9, s10⟩ := hS.sta
      have hsl := hS.lt
      obtain ⟨z0, z1, z2, z3, z4, z5⟩ : (W).cell? ⟨Z, 0, none⟩ = some (.int .i64 0) ∧ (W).cell? ⟨Z, 1, none⟩ = some (.int .i64 0) ∧ (W).cell? ⟨Z, 2, none⟩ = some (.int .i64 0) ∧ (W).cell? ⟨Z, 3, none⟩ = some (.int .i64 0) ∧ (W).cell? ⟨Z, 4, none⟩ = some (.int .i64 0) ∧ (W).cell? ⟨Z, 5, none⟩ = some (.int .i64 0) := ⟨hZ.cell 0 rfl, hZ.cell 1 rfl, hZ.cell 2 rfl, hZ.cell 3 rfl, hZ.cell 4 rfl, hZ.cell 5 rfl⟩
      obtain ⟨y0, y1, y2, y3, y4, y5⟩ : (W).frozen? ⟨Z, 0, none⟩ = false ∧ (W).frozen? ⟨Z, 1, none⟩ = false ∧ (W).frozen? ⟨Z, 2, none⟩ = false ∧ (W).frozen? ⟨Z, 3, none⟩ = false ∧ (W).frozen? ⟨Z, 4, none⟩ = false ∧ (W).frozen? ⟨Z, 5, none⟩ = false := ⟨hZ.frozen 0, hZ.frozen 1, hZ.frozen 2, hZ.frozen 3, hZ.frozen 4, hZ.frozen 5⟩
      have hzl := hZ.lt
      go_wp2_with (first | (go_at_call 6; refine (KO.out _).mono ?_; rintro e w1 ⟨rfl, hb1⟩; clear c0 c1 c2 c3 c4 c5 c6 c7 c8 c9 c10 c11 hPl s0 s1 s2 s3 s4 s5 s6 s7 s8 s9 s10 hsl z0 z1 z2 z3 z4 z5 y0 y1 y2 y3 y4 y5 hzl; replace hP := hP.next hb1; replace hS := hS.next hb1; replace hZ := hZ.next hb1; replace hA := hA.below hb1; replace hok := hok.trans hb1; clear hb1; obtain ⟨c0, c1, c2, c3, c4, c5, c6, c7, c8, c9, c10, c11⟩ := hP.pars; have hPl := hP.lt; obtain ⟨s0, s1, s2, s3, s4, s5, s6, s7, s8, s9, s10⟩ := hS.sta; have hsl := hS.lt; obtain ⟨z0, z1, z2, z3, z4, z5⟩ : (w1).cell? ⟨Z, 0, none⟩ = some (.int .i64 0) ∧ (w1).cell? ⟨Z, 1, none⟩ = some (.int .i64 0) ∧ (w1).cell? ⟨Z, 2, none⟩ = some (.int .i64 0) ∧ (w1).cell? ⟨Z, 3, none⟩ = some (.int .i64 0) ∧ (w1).cell? ⟨Z, 4, none⟩ = some (.int .i64 0) ∧ (w1).cell? ⟨Z, 5, none⟩ = some (.int .i64 0) := ⟨hZ.cell 0 rfl, hZ.cell 1 rfl, hZ.cell 2 rfl, hZ.cell 3 rfl, hZ.cell 4 rfl, hZ.cell 5 rfl⟩; obtain ⟨y0, y1, y2, y3, y4, y5⟩ : (w1).frozen? ⟨Z, 0, none⟩ = false ∧ (w1).frozen? ⟨Z, 1, none⟩ = false ∧ (w1).frozen? ⟨Z, 2, none⟩ = false ∧ (w1).frozen? ⟨Z, 3, none⟩ = false ∧ (w1).frozen? ⟨Z, 4, none⟩ = false ∧ (w1).frozen? ⟨Z, 5, none⟩ = false := ⟨hZ.frozen 0, hZ.frozen 1, hZ.frozen 2, hZ.frozen 3, hZ.frozen 4, hZ.frozen 5⟩; have hzl := hZ.lt) | (go_at_call 22; refine (KD.out _).mono ?_; rintro e w2 ⟨rfl, rfl⟩) | (go_at_call 23; refine (KG.out _ hA).mono ?_; rintro e w3 ⟨rfl, hb1⟩; clear c0 c1 c2 c3 c4 c5 c6 c7 c8 c9 c10 c11 hPl s0 s1 s2 s3 s4 s5 s6 s7 s8 s9 s10 hsl z0 z1 z2 z3 z4 z5 y0 y1 y2 y3 y4 y5 hzl; replace hP := hP.next hb1; replace hS := hS.next hb1; replace hZ := hZ.next hb1; replace hA := hA.below hb1; replace hok := hok.trans hb1; clear hb1; obtain ⟨c0, c1, c2, c3, c4, c5, c6, c7, c8, c9, c10, c11⟩ := hP.pars; have hPl := hP.lt; obtain ⟨s0, s1, s2, s3, s4, s5, s6, s7, s8, s9, s10⟩ := hS.sta; have hsl := hS.lt; obtain ⟨z0, z1, z2, z3, z4, z5⟩ : (w3).cell? ⟨Z, 0, none⟩ = some (.int .i64 0) ∧ (w3).cell? ⟨Z, 1, none⟩ = some (.int .i64 0) ∧ (w3).cell? ⟨Z, 2, none⟩ = some (.int .i64 0) ∧ (w3).cell? ⟨Z, 3, none⟩ = some (.int .i64 0) ∧ (w3).cell? ⟨Z, 4, none⟩ = some (.int .i64 0) ∧ (w3).cell? ⟨Z, 5, none⟩ = some (.int .i64 0) := ⟨hZ.cell 0 rfl, hZ.cell 1 rfl, hZ.cell 2 rfl, hZ.cell 3 rfl, hZ.cell 4 rfl, hZ.cell 5 rfl⟩; obtain ⟨y0, y1, y2, y3, y4, y5⟩ : (w3).frozen? ⟨Z, 0, none⟩ = false ∧ (w3).frozen? ⟨Z, 1, none⟩ = false ∧ (w3).frozen? ⟨Z, 2, none⟩ = false ∧ (w3).frozen? ⟨Z, 3, none⟩ = false ∧ (w3).frozen? ⟨Z, 4, none⟩ = false ∧ (w3).frozen? ⟨Z, 5, none⟩ = false := ⟨hZ.frozen 0, hZ.frozen 1, hZ.frozen 2, hZ.frozen 3, hZ.frozen 4, hZ.frozen 5⟩; have hzl := hZ.lt))
      have hX := hZ.six (.int .i64 0) (.int .i64 0) (.int .i64 0) (.int .i64 0) (.int .i64 0) (.int .i64 0)
      have hok3 := hok.six hwZ (.int .i64 0) (.int .i64 0) (.int .i64 0) (.int .i64 0) (.int .i64 0) (.int .i64 0)
      clear z0 z1 z2 z3 z4 z5 y0 y1 y2 y3 y4 y5 hzl
      generalize ((((((w3.setCell ⟨Z, 0, none⟩ (.int .i64 0)).setCell ⟨Z, 1, none⟩ (.int .i64 0)).setCell ⟨Z, 2, none⟩ (.int .i64 0)).setCell ⟨Z, 3, none⟩ (.int .i64 0)).setCell ⟨Z, 4, none⟩ (.int .i64 0)).setCell ⟨Z, 5, none⟩ (.int .i64 0)) = W9 at hX hok3 ⊢
      exact bodyPost_ret (v := .tuple #[lbV lb0, .int .i64 30]) (by simp [results, Tryd.results10, go_sem, lbV, lb0, hX.cell 0 rfl, hX.cell 1 rfl, hX.cell 2 rfl, hX.cell 3 rfl, hX.cell 4 rfl, hX.cell 5 rfl]) rfl ⟨rfl, hok3⟩
    have hc : Leap.cnt c := ⟨by omega, by omega⟩
    rw [if_pos hc]
    have KL := Lib.hid (KL0.out rfl hc)
    have d1 : decide (4398046511104 < c) = false := decide_eq_false c1
    have d2 : decide (c < -4398046511104) = false := decide_eq_false c2
    clear KL0 hc
    go_enter Tryd.func10, Tryd.ntmps10
    go_upto_region 1 with fail
    change Code.wp _ _ _ _ (((w.alloc (.cells (parCells p) 23)).alloc (.cells (staCells s A cap) 30)).alloc (.cells #[.int .i64 0, .int .i64 0, .int .i64 0, .int .i64 0, .int .i64 0, .int .i64 0] 43))
    generalize ((w.alloc (.cells (parCells p) 23)).alloc (.cells (staCells s A cap) 30)).alloc (.cells #[.int .i64 0, .int .i64 0, .int .i64 0, .int .i64 0, .int .i64 0, .int .i64 0] 43) = W at hP hS hZ hok hA ⊢
    obtain ⟨Z, hZe⟩ : ∃ r, w.heap.size + 1 + 1 = r := ⟨_, rfl⟩
    obtain ⟨G, hG⟩ : ∃ r, w.heap.size + 1 = r := ⟨_, rfl⟩
    obtain ⟨B, hB⟩ : ∃ r, w.heap.size = r := ⟨_, rfl⟩
    have hwZ : w.heap.size ≤ Z := by omega
    rw [hZe] at hZ
    rw [hG] at hS
    rw [hB] at hP
    rw [hZe, hG, hB]
    clear hZe hG hB
    obtain ⟨c0, c1, c2, c3, c4, c5, c6, c7, c8, c9, c10, c11⟩ := hP.pars
    have hPl := hP.lt
    obtain ⟨s0, s1, s2, s3, s4, s5, s6, s7, s8, s9, s10⟩ := hS.sta
    have hsl := hS.lt
    obtain ⟨z0, z1, z2, z3, z4, z5⟩ : (W).cell? ⟨Z, 0, none⟩ = some (.int .i64 0) ∧ (W).cell? ⟨Z, 1, none⟩ = some (.int .i64 0) ∧ (W).cell? ⟨Z, 2, none⟩ = some (.int .i64 0) ∧ (W).cell? ⟨Z, 3, none⟩ = some (.int .i64 0) ∧ (W).cell? ⟨Z, 4, none⟩ = some (.int .i64 0) ∧ (W).cell? ⟨Z, 5, none⟩ = some (.int .i64 0) := ⟨hZ.cell 0 rfl, hZ.cell 1 rfl, hZ.cell 2 rfl, hZ.cell 3 rfl, hZ.cell 4 rfl, hZ.cell 5 rfl⟩
    obtain ⟨y0, y1, y2, y3, y4, y5⟩ : (W).frozen? ⟨Z, 0, none⟩ = false ∧ (W).frozen? ⟨Z, 1, none⟩ = false ∧ (W).frozen? ⟨Z, 2, none⟩ = false ∧ (W).frozen? ⟨Z, 3, none⟩ = false ∧ (W).frozen? ⟨Z, 4, none⟩ = false ∧ (W).frozen? ⟨Z, 5, none⟩ = false := ⟨hZ.frozen 0, hZ.frozen 1, hZ.frozen 2, hZ.frozen 3, hZ.frozen 4, hZ.frozen 5⟩
    have hzl := hZ.lt
    go_wp2_with (first | (go_at_call 6; refine (KO.out _).mono ?_; rintro e w1 ⟨rfl, hb1⟩; clear c0 c1 c2 c3 c4 c5 c6 c7 c8 c9 c10 c11 hPl s0 s1 s2 s3 s4 s5 s6 s7 s8 s9 s10 hsl z0 z1 z2 z3 z4 z5 y0 y1 y2 y3 y4 y5 hzl; replace hP := hP.next hb1; replace hS := hS.next hb1; replace hZ := hZ.next hb1; replace hA := hA.below hb1; replace hok := hok.trans hb1; clear hb1; obtain ⟨c0, c1, c2, c3, c4, c5, c6, c7, c8, c9, c10, c11⟩ := hP.pars; have hPl := hP.lt; obtain ⟨s0, s1, s2, s3, s4, s5, s6, s7, s8, s9, s10⟩ := hS.sta; have hsl := hS.lt; obtain ⟨z0, z1, z2, z3, z4, z5⟩ : (w1).cell? ⟨Z, 0, none⟩ = some (.int .i64 0) ∧ (w1).cell? ⟨Z, 1, none⟩ = some (.int .i64 0) ∧ (w1).cell? ⟨Z, 2, none⟩ = some (.int .i64 0) ∧ (w1).cell? ⟨Z, 3, none⟩ = some (.int .i64 0) ∧ (w1).cell? ⟨Z, 4, none⟩ = some (.int .i64 0) ∧ (w1).cell? ⟨Z, 5, none⟩ = some (.int .i64 0) := ⟨hZ.cell 0 rfl, hZ.cell 1 rfl, hZ.cell 2 rfl, hZ.cell 3 rfl, hZ.cell 4 rfl, hZ.cell 5 rfl⟩; obtain ⟨y0, y1, y2, y3, y4, y5⟩ : (w1).frozen? ⟨Z, 0, none⟩ = false ∧ (w1).frozen? ⟨Z, 1, none⟩ = false ∧ (w1).frozen? ⟨Z, 2, none⟩ = false ∧ (w1).frozen? ⟨Z, 3, none⟩ = false ∧ (w1).frozen? ⟨Z, 4, none⟩ = false ∧ (w1).frozen? ⟨Z, 5, none⟩ = false := ⟨hZ.frozen 0, hZ.frozen 1, hZ.frozen 2, hZ.frozen 3, hZ.frozen 4, hZ.frozen 5⟩; have hzl := hZ.lt) | (go_at_call 22; refine (KD.out _).mono ?_; rintro e w2 ⟨rfl, rfl⟩) | (go_at_call 23; refine (KG.out _ hA).mono ?_; rintro e w3 ⟨rfl, hb1⟩; clear c0 c1 c2 c3 c4 c5 c6 c7 c8 c9 c10 c11 hPl s0 s1 s2 s3 s4 s5 s6 s7 s8 s9 s10 hsl z0 z1 z2 z3 z4 z5 y0 y1 y2 y3 y4 y5 hzl; replace hP := hP.next hb1; replace hS := hS.next hb1; replace hZ := hZ.next hb1; replace hA := hA.below hb1; replace hok := hok.trans hb1; clear hb1; obtain ⟨c0, c1, c2, c3, c4, c5, c6, c7, c8, c9, c10, c11⟩ := hP.pars; have hPl := hP.lt; obtain ⟨s0, s1, s2, s3, s4, s5, s6, s7, s8, s9, s10⟩ := hS.sta; have hsl := hS.lt; obtain ⟨z0, z1, z2, z3, z4, z5⟩ : (w3).cell? ⟨Z, 0, none⟩ = some (.int .i64 0) ∧ (w3).cell? ⟨Z, 1, none⟩ = some (.int .i64 0) ∧ (w3).cell? ⟨Z, 2, none⟩ = some (.int .i64 0) ∧ (w3).cell? ⟨Z, 3, none⟩ = some (.int .i64 0) ∧ (w3).cell? ⟨Z, 4, none⟩ = some (.int .i64 0) ∧ (w3).cell? ⟨Z, 5, none⟩ = some (.int .i64 0) := ⟨hZ.cell 0 rfl, hZ.cell 1 rfl, hZ.cell 2 rfl, hZ.cell 3 rfl, hZ.cell 4 rfl, hZ.cell 5 rfl⟩; obtain ⟨y0, y1, y2, y3, y4, y5⟩ : (w3).frozen? ⟨Z, 0, none⟩ = false ∧ (w3).frozen? ⟨Z, 1, none⟩ = false ∧ (w3).frozen? ⟨Z, 2, none⟩ = false ∧ (w3).frozen? ⟨Z, 3, none⟩ = false ∧ (w3).frozen? ⟨Z, 4, none⟩ = false ∧ (w3).frozen? ⟨Z, 5, none⟩ = false := ⟨hZ.frozen 0, hZ.frozen 1, hZ.frozen 2, hZ.frozen 3, hZ.frozen 4, hZ.frozen 5⟩; have hzl := hZ.lt) | (go_at_call 24; refine (KL.out _ hA).mono ?_; rintro e w4 ⟨rfl, hb1⟩; clear c0 c1 c2 c3 c4 c5 c6 c7 c8 c9 c10 c11 hPl s0 s1 s2 s3 s4 s5 s6 s7 s8 s9 s10 hsl z0 z1 z2 z3 z4 z5 y0 y1 y2 y3 y4 y5 hzl; replace hP := hP.next hb1; replace hS := hS.next hb1; replace hZ := hZ.next hb1; replace hA := hA.below hb1; replace hok := hok.trans hb1; clear hb1; obtain ⟨c0, c1, c2, c3, c4, c5, c6, c7, c8, c9, c10, c11⟩ := hP.pars; have hPl := hP.lt; obtain ⟨s0, s1, s2, s3, s4, s5, s6, s7, s8, s9, s10⟩ := hS.sta; have hsl := hS.lt; obtain ⟨z0, z1, z2, z3, z4, z5⟩ : (w4).cell? ⟨Z, 0, none⟩ = some (.int .i64 0) ∧ (w4).cell? ⟨Z, 1, none⟩ = some (.int .i64 0) ∧ (w4).cell? ⟨Z, 2, none⟩ = some (.int .i64 0) ∧ (w4).cell? ⟨Z, 3, none⟩ = some (.int .i64 0) ∧ (w4).cell? ⟨Z, 4, none⟩ = some (.int .i64 0) ∧ (w4).cell? ⟨Z, 5, none⟩ = some (.int .i64 0) := ⟨hZ.cell 0 rfl, hZ.cell 1 rfl, hZ.cell 2 rfl, hZ.cell 3 rfl, hZ.cell 4 rfl, hZ.cell 5 rfl⟩; obtain ⟨y0, y1, y2, y3, y4, y5⟩ : (w4).frozen? ⟨Z, 0, none⟩ = false ∧ (w4).frozen? ⟨Z, 1, none⟩ = false ∧ (w4).frozen? ⟨Z, 2, none⟩ = false ∧ (w4).frozen? ⟨Z, 3, none⟩ = false ∧ (w4).frozen? ⟨Z, 4, none⟩ = false ∧ (w4).frozen? ⟨Z, 5, none⟩ = false := ⟨hZ.frozen 0, hZ.frozen 1, hZ.frozen 2, hZ.frozen 3, hZ.frozen 4, hZ.frozen 5⟩; have hzl := hZ.lt))
    have hX := hZ.six (.int .i64 y) (.int .i64 mo) (.int .i64 dd) (.int .i64 hh) (.int .i64 mi) (.int .i64 sc)
    have hok3 := hok.six hwZ (.int .i64 y) (.int .i64 mo) (.int .i64 dd) (.int .i64 hh) (.int .i64 mi) (.int .i64 sc)
    clear z0 z1 z2 z3 z4 z5 y0 y1 y2 y3 y4 y5 hzl
    generalize ((((((w4.setCell ⟨Z, 0, none⟩ (.int .i64 y)).setCell ⟨Z, 1, none⟩ (.int .i64 mo)).setCell ⟨Z, 2, none⟩ (.int .i64 dd)).setCell ⟨Z, 3, none⟩ (.int .i64 hh)).setCell ⟨Z, 4, none⟩ (.int .i64 mi)).setCell ⟨Z, 5, none⟩ (.int .i64 sc)) = W9 at hX hok3 ⊢
    exact bodyPost_ret (v := .tuple #[lbV ⟨y, mo, dd, hh, mi, sc⟩, .int .i64 0]) (by simp [results, Tryd.results10, go_sem, lbV, hX.cell 0 rfl, hX.cell 1 rfl, hX.cell 2 rfl, hX.cell 3 rfl, hX.cell 4 rfl, hX.cell 5 rfl]) rfl ⟨rfl, hok3⟩
theorem nilReady (w : World) : Calls Tryd.prog 19 #[.pointer none] w fun e w' => e = .returned (.int .i64 2) ∧ Ok w w' := by
  go_enter Tryd.func19, Tryd.ntmps19
  go_wp2
  go_ret
  exact ⟨rfl, Ok.refl w⟩
theorem nilHealth (w : World) : Calls Tryd.prog 13 #[.pointer none] w fun e w' => e = .returned (.int .i64 0) ∧ Ok w w' := by
  go_enter Tryd.func13, Tryd.ntmps13
  go_wp2
  go_ret
  exact ⟨rfl, Ok.refl w⟩
theorem nilNow (w : World) : Calls Tryd.prog 7 #[.pointer none] w fun e w' => e = .returned (.tuple #[.int .i64 0, .int .i64 2]) ∧ Ok w w' := by
  have hok := Ok.refl w
  go_enter Tryd.func7, Tryd.ntmps7
  go_wp2_with (go_at_call 19; refine (nilReady _).mono ?_; rintro e w1 ⟨rfl, hb1⟩; replace hok := hok.trans hb1; clear hb1)
  go_ret2
  exact ⟨rfl, hok⟩
theorem nilPulse (w : World) : Calls Tryd.prog 11 #[.pointer none] w fun e w' => e = .returned (.tuple #[.int .i64 0, .int .i64 2]) ∧ Ok w w' := by
  have hok := Ok.refl w
  go_enter Tryd.func11, Tryd.ntmps11
  go_wp2_with (go_at_call 19; refine (nilReady _).mono ?_; rintro e w1 ⟨rfl, hb1⟩; replace hok := hok.trans hb1; clear hb1)
  go_ret2
  exact ⟨rfl, hok⟩
theorem nilInterval (w : World) : Calls Tryd.prog 8 #[.pointer none] w fun e w' => e = .returned (.tuple #[spanV 0 0, .int .i64 2]) ∧ Ok w w' := by
  have hok := (Ok.refl w).alloc (.cells #[.int .i64 0, .int .i64 0] 25)
  have hZ := Own.new w #[.int .i64 0, .int .i64 0] 25 rfl
  go_enter Tryd.func8, Tryd.ntmps8
  go_upto_region 1 with fail
  change Code.wp _ _ _ _ (w.alloc (.cells #[.int .i64 0, .int .i64 0] 25))
  generalize w.alloc (.cells #[.int .i64 0, .int .i64 0] 25) = W at hZ hok ⊢
  obtain ⟨Z, hZe⟩ : ∃ r, w.heap.size = r := ⟨_, rfl⟩
  have hwZ : w.heap.size ≤ Z := by omega
  rw [hZe] at hZ ⊢
  clear hZe
  go_wp2_with (go_at_call 19; refine (nilReady _).mono ?_; rintro e w1 ⟨rfl, hb1⟩; replace hok := hok.trans hb1; replace hZ := hZ.next hb1; clear hb1; obtain ⟨z0, z1⟩ : (w1).cell? ⟨Z, 0, none⟩ = some (.int .i64 0) ∧ (w1).cell? ⟨Z, 1, none⟩ = some (.int .i64 0) := ⟨hZ.cell 0 rfl, hZ.cell 1 rfl⟩; obtain ⟨y0, y1⟩ : (w1).frozen? ⟨Z, 0, none⟩ = false ∧ (w1).frozen? ⟨Z, 1, none⟩ = false := ⟨hZ.frozen 0, hZ.frozen 1⟩; have hzl := hZ.lt)
  have hX : Own ((w1.setCell ⟨Z, 0, none⟩ (.int .i64 0)).setCell ⟨Z, 1, none⟩ (.int .i64 0)) Z #[.int .i64 0, .int .i64 0] := ((hZ.set 0 (.int .i64 0)).set 1 (.int .i64 0)).as (by simp)
  have hok3 := ((hok.setCell (p := ⟨Z, 0, none⟩) hwZ (.int .i64 0)).setCell (p := ⟨Z, 1, none⟩) hwZ (.int .i64 0))
  generalize ((w1.setCell ⟨Z, 0, none⟩ (.int .i64 0)).setCell ⟨Z, 1, none⟩ (.int .i64 0)) = W9 at hX hok3 ⊢
  exact bodyPost_ret (v := .tuple #[spanV 0 0, .int .i64 2]) (by simp [results, Tryd.results8, go_sem, hX.cell 0 rfl, hX.cell 1 rfl]) rfl ⟨rfl, hok3⟩
theorem nilUTC (w : World) : Calls Tryd.prog 9 #[.pointer none] w fun e w' => e = .returned (.tuple #[lbV lb0, .int .i64 2]) ∧ Ok w w' := by
  have hok := (Ok.refl w).alloc (.cells #[.int .i64 0, .int .i64 0, .int .i64 0, .int .i64 0, .int .i64 0, .int .i64 0] 43)
  have hZ := Own.new w #[.int .i64 0, .int .i64 0, .int .i64 0, .int .i64 0, .int .i64 0, .int .i64 0] 43 rfl
  go_enter Tryd.func9, Tryd.ntmps9
  go_upto_region 1 with fail
  change Code.wp _ _ _ _ (w.alloc (.cells #[.int .i64 0, .int .i64 0, .int .i64 0, .int .i64 0, .int .i64 0, .int .i64 0] 43))
  generalize w.alloc (.cells #[.int .i64 0, .int .i64 0, .int .i64 0, .int .i64 0, .int .i64 0, .int .i64 0] 43) = W at hZ hok ⊢
  obtain ⟨Z, hZe⟩ : ∃ r, w.heap.size = r := ⟨_, rfl⟩
  have hwZ : w.heap.size ≤ Z := by omega
  rw [hZe] at hZ ⊢
  clear hZe
  go_wp2_with (go_at_call 19; refine (nilReady _).mono ?_; rintro e w1 ⟨rfl, hb1⟩; replace hok := hok.trans hb1; replace hZ := hZ.next hb1; clear hb1; obtain ⟨z0, z1, z2, z3, z4, z5⟩ : (w1).cell? ⟨Z, 0, none⟩ = some (.int .i64 0) ∧ (w1).cell? ⟨Z, 1, none⟩ = some (.int .i64 0) ∧ (w1).cell? ⟨Z, 2, none⟩ = some (.int .i64 0) ∧ (w1).cell? ⟨Z, 3, none⟩ = some (.int .i64 0) ∧ (w1).cell? ⟨Z, 4, none⟩ = some (.int .i64 0) ∧ (w1).cell? ⟨Z, 5, none⟩ = some (.int .i64 0) := ⟨hZ.cell 0 rfl, hZ.cell 1 rfl, hZ.cell 2 rfl, hZ.cell 3 rfl, hZ.cell 4 rfl, hZ.cell 5 rfl⟩; obtain ⟨y0, y1, y2, y3, y4, y5⟩ : (w1).frozen? ⟨Z, 0, none⟩ = false ∧ (w1).frozen? ⟨Z, 1, none⟩ = false ∧ (w1).frozen? ⟨Z, 2, none⟩ = false ∧ (w1).frozen? ⟨Z, 3, none⟩ = false ∧ (w1).frozen? ⟨Z, 4, none⟩ = false ∧ (w1).frozen? ⟨Z, 5, none⟩ = false := ⟨hZ.frozen 0, hZ.frozen 1, hZ.frozen 2, hZ.frozen 3, hZ.frozen 4, hZ.frozen 5⟩; have hzl := hZ.lt)
  have hX : Own ((((((w1.setCell ⟨Z, 0, none⟩ (.int .i64 0)).setCell ⟨Z, 1, none⟩ (.int .i64 0)).setCell ⟨Z, 2, none⟩ (.int .i64 0)).setCell ⟨Z, 3, none⟩ (.int .i64 0)).setCell ⟨Z, 4, none⟩ (.int .i64 0)).setCell ⟨Z, 5, none⟩ (.int .i64 0)) Z #[.int .i64 0, .int .i64 0, .int .i64 0, .int .i64 0, .int .i64 0, .int .i64 0] := ((((((hZ.set 0 (.int .i64 0)).set 1 (.int .i64 0)).set 2 (.int .i64 0)).set 3 (.int .i64 0)).set 4 (.int .i64 0)).set 5 (.int .i64 0)).as (by simp)
  have hok3 := ((((((hok.setCell (p := ⟨Z, 0, none⟩) hwZ (.int .i64 0)).setCell (p := ⟨Z, 1, none⟩) hwZ (.int .i64 0)).setCell (p := ⟨Z, 2, none⟩) hwZ (.int .i64 0)).setCell (p := ⟨Z, 3, none⟩) hwZ (.int .i64 0)).setCell (p := ⟨Z, 4, none⟩) hwZ (.int .i64 0)).setCell (p := ⟨Z, 5, none⟩) hwZ (.int .i64 0))
  generalize ((((((w1.setCell ⟨Z, 0, none⟩ (.int .i64 0)).setCell ⟨Z, 1, none⟩ (.int .i64 0)).setCell ⟨Z, 2, none⟩ (.int .i64 0)).setCell ⟨Z, 3, none⟩ (.int .i64 0)).setCell ⟨Z, 4, none⟩ (.int .i64 0)).setCell ⟨Z, 5, none⟩ (.int .i64 0)) = W9 at hX hok3 ⊢
  exact bodyPost_ret (v := .tuple #[lbV lb0, .int .i64 2]) (by simp [results, Tryd.results9, go_sem, lbV, lb0, hX.cell 0 rfl, hX.cell 1 rfl, hX.cell 2 rfl, hX.cell 3 rfl, hX.cell 4 rfl, hX.cell 5 rfl]) rfl ⟨rfl, hok3⟩
theorem nilStamp (w : World) : Calls Tryd.prog 15 #[.pointer none] w fun e w' => e = .returned (.tuple #[stV (0, 0), .int .i64 2]) ∧ Ok w w' := by
  have hok := (Ok.refl w).alloc (.cells #[.int .i64 0, .int .i64 0] 28)
  have hZ := Own.new w #[.int .i64 0, .int .i64 0] 28 rfl
  go_enter Tryd.func15, Tryd.ntmps15
  go_upto_region 1 with fail
  change Code.wp _ _ _ _ (w.alloc (.cells #[.int .i64 0, .int .i64 0] 28))
  generalize w.alloc (.cells #[.int .i64 0, .int .i64 0] 28) = W at hZ hok ⊢
  obtain ⟨Z, hZe⟩ : ∃ r, w.heap.size = r := ⟨_, rfl⟩
  have hwZ : w.heap.size ≤ Z := by omega
  rw [hZe] at hZ ⊢
  clear hZe
  obtain ⟨z0, z1⟩ : (W).cell? ⟨Z, 0, none⟩ = some (.int .i64 0) ∧ (W).cell? ⟨Z, 1, none⟩ = some (.int .i64 0) := ⟨hZ.cell 0 rfl, hZ.cell 1 rfl⟩
  obtain ⟨y0, y1⟩ : (W).frozen? ⟨Z, 0, none⟩ = false ∧ (W).frozen? ⟨Z, 1, none⟩ = false := ⟨hZ.frozen 0, hZ.frozen 1⟩
  have hzl := hZ.lt
  go_wp2_with fail
  have hX : Own ((W.setCell ⟨Z, 0, none⟩ (.int .i64 0)).setCell ⟨Z, 1, none⟩ (.int .i64 0)) Z #[.int .i64 0, .int .i64 0] := ((hZ.set 0 (.int .i64 0)).set 1 (.int .i64 0)).as (by simp)
  have hok3 := ((hok.setCell (p := ⟨Z, 0, none⟩) hwZ (.int .i64 0)).setCell (p := ⟨Z, 1, none⟩) hwZ (.int .i64 0))
  generalize ((W.setCell ⟨Z, 0, none⟩ (.int .i64 0)).setCell ⟨Z, 1, none⟩ (.int .i64 0)) = W9 at hX hok3 ⊢
  exact bodyPost_ret (v := .tuple #[stV (0, 0), .int .i64 2]) (by simp [results, Tryd.results15, go_sem, hX.cell 0 rfl, hX.cell 1 rfl]) rfl ⟨rfl, hok3⟩
theorem nilListen (x : Int × Int) (w : World) : Calls Tryd.prog 16 #[.pointer none, stV x] w fun e w' => e = .returned (.tuple #[]) ∧ Ok w w' := by
  have hok := (Ok.refl w).alloc (.cells #[.int .i64 x.1, .int .i64 x.2] 28)
  obtain ⟨x1, x2⟩ := x
  go_enter Tryd.func16, Tryd.ntmps16
  go_wp2
  exact bodyPost_ret (results_none rfl _ _ _) rfl ⟨rfl, hok⟩
theorem nilStep (ticks : Int) (u : Sta) (C : Option Addr) (cup : Nat) (w : World) : Calls Tryd.prog 17 #[.pointer none, .int .i64 ticks, staV u C cup] w fun e w' => e = .returned (.tuple #[]) ∧ Ok w w' := by
  have hok := fun cs => (Ok.refl w).alloc (.cells cs 30)
  go_enter Tryd.func17, Tryd.ntmps17
  go_wp2
  exact bodyPost_ret (results_none rfl _ _ _) rfl ⟨rfl, hok _⟩
end Go.Proofs.YtlclfonlidcfiaaDoor
