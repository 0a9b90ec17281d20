/- Several texts of mine in one: C21u. -/
import Derived.Test.YtmmiboblofopgaaGreatB20
import Derived.Test.YtmmiboblofopgaaGreatC13a
/- Contracts of layer 21: the Front's UTC and Pulse, the document's UTC; what a nil Front tells. -/
namespace Go.Proofs.YtmmiboblofopgaaGreat
open Go.RowKit
set_option linter.unusedVariables false
set_option maxRecDepth 100000
attribute [local go_sem ↓] Go.wp_at_zero Go.wp_at_succ
/-- What each operation leaves. -/
def VMPulP (G : Nat) (p : Par) (s : Sta) (m : Int) (w : World) (v : Value) : Nat → Prop
  | 0 => v = .pointer (some ⟨G, 0, none⟩)
  | 1 => v = .pointer (some ⟨G, 0, none⟩)
  | 2 => v = .pointer (some ⟨G, 0, none⟩)
  | 3 => v = parV p
  | 4 => v = .pointer (some ⟨G, 0, none⟩)
  | 5 => v = .pointer (some ⟨G, 0, none⟩)
  | 6 => v = .pointer (some ⟨G, 12, none⟩)
  | 7 => v = .pointer (some ⟨G, 14, none⟩)
  | 8 => v = .int .i64 s.time
  | 9 => v = .int .i64 m
  | 10 => v = .int .i64 m
  | 11 => v = .int .i64 0
  | _ => v = .bool true
/-- It stays so. -/
def VCPulP (G : Nat) (p : Par) (s : Sta) (m : Int) (i : Nat) (v : Value) (w : World) : Prop := ∀ w', Ok w w' → VMPulP G p s m w' v i
theorem frontPulse (R : List Value) (G : Nat) (p : Par) (s : Sta) (A : Option Addr) (cap : Nat) (w : World) (hO : Own w G (frontCellsR R p s A cap)) : Calls Tryz.prog 49 #[.pointer (some ⟨G, 0, none⟩)] w fun e w' => e = .returned (.tuple #[.int .i64 (if Health.of p s = 0 then 0 else Pulse.num p.pulse s.time), .int .i64 (if Health.of p s = 0 then 20 else 0)]) ∧ Ok w w' := by
  have hok := Ok.refl w
  have KR := Lib.hid fun w h => frontReady R G p s A cap w h
  have KN := Lib.hid fun w => pulseNumber p s.time w
  generalize Pulse.num p.pulse s.time = m at KN ⊢
  generalize Health.of p s = h at KR ⊢
  by_cases j : h = 0
  · simp only [if_pos j] at KR ⊢
    clear j
    go_enter Tryz.func49, Tryz.ntmps49
    go_wp2_with (go_at_call 65; refine (KR.out _ hO).mono ?_; rintro e w1 ⟨rfl, hb1⟩; replace hO := hO.next hb1; replace hok := hok.trans hb1; clear hb1; obtain ⟨s0, s1, s2, s3, s4, s5, s6, s7, s8, s9, s10⟩ := hO.frS; have hgl := hO.lt)
    go_ret2
    exact ⟨rfl, hok⟩
  · simp only [if_neg j] at KR ⊢
    clear j
    go_enter Tryz.func49, Tryz.ntmps49
    go_upto_region 4 with (go_at_call 65; refine (KR.out _ hO).mono ?_; rintro e w1 ⟨rfl, hb1⟩; replace hO := hO.next hb1; replace hok := hok.trans hb1; clear hb1; obtain ⟨s0, s1, s2, s3, s4, s5, s6, s7, s8, s9, s10⟩ := hO.frS; have hgl := hO.lt)
    clear s0 s1 s2 s3 s4 s5 s6 s7 s8 s9 s10 hgl
    have HOK := Lib.hid hok
    have HQ := Lib.hid fun W' (k : Ok w1.drew W') => hO.drew.next k
    clear hO hok
    refine wp_region_facts (by kernel_rfl) 20 rfl (VCPulP G p s m) Ok (by kernel_rfl) (fun i v w w' h k w'' k' => h w'' (k.trans k')) (fun a b c => Ok.trans) (Ok.refl _) [some 10, some 11, some 12, some 13, some 14, some 15, some 16, some 17, some 18, some 19, some 2, some 3] rfl 12 rfl ⟨?_, ?_, ?_, ?_, ?_, ?_, ?_, ?_, ?_, ?_, ?_, ?_, trivial⟩ ?_
    · intro a' w' hF hR
      have e0 : a'.tmps[0]? = some (.pointer (some ⟨G, 0, none⟩)) := hF.slot 0 (by kernel_rfl) rfl
      refine wpOp_run (v := .pointer (some ⟨G, 0, none⟩)) rfl rfl ?_ (fun _ _ => rfl) (Ok.refl _)
      clear hF
      go_simp
    · intro a' w' hF hR
      obtain ⟨v0, hv0, e10⟩ := hF.get 0 10 (by kernel_rfl) (by kernel_rfl)
      obtain rfl : v0 = _ := hv0 _ (Ok.refl _)
      refine wpOp_run (v := .pointer (some ⟨G, 0, none⟩)) rfl rfl ?_ (fun _ _ => rfl) (Ok.refl _)
      clear hF
      go_simp
    · intro a' w' hF hR
      obtain ⟨v1, hv1, e11⟩ := hF.get 1 11 (by kernel_rfl) (by kernel_rfl)
      obtain rfl : v1 = _ := hv1 _ (Ok.refl _)
      refine wpOp_run (v := .pointer (some ⟨G, 0, none⟩)) rfl rfl ?_ (fun _ _ => rfl) (Ok.refl _)
      clear hF
      go_simp
    · intro a' w' hF hR
      obtain ⟨v2, hv2, e12⟩ := hF.get 2 12 (by kernel_rfl) (by kernel_rfl)
      obtain rfl : v2 = _ := hv2 _ (Ok.refl _)
      obtain ⟨c0, c1, c2, c3, c4, c5, c6, c7, c8, c9, c10, c11⟩ := (HQ.out _ hR).frP
      have hgl := (HQ.out _ hR).lt
      refine wpOp_run (v := parV p) rfl rfl ?_ (fun _ _ => rfl) (Ok.refl _)
      clear hF
      go_simp
    · intro a' w' hF hR
      have e0 : a'.tmps[0]? = some (.pointer (some ⟨G, 0, none⟩)) := hF.slot 0 (by kernel_rfl) rfl
      refine wpOp_run (v := .pointer (some ⟨G, 0, none⟩)) rfl rfl ?_ (fun _ _ => rfl) (Ok.refl _)
      clear hF
      go_simp
    · intro a' w' hF hR
      obtain ⟨v4, hv4, e14⟩ := hF.get 4 14 (by kernel_rfl) (by kernel_rfl)
      obtain rfl : v4 = _ := hv4 _ (Ok.refl _)
      refine wpOp_run (v := .pointer (some ⟨G, 0, none⟩)) rfl rfl ?_ (fun _ _ => rfl) (Ok.refl _)
      clear hF
      go_simp
    · intro a' w' hF hR
      obtain ⟨v5, hv5, e15⟩ := hF.get 5 15 (by kernel_rfl) (by kernel_rfl)
      obtain rfl : v5 = _ := hv5 _ (Ok.refl _)
      refine wpOp_run (v := .pointer (some ⟨G, 12, none⟩)) rfl rfl ?_ (fun _ _ => rfl) (Ok.refl _)
      clear hF
      go_simp
    · intro a' w' hF hR
      obtain ⟨v6, hv6, e16⟩ := hF.get 6 16 (by kernel_rfl) (by kernel_rfl)
      obtain rfl : v6 = _ := hv6 _ (Ok.refl _)
      refine wpOp_run (v := .pointer (some ⟨G, 14, none⟩)) rfl rfl ?_ (fun _ _ => rfl) (Ok.refl _)
      clear hF
      go_simp
    · intro a' w' hF hR
      obtain ⟨v7, hv7, e17⟩ := hF.get 7 17 (by kernel_rfl) (by kernel_rfl)
      obtain rfl : v7 = _ := hv7 _ (Ok.refl _)
      obtain ⟨s0, s1, s2, s3, s4, s5, s6, s7, s8, s9, s10⟩ := (HQ.out _ hR).frS
      have hgl := (HQ.out _ hR).lt
      refine wpOp_run (v := .int .i64 s.time) rfl rfl ?_ (fun _ _ => rfl) (Ok.refl _)
      clear hF
      go_simp
    · intro a' w' hF hR
      obtain ⟨v3, hv3, e13⟩ := hF.get 3 13 (by kernel_rfl) (by kernel_rfl)
      obtain rfl : v3 = _ := hv3 _ (Ok.refl _)
      obtain ⟨v8, hv8, e18⟩ := hF.get 8 18 (by kernel_rfl) (by kernel_rfl)
      obtain rfl : v8 = _ := hv8 _ (Ok.refl _)
      clear hF
      refine wpOp_call (f := 93) (args := #[parV p, .int .i64 s.time]) rfl rfl ?_ ((KN.out _).mono ?_)
      · go_simp
      · rintro e w2 ⟨rfl, hb2⟩; exact ⟨_, rfl, fun _ _ => rfl, hb2⟩
    · intro a' w' hF hR
      obtain ⟨v9, hv9, e19⟩ := hF.get 9 19 (by kernel_rfl) (by kernel_rfl)
      obtain rfl : v9 = _ := hv9 _ (Ok.refl _)
      refine wpOp_run (v := .int .i64 m) rfl rfl ?_ (fun _ _ => rfl) (Ok.refl _)
      clear hF
      go_simp
    · intro a' w' hF hR
      refine wpOp_run (v := .int .i64 0) rfl rfl ?_ (fun _ _ => rfl) (Ok.refl _)
      clear hF
      go_simp
    intro vs w2 hV hR
    have e10 : vs 10 = .int .i64 m := hV 10 (by decide) _ (Ok.refl _)
    have e11 : vs 11 = .int .i64 0 := hV 11 (by decide) _ (Ok.refl _)
    have hok2 := HOK.out.trans ((Ok.refl w1).drew.trans hR)
    clear hV HQ HOK KN KR
    simp only [putFrom, e10, e11]
    simp only [Act.put, List.setIfInBounds_toArray, List.set_cons_zero, List.set_cons_succ]
    go_wp2
    go_ret2
    exact ⟨rfl, hok2⟩
theorem nilReady (w : World) : Calls Tryz.prog 65 #[.pointer none] w fun e w' => e = .returned (.int .i64 2) ∧ Ok w w' := by
  go_enter Tryz.func65, Tryz.ntmps65
  go_wp2
  go_ret
  exact ⟨rfl, Ok.refl w⟩
theorem nilHealth (w : World) : Calls Tryz.prog 21 #[.pointer none] w fun e w' => e = .returned (.int .i64 0) ∧ Ok w w' := by
  go_enter Tryz.func21, Tryz.ntmps21
  go_wp2
  go_ret
  exact ⟨rfl, Ok.refl w⟩
theorem nilNow (w : World) : Calls Tryz.prog 26 #[.pointer none] w fun e w' => e = .returned (.tuple #[.int .i64 0, .int .i64 2]) ∧ Ok w w' := by
  have hok := Ok.refl w
  go_enter Tryz.func26, Tryz.ntmps26
  go_wp2_with (go_at_call 65; refine (nilReady _).mono ?_; rintro e w1 ⟨rfl, hb1⟩; replace hok := hok.trans hb1; clear hb1)
  go_ret2
  exact ⟨rfl, hok⟩
theorem nilPulse (w : World) : Calls Tryz.prog 49 #[.pointer none] w fun e w' => e = .returned (.tuple #[.int .i64 0, .int .i64 2]) ∧ Ok w w' := by
  have hok := Ok.refl w
  go_enter Tryz.func49, Tryz.ntmps49
  go_wp2_with (go_at_call 65; refine (nilReady _).mono ?_; rintro e w1 ⟨rfl, hb1⟩; replace hok := hok.trans hb1; clear hb1)
  go_ret2
  exact ⟨rfl, hok⟩
theorem nilStamp (w : World) : Calls Tryz.prog 50 #[.pointer none] w fun e w' => e = .returned (.tuple #[stV (0, 0), .int .i64 2]) ∧ Ok w w' := by
  have hok := (Ok.refl w).alloc (.cells #[.int .i64 0, .int .i64 0] 28)
  have hZ := Own.new w #[.int .i64 0, .int .i64 0] 28 rfl
  go_enter Tryz.func50, Tryz.ntmps50
  go_upto_region 1 with fail
  change Code.wp _ _ _ _ (w.alloc (.cells #[.int .i64 0, .int .i64 0] 28))
  generalize w.alloc (.cells #[.int .i64 0, .int .i64 0] 28) = W at hZ hok ⊢
  obtain ⟨Z, hZe⟩ : ∃ r, w.heap.size = r := ⟨_, rfl⟩
  have hwZ : w.heap.size ≤ Z := by omega
  rw [hZe] at hZ ⊢
  clear hZe
  obtain ⟨z0, z1⟩ : (W).cell? ⟨Z, 0, none⟩ = some (.int .i64 0) ∧ (W).cell? ⟨Z, 1, none⟩ = some (.int .i64 0) := ⟨hZ.cell 0 rfl, hZ.cell 1 rfl⟩
  obtain ⟨y0, y1⟩ : (W).frozen? ⟨Z, 0, none⟩ = false ∧ (W).frozen? ⟨Z, 1, none⟩ = false := ⟨hZ.frozen 0, hZ.frozen 1⟩
  have hzl := hZ.lt
  go_wp2_with fail
  have hX : Own ((W.setCell ⟨Z, 0, none⟩ (.int .i64 0)).setCell ⟨Z, 1, none⟩ (.int .i64 0)) Z #[.int .i64 0, .int .i64 0] := ((hZ.set 0 (.int .i64 0)).set 1 (.int .i64 0)).as (by simp)
  have hok3 := ((hok.setCell (p := ⟨Z, 0, none⟩) hwZ (.int .i64 0)).setCell (p := ⟨Z, 1, none⟩) hwZ (.int .i64 0))
  generalize ((W.setCell ⟨Z, 0, none⟩ (.int .i64 0)).setCell ⟨Z, 1, none⟩ (.int .i64 0)) = W9 at hX hok3 ⊢
  exact bodyPost_ret (v := .tuple #[stV (0, 0), .int .i64 2]) (by simp [results, Tryz.results50, go_sem, hX.cell 0 rfl, hX.cell 1 rfl]) rfl ⟨rfl, hok3⟩
theorem nilStep (ticks : Int) (u : Sta) (C : Option Addr) (cup : Nat) (w : World) : Calls Tryz.prog 40 #[.pointer none, .int .i64 ticks, staV u C cup] w fun e w' => e = .returned (.tuple #[]) ∧ Ok w w' := by
  have hok := fun cs => (Ok.refl w).alloc (.cells cs 30)
  go_enter Tryz.func40, Tryz.ntmps40
  go_wp2
  exact bodyPost_ret (results_none rfl _ _ _) rfl ⟨rfl, hok _⟩
end Go.Proofs.YtmmiboblofopgaaGreat
