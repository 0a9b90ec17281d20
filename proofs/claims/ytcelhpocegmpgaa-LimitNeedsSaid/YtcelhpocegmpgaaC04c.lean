/- The contract of the document's Check. -/
import Derived.Test.YtcelhpocegmpgaaC04b
import Derived.Deep.CutRange
import Derived.BigGuardPart
namespace Go.Proofs.Ytcelhpocegmpgaa
open Go.RowKit
set_option maxRecDepth 100000
attribute [local go_sem ↓] Go.wp_at_zero Go.wp_at_succ
/-- The three tests of the document's Check, each as a whole. -/
def Lim.bad1 (p : Par) : Bool := !decide ((1 ≤ p.n ∧ p.n ≤ 16) ∧ (0 ≤ p.f ∧ 3 * p.f + 1 ≤ p.n) ∧ 0 ≤ p.d ∧ p.d ≤ 16)
def Lim.bad2 (p : Par) : Bool := !decide ((1 ≤ p.beat ∧ p.beat ≤ 1099511627776) ∧ (0 ≤ p.rho ∧ 8 * p.rho ≤ p.beat) ∧ (0 ≤ p.delay ∧ 2 * p.delay ≤ p.beat) ∧ 0 ≤ p.jit ∧ p.jit ≤ p.delay)
def Lim.bad3 (p : Par) : Bool := !decide ((0 ≤ p.eps ∧ p.eps ≤ 1099511627776) ∧ (p.rho < p.mu ∧ 4 * p.mu ≤ p.beat) ∧ (p.d + 2 ≤ p.hold ∧ p.hold ≤ 1048576) ∧ (1 ≤ p.pulse ∧ p.pulse ≤ 1099511627776) ∧ 1 ≤ p.sec ∧ p.sec ≤ 1099511627776)
theorem Lim.may_bad (p : Par) : Lim.May p ↔ ((1 ≤ p.n ∧ p.n ≤ 16) ∧ (0 ≤ p.f ∧ 3 * p.f + 1 ≤ p.n) ∧ 0 ≤ p.d ∧ p.d ≤ 16) ∧ ((1 ≤ p.beat ∧ p.beat ≤ 1099511627776) ∧ (0 ≤ p.rho ∧ 8 * p.rho ≤ p.beat) ∧ (0 ≤ p.delay ∧ 2 * p.delay ≤ p.beat) ∧ 0 ≤ p.jit ∧ p.jit ≤ p.delay) ∧ ((0 ≤ p.eps ∧ p.eps ≤ 1099511627776) ∧ (p.rho < p.mu ∧ 4 * p.mu ≤ p.beat) ∧ (p.d + 2 ≤ p.hold ∧ p.hold ≤ 1048576) ∧ (1 ≤ p.pulse ∧ p.pulse ≤ 1099511627776) ∧ 1 ≤ p.sec ∧ p.sec ≤ 1099511627776) := by
  unfold Lim.May Lim.Gates Lim.Beat Lim.Beats Lim.Users
  constructor
  · intro h; omega
  · intro h; omega
theorem Lim.or3 (a b c : Prop) : (¬ a ∨ ¬ b) ∨ ¬ c ↔ ¬ (a ∧ b ∧ c) := by
  by_cases a <;> by_cases b <;> by_cases c <;> simp_all
theorem Lim.check_bad (p : Par) : Lim.check p = if Lim.bad1 p || Lim.bad2 p || Lim.bad3 p then 1 else 0 := by
  have e : (Lim.bad1 p || Lim.bad2 p || Lim.bad3 p) = !decide (Lim.May p) := by
    rw [Bool.eq_iff_iff, Bool.not_eq_true', decide_eq_false_iff_not, Lim.may_bad p]
    simp only [Lim.bad1, Lim.bad2, Lim.bad3, Bool.or_eq_true, Bool.not_eq_true', decide_eq_false_iff_not]
    exact Lim.or3 _ _ _
  rw [e]
  unfold Lim.check
  by_cases h : Lim.May p
  · rw [if_pos h, decide_eq_true h]; rfl
  · rw [if_neg h, decide_eq_false h]; rfl
theorem Lim.bad1_no {p : Par} (h : Lim.bad1 p = false) : ((1 ≤ p.n ∧ p.n ≤ 16) ∧ (0 ≤ p.f ∧ 3 * p.f + 1 ≤ p.n) ∧ 0 ≤ p.d ∧ p.d ≤ 16) := by simpa only [Lim.bad1, Bool.not_eq_false', decide_eq_true_eq] using h
theorem Lim.bad2_no {p : Par} (h : Lim.bad2 p = false) : ((1 ≤ p.beat ∧ p.beat ≤ 1099511627776) ∧ (0 ≤ p.rho ∧ 8 * p.rho ≤ p.beat) ∧ (0 ≤ p.delay ∧ 2 * p.delay ≤ p.beat) ∧ 0 ≤ p.jit ∧ p.jit ≤ p.delay) := by simpa only [Lim.bad2, Bool.not_eq_false', decide_eq_true_eq] using h

theorem Lim.bad1_of {p : Par} {b : Bool} (h : b = true ↔ ¬ ((1 ≤ p.n ∧ p.n ≤ 16) ∧ (0 ≤ p.f ∧ 3 * p.f + 1 ≤ p.n) ∧ 0 ≤ p.d ∧ p.d ≤ 16)) : Value.bool b = Value.bool (Lim.bad1 p) := by
  rw [show b = Lim.bad1 p from ?_]
  rw [Bool.eq_iff_iff, h]
  simp only [Lim.bad1, Bool.not_eq_true', decide_eq_false_iff_not]
theorem Lim.bad2_of {p : Par} {b : Bool} (h : b = true ↔ ¬ ((1 ≤ p.beat ∧ p.beat ≤ 1099511627776) ∧ (0 ≤ p.rho ∧ 8 * p.rho ≤ p.beat) ∧ (0 ≤ p.delay ∧ 2 * p.delay ≤ p.beat) ∧ 0 ≤ p.jit ∧ p.jit ≤ p.delay)) : Value.bool b = Value.bool (Lim.bad2 p) := by
  rw [show b = Lim.bad2 p from ?_]
  rw [Bool.eq_iff_iff, h]
  simp only [Lim.bad2, Bool.not_eq_true', decide_eq_false_iff_not]
theorem Lim.bad3_of {p : Par} {b : Bool} (h : b = true ↔ ¬ ((0 ≤ p.eps ∧ p.eps ≤ 1099511627776) ∧ (p.rho < p.mu ∧ 4 * p.mu ≤ p.beat) ∧ (p.d + 2 ≤ p.hold ∧ p.hold ≤ 1048576) ∧ (1 ≤ p.pulse ∧ p.pulse ≤ 1099511627776) ∧ 1 ≤ p.sec ∧ p.sec ≤ 1099511627776)) : Value.bool b = Value.bool (Lim.bad3 p) := by
  rw [show b = Lim.bad3 p from ?_]
  rw [Bool.eq_iff_iff, h]
  simp only [Lim.bad3, Bool.not_eq_true', decide_eq_false_iff_not]
set_option maxHeartbeats 3200000 in
theorem ref4Check (p : Par) (w : World) : Calls Try.prog 10 #[parV p] w fun e w' => e = .returned (.int .i64 (Lim.check p)) ∧ Ok w w' := by
  have hok := Ok.refl w
  obtain ⟨r, hr⟩ : ∃ r, Lim.check p = r := ⟨_, rfl⟩
  rw [hr]
  have HR := Lib.hid (Lim.check_bad p ▸ hr)
  clear hr
  go_enter Try.func10, Try.ntmps10
  iterate 7 go_step
  have hS := Own.new w (parCells p) 23 rfl
  obtain ⟨c0, c1, c2, c3, c4, c5, c6, c7, c8, c9, c10, c11⟩ := hS.pars
  replace hok := hok.alloc (.cells (parCells p) 23)
  clear hS
  obtain ⟨g, hg⟩ : ∃ g, w.heap.size = g := ⟨_, rfl⟩
  rw [hg] at c0 c1 c2 c3 c4 c5 c6 c7 c8 c9 c10 c11 ⊢
  generalize w.alloc (.cells (parCells p) 23) = W at hok c0 c1 c2 c3 c4 c5 c6 c7 c8 c9 c10 c11 ⊢
  clear hg
  go_upto_region 1 with fail
  go_cut [42] from 4 to 42 (fun s wx => s = .bool (Lim.bad1 p) ∧ W = wx)
  case first =>
    go_wp2_with fail
    all_goals
      go_meet
      refine ⟨Lim.bad1_of ?_, rfl⟩
      simp only [Bool.or_eq_true, decide_eq_true_eq, true_iff]
      omega
  case rest =>
  obtain ⟨rfl, rfl⟩ := hcut
  cases hb1 : Lim.bad1 p
  rotate_left
  · go_wp2_with fail
    go_ret
    exact ⟨by rw [← HR.out, hb1]; rfl, hok⟩
  have A1 := Lim.bad1_no hb1
  have hb1 := Lib.hid hb1
  go_upto_region 4 with fail
  go_cut [101] from 43 to 101 (fun s wx => s = .bool (Lim.bad2 p) ∧ W = wx)
  case first =>
    clear A1
    go_wp2_with fail
    all_goals
      go_meet
      refine ⟨Lim.bad2_of ?_, rfl⟩
      simp only [Bool.or_eq_true, decide_eq_true_eq, true_iff]
      omega
  case rest =>
  obtain ⟨rfl, rfl⟩ := hcut
  cases hb2 : Lim.bad2 p
  rotate_left
  · go_wp2_with fail
    go_ret
    exact ⟨by rw [← HR.out, hb2, Bool.or_true]; rfl, hok⟩
  have A2 := Lim.bad2_no hb2
  have hb2 := Lib.hid hb2
  go_upto_region 6 with fail
  go_cut [166] from 102 to 166 (fun s wx => s = .bool (Lim.bad3 p) ∧ W = wx)
  case first =>
    obtain ⟨-, -, A1⟩ := A1
    replace A2 := And.intro A2.1.2 A2.2.1
    dsimp only [List.append]
    go_wp2_with fail
    all_goals
      go_meet
      refine ⟨Lim.bad3_of ?_, rfl⟩
      clear A1
      simp only [Bool.or_eq_true, decide_eq_true_eq, true_iff]
      omega
  case rest =>
  obtain ⟨rfl, rfl⟩ := hcut
  cases hb3 : Lim.bad3 p
  · go_wp2_with fail
    go_ret
    exact ⟨by rw [← HR.out, hb1.out, hb2.out, hb3]; rfl, hok⟩
  · go_wp2_with fail
    go_ret
    exact ⟨by rw [← HR.out, hb3, Bool.or_true]; rfl, hok⟩
end Go.Proofs.Ytcelhpocegmpgaa
