/- Contracts of layer 9: how two timers stand; is a timer that of a number? -/
import Derived.Test.YtfankcoomfmjlaaW25
import Derived.Test.YtfankcoomfmjlaaM21
import Derived.Deep.RegionHeld3
namespace Go.Proofs.Ytfankcoomfmjlaa
open Go.RowKit
set_option maxRecDepth 100000
def tmcells (x : Tm) : List Value := [.int .i64 x.id, .int .i64 x.t]
theorem tmcells_length (x : Tm) : (tmcells x).length = 2 := rfl
/-- How two numbers stand. -/
def c3 (x y : Int) : Int := if x < y then -1 else if y < x then 1 else 0
def ord (x y : Tm) : Int := if c3 x.t y.t ≠ 0 then c3 x.t y.t else c3 x.id y.id
theorem ord_neg (x y : Tm) : ord x y < 0 ↔ Alarm.lt x y := by
  unfold ord c3 Alarm.lt
  rcases Int.lt_trichotomy x.t y.t with h | h | h <;> rcases Int.lt_trichotomy x.id y.id with k | k | k <;> simp [h, k, Int.lt_irrefl] <;> omega
theorem ord_bd (x y : Tm) : -1 ≤ ord x y ∧ ord x y ≤ 1 := by
  unfold ord c3
  repeat' split
  all_goals omega
theorem cmpNaNi (x : Int) (w : World) : Calls Try.prog 29 #[.int .i64 x] w fun e w' => e = .returned (.bool false) ∧ w = w' := by
  have h : (x != x) = false := by simp
  go_enter Try.func29, Try.ntmps29
  go_wp2
  go_ret
  exact ⟨rfl, rfl⟩
theorem cmpCompare (x y : Int) (w : World) : Calls Try.prog 27 #[.int .i64 x, .int .i64 y] w fun e w' => e = .returned (.int .i64 (c3 x y)) ∧ w = w' := by
  rcases Int.lt_trichotomy x y with h | h | h
  · have e : c3 x y = -1 := by unfold c3; rw [if_pos h]
    rw [e]; clear e
    go_enter Try.func27, Try.ntmps27
    go_wp2_with (go_at_call 29; refine (cmpNaNi _ _).mono ?_; rintro e w' ⟨rfl, rfl⟩)
    go_ret
    exact ⟨rfl, rfl⟩
  · have e : c3 x y = 0 := by unfold c3; rw [if_neg (by omega), if_neg (by omega)]
    rw [e]; clear e
    have h1 : ¬ x < y := by omega
    have h2 : ¬ y < x := by omega
    clear h
    go_enter Try.func27, Try.ntmps27
    go_wp2_with (go_at_call 29; refine (cmpNaNi _ _).mono ?_; rintro e w' ⟨rfl, rfl⟩)
    go_ret
    exact ⟨rfl, rfl⟩
  · have e : c3 x y = 1 := by unfold c3; rw [if_neg (by omega), if_pos h]
    rw [e]; clear e
    go_enter Try.func27, Try.ntmps27
    go_wp2_with (go_at_call 29; refine (cmpNaNi _ _).mono ?_; rintro e w' ⟨rfl, rfl⟩)
    go_ret
    exact ⟨rfl, rfl⟩
set_option maxHeartbeats 400000 in
theorem cmpOrAt (x y : Int) (W : World) (b : Nat) (c0 : W.cell? ⟨b, 0, none⟩ = some (.int .i64 x)) (c1 : W.cell? ⟨b, 1, none⟩ = some (.int .i64 y)) :
    Calls Try.prog 26 #[.slice (some ⟨b, 0, none⟩) 2 2] W fun e w' => e = .returned (.int .i64 (if x ≠ 0 then x else y)) ∧ W = w' := by
  by_cases hx : x = 0
  · subst hx
    rw [if_neg (by simp)]
    by_cases hy : y = 0
    · subst hy
      go_enter Try.func26, Try.ntmps26
      go_wp2
      refine wp_loop_rounds 3 ?_
      repeat (rw [rounds_succ]; go_wp2)
      go_ret
      exact ⟨rfl, rfl⟩
    · have h1 : (y == 0) = false := by rw [beq_eq_false_iff_ne]; exact hy
      have h2 : (y != 0) = true := by rw [bne_iff_ne]; exact hy
      go_enter Try.func26, Try.ntmps26
      go_wp2
      refine wp_loop_rounds 3 ?_
      repeat (rw [rounds_succ]; go_wp2)
      go_ret
      exact ⟨rfl, rfl⟩
  · rw [if_pos hx]
    have h1 : (x == 0) = false := by rw [beq_eq_false_iff_ne]; exact hx
    have h2 : (x != 0) = true := by rw [bne_iff_ne]; exact hx
    go_enter Try.func26, Try.ntmps26
    go_wp2
    refine wp_loop_rounds 3 ?_
    repeat (rw [rounds_succ]; go_wp2)
    go_ret
    exact ⟨rfl, rfl⟩
/-- Is a timer that of the number that lies in the block b? -/
theorem dropIs (x : Tm) (i : Int) (b : Nat) (w : World) (hb : w.cell? ⟨b, 0, none⟩ = some (.int .i64 i)) (hl : b < w.heap.size) :
    Calls Try.prog 21 #[.agg #[.int .i64 x.id, .int .i64 x.t], .pointer (some ⟨b, 0, none⟩)] w fun e w' => e = .returned (.bool (decide (x.id = i))) ∧ Ok w w' := by
  have hok := Ok.refl w
  obtain ⟨xi, xt⟩ := x
  have hb1 : (w.alloc (.cells #[.int .i64 xi, .int .i64 xt] 50)).cell? ⟨b, 0, none⟩ = some (.int .i64 i) := ((below_alloc w _).cell (p := ⟨b, 0, none⟩) hl).trans hb
  by_cases h : xi = i
  · subst h
    rw [show decide (xi = xi) = true from decide_eq_true rfl]
    go_enter Try.func21, Try.ntmps21
    go_wp2
    go_ret
    exact ⟨by simp, hok.alloc _⟩
  · have hd : (xi == i) = false := by rw [beq_eq_false_iff_ne]; exact h
    rw [show decide (xi = i) = false from decide_eq_false h]
    go_enter Try.func21, Try.ntmps21
    go_wp2
    go_ret
    exact ⟨by simp, hok.alloc _⟩
end Go.Proofs.Ytfankcoomfmjlaa
