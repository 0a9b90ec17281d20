/- Contracts of layer 17: the program's Leap, Days, isDay, newYear, Weekday. -/
import Derived.Test.YtacphjdkobodnaaDoorC02b
import Derived.Test.YtacphjdkobodnaaDoorM33
import Derived.Deep.QuietTactic
import Derived.BigQuiet
namespace Go.Proofs.YtacphjdkobodnaaDoor
open Go.RowKit Go.Lib
set_option maxRecDepth 100000

/-- The table of the months' days, as it lies. -/
def Tab (w : World) : Prop := 0 < w.heap.size ∧ ∀ k : Nat, k < 12 → w.cell? ⟨0, k, none⟩ = some (.int .i64 (Civil.lens k))
theorem Tab.next {w w' : World} (h : Tab w) (hb : Ok w w') : Tab w' := ⟨Nat.lt_of_lt_of_le h.1 hb.size, fun k hk => (hb.cell h.1).trans (h.2 k hk)⟩

theorem civilLeap (y : Int) (w : World) : Calls Tryd.prog 57 #[.int .i64 y] w fun e w' => e = .returned (.bool (Civil.isLeap y)) ∧ w = w' := by
  have b4 : -4 < y.tmod 4 ∧ y.tmod 4 < 4 := Civil.tmod_bd y 4 (by omega)
  have b1 : -100 < y.tmod 100 ∧ y.tmod 100 < 100 := Civil.tmod_bd y 100 (by omega)
  have b5 : -400 < y.tmod 400 ∧ y.tmod 400 < 400 := Civil.tmod_bd y 400 (by omega)
  have z4 := Civil.tmod_zero y 4
  have z1 := Civil.tmod_zero y 100
  have z5 := Civil.tmod_zero y 400
  have K : Civil.isLeap y = decide (y.tmod 4 = 0 ∧ (y.tmod 100 ≠ 0 ∨ y.tmod 400 = 0)) := by
    unfold Civil.isLeap; rw [decide_eq_decide, ← z4, ← z5, Ne, Ne, ← z1]
  rw [K]
  clear K z4 z1 z5
  obtain ⟨A, hA⟩ : ∃ A, y.tmod 4 = A := ⟨_, rfl⟩
  obtain ⟨B, hB⟩ : ∃ B, y.tmod 100 = B := ⟨_, rfl⟩
  obtain ⟨C, hC⟩ : ∃ C, y.tmod 400 = C := ⟨_, rfl⟩
  rw [hA] at b4 ⊢
  rw [hB] at b1 ⊢
  rw [hC] at b5 ⊢
  by_cases d4 : A = 0 <;> by_cases d1 : B = 0 <;> by_cases d5 : C = 0
  all_goals
    simp only [d4, d1, d5, ne_eq, not_true, not_false_iff, false_and, true_and, or_true, true_or, or_self, decide_true, decide_false]
    go_enter Tryd.func57, Tryd.ntmps57
    go_wp2
    go_ret
    first | exact ⟨rfl, rfl⟩ | exact ⟨by simp [d5], rfl⟩ | exact ⟨by simp [d1], rfl⟩ | exact ⟨by simp [d4], rfl⟩ | exact ⟨by simp [d4, d1, d5], rfl⟩
theorem civilDays (y m : Int) (w : World) (hT : Tab w) : Calls Tryd.prog 46 #[.int .i64 y, .int .i64 m] w fun e w' => e = .returned (.int .i64 (Civil.days y m)) ∧ Ok w w' := by
  have hok := Ok.refl w
  by_cases h1 : m < 1
  · rw [Civil.days_no (Or.inl h1)]
    go_enter Tryd.func46, Tryd.ntmps46
    go_wp2
    go_ret
    exact ⟨rfl, hok⟩
  by_cases h2 : 12 < m
  · rw [Civil.days_no (Or.inr h2)]
    go_enter Tryd.func46, Tryd.ntmps46
    go_wp2
    go_ret
    exact ⟨rfl, hok⟩
  obtain ⟨k, rfl⟩ : ∃ k : Nat, m = (k : Int) + 1 := ⟨(m - 1).toNat, by omega⟩
  have hk : k < 12 := by omega
  have hc := hT.2 k hk
  have hlt := hT.1
  have hl := Civil.lens_bd k
  by_cases h3 : k = 1
  · subst h3
    have e : Civil.lens 1 = 28 := rfl
    rw [e] at hc
    clear e hl h1 h2 hk hT
    obtain ⟨L, hL⟩ : ∃ L, Civil.isLeap y = L := ⟨_, rfl⟩
    have KL := Lib.hid fun w => civilLeap y w
    rw [hL] at KL
    cases L
    · have e : Civil.days y (((1 : Nat) : Int) + 1) = 28 := by show Civil.days y 2 = 28; rw [Civil.days_feb, Civil.one_f hL]; rfl
      rw [e]
      clear e hL
      go_enter Tryd.func46, Tryd.ntmps46
      go_wp2_with (go_at_call 57; refine (KL.out _).mono ?_; rintro e w' ⟨rfl, rfl⟩)
      go_ret
      exact ⟨rfl, hok⟩
    · have e : Civil.days y (((1 : Nat) : Int) + 1) = 29 := by show Civil.days y 2 = 29; rw [Civil.days_feb, Civil.one_t hL]; rfl
      rw [e]
      clear e hL
      go_enter Tryd.func46, Tryd.ntmps46
      go_wp2_with (go_at_call 57; refine (KL.out _).mono ?_; rintro e w' ⟨rfl, rfl⟩)
      go_ret
      exact ⟨rfl, hok⟩
  · rw [Civil.days_lens y k hk h3]
    generalize Civil.lens k = n at hc hl ⊢
    go_enter Tryd.func46, Tryd.ntmps46
    go_wp2
    go_ret
    exact ⟨rfl, hok⟩
theorem civilIsDay (n : Int) (w : World) : Calls Tryd.prog 48 #[.int .i64 n] w fun e w' => e = .returned (.bool (decide (Civil.inn n))) ∧ w = w' := by
  by_cases h1 : -4294967296 ≤ n <;> by_cases h2 : n ≤ 4294967296
  all_goals
    first
    | rw [decide_eq_true (show Civil.inn n from ⟨h1, h2⟩)]
    | rw [decide_eq_false (show ¬ Civil.inn n from fun h => by unfold Civil.inn at h; omega)]
    go_enter Tryd.func48, Tryd.ntmps48
    go_wp2
    go_ret
    exact ⟨rfl, rfl⟩
end Go.Proofs.YtacphjdkobodnaaDoor
