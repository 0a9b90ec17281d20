/- Contracts of layer 17: the document's Leap, Days, Year, Begin, Day. -/
import Derived.Test.YtacphjdkobodnaaDoorW02
import Derived.Test.YtacphjdkobodnaaDoorM33
import Derived.Deep.QuietTactic
import Derived.BigQuiet
import Derived.Deep.DrawnRows
namespace Go.Proofs.YtacphjdkobodnaaDoor
open Go.RowKit
set_option maxRecDepth 100000
attribute [local go_sem ↓] Go.wp_at_zero Go.wp_at_succ

theorem ref17Leap (y : Int) (w : World) : Calls Tryd.prog 56 #[.int .i64 y] w fun e w' => e = .returned (.bool (Civil.isLeap y)) ∧ w = w' := by
  have b4 : -4 < y.tmod 4 ∧ y.tmod 4 < 4 := Civil.tmod_bd y 4 (by omega)
  have b1 : -100 < y.tmod 100 ∧ y.tmod 100 < 100 := Civil.tmod_bd y 100 (by omega)
  have b5 : -400 < y.tmod 400 ∧ y.tmod 400 < 400 := Civil.tmod_bd y 400 (by omega)
  have z4 := Civil.tmod_zero y 4
  have z1 := Civil.tmod_zero y 100
  have z5 := Civil.tmod_zero y 400
  have K : Civil.isLeap y = decide (y.tmod 4 = 0 ∧ (y.tmod 100 ≠ 0 ∨ y.tmod 400 = 0)) := by
    unfold Civil.isLeap; rw [decide_eq_decide, ← z4, ← z5, Ne, Ne, ← z1]
  have K5 : y.tmod 400 = 0 → y.tmod 4 = 0 := fun h => by rw [z4]; have := z5.1 h; omega
  rw [K]
  clear K z4 z1 z5
  obtain ⟨A, hA⟩ : ∃ A, y.tmod 4 = A := ⟨_, rfl⟩
  obtain ⟨B, hB⟩ : ∃ B, y.tmod 100 = B := ⟨_, rfl⟩
  obtain ⟨C, hC⟩ : ∃ C, y.tmod 400 = C := ⟨_, rfl⟩
  rw [hA] at b4 K5 ⊢
  rw [hB] at b1 ⊢
  rw [hC] at b5 K5 ⊢
  by_cases d4 : A = 0 <;> by_cases d1 : B = 0 <;> by_cases d5 : C = 0
  all_goals first
    | (exfalso; exact d4 (K5 d5))
    | (clear K5
       simp only [d4, d1, d5, ne_eq, not_true, not_false_iff, false_and, true_and, or_true, true_or, or_self, decide_true, decide_false]
       go_enter Tryd.func56, Tryd.ntmps56
       go_wp2
       go_ret
       first | exact ⟨rfl, rfl⟩ | (refine ⟨?_, rfl⟩; simp [d1]; done))
theorem ref17Days (y m : Int) (w : World) : Calls Tryd.prog 45 #[.int .i64 y, .int .i64 m] w fun e w' => e = .returned (.int .i64 (Civil.days y m)) ∧ Ok w w' := by
  have hok := Ok.refl w
  by_cases h1 : m < 1
  · rw [Civil.days_no (Or.inl h1)]
    go_enter Tryd.func45, Tryd.ntmps45
    go_wp2
    go_ret
    exact ⟨rfl, hok⟩
  by_cases h2 : 12 < m
  · rw [Civil.days_no (Or.inr h2)]
    go_enter Tryd.func45, Tryd.ntmps45
    go_wp2
    go_ret
    exact ⟨rfl, hok⟩
  by_cases h3 : m = 2
  · subst h3
    obtain ⟨L, hL⟩ : ∃ L, Civil.isLeap y = L := ⟨_, rfl⟩
    have KL := Lib.hid fun w => ref17Leap y w
    rw [hL] at KL
    cases L
    · rw [show Civil.days y 2 = 28 by rw [Civil.days_feb, Civil.one_f hL]; rfl]
      clear hL h1 h2
      go_enter Tryd.func45, Tryd.ntmps45
      go_wp2_with (go_at_call 56; refine (KL.out _).mono ?_; rintro e w' ⟨rfl, rfl⟩)
      go_ret
      exact ⟨rfl, hok⟩
    · rw [show Civil.days y 2 = 29 by rw [Civil.days_feb, Civil.one_t hL]; rfl]
      clear hL h1 h2
      go_enter Tryd.func45, Tryd.ntmps45
      go_wp2_with (go_at_call 56; refine (KL.out _).mono ?_; rintro e w' ⟨rfl, rfl⟩)
      go_ret
      exact ⟨rfl, hok⟩
  · have hc : m = 1 ∨ m = 3 ∨ m = 4 ∨ m = 5 ∨ m = 6 ∨ m = 7 ∨ m = 8 ∨ m = 9 ∨ m = 10 ∨ m = 11 ∨ m = 12 := by omega
    clear h1 h2 h3
    rcases hc with rfl | rfl | rfl | rfl | rfl | rfl | rfl | rfl | rfl | rfl | rfl
    all_goals
      simp only [Civil.days]
      simp only [Int.reduceLT, Int.reduceEq, or_self, or_true, or_false, if_true, if_false]
      go_enter Tryd.func45, Tryd.ntmps45
      go_wp2
      go_ret
      exact ⟨rfl, hok⟩
theorem ref17Year (y : Int) (w : World) : Calls Tryd.prog 44 #[.int .i64 y] w fun e w' => e = .returned (.int .i64 (365 + Civil.one y)) ∧ Ok w w' := by
  have hok := Ok.refl w
  have KL := Lib.hid fun w => ref17Leap y w
  obtain ⟨L, hL⟩ : ∃ L, Civil.isLeap y = L := ⟨_, rfl⟩
  rw [hL] at KL
  cases L
  · rw [Civil.one_f hL]
    clear hL
    go_enter Tryd.func44, Tryd.ntmps44
    go_wp2_with (go_at_call 56; refine (KL.out _).mono ?_; rintro e w' ⟨rfl, rfl⟩)
    go_ret
    exact ⟨rfl, hok⟩
  · rw [Civil.one_t hL]
    clear hL
    go_enter Tryd.func44, Tryd.ntmps44
    go_wp2_with (go_at_call 56; refine (KL.out _).mono ?_; rintro e w' ⟨rfl, rfl⟩)
    go_ret
    exact ⟨rfl, hok⟩
end Go.Proofs.YtacphjdkobodnaaDoor
