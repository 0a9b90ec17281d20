/- Plain mathematics of layer 17, more: remainders as Go has them, months in a row, days there are. It names no program. -/
import Derived.Test.YtbbkohpaebeidaaDoorM02
import Derived.Test.YtbbkohpaebeidaaDoorM10
namespace Go.Proofs.YtbbkohpaebeidaaDoor
namespace Civil
theorem tmod_zero (y k : Int) : y.tmod k = 0 ↔ y % k = 0 := by rw [← Int.dvd_iff_tmod_eq_zero, ← Int.dvd_iff_emod_eq_zero]
theorem tmod_f {y k : Int} (h : y % k ≠ 0) : (y.tmod k == 0) = false := by rw [beq_eq_false_iff_ne]; exact fun e => h ((tmod_zero y k).1 e)
theorem tmod_t {y k : Int} (h : y % k = 0) : (y.tmod k == 0) = true := by rw [beq_iff_eq]; exact (tmod_zero y k).2 h
theorem tmod_bd (y : Int) (k : Nat) (hk : 0 < k) : -(k : Int) < y.tmod k ∧ y.tmod k < k := by
  rcases Int.lt_or_le y 0 with h | h
  · have e : y.tmod k = -((-y) % k) := by
      rw [← Int.tmod_eq_emod_of_nonneg (by omega : 0 ≤ -y), Int.neg_tmod, Int.neg_neg]
    have a := Int.emod_nonneg (-y) (show (k : Int) ≠ 0 by omega)
    have b := Int.emod_lt_of_pos (-y) (show (0 : Int) < k by omega)
    omega
  · rw [Int.tmod_eq_emod_of_nonneg h]
    have a := Int.emod_nonneg y (show (k : Int) ≠ 0 by omega)
    have b := Int.emod_lt_of_pos y (show (0 : Int) < k by omega)
    omega
/-- The table's months. -/
def lens (k : Nat) : Int := if k = 1 then 28 else if k = 3 ∨ k = 5 ∨ k = 8 ∨ k = 10 then 30 else 31
theorem lens_bd (k : Nat) : 28 ≤ lens k ∧ lens k ≤ 31 := by unfold lens; repeat' split
                                                            all_goals omega
theorem days_lens (y : Int) (k : Nat) (h : k < 12) (hk : k ≠ 1) : days y ((k : Int) + 1) = lens k := by
  unfold days lens
  have hc : k = 0 ∨ k = 2 ∨ k = 3 ∨ k = 4 ∨ k = 5 ∨ k = 6 ∨ k = 7 ∨ k = 8 ∨ k = 9 ∨ k = 10 ∨ k = 11 := by omega
  rcases hc with rfl | rfl | rfl | rfl | rfl | rfl | rfl | rfl | rfl | rfl | rfl <;> simp
theorem days_feb (y : Int) : days y 2 = 28 + one y := by simp [days]
theorem days_le (y m : Int) : 0 ≤ days y m ∧ days y m ≤ 31 := by
  have := one_bd y; unfold days; repeat' split
  all_goals omega
theorem one_t {y : Int} (h : isLeap y = true) : one y = 1 := by unfold one; rw [if_pos h]
theorem one_f {y : Int} (h : isLeap y = false) : one y = 0 := by unfold one; rw [h]; rfl
theorem leap_t {y : Int} (h : y % 4 = 0 ∧ (y % 100 ≠ 0 ∨ y % 400 = 0)) : isLeap y = true := by unfold isLeap; exact decide_eq_true h
theorem leap_f {y : Int} (h : ¬ (y % 4 = 0 ∧ (y % 100 ≠ 0 ∨ y % 400 = 0))) : isLeap y = false := by unfold isLeap; exact decide_eq_false h
/-- Where a year's number may be. -/
theorem first_bd {y : Int} : 365 * (y - 1970) - 477 + (y - 1) / 4 - (y - 1) / 100 + (y - 1) / 400 = first y := by unfold first leaps; omega
theorem first_lt {y : Int} (h : first y ≤ 4294967296) : y ≤ 11761191 := by rw [← first_bd] at h; omega
theorem first_gt {y : Int} (h : -4294967296 < first y) : -11757252 < y := by rw [← first_bd] at h; omega
theorem first_in {y : Int} (h1 : -100000000 ≤ y) (h2 : y ≤ 100000000) : -40000000000 ≤ first y ∧ first y ≤ 40000000000 := by rw [← first_bd]; omega
/-- The number of a day, if there is one. -/
def num (y m d : Int) : Int := first y + ahead y m + d - 1
def inn (n : Int) : Prop := -4294967296 ≤ n ∧ n ≤ 4294967296
instance (n : Int) : Decidable (inn n) := inferInstanceAs (Decidable (_ ∧ _))
def real (y m d : Int) : Prop := (-11767033 ≤ y ∧ y ≤ 11767033) ∧ (1 ≤ d ∧ d ≤ days y m)
instance (y m d : Int) : Decidable (real y m d) := inferInstanceAs (Decidable (_ ∧ _))
def may (y m d : Int) : Prop := real y m d ∧ inn (num y m d)
instance (y m d : Int) : Decidable (may y m d) := inferInstanceAs (Decidable (_ ∧ _))
theorem real.month {y m d : Int} (h : real y m d) : 1 ≤ m ∧ m ≤ 12 := by
  obtain ⟨-, h1, h2⟩ := h
  by_cases g : m < 1 ∨ 12 < m
  · rw [days_no g] at h2; omega
  · omega
theorem real.is {y m d : Int} (h : real y m d) : Is (num y m d) y m d := ⟨h.month, h.2, rfl⟩
theorem Is.there {n y m d : Int} (h : Is n y m d) (hn : inn n) : may y m d := by
  have hy := h.year
  obtain ⟨a, b, e⟩ := h
  have e2 : num y m d = n := by unfold num; omega
  have hx := first_lt (y := y) (by unfold inn at hn; omega)
  have hz := first_gt (y := y + 1) (by unfold inn at hn; omega)
  exact ⟨⟨⟨by omega, by omega⟩, b⟩, by rw [e2]; exact hn⟩
theorem Is.same {n y m d : Int} (h : Is n y m d) : num y m d = n := by unfold num; have := h.2.2; omega
/-- Each number is one day's. -/
theorem is_next {n y m d : Int} (h : Is n y m d) : ∃ y' m' d', Is (n + 1) y' m' d' := by
  obtain ⟨a, b, c⟩ := h.next
  obtain ⟨⟨m1, m2⟩, ⟨d1, d2⟩, -⟩ := h
  rcases Int.lt_or_le d (days y m) with g | g
  · exact ⟨_, _, _, a g⟩
  · have e : d = days y m := by omega
    rcases Int.lt_or_le m 12 with k | k
    · exact ⟨_, _, _, b e k⟩
    · exact ⟨_, _, _, c e (by omega)⟩
theorem is_one : Is 0 1970 1 1 := ⟨by decide, by decide, by decide⟩
theorem is_nat (n : Nat) : ∃ y m d, Is n y m d := by
  induction n with
  | zero => exact ⟨_, _, _, is_one⟩
  | succ n ih => obtain ⟨y, m, d, h⟩ := ih; exact is_next h
theorem is_some (n : Int) : ∃ y m d, Is n y m d := by
  obtain ⟨y, m, d, h⟩ := is_nat (n + 146097 * n.natAbs).toNat
  have e : (((n + 146097 * n.natAbs).toNat : Nat) : Int) = n + 146097 * n.natAbs := by omega
  rw [e] at h
  have g := h.cycle (-(n.natAbs : Int))
  rw [show n + 146097 * (n.natAbs : Int) + 146097 * -(n.natAbs : Int) = n by omega] at g
  exact ⟨_, _, _, g⟩
/-- A year is that of a number by its two ends. -/
theorem year_one {n y z : Int} (h1 : first y ≤ n) (h2 : n < first (y + 1)) (g1 : first z ≤ n) (g2 : n < first (z + 1)) : z = y := by
  rcases Int.lt_trichotomy y z with c | c | c
  · have := first_mono (y := y + 1) (z := z) (by omega); omega
  · exact c.symm
  · have := first_mono (y := z + 1) (z := y) (by omega); omega
theorem ahead_bd {y m : Int} (h1 : 1 ≤ m) (h2 : m ≤ 13) : 0 ≤ ahead y m ∧ ahead y m ≤ 366 := by
  have h0 := one_bd y
  have hc : m = 1 ∨ m = 2 ∨ m = 3 ∨ m = 4 ∨ m = 5 ∨ m = 6 ∨ m = 7 ∨ m = 8 ∨ m = 9 ∨ m = 10 ∨ m = 11 ∨ m = 12 ∨ m = 13 := by omega
  rcases hc with rfl | rfl | rfl | rfl | rfl | rfl | rfl | rfl | rfl | rfl | rfl | rfl | rfl <;> simp [ahead] <;> omega
theorem ahead_one (y : Int) : ahead y 1 = 0 := by simp [ahead]
/-- A guess at a year. -/
def guess (n : Int) : Int := 1970 + Wide.down n 400 146097
theorem guess_bd {n : Int} (h : inn n) : -20000000 ≤ guess n ∧ guess n ≤ 20000000 := by
  unfold guess Wide.down Wide.fdiv
  have e : Wide.one 146097 = 146097 := by decide
  unfold inn at h
  rw [e, Sat.clip_in (x := n) (by omega) (by omega), Sat.clip_in (x := 400) (by omega) (by omega), Sat.clip_in (by omega) (by omega)]
  omega
/-- Weeks. -/
def week (n : Int) : Int := (n + 3) % 7
theorem week_bd (n : Int) : 0 ≤ week n ∧ week n ≤ 6 := by unfold week; omega
end Civil
end Go.Proofs.YtbbkohpaebeidaaDoor
