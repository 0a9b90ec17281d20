/- Plain mathematics of layer 17: days and their numbers. It names no program. -/
namespace Go.Proofs.YtbbkohpaebeidaaDoor
namespace Civil
/-- How many leap years there are up to a year. -/
def leaps (y : Int) : Int := y / 4 - y / 100 + y / 400
def isLeap (y : Int) : Bool := decide (y % 4 = 0 ∧ (y % 100 ≠ 0 ∨ y % 400 = 0))
def one (y : Int) : Int := if isLeap y then 1 else 0
theorem leap_step (y : Int) : leaps y = leaps (y - 1) + one y := by
  unfold leaps one isLeap
  by_cases h4 : y % 4 = 0 <;> by_cases h100 : y % 100 = 0 <;> by_cases h400 : y % 400 = 0 <;> simp [h4, h100, h400] <;> omega
theorem one_bd (y : Int) : 0 ≤ one y ∧ one y ≤ 1 := by unfold one; split <;> omega
theorem leap_400 (y k : Int) : isLeap (y + 400 * k) = isLeap y := by
  unfold isLeap
  rw [show (y + 400 * k) % 4 = y % 4 by omega, show (y + 400 * k) % 100 = y % 100 by omega, show (y + 400 * k) % 400 = y % 400 by omega]
theorem one_400 (y k : Int) : one (y + 400 * k) = one y := by unfold one; rw [leap_400]
/-- The number of a year's first day. -/
def first (y : Int) : Int := 365 * (y - 1970) + leaps (y - 1) - 477
theorem first_1970 : first 1970 = 0 := by decide
theorem first_next (y : Int) : first (y + 1) = first y + 365 + one y := by
  unfold first
  have := leap_step y
  rw [show y + 1 - 1 = y by omega]
  omega
theorem first_400 (y k : Int) : first (y + 400 * k) = first y + 146097 * k := by unfold first leaps; omega
theorem first_mono {y z : Int} (h : y ≤ z) : first y + 365 * (z - y) ≤ first z := by
  unfold first leaps; omega
/-- The days of a month; 0: there is no such month. -/
def days (y m : Int) : Int := if m < 1 ∨ 12 < m then 0 else if m = 2 then 28 + one y else if m = 4 ∨ m = 6 ∨ m = 9 ∨ m = 11 then 30 else 31
/-- How many days of its year stand ahead of a month. -/
def ahead (y m : Int) : Int :=
  if m ≤ 1 then 0 else if m = 2 then 31 else (if m = 3 then 59 else if m = 4 then 90 else if m = 5 then 120 else if m = 6 then 151 else if m = 7 then 181 else if m = 8 then 212 else if m = 9 then 243 else if m = 10 then 273 else if m = 11 then 304 else if m = 12 then 334 else 365) + one y
theorem ahead_next {y m : Int} (h : 1 ≤ m) (h' : m ≤ 12) : ahead y (m + 1) = ahead y m + days y m := by
  have hc : m = 1 ∨ m = 2 ∨ m = 3 ∨ m = 4 ∨ m = 5 ∨ m = 6 ∨ m = 7 ∨ m = 8 ∨ m = 9 ∨ m = 10 ∨ m = 11 ∨ m = 12 := by omega
  rcases hc with rfl | rfl | rfl | rfl | rfl | rfl | rfl | rfl | rfl | rfl | rfl | rfl <;> simp [ahead, days] <;> omega
theorem days_bd {y m : Int} (h : 1 ≤ m) (h' : m ≤ 12) : 28 ≤ days y m ∧ days y m ≤ 31 := by
  have := one_bd y; unfold days; repeat' split
  all_goals omega
theorem days_no {y m : Int} (h : m < 1 ∨ 12 < m) : days y m = 0 := by unfold days; rw [if_pos h]
theorem ahead_mono (y : Int) {m k : Int} (h1 : 1 ≤ m) (h : m < k) (hk : k ≤ 13) : ahead y m + days y m ≤ ahead y k := by
  have h0 := one_bd y
  have hc : m = 1 ∨ m = 2 ∨ m = 3 ∨ m = 4 ∨ m = 5 ∨ m = 6 ∨ m = 7 ∨ m = 8 ∨ m = 9 ∨ m = 10 ∨ m = 11 ∨ m = 12 := by omega
  have hd : k = 2 ∨ k = 3 ∨ k = 4 ∨ k = 5 ∨ k = 6 ∨ k = 7 ∨ k = 8 ∨ k = 9 ∨ k = 10 ∨ k = 11 ∨ k = 12 ∨ k = 13 := by omega
  rcases hc with rfl | rfl | rfl | rfl | rfl | rfl | rfl | rfl | rfl | rfl | rfl | rfl <;> rcases hd with rfl | rfl | rfl | rfl | rfl | rfl | rfl | rfl | rfl | rfl | rfl | rfl <;> simp [ahead, days] at h ⊢ <;> omega
theorem ahead_13 (y : Int) : ahead y 13 = 365 + one y := by simp [ahead]
/-- n is the number of the day (y, m, d). -/
def Is (n y m d : Int) : Prop := (1 ≤ m ∧ m ≤ 12) ∧ (1 ≤ d ∧ d ≤ days y m) ∧ n = first y + ahead y m + d - 1
theorem Is.year {n y m d : Int} (h : Is n y m d) : first y ≤ n ∧ n < first (y + 1) := by
  obtain ⟨⟨m1, m2⟩, ⟨d1, d2⟩, e⟩ := h
  have a := ahead_mono y (m := m) (k := 13) m1 (by omega) (by omega)
  rw [ahead_13] at a
  have b := first_next y
  have c : 0 ≤ ahead y m := by
    by_cases h1 : m = 1
    · subst h1; simp [ahead]
    · have := ahead_mono y (m := 1) (k := m) (by omega) (by omega) (by omega)
      have := days_bd (y := y) (m := 1) (by omega) (by omega)
      have : ahead y 1 = 0 := by simp [ahead]
      omega
  omega
/-- A number is that of one day alone. -/
theorem Is.day {n y m d y' m' d' : Int} (h : Is n y m d) (g : Is n y' m' d') : y = y' ∧ m = m' ∧ d = d' := by
  have hy := h.year
  have gy := g.year
  have e : y = y' := by
    rcases Int.lt_trichotomy y y' with c | c | c
    · have := first_mono (y := y + 1) (z := y') (by omega); omega
    · exact c
    · have := first_mono (y := y' + 1) (z := y) (by omega); omega
  subst e
  obtain ⟨⟨m1, m2⟩, ⟨d1, d2⟩, e1⟩ := h
  obtain ⟨⟨k1, k2⟩, ⟨c1, c2⟩, e2⟩ := g
  have e : m = m' := by
    rcases Int.lt_trichotomy m m' with c | c | c
    · have := ahead_mono y m1 c (by omega); omega
    · exact c
    · have := ahead_mono y k1 c (by omega); omega
  subst e
  exact ⟨rfl, rfl, by omega⟩
/-- The next number's day. -/
theorem Is.next {n y m d : Int} (h : Is n y m d) :
    (d < days y m → Is (n + 1) y m (d + 1)) ∧ (d = days y m → m < 12 → Is (n + 1) y (m + 1) 1) ∧ (d = days y m → m = 12 → Is (n + 1) (y + 1) 1 1) := by
  obtain ⟨⟨m1, m2⟩, ⟨d1, d2⟩, e⟩ := h
  refine ⟨fun hd => ⟨⟨m1, m2⟩, ⟨by omega, by omega⟩, by omega⟩, fun hd hm => ⟨⟨by omega, by omega⟩, ⟨by omega, ?_⟩, ?_⟩, fun hd hm => ⟨⟨by omega, by omega⟩, ⟨by omega, ?_⟩, ?_⟩⟩
  · have := days_bd (y := y) (m := m + 1) (by omega) (by omega); omega
  · have := ahead_next (y := y) m1 m2; omega
  · have := days_bd (y := y + 1) (m := 1) (by omega) (by omega); omega
  · have a := ahead_next (y := y) m1 m2
    subst hm
    rw [show (12 : Int) + 1 = 13 from rfl, ahead_13] at a
    have b := first_next y
    have c : ahead (y + 1) 1 = 0 := by simp [ahead]
    omega
theorem ahead_400 (y k m : Int) : ahead (y + 400 * k) m = ahead y m := by unfold ahead; rw [one_400]
theorem days_400 (y k m : Int) : days (y + 400 * k) m = days y m := by unfold days; rw [one_400]
theorem Is.cycle {n y m d : Int} (h : Is n y m d) (k : Int) : Is (n + 146097 * k) (y + 400 * k) m d := by
  obtain ⟨a, b, c⟩ := h
  refine ⟨a, by rw [days_400]; exact b, ?_⟩
  rw [first_400, ahead_400]; omega
end Civil
end Go.Proofs.YtbbkohpaebeidaaDoor
