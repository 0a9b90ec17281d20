/- Plain mathematics of layer 6: messages as frames. -/
import Derived.Test.YtmokofblmkeloaaGreatDoorRows
import Derived.Lib.ItoaNum
import Derived.KernelRfl
namespace Go.Proofs.YtmokofblmkeloaaGreatDoor
/-- A message. -/
structure Msg where
  kind : Int
  frm : Int
  lo : Int
  hi : Int
  held : Int
  hops : Int
  good : Bool
  ref : Bool
  slo : Int
  shi : Int
  pulse : Int
  time : Int
  num : Int
  table : List (Int × Int)
  deriving DecidableEq
namespace Wire
/-- Entries behind one with offset 'off' whose next may be at 'lo' at the earliest. -/
def tabFrom (lo off : Int) : List (Int × Int) → Bool
  | [] => true
  | e :: l => decide (lo ≤ e.1 ∧ e.1 ≤ 1099511627776 ∧ -32 ≤ e.2 ∧ e.2 ≤ 32 ∧ (e.2 = off + 1 ∨ e.2 = off - 1)) && tabFrom (e.1 + 86400) e.2 l
/-- A leap table. -/
def tab (l : List (Int × Int)) : Bool := decide (l.length ≤ 32) && tabFrom 0 0 l
/-- A message that can be, but for its table. -/
def goodN (m : Msg) : Bool := decide ((m.kind = 1 ∨ m.kind = 2) ∧ 0 ≤ m.frm ∧ m.frm ≤ 47 ∧ 0 ≤ m.held ∧ m.held ≤ 1073741824 ∧ 0 ≤ m.hops ∧ m.hops ≤ 17) &&
  decide ((-2305843009213693952 ≤ m.lo ∧ m.lo ≤ 2305843009213693952) ∧ (-2305843009213693952 ≤ m.hi ∧ m.hi ≤ 2305843009213693952) ∧ (-2305843009213693952 ≤ m.slo ∧ m.slo ≤ 2305843009213693952) ∧ (-2305843009213693952 ≤ m.shi ∧ m.shi ≤ 2305843009213693952) ∧
    (-2305843009213693952 ≤ m.pulse ∧ m.pulse ≤ 2305843009213693952) ∧ (-2305843009213693952 ≤ m.time ∧ m.time ≤ 2305843009213693952) ∧ 0 ≤ m.num ∧ m.num ≤ 1073741824)
def good (m : Msg) : Bool := goodN m && tab m.table
/-- A number's n lowest bytes, the highest first. -/
def bytesBE : Nat → Int → List Nat
  | 0, _ => []
  | n + 1, x => bytesBE n (x / 256) ++ [(x % 256).toNat]
def eight (x : Int) : List Nat := bytesBE 8 x
/-- Bytes as a number, the highest first. -/
def big (l : List Nat) : Nat := l.foldl (fun n b => n * 256 + b) 0
theorem snoc_ind {P : List Nat → Prop} (h0 : P []) (hs : ∀ l b, P l → P (l ++ [b])) (l : List Nat) : P l := by
  have : ∀ r : List Nat, P r.reverse := fun r => by
    induction r with
    | nil => exact h0
    | cons b r ih => rw [List.reverse_cons]; exact hs _ b ih
  have h := this l.reverse
  rwa [List.reverse_reverse] at h
/-- Eight bytes as a number with a sign. -/
def num (l : List Nat) : Int := if big l < 9223372036854775808 then (big l : Int) else (big l : Int) - 18446744073709551616
def flags (m : Msg) : Nat := (if m.good then 1 else 0) + (if m.ref then 2 else 0)
/-- The first four bytes. -/
def head (m : Msg) : List Nat := [m.kind.toNat, m.frm.toNat, flags m, m.table.length]
/-- The nine numbers. -/
def nine (m : Msg) : List Int := [m.lo, m.hi, m.held, m.hops, m.slo, m.shi, m.pulse, m.time, m.num]
/-- The table's numbers. -/
def flat (l : List (Int × Int)) : List Int := l.flatMap fun e => [e.1, e.2]
def eights (l : List Int) : List Nat := l.flatMap eight
/-- What stands ahead of the check. -/
def frame (m : Msg) : List Nat := head m ++ eights (nine m) ++ eights (flat m.table)
/-- Numbers that a message that can be has are small. -/
theorem tabFrom_bd : ∀ (l : List (Int × Int)) (lo off : Int), 0 ≤ lo → tabFrom lo off l = true → ∀ e ∈ l, (0 ≤ e.1 ∧ e.1 ≤ 1099511627776) ∧ -32 ≤ e.2 ∧ e.2 ≤ 32
  | [], _, _, _, _, e, he => by cases he
  | x :: l, lo, off, h0, h, e, he => by
    simp only [tabFrom, Bool.and_eq_true, decide_eq_true_eq] at h
    rcases List.mem_cons.1 he with rfl | he
    · omega
    · exact tabFrom_bd l _ _ (by omega) h.2 e he
theorem flat_mem {l : List (Int × Int)} {x : Int} (h : x ∈ flat l) : ∃ e ∈ l, x = e.1 ∨ x = e.2 := by
  obtain ⟨e, he, hx⟩ := List.mem_flatMap.1 h
  exact ⟨e, he, by simpa using hx⟩
theorem good_bd {m : Msg} (h : good m = true) : ∀ x ∈ nine m ++ flat m.table, -9223372036854775808 ≤ x ∧ x ≤ 9223372036854775807 := by
  simp only [good, goodN, tab, Bool.and_eq_true, decide_eq_true_eq] at h
  intro x hx
  rcases List.mem_append.1 hx with hx | hx
  · simp only [nine, List.mem_cons, List.not_mem_nil, or_false] at hx
    rcases hx with rfl | rfl | rfl | rfl | rfl | rfl | rfl | rfl | rfl <;> omega
  · obtain ⟨e, he, hx⟩ := flat_mem hx
    have := tabFrom_bd m.table 0 0 (by decide) h.2.2 e he
    rcases hx with rfl | rfl <;> omega
end Wire
end Go.Proofs.YtmokofblmkeloaaGreatDoor

/- Plain mathematics of layer 17: days and their numbers. It names no program. -/
namespace Go.Proofs.YtmokofblmkeloaaGreatDoor
namespace Civil
/-- How many leap years there are up to a year. -/
def leaps (y : Int) : Int := y / 4 - y / 100 + y / 400
def isLeap (y : Int) : Bool := decide (y % 4 = 0 ∧ (y % 100 ≠ 0 ∨ y % 400 = 0))
def one (y : Int) : Int := if isLeap y then 1 else 0
theorem leap_step (y : Int) : leaps y = leaps (y - 1) + one y := by
  unfold leaps one isLeap
  by_cases h4 : y % 4 = 0 <;> by_cases h100 : y % 100 = 0 <;> by_cases h400 : y % 400 = 0 <;> simp [h4, h100, h400] <;> omega
theorem one_bd (y : Int) : 0 ≤ one y ∧ one y ≤ 1 := by unfold one; split <;> omega
theorem leap_400 (y k : Int) : isLeap (y + 400 * k) = isLeap y := by
  unfold isLeap
  rw [show (y + 400 * k) % 4 = y % 4 by omega, show (y + 400 * k) % 100 = y % 100 by omega, show (y + 400 * k) % 400 = y % 400 by omega]
theorem one_400 (y k : Int) : one (y + 400 * k) = one y := by unfold one; rw [leap_400]
/-- The number of a year's first day. -/
def first (y : Int) : Int := 365 * (y - 1970) + leaps (y - 1) - 477
theorem first_next (y : Int) : first (y + 1) = first y + 365 + one y := by
  unfold first
  have := leap_step y
  rw [show y + 1 - 1 = y by omega]
  omega
theorem first_400 (y k : Int) : first (y + 400 * k) = first y + 146097 * k := by unfold first leaps; omega
/-- The days of a month; 0: there is no such month. -/
def days (y m : Int) : Int := if m < 1 ∨ 12 < m then 0 else if m = 2 then 28 + one y else if m = 4 ∨ m = 6 ∨ m = 9 ∨ m = 11 then 30 else 31
/-- How many days of its year stand ahead of a month. -/
def ahead (y m : Int) : Int :=
  if m ≤ 1 then 0 else if m = 2 then 31 else (if m = 3 then 59 else if m = 4 then 90 else if m = 5 then 120 else if m = 6 then 151 else if m = 7 then 181 else if m = 8 then 212 else if m = 9 then 243 else if m = 10 then 273 else if m = 11 then 304 else if m = 12 then 334 else 365) + one y
theorem ahead_next {y m : Int} (h : 1 ≤ m) (h' : m ≤ 12) : ahead y (m + 1) = ahead y m + days y m := by
  have hc : m = 1 ∨ m = 2 ∨ m = 3 ∨ m = 4 ∨ m = 5 ∨ m = 6 ∨ m = 7 ∨ m = 8 ∨ m = 9 ∨ m = 10 ∨ m = 11 ∨ m = 12 := by omega
  rcases hc with rfl | rfl | rfl | rfl | rfl | rfl | rfl | rfl | rfl | rfl | rfl | rfl <;> simp [ahead, days] <;> omega
theorem days_bd {y m : Int} (h : 1 ≤ m) (h' : m ≤ 12) : 28 ≤ days y m ∧ days y m ≤ 31 := by
  have := one_bd y; unfold days; repeat' split
  all_goals omega
theorem days_no {y m : Int} (h : m < 1 ∨ 12 < m) : days y m = 0 := by unfold days; rw [if_pos h]
theorem ahead_mono (y : Int) {m k : Int} (h1 : 1 ≤ m) (h : m < k) (hk : k ≤ 13) : ahead y m + days y m ≤ ahead y k := by
  have h0 := one_bd y
  have hc : m = 1 ∨ m = 2 ∨ m = 3 ∨ m = 4 ∨ m = 5 ∨ m = 6 ∨ m = 7 ∨ m = 8 ∨ m = 9 ∨ m = 10 ∨ m = 11 ∨ m = 12 := by omega
  have hd : k = 2 ∨ k = 3 ∨ k = 4 ∨ k = 5 ∨ k = 6 ∨ k = 7 ∨ k = 8 ∨ k = 9 ∨ k = 10 ∨ k = 11 ∨ k = 12 ∨ k = 13 := by omega
  rcases hc with rfl | rfl | rfl | rfl | rfl | rfl | rfl | rfl | rfl | rfl | rfl | rfl <;> rcases hd with rfl | rfl | rfl | rfl | rfl | rfl | rfl | rfl | rfl | rfl | rfl | rfl <;> simp [ahead, days] at h ⊢ <;> omega
theorem ahead_13 (y : Int) : ahead y 13 = 365 + one y := by simp [ahead]
/-- n is the number of the day (y, m, d). -/
def Is (n y m d : Int) : Prop := (1 ≤ m ∧ m ≤ 12) ∧ (1 ≤ d ∧ d ≤ days y m) ∧ n = first y + ahead y m + d - 1
theorem Is.year {n y m d : Int} (h : Is n y m d) : first y ≤ n ∧ n < first (y + 1) := by
  obtain ⟨⟨m1, m2⟩, ⟨d1, d2⟩, e⟩ := h
  have a := ahead_mono y (m := m) (k := 13) m1 (by omega) (by omega)
  rw [ahead_13] at a
  have b := first_next y
  have c : 0 ≤ ahead y m := by
    by_cases h1 : m = 1
    · subst h1; simp [ahead]
    · have := ahead_mono y (m := 1) (k := m) (by omega) (by omega) (by omega)
      have := days_bd (y := y) (m := 1) (by omega) (by omega)
      have : ahead y 1 = 0 := by simp [ahead]
      omega
  omega
/-- The next number's day. -/
theorem Is.next {n y m d : Int} (h : Is n y m d) :
    (d < days y m → Is (n + 1) y m (d + 1)) ∧ (d = days y m → m < 12 → Is (n + 1) y (m + 1) 1) ∧ (d = days y m → m = 12 → Is (n + 1) (y + 1) 1 1) := by
  obtain ⟨⟨m1, m2⟩, ⟨d1, d2⟩, e⟩ := h
  refine ⟨fun hd => ⟨⟨m1, m2⟩, ⟨by omega, by omega⟩, by omega⟩, fun hd hm => ⟨⟨by omega, by omega⟩, ⟨by omega, ?_⟩, ?_⟩, fun hd hm => ⟨⟨by omega, by omega⟩, ⟨by omega, ?_⟩, ?_⟩⟩
  · have := days_bd (y := y) (m := m + 1) (by omega) (by omega); omega
  · have := ahead_next (y := y) m1 m2; omega
  · have := days_bd (y := y + 1) (m := 1) (by omega) (by omega); omega
  · have a := ahead_next (y := y) m1 m2
    subst hm
    rw [show (12 : Int) + 1 = 13 from rfl, ahead_13] at a
    have b := first_next y
    have c : ahead (y + 1) 1 = 0 := by simp [ahead]
    omega
theorem ahead_400 (y k m : Int) : ahead (y + 400 * k) m = ahead y m := by unfold ahead; rw [one_400]
theorem days_400 (y k m : Int) : days (y + 400 * k) m = days y m := by unfold days; rw [one_400]
theorem Is.cycle {n y m d : Int} (h : Is n y m d) (k : Int) : Is (n + 146097 * k) (y + 400 * k) m d := by
  obtain ⟨a, b, c⟩ := h
  refine ⟨a, by rw [days_400]; exact b, ?_⟩
  rw [first_400, ahead_400]; omega
end Civil
end Go.Proofs.YtmokofblmkeloaaGreatDoor

/- Plain mathematics of layer 18: counts and labels, leap seconds. It names no program. -/
namespace Go.Proofs.YtmokofblmkeloaaGreatDoor
namespace Leap
/-- A good table behind a count a, with offset o. -/
def Chain (a o : Int) : List (Int × Int) → Prop
  | [] => True
  | e :: l => a ≤ e.1 ∧ (e.2 = o + 1 ∨ e.2 = o - 1) ∧ (e.1 - e.2) % 86400 = 0 ∧ Chain (e.1 + 86400) e.2 l
/-- The offset of a count. -/
def off (o : Int) (c : Int) : List (Int × Int) → Int
  | [] => o
  | e :: l => if e.1 ≤ c then off e.2 c l else off o c l
theorem Chain.mono {a b o : Int} {l : List (Int × Int)} (h : Chain a o l) (hb : b ≤ a) : Chain b o l := by
  cases l with
  | nil => trivial
  | cons e l => exact ⟨by have := h.1; omega, h.2⟩
theorem Chain.ge {a o : Int} {l : List (Int × Int)} (h : Chain a o l) : ∀ e ∈ l, a ≤ e.1 := by
  induction l generalizing a o with
  | nil => intro e he; cases he
  | cons x l ih =>
    intro e he
    rcases List.mem_cons.1 he with rfl | g
    · exact h.1
    · have := ih h.2.2.2 e g; have := h.1; omega
theorem Chain.mod {a o : Int} {l : List (Int × Int)} (h : Chain a o l) : ∀ e ∈ l, (e.1 - e.2) % 86400 = 0 := by
  induction l generalizing a o with
  | nil => intro e he; cases he
  | cons x l ih =>
    intro e he
    rcases List.mem_cons.1 he with rfl | g
    · exact h.2.2.1
    · exact ih h.2.2.2 e g
/-- Entries stand a day from one another. -/
theorem Chain.apart {a o : Int} {l : List (Int × Int)} (h : Chain a o l) {x y : Int × Int} (hx : x ∈ l) (hy : y ∈ l) (hxy : x.1 ≤ y.1) (hd : y.1 < x.1 + 86400) : x = y := by
  induction l generalizing a o with
  | nil => cases hx
  | cons z l ih =>
    have hg := Chain.ge h.2.2.2
    rcases List.mem_cons.1 hx with rfl | gx
    · rcases List.mem_cons.1 hy with rfl | gy
      · rfl
      · have := hg y gy; omega
    · rcases List.mem_cons.1 hy with rfl | gy
      · have := hg x gx; omega
      · exact ih h.2.2.2 gx gy
theorem off_early {o c : Int} {l : List (Int × Int)} (h : ∀ e ∈ l, c < e.1) : off o c l = o := by
  induction l with
  | nil => rfl
  | cons x l ih => rw [off, if_neg (by have := h x List.mem_cons_self; omega), ih fun e he => h e (List.mem_cons_of_mem _ he)]
/-- No entry there: the offset stays. -/
theorem off_same {o c : Int} {l : List (Int × Int)} (h : ∀ e ∈ l, e.1 ≠ c + 1) : off o (c + 1) l = off o c l := by
  induction l generalizing o with
  | nil => rfl
  | cons x l ih =>
    have hx := h x List.mem_cons_self
    have hl := fun e he => h e (List.mem_cons_of_mem _ he)
    rw [off, off]
    by_cases c1 : x.1 ≤ c
    · rw [if_pos c1, if_pos (by omega), ih hl]
    · rw [if_neg c1, if_neg (by omega), ih hl]
/-- An entry there: the offset is that entry's, one more or one less than it was. -/
theorem Chain.off_at {a o c : Int} {l : List (Int × Int)} (h : Chain a o l) {e : Int × Int} (he : e ∈ l) (hc : e.1 = c + 1) : off o (c + 1) l = e.2 ∧ (e.2 = off o c l + 1 ∨ e.2 = off o c l - 1) := by
  induction l generalizing a o with
  | nil => cases he
  | cons x l ih =>
    have hg := Chain.ge h.2.2.2
    rw [off, off]
    rcases List.mem_cons.1 he with rfl | g
    · rw [if_pos (by omega), if_neg (by omega), off_early (fun y hy => by have := hg y hy; omega), off_early (fun y hy => by have := hg y hy; omega)]
      exact ⟨rfl, h.2.1⟩
    · have := hg e g
      rw [if_pos (by omega), if_pos (by omega)]
      exact ih h.2.2.2 g
/-- Is a count a second more? -/
def more (l : List (Int × Int)) (c : Int) : Bool := l.any fun e => decide (e.1 - 1 = c) && decide (off 0 c l < e.2)
theorem more_iff {l : List (Int × Int)} {c : Int} : more l c = true ↔ ∃ e ∈ l, e.1 = c + 1 ∧ off 0 c l < e.2 := by
  unfold more
  rw [List.any_eq_true]
  constructor
  · rintro ⟨e, he, h⟩
    simp at h
    exact ⟨e, he, by omega, h.2⟩
  · rintro ⟨e, he, h1, h2⟩
    exact ⟨e, he, by simp; omega⟩
/-- The day's number and its second, 86400: 23:59:60. -/
def lab (l : List (Int × Int)) (c : Int) : Int × Int := if more l c = true then ((c - 1 - off 0 (c - 1) l) / 86400, (c - 1 - off 0 (c - 1) l) % 86400 + 1) else ((c - off 0 c l) / 86400, (c - off 0 c l) % 86400)
/-- What labels rise by. -/
def key (s : Int × Int) : Int := 86401 * s.1 + s.2
theorem Chain.more_lab {a : Int} {l : List (Int × Int)} (h : Chain a 0 l) {c : Int} (hm : more l c = true) : ∃ q, c - off 0 c l = 86400 * q ∧ off 0 (c - 1) l = off 0 c l ∧ lab l c = (q - 1, 86400) ∧ more l (c - 1) = false ∧ off 0 (c + 1) l = off 0 c l + 1 ∧ c + 1 - off 0 (c + 1) l = 86400 * q := by
  obtain ⟨e, he, h1, h2⟩ := more_iff.1 hm
  obtain ⟨k1, k2⟩ := h.off_at he h1
  have k3 := h.mod e he
  have k4 : e.2 = off 0 c l + 1 := by omega
  have hno : ∀ x ∈ l, x.1 ≠ c := fun x hx hxc => by
    have := h.apart hx he (by omega) (by omega)
    subst this; omega
  have hs : off 0 (c - 1) l = off 0 c l := by
    have := off_same (o := 0) (c := c - 1) (l := l) (fun x hx => by have := hno x hx; omega)
    rw [show c - 1 + 1 = c by omega] at this
    exact this.symm
  have hmn : more l (c - 1) = false := by
    cases hb : more l (c - 1) with
    | false => rfl
    | true =>
      obtain ⟨x, hx, g1, _⟩ := more_iff.1 hb
      exact absurd (by omega) (hno x hx)
  refine ⟨(e.1 - e.2) / 86400, by omega, hs, ?_, hmn, by omega, by omega⟩
  unfold lab
  rw [if_pos hm, hs]
  have : c - 1 - off 0 c l = 86400 * ((e.1 - e.2) / 86400 - 1) + 86399 := by omega
  rw [this]
  refine Prod.ext ?_ ?_
  · show (86400 * ((e.1 - e.2) / 86400 - 1) + 86399) / 86400 = (e.1 - e.2) / 86400 - 1; omega
  · show (86400 * ((e.1 - e.2) / 86400 - 1) + 86399) % 86400 + 1 = 86400; omega
theorem lab_plain {l : List (Int × Int)} {c : Int} (h : more l c = false) : lab l c = ((c - off 0 c l) / 86400, (c - off 0 c l) % 86400) := by unfold lab; rw [h]; rfl
/-- A later count has a later label. -/
theorem Chain.rises {a : Int} {l : List (Int × Int)} (h : Chain a 0 l) (c : Int) : key (lab l c) < key (lab l (c + 1)) := by
  by_cases hx : ∃ e ∈ l, e.1 = c + 1
  · obtain ⟨e, he, h1⟩ := hx
    obtain ⟨k1, k2⟩ := h.off_at he h1
    have k3 := h.mod e he
    have hno : more l (c + 1) = false := by
      cases hb : more l (c + 1) with
      | false => rfl
      | true =>
        obtain ⟨x, hx, g1, g2⟩ := more_iff.1 hb
        have := h.apart he hx (by omega) (by omega)
        subst this; omega
    rw [lab_plain hno, k1]
    by_cases hm : more l c = true
    · obtain ⟨q, m1, m2, m3, m4, m5, m6⟩ := h.more_lab hm
      rw [m3]
      unfold key
      rw [k1] at m6
      rw [m6]
      simp only
      omega
    · have hm' : more l c = false := by simpa using hm
      rw [lab_plain hm']
      have : e.2 = off 0 c l - 1 := by
        rcases k2 with g | g
        · exact absurd (more_iff.2 ⟨e, he, h1, by omega⟩) hm
        · exact g
      unfold key
      simp only
      omega
  · have hno : ∀ e ∈ l, e.1 ≠ c + 1 := fun e he g => hx ⟨e, he, g⟩
    have hs := off_same (o := 0) hno
    have hm : more l c = false := by
      cases hb : more l c with
      | false => rfl
      | true => obtain ⟨x, hx, g1, _⟩ := more_iff.1 hb; exact absurd g1 (hno x hx)
    rw [lab_plain hm]
    by_cases hm1 : more l (c + 1) = true
    · obtain ⟨q, m1, m2, m3, -, -, -⟩ := h.more_lab hm1
      rw [m3]
      rw [hs] at m1
      unfold key
      simp only
      omega
    · rw [lab_plain (by simpa using hm1), hs]
      unfold key
      simp only
      omega
theorem Chain.rise {a : Int} {l : List (Int × Int)} (h : Chain a 0 l) {c d : Int} (hcd : c < d) : key (lab l c) < key (lab l d) := by
  obtain ⟨n, rfl⟩ : ∃ n : Nat, d = c + 1 + n := ⟨(d - c - 1).toNat, by omega⟩
  clear hcd
  induction n with
  | zero => exact (by simpa using h.rises c)
  | succ n ih =>
    have := h.rises (c + 1 + n)
    rw [show c + 1 + ((n + 1 : Nat) : Int) = c + 1 + n + 1 by omega]
    omega
theorem Chain.one {a : Int} {l : List (Int × Int)} (h : Chain a 0 l) {c d : Int} (e : lab l c = lab l d) : c = d := by
  rcases Int.lt_trichotomy c d with g | g | g
  · have := h.rise g; rw [e] at this; omega
  · exact g
  · have := h.rise g; rw [e] at this; omega
end Leap
end Go.Proofs.YtmokofblmkeloaaGreatDoor

/- Plain mathematics of layer 1: numbers that stay where they are greatest. It names no program. -/
namespace Go.Proofs.YtmokofblmkeloaaGreatDoor
namespace Sat

def clip (x : Int) : Int := if 2305843009213693952 < x then 2305843009213693952 else if x < -2305843009213693952 then -2305843009213693952 else x
def bound (x lo hi : Int) : Int := if hi < lo ∨ x < lo then lo else if hi < x then hi else x
def neg (x : Int) : Int := -clip x
def abs (x : Int) : Int := if clip x < 0 then -clip x else clip x
def sub (a b : Int) : Int := clip (clip a - clip b)
def mul (a b : Int) : Int := clip (clip a * clip b)
def sum (l : List Int) : Int := l.foldl (fun n x => clip (n + clip x)) 0
def most (l : List Int) : Int := l.foldl (fun n x => if n < clip x then clip x else n) (-2305843009213693952)
def least (l : List Int) : Int := l.foldl (fun n x => if clip x < n then clip x else n) 2305843009213693952

theorem clip_bd (x : Int) : -2305843009213693952 ≤ clip x ∧ clip x ≤ 2305843009213693952 := by
  unfold clip; repeat' split
  all_goals omega
theorem clip_hi {x : Int} (h : 2305843009213693952 ≤ x) : clip x = 2305843009213693952 := by
  unfold clip; repeat' split
  all_goals omega
theorem clip_in {x : Int} (h1 : -2305843009213693952 ≤ x) (h2 : x ≤ 2305843009213693952) : clip x = x := by
  unfold clip; repeat' split
  all_goals omega
theorem clip_clip (x : Int) : clip (clip x) = clip x := clip_in (clip_bd x).1 (clip_bd x).2
theorem clip_neg (x : Int) : clip (-x) = -clip x := by
  unfold clip; repeat' split
  all_goals omega
theorem clip_mono {x y : Int} (h : x ≤ y) : clip x ≤ clip y := by
  unfold clip; repeat' split
  all_goals omega
theorem clip_eq_bound (x : Int) : clip x = bound x (-2305843009213693952) 2305843009213693952 := by
  unfold clip bound; repeat' split
  all_goals omega
theorem abs_bd (x : Int) : 0 ≤ abs x ∧ abs x ≤ 2305843009213693952 := by
  have := clip_bd x; unfold abs; split <;> omega
theorem sub_bd (a b : Int) : -2305843009213693952 ≤ sub a b ∧ sub a b ≤ 2305843009213693952 := clip_bd _
theorem mul_bd (a b : Int) : -2305843009213693952 ≤ mul a b ∧ mul a b ≤ 2305843009213693952 := clip_bd _

theorem sum_nil : sum [] = 0 := rfl
theorem sum_snoc (l : List Int) (x : Int) : sum (l ++ [x]) = clip (sum l + clip x) := by simp [sum]
theorem sum_bd (l : List Int) : -2305843009213693952 ≤ sum l ∧ sum l ≤ 2305843009213693952 := by
  rcases List.eq_nil_or_concat l with rfl | ⟨m, x, rfl⟩
  · rw [sum_nil]; omega
  · rw [List.concat_eq_append, sum_snoc]; exact clip_bd _
theorem most_snoc (l : List Int) (x : Int) : most (l ++ [x]) = if most l < clip x then clip x else most l := by unfold most; rw [List.foldl_append]; rfl
theorem most_bd (l : List Int) : -2305843009213693952 ≤ most l ∧ most l ≤ 2305843009213693952 := by
  suffices h : ∀ (l : List Int) (n : Int), -2305843009213693952 ≤ n → n ≤ 2305843009213693952 → -2305843009213693952 ≤ l.foldl (fun n x => if n < clip x then clip x else n) n ∧ l.foldl (fun n x => if n < clip x then clip x else n) n ≤ 2305843009213693952 from h l _ (by omega) (by omega)
  intro l; induction l with
  | nil => intro n h1 h2; exact ⟨h1, h2⟩
  | cons x l ih => intro n h1 h2; have := clip_bd x; simp only [List.foldl_cons]; apply ih <;> split <;> omega
/-- What is left of m above its k lowest bits. -/
def top (m k : Nat) : Int := ((m / 2 ^ k : Nat) : Int)
end Sat
end Go.Proofs.YtmokofblmkeloaaGreatDoor

/- Plain mathematics of layer 2: quotients of products, and long division in base 2^32. It names no program. -/
namespace Go.Proofs.YtmokofblmkeloaaGreatDoor
namespace Wide

/-- A trial digit t, with what it leaves: not below the quotient, and at most one more than the base. -/
structure Dig (n1 n0 u d t r : Nat) : Prop where
  sum : t * n1 + r = u
  ge : (u * 4294967296 + d) / (n1 * 4294967296 + n0) ≤ t
  left : r < 4294967296
  le : t ≤ 4294967297

/-- A divisor: clipped, not below 1. -/
def one (c : Int) : Int := if Sat.clip c < 1 then 1 else Sat.clip c
theorem one_bd (c : Int) : 1 ≤ one c ∧ one c ≤ 2305843009213693952 := by
  have := Sat.clip_bd c; unfold one; split <;> omega
theorem most_one (c : Int) : Sat.most [c, 1] = one c := by
  have := Sat.clip_bd c
  have h1 : Sat.clip 1 = 1 := by decide
  unfold Sat.most one
  simp only [List.foldl_cons, List.foldl_nil, h1]
  repeat' split
  all_goals omega
/-- A ratio down, and up, clipped. -/
def fdiv (p c : Int) : Int := Sat.clip (p / c)
def cdiv (p c : Int) : Int := Sat.clip (-(-p / c))
def down (a b c : Int) : Int := fdiv (Sat.clip a * Sat.clip b) (one c)
def up (a b c : Int) : Int := cdiv (Sat.clip a * Sat.clip b) (one c)
theorem up_bd (a b c : Int) : -2305843009213693952 ≤ up a b c ∧ up a b c ≤ 2305843009213693952 := Sat.clip_bd _
/-- Whole division, of Go's. -/
theorem trunc (a k : Int) (hk : 1 ≤ k) (hk' : k ≤ 2305843009213693952) (ha : -2305843009213693952 ≤ a) (ha' : a ≤ 2305843009213693952) :
    (-2305843009213693952 ≤ a.tdiv k ∧ a.tdiv k ≤ 2305843009213693952) ∧ (-2305843009213693952 < a.tmod k ∧ a.tmod k < 2305843009213693952) ∧
    (a.tmod k < 0 → a / k = a.tdiv k - 1 ∧ a % k = a.tmod k + k) ∧ (0 ≤ a.tmod k → a / k = a.tdiv k ∧ a % k = a.tmod k) := by
  have key : ∀ (q r : Int), r + k * q = a → 0 ≤ r → r < k → a / k = q ∧ a % k = r := fun q r h1 h2 h3 => (Int.ediv_emod_unique (by omega)).2 ⟨h1, h2, h3⟩
  have h := Int.mul_tdiv_add_tmod a k
  rcases Int.lt_or_le a 0 with hn | hn
  · obtain ⟨n, hn'⟩ : ∃ n : Nat, a = -(n : Int) := ⟨a.natAbs, by omega⟩
    obtain ⟨m, rfl⟩ := Int.eq_ofNat_of_zero_le (show 0 ≤ k by omega)
    have e1 : a.tdiv m = -((n / m : Nat) : Int) := by rw [hn', Int.neg_tdiv]; rfl
    have e2 : a.tmod m = -((n % m : Nat) : Int) := by rw [hn', Int.neg_tmod]; rfl
    have hl := Nat.mod_lt n (show 0 < m by omega)
    have hd := Nat.div_le_self n m
    rw [e1, e2] at h ⊢
    clear e1 e2
    generalize n / m = q at *
    generalize n % m = r at *
    rw [Int.mul_neg] at h
    refine ⟨by omega, by omega, fun hr => ?_, fun hr => ?_⟩
    · exact key _ _ (by rw [Int.mul_sub, Int.mul_one, Int.mul_neg]; omega) (by omega) (by omega)
    · exact key _ _ (by rw [Int.mul_neg]; omega) (by omega) (by omega)
  · obtain ⟨n, rfl⟩ := Int.eq_ofNat_of_zero_le hn
    obtain ⟨m, rfl⟩ := Int.eq_ofNat_of_zero_le (show 0 ≤ k by omega)
    have e1 : ((n : Int)).tdiv m = ((n / m : Nat) : Int) := rfl
    have e2 : ((n : Int)).tmod m = ((n % m : Nat) : Int) := rfl
    have hl := Nat.mod_lt n (show 0 < m by omega)
    have hd := Nat.div_le_self n m
    rw [e1, e2] at h ⊢
    clear e1 e2
    generalize n / m = q at *
    generalize n % m = r at *
    exact ⟨by omega, by omega, fun hr => by omega, fun hr => key _ _ (by omega) (by omega) (by omega)⟩
theorem rises (a b more c : Int) (hb : 0 ≤ b) (hm : 0 ≤ more) : down a b c ≤ down (Sat.sum [a, more]) b c := by
  have cb : 0 ≤ Sat.clip b := by unfold Sat.clip; repeat' split
                                 all_goals omega
  have cm : Sat.clip a ≤ Sat.clip (Sat.sum [a, more]) := by
    have : Sat.sum [a, more] = Sat.clip (Sat.clip (0 + Sat.clip a) + Sat.clip more) := rfl
    rw [this, Sat.clip_clip, Int.zero_add, Sat.clip_clip]
    have h := Sat.clip_bd a
    have hmm : 0 ≤ Sat.clip more := by unfold Sat.clip; repeat' split
                                       all_goals omega
    have := Sat.clip_mono (show Sat.clip a ≤ Sat.clip a + Sat.clip more by omega)
    rw [Sat.clip_clip] at this
    exact this
  unfold down fdiv
  exact Sat.clip_mono (Int.ediv_le_ediv (by have := one_bd c; omega) (Int.mul_le_mul_of_nonneg_right cm cb))
end Wide
end Go.Proofs.YtmokofblmkeloaaGreatDoor

/- Plain mathematics of layer 17, more: remainders as Go has them, months in a row, days there are. It names no program. -/
namespace Go.Proofs.YtmokofblmkeloaaGreatDoor
namespace Civil
/-- Where a year's number may be. -/
theorem first_bd {y : Int} : 365 * (y - 1970) - 477 + (y - 1) / 4 - (y - 1) / 100 + (y - 1) / 400 = first y := by unfold first leaps; omega
theorem first_lt {y : Int} (h : first y ≤ 4294967296) : y ≤ 11761191 := by rw [← first_bd] at h; omega
theorem first_gt {y : Int} (h : -4294967296 < first y) : -11757252 < y := by rw [← first_bd] at h; omega
/-- The number of a day, if there is one. -/
def num (y m d : Int) : Int := first y + ahead y m + d - 1
def inn (n : Int) : Prop := -4294967296 ≤ n ∧ n ≤ 4294967296
instance (n : Int) : Decidable (inn n) := inferInstanceAs (Decidable (_ ∧ _))
def real (y m d : Int) : Prop := (-11767033 ≤ y ∧ y ≤ 11767033) ∧ (1 ≤ d ∧ d ≤ days y m)
instance (y m d : Int) : Decidable (real y m d) := inferInstanceAs (Decidable (_ ∧ _))
def may (y m d : Int) : Prop := real y m d ∧ inn (num y m d)
instance (y m d : Int) : Decidable (may y m d) := inferInstanceAs (Decidable (_ ∧ _))
theorem real.month {y m d : Int} (h : real y m d) : 1 ≤ m ∧ m ≤ 12 := by
  obtain ⟨-, h1, h2⟩ := h
  by_cases g : m < 1 ∨ 12 < m
  · rw [days_no g] at h2; omega
  · omega
theorem real.is {y m d : Int} (h : real y m d) : Is (num y m d) y m d := ⟨h.month, h.2, rfl⟩
theorem Is.there {n y m d : Int} (h : Is n y m d) (hn : inn n) : may y m d := by
  have hy := h.year
  obtain ⟨a, b, e⟩ := h
  have e2 : num y m d = n := by unfold num; omega
  have hx := first_lt (y := y) (by unfold inn at hn; omega)
  have hz := first_gt (y := y + 1) (by unfold inn at hn; omega)
  exact ⟨⟨⟨by omega, by omega⟩, b⟩, by rw [e2]; exact hn⟩
theorem Is.same {n y m d : Int} (h : Is n y m d) : num y m d = n := by unfold num; have := h.2.2; omega
/-- Each number is one day's. -/
theorem is_next {n y m d : Int} (h : Is n y m d) : ∃ y' m' d', Is (n + 1) y' m' d' := by
  obtain ⟨a, b, c⟩ := h.next
  obtain ⟨⟨m1, m2⟩, ⟨d1, d2⟩, -⟩ := h
  rcases Int.lt_or_le d (days y m) with g | g
  · exact ⟨_, _, _, a g⟩
  · have e : d = days y m := by omega
    rcases Int.lt_or_le m 12 with k | k
    · exact ⟨_, _, _, b e k⟩
    · exact ⟨_, _, _, c e (by omega)⟩
theorem is_one : Is 0 1970 1 1 := ⟨by decide, by decide, by decide⟩
theorem is_nat (n : Nat) : ∃ y m d, Is n y m d := by
  induction n with
  | zero => exact ⟨_, _, _, is_one⟩
  | succ n ih => obtain ⟨y, m, d, h⟩ := ih; exact is_next h
theorem is_some (n : Int) : ∃ y m d, Is n y m d := by
  obtain ⟨y, m, d, h⟩ := is_nat (n + 146097 * n.natAbs).toNat
  have e : (((n + 146097 * n.natAbs).toNat : Nat) : Int) = n + 146097 * n.natAbs := by omega
  rw [e] at h
  have g := h.cycle (-(n.natAbs : Int))
  rw [show n + 146097 * (n.natAbs : Int) + 146097 * -(n.natAbs : Int) = n by omega] at g
  exact ⟨_, _, _, g⟩
end Civil
end Go.Proofs.YtmokofblmkeloaaGreatDoor

/- Plain mathematics of layer 18, more: where an entry stands in a table, what a label is, how labels stand, what a label's count is. It names no program. -/
namespace Go.Proofs.YtmokofblmkeloaaGreatDoor
namespace Leap
/-- How many entries stand ahead of the first one behind a count. -/
def gone (c : Int) (l : List (Int × Int)) : Nat := l.findIdx fun e => decide (c < e.1)
/-- A label: six numbers. -/
structure Lb where
  y : Int
  m : Int
  d : Int
  h : Int
  i : Int
  s : Int
  deriving DecidableEq
/-- The day of a number. -/
noncomputable def date (n : Int) : Int × Int × Int := (Classical.choose (Civil.is_some n), Classical.choose (Classical.choose_spec (Civil.is_some n)), Classical.choose (Classical.choose_spec (Classical.choose_spec (Civil.is_some n))))
/-- The hour, the minute, the second of a day's second; of the 86401st: 23:59:60. -/
def hour (s : Int) : Int := if s = 86400 then 23 else s / 3600
def minute (s : Int) : Int := if s = 86400 then 59 else s % 3600 / 60
def second (s : Int) : Int := if s = 86400 then 60 else s % 60
/-- The label of a day's number and its second. -/
noncomputable def mk (s : Int × Int) : Lb := ⟨(date s.1).1, (date s.1).2.1, (date s.1).2.2, hour s.2, minute s.2, second s.2⟩
/-- The offset is 0 or an entry's. -/
theorem off_some (o c : Int) (l : List (Int × Int)) : off o c l = o ∨ ∃ e ∈ l, off o c l = e.2 := by
  induction l generalizing o with
  | nil => exact .inl rfl
  | cons x l ih =>
    rw [off]
    by_cases h : x.1 ≤ c
    · rw [if_pos h]
      rcases ih x.2 with g | ⟨e, he, g⟩
      · exact .inr ⟨x, List.mem_cons_self, g⟩
      · exact .inr ⟨e, List.mem_cons_of_mem _ he, g⟩
    · rw [if_neg h]
      rcases ih o with g | ⟨e, he, g⟩
      · exact .inl g
      · exact .inr ⟨e, List.mem_cons_of_mem _ he, g⟩
theorem off_bd {o c : Int} {l : List (Int × Int)} {b : Int} (ho : -b ≤ o ∧ o ≤ b) (h : ∀ e ∈ l, -b ≤ e.2 ∧ e.2 ≤ b) : -b ≤ off o c l ∧ off o c l ≤ b := by
  rcases off_some o c l with g | ⟨e, he, g⟩
  · rw [g]; exact ho
  · rw [g]; exact h e he
/-- A good table: a leap table whose leaps are at the ends of days. -/
def good (l : List (Int × Int)) : Bool := Wire.tab l && l.all fun e => decide ((e.1 - e.2) % 86400 = 0)
theorem tab_bd {l : List (Int × Int)} (h : Wire.tab l = true) : l.length ≤ 32 ∧ ∀ e ∈ l, (0 ≤ e.1 ∧ e.1 ≤ 1099511627776) ∧ -32 ≤ e.2 ∧ e.2 ≤ 32 := by
  unfold Wire.tab at h
  rw [Bool.and_eq_true, decide_eq_true_eq] at h
  exact ⟨h.1, Wire.tabFrom_bd l 0 0 (by omega) h.2⟩
theorem good_tab {l : List (Int × Int)} (h : good l = true) : Wire.tab l = true := by
  unfold good at h; rw [Bool.and_eq_true] at h; exact h.1
/-- The counts there are. -/
def cnt (c : Int) : Prop := -4398046511104 ≤ c ∧ c ≤ 4398046511104
instance (c : Int) : Decidable (cnt c) := inferInstanceAs (Decidable (_ ∧ _))
end Leap
end Go.Proofs.YtmokofblmkeloaaGreatDoor

/- Plain mathematics of layer 19: a table's key, in decimal digits, tells it from every other one; the table that most tell. It names no program. -/
namespace Go.Proofs.YtmokofblmkeloaaGreatDoor
namespace Vote
open Go.Lib
/-- The number that decimal digits make. -/
def val (l : List UInt8) : Nat := l.foldl (fun a d => 10 * a + (d.toNat - 48)) 0
theorem val_snoc (l : List UInt8) (d : UInt8) : val (l ++ [d]) = 10 * val l + (d.toNat - 48) := by simp [val]
theorem digit_nat {k : Nat} (h : k < 10) : (UInt8.ofNat (48 + k)).toNat = 48 + k := by
  rw [UInt8.toNat_ofNat']
  omega
theorem dec_step {u : Nat} (h : ¬ u < 10) : decDigits u = decDigits (u / 10) ++ [UInt8.ofNat (48 + u % 10)] := by rw [decDigits, dif_neg h]
theorem dec_val (u : Nat) : val (decDigits u) = u := by
  induction u using Nat.strongRecOn with
  | ind u ih =>
    by_cases h : u < 10
    · rw [decDigits_one h]
      show 10 * 0 + ((UInt8.ofNat (48 + u)).toNat - 48) = u
      rw [digit_nat h]; omega
    · rw [dec_step h, val_snoc, ih (u / 10) (by omega), digit_nat (by omega)]
      omega
theorem dec_in (u : Nat) : ∀ d ∈ decDigits u, 48 ≤ d.toNat ∧ d.toNat ≤ 57 := by
  induction u using Nat.strongRecOn with
  | ind u ih =>
    by_cases h : u < 10
    · rw [decDigits_one h]
      intro d hd
      rw [List.mem_singleton] at hd
      subst hd
      rw [digit_nat h]; omega
    · rw [dec_step h]
      intro d hd
      rcases List.mem_append.1 hd with g | g
      · exact ih (u / 10) (by omega) d g
      · rw [List.mem_singleton] at g
        subst g
        rw [digit_nat (by omega)]; omega
theorem dec_one {u v : Nat} (h : decDigits u = decDigits v) : u = v := by rw [← dec_val u, h, dec_val]
/-- A number's letters are digits, or a sign. -/
theorem itoa_in (n : Int) : ∀ d ∈ itoa n, d.toNat = 45 ∨ 48 ≤ d.toNat ∧ d.toNat ≤ 57 := by
  unfold itoa
  intro d hd
  by_cases h : n < 0
  · rw [if_pos h] at hd
    rcases List.mem_cons.1 hd with rfl | g
    · exact .inl rfl
    · exact .inr (dec_in _ d g)
  · rw [if_neg h] at hd
    exact .inr (dec_in _ d hd)
theorem itoa_one {m n : Int} (h : itoa m = itoa n) : m = n := by
  unfold itoa at h
  have key : ∀ u v : Nat, (45 : UInt8) :: decDigits u ≠ decDigits v := fun u v e => by
    have := dec_in v 45 (by rw [← e]; exact List.mem_cons_self)
    have g : (45 : UInt8).toNat = 45 := rfl
    omega
  by_cases h1 : m < 0
  · by_cases h2 : n < 0
    · rw [if_pos h1, if_pos h2] at h
      injection h with _ h3
      have := dec_one h3
      omega
    · rw [if_pos h1, if_neg h2] at h
      exact absurd h (key _ _)
  · by_cases h2 : n < 0
    · rw [if_neg h1, if_pos h2] at h
      exact absurd h.symm (key _ _)
    · rw [if_neg h1, if_neg h2] at h
      have := dec_one h
      omega
/-- What stands ahead of a letter that none of them is, is told by the whole. -/
theorem cut_one {s : UInt8} : ∀ {a b c d : List UInt8}, (∀ x ∈ a, x ≠ s) → (∀ x ∈ b, x ≠ s) → a ++ s :: c = b ++ s :: d → a = b ∧ c = d
  | [], [], c, d, _, _, h => by injection h with _ h; exact ⟨rfl, h⟩
  | [], y :: b, c, d, _, hb, h => by injection h with h _; exact absurd h.symm (hb y List.mem_cons_self)
  | x :: a, [], c, d, ha, _, h => by injection h with h _; exact absurd h (ha x List.mem_cons_self)
  | x :: a, y :: b, c, d, ha, hb, h => by
    injection h with h1 h2
    obtain ⟨e1, e2⟩ := cut_one (fun z hz => ha z (List.mem_cons_of_mem _ hz)) (fun z hz => hb z (List.mem_cons_of_mem _ hz)) h2
    exact ⟨by rw [h1, e1], e2⟩
/-- A table's key. -/
def key (l : List (Int × Int)) : List UInt8 := l.flatMap fun e => itoa e.1 ++ 58 :: (itoa e.2 ++ [59])
theorem key_cons (e : Int × Int) (l : List (Int × Int)) : key (e :: l) = itoa e.1 ++ 58 :: (itoa e.2 ++ 59 :: key l) := by simp [key]
theorem key_snoc (l : List (Int × Int)) (e : Int × Int) : key (l ++ [e]) = key l ++ (itoa e.1 ++ 58 :: (itoa e.2 ++ [59])) := by simp [key]
theorem itoa_58 (n : Int) : ∀ d ∈ itoa n, d ≠ 58 := fun d hd e => by
  have := itoa_in n d hd
  have g : (58 : UInt8).toNat = 58 := rfl
  rw [e] at this; omega
theorem itoa_59 (n : Int) : ∀ d ∈ itoa n, d ≠ 59 := fun d hd e => by
  have := itoa_in n d hd
  have g : (59 : UInt8).toNat = 59 := rfl
  rw [e] at this; omega
/-- A key tells a table from every other one. -/
theorem key_one : ∀ {a b : List (Int × Int)}, key a = key b → a = b
  | [], [], _ => rfl
  | [], e :: b, h => by
    rw [key_cons] at h
    have := congrArg List.length h
    simp [key] at this
  | e :: a, [], h => by
    rw [key_cons] at h
    have := congrArg List.length h
    simp [key] at this
  | (x, y) :: a, (u, v) :: b, h => by
    rw [key_cons, key_cons] at h
    obtain ⟨h1, h2⟩ := cut_one (itoa_58 x) (itoa_58 u) h
    obtain ⟨h3, h4⟩ := cut_one (itoa_59 y) (itoa_59 v) h2
    rw [itoa_one h1, itoa_one h3, key_one h4]
/-- How many tell a table. -/
def tells (t : List (Int × Int)) (l : List (List (Int × Int))) : Nat := l.countP fun u => decide (u = t)
theorem tells_le' (t : List (Int × Int)) (l : List (List (Int × Int))) : tells t l ≤ l.length := List.countP_le_length
/-- Two tables that differ are told by no more than all together. -/
theorem tells_two {s t : List (Int × Int)} (h : s ≠ t) (l : List (List (Int × Int))) : tells s l + tells t l ≤ l.length := by
  unfold tells
  induction l with
  | nil => simp
  | cons x l ih =>
    simp only [List.countP_cons, List.length_cons]
    by_cases h1 : x = s
    · have h2 : x ≠ t := fun e => h (h1.symm.trans e)
      simp [h1, h]; omega
    · simp [h1]
      split <;> omega
/-- The place of the table that is adopted among the first k: a good one that more than F tell, that most tell, the first of several such; and by how many. -/
def best (F : Int) (l : List (List (Int × Int))) : Nat → Option Nat × Int
  | 0 => (none, F)
  | k + 1 => match l[k]? with
    | none => best F l k
    | some t => if Leap.good t = true ∧ (best F l k).2 < tells t l then (some k, tells t l) else best F l k
theorem best_step {F : Int} {l : List (List (Int × Int))} {k : Nat} (hk : k < l.length) : best F l (k + 1) = if Leap.good l[k] = true ∧ (best F l k).2 < tells l[k] l then (some k, (tells l[k] l : Int)) else best F l k := by
  simp only [best, List.getElem?_eq_getElem hk]
/-- What is adopted. -/
theorem best_is {F : Int} {l : List (List (Int × Int))} : ∀ {k : Nat}, k ≤ l.length → F ≤ (best F l k).2 ∧ ((best F l k).1 = none → (best F l k).2 = F) ∧
    (∀ i, (best F l k).1 = some i → ∃ h : i < l.length, i < k ∧ Leap.good l[i] = true ∧ F < tells l[i] l ∧ (best F l k).2 = tells l[i] l) ∧
    (∀ j (h : j < l.length), j < k → Leap.good l[j] = true → (tells l[j] l : Int) ≤ (best F l k).2)
  | 0, _ => ⟨Int.le_refl _, fun _ => rfl, fun _ h => by simp [best] at h, fun _ _ h => absurd h (Nat.not_lt_zero _)⟩
  | k + 1, hk => by
    obtain ⟨h1, h2, h3, h4⟩ := best_is (k := k) (F := F) (l := l) (by omega)
    rw [best_step (by omega)]
    by_cases h : Leap.good l[k] = true ∧ (best F l k).2 < tells l[k] l
    · rw [if_pos h]
      refine ⟨by simp only; omega, fun e => by simp at e, fun i e => ?_, fun j hj hjk hg => ?_⟩
      · simp only [Option.some.injEq] at e
        subst e
        exact ⟨by omega, by omega, h.1, by omega, rfl⟩
      · simp only
        by_cases e : j = k
        · subst e; omega
        · have := h4 j hj (by omega) hg; omega
    · rw [if_neg h]
      refine ⟨h1, h2, fun i e => ?_, fun j hj hjk hg => ?_⟩
      · obtain ⟨a, b, c⟩ := h3 i e
        exact ⟨a, by omega, c⟩
      · by_cases e : j = k
        · subst e
          rcases Int.lt_or_le (best F l j).2 (tells l[j] l) with g | g
          · exact absurd ⟨hg, g⟩ h
          · exact g
        · exact h4 j hj (by omega) hg
/-- Whoever lies: what more than F tell is adopted, if all but F at most tell it. -/
theorem best_holds {F : Int} {l : List (List (Int × Int))} {t : List (Int × Int)} (hg : Leap.good t = true) (h1 : F < tells t l) (h2 : (l.length : Int) - tells t l ≤ F) : ∃ i, (best F l l.length).1 = some i ∧ ∃ h : i < l.length, l[i] = t := by
  obtain ⟨b1, b2, b3, b4⟩ := best_is (F := F) (l := l) (k := l.length) (Nat.le_refl _)
  have hm : t ∈ l := by
    have : 0 < tells t l ∨ F < 0 := by omega
    rcases this with g | g
    · obtain ⟨u, hu, e⟩ := List.countP_pos_iff.1 g
      have := of_decide_eq_true e
      subst this; exact hu
    · have := tells_le' t l
      omega
  obtain ⟨j, hj, e⟩ := List.mem_iff_getElem.1 hm
  have b5 := b4 j hj hj (by rw [e]; exact hg)
  rw [e] at b5
  cases hb : (best F l l.length).1 with
  | none => have := b2 hb; omega
  | some i =>
    obtain ⟨c1, c2, c3, c4, c5⟩ := b3 i hb
    refine ⟨i, rfl, c1, ?_⟩
    by_cases e2 : l[i] = t
    · exact e2
    · have := tells_two e2 l; omega
end Vote
end Go.Proofs.YtmokofblmkeloaaGreatDoor

/- Plain mathematics of layer 19, more: the vote of the good tables' keys is the vote of the tables. It names no program. -/
namespace Go.Proofs.YtmokofblmkeloaaGreatDoor
namespace Vote
/-- How many of these texts are this one. -/
def cnt (l : List (List UInt8)) (x : List UInt8) : Nat := l.countP fun y => decide (x = y)
/-- Behind k texts: the place of the one of which there are most, and how many. -/
def top (l : List (List UInt8)) (f : Int) : Nat → Int × Int
  | 0 => (-1, f)
  | k + 1 => if (top l f k).2 < (cnt l (l.getD k []) : Int) then ((k : Int), (cnt l (l.getD k []) : Int)) else top l f k
def topVal (l : List (List UInt8)) (b : Int) : List UInt8 := if 0 ≤ b then l.getD b.toNat [] else []
theorem top_snoc {l : List (List UInt8)} {k : Nat} (h : k < l.length) (f : Int) : top l f (k + 1) = if (top l f k).2 < (cnt l l[k] : Int) then ((k : Int), (cnt l l[k] : Int)) else top l f k := by
  rw [top, List.getD_eq_getElem?_getD, List.getElem?_eq_getElem h]; rfl
theorem topVal_at {l : List (List UInt8)} {k : Nat} (h : k < l.length) : topVal l (k : Int) = l[k] := by
  unfold topVal
  rw [if_pos (by omega), List.getD_eq_getElem?_getD, Int.toNat_natCast, List.getElem?_eq_getElem h]; rfl
/-- The good ones of these tables; their keys. -/
def goods (T : List (List (Int × Int))) : List (List (Int × Int)) := T.filter Leap.good
def keys (T : List (List (Int × Int))) : List (List UInt8) := (goods T).map key
theorem keys_length (T : List (List (Int × Int))) : (keys T).length = (goods T).length := List.length_map _
theorem keys_at {T : List (List (Int × Int))} {j : Nat} (hj : j < (keys T).length) (g : j < (goods T).length) : (keys T)[j] = key (goods T)[j] := by simp only [keys, List.getElem_map]
theorem cnt_keys {t : List (Int × Int)} (h : Leap.good t = true) (T : List (List (Int × Int))) : cnt (keys T) (key t) = tells t T := by
  unfold cnt keys goods tells
  rw [List.countP_map, List.countP_filter]
  refine List.countP_congr fun u _ => ?_
  simp only [Function.comp, Bool.and_eq_true, decide_eq_true_eq]
  constructor
  · rintro ⟨a, _⟩; exact (key_one a).symm
  · rintro rfl; exact ⟨rfl, h⟩
theorem goods_split {T : List (List (Int × Int))} {k : Nat} (hk : k < T.length) (h : Leap.good T[k] = true) : ∃ g : (goods (T.take k)).length < (goods T).length, (goods T)[(goods (T.take k)).length] = T[k] := by
  have e : goods T = goods (T.take k) ++ T[k] :: goods (T.drop (k + 1)) := by
    conv => lhs; rw [← List.take_append_drop k T, List.drop_eq_getElem_cons hk]
    unfold goods
    rw [List.filter_append, List.filter_cons_of_pos h]
  have hl : (goods (T.take k)).length < (goods T).length := by
    rw [e, List.length_append, List.length_cons]; omega
  refine ⟨hl, ?_⟩
  have : (goods T)[(goods (T.take k)).length]? = some T[k] := by
    rw [e, List.getElem?_append_right (Nat.le_refl _), Nat.sub_self]; rfl
  rw [List.getElem?_eq_getElem hl] at this
  exact Option.some.inj this
theorem goods_more {T : List (List (Int × Int))} {k : Nat} (hk : k < T.length) : (goods (T.take (k + 1))).length = (goods (T.take k)).length + if Leap.good T[k] = true then 1 else 0 := by
  rw [List.take_succ_eq_append_getElem hk]
  unfold goods
  rw [List.filter_append, List.length_append]
  by_cases h : Leap.good T[k] = true
  · rw [List.filter_cons_of_pos h, if_pos h]; rfl
  · rw [List.filter_cons_of_neg (by simpa using h), if_neg h]; rfl
/-- The vote of the keys, step by step, is the vote of the tables. -/
theorem top_best (F : Int) (T : List (List (Int × Int))) : ∀ k, k ≤ T.length →
    ((best F T k).1 = none ∧ (best F T k).2 = F ∧ top (keys T) F (goods (T.take k)).length = (-1, F)) ∨
    ∃ i, ∃ h : i < T.length, (best F T k).1 = some i ∧ ∃ j : Nat, ∃ g : j < (goods T).length, j < (goods (T.take k)).length ∧ (goods T)[j] = T[i] ∧ top (keys T) F (goods (T.take k)).length = ((j : Int), (best F T k).2) := by
  intro k
  induction k with
  | zero => intro _; exact .inl ⟨rfl, rfl, rfl⟩
  | succ k ih =>
    intro hk
    have hlt : k < T.length := by omega
    rw [best_step hlt, goods_more hlt]
    by_cases h : Leap.good T[k] = true
    · obtain ⟨g, e⟩ := goods_split hlt h
      have gk : (goods (T.take k)).length < (keys T).length := by unfold keys; rw [List.length_map]; exact g
      have ek : (keys T)[(goods (T.take k)).length] = key T[k] := by
        rw [keys_at gk g, e]
      rw [if_pos h, top_snoc gk, ek, cnt_keys h]
      have h2 : (top (keys T) F (goods (T.take k)).length).2 = (best F T k).2 := by
        rcases ih (by omega) with ⟨_, b, c⟩ | ⟨i, _, _, j, _, _, _, c⟩
        · rw [b, c]
        · rw [c]
      rw [h2]
      by_cases d : (best F T k).2 < tells T[k] T
      · rw [if_pos d, if_pos ⟨h, d⟩]
        exact .inr ⟨k, hlt, rfl, (goods (T.take k)).length, g, by omega, e, rfl⟩
      · rw [if_neg d, if_neg (fun q => d q.2)]
        rcases ih (by omega) with ⟨a, b, c⟩ | ⟨i, x, y, j, z, u, v, c⟩
        · exact .inl ⟨a, b, c⟩
        · exact .inr ⟨i, x, y, j, z, by omega, v, c⟩
    · rw [if_neg h, if_neg (fun q => h q.1), Nat.add_zero]
      exact ih (by omega)
/-- The place that the document answers. -/
def place (F : Int) (T : List (List (Int × Int))) (k : Nat) : Int := match (best F T k).1 with
  | some i => i
  | none => -1
/-- What is answered. -/
def is (F : Int) (T : List (List (Int × Int))) : Bool := (best F T T.length).1.isSome
def out (F : Int) (own : List (Int × Int)) (T : List (List (Int × Int))) : List (Int × Int) := match (best F T T.length).1 with
  | some i => T.getD i []
  | none => own
theorem agreed (F : Int) (own : List (Int × Int)) (T : List (List (Int × Int))) :
    (is F T = false ∧ out F own T = own ∧ place F T T.length = -1 ∧ (top (keys T) F (keys T).length).1 = -1) ∨
    ∃ i : Nat, ∃ h : i < T.length, is F T = true ∧ out F own T = T[i] ∧ place F T T.length = i ∧ ∃ j : Nat, ∃ g : j < (keys T).length, (top (keys T) F (keys T).length).1 = j ∧ (keys T)[j] = key T[i] := by
  have hl : (keys T).length = (goods (T.take T.length)).length := by rw [List.take_length]; unfold keys; rw [List.length_map]
  rcases top_best F T T.length (Nat.le_refl _) with ⟨a, b, c⟩ | ⟨i, x, y, j, z, u, v, c⟩
  · left
    unfold is out place
    rw [a, hl, c]
    exact ⟨rfl, rfl, rfl, rfl⟩
  · right
    refine ⟨i, x, by unfold is; rw [y]; rfl, ?_, by unfold place; rw [y], j, by rw [hl]; exact u, by rw [hl, c], ?_⟩
    · unfold out; rw [y]
      simp only [List.getD_eq_getElem?_getD, List.getElem?_eq_getElem x, Option.getD_some]
    · rw [keys_at _ z, v]
theorem key_at {T : List (List (Int × Int))} {j : Nat} (hj : j < (keys T).length) (g : j < (goods T).length) {t : List (Int × Int)} (h : (keys T)[j] = key t) : (goods T)[j] = t := by
  rw [keys_at hj g] at h
  exact key_one h
/-- Whoever lies. -/
theorem holds {F : Int} {own t : List (Int × Int)} {T : List (List (Int × Int))} (hg : Leap.good t = true) (h1 : F < tells t T) (h2 : (T.length : Int) - tells t T ≤ F) : is F T = true ∧ out F own T = t := by
  obtain ⟨i, hi, hlt, e⟩ := best_holds hg h1 h2
  unfold is out
  rw [hi]
  refine ⟨rfl, ?_⟩
  simp only [List.getD_eq_getElem?_getD, List.getElem?_eq_getElem hlt, Option.getD_some]
  exact e
end Vote
end Go.Proofs.YtmokofblmkeloaaGreatDoor

/- Plain mathematics of layer 4: a fabric's numbers, and what they bound. It names no program. -/
namespace Go.Proofs.YtmokofblmkeloaaGreatDoor
/-- A fabric's numbers. -/
structure Par where
  n : Int
  f : Int
  d : Int
  beat : Int
  rho : Int
  delay : Int
  jit : Int
  eps : Int
  mu : Int
  hold : Int
  pulse : Int
  sec : Int
namespace Lim
def win (x lo hi : Int) : Bool := decide (lo ≤ x ∧ x ≤ hi)
theorem win_true {x lo hi : Int} : win x lo hi = true ↔ lo ≤ x ∧ x ≤ hi := by simp [win]
theorem win_false {x lo hi : Int} : win x lo hi = false ↔ ¬ (lo ≤ x ∧ x ≤ hi) := by simp [win]
def Gates (p : Par) : Prop := (1 ≤ p.n ∧ p.n ≤ 16) ∧ (0 ≤ p.f ∧ 3 * p.f + 1 ≤ p.n)
def Beat (p : Par) : Prop := (1 ≤ p.beat ∧ p.beat ≤ 1099511627776) ∧ (0 ≤ p.rho ∧ 8 * p.rho ≤ p.beat) ∧ (0 ≤ p.delay ∧ 2 * p.delay ≤ p.beat) ∧ (0 ≤ p.jit ∧ p.jit ≤ p.delay) ∧ (0 ≤ p.eps ∧ p.eps ≤ 1099511627776) ∧ (p.rho < p.mu ∧ 4 * p.mu ≤ p.beat)
def Beats (p : Par) : Prop := (0 ≤ p.d ∧ p.d ≤ 16) ∧ (p.d + 2 ≤ p.hold ∧ p.hold ≤ 1048576)
def Users (p : Par) : Prop := (1 ≤ p.pulse ∧ p.pulse ≤ 1099511627776) ∧ (1 ≤ p.sec ∧ p.sec ≤ 1099511627776)
instance (p : Par) : Decidable (Gates p) := by unfold Gates; infer_instance
instance (p : Par) : Decidable (Beat p) := by unfold Beat; infer_instance
instance (p : Par) : Decidable (Beats p) := by unfold Beats; infer_instance
instance (p : Par) : Decidable (Users p) := by unfold Users; infer_instance
def May (p : Par) : Prop := Gates p ∧ Beat p ∧ Beats p ∧ Users p
instance (p : Par) : Decidable (May p) := by unfold May; infer_instance
def check (p : Par) : Int := if May p then 0 else 1
def hop (p : Par) : Int := Sat.sum [p.jit, Sat.mul 2 p.rho]
def gate (p : Par) : Int := Sat.mul 2 (Sat.sum [Sat.mul 2 p.eps, hop p])
def width (p : Par) (held hops : Int) : Int := Sat.sum [gate p, Sat.mul (Sat.mul 2 p.rho) held, Sat.mul (Sat.sum [hops, 1]) (hop p)]
def far (p : Par) : Int := Sat.mul 3 (width p p.hold p.d)
end Lim
end Go.Proofs.YtmokofblmkeloaaGreatDoor

/- Plain mathematics of layer 2's document: products by digits, ratios by digits. It names no program. -/
namespace Go.Proofs.YtmokofblmkeloaaGreatDoor
namespace Wide

/-- What n digits say, the highest first. -/
def val : Nat → (Nat → Int) → Int
  | 0, _ => 0
  | n + 1, L => 2 * val n L + L n
theorem snoc_ind {P : List Int → Prop} (h0 : P []) (h1 : ∀ l x, P l → P (l ++ [x])) : ∀ l, P l := by
  intro l
  have : ∀ m : List Int, P m.reverse := by
    intro m; induction m with
    | nil => exact h0
    | cons x m ih => rw [List.reverse_cons]; exact h1 _ _ ih
  rw [← List.reverse_reverse l]; exact this _
end Wide
end Go.Proofs.YtmokofblmkeloaaGreatDoor

/- Plain mathematics of layer 3: what is in all spans, the least span around some. -/
namespace Go.Proofs.YtmokofblmkeloaaGreatDoor
namespace Span
def mLo (l : List (Int × Int)) : Int := l.foldl (fun m s => max m s.1) (-2305843009213693952)
def mHi (l : List (Int × Int)) : Int := l.foldl (fun m s => min m s.2) 2305843009213693952
def hLo (l : List (Int × Int)) : Int := l.foldl (fun m s => if s.2 < s.1 then m else min m s.1) 2305843009213693952
def hHi (l : List (Int × Int)) : Int := l.foldl (fun m s => if s.2 < s.1 then m else max m s.2) (-2305843009213693952)
theorem mLo_snoc (l : List (Int × Int)) (s : Int × Int) : mLo (l ++ [s]) = max (mLo l) s.1 := by simp [mLo]
theorem mHi_snoc (l : List (Int × Int)) (s : Int × Int) : mHi (l ++ [s]) = min (mHi l) s.2 := by simp [mHi]
theorem hLo_snoc (l : List (Int × Int)) (s : Int × Int) : hLo (l ++ [s]) = if s.2 < s.1 then hLo l else min (hLo l) s.1 := by simp [hLo]
theorem hHi_snoc (l : List (Int × Int)) (s : Int × Int) : hHi (l ++ [s]) = if s.2 < s.1 then hHi l else max (hHi l) s.2 := by simp [hHi]
theorem snoc_ind {p : List (Int × Int) → Prop} (h0 : p []) (h1 : ∀ l s, p l → p (l ++ [s])) (l : List (Int × Int)) : p l := by
  have : ∀ n (l : List (Int × Int)), l.length = n → p l := by
    intro n
    induction n with
    | zero => intro l hl; rw [List.length_eq_zero_iff] at hl; subst hl; exact h0
    | succ n ih =>
      intro l hl
      rcases List.eq_nil_or_concat l with rfl | ⟨l', s, rfl⟩
      · simp at hl
      · rw [List.concat_eq_append] at hl ⊢; exact h1 l' s (ih l' (by simpa using hl))
  exact this _ l rfl
theorem mLo_ge (l : List (Int × Int)) : -2305843009213693952 ≤ mLo l := by
  induction l using snoc_ind with
  | h0 => decide
  | h1 l s ih => rw [mLo_snoc]; omega
theorem mHi_le (l : List (Int × Int)) : mHi l ≤ 2305843009213693952 := by
  induction l using snoc_ind with
  | h0 => decide
  | h1 l s ih => rw [mHi_snoc]; omega
theorem hLo_le (l : List (Int × Int)) : hLo l ≤ 2305843009213693952 := by
  induction l using snoc_ind with
  | h0 => decide
  | h1 l s ih => rw [hLo_snoc]; split <;> omega
theorem hHi_ge (l : List (Int × Int)) : -2305843009213693952 ≤ hHi l := by
  induction l using snoc_ind with
  | h0 => decide
  | h1 l s ih => rw [hHi_snoc]; split <;> omega
theorem mLo_iff (l : List (Int × Int)) (x : Int) : mLo l ≤ x ↔ -2305843009213693952 ≤ x ∧ ∀ s ∈ l, s.1 ≤ x := by
  induction l using snoc_ind with
  | h0 => simp [mLo]
  | h1 l s ih =>
    rw [mLo_snoc, Int.max_le, ih]
    constructor
    · rintro ⟨⟨h1, h2⟩, h3⟩
      exact ⟨h1, fun t ht => (List.mem_append.1 ht).elim (h2 t) (fun h => by rw [List.mem_singleton.1 h]; exact h3)⟩
    · rintro ⟨h1, h2⟩
      exact ⟨⟨h1, fun t ht => h2 t (by simp [ht])⟩, h2 s (by simp)⟩
theorem mHi_iff (l : List (Int × Int)) (x : Int) : x ≤ mHi l ↔ x ≤ 2305843009213693952 ∧ ∀ s ∈ l, x ≤ s.2 := by
  induction l using snoc_ind with
  | h0 => simp [mHi]
  | h1 l s ih =>
    rw [mHi_snoc, Int.le_min, ih]
    constructor
    · rintro ⟨⟨h1, h2⟩, h3⟩
      exact ⟨h1, fun t ht => (List.mem_append.1 ht).elim (h2 t) (fun h => by rw [List.mem_singleton.1 h]; exact h3)⟩
    · rintro ⟨h1, h2⟩
      exact ⟨⟨h1, fun t ht => h2 t (by simp [ht])⟩, h2 s (by simp)⟩
theorem hLo_iff (l : List (Int × Int)) (x : Int) : x ≤ hLo l ↔ x ≤ 2305843009213693952 ∧ ∀ s ∈ l, s.1 ≤ s.2 → x ≤ s.1 := by
  induction l using snoc_ind with
  | h0 => simp [hLo]
  | h1 l s ih =>
    rw [hLo_snoc]
    constructor
    · intro h
      have h' : x ≤ hLo l := by split at h <;> omega
      obtain ⟨h1, h2⟩ := ih.1 h'
      exact ⟨h1, fun t ht => (List.mem_append.1 ht).elim (h2 t) (fun ht hs => by rw [List.mem_singleton.1 ht] at hs ⊢; rw [if_neg (by omega)] at h; omega)⟩
    · rintro ⟨h1, h2⟩
      have h3 := ih.2 ⟨h1, fun t ht => h2 t (by simp [ht])⟩
      have h4 := h2 s (by simp)
      split <;> omega
theorem hHi_iff (l : List (Int × Int)) (x : Int) : hHi l ≤ x ↔ -2305843009213693952 ≤ x ∧ ∀ s ∈ l, s.1 ≤ s.2 → s.2 ≤ x := by
  induction l using snoc_ind with
  | h0 => simp [hHi]
  | h1 l s ih =>
    rw [hHi_snoc]
    constructor
    · intro h
      have h' : hHi l ≤ x := by split at h <;> omega
      obtain ⟨h1, h2⟩ := ih.1 h'
      exact ⟨h1, fun t ht => (List.mem_append.1 ht).elim (h2 t) (fun ht hs => by rw [List.mem_singleton.1 ht] at hs ⊢; rw [if_neg (by omega)] at h; omega)⟩
    · rintro ⟨h1, h2⟩
      have h3 := ih.2 ⟨h1, fun t ht => h2 t (by simp [ht])⟩
      have h4 := h2 s (by simp)
      split <;> omega
/-- These hang on what stands in the list alone. -/
theorem same {l k : List (Int × Int)} (h : ∀ s, s ∈ l ↔ s ∈ k) : mLo l = mLo k ∧ mHi l = mHi k ∧ hLo l = hLo k ∧ hHi l = hHi k := by
  refine ⟨Int.le_antisymm ?_ ?_, Int.le_antisymm ?_ ?_, Int.le_antisymm ?_ ?_, Int.le_antisymm ?_ ?_⟩
  · exact (mLo_iff l _).2 ⟨mLo_ge k, fun s hs => ((mLo_iff k _).1 (Int.le_refl _)).2 s ((h s).1 hs)⟩
  · exact (mLo_iff k _).2 ⟨mLo_ge l, fun s hs => ((mLo_iff l _).1 (Int.le_refl _)).2 s ((h s).2 hs)⟩
  · exact (mHi_iff k _).2 ⟨mHi_le l, fun s hs => ((mHi_iff l _).1 (Int.le_refl _)).2 s ((h s).2 hs)⟩
  · exact (mHi_iff l _).2 ⟨mHi_le k, fun s hs => ((mHi_iff k _).1 (Int.le_refl _)).2 s ((h s).1 hs)⟩
  · exact (hLo_iff k _).2 ⟨hLo_le l, fun s hs => ((hLo_iff l _).1 (Int.le_refl _)).2 s ((h s).2 hs)⟩
  · exact (hLo_iff l _).2 ⟨hLo_le k, fun s hs => ((hLo_iff k _).1 (Int.le_refl _)).2 s ((h s).1 hs)⟩
  · exact (hHi_iff l _).2 ⟨hHi_ge k, fun s hs => ((hHi_iff k _).1 (Int.le_refl _)).2 s ((h s).1 hs)⟩
  · exact (hHi_iff k _).2 ⟨hHi_ge l, fun s hs => ((hHi_iff l _).1 (Int.le_refl _)).2 s ((h s).2 hs)⟩
end Span
end Go.Proofs.YtmokofblmkeloaaGreatDoor

/- Plain mathematics of layer 7: the k-th least, fusion of spans of which some lie. It names no program. -/
namespace Go.Proofs.YtmokofblmkeloaaGreatDoor
namespace Trim
/-- How many of l are below x, and how many aren't above it. -/
def lt (x : Int) (l : List Int) : Nat := l.countP fun y => decide (y < x)
def le (x : Int) (l : List Int) : Nat := l.countP fun y => decide (y ≤ x)
/-- v is the k-th least of l. -/
def Pick (k : Nat) (l : List Int) (v : Int) : Prop := v ∈ l ∧ lt v l ≤ k ∧ k < le v l
theorem countP_mono {α : Type} {p q : α → Bool} {l : List α} (h : ∀ a ∈ l, p a = true → q a = true) : l.countP p ≤ l.countP q := by
  induction l with
  | nil => simp
  | cons a l ih =>
    have ih := ih fun b hb => h b (by simp [hb])
    have ha := h a (by simp)
    rw [List.countP_cons, List.countP_cons]
    cases hp : p a <;> cases hq : q a <;> simp_all <;> omega
theorem countP_not {α : Type} (p : α → Bool) (l : List α) : l.countP p + l.countP (fun a => !p a) = l.length := by
  induction l with
  | nil => simp
  | cons a l ih => rw [List.countP_cons, List.countP_cons, List.length_cons]; cases p a <;> simp <;> omega
/-- If p fails at most m times, and q at most n times, there is one of r, of which there are more, at which both hold. -/
theorem both {α : Type} {p q r : α → Bool} {l : List α} {m n : Nat} (hp : l.countP (fun a => !p a) ≤ m) (hq : l.countP (fun a => !q a) ≤ n) (hr : m + n < l.countP r) : ∃ a ∈ l, r a = true ∧ p a = true ∧ q a = true := by
  induction l generalizing m n with
  | nil => simp at hr
  | cons a l ih =>
    rw [List.countP_cons] at hp hq hr
    by_cases h : r a = true ∧ p a = true ∧ q a = true
    · exact ⟨a, by simp, h⟩
    · have key : ∃ b ∈ l, r b = true ∧ p b = true ∧ q b = true := by
        cases h1 : r a <;> cases h2 : p a <;> cases h3 : q a <;> simp [h1, h2, h3] at hp hq hr h
        all_goals first
          | exact ih hp hq (by omega)
          | exact ih (m := m - 1) (n := n) (by omega) (by omega) (by omega)
          | exact ih (m := m) (n := n - 1) (by omega) (by omega) (by omega)
          | exact ih (m := m - 1) (n := n - 1) (by omega) (by omega) (by omega)
      obtain ⟨b, hb, hx⟩ := key
      exact ⟨b, by simp [hb], hx⟩
theorem le_lt {x y : Int} (h : x < y) (l : List Int) : le x l ≤ lt y l := countP_mono fun a _ ha => by simp at *; omega
theorem lt_perm {l m : List Int} (h : l.Perm m) (x : Int) : lt x l = lt x m := h.countP_eq _
theorem le_perm {l m : List Int} (h : l.Perm m) (x : Int) : le x l = le x m := h.countP_eq _
theorem Pick.perm {k : Nat} {l m : List Int} (h : l.Perm m) {v : Int} (hv : Pick k l v) : Pick k m v := ⟨h.mem_iff.1 hv.1, by rw [← lt_perm h]; exact hv.2.1, by rw [← le_perm h]; exact hv.2.2⟩
/-- There is one. -/
theorem Pick.exists {l : List Int} : ∀ {k : Nat}, k < l.length → ∃ v, Pick k l v := by
  -- the least of those that more than k aren't above
  intro k hk
  have hne : ∃ v ∈ l, k < le v l := by
    -- the greatest
    have hmax : ∀ (l : List Int), l ≠ [] → ∃ v ∈ l, ∀ y ∈ l, y ≤ v := by
      intro l
      induction l with
      | nil => intro h; exact absurd rfl h
      | cons a l ih =>
        intro _
        by_cases h : l = []
        · subst h; exact ⟨a, by simp, by simp⟩
        · obtain ⟨v, hv, hy⟩ := ih h
          by_cases c : a ≤ v
          · exact ⟨v, by simp [hv], fun y hy' => by rcases List.mem_cons.1 hy' with rfl | g; exact c; exact hy y g⟩
          · exact ⟨a, by simp, fun y hy' => by rcases List.mem_cons.1 hy' with rfl | g; exact Int.le_refl _; have := hy y g; omega⟩
    obtain ⟨v, hv, hy⟩ := hmax l (by intro h; subst h; simp at hk)
    refine ⟨v, hv, ?_⟩
    have : le v l = l.length := by
      unfold le; rw [List.countP_eq_length]; intro a ha; simpa using hy a ha
    omega
  have hmin : ∀ (m : List Int), (∃ v ∈ m, k < le v l) → ∃ v ∈ m, k < le v l ∧ ∀ y ∈ m, k < le y l → v ≤ y := by
    intro m
    induction m with
    | nil => rintro ⟨v, hv, -⟩; simp at hv
    | cons a m ih =>
      rintro ⟨v, hv, hk'⟩
      by_cases hm : ∃ v ∈ m, k < le v l
      · obtain ⟨u, hu, hku, huy⟩ := ih hm
        by_cases ha : k < le a l ∧ a < u
        · exact ⟨a, by simp, ha.1, fun y hy hky => by rcases List.mem_cons.1 hy with rfl | g; exact Int.le_refl _; have := huy y g hky; omega⟩
        · exact ⟨u, by simp [hu], hku, fun y hy hky => by rcases List.mem_cons.1 hy with rfl | g; exact Int.not_lt.1 fun c => ha ⟨hky, c⟩; exact huy y g hky⟩
      · rcases List.mem_cons.1 hv with rfl | g
        · exact ⟨v, by simp, hk', fun y hy hky => by rcases List.mem_cons.1 hy with rfl | g; exact Int.le_refl _; exact absurd ⟨y, g, hky⟩ hm⟩
        · exact absurd ⟨v, g, hk'⟩ hm
  obtain ⟨v, hv, hkv, hy⟩ := hmin l hne
  refine ⟨v, hv, ?_, hkv⟩
  -- below v there are at most k: else the greatest below v would do
  apply Classical.byContradiction
  intro hc
  have hc : k < lt v l := by omega
  have hg : ∀ (m : List Int), (∃ u ∈ m, u < v) → ∃ u ∈ m, u < v ∧ ∀ y ∈ m, y < v → y ≤ u := by
    intro m
    induction m with
    | nil => rintro ⟨u, hu, -⟩; simp at hu
    | cons a m ih =>
      rintro ⟨u, hu, huv⟩
      by_cases hm : ∃ u ∈ m, u < v
      · obtain ⟨z, hz, hzv, hzy⟩ := ih hm
        by_cases ha : a < v ∧ z < a
        · exact ⟨a, by simp, ha.1, fun y hy hyv => by rcases List.mem_cons.1 hy with rfl | g; exact Int.le_refl _; have := hzy y g hyv; omega⟩
        · exact ⟨z, by simp [hz], hzv, fun y hy hyv => by rcases List.mem_cons.1 hy with rfl | g; exact Int.not_lt.1 fun c => ha ⟨hyv, c⟩; exact hzy y g hyv⟩
      · rcases List.mem_cons.1 hu with rfl | g
        · exact ⟨u, by simp, huv, fun y hy hyv => by rcases List.mem_cons.1 hy with rfl | g; exact Int.le_refl _; exact absurd ⟨y, g, hyv⟩ hm⟩
        · exact absurd ⟨u, g, huv⟩ hm
  have hex : ∃ u ∈ l, u < v := by
    apply Classical.byContradiction
    intro h
    have : lt v l = 0 := by
      unfold lt; rw [List.countP_eq_zero]; intro a ha; simp; exact Int.not_lt.1 fun c => h ⟨a, ha, c⟩
    omega
  obtain ⟨u, hu, huv, huy⟩ := hg l hex
  have h1 : lt v l ≤ le u l := countP_mono fun a ha hav => by simp at *; exact huy a ha hav
  have := hy u hu (by omega)
  omega
/-- The k-th greatest. -/
def PickMost (k : Nat) (l : List Int) (v : Int) : Prop := Pick (l.length - 1 - k) l v
theorem most_above {k : Nat} {l : List Int} {v : Int} (hk : k < l.length) (h : PickMost k l v) : l.countP (fun y => decide (v < y)) ≤ k ∧ k < l.countP (fun y => decide (v ≤ y)) := by
  obtain ⟨-, h1, h2⟩ := h
  have e1 := countP_not (fun y => decide (y ≤ v)) l
  have e2 := countP_not (fun y => decide (y < v)) l
  have f1 : l.countP (fun y => decide (v < y)) = l.countP (fun y => !decide (y ≤ v)) := by congr 1; funext y; simp [← decide_not, Int.not_le]
  have f2 : l.countP (fun y => decide (v ≤ y)) = l.countP (fun y => !decide (y < v)) := by congr 1; funext y; simp [← decide_not, Int.not_lt]
  unfold lt at h1; unfold le at h2
  omega
/-- If all but f aren't above x, the f-th greatest isn't; if all but f aren't below x, the f-th least isn't. -/
theorem most_le {f : Nat} {l : List Int} {v x : Int} (hf : f < l.length) (h : PickMost f l v) (hx : l.countP (fun y => decide (x < y)) ≤ f) : v ≤ x := by
  apply Int.not_lt.1; intro c
  have := (most_above hf h).2
  have h1 : l.countP (fun y => decide (v ≤ y)) ≤ l.countP (fun y => decide (x < y)) := countP_mono fun a _ ha => by simp at *; omega
  omega
theorem le_pick {f : Nat} {l : List Int} {v x : Int} (h : Pick f l v) (hx : l.countP (fun y => decide (y < x)) ≤ f) : x ≤ v := by
  apply Int.not_lt.1; intro c
  have := h.2.2
  have h1 : le v l ≤ l.countP (fun y => decide (y < x)) := countP_mono fun a _ ha => by simp at *; omega
  omega
/-- Fusion: a time that is in all spans but f is in the fused one; and that isn't wider than one that has the time, if there are 2 f + 1 of these. -/
theorem fuse_holds {f : Nat} {l : List (Int × Int)} {lo hi x : Int} (hf : f < l.length) (hlo : PickMost f (l.map (·.1)) lo) (hhi : Pick f (l.map (·.2)) hi) (hx : l.countP (fun s => !decide (s.1 ≤ x ∧ x ≤ s.2)) ≤ f) :
    lo ≤ x ∧ x ≤ hi ∧ (2 * f + 1 ≤ l.countP (fun s => decide (s.1 ≤ x ∧ x ≤ s.2)) → ∃ s ∈ l, (s.1 ≤ x ∧ x ≤ s.2) ∧ s.1 ≤ lo ∧ hi ≤ s.2) := by
  refine ⟨most_le (by simpa using hf) hlo ?_, le_pick hhi ?_, fun h => ?_⟩
  · rw [List.countP_map]
    refine Nat.le_trans (countP_mono fun s _ hs => ?_) hx
    simp at *; omega
  · rw [List.countP_map]
    refine Nat.le_trans (countP_mono fun s _ hs => ?_) hx
    simp at *; omega
  · have a1 := (most_above (by simpa using hf) hlo).1
    have a2 := hhi.2.1
    unfold lt at a2
    rw [List.countP_map] at a1 a2
    obtain ⟨s, hs, h1, h2, h3⟩ := both (p := fun s => decide (s.1 ≤ lo)) (q := fun s : Int × Int => decide (hi ≤ s.2)) (r := fun s => decide (s.1 ≤ x ∧ x ≤ s.2)) (l := l) (m := f) (n := f)
      (Nat.le_trans (countP_mono fun s _ hs => by simp at *; omega) a1) (Nat.le_trans (countP_mono fun s _ hs => by simp at *; omega) a2) (by omega)
    exact ⟨s, hs, by simpa using h1, by simpa using h2, by simpa using h3⟩
/-- All but f from lo to hi: so are the f-th least and the f-th greatest. -/
theorem between {f : Nat} {l : List Int} {lo hi a b : Int} (hf : 2 * f + 1 ≤ l.length) (ha : Pick f l a) (hb : PickMost f l b) (hw : l.countP (fun y => !decide (lo ≤ y ∧ y ≤ hi)) ≤ f) : (lo ≤ a ∧ a ≤ hi) ∧ (lo ≤ b ∧ b ≤ hi) := by
  have h1 : lo ≤ a := le_pick ha (Nat.le_trans (countP_mono fun y _ hy => by simp at *; omega) hw)
  have h2 : b ≤ hi := most_le (by omega) hb (Nat.le_trans (countP_mono fun y _ hy => by simp at *; omega) hw)
  have h3 : a ≤ b := by
    apply Int.not_lt.1; intro c
    have := le_lt c l
    have h4 := ha.2.1
    have h5 := hb.2.2
    omega
  omega
end Trim
end Go.Proofs.YtmokofblmkeloaaGreatDoor

/- Plain mathematics of layer 7: the k-th least by a sorted list, and what is made of it. It names no program. -/
namespace Go.Proofs.YtmokofblmkeloaaGreatDoor
namespace Trim
/-- The k-th of the sorted list. -/
def kth (k : Nat) (l : List Int) : Int := (l.mergeSort fun x y => decide (x ≤ y)).getD k 0
theorem sorted_pick {s : List Int} (hs : s.Pairwise (fun x y => x ≤ y)) {k : Nat} (hk : k < s.length) : Pick k s s[k] := by
  have e : s = s.take k ++ s.drop k := (List.take_append_drop k s).symm
  have hd : s.drop k = s[k] :: s.drop (k + 1) := List.drop_eq_getElem_cons hk
  have hp := hs
  rw [e] at hp
  obtain ⟨h1, h2, h3⟩ := List.pairwise_append.1 hp
  refine ⟨List.getElem_mem hk, ?_, ?_⟩
  · unfold lt
    have c1 : (s.take k).countP (fun y => decide (y < s[k])) ≤ k := by
      have := (s.take k).countP_le_length (p := fun y => decide (y < s[k]))
      simp only [List.length_take] at this; omega
    have c2 : (s.drop k).countP (fun y => decide (y < s[k])) = 0 := by
      rw [List.countP_eq_zero]
      intro a ha
      rw [hd] at ha h2
      rcases List.mem_cons.1 ha with rfl | h
      · simp
      · have := (List.pairwise_cons.1 h2).1 a h; simpa using this
    have : s.countP (fun y => decide (y < s[k])) = (s.take k).countP (fun y => decide (y < s[k])) + (s.drop k).countP (fun y => decide (y < s[k])) := by
      rw [← List.countP_append, List.take_append_drop]
    omega
  · unfold le
    have c1 : (s.take k).countP (fun y => decide (y ≤ s[k])) = k := by
      have : (s.take k).countP (fun y => decide (y ≤ s[k])) = (s.take k).length := by
        rw [List.countP_eq_length]
        intro a ha
        have := h3 a ha s[k] (by rw [hd]; exact List.mem_cons_self)
        simpa using this
      rw [this, List.length_take]; omega
    have c2 : 0 < (s.drop k).countP (fun y => decide (y ≤ s[k])) := by
      rw [List.countP_pos_iff]
      exact ⟨s[k], by rw [hd]; exact List.mem_cons_self, by simp⟩
    have : s.countP (fun y => decide (y ≤ s[k])) = (s.take k).countP (fun y => decide (y ≤ s[k])) + (s.drop k).countP (fun y => decide (y ≤ s[k])) := by
      rw [← List.countP_append, List.take_append_drop]
    omega
theorem kth_pick {k : Nat} {l : List Int} (hk : k < l.length) : Pick k l (kth k l) := by
  have hp := List.mergeSort_perm l (fun x y => decide (x ≤ y))
  have hs : (l.mergeSort fun x y => decide (x ≤ y)).Pairwise (fun x y => x ≤ y) :=
    (List.pairwise_mergeSort (le := fun x y : Int => decide (x ≤ y)) (fun a b c h1 h2 => by simp at *; omega) (fun a b => by simp; omega) l).imp (fun h => by simpa using h)
  have hk' : k < (l.mergeSort fun x y => decide (x ≤ y)).length := by rw [hp.length_eq]; exact hk
  have := sorted_pick hs hk'
  unfold kth
  rw [List.getD_eq_getElem?_getD, List.getElem?_eq_getElem hk']
  exact this.perm hp
/-- The k-th least, and whether there is one. -/
def val (k : Int) (l : List Int) : Int := if 0 ≤ k ∧ k < l.length then kth k.toNat l else 0
def is (k : Int) (n : Nat) : Bool := decide (0 ≤ k ∧ k < n)
theorem val_pick {k : Int} {l : List Int} (h : 0 ≤ k ∧ k < l.length) : Pick k.toNat l (val k l) := by
  unfold val; rw [if_pos h]; exact kth_pick (by omega)
theorem val_out {k : Int} {l : List Int} (h : ¬(0 ≤ k ∧ k < l.length)) : val k l = 0 := by unfold val; rw [if_neg h]
/-- Whether the others are more than f. -/
def many (f : Int) (n : Nat) : Bool := decide (0 ≤ f ∧ f < n - f)
/-- The greatest of those that are left, and the least. -/
def mid (f : Int) (l : List Int) (c : Int → Int) : Int := if many f l.length then (c (val f l) + c (val (l.length - 1 - f) l)) / 2 else 0
/-- How many are the same. -/
def same (l : List Int) (x : Int) : Nat := l.countP fun y => decide (x = y)
/-- The place of the one of which there are most, more than m. -/
def best (l : List Int) : List Int → Nat → Int → Int → Int × Int
  | [], _, b, m => (b, m)
  | x :: r, i, b, m => if m < (same l x : Int) then best l r (i + 1) i (same l x) else best l r (i + 1) b m
end Trim
end Go.Proofs.YtmokofblmkeloaaGreatDoor

/- Plain mathematics of layer 4: where numbers may be so, nothing is clipped; what rises. It names no program. -/
namespace Go.Proofs.YtmokofblmkeloaaGreatDoor
namespace Lim
theorem sum2 (a b : Int) : Sat.sum [a, b] = Sat.clip (Sat.clip a + Sat.clip b) := by
  have e1 : Sat.sum [a, b] = Sat.clip (Sat.sum [a] + Sat.clip b) := Sat.sum_snoc [a] b
  have e2 : Sat.sum [a] = Sat.clip (Sat.sum [] + Sat.clip a) := Sat.sum_snoc [] a
  rw [e1, e2, Sat.sum_nil, Int.zero_add, Sat.clip_clip]
theorem sum3 (a b c : Int) : Sat.sum [a, b, c] = Sat.clip (Sat.clip (Sat.clip a + Sat.clip b) + Sat.clip c) := by
  have e3 : Sat.sum [a, b, c] = Sat.clip (Sat.sum [a, b] + Sat.clip c) := Sat.sum_snoc [a, b] c
  rw [e3, sum2]
theorem mul_in {a b : Int} (ha : -2305843009213693952 ≤ a ∧ a ≤ 2305843009213693952) (hb : -2305843009213693952 ≤ b ∧ b ≤ 2305843009213693952) (h : -2305843009213693952 ≤ a * b ∧ a * b ≤ 2305843009213693952) : Sat.mul a b = a * b := by
  unfold Sat.mul; rw [Sat.clip_in ha.1 ha.2, Sat.clip_in hb.1 hb.2, Sat.clip_in h.1 h.2]
/-- Numbers that may be, and a little more of each. -/
def Small (p : Par) : Prop := (0 ≤ p.rho ∧ p.rho ≤ 137438953728) ∧ (0 ≤ p.jit ∧ p.jit ≤ 549755814144) ∧ (0 ≤ p.eps ∧ p.eps ≤ 1099511628032)
theorem May.small {p : Par} (h : May p) : Small p := by
  obtain ⟨-, ⟨⟨b1, b2⟩, ⟨r1, r2⟩, ⟨y1, y2⟩, ⟨j1, j2⟩, ⟨e1, e2⟩, -⟩, -, -⟩ := h
  unfold Small; omega
theorem hop_in {p : Par} (h : Small p) : hop p = p.jit + 2 * p.rho := by
  obtain ⟨⟨r1, r2⟩, ⟨j1, j2⟩, e1, e2⟩ := h
  unfold hop
  rw [mul_in (by omega) (by omega) (by omega), sum2, Sat.clip_in (x := p.jit) (by omega) (by omega), Sat.clip_in (x := 2 * p.rho) (by omega) (by omega), Sat.clip_in (by omega) (by omega)]
theorem gate_in {p : Par} (h : Small p) : gate p = 2 * (2 * p.eps + (p.jit + 2 * p.rho)) := by
  unfold gate
  rw [hop_in h]
  obtain ⟨⟨r1, r2⟩, ⟨j1, j2⟩, e1, e2⟩ := h
  rw [mul_in (a := 2) (b := p.eps) (by omega) (by omega) (by omega), sum2, Sat.clip_in (x := 2 * p.eps) (by omega) (by omega), Sat.clip_in (x := p.jit + 2 * p.rho) (by omega) (by omega), Sat.clip_in (by omega) (by omega)]
  exact mul_in (by omega) (by omega) (by omega)
theorem mul_bd {a b A B : Int} (a0 : 0 ≤ a) (b0 : 0 ≤ b) (ha : a ≤ A) (hb : b ≤ B) : 0 ≤ a * b ∧ a * b ≤ A * B :=
  ⟨Int.mul_nonneg a0 b0, Int.mul_le_mul ha hb b0 (by omega)⟩
/-- The width, reckoned without bounds. -/
def wide (p : Par) (held hops : Int) : Int := 2 * (2 * p.eps + (p.jit + 2 * p.rho)) + 2 * p.rho * held + (hops + 1) * (p.jit + 2 * p.rho)
theorem wide_bd {p : Par} (h : Small p) {held hops : Int} (h1 : 0 ≤ held ∧ held ≤ 1048831) (h2 : 0 ≤ hops ∧ hops ≤ 1048831) :
    (0 ≤ 2 * p.rho * held ∧ 2 * p.rho * held ≤ 288300470554983936) ∧ (0 ≤ (hops + 1) * (p.jit + 2 * p.rho) ∧ (hops + 1) * (p.jit + 2 * p.rho) ≤ 864902235493171200) := by
  obtain ⟨⟨r1, r2⟩, ⟨j1, j2⟩, e1, e2⟩ := h
  have m1 := mul_bd (a := 2 * p.rho) (b := held) (A := 274877907456) (B := 1048831) (by omega) h1.1 (by omega) h1.2
  have m2 := mul_bd (a := hops + 1) (b := p.jit + 2 * p.rho) (A := 1048832) (B := 824633721600) (by omega) (by omega) (by omega) (by omega)
  omega
theorem width_in {p : Par} (h : Small p) {held hops : Int} (h1 : 0 ≤ held ∧ held ≤ 1048831) (h2 : 0 ≤ hops ∧ hops ≤ 1048831) : width p held hops = wide p held hops := by
  have hb := wide_bd h h1 h2
  unfold width wide
  rw [hop_in h, gate_in h]
  obtain ⟨⟨r1, r2⟩, ⟨j1, j2⟩, e1, e2⟩ := h
  rw [mul_in (a := 2) (b := p.rho) (by omega) (by omega) (by omega), mul_in (a := 2 * p.rho) (b := held) (by omega) (by omega) (by omega), sum2, Sat.clip_in (x := hops) (by omega) (by omega), Sat.clip_in (x := 1) (by omega) (by omega), Sat.clip_in (x := hops + 1) (by omega) (by omega),
    mul_in (a := hops + 1) (by omega) (by omega) (by omega), sum3]
  obtain ⟨A, hA⟩ : ∃ A, 2 * p.rho * held = A := ⟨_, rfl⟩
  obtain ⟨B, hB⟩ : ∃ B, (hops + 1) * (p.jit + 2 * p.rho) = B := ⟨_, rfl⟩
  rw [hA, hB] at hb ⊢
  rw [Sat.clip_in (x := 2 * (2 * p.eps + (p.jit + 2 * p.rho))) (by omega) (by omega), Sat.clip_in (x := A) (by omega) (by omega), Sat.clip_in (x := B) (by omega) (by omega), Sat.clip_in (x := 2 * (2 * p.eps + (p.jit + 2 * p.rho)) + A) (by omega) (by omega), Sat.clip_in (by omega) (by omega)]
theorem wide_pos {p : Par} (h : Small p) {held hops : Int} (h1 : 0 ≤ held ∧ held ≤ 1048831) (h2 : 0 ≤ hops ∧ hops ≤ 1048831) : gate p ≤ wide p held hops ∧ 0 ≤ gate p ∧ gate p ≤ 8796093022208 ∧ wide p held hops ≤ 1224979098644774912 := by
  have hb := wide_bd h h1 h2
  rw [gate_in h]
  obtain ⟨⟨r1, r2⟩, ⟨j1, j2⟩, e1, e2⟩ := h
  unfold wide
  omega
end Lim
end Go.Proofs.YtmokofblmkeloaaGreatDoor

/- Plain mathematics of layers 10 to 12: what a trip tells, what a span becomes while time goes by, a clock that is slewed. It names no program. -/
namespace Go.Proofs.YtmokofblmkeloaaGreatDoor
namespace Lim
theorem sub_in {a b : Int} (ha : -2305843009213693952 ≤ a ∧ a ≤ 2305843009213693952) (hb : -2305843009213693952 ≤ b ∧ b ≤ 2305843009213693952) (h : -2305843009213693952 ≤ a - b ∧ a - b ≤ 2305843009213693952) : Sat.sub a b = a - b := by
  unfold Sat.sub; rw [Sat.clip_in ha.1 ha.2, Sat.clip_in hb.1 hb.2, Sat.clip_in h.1 h.2]
theorem sum2_in {a b : Int} (ha : -2305843009213693952 ≤ a ∧ a ≤ 2305843009213693952) (hb : -2305843009213693952 ≤ b ∧ b ≤ 2305843009213693952) (h : -2305843009213693952 ≤ a + b ∧ a + b ≤ 2305843009213693952) : Sat.sum [a, b] = a + b := by
  rw [sum2, Sat.clip_in ha.1 ha.2, Sat.clip_in hb.1 hb.2, Sat.clip_in h.1 h.2]
theorem sum3_in {a b c : Int} (ha : -2305843009213693952 ≤ a ∧ a ≤ 2305843009213693952) (hb : -2305843009213693952 ≤ b ∧ b ≤ 2305843009213693952) (hc : -2305843009213693952 ≤ c ∧ c ≤ 2305843009213693952) (h2 : -2305843009213693952 ≤ a + b ∧ a + b ≤ 2305843009213693952) (h : -2305843009213693952 ≤ a + b + c ∧ a + b + c ≤ 2305843009213693952) : Sat.sum [a, b, c] = a + b + c := by
  rw [sum3, Sat.clip_in ha.1 ha.2, Sat.clip_in hb.1 hb.2, Sat.clip_in h2.1 h2.2, Sat.clip_in hc.1 hc.2, Sat.clip_in h.1 h.2]
/-- The bounds of numbers that may be, as a walk and omega want them. -/
theorem May.bds {p : Par} (h : May p) : (1 ≤ p.beat ∧ p.beat ≤ 1099511627776) ∧ (0 ≤ p.rho ∧ 8 * p.rho ≤ p.beat) ∧ (0 ≤ p.delay ∧ 2 * p.delay ≤ p.beat) ∧ (0 ≤ p.jit ∧ p.jit ≤ p.delay) ∧ (0 ≤ p.eps ∧ p.eps ≤ 1099511627776) := by
  obtain ⟨-, ⟨b, r, d, j, e, -⟩, -, -⟩ := h
  exact ⟨b, r, d, j, e⟩
end Lim
namespace Probe
/-- What a trip tells. -/
def way1 (p : Par) (asked got : Int) : Int × Int := (Sat.sum [Sat.sub (Sat.sub got asked) p.delay, -Sat.mul 2 p.rho], Sat.sum [Sat.sub (Sat.sub got asked) (Sat.sub p.delay p.jit), Sat.mul 2 p.rho])
def way2 (p : Par) (said heard : Int) : Int × Int := (Sat.sum [Sat.sum [Sat.sub said heard, Sat.sub p.delay p.jit], -Sat.mul 2 p.rho], Sat.sum [Sat.sum [Sat.sub said heard, p.delay], Sat.mul 2 p.rho])
def ahead (p : Par) (asked got said heard : Int) : Int × Int := (Sat.clip (Span.mLo [way1 p asked got, way2 p said heard]), Sat.clip (Span.mHi [way1 p asked got, way2 p said heard]))
theorem holds {p : Par} (h : Lim.May p) {asked ad there rest back dr : Int} (ha : -1125899906842624 ≤ asked ∧ asked ≤ 1125899906842624) (hb : -1125899906842624 ≤ ad ∧ ad ≤ 1125899906842624) (hr : -1125899906842624 ≤ rest ∧ rest ≤ 1125899906842624)
    (ht : p.delay - p.jit ≤ there ∧ there ≤ p.delay) (hk : p.delay - p.jit ≤ back ∧ back ≤ p.delay) (hd : -(2 * p.rho) ≤ dr ∧ dr ≤ 2 * p.rho) :
    let s := ahead p asked (asked + there + ad) (asked + there + rest + ad + dr) (asked + there + rest + back)
    s.1 ≤ ad ∧ ad ≤ s.2 ∧ s.2 - s.1 ≤ p.jit + 4 * p.rho ∧ -2305843009213693952 ≤ s.1 ∧ s.2 ≤ 2305843009213693952 := by
  obtain ⟨b1, r1, d1, j1, -⟩ := Lim.May.bds h
  have m2 : Sat.mul 2 p.rho = 2 * p.rho := Lim.mul_in (by omega) (by omega) (by omega)
  have l1 : Sat.sub p.delay p.jit = p.delay - p.jit := Lim.sub_in (by omega) (by omega) (by omega)
  have e1 : Sat.sub (asked + there + ad) asked = there + ad := by rw [Lim.sub_in (by omega) (by omega) (by omega)]; omega
  have e2 : Sat.sub (asked + there + rest + ad + dr) (asked + there + rest + back) = ad + dr - back := by rw [Lim.sub_in (by omega) (by omega) (by omega)]; omega
  have w1 : way1 p asked (asked + there + ad) = (there + ad - p.delay - 2 * p.rho, there + ad - (p.delay - p.jit) + 2 * p.rho) := by
    unfold way1
    rw [e1, l1, m2, Lim.sub_in (a := there + ad) (b := p.delay) (by omega) (by omega) (by omega), Lim.sub_in (a := there + ad) (b := p.delay - p.jit) (by omega) (by omega) (by omega), Lim.sum2_in (by omega) (by omega) (by omega), Lim.sum2_in (by omega) (by omega) (by omega)]
    rfl
  have w2 : way2 p (asked + there + rest + ad + dr) (asked + there + rest + back) = (ad + dr - back + (p.delay - p.jit) - 2 * p.rho, ad + dr - back + p.delay + 2 * p.rho) := by
    unfold way2
    rw [e2, l1, m2, Lim.sum2_in (a := ad + dr - back) (b := p.delay - p.jit) (by omega) (by omega) (by omega), Lim.sum2_in (a := ad + dr - back) (b := p.delay) (by omega) (by omega) (by omega), Lim.sum2_in (by omega) (by omega) (by omega), Lim.sum2_in (by omega) (by omega) (by omega)]
    rfl
  unfold ahead
  rw [w1, w2]
  have g1 := Span.mLo_iff [(there + ad - p.delay - 2 * p.rho, there + ad - (p.delay - p.jit) + 2 * p.rho), (ad + dr - back + (p.delay - p.jit) - 2 * p.rho, ad + dr - back + p.delay + 2 * p.rho)]
  have g2 := Span.mHi_iff [(there + ad - p.delay - 2 * p.rho, there + ad - (p.delay - p.jit) + 2 * p.rho), (ad + dr - back + (p.delay - p.jit) - 2 * p.rho, ad + dr - back + p.delay + 2 * p.rho)]
  have k1 := (g1 ad).2 ⟨by omega, fun s hs => by simp at hs; rcases hs with rfl | rfl <;> simp <;> omega⟩
  have k2 := (g2 ad).2 ⟨by omega, fun s hs => by simp at hs; rcases hs with rfl | rfl <;> simp <;> omega⟩
  have k3 := ((g1 _).1 (Int.le_refl _)).2 (there + ad - p.delay - 2 * p.rho, there + ad - (p.delay - p.jit) + 2 * p.rho) (by simp)
  have k4 := ((g2 _).1 (Int.le_refl _)).2 (there + ad - p.delay - 2 * p.rho, there + ad - (p.delay - p.jit) + 2 * p.rho) (by simp)
  have k5 := ((g1 _).1 (Int.le_refl _)).1
  have k6 := ((g2 _).1 (Int.le_refl _)).1
  simp only at k3 k4
  rw [Sat.clip_in (by omega) (by omega), Sat.clip_in (by omega) (by omega)]
  exact ⟨k1, k2, by simp only; omega, by simp only; omega, by simp only; omega⟩
end Probe
namespace Carry
def hold (p : Par) (s : Int × Int) (n : Int) : Int × Int := (Sat.sum [s.1, Sat.sub n p.rho], Sat.sum [s.2, Sat.sum [n, p.rho]])
def way (p : Par) (s : Int × Int) (age : Int) : Int × Int := (Sat.sum [s.1, Sat.sum [Sat.sub p.delay p.jit, age, -Sat.clip p.rho]], Sat.sum [s.2, Sat.sum [p.delay, age, p.rho]])
def ticks (p : Par) : Int × Int := (Sat.sub p.beat p.rho, Sat.sum [p.beat, p.rho])
theorem hold_in {p : Par} (h : Lim.May p) (s : Int × Int) {n : Int} (hn : -1152921504606846976 ≤ n ∧ n ≤ 1152921504606846976) : hold p s n = (Sat.clip (Sat.clip s.1 + (n - p.rho)), Sat.clip (Sat.clip s.2 + (n + p.rho))) := by
  obtain ⟨b1, r1, d1, j1, -⟩ := Lim.May.bds h
  unfold hold
  rw [Lim.sub_in (by omega) (by omega) (by omega), Lim.sum2_in (a := n) (b := p.rho) (by omega) (by omega) (by omega), Lim.sum2, Lim.sum2, Sat.clip_in (x := n - p.rho) (by omega) (by omega), Sat.clip_in (x := n + p.rho) (by omega) (by omega)]
theorem way_in {p : Par} (h : Lim.May p) (s : Int × Int) {n : Int} (hn : -1152921504606846976 ≤ n ∧ n ≤ 1152921504606846976) : way p s n = (Sat.clip (Sat.clip s.1 + (p.delay - p.jit + n - p.rho)), Sat.clip (Sat.clip s.2 + (p.delay + n + p.rho))) := by
  obtain ⟨b1, r1, d1, j1, -⟩ := Lim.May.bds h
  unfold way
  rw [Sat.clip_in (x := p.rho) (by omega) (by omega), Lim.sub_in (by omega) (by omega) (by omega), Lim.sum3_in (a := p.delay - p.jit) (by omega) (by omega) (by omega) (by omega) (by omega), Lim.sum3_in (a := p.delay) (by omega) (by omega) (by omega) (by omega) (by omega), Lim.sum2, Lim.sum2, Sat.clip_in (x := p.delay - p.jit + n + -p.rho) (by omega) (by omega), Sat.clip_in (x := p.delay + n + p.rho) (by omega) (by omega)]
  rfl
/-- A span that has a time, moved: it has the time moved as far, or less and more. -/
theorem moved {lo hi now x y d : Int} (h1 : lo ≤ now) (h2 : now ≤ hi) (hn : -1152921504606846976 ≤ now ∧ now ≤ 1152921504606846976) (hd : -1152921504606846976 ≤ d ∧ d ≤ 1152921504606846976) (hx : x ≤ d) (hy : d ≤ y) : Sat.clip (Sat.clip lo + x) ≤ now + d ∧ now + d ≤ Sat.clip (Sat.clip hi + y) := by
  have m1 := Sat.clip_mono h1
  have m2 := Sat.clip_mono h2
  rw [Sat.clip_in (x := now) (by omega) (by omega)] at m1 m2
  have m3 := Sat.clip_mono (show Sat.clip lo + x ≤ now + d by omega)
  have m4 := Sat.clip_mono (show now + d ≤ Sat.clip hi + y by omega)
  rw [Sat.clip_in (x := now + d) (by omega) (by omega)] at m3 m4
  exact ⟨m3, m4⟩
theorem holds {p : Par} (h : Lim.May p) {s : Int × Int} {now off : Int} (hn : -1152921504606846976 ≤ now ∧ now ≤ 1152921504606846976) (h1 : s.1 ≤ now) (h2 : now ≤ s.2) (ho : -p.rho ≤ off ∧ off ≤ p.rho) :
    (hold p s (p.beat + off)).1 ≤ now + p.beat ∧ now + p.beat ≤ (hold p s (p.beat + off)).2 := by
  obtain ⟨b1, r1, d1, j1, -⟩ := Lim.May.bds h
  rw [hold_in h s (by omega)]
  exact moved h1 h2 hn (by omega) (by omega) (by omega)
theorem brings {p : Par} (h : Lim.May p) {s : Int × Int} {now age : Int} (hn : -1152921504606846976 ≤ now ∧ now ≤ 1152921504606846976) (h1 : s.1 ≤ now) (h2 : now ≤ s.2) (ha : p.beat - p.delay - p.rho ≤ age ∧ age ≤ p.beat - p.delay + p.jit + p.rho) :
    (way p s age).1 ≤ now + p.beat ∧ now + p.beat ≤ (way p s age).2 := by
  obtain ⟨b1, r1, d1, j1, -⟩ := Lim.May.bds h
  rw [way_in h s (by omega)]
  exact moved h1 h2 hn (by omega) (by omega) (by omega)
end Carry
namespace Slew
def step (p : Par) (time ticks to : Int) : Int := Sat.sum [Sat.sum [time, ticks], Sat.bound (Sat.sub to (Sat.sum [time, ticks])) (-Sat.clip p.mu) p.mu]
/-- Where nothing is clipped. -/
def by_ (mu d : Int) : Int := if d < -mu then -mu else if mu < d then mu else d
theorem step_in {p : Par} (hm : 0 ≤ p.mu ∧ p.mu ≤ 1152921504606846976) {time ticks to : Int} (h1 : -288230376151711744 ≤ time ∧ time ≤ 288230376151711744) (h2 : -288230376151711744 ≤ ticks ∧ ticks ≤ 288230376151711744) (h3 : -288230376151711744 ≤ to ∧ to ≤ 288230376151711744) : step p time ticks to = time + ticks + by_ p.mu (to - (time + ticks)) := by
  unfold step by_ Sat.bound
  rw [Lim.sum2_in (a := time) (by omega) (by omega) (by omega), Lim.sub_in (by omega) (by omega) (by omega), Sat.clip_in (x := p.mu) (by omega) (by omega)]
  by_cases c1 : to - (time + ticks) < -p.mu
  · rw [if_pos (Or.inr c1), if_pos c1, Lim.sum2_in (by omega) (by omega) (by omega)]
  · rw [if_neg (by omega), if_neg c1]
    by_cases c2 : p.mu < to - (time + ticks)
    · rw [if_pos c2, Lim.sum2_in (by omega) (by omega) (by omega)]
    · rw [if_neg c2, Lim.sum2_in (by omega) (by omega) (by omega)]
end Slew
end Go.Proofs.YtmokofblmkeloaaGreatDoor

/- Plain mathematics of layer 13: pulses and their numbers. It names no program. -/
namespace Go.Proofs.YtmokofblmkeloaaGreatDoor
namespace Pulse
/-- The number of a time's pulse, and the ticks since it began (q: a pulse's ticks). -/
def num (q t : Int) : Int := Sat.clip t / Wide.one q
def ph (q t : Int) : Int := Sat.clip t % Wide.one q
/-- n numbers above x. -/
def above (x : Int) (n : Nat) : List Int := (List.range n).map fun i : Nat => x + 1 + (i : Int)
/-- How many fire. -/
def count (q a b most : Int) : Nat := (min most (num q b - num q a)).toNat
end Pulse
end Go.Proofs.YtmokofblmkeloaaGreatDoor

/- Plain mathematics of layer 16: what a reference's reading tells, what becomes of it by a message, and what is fused of that, whoever lies. It names no program. -/
namespace Go.Proofs.YtmokofblmkeloaaGreatDoor
/-- Fused of spans, of which more than twice f are right in some way (r): one of these begins at or ahead of it, and ends at or behind it. -/
theorem Trim.fuse_by {f : Nat} {l : List (Int × Int)} {lo hi x : Int} (hf : f < l.length) (hlo : Trim.PickMost f (l.map (·.1)) lo) (hhi : Trim.Pick f (l.map (·.2)) hi) (hx : l.countP (fun s => !decide (s.1 ≤ x ∧ x ≤ s.2)) ≤ f) (r : Int × Int → Bool) (hr : 2 * f + 1 ≤ l.countP r) :
    lo ≤ x ∧ x ≤ hi ∧ ∃ s ∈ l, r s = true ∧ s.1 ≤ lo ∧ hi ≤ s.2 := by
  obtain ⟨h1, h2, -⟩ := Trim.fuse_holds hf hlo hhi hx
  have a1 := (Trim.most_above (by simpa using hf) hlo).1
  have a2 := hhi.2.1
  unfold Trim.lt at a2
  rw [List.countP_map] at a1 a2
  obtain ⟨s, hs, k1, k2, k3⟩ := Trim.both (p := fun s => decide (s.1 ≤ lo)) (q := fun s : Int × Int => decide (hi ≤ s.2)) (r := r) (l := l) (m := f) (n := f)
    (Nat.le_trans (Trim.countP_mono fun s _ hs => by simp at *; omega) a1) (Nat.le_trans (Trim.countP_mono fun s _ hs => by simp at *; omega) a2) (by omega)
  exact ⟨h1, h2, s, hs, k1, by simpa using k2, by simpa using k3⟩
/-- What a gateway sees, and how what it tells is carried. -/
structure Tld where
  err : Int
  way : Int
  off : Int
namespace Anchor
/-- Whether it is a reading, of an error that may be. -/
def is (p : Par) (x : Int) : Bool := decide (0 ≤ p.eps ∧ -1152921504606846976 ≤ x ∧ x ≤ 1152921504606846976)
def seen (p : Par) (x : Int) : Int × Int := if is p x = true then (Sat.sub x p.eps, Sat.sum [x, p.eps]) else (0, 0)
def more (h : Int) : Int := Sat.bound (Sat.sum [h, 1]) 0 1073741824
def held (f : Int) (l : List Int) : Int := if Trim.is f l.length = true then more (Trim.val f l) else 1073741824
theorem more_in {v : Int} (h : 0 ≤ v ∧ v ≤ 536870912) : more v = v + 1 := by
  unfold more
  rw [Lim.sum2_in (by omega) (by omega) (by omega)]
  unfold Sat.bound
  rw [if_neg (by omega), if_neg (by omega)]
/-- What becomes of what is seen. -/
def carried (p : Par) (now : Int) (t : Tld) : Int × Int := Carry.way p (seen p (now + t.err)) (p.beat - t.way + t.off)
def Fine (p : Par) (t : Tld) : Prop := (-p.eps ≤ t.err ∧ t.err ≤ p.eps) ∧ (p.delay - p.jit ≤ t.way ∧ t.way ≤ p.delay) ∧ -p.rho ≤ t.off ∧ t.off ≤ p.rho
theorem seen_in {p : Par} (h : Lim.May p) {x : Int} (hx : -1152921504606846976 ≤ x ∧ x ≤ 1152921504606846976) : is p x = true ∧ seen p x = (x - p.eps, x + p.eps) := by
  obtain ⟨b1, r1, d1, j1, e1⟩ := Lim.May.bds h
  have hi : is p x = true := decide_eq_true ⟨e1.1, hx⟩
  refine ⟨hi, ?_⟩
  unfold seen
  rw [if_pos hi, Lim.sub_in (by omega) (by omega) (by omega), Lim.sum2_in (by omega) (by omega) (by omega)]
/-- Right: it has the time, and isn't too wide. -/
def right (x W : Int) (s : Int × Int) : Bool := decide ((s.1 ≤ x ∧ x ≤ s.2) ∧ s.2 - s.1 ≤ W ∧ -2305843009213693952 ≤ s.1 ∧ s.2 ≤ 2305843009213693952)
theorem carried_right {p : Par} (h : Lim.May p) {now : Int} (hn : -576460752303423488 ≤ now ∧ now ≤ 576460752303423488) {t : Tld} (ht : Fine p t) : right (now + p.beat) (2 * p.eps + Lim.hop p) (carried p now t) = true := by
  obtain ⟨b1, r1, d1, j1, e1⟩ := Lim.May.bds h
  obtain ⟨t1, t2, t3⟩ := ht
  obtain ⟨-, hs⟩ := seen_in h (x := now + t.err) (by omega)
  unfold carried
  rw [hs]
  have hb := Carry.brings h (s := (now + t.err - p.eps, now + t.err + p.eps)) (now := now) (age := p.beat - t.way + t.off) (by omega) (by simp only; omega) (by simp only; omega) (by omega)
  have hw := Carry.way_in h (now + t.err - p.eps, now + t.err + p.eps) (n := p.beat - t.way + t.off) (by omega)
  rw [Sat.clip_in (x := (now + t.err - p.eps, now + t.err + p.eps).1) (by simp only; omega) (by simp only; omega), Sat.clip_in (x := (now + t.err - p.eps, now + t.err + p.eps).2) (by simp only; omega) (by simp only; omega),
    Sat.clip_in (x := (now + t.err - p.eps, now + t.err + p.eps).1 + _) (by simp only; omega) (by simp only; omega), Sat.clip_in (x := (now + t.err - p.eps, now + t.err + p.eps).2 + _) (by simp only; omega) (by simp only; omega)] at hw
  rw [hw] at hb ⊢
  rw [Lim.hop_in (Lim.May.small h)]
  simp only at hb
  exact decide_eq_true ⟨hb, by simp only; omega, by simp only; omega, by simp only; omega⟩
end Anchor
end Go.Proofs.YtmokofblmkeloaaGreatDoor

/- Plain mathematics of layer 20: stamps. It names no program. -/
namespace Go.Proofs.YtmokofblmkeloaaGreatDoor
namespace Hlc
def less (a b : Int × Int) : Bool := if a.1 = b.1 then decide (a.2 < b.2) else decide (a.1 < b.1)
def right (s : Int × Int) : Bool := decide (Sat.clip s.1 = s.1) && decide (0 ≤ s.2 ∧ s.2 ≤ 1073741824)
def next (s : Int × Int) : Int × Int := if 1073741824 ≤ s.2 then (Sat.sum [s.1, 1], 0) else (Sat.clip s.1, if 0 < s.2 then s.2 + 1 else 1)
def tick (c : Int × Int) (now : Int) : Int × Int := if c.1 < Sat.clip now then (Sat.clip now, 0) else next c
def best2 (a b : Int × Int) : Int × Int := if less a b = true then b else a
def hear (c : Int × Int) (now : Int) (s : Int × Int) (most : Int) : (Int × Int) × Bool := if right s = true ∧ s.1 ≤ most then (next (best2 (best2 c s) (Sat.clip now, -1)), true) else (tick c now, false)
theorem less_iff (a b : Int × Int) : less a b = true ↔ a.1 < b.1 ∨ a.1 = b.1 ∧ a.2 < b.2 := by
  unfold less
  by_cases h : a.1 = b.1
  · rw [if_pos h]; simp; omega
  · rw [if_neg h]; simp; omega
theorem clip_fix {x : Int} : Sat.clip x = x ↔ -2305843009213693952 ≤ x ∧ x ≤ 2305843009213693952 := by
  constructor
  · intro h; have := Sat.clip_bd x; omega
  · intro h; exact Sat.clip_in h.1 h.2
theorem right_iff (s : Int × Int) : right s = true ↔ (-2305843009213693952 ≤ s.1 ∧ s.1 ≤ 2305843009213693952) ∧ 0 ≤ s.2 ∧ s.2 ≤ 1073741824 := by
  unfold right
  rw [Bool.and_eq_true, decide_eq_true_iff, decide_eq_true_iff, clip_fix]
end Hlc
end Go.Proofs.YtmokofblmkeloaaGreatDoor

/- Plain mathematics of layer 20, more: stamps along a chain of things that happen, where times aren't beyond 2^60 and numbers are small. It names no program. -/
namespace Go.Proofs.YtmokofblmkeloaaGreatDoor
namespace Hlc
/-- A stamp that stands behind at most k things. -/
structure Wf (k : Nat) (s : Int × Int) : Prop where
  t : -1152921504606846976 ≤ s.1 ∧ s.1 ≤ 1152921504606846976
  n : 0 ≤ s.2 ∧ s.2 ≤ k
theorem Wf.right {k : Nat} {s : Int × Int} (h : Wf k s) (hk : k ≤ 1000) : right s = true := by
  rw [right_iff]
  have := h.t; have := h.n
  omega
theorem Wf.mono {j k : Nat} {s : Int × Int} (h : Wf j s) (hjk : j ≤ k) : Wf k s := ⟨h.t, by have := h.n; omega⟩
end Hlc
end Go.Proofs.YtmokofblmkeloaaGreatDoor

/- Plain mathematics of layer 12: what a slewed clock's steps come to. It names no program. -/
namespace Go.Proofs.YtmokofblmkeloaaGreatDoor
namespace Slew
/-- The slewing's bound, of numbers that may be. -/
theorem mu_bds {p : Par} (h : Lim.May p) : (1 ≤ p.beat ∧ p.beat ≤ 1099511627776) ∧ (0 ≤ p.rho ∧ p.rho < p.mu) ∧ (1 ≤ p.mu ∧ 4 * p.mu ≤ p.beat) := by
  obtain ⟨-, ⟨b, r, d, j, e, m⟩, -, -⟩ := h
  omega
theorem by_bd {mu : Int} (h : 0 ≤ mu) (d : Int) : -mu ≤ by_ mu d ∧ by_ mu d ≤ mu := by
  unfold by_; split
  · omega
  · split <;> omega
/-- At most so far from the time, and again. -/
theorem by_stays {mu w e to : Int} (h1 : -w - mu ≤ e) (h2 : e ≤ w + mu) (h3 : -w ≤ to) (h4 : to ≤ w) : -w ≤ e + by_ mu (to - e) ∧ e + by_ mu (to - e) ≤ w := by
  unfold by_; split
  · omega
  · split <;> omega
end Slew
end Go.Proofs.YtmokofblmkeloaaGreatDoor

/- Plain mathematics of layer 21: what a gateway or a node holds. It names no program. -/
namespace Go.Proofs.YtmokofblmkeloaaGreatDoor
/-- A state. -/
structure Sta where
  lo : Int
  hi : Int
  time : Int
  set : Bool
  held : Int
  hops : Int
  good : Bool
  table : List (Int × Int)
  st : Int
  sn : Int
  life : Int
  deriving DecidableEq
namespace Health
def mid (lo hi : Int) : Int := (Sat.clip lo + Sat.clip hi) / 2
def far (p : Par) (held : Int) : Int := Sat.mul 2 (Lim.width p (Sat.most [held, p.hold]) p.d)
/-- Its health. -/
def of (p : Par) (s : Sta) : Int := if s.good = false ∨ s.set = false ∨ p.d < s.hops then 0 else if p.hold < s.held then 2 else 1
def life (x : Int) : Int := Sat.bound x 0 2305843009213693952
def stamp (time : Int) (s : Int × Int) : Int × Int := if Hlc.right s = true then s else (time, 0)
/-- One that can be. -/
def sane (p : Par) (s : Sta) : Sta where
  lo := if Sat.clip s.hi < Sat.clip s.lo then -2305843009213693952 else Sat.clip s.lo
  hi := if Sat.clip s.hi < Sat.clip s.lo then 2305843009213693952 else Sat.clip s.hi
  time := Sat.clip s.time
  set := s.set
  held := Sat.bound s.held 0 1073741824
  hops := Sat.bound s.hops 0 (Sat.sum [p.d, 1])
  good := if Sat.clip s.hi < Sat.clip s.lo then false else s.good
  table := if Leap.good s.table = true then s.table else []
  st := (stamp (Sat.clip s.time) (s.st, s.sn)).1
  sn := (stamp (Sat.clip s.time) (s.st, s.sn)).2
  life := life s.life
/-- The latest time of a stamp. -/
def most (p : Par) (s : Sta) : Int := Sat.sum [s.hi, far p s.held]
def off (was : Sta) (ticks : Int) (next : Sta) : Int := Sat.sub (mid next.lo next.hi) (Sat.sum [was.time, ticks])
def jumps (p : Par) (was : Sta) (ticks : Int) (next : Sta) : Bool := decide (of p was = 0 ∨ far p next.held < off was ticks next ∨ far p next.held < -off was ticks next)
/-- The clock behind a beat. -/
def clock (p : Par) (was : Sta) (ticks : Int) (next : Sta) : Int := if jumps p was ticks next = true ∨ was.set = false then Sat.clip (mid next.lo next.hi) else Slew.step p was.time ticks (mid next.lo next.hi)
/-- Does the stamp begin anew? -/
def anew (m : Int) (s : Int × Int) : Bool := decide (Hlc.right s = false ∨ m < s.1)
/-- Ahead of its stamp. -/
def led (p : Par) (was : Sta) (ticks : Int) (next : Sta) : Sta := { sane p next with time := clock p was ticks next, set := true, life := life was.life }
def lives (p : Par) (was : Sta) (ticks : Int) (next : Sta) : Int :=
  if anew (most p (led p was ticks next)) (was.st, was.sn) = true ∨ clock p was ticks next < was.time then life (Sat.sum [life was.life, 1]) else life was.life
def mark (p : Par) (was : Sta) (ticks : Int) (next : Sta) : Int × Int :=
  Hlc.tick (if anew (most p (led p was ticks next)) (was.st, was.sn) = true then (Sat.clip (clock p was ticks next), 0) else (was.st, was.sn)) (clock p was ticks next)
/-- Behind a beat. -/
def step (p : Par) (was : Sta) (ticks : Int) (next : Sta) : Sta := { led p was ticks next with st := (mark p was ticks next).1, sn := (mark p was ticks next).2, life := lives p was ticks next }
def listen (p : Par) (s : Sta) (x : Int × Int) : Sta := { s with st := (Hlc.hear (s.st, s.sn) s.time x (most p s)).1.1, sn := (Hlc.hear (s.st, s.sn) s.time x (most p s)).1.2 }
def stamped (s : Sta) : Sta := { s with st := (Hlc.tick (s.st, s.sn) s.time).1, sn := (Hlc.tick (s.st, s.sn) s.time).2 }
theorem bound_in {x lo hi : Int} (h1 : lo ≤ x) (h2 : x ≤ hi) : Sat.bound x lo hi = x := by unfold Sat.bound; rw [if_neg (by omega), if_neg (by omega)]
end Health
end Go.Proofs.YtmokofblmkeloaaGreatDoor

/- Plain mathematics of layer 21, more: a state behind a beat can be; a clock that is near stays near; stamps rise. It names no program. -/
namespace Go.Proofs.YtmokofblmkeloaaGreatDoor
namespace Health
/-- How far a clock may be from the middle of its span without a jump, where numbers may be so. -/
theorem far_in {p : Par} (h : Lim.May p) {held : Int} (h0 : 0 ≤ held) (h1 : held ≤ p.hold) : far p held = Sat.clip (2 * Lim.wide p p.hold p.d) ∧ 6 * p.rho ≤ Lim.wide p p.hold p.d ∧ 0 ≤ Lim.wide p p.hold p.d := by
  have hs := h.small
  have hb : (0 ≤ p.d ∧ p.d ≤ 16) ∧ (p.d + 2 ≤ p.hold ∧ p.hold ≤ 1048576) := h.2.2.1
  have hm : Sat.most [held, p.hold] = p.hold := by
    unfold Sat.most
    simp only [List.foldl_cons, List.foldl_nil]
    rw [Sat.clip_in (x := held) (by omega) (by omega), Sat.clip_in (x := p.hold) (by omega) (by omega)]
    split <;> split <;> omega
  have hw := Lim.wide_pos hs (held := p.hold) (hops := p.d) ⟨by omega, by omega⟩ ⟨by omega, by omega⟩
  have hwb := Lim.wide_bd hs (held := p.hold) (hops := p.d) ⟨by omega, by omega⟩ ⟨by omega, by omega⟩
  unfold far
  rw [hm, Lim.width_in hs ⟨by omega, by omega⟩ ⟨by omega, by omega⟩]
  refine ⟨?_, ?_, by omega⟩
  · unfold Sat.mul
    rw [Sat.clip_in (x := (2 : Int)) (by omega) (by omega), Sat.clip_in (x := Lim.wide p p.hold p.d) (by omega) (by omega)]
  · obtain ⟨⟨r1, r2⟩, ⟨j1, j2⟩, e1, e2⟩ := hs
    have e3 : (p.d + 1) * (p.jit + 2 * p.rho) = p.d * (p.jit + 2 * p.rho) + (p.jit + 2 * p.rho) := by rw [Int.add_mul, Int.one_mul]
    have e4 := Int.mul_nonneg hb.1.1 (show 0 ≤ p.jit + 2 * p.rho by omega)
    unfold Lim.wide
    rw [e3]
    omega
theorem mid_in {lo hi : Int} (h1 : -2305843009213693952 ≤ lo ∧ lo ≤ 2305843009213693952) (h2 : -2305843009213693952 ≤ hi ∧ hi ≤ 2305843009213693952) : mid lo hi = (lo + hi) / 2 := by
  unfold mid
  rw [Sat.clip_in h1.1 h1.2, Sat.clip_in h2.1 h2.2]
/-- **No jumps.** -/
theorem stays {p : Par} (hp : Lim.May p) {s next : Sta} {now err w : Int} (hn : -72057594037927936 ≤ now ∧ now ≤ 72057594037927936) (he : -p.rho ≤ err ∧ err ≤ p.rho) (hh : 0 ≤ next.held ∧ next.held ≤ p.hold) (hw : w = (far p p.hold).tdiv 2) (hw1 : w ≤ 72057594037927936)
    (hk : of p s ≠ 0 → now - w ≤ s.time ∧ s.time ≤ now + w) (h1 : next.lo ≤ now + p.beat) (h2 : now + p.beat ≤ next.hi) (h3 : now + p.beat - w ≤ next.lo) (h4 : next.hi ≤ now + p.beat + w) (h5 : next.hi - next.lo ≤ w) :
    (now + p.beat - w ≤ clock p s (p.beat + err) next ∧ clock p s (p.beat + err) next ≤ now + p.beat + w) ∧ (of p s ≠ 0 → -p.mu ≤ clock p s (p.beat + err) next - s.time - p.beat - err ∧ clock p s (p.beat + err) next - s.time - p.beat - err ≤ p.mu) := by
  obtain ⟨f1, f2, f3⟩ := far_in hp hh.1 hh.2
  obtain ⟨g1, -, -⟩ := far_in hp (held := p.hold) (by have : (0 ≤ p.d ∧ p.d ≤ 16) ∧ (p.d + 2 ≤ p.hold ∧ p.hold ≤ 1048576) := hp.2.2.1; omega) (Int.le_refl _)
  obtain ⟨⟨b1, b2⟩, ⟨b3, b4⟩, b5, b6⟩ := Slew.mu_bds hp
  generalize Lim.wide p p.hold p.d = W at f1 f2 f3 g1
  have hF : far p next.held = 2 * W ∧ w = W := by
    rw [g1] at hw
    have hc : Sat.clip (2 * W) = 2 * W := by
      unfold Sat.clip at hw ⊢
      rw [Int.tdiv_eq_ediv_of_nonneg (by split <;> (try split) <;> omega)] at hw
      split at hw <;> (try split at hw) <;> omega
    rw [hc, Int.tdiv_eq_ediv_of_nonneg (by omega)] at hw
    exact ⟨by rw [f1, hc], by omega⟩
  obtain ⟨hF, rfl⟩ := hF
  have hm := mid_in (lo := next.lo) (hi := next.hi) ⟨by omega, by omega⟩ ⟨by omega, by omega⟩
  obtain ⟨m, hmm⟩ : ∃ m, mid next.lo next.hi = m := ⟨_, rfl⟩
  rw [hmm] at hm
  have m1 : next.lo ≤ m ∧ m ≤ next.hi := by omega
  have m2 : 2 * (m - (now + p.beat)) ≤ w ∧ 2 * (now + p.beat - m) ≤ w + 1 := by omega
  by_cases ho : of p s = 0
  · have hj : jumps p s (p.beat + err) next = true := by unfold jumps; rw [decide_eq_true_iff]; exact .inl ho
    have hcl : clock p s (p.beat + err) next = m := by
      unfold clock
      rw [if_pos (Or.inl hj), hmm]
      exact Sat.clip_in (by omega) (by omega)
    rw [hcl]
    exact ⟨by omega, fun h => absurd ho h⟩
  · obtain ⟨k1, k2⟩ := hk ho
    have hset : s.set = true := by
      unfold of at ho
      split at ho
      · exact absurd rfl ho
      · rename_i g
        cases hs : s.set with
        | true => rfl
        | false => exact absurd (Or.inr (Or.inl hs)) g
    have hoff : off s (p.beat + err) next = m - (s.time + (p.beat + err)) := by
      unfold off
      rw [hmm, Lim.sum2_in (by omega) (by omega) (by omega), Lim.sub_in (by omega) (by omega) (by omega)]
    have hj : ¬ (jumps p s (p.beat + err) next = true ∨ s.set = false) := by
      rw [hset]
      unfold jumps
      rw [decide_eq_true_iff, hoff, hF]
      intro h
      rcases h with (h | h | h) | h
      · exact ho h
      · omega
      · omega
      · cases h
    have hcl : clock p s (p.beat + err) next = s.time + (p.beat + err) + Slew.by_ p.mu (m - (s.time + (p.beat + err))) := by
      unfold clock
      rw [if_neg hj, hmm]
      exact Slew.step_in (by omega) (by omega) (by omega) (by omega)
    have hb := Slew.by_bd (mu := p.mu) (by omega) (m - (s.time + (p.beat + err)))
    have hst := Slew.by_stays (mu := p.mu) (w := w) (e := s.time + err - now) (to := m - (now + p.beat)) (by omega) (by omega) (by omega) (by omega)
    rw [show m - (now + p.beat) - (s.time + err - now) = m - (s.time + (p.beat + err)) by omega] at hst
    rw [hcl]
    exact ⟨by omega, fun _ => by omega⟩
end Health
end Go.Proofs.YtmokofblmkeloaaGreatDoor

/- Plain mathematics of layer 22: what a gateway is told, what it makes of it, and its beat. It names no program. -/
namespace Go.Proofs.YtmokofblmkeloaaGreatDoor
/-- A message that was heard. -/
structure Hd where
  m : Msg
  age : Int
namespace Gate
/-- How many gateways there are. -/
def cnt (p : Par) : Nat := (min p.n 16).toNat
/-- Is it gateway k's? -/
def has (k : Nat) (h : Hd) : Bool := decide (h.m.kind = 1 ∧ h.m.frm = k)
/-- What is told by gateway k. -/
def one (me : Int) (l : List Hd) (k : Nat) : Option Hd := if (k : Int) = me then none else l.find? (has k)
def told (p : Par) (me : Int) (l : List Hd) : List Hd := (List.range (cnt p)).filterMap (one me l)
def way (p : Par) (h : Hd) : Int × Int := Carry.way p (h.m.slo, h.m.shi) h.age
def ways (p : Par) (t : List Hd) : List (Int × Int) := (t.filter (·.m.ref)).map (way p)
/-- Does it read its reference? -/
def reads (p : Par) (ref : Bool) (x : Int) : Bool := Anchor.is p x && ref
def spans (p : Par) (me : Int) (ref : Bool) (x : Int) (l : List Hd) : List (Int × Int) := (if reads p ref x = true then [Anchor.seen p x] else []) ++ ways p (told p me l)
/-- Is something fused of these? -/
def left (f : Int) (l : List (Int × Int)) : Bool := Trim.many f l.length && !decide (Trim.val f (l.map (·.2)) < Trim.val ((l.length : Int) - 1 - f) (l.map (·.1)))
def fused (f : Int) (l : List (Int × Int)) : Int × Int := if left f l = true then (Sat.clip (Trim.val ((l.length : Int) - 1 - f) (l.map (·.1))), Sat.clip (Trim.val f (l.map (·.2)))) else (0, 0)
/-- The state that follows: of what is fused (l: the spans), and of the table that is given. -/
def next (p : Par) (s : Sta) (ticks : Int) (l : List (Int × Int)) (given : Bool) (tb : List (Int × Int)) : Sta :=
  { s with
    lo := if left p.f l = true then (fused p.f l).1 else (Carry.hold p (s.lo, s.hi) ticks).1
    hi := if left p.f l = true then (fused p.f l).2 else (Carry.hold p (s.lo, s.hi) ticks).2
    held := if left p.f l = true then 0 else Anchor.more s.held
    hops := 0
    good := if left p.f l = true then true else s.good
    table := if given = true then tb else s.table }
/-- The state behind a beat, and what is told of it. -/
def state (p : Par) (me : Int) (s : Sta) (ticks : Int) (ref : Bool) (x : Int) (l : List Hd) (given : Bool) (tb : List (Int × Int)) : Sta := Health.step p s ticks (next p s ticks (spans p me ref x l) given tb)
def pulse (p : Par) (s : Sta) : Int := if Health.of p s = 0 then 0 else Pulse.num p.pulse s.time
def say (p : Par) (s : Sta) (kind me : Int) (read : Bool) (seen : Int × Int) : Msg :=
  ⟨kind, me, s.lo, s.hi, s.held, s.hops, s.good, read, seen.1, seen.2, pulse p s, (Health.stamped s).st, (Health.stamped s).sn, s.table⟩
/-! How many are told. -/
theorem count_or (p q : Nat → Bool) : ∀ l : List Nat, l.countP (fun k => p k || q k) ≤ l.countP p + l.countP q
  | [] => by simp
  | k :: l => by
    have := count_or p q l
    simp only [List.countP_cons]
    cases p k <;> cases q k <;> simp <;> omega
theorem count_has {R : List Nat} (hR : R.Nodup) : ∀ l : List Hd, R.countP (fun k => l.any (has k)) ≤ l.length
  | [] => by simp
  | h :: l => by
    have h1 := count_has hR l
    have h2 := count_or (fun k => has k h) (fun k => l.any (has k)) R
    have h3 : R.countP (fun k => has k h) ≤ 1 := by
      refine Nat.le_trans (Trim.countP_mono (q := fun k => k == h.m.frm.toNat) fun k _ hk => ?_) (List.nodup_iff_count.1 hR h.m.frm.toNat)
      have := (of_decide_eq_true hk).2
      rw [this]
      simp
    simp only [List.any_cons, List.length_cons]
    omega
theorem length_filterMap (f : Nat → Option Hd) : ∀ R : List Nat, (R.filterMap f).length = R.countP fun k => (f k).isSome
  | [] => rfl
  | k :: R => by
    have := length_filterMap f R
    rw [List.filterMap_cons, List.countP_cons]
    cases f k <;> simp [this]
theorem find_some (l : List Hd) (k : Nat) : (l.find? (has k)).isSome = l.any (has k) := by
  induction l with
  | nil => rfl
  | cons h l ih =>
    rw [List.find?_cons, List.any_cons]
    cases has k h <;> simp [ih]
theorem one_some (me : Int) (l : List Hd) (k : Nat) (h : (one me l k).isSome = true) : l.any (has k) = true := by
  unfold one at h
  split at h
  · cases h
  · rw [← find_some]; exact h
theorem told_few (p : Par) (me : Int) (l : List Hd) : (told p me l).length ≤ l.length := by
  unfold told
  rw [length_filterMap]
  exact Nat.le_trans (Trim.countP_mono fun k _ h => one_some me l k h) (count_has List.nodup_range l)
theorem told_cnt (p : Par) (me : Int) (l : List Hd) : (told p me l).length ≤ 16 := by
  have h1 : (told p me l).length ≤ (List.range (cnt p)).length := List.length_filterMap_le _ _
  rw [List.length_range] at h1
  have : cnt p ≤ 16 := by unfold cnt; omega
  omega
theorem ways_few (p : Par) (t : List Hd) : (ways p t).length ≤ t.length := by
  unfold ways
  rw [List.length_map]
  exact List.length_filter_le _ _
theorem left_few {f : Int} {l : List (Int × Int)} (h : (l.length : Int) ≤ 2 * f) : left f l = false := by
  unfold left Trim.many
  rw [decide_eq_false (by omega)]
  rfl
/-! The parts of the state behind a beat. -/
theorem step_lo (p : Par) (s u : Sta) (n : Int) : (Health.step p s n u).lo = (Health.sane p u).lo := rfl
theorem step_hi (p : Par) (s u : Sta) (n : Int) : (Health.step p s n u).hi = (Health.sane p u).hi := rfl
theorem step_held (p : Par) (s u : Sta) (n : Int) : (Health.step p s n u).held = (Health.sane p u).held := rfl
theorem step_hops (p : Par) (s u : Sta) (n : Int) : (Health.step p s n u).hops = (Health.sane p u).hops := rfl
theorem step_good (p : Par) (s u : Sta) (n : Int) : (Health.step p s n u).good = (Health.sane p u).good := rfl
theorem step_set (p : Par) (s u : Sta) (n : Int) : (Health.step p s n u).set = true := rfl
theorem step_time (p : Par) (s u : Sta) (n : Int) : (Health.step p s n u).time = Health.clock p s n u := rfl
theorem step_table (p : Par) (s u : Sta) (n : Int) : (Health.step p s n u).table = (Health.sane p u).table := rfl
theorem sane_span (p : Par) (u : Sta) (h1 : -2305843009213693952 ≤ u.lo) (h2 : u.lo ≤ u.hi) (h3 : u.hi ≤ 2305843009213693952) : (Health.sane p u).lo = u.lo ∧ (Health.sane p u).hi = u.hi ∧ (Health.sane p u).good = u.good := by
  unfold Health.sane
  simp only
  rw [Sat.clip_in (by omega) (by omega), Sat.clip_in (by omega) (by omega), if_neg (by omega), if_neg (by omega), if_neg (by omega)]
  exact ⟨rfl, rfl, rfl⟩
theorem sane_hops (p : Par) (hp : Lim.May p) (u : Sta) (h : u.hops = 0) : (Health.sane p u).hops = 0 := by
  have hd := hp.2.2.1.1
  show Sat.bound u.hops 0 (Sat.sum [p.d, 1]) = 0
  rw [h, Lim.sum2_in (by omega) (by omega) (by omega)]
  unfold Sat.bound
  rw [if_neg (by omega), if_neg (by omega)]
theorem sane_held (p : Par) (u : Sta) (h : 0 ≤ u.held ∧ u.held ≤ 1073741824) : (Health.sane p u).held = u.held := by
  show Sat.bound u.held 0 1073741824 = u.held
  unfold Sat.bound
  rw [if_neg (by omega), if_neg (by omega)]
end Gate
end Go.Proofs.YtmokofblmkeloaaGreatDoor

/- Plain mathematics of layer 22: whoever lies, a gateway that hears all but F is right behind a beat; where nothing is fused it waits; it forgets. It names no program. -/
namespace Go.Proofs.YtmokofblmkeloaaGreatDoor
namespace Gate
/-- What gateway i tells, that sees the time so. -/
def hon (p : Par) (now : Int) (t : Tld) (i : Nat) : Hd := ⟨⟨1, i, 0, 0, 0, 0, false, true, now + t.err - p.eps, now + t.err + p.eps, 0, 0, 0, []⟩, p.beat - t.way + t.off⟩
/-- Whatever it is, told by gateway n + j. -/
def lie (n : Nat) (h : Hd) (j : Nat) : Hd := ⟨{ h.m with frm := (n + j : Nat) }, h.age⟩
def noT : Tld := ⟨0, 0, 0⟩
def noH : Hd := ⟨⟨0, 0, 0, 0, 0, 0, false, false, 0, 0, 0, 0, 0, []⟩, 0⟩
def hons (p : Par) (now : Int) (ts : List Tld) (m : Nat) : List Hd := (List.range' 1 m).map fun i => hon p now (ts.getD i noT) i
def liars (n : Nat) (lies : List Hd) (m : Nat) : List Hd := (List.range m).map fun j => lie n (lies.getD j noH) j
def heard (p : Par) (now : Int) (ts : List Tld) (lies : List Hd) : List Hd := hons p now ts (ts.length - 1) ++ liars ts.length lies lies.length
theorem hons_next (p : Par) (now : Int) (ts : List Tld) (m : Nat) : hons p now ts (m + 1) = hons p now ts m ++ [hon p now (ts.getD (m + 1) noT) (m + 1)] := by
  unfold hons
  rw [List.range'_concat, List.map_append]
  simp [Nat.add_comm]
theorem find_hons (p : Par) (now : Int) (ts : List Tld) (k : Nat) : ∀ m a, ((List.range' a m).map fun i => hon p now (ts.getD i noT) i).find? (has k) = if a ≤ k ∧ k < a + m then some (hon p now (ts.getD k noT) k) else none
  | 0, a => by rw [if_neg (by omega)]; rfl
  | m + 1, a => by
    rw [List.range'_succ, List.map_cons, List.find?_cons, find_hons p now ts k m (a + 1)]
    by_cases h : a = k
    · subst h
      have : has a (hon p now (ts.getD a noT) a) = true := decide_eq_true ⟨rfl, rfl⟩
      rw [this, if_pos (show a ≤ a ∧ a < a + (m + 1) from ⟨Nat.le_refl _, by omega⟩)]
    · have : has k (hon p now (ts.getD a noT) a) = false := decide_eq_false fun g => h (by have := g.2; unfold hon at this; simp only at this; omega)
      rw [this]
      simp only
      by_cases g : a + 1 ≤ k ∧ k < a + 1 + m
      · rw [if_pos g, if_pos (by omega)]
      · rw [if_neg g, if_neg (by omega)]
theorem one_hon (p : Par) (now : Int) (ts : List Tld) (lies : List Hd) {k : Nat} (h1 : 1 ≤ k) (h2 : k < ts.length) : one 0 (heard p now ts lies) k = some (hon p now (ts.getD k noT) k) := by
  unfold one heard hons
  rw [if_neg (by omega), List.find?_append, find_hons, if_pos (by omega)]
  rfl
theorem filterMap_hon (p : Par) (now : Int) (ts : List Tld) (lies : List Hd) : ∀ m a, 1 ≤ a → a + m ≤ ts.length → (List.range' a m).filterMap (one 0 (heard p now ts lies)) = (List.range' a m).map fun i => hon p now (ts.getD i noT) i
  | 0, _, _, _ => rfl
  | m + 1, a, h1, h2 => by
    rw [List.range'_succ, List.filterMap_cons, one_hon p now ts lies h1 (by omega), List.map_cons, filterMap_hon p now ts lies m (a + 1) (by omega) (by omega)]
/-- What is told: by each of the right ones, and by F at most of the others. -/
theorem told_heard {p : Par} (hp : Lim.May p) (now : Int) {ts : List Tld} (hts : (ts.length : Int) = p.n - p.f) (lies : List Hd) :
    ∃ L : List Hd, told p 0 (heard p now ts lies) = hons p now ts (ts.length - 1) ++ L ∧ (L.length : Int) ≤ p.f := by
  obtain ⟨⟨n1, n2⟩, f1, f2⟩ := hp.1
  have hc : cnt p = ts.length + p.f.toNat := by unfold cnt; omega
  refine ⟨(List.range' ts.length p.f.toNat).filterMap (one 0 (heard p now ts lies)), ?_, ?_⟩
  · unfold told
    rw [hc, List.range_eq_range', show ts.length + p.f.toNat = 1 + ((ts.length - 1) + p.f.toNat) by omega, ← List.range'_append_1, List.filterMap_append, ← List.range'_append_1, List.filterMap_append, Nat.zero_add, filterMap_hon p now ts lies (ts.length - 1) 1 (Nat.le_refl _) (by omega), show 1 + (ts.length - 1) = ts.length by omega]
    rfl
  · have := List.length_filterMap_le (one 0 (heard p now ts lies)) (List.range' ts.length p.f.toNat)
    rw [List.length_range'] at this
    omega
theorem hon_way {p : Par} (hp : Lim.May p) {now : Int} (hn : -1125899906842624 ≤ now ∧ now ≤ 1125899906842624) {t : Tld} (ht : Anchor.Fine p t) (i : Nat) : way p (hon p now t i) = Anchor.carried p now t := by
  obtain ⟨b1, r1, d1, j1, e1⟩ := Lim.May.bds hp
  obtain ⟨t1, t2, t3⟩ := ht
  obtain ⟨-, hs⟩ := Anchor.seen_in hp (x := now + t.err) (by omega)
  unfold way Anchor.carried hon
  rw [hs]
theorem ways_hons {p : Par} (hp : Lim.May p) {now : Int} (hn : -1125899906842624 ≤ now ∧ now ≤ 1125899906842624) {ts : List Tld} (hf : ∀ t ∈ ts, Anchor.Fine p t) : ∀ m a, a + m ≤ ts.length → ways p ((List.range' a m).map fun i => hon p now (ts.getD i noT) i) = (List.range' a m).map fun i => Anchor.carried p now (ts.getD i noT)
  | 0, _, _ => rfl
  | m + 1, a, h => by
    have ih := ways_hons hp hn hf m (a + 1) (by omega)
    have hm : ts.getD a noT ∈ ts := by rw [List.getD_eq_getElem?_getD, List.getElem?_eq_getElem (by omega)]; exact List.getElem_mem _
    have hw := hon_way hp hn (hf _ hm) a
    unfold ways at ih ⊢
    rw [List.range'_succ, List.map_cons, List.map_cons, List.filter_cons, if_pos (show (hon p now (ts.getD a noT) a).m.ref = true from rfl), List.map_cons, ih, hw]
theorem ways_append (p : Par) (a b : List Hd) : ways p (a ++ b) = ways p a ++ ways p b := by unfold ways; rw [List.filter_append, List.map_append]
theorem range_mem {ts : List Tld} {m a : Nat} (h : a + m ≤ ts.length) {f : Tld → Int × Int} {s : Int × Int} (hs : s ∈ (List.range' a m).map fun i => f (ts.getD i noT)) : ∃ t ∈ ts, s = f t := by
  obtain ⟨i, hi, rfl⟩ := List.mem_map.1 hs
  have := List.mem_range'_1.1 hi
  refine ⟨ts.getD i noT, ?_, rfl⟩
  rw [List.getD_eq_getElem?_getD, List.getElem?_eq_getElem (by omega)]
  exact List.getElem_mem _
/-- What is fused is right, whoever lies. -/
theorem fused_right {p : Par} (hp : Lim.May p) {now : Int} (hn : -1125899906842624 ≤ now ∧ now ≤ 1125899906842624) {ts : List Tld} (hts : (ts.length : Int) = p.n - p.f) (hf : ∀ t ∈ ts, Anchor.Fine p t) (lies : List Hd) :
    reads p true (now + p.beat + (ts.getD 0 noT).err) = true ∧ left p.f (spans p 0 true (now + p.beat + (ts.getD 0 noT).err) (heard p now ts lies)) = true ∧
      ∀ s, fused p.f (spans p 0 true (now + p.beat + (ts.getD 0 noT).err) (heard p now ts lies)) = s → (s.1 ≤ now + p.beat ∧ now + p.beat ≤ s.2) ∧ s.2 - s.1 ≤ 2 * p.eps + Lim.hop p ∧ -2305843009213693952 ≤ s.1 ∧ s.2 ≤ 2305843009213693952 := by
  obtain ⟨b1, r1, d1, j1, e1⟩ := Lim.May.bds hp
  obtain ⟨⟨n1, n2⟩, f1, f2⟩ := hp.1
  have h0 : 0 < ts.length := by omega
  have hm0 : ts.getD 0 noT ∈ ts := by rw [List.getD_eq_getElem?_getD, List.getElem?_eq_getElem h0]; exact List.getElem_mem _
  obtain ⟨t1, t2, t3⟩ := hf _ hm0
  obtain ⟨hr, hs⟩ := Anchor.seen_in hp (x := now + p.beat + (ts.getD 0 noT).err) (by omega)
  have hR : reads p true (now + p.beat + (ts.getD 0 noT).err) = true := by unfold reads; rw [hr]; rfl
  obtain ⟨L, hL, hLl⟩ := told_heard hp now hts lies
  have hS : spans p 0 true (now + p.beat + (ts.getD 0 noT).err) (heard p now ts lies) = (Anchor.seen p (now + p.beat + (ts.getD 0 noT).err) :: (List.range' 1 (ts.length - 1)).map fun i => Anchor.carried p now (ts.getD i noT)) ++ ways p L := by
    unfold spans
    rw [if_pos hR, hL, ways_append]
    unfold hons
    rw [ways_hons hp hn hf (ts.length - 1) 1 (by omega)]
    rfl
  have hhop : 0 ≤ Lim.hop p := by rw [Lim.hop_in (Lim.May.small hp)]; omega
  have hall : ∀ s ∈ (Anchor.seen p (now + p.beat + (ts.getD 0 noT).err) :: (List.range' 1 (ts.length - 1)).map fun i => Anchor.carried p now (ts.getD i noT)), Anchor.right (now + p.beat) (2 * p.eps + Lim.hop p) s = true := by
    intro s hs2
    rcases List.mem_cons.1 hs2 with rfl | hs2
    · rw [hs]
      exact decide_eq_true ⟨by simp only; omega, by simp only; omega, by simp only; omega, by simp only; omega⟩
    · obtain ⟨t, ht, rfl⟩ := range_mem (by omega) hs2
      exact Anchor.carried_right hp (by omega) (hf t ht)
  have hwl := ways_few p L
  generalize hR0 : (Anchor.seen p (now + p.beat + (ts.getD 0 noT).err) :: (List.range' 1 (ts.length - 1)).map fun i => Anchor.carried p now (ts.getD i noT)) = R at hS hall
  have hRl : R.length = ts.length := by rw [← hR0]; simp; omega
  generalize ways p L = Q at hS hwl
  generalize spans p 0 true (now + p.beat + (ts.getD 0 noT).err) (heard p now ts lies) = S at hS ⊢
  have hSl : S.length = R.length + Q.length := by rw [hS, List.length_append]
  have hlen : 2 * p.f.toNat + 1 ≤ R.length := by omega
  have hfS : p.f.toNat < S.length := by omega
  have e1' : p.f.toNat = p.f := by omega
  have hval := Trim.val_pick (k := p.f) (l := S.map (·.2)) (by simp; omega)
  have hval2 := Trim.val_pick (k := (S.length : Int) - 1 - p.f) (l := S.map (·.1)) (by simp; omega)
  have hmost : Trim.PickMost p.f.toNat (S.map (·.1)) (Trim.val ((S.length : Int) - 1 - p.f) (S.map (·.1))) := by
    unfold Trim.PickMost
    rw [List.length_map, show S.length - 1 - p.f.toNat = ((S.length : Int) - 1 - p.f).toNat by omega]
    exact hval2
  have hcx : S.countP (fun s => !decide (s.1 ≤ now + p.beat ∧ now + p.beat ≤ s.2)) ≤ p.f.toNat := by
    rw [hS, List.countP_append]
    have h1 : R.countP (fun s => !decide (s.1 ≤ now + p.beat ∧ now + p.beat ≤ s.2)) = 0 := by
      rw [List.countP_eq_zero]
      intro s hs2
      have := of_decide_eq_true (hall s hs2)
      simp [this.1]
    have h2 := List.countP_le_length (p := fun s : Int × Int => !decide (s.1 ≤ now + p.beat ∧ now + p.beat ≤ s.2)) (l := Q)
    omega
  have hcr : 2 * p.f.toNat + 1 ≤ S.countP (Anchor.right (now + p.beat) (2 * p.eps + Lim.hop p)) := by
    rw [hS, List.countP_append]
    have h1 : R.countP (Anchor.right (now + p.beat) (2 * p.eps + Lim.hop p)) = R.length := List.countP_eq_length.2 hall
    omega
  obtain ⟨g1, g2, s, hs3, hr3, g3, g4⟩ := Trim.fuse_by hfS hmost hval hcx (Anchor.right (now + p.beat) (2 * p.eps + Lim.hop p)) hcr
  have hr4 := of_decide_eq_true hr3
  have hleft : left p.f S = true := by
    unfold left Trim.many
    rw [decide_eq_true (by omega), decide_eq_false (by omega)]
    rfl
  refine ⟨hR, hleft, fun z hz => ?_⟩
  unfold fused at hz
  rw [if_pos hleft, Sat.clip_in (by omega) (by omega), Sat.clip_in (by omega) (by omega)] at hz
  subst hz
  exact ⟨⟨g1, g2⟩, by simp only; omega, by simp only; omega, by simp only; omega⟩
/-- Behind such a beat. -/
theorem holds {p : Par} (hp : Lim.May p) {now : Int} (hn : -1125899906842624 ≤ now ∧ now ≤ 1125899906842624) {ts : List Tld} (hts : (ts.length : Int) = p.n - p.f) (hf : ∀ t ∈ ts, Anchor.Fine p t) (lies : List Hd) (s : Sta) (ticks : Int) (tb : List (Int × Int)) (Y : Sta)
    (hY : state p 0 s ticks true (now + p.beat + (ts.getD 0 noT).err) (heard p now ts lies) false tb = Y) :
    reads p true (now + p.beat + (ts.getD 0 noT).err) = true ∧ (Y.lo ≤ now + p.beat ∧ now + p.beat ≤ Y.hi) ∧ Y.hi - Y.lo ≤ 2 * p.eps + Lim.hop p ∧ (-2305843009213693952 ≤ Y.lo ∧ Y.hi ≤ 2305843009213693952) ∧ Y.held = 0 ∧ Health.of p Y = 1 ∧ (Health.of p s = 0 → Y.lo ≤ Y.time ∧ Y.time ≤ Y.hi) := by
  obtain ⟨hR, hleft, hfz⟩ := fused_right hp hn hts hf lies
  have hfz := hfz _ rfl
  unfold state at hY
  generalize spans p 0 true (now + p.beat + (ts.getD 0 noT).err) (heard p now ts lies) = S at hY hleft hfz
  generalize hu : next p s ticks S false tb = u at hY
  have u1 : u.lo = (fused p.f S).1 := by rw [← hu]; unfold next; simp only; rw [if_pos hleft]
  have u2 : u.hi = (fused p.f S).2 := by rw [← hu]; unfold next; simp only; rw [if_pos hleft]
  have u3 : u.held = 0 := by rw [← hu]; unfold next; simp only; rw [if_pos hleft]
  have u4 : u.hops = 0 := by rw [← hu]; rfl
  have u5 : u.good = true := by rw [← hu]; unfold next; simp only; rw [if_pos hleft]
  generalize fused p.f S = z at u1 u2 hfz
  obtain ⟨q1, q2, q3⟩ := sane_span p u (by omega) (by omega) (by omega)
  have q4 := sane_hops p hp u u4
  have q5 := sane_held p u (by omega)
  obtain ⟨⟨hd1, hd2⟩, hd3, hd4⟩ := hp.2.2.1
  have y1 : Y.lo = u.lo := by rw [← hY, step_lo, q1]
  have y2 : Y.hi = u.hi := by rw [← hY, step_hi, q2]
  have y3 : Y.held = 0 := by rw [← hY, step_held, q5, u3]
  have y4 : Y.hops = 0 := by rw [← hY, step_hops, q4]
  have y5 : Y.good = true := by rw [← hY, step_good, q3, u5]
  have y6 : Y.set = true := by rw [← hY, step_set]
  have y7 : Y.time = Health.clock p s ticks u := by rw [← hY, step_time]
  refine ⟨hR, by omega, by omega, by omega, y3, ?_, fun h0 => ?_⟩
  · unfold Health.of
    rw [y5, y6, y4, y3, if_neg (by simp; omega), if_neg (by omega)]
  · have hj : Health.jumps p s ticks u = true := decide_eq_true (.inl h0)
    have ht : Y.time = Sat.clip (Health.mid u.lo u.hi) := by
      rw [y7]
      unfold Health.clock
      rw [if_pos (.inl hj)]
    rw [Health.mid_in (by omega) (by omega), Sat.clip_in (by omega) (by omega)] at ht
    omega
end Gate
end Go.Proofs.YtmokofblmkeloaaGreatDoor

/- Plain mathematics of layer 22: of each gateway the first message, sorted by numbers, is what is told. It names no program. -/
namespace Go.Proofs.YtmokofblmkeloaaGreatDoor
namespace Gate
/-- Is it another gateway's? -/
def other (p : Par) (me : Int) (h : Hd) : Bool := decide (h.m.kind = 1 ∧ 0 ≤ h.m.frm ∧ h.m.frm < p.n ∧ h.m.frm < 16 ∧ h.m.frm ≠ me)
/-- Did that one say something already? -/
def said (l : List Hd) (k : Int) : Bool := l.any fun h => decide (h.m.frm = k)
def pick1 (p : Par) (me : Int) (out : List Hd) (h : Hd) : List Hd := if other p me h = true ∧ said out h.m.frm = false then out ++ [h] else out
/-- The first ones, in the order in which they came. -/
def pick (p : Par) (me : Int) (l : List Hd) : List Hd := l.foldl (pick1 p me) []
theorem pick_snoc (p : Par) (me : Int) (l : List Hd) (h : Hd) : pick p me (l ++ [h]) = pick1 p me (pick p me l) h := by
  unfold pick
  rw [List.foldl_append]
  rfl
theorem said_snoc (l : List Hd) (h : Hd) (k : Int) : said (l ++ [h]) k = (said l k || decide (h.m.frm = k)) := by
  unfold said
  simp
theorem other_has {p : Par} {me : Int} {h : Hd} (e : other p me h = true) : ∃ k : Nat, k < cnt p ∧ (k : Int) ≠ me ∧ has k h = true ∧ h.m.frm = k := by
  obtain ⟨e1, e2, e3, e4, e5⟩ := of_decide_eq_true e
  refine ⟨h.m.frm.toNat, by unfold cnt; omega, by omega, decide_eq_true ⟨e1, by omega⟩, by omega⟩
theorem has_other {p : Par} {me : Int} {h : Hd} {k : Nat} (h1 : k < cnt p) (h2 : (k : Int) ≠ me) (h3 : has k h = true) : other p me h = true ∧ h.m.frm = k := by
  obtain ⟨e1, e2⟩ := of_decide_eq_true h3
  unfold cnt at h1
  exact ⟨decide_eq_true ⟨e1, by omega, by omega, by omega, by omega⟩, e2⟩
theorem snoc_rec {P : List Hd → Prop} (h0 : P []) (h1 : ∀ l x, P l → P (l ++ [x])) (l : List Hd) : P l := by
  have : ∀ r : List Hd, P r.reverse := fun r => by
    induction r with
    | nil => exact h0
    | cons x r ih => rw [List.reverse_cons]; exact h1 _ _ ih
  simpa using this l.reverse
/-- What is picked is the others', of each one. -/
theorem pick_good (p : Par) (me : Int) (l : List Hd) : (∀ h ∈ pick p me l, other p me h = true) ∧ (pick p me l).Pairwise (fun a b => a.m.frm ≠ b.m.frm) := by
  induction l using snoc_rec with
  | h0 => exact ⟨by simp [pick], by simp [pick]⟩
  | h1 l x ih =>
    rw [pick_snoc]
    unfold pick1
    split
    · next h =>
      refine ⟨fun y hy => ?_, ?_⟩
      · rcases List.mem_append.1 hy with hy | hy
        · exact ih.1 y hy
        · rw [List.mem_singleton] at hy; subst hy; exact h.1
      · rw [List.pairwise_append]
        refine ⟨ih.2, List.pairwise_singleton _ _, fun a ha b hb => ?_⟩
        rw [List.mem_singleton] at hb
        subst hb
        have := h.2
        unfold said at this
        rw [List.any_eq_false] at this
        simpa using this a ha
    · exact ih
theorem said_find {p : Par} {me : Int} {out : List Hd} (ho : ∀ h ∈ out, other p me h = true) {k : Nat} : (out.find? (has k)).isSome = said out k := by
  rw [find_some]
  unfold said
  rw [Bool.eq_iff_iff, List.any_eq_true, List.any_eq_true]
  constructor
  · rintro ⟨x, hx, e⟩; exact ⟨x, hx, decide_eq_true (of_decide_eq_true e).2⟩
  · rintro ⟨x, hx, e⟩; exact ⟨x, hx, decide_eq_true ⟨(of_decide_eq_true (ho x hx)).1, of_decide_eq_true e⟩⟩
theorem pick_find (p : Par) (me : Int) (l : List Hd) {k : Nat} (h1 : k < cnt p) (h2 : (k : Int) ≠ me) : (pick p me l).find? (has k) = l.find? (has k) := by
  induction l using snoc_rec with
  | h0 => rfl
  | h1 l x ih =>
    have hg := (pick_good p me l).1
    rw [pick_snoc, List.find?_append, ← ih]
    by_cases hx : has k x = true
    · obtain ⟨e1, e2⟩ := has_other h1 h2 hx
      have hs := said_find hg (k := k)
      unfold pick1
      rw [e2]
      cases e : said (pick p me l) k with
      | true =>
        rw [if_neg (by simp)]
        rw [e] at hs
        obtain ⟨y, hy⟩ := Option.isSome_iff_exists.1 hs
        rw [hy]
        rfl
      | false => rw [if_pos ⟨e1, rfl⟩, List.find?_append]
    · have hx' : has k x = false := by simpa using hx
      have : [x].find? (has k) = none := by simp [hx']
      rw [this, Option.or_none]
      unfold pick1
      split
      · rw [List.find?_append, this, Option.or_none]
      · rfl
theorem told_lt (p : Par) (me : Int) (l : List Hd) : (told p me l).Pairwise fun a b => a.m.frm < b.m.frm := by
  unfold told
  rw [List.pairwise_filterMap]
  refine List.Pairwise.imp (fun {a b} hab => ?_) (List.pairwise_lt_range)
  intro x hx y hy
  have f1 : ∀ {k : Nat} {x : Hd}, one me l k = some x → x.m.frm = k := fun {k x} h => by
    unfold one at h
    split at h
    · cases h
    · have h2 : has k x = true := List.find?_some h
      exact (of_decide_eq_true h2).2
  rw [f1 hx, f1 hy]
  omega
theorem told_mem (p : Par) (me : Int) (l : List Hd) (x : Hd) : x ∈ told p me l ↔ x ∈ pick p me l := by
  obtain ⟨g1, g2⟩ := pick_good p me l
  unfold told
  rw [List.mem_filterMap]
  constructor
  · rintro ⟨k, hk, e⟩
    rw [List.mem_range] at hk
    unfold one at e
    split at e
    · cases e
    · next hme => rw [← pick_find p me l hk hme] at e; exact List.mem_of_find?_eq_some e
  · intro hx
    obtain ⟨k, h1, h2, h3, h4⟩ := other_has (g1 x hx)
    refine ⟨k, List.mem_range.2 h1, ?_⟩
    unfold one
    rw [if_neg h2, ← pick_find p me l h1 h2]
    have hs : ((pick p me l).find? (has k)).isSome = true := by
      rw [find_some, List.any_eq_true]
      exact ⟨x, hx, h3⟩
    obtain ⟨y, hy⟩ := Option.isSome_iff_exists.1 hs
    rw [hy]
    have hym := List.mem_of_find?_eq_some hy
    have hy2 : has k y = true := List.find?_some hy
    have hyf := (of_decide_eq_true hy2).2
    by_cases hxy : x = y
    · rw [hxy]
    · exfalso
      have : ∀ {L : List Hd}, L.Pairwise (fun a b => a.m.frm ≠ b.m.frm) → x ∈ L → y ∈ L → x.m.frm ≠ y.m.frm := fun {L} hL hx hy => by
        induction hL with
        | nil => cases hx
        | cons ha _ ih =>
          rcases List.mem_cons.1 hx with e1 | f1 <;> rcases List.mem_cons.1 hy with e2 | f2
          · exact absurd (e1.trans e2.symm) hxy
          · rw [e1]; exact ha _ f2
          · rw [e2]; exact fun e => ha _ f1 e.symm
          · exact ih f1 f2
      exact this g2 hx hym (by omega)
/-- Sorted by their numbers they are what is told. -/
theorem told_sorted {p : Par} {me : Int} {l L : List Hd} (hp : L.Perm (pick p me l)) (hs : L.Pairwise fun a b => a.m.frm ≤ b.m.frm) : L = told p me l := by
  have h1 : L.Pairwise (fun a b => a.m.frm ≠ b.m.frm) := (hp.pairwise_iff (fun {a b} h => Ne.symm h)).2 (pick_good p me l).2
  have h2 : L.Pairwise (fun a b => a.m.frm < b.m.frm) := (List.Pairwise.and hs h1).imp fun {a b} h => by have := h.1; have := h.2; omega
  have n1 : L.Nodup := h1.imp fun {a b} h e => h (by rw [e])
  have n2 : (told p me l).Nodup := (told_lt p me l).imp fun {a b} h e => by rw [e] at h; omega
  have hq : L.Perm (told p me l) := (List.perm_ext_iff_of_nodup n1 n2).2 fun x => by rw [told_mem]; exact hp.mem_iff
  exact List.Perm.eq_of_pairwise (fun a b _ _ h g => by omega) h2 (told_lt p me l) hq
theorem pick_few (p : Par) (me : Int) (l : List Hd) : (pick p me l).length ≤ 16 ∧ (pick p me l).length ≤ l.length := by
  have hq : (told p me l).Perm (pick p me l) := (List.perm_ext_iff_of_nodup ((told_lt p me l).imp fun {a b} h e => by rw [e] at h; omega) ((pick_good p me l).2.imp fun {a b} h e => h (by rw [e]))).2 fun x => told_mem p me l x
  exact ⟨by rw [← hq.length_eq]; exact told_cnt p me l, by rw [← hq.length_eq]; exact told_few p me l⟩
end Gate
end Go.Proofs.YtmokofblmkeloaaGreatDoor

/- Plain mathematics of layer 14: who is a neighbour, how old, how quiet. It names no program. -/
namespace Go.Proofs.YtmokofblmkeloaaGreatDoor
/-- Who is a neighbour: its age, and for how many beats it has been quiet. -/
abbrev NF := Nat → Option (Int × Int)
namespace Mem
def nobody : NF := fun _ => none
def nums (f : NF) : List Nat := (List.range 48).filter fun k => (f k).isSome
def put (f : NF) (k : Nat) (p : Int × Int) : NF := fun j => if j = k then some p else f j
def drop (f : NF) (k : Nat) : NF := fun j => if j = k then none else f j
def look (f : NF) (x : Int) : Option (Int × Int) := if 0 ≤ x then f x.toNat else none
def age : Option (Int × Int) → Int
  | none => 0
  | some p => p.1
def hearE (f : NF) (x : Int) : Int := if 0 ≤ x ∧ x < 48 then (if look f x = none ∧ (nums f).length = 16 then 7 else 0) else 1
def hear (f : NF) (x : Int) : NF := if hearE f x = 0 then put f x.toNat (age (look f x), 0) else f
def dropI (f : NF) (x : Int) : NF := if 0 ≤ x then drop f x.toNat else f
def up (a : Int) : Int := if a < 1073741824 then a + 1 else a
def next (p : Int × Int) : Int × Int := (if p.2 = 0 then up p.1 else 0, up p.2)
def goes (m : Int) (p : Int × Int) : Bool := decide (max m 0 < p.2)
def step (m : Int) : Option (Int × Int) → Option (Int × Int)
  | none => none
  | some p => if goes m p then none else some (next p)
def tick (m : Int) (f : NF) : NF := fun k => step m (f k)
def goesAt (m : Int) : Option (Int × Int) → Bool
  | none => false
  | some p => goes m p
def gone (m : Int) (f : NF) : List Nat := (List.range 48).filter fun k => goesAt m (f k)
structure Good (f : NF) : Prop where
  far : ∀ k, 48 ≤ k → f k = none
  bd : ∀ k p, f k = some p → 0 ≤ p.1 ∧ p.1 ≤ 1073741824 ∧ 0 ≤ p.2 ∧ p.2 ≤ 1073741824
  few : (nums f).length ≤ 16
theorem Good.nobody : Good nobody := ⟨fun _ _ => rfl, (fun _ _ h => by cases h), by decide⟩
theorem mem_nums {f : NF} {k : Nat} : k ∈ nums f ↔ k < 48 ∧ (f k).isSome = true := by simp [nums]
theorem nums_nodup (f : NF) : (nums f).Nodup := List.nodup_range.filter _
theorem Good.mem {f : NF} (h : Good f) {k : Nat} : k ∈ nums f ↔ (f k).isSome = true := by
  rw [mem_nums]
  refine ⟨fun h => h.2, fun hs => ⟨?_, hs⟩⟩
  rcases Nat.lt_or_ge k 48 with e | e
  · exact e
  · rw [h.far k e] at hs; cases hs
theorem look_at (f : NF) (k : Nat) : look f (k : Int) = f k := by simp [look]
theorem look_neg (f : NF) {x : Int} (h : x < 0) : look f x = none := by unfold look; rw [if_neg (by omega)]
theorem countP_put (f : NF) (k : Nat) (p : Int × Int) : ∀ l : List Nat, l.Nodup → l.countP (fun j => (put f k p j).isSome) ≤ l.countP (fun j => (f j).isSome) + 1
  | [], _ => by simp
  | x :: l, h => by
    obtain ⟨h1, h2⟩ := List.nodup_cons.1 h
    rw [List.countP_cons, List.countP_cons]
    by_cases e : x = k
    · subst e
      have : l.countP (fun j => (put f x p j).isSome) = l.countP (fun j => (f j).isSome) := by
        apply List.countP_congr
        intro j hj
        have : j ≠ x := fun e => h1 (e ▸ hj)
        simp [put, this]
      rw [this]
      split <;> split <;> omega
    · have := countP_put f k p l h2
      have e2 : put f k p x = f x := if_neg e
      rw [e2]
      omega
theorem nums_length (f : NF) : (nums f).length = (List.range 48).countP fun k => (f k).isSome := List.countP_eq_length_filter.symm
theorem nums_put_le (f : NF) (k : Nat) (p : Int × Int) : (nums (put f k p)).length ≤ (nums f).length + 1 := by
  rw [nums_length, nums_length]
  exact countP_put f k p _ List.nodup_range
theorem nums_put_same {f : NF} {k : Nat} {p q : Int × Int} (h : f k = some q) : nums (put f k p) = nums f := by
  unfold nums
  congr 1
  funext j
  unfold put
  by_cases e : j = k
  · subst e; simp [h]
  · rw [if_neg e]
theorem Good.put {f : NF} (h : Good f) {k : Nat} (hk : k < 48) {p : Int × Int} (hp : 0 ≤ p.1 ∧ p.1 ≤ 1073741824 ∧ 0 ≤ p.2 ∧ p.2 ≤ 1073741824) (hr : f k = none → (nums f).length ≠ 16) : Good (put f k p) := by
  refine ⟨fun j hj => ?_, fun j q hq => ?_, ?_⟩
  · unfold Mem.put
    rw [if_neg (by omega)]
    exact h.far j hj
  · unfold Mem.put at hq
    by_cases e : j = k
    · rw [if_pos e] at hq; cases hq; exact hp
    · rw [if_neg e] at hq; exact h.bd j q hq
  · cases hf : f k with
    | none => have := nums_put_le f k p; have := h.few; have := hr hf; omega
    | some q => rw [nums_put_same hf]; exact h.few
theorem age_bd {f : NF} (h : Good f) (k : Nat) : 0 ≤ age (f k) ∧ age (f k) ≤ 1073741824 := by
  cases e : f k with
  | none => exact ⟨Int.le_refl _, by decide⟩
  | some p => have := h.bd k p e; exact ⟨this.1, this.2.1⟩
theorem hearE_zero {f : NF} {x : Int} (h : hearE f x = 0) : (0 ≤ x ∧ x < 48) ∧ ¬ (look f x = none ∧ (nums f).length = 16) := by
  unfold hearE at h
  split at h
  · rename_i hx
    split at h
    · cases h
    · rename_i hn; exact ⟨hx, hn⟩
  · cases h
theorem look_in {f : NF} {x : Int} (h : 0 ≤ x) : look f x = f x.toNat := if_pos h
theorem Good.hear {f : NF} (h : Good f) (x : Int) : Good (hear f x) := by
  unfold Mem.hear
  by_cases e : hearE f x = 0
  · rw [if_pos e]
    obtain ⟨hx, hn⟩ := hearE_zero e
    rw [look_in hx.1] at hn ⊢
    refine h.put (by omega) ⟨(age_bd h _).1, (age_bd h _).2, (show (0 : Int) ≤ 0 by decide), (show (0 : Int) ≤ 1073741824 by decide)⟩ fun hf h16 => hn ⟨hf, h16⟩
  · rw [if_neg e]; exact h
theorem nums_less {f g : NF} (h : ∀ k, (g k).isSome = true → (f k).isSome = true) : (nums g).length ≤ (nums f).length := by
  rw [nums_length, nums_length]
  exact List.countP_mono_left fun k _ => h k
theorem Good.drop {f : NF} (h : Good f) (k : Nat) : Good (drop f k) := by
  refine ⟨fun j hj => ?_, fun j q hq => ?_, ?_⟩
  · unfold Mem.drop
    split
    · rfl
    · exact h.far j hj
  · unfold Mem.drop at hq
    split at hq
    · cases hq
    · exact h.bd j q hq
  · refine Nat.le_trans (nums_less fun j hj => ?_) h.few
    unfold Mem.drop at hj
    split at hj
    · cases hj
    · exact hj
theorem Good.dropI {f : NF} (h : Good f) (x : Int) : Good (dropI f x) := by
  unfold Mem.dropI
  split
  · exact h.drop _
  · exact h
theorem up_bd {a : Int} (h : 0 ≤ a ∧ a ≤ 1073741824) : 0 ≤ up a ∧ up a ≤ 1073741824 := by unfold up; split <;> omega
theorem up_min {a : Int} (h : a ≤ 1073741824) : up a = min (a + 1) 1073741824 := by unfold up; split <;> omega
theorem next_bd {p : Int × Int} (h : 0 ≤ p.1 ∧ p.1 ≤ 1073741824 ∧ 0 ≤ p.2 ∧ p.2 ≤ 1073741824) : 0 ≤ (next p).1 ∧ (next p).1 ≤ 1073741824 ∧ 0 ≤ (next p).2 ∧ (next p).2 ≤ 1073741824 := by
  have h1 := up_bd ⟨h.1, h.2.1⟩
  have h2 := up_bd h.2.2
  unfold next
  refine ⟨?_, ?_, h2.1, h2.2⟩
  · show 0 ≤ (if p.2 = 0 then up p.1 else 0); split <;> omega
  · show (if p.2 = 0 then up p.1 else 0) ≤ _; split <;> omega
theorem step_isSome {m : Int} {o : Option (Int × Int)} (h : (step m o).isSome = true) : o.isSome = true := by
  cases o with
  | none => cases h
  | some p => rfl
theorem Good.tick {f : NF} (h : Good f) (m : Int) : Good (tick m f) := by
  refine ⟨fun j hj => by unfold Mem.tick; rw [h.far j hj]; rfl, fun j q hq => ?_, Nat.le_trans (nums_less fun j hj => step_isSome hj) h.few⟩
  unfold Mem.tick at hq
  cases e : f j with
  | none => rw [e] at hq; cases hq
  | some p =>
    rw [e] at hq
    unfold step at hq
    simp only at hq
    split at hq
    · cases hq
    · cases hq; exact next_bd (h.bd j p e)
/-- Behind the numbers of l of a beat's end. -/
def tickL (m : Int) (f : NF) (l : List Nat) : NF := fun k => if k ∈ l then step m (f k) else f k
theorem tickL_nil (m : Int) (f : NF) : tickL m f [] = f := by funext k; simp [tickL]
theorem tickL_nums {f : NF} (h : Good f) (m : Int) : tickL m f (nums f) = tick m f := by
  funext k
  unfold tickL tick
  split
  · rfl
  · rename_i hk
    rw [h.mem] at hk
    cases e : f k with
    | none => rfl
    | some p => rw [e] at hk; exact absurd rfl hk
theorem tickL_at {m : Int} {f : NF} {l : List Nat} {k : Nat} (h : k ∉ l) : tickL m f l k = f k := if_neg h
theorem tickL_drop {m : Int} {f : NF} {l : List Nat} {k : Nat} {p : Int × Int} (e : f k = some p) (hg : goes m p = true) : drop (tickL m f l) k = tickL m f (l ++ [k]) := by
  funext j
  unfold tickL drop
  by_cases ej : j = k
  · subst ej
    simp [e, step, hg]
  · simp [ej]
theorem tickL_put {m : Int} {f : NF} {l : List Nat} {k : Nat} {p : Int × Int} (e : f k = some p) (hg : goes m p = false) : put (tickL m f l) k (next p) = tickL m f (l ++ [k]) := by
  funext j
  unfold tickL put
  by_cases ej : j = k
  · subst ej
    simp [e, step, hg]
  · simp [ej]
theorem Good.tickL {f : NF} (h : Good f) (m : Int) (l : List Nat) : Good (tickL m f l) := by
  have ht := h.tick m
  refine ⟨fun j hj => ?_, fun j q hq => ?_, ?_⟩
  · unfold Mem.tickL
    split
    · exact ht.far j hj
    · exact h.far j hj
  · unfold Mem.tickL at hq
    split at hq
    · exact ht.bd j q hq
    · exact h.bd j q hq
  · refine Nat.le_trans (nums_less fun j hj => ?_) h.few
    unfold Mem.tickL at hj
    split at hj
    · exact step_isSome hj
    · exact hj
theorem gone_nums (m : Int) (f : NF) : (nums f).filter (fun k => goesAt m (f k)) = gone m f := by
  unfold nums gone
  rw [List.filter_filter]
  congr 1
  funext k
  cases e : f k with
  | none => rfl
  | some p => simp
theorem goesAt_some {m : Int} {f : NF} {k : Nat} {p : Int × Int} (e : f k = some p) : goesAt m (f k) = goes m p := by rw [e]; rfl
theorem dropI_at (f : NF) (k : Nat) : dropI f (k : Int) = drop f k := by unfold dropI; rw [if_pos (by omega)]; simp
theorem filter_snoc_yes {q : Nat → Bool} {l : List Nat} {k : Nat} (h : q k = true) : (l ++ [k]).filter q = l.filter q ++ [k] := by simp [h]
theorem filter_snoc_no {q : Nat → Bool} {l : List Nat} {k : Nat} (h : q k = false) : (l ++ [k]).filter q = l.filter q := by simp [h]
/-- Of the first k of the 48. -/
def numsTo (f : NF) (k : Nat) : List Nat := (List.range k).filter fun j => (f j).isSome
theorem numsTo_le (f : NF) (k : Nat) : (numsTo f k).length ≤ k := by
  have := List.length_filter_le (fun j => (f j).isSome) (List.range k)
  simpa [numsTo] using this
theorem nums_le (f : NF) : (nums f).length ≤ 48 := numsTo_le f 48
/-- The numbers as Go has them. -/
def ints (l : List Nat) : List Int := l.map fun k : Nat => (k : Int)
theorem ints_length (l : List Nat) : (ints l).length = l.length := by simp [ints]
theorem ints_append (l : List Nat) (k : Nat) : ints (l ++ [k]) = ints l ++ [(k : Int)] := by simp [ints]
/-- Whatever order a list without doubles has: sorted it is the rising one of its members. -/
theorem sorted_nums {f : NF} {c : List Nat} (hn : c.Nodup) (hm : ∀ k, k ∈ c ↔ k ∈ nums f) : (ints c).mergeSort (fun x y => decide (x ≤ y)) = ints (nums f) := by
  have hp : c.Perm (nums f) := (List.perm_ext_iff_of_nodup hn (nums_nodup f)).2 hm
  have hs : (nums f).Pairwise (· < ·) := List.pairwise_lt_range.filter _
  refine List.Perm.eq_of_pairwise (le := fun a b => decide (a ≤ b) = true) (fun a b _ _ h1 h2 => ?_) (List.pairwise_mergeSort (fun a b c h1 h2 => ?_) (fun a b => ?_) _) ?_ ((List.mergeSort_perm _ _).trans (hp.map _))
  · simp only [decide_eq_true_eq] at h1 h2; omega
  · simp only [decide_eq_true_eq] at h1 h2 ⊢; omega
  · simp only [Bool.or_eq_true, decide_eq_true_eq]; omega
  · unfold ints
    rw [List.pairwise_map]
    exact hs.imp fun h => by simp only [decide_eq_true_eq]; omega
end Mem
end Go.Proofs.YtmokofblmkeloaaGreatDoor

/- Plain mathematics of layer 15: behind D + 1 beats nodes have the steps of the shortest ways. It names no program. -/
namespace Go.Proofs.YtmokofblmkeloaaGreatDoor
namespace Route
/-- What Next answers: one more than the least of the steps from 0 to D - 1; D + 1, if there are none. -/
def IsNext (D : Int) (l : List Int) (v : Int) : Prop := 1 ≤ v ∧ v ≤ D + 1 ∧ ∀ m : Int, 0 ≤ m → m < D → (v ≤ m + 1 ↔ ∃ x ∈ l, 0 ≤ x ∧ x ≤ m)
theorem IsNext.mem {D : Int} {l m : List Int} {v : Int} (h : IsNext D l v) (e : ∀ x, x ∈ l ↔ x ∈ m) : IsNext D m v :=
  ⟨h.1, h.2.1, fun k k0 kD => (h.2.2 k k0 kD).trans ⟨fun ⟨x, hx, hk⟩ => ⟨x, (e x).1 hx, hk⟩, fun ⟨x, hx, hk⟩ => ⟨x, (e x).2 hx, hk⟩⟩⟩
section
variable (n : Nat) (core : Nat → Bool) (hears : Nat → Nat → Bool)
/-- There is a way of at most m steps. -/
def Way : Nat → Nat → Prop
  | 0, i => core i = true
  | m + 1, i => core i = true ∨ ∃ k, k < n ∧ hears i k = true ∧ Way m k
theorem Way.ofCore {m i : Nat} (h : core i = true) : Way n core hears m i := by
  cases m with
  | zero => exact h
  | succ m => exact Or.inl h
theorem Way.more {m i : Nat} (h : Way n core hears m i) : Way n core hears (m + 1) i := by
  induction m generalizing i with
  | zero => exact Or.inl h
  | succ m ih =>
    rcases h with h | ⟨k, hk, hh, hw⟩
    · exact Or.inl h
    · exact Or.inr ⟨k, hk, hh, ih hw⟩
theorem Way.mono {m m' i : Nat} (hm : m ≤ m') (h : Way n core hears m i) : Way n core hears m' i := by
  induction hm with
  | refl => exact h
  | step _ ih => exact Way.more n core hears ih
/-- v has the steps of the shortest ways as far as b tells. -/
def Told (D : Nat) (b : Nat) (v : Nat → Int) : Prop := ∀ i, i < n → 0 ≤ v i ∧ v i ≤ D + 1 ∧ ∀ m : Nat, m < b → m ≤ D → (v i ≤ m ↔ Way n core hears m i)
/-- One beat. 'said i k': what k tells i. -/
theorem Told.beat {D b : Nat} {v u : Nat → Int} {l : Nat → List Int} (hb : b ≠ 0 → Told n core hears D b v)
    (hl : b ≠ 0 → ∀ i, i < n → ∀ x, x ∈ l i ↔ ∃ k, k < n ∧ hears i k = true ∧ x = v k)
    (hu : ∀ i, i < n → (core i = true → u i = 0) ∧ (core i = false → IsNext D (l i) (u i))) : Told n core hears D (b + 1) u := by
  intro i hi
  cases hc : core i with
  | true =>
    have := (hu i hi).1 hc
    exact ⟨by omega, by omega, fun m _ _ => ⟨fun _ => Way.ofCore n core hears hc, fun _ => by omega⟩⟩
  | false =>
    obtain ⟨h1, h2, h3⟩ := (hu i hi).2 hc
    refine ⟨by omega, h2, fun m hm hmD => ?_⟩
    cases m with
    | zero => exact ⟨fun h => by omega, fun h => by rw [show core i = true from h] at hc; cases hc⟩
    | succ m =>
      have hb0 : b ≠ 0 := by omega
      have hv := hb hb0
      have e := h3 (m : Int) (by omega) (by omega)
      rw [show ((m + 1 : Nat) : Int) = (m : Int) + 1 by omega, e]
      constructor
      · rintro ⟨x, hx, x0, xm⟩
        obtain ⟨k, hk, hh, rfl⟩ := (hl hb0 i hi x).1 hx
        exact Or.inr ⟨k, hk, hh, ((hv k hk).2.2 m (by omega) (by omega)).1 xm⟩
      · rintro (h | ⟨k, hk, hh, hw⟩)
        · rw [h] at hc; cases hc
        · exact ⟨v k, (hl hb0 i hi _).2 ⟨k, hk, hh, rfl⟩, (hv k hk).1, ((hv k hk).2.2 m (by omega) (by omega)).2 hw⟩
/-- Behind D + 1 beats: the shortest way's, if it has at most D steps, else D + 1. -/
theorem Told.done {D : Nat} {v : Nat → Int} (h : Told n core hears D (D + 1) v) {i d : Nat} (hi : i < n) (hw : Way n core hears d i) (hs : ∀ m, m < d → ¬ Way n core hears m i) : v i = if d ≤ D then (d : Int) else D + 1 := by
  obtain ⟨h0, h1, h2⟩ := h i hi
  split
  · rename_i hd
    have a := (h2 d (by omega) hd).2 hw
    cases d with
    | zero => simp at a ⊢; omega
    | succ d =>
      have b := mt (h2 d (by omega) (by omega)).1 (hs d (by omega))
      omega
  · have b := mt (h2 D (by omega) (by omega)).1 (hs D (by omega))
    omega
theorem Told.lost {D : Nat} {v : Nat → Int} (h : Told n core hears D (D + 1) v) {i : Nat} (hi : i < n) (hs : ¬ Way n core hears D i) : v i = D + 1 := by
  obtain ⟨h0, h1, h2⟩ := h i hi
  have b := mt (h2 D (by omega) (by omega)).1 hs
  omega
end
end Route
end Go.Proofs.YtmokofblmkeloaaGreatDoor

/- Plain mathematics of layer 15: whom to follow; how many steps. -/
namespace Go.Proofs.YtmokofblmkeloaaGreatDoor
namespace Route
/-- A message that may be followed. -/
def may (D : Int) (m : Msg) : Bool := decide (m.kind = 2 ∧ m.good = true ∧ 0 ≤ m.hops ∧ m.hops < D ∧ m.lo ≤ m.hi)
/-- How two numbers stand. -/
def c3 (x y : Int) : Int := if x < y then -1 else if y < x then 1 else 0
/-- How two messages stand. -/
def ord (a b : Msg) : Int := if c3 a.hops b.hops ≠ 0 then c3 a.hops b.hops else if c3 a.held b.held ≠ 0 then c3 a.held b.held else c3 a.frm b.frm
/-- One is to be followed rather than the other. -/
def lt3 (a b : Msg) : Prop := a.hops < b.hops ∨ a.hops = b.hops ∧ (a.held < b.held ∨ a.held = b.held ∧ a.frm < b.frm)
instance (a b : Msg) : Decidable (lt3 a b) := by unfold lt3; infer_instance
theorem ord_neg (a b : Msg) : ord a b < 0 ↔ lt3 a b := by
  unfold ord c3 lt3
  repeat' split
  all_goals omega
/-- Which of the first k is to be followed. -/
def pick (D : Int) (f : Nat → Msg) : Nat → Option Nat
  | 0 => none
  | k + 1 => match pick D f k with
    | none => if may D (f k) = true then some k else none
    | some j => if may D (f k) = true ∧ lt3 (f k) (f j) then some k else some j
section
variable {D : Int} {f g : Nat → Msg}
theorem pick_lt : ∀ {k j : Nat}, pick D f k = some j → j < k
  | 0, _, h => by simp [pick] at h
  | k + 1, j, h => by
    unfold pick at h
    split at h
    · split at h
      · cases h; omega
      · cases h
    · rename_i i hi
      have := pick_lt hi
      split at h <;> cases h <;> omega
theorem pick_may : ∀ {k j : Nat}, pick D f k = some j → may D (f j) = true
  | 0, _, h => by simp [pick] at h
  | k + 1, j, h => by
    unfold pick at h
    split at h
    · split at h
      · cases h; assumption
      · cases h
    · rename_i i hi
      have := pick_may hi
      split at h
      · cases h; rename_i hh; exact hh.1
      · cases h; exact this
theorem pick_none : ∀ {k : Nat}, pick D f k = none → ∀ i, i < k → may D (f i) = false
  | 0, _, i, hi => absurd hi (Nat.not_lt_zero i)
  | k + 1, h, i, hi => by
    unfold pick at h
    split at h
    · rename_i hn
      split at h
      · cases h
      · rename_i hm
        rcases Nat.lt_succ_iff_lt_or_eq.1 hi with g | g
        · exact pick_none hn i g
        · subst g; simpa using hm
    · split at h <;> cases h
theorem lt3_trans {a b c : Msg} (h : ¬ lt3 b a) (k : lt3 c a) : ¬ lt3 b c := by
  unfold lt3 at *
  omega
theorem pick_best : ∀ {k j : Nat}, pick D f k = some j → ∀ i, i < k → may D (f i) = true → ¬ lt3 (f i) (f j)
  | 0, _, h => by simp [pick] at h
  | k + 1, j, h => by
    intro i hi hm
    unfold pick at h
    split at h
    · rename_i hn
      split at h
      · cases h
        rcases Nat.lt_succ_iff_lt_or_eq.1 hi with g | g
        · rw [pick_none hn i g] at hm; cases hm
        · subst g; unfold lt3; omega
      · cases h
    · rename_i b hb
      split at h
      · cases h
        rename_i hh
        rcases Nat.lt_succ_iff_lt_or_eq.1 hi with g | g
        · exact lt3_trans (pick_best hb i g hm) hh.2
        · subst g; unfold lt3; omega
      · cases h
        rename_i hh
        rcases Nat.lt_succ_iff_lt_or_eq.1 hi with g | g
        · exact pick_best hb i g hm
        · subst g; exact fun q => hh ⟨hm, q⟩
/-- One more, that isn't taken. -/
theorem pick_pass {k : Nat} (h : may D (f k) = false ∨ ∃ j, pick D f k = some j ∧ ¬ lt3 (f k) (f j)) : pick D f (k + 1) = pick D f k := by
  conv => lhs; unfold pick
  rcases h with h | ⟨j, hj, hn⟩
  · split
    · rename_i e; rw [if_neg (by simp [h]), e]
    · rename_i j e; rw [if_neg (by simp [h]), e]
  · rw [hj]
    simp [hn]
/-- One more, that is taken. -/
theorem pick_take {k : Nat} (hm : may D (f k) = true) (h : pick D f k = none ∨ ∃ j, pick D f k = some j ∧ lt3 (f k) (f j)) : pick D f (k + 1) = some k := by
  conv => lhs; unfold pick
  rcases h with h | ⟨j, hj, hn⟩
  · rw [h]; simp [hm]
  · rw [hj]; simp [hn, hm]
end
/-- What Next answers. -/
def next (D : Int) (l : List Int) : Int := l.foldl (fun v x => if 0 ≤ x ∧ x < D then min v (x + 1) else v) (D + 1)
theorem next_snoc (D : Int) (l : List Int) (x : Int) : next D (l ++ [x]) = if 0 ≤ x ∧ x < D then min (next D l) (x + 1) else next D l := by
  unfold next
  rw [List.foldl_append]
  rfl
theorem next_nil (D : Int) : next D [] = D + 1 := rfl
theorem snoc_ind' {α : Type} {P : List α → Prop} (h0 : P []) (hs : ∀ l b, P l → P (l ++ [b])) (l : List α) : P l := by
  have : ∀ r : List α, P r.reverse := fun r => by
    induction r with
    | nil => exact h0
    | cons b r ih => rw [List.reverse_cons]; exact hs _ b ih
  have h := this l.reverse
  rwa [List.reverse_reverse] at h
theorem next_is {D : Int} (hD : 0 ≤ D) (l : List Int) : IsNext D l (next D l) := by
  induction l using snoc_ind' with
  | h0 => rw [next_nil]; exact ⟨by omega, by omega, fun m m0 mD => ⟨fun h => by omega, fun ⟨x, hx, _⟩ => by simp at hx⟩⟩
  | hs l x ih =>
    obtain ⟨h1, h2, h3⟩ := ih
    rw [next_snoc]
    refine ⟨?_, ?_, fun m m0 mD => ?_⟩
    · split <;> omega
    · split <;> omega
    · have key : (∃ y ∈ l ++ [x], 0 ≤ y ∧ y ≤ m) ↔ (∃ y ∈ l, 0 ≤ y ∧ y ≤ m) ∨ (0 ≤ x ∧ x ≤ m) := by
        constructor
        · rintro ⟨y, hy, h⟩
          rcases List.mem_append.1 hy with g | g
          · exact Or.inl ⟨y, g, h⟩
          · rw [List.mem_singleton.1 g] at h; exact Or.inr h
        · rintro (⟨y, hy, h⟩ | h)
          · exact ⟨y, List.mem_append_left _ hy, h⟩
          · exact ⟨x, by simp, h⟩
      rw [key, ← h3 m m0 mD]
      split <;> omega
theorem next_bd {D : Int} (hD : 0 ≤ D) (l : List Int) : 1 ≤ next D l ∧ next D l ≤ D + 1 := ⟨(next_is hD l).1, (next_is hD l).2.1⟩
end Route
end Go.Proofs.YtmokofblmkeloaaGreatDoor
