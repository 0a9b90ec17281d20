/- Plain mathematics of layer 18: counts and labels, leap seconds. It names no program. -/
import Derived.Test.YtbbkohpaebeidaaDoorM10
namespace Go.Proofs.YtbbkohpaebeidaaDoor
namespace Leap
/-- A good table behind a count a, with offset o. -/
def Chain (a o : Int) : List (Int × Int) → Prop
  | [] => True
  | e :: l => a ≤ e.1 ∧ (e.2 = o + 1 ∨ e.2 = o - 1) ∧ (e.1 - e.2) % 86400 = 0 ∧ Chain (e.1 + 86400) e.2 l
/-- The offset of a count. -/
def off (o : Int) (c : Int) : List (Int × Int) → Int
  | [] => o
  | e :: l => if e.1 ≤ c then off e.2 c l else off o c l
theorem off_snoc (o c : Int) (l : List (Int × Int)) (e : Int × Int) : off o c (l ++ [e]) = if e.1 ≤ c then e.2 else off o c l := by
  induction l generalizing o with
  | nil => by_cases h : e.1 ≤ c <;> simp [off, h]
  | cons x l ih =>
    rw [List.cons_append, off, off]
    by_cases h : x.1 ≤ c
    · rw [if_pos h, if_pos h, ih]
    · rw [if_neg h, if_neg h, ih]
theorem Chain.mono {a b o : Int} {l : List (Int × Int)} (h : Chain a o l) (hb : b ≤ a) : Chain b o l := by
  cases l with
  | nil => trivial
  | cons e l => exact ⟨by have := h.1; omega, h.2⟩
theorem Chain.ge {a o : Int} {l : List (Int × Int)} (h : Chain a o l) : ∀ e ∈ l, a ≤ e.1 := by
  induction l generalizing a o with
  | nil => intro e he; cases he
  | cons x l ih =>
    intro e he
    rcases List.mem_cons.1 he with rfl | g
    · exact h.1
    · have := ih h.2.2.2 e g; have := h.1; omega
theorem Chain.mod {a o : Int} {l : List (Int × Int)} (h : Chain a o l) : ∀ e ∈ l, (e.1 - e.2) % 86400 = 0 := by
  induction l generalizing a o with
  | nil => intro e he; cases he
  | cons x l ih =>
    intro e he
    rcases List.mem_cons.1 he with rfl | g
    · exact h.2.2.1
    · exact ih h.2.2.2 e g
/-- Entries stand a day from one another. -/
theorem Chain.apart {a o : Int} {l : List (Int × Int)} (h : Chain a o l) {x y : Int × Int} (hx : x ∈ l) (hy : y ∈ l) (hxy : x.1 ≤ y.1) (hd : y.1 < x.1 + 86400) : x = y := by
  induction l generalizing a o with
  | nil => cases hx
  | cons z l ih =>
    have hg := Chain.ge h.2.2.2
    rcases List.mem_cons.1 hx with rfl | gx
    · rcases List.mem_cons.1 hy with rfl | gy
      · rfl
      · have := hg y gy; omega
    · rcases List.mem_cons.1 hy with rfl | gy
      · have := hg x gx; omega
      · exact ih h.2.2.2 gx gy
theorem off_early {o c : Int} {l : List (Int × Int)} (h : ∀ e ∈ l, c < e.1) : off o c l = o := by
  induction l with
  | nil => rfl
  | cons x l ih => rw [off, if_neg (by have := h x List.mem_cons_self; omega), ih fun e he => h e (List.mem_cons_of_mem _ he)]
/-- No entry there: the offset stays. -/
theorem off_same {o c : Int} {l : List (Int × Int)} (h : ∀ e ∈ l, e.1 ≠ c + 1) : off o (c + 1) l = off o c l := by
  induction l generalizing o with
  | nil => rfl
  | cons x l ih =>
    have hx := h x List.mem_cons_self
    have hl := fun e he => h e (List.mem_cons_of_mem _ he)
    rw [off, off]
    by_cases c1 : x.1 ≤ c
    · rw [if_pos c1, if_pos (by omega), ih hl]
    · rw [if_neg c1, if_neg (by omega), ih hl]
/-- An entry there: the offset is that entry's, one more or one less than it was. -/
theorem Chain.off_at {a o c : Int} {l : List (Int × Int)} (h : Chain a o l) {e : Int × Int} (he : e ∈ l) (hc : e.1 = c + 1) : off o (c + 1) l = e.2 ∧ (e.2 = off o c l + 1 ∨ e.2 = off o c l - 1) := by
  induction l generalizing a o with
  | nil => cases he
  | cons x l ih =>
    have hg := Chain.ge h.2.2.2
    rw [off, off]
    rcases List.mem_cons.1 he with rfl | g
    · rw [if_pos (by omega), if_neg (by omega), off_early (fun y hy => by have := hg y hy; omega), off_early (fun y hy => by have := hg y hy; omega)]
      exact ⟨rfl, h.2.1⟩
    · have := hg e g
      rw [if_pos (by omega), if_pos (by omega)]
      exact ih h.2.2.2 g
/-- Is a count a second more? -/
def more (l : List (Int × Int)) (c : Int) : Bool := l.any fun e => decide (e.1 - 1 = c) && decide (off 0 c l < e.2)
theorem more_iff {l : List (Int × Int)} {c : Int} : more l c = true ↔ ∃ e ∈ l, e.1 = c + 1 ∧ off 0 c l < e.2 := by
  unfold more
  rw [List.any_eq_true]
  constructor
  · rintro ⟨e, he, h⟩
    simp at h
    exact ⟨e, he, by omega, h.2⟩
  · rintro ⟨e, he, h1, h2⟩
    exact ⟨e, he, by simp; omega⟩
/-- The day's number and its second, 86400: 23:59:60. -/
def lab (l : List (Int × Int)) (c : Int) : Int × Int := if more l c = true then ((c - 1 - off 0 (c - 1) l) / 86400, (c - 1 - off 0 (c - 1) l) % 86400 + 1) else ((c - off 0 c l) / 86400, (c - off 0 c l) % 86400)
/-- What labels rise by. -/
def key (s : Int × Int) : Int := 86401 * s.1 + s.2
theorem Chain.more_lab {a : Int} {l : List (Int × Int)} (h : Chain a 0 l) {c : Int} (hm : more l c = true) : ∃ q, c - off 0 c l = 86400 * q ∧ off 0 (c - 1) l = off 0 c l ∧ lab l c = (q - 1, 86400) ∧ more l (c - 1) = false ∧ off 0 (c + 1) l = off 0 c l + 1 ∧ c + 1 - off 0 (c + 1) l = 86400 * q := by
  obtain ⟨e, he, h1, h2⟩ := more_iff.1 hm
  obtain ⟨k1, k2⟩ := h.off_at he h1
  have k3 := h.mod e he
  have k4 : e.2 = off 0 c l + 1 := by omega
  have hno : ∀ x ∈ l, x.1 ≠ c := fun x hx hxc => by
    have := h.apart hx he (by omega) (by omega)
    subst this; omega
  have hs : off 0 (c - 1) l = off 0 c l := by
    have := off_same (o := 0) (c := c - 1) (l := l) (fun x hx => by have := hno x hx; omega)
    rw [show c - 1 + 1 = c by omega] at this
    exact this.symm
  have hmn : more l (c - 1) = false := by
    cases hb : more l (c - 1) with
    | false => rfl
    | true =>
      obtain ⟨x, hx, g1, _⟩ := more_iff.1 hb
      exact absurd (by omega) (hno x hx)
  refine ⟨(e.1 - e.2) / 86400, by omega, hs, ?_, hmn, by omega, by omega⟩
  unfold lab
  rw [if_pos hm, hs]
  have : c - 1 - off 0 c l = 86400 * ((e.1 - e.2) / 86400 - 1) + 86399 := by omega
  rw [this]
  refine Prod.ext ?_ ?_
  · show (86400 * ((e.1 - e.2) / 86400 - 1) + 86399) / 86400 = (e.1 - e.2) / 86400 - 1; omega
  · show (86400 * ((e.1 - e.2) / 86400 - 1) + 86399) % 86400 + 1 = 86400; omega
theorem lab_plain {l : List (Int × Int)} {c : Int} (h : more l c = false) : lab l c = ((c - off 0 c l) / 86400, (c - off 0 c l) % 86400) := by unfold lab; rw [h]; rfl
/-- A later count has a later label. -/
theorem Chain.rises {a : Int} {l : List (Int × Int)} (h : Chain a 0 l) (c : Int) : key (lab l c) < key (lab l (c + 1)) := by
  by_cases hx : ∃ e ∈ l, e.1 = c + 1
  · obtain ⟨e, he, h1⟩ := hx
    obtain ⟨k1, k2⟩ := h.off_at he h1
    have k3 := h.mod e he
    have hno : more l (c + 1) = false := by
      cases hb : more l (c + 1) with
      | false => rfl
      | true =>
        obtain ⟨x, hx, g1, g2⟩ := more_iff.1 hb
        have := h.apart he hx (by omega) (by omega)
        subst this; omega
    rw [lab_plain hno, k1]
    by_cases hm : more l c = true
    · obtain ⟨q, m1, m2, m3, m4, m5, m6⟩ := h.more_lab hm
      rw [m3]
      unfold key
      rw [k1] at m6
      rw [m6]
      simp only
      omega
    · have hm' : more l c = false := by simpa using hm
      rw [lab_plain hm']
      have : e.2 = off 0 c l - 1 := by
        rcases k2 with g | g
        · exact absurd (more_iff.2 ⟨e, he, h1, by omega⟩) hm
        · exact g
      unfold key
      simp only
      omega
  · have hno : ∀ e ∈ l, e.1 ≠ c + 1 := fun e he g => hx ⟨e, he, g⟩
    have hs := off_same (o := 0) hno
    have hm : more l c = false := by
      cases hb : more l c with
      | false => rfl
      | true => obtain ⟨x, hx, g1, _⟩ := more_iff.1 hb; exact absurd g1 (hno x hx)
    rw [lab_plain hm]
    by_cases hm1 : more l (c + 1) = true
    · obtain ⟨q, m1, m2, m3, -, -, -⟩ := h.more_lab hm1
      rw [m3]
      rw [hs] at m1
      unfold key
      simp only
      omega
    · rw [lab_plain (by simpa using hm1), hs]
      unfold key
      simp only
      omega
theorem Chain.rise {a : Int} {l : List (Int × Int)} (h : Chain a 0 l) {c d : Int} (hcd : c < d) : key (lab l c) < key (lab l d) := by
  obtain ⟨n, rfl⟩ : ∃ n : Nat, d = c + 1 + n := ⟨(d - c - 1).toNat, by omega⟩
  clear hcd
  induction n with
  | zero => exact (by simpa using h.rises c)
  | succ n ih =>
    have := h.rises (c + 1 + n)
    rw [show c + 1 + ((n + 1 : Nat) : Int) = c + 1 + n + 1 by omega]
    omega
theorem Chain.one {a : Int} {l : List (Int × Int)} (h : Chain a 0 l) {c d : Int} (e : lab l c = lab l d) : c = d := by
  rcases Int.lt_trichotomy c d with g | g | g
  · have := h.rise g; rw [e] at this; omega
  · exact g
  · have := h.rise g; rw [e] at this; omega
/-- The second is one of the day's, or the 86401st. -/
theorem Chain.lab_bd {a : Int} {l : List (Int × Int)} (h : Chain a 0 l) (c : Int) : 0 ≤ (lab l c).2 ∧ (lab l c).2 ≤ 86400 := by
  by_cases hm : more l c = true
  · obtain ⟨q, -, -, m3, -⟩ := h.more_lab hm
    rw [m3]; simp
  · rw [lab_plain (by simpa using hm)]
    simp only
    omega
theorem key_lt {s t : Int × Int} (hs : 0 ≤ s.2 ∧ s.2 ≤ 86400) (ht : 0 ≤ t.2 ∧ t.2 ≤ 86400) : key s < key t ↔ s.1 < t.1 ∨ s.1 = t.1 ∧ s.2 < t.2 := by
  unfold key; omega
theorem key_eq {s t : Int × Int} (hs : 0 ≤ s.2 ∧ s.2 ≤ 86400) (ht : 0 ≤ t.2 ∧ t.2 ≤ 86400) (h : key s = key t) : s = t := by
  unfold key at h; exact Prod.ext (by omega) (by omega)
/-- Halving: what is found is the first that isn't below, if there is one in the stretch. -/
def halve (p : Int → Bool) : Nat → Int → Int → Int
  | 0, lo, _ => lo
  | n + 1, lo, hi => if lo < hi then (if p ((lo + hi) / 2) = true then halve p n ((lo + hi) / 2 + 1) hi else halve p n lo ((lo + hi) / 2)) else lo
theorem halve_found (p : Int → Bool) (hp : ∀ x y, x ≤ y → p y = true → p x = true) : ∀ (n : Nat) (lo hi : Int), lo ≤ hi → hi - lo < 2 ^ n → lo ≤ halve p n lo hi ∧ halve p n lo hi ≤ hi ∧ (∀ x, lo ≤ x → x < halve p n lo hi → p x = true) ∧ (halve p n lo hi < hi → p (halve p n lo hi) = false) := by
  intro n
  induction n with
  | zero =>
    intro lo hi h1 h2
    have h3 : hi - lo < 1 := by simpa using h2
    exact ⟨Int.le_refl _, h1, fun x a b => absurd b (by show ¬ x < lo; omega), fun g => absurd g (by show ¬ lo < hi; omega)⟩
  | succ n ih =>
    intro lo hi h1 h2
    have e2 : (2 : Int) ^ (n + 1) = 2 * 2 ^ n := by rw [Int.pow_succ]; omega
    unfold halve
    by_cases h : lo < hi
    · rw [if_pos h]
      by_cases hm : p ((lo + hi) / 2) = true
      · rw [if_pos hm]
        obtain ⟨a1, a2, a3, a4⟩ := ih ((lo + hi) / 2 + 1) hi (by omega) (by omega)
        refine ⟨by omega, a2, fun x hx hx2 => ?_, a4⟩
        by_cases g : x ≤ (lo + hi) / 2
        · exact hp _ _ g hm
        · exact a3 x (by omega) hx2
      · rw [if_neg hm]
        obtain ⟨a1, a2, a3, a4⟩ := ih lo ((lo + hi) / 2) (by omega) (by omega)
        refine ⟨a1, by omega, a3, fun hx => ?_⟩
        by_cases g : halve p n lo ((lo + hi) / 2) < (lo + hi) / 2
        · exact a4 g
        · have : halve p n lo ((lo + hi) / 2) = (lo + hi) / 2 := by omega
          rw [this]; simpa using hm
    · rw [if_neg h]
      exact ⟨Int.le_refl _, h1, fun x hx hx2 => by omega, fun hx => absurd hx h⟩
end Leap
end Go.Proofs.YtbbkohpaebeidaaDoor
