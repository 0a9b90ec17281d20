/- Plain mathematics of layer 18, more: where an entry stands in a table, what a label is, how labels stand, what a label's count is. It names no program. -/
import Derived.Test.YtbbkohpaebeidaaDoorM11
import Derived.Test.YtbbkohpaebeidaaDoorM15
import Derived.Test.YtbbkohpaebeidaaDoorM33
namespace Go.Proofs.YtbbkohpaebeidaaDoor
namespace Leap
/-- How many entries stand ahead of the first one behind a count. -/
def gone (c : Int) (l : List (Int × Int)) : Nat := l.findIdx fun e => decide (c < e.1)
theorem gone_nil (c : Int) : gone c [] = 0 := rfl
theorem gone_cons (c : Int) (e : Int × Int) (l : List (Int × Int)) : gone c (e :: l) = if c < e.1 then 0 else gone c l + 1 := by
  unfold gone
  rw [List.findIdx_cons]
  by_cases h : c < e.1
  · simp [h]
  · simp [h]
theorem gone_le (c : Int) (l : List (Int × Int)) : gone c l ≤ l.length := List.findIdx_le_length
theorem gone_at {c : Int} {l : List (Int × Int)} (h : gone c l < l.length) : c < (l[gone c l]).1 := by
  have := List.findIdx_getElem (xs := l) (p := fun e => decide (c < e.1)) (w := (show List.findIdx (fun e => decide (c < e.1)) l < l.length from h))
  simpa [gone] using this
/-- The offset, as the program finds it. -/
def ofs (o c : Int) (l : List (Int × Int)) : Int := match gone c l with
  | 0 => o
  | k + 1 => match l[k]? with
    | some e => e.2
    | none => o
theorem Chain.ofs {a o c : Int} {l : List (Int × Int)} (h : Chain a o l) : ofs o c l = off o c l := by
  induction l generalizing a o with
  | nil => rfl
  | cons e l ih =>
    rw [off]
    by_cases g : e.1 ≤ c
    · rw [if_pos g, ← ih h.2.2.2]
      unfold Leap.ofs
      rw [gone_cons, if_neg (by omega)]
      have hle := gone_le c l
      generalize gone c l = n at hle
      cases n with
      | zero => rfl
      | succ n =>
        simp only [List.getElem?_cons_succ]
        rw [List.getElem?_eq_getElem (by omega)]
    · rw [if_neg g, off_early (fun x hx => by have := h.2.2.2.ge x hx; omega)]
      unfold Leap.ofs
      rw [gone_cons, if_pos (by omega)]
/-- A second more, as the program finds it. -/
def mor (c : Int) (l : List (Int × Int)) : Bool := match l[gone c l]? with
  | some e => decide (e.1 = c + 1) && decide (ofs 0 c l < e.2)
  | none => false
theorem Chain.next_at {a o c : Int} {l : List (Int × Int)} (h : Chain a o l) {e : Int × Int} (he : e ∈ l) (hc : e.1 = c + 1) : l[gone c l]? = some e := by
  induction l generalizing a o with
  | nil => cases he
  | cons x l ih =>
    rw [gone_cons]
    rcases List.mem_cons.1 he with rfl | g
    · rw [if_pos (by omega)]; rfl
    · have := h.2.2.2.ge e g
      rw [if_neg (by omega), List.getElem?_cons_succ]
      exact ih h.2.2.2 g
theorem Chain.mor {a c : Int} {l : List (Int × Int)} (h : Chain a 0 l) : mor c l = more l c := by
  rw [Bool.eq_iff_iff, more_iff]
  unfold Leap.mor
  rw [h.ofs]
  constructor
  · intro g
    cases hx : l[gone c l]? with
    | none => rw [hx] at g; cases g
    | some e =>
      rw [hx] at g
      simp at g
      exact ⟨e, List.mem_of_getElem? hx, g.1, g.2⟩
  · rintro ⟨e, he, h1, h2⟩
    rw [h.next_at he h1]
    simp [h1, h2]
/-- The day's number and what is left, by which a label is made: m is 1 of a second more. -/
def mint (c : Int) (l : List (Int × Int)) : Int := if more l c = true then 1 else 0
theorem mint_bd (c : Int) (l : List (Int × Int)) : 0 ≤ mint c l ∧ mint c l ≤ 1 := by unfold mint; split <;> omega
theorem Chain.lab_eq {a : Int} {l : List (Int × Int)} (h : Chain a 0 l) (c : Int) : lab l c = ((c - mint c l - off 0 c l) / 86400, (c - mint c l - off 0 c l) % 86400 + mint c l) ∧ (mint c l = 1 → (c - mint c l - off 0 c l) % 86400 = 86399) := by
  unfold mint
  by_cases hm : more l c = true
  · obtain ⟨q, m1, m2, m3, -, -, -⟩ := h.more_lab hm
    rw [if_pos hm, m3]
    refine ⟨Prod.ext ?_ ?_, fun _ => ?_⟩
    · show q - 1 = (c - 1 - off 0 c l) / 86400; omega
    · show 86400 = (c - 1 - off 0 c l) % 86400 + 1; omega
    · omega
  · rw [if_neg hm, lab_plain (by simpa using hm)]
    refine ⟨Prod.ext ?_ ?_, fun h => absurd h (by decide)⟩
    · show (c - off 0 c l) / 86400 = (c - 0 - off 0 c l) / 86400; rw [Int.sub_zero]
    · show (c - off 0 c l) % 86400 = (c - 0 - off 0 c l) % 86400 + 0; rw [Int.sub_zero, Int.add_zero]
/-- A label: six numbers. -/
structure Lb where
  y : Int
  m : Int
  d : Int
  h : Int
  i : Int
  s : Int
  deriving DecidableEq
theorem Lb.ext_iff' (a b : Lb) : a = b ↔ a.y = b.y ∧ a.m = b.m ∧ a.d = b.d ∧ a.h = b.h ∧ a.i = b.i ∧ a.s = b.s := by
  cases a; cases b; simp
/-- Is a label earlier? -/
def bef (a b : Lb) : Bool := decide (a.y < b.y ∨ a.y = b.y ∧ (a.m < b.m ∨ a.m = b.m ∧ (a.d < b.d ∨ a.d = b.d ∧ (a.h < b.h ∨ a.h = b.h ∧ (a.i < b.i ∨ a.i = b.i ∧ a.s < b.s)))))
theorem bef_trans {a b c : Lb} (h : bef a b = true) (k : bef b c = true) : bef a c = true := by
  unfold bef at *
  rw [decide_eq_true_eq] at *
  omega
theorem bef_irrefl (a : Lb) : bef a a = false := by unfold bef; rw [decide_eq_false_iff_not]; omega
/-- The day of a number. -/
noncomputable def date (n : Int) : Int × Int × Int := (Classical.choose (Civil.is_some n), Classical.choose (Classical.choose_spec (Civil.is_some n)), Classical.choose (Classical.choose_spec (Classical.choose_spec (Civil.is_some n))))
theorem date_is (n : Int) : Civil.Is n (date n).1 (date n).2.1 (date n).2.2 := Classical.choose_spec (Classical.choose_spec (Classical.choose_spec (Civil.is_some n)))
theorem date_one {n y m d : Int} (h : Civil.Is n y m d) : date n = (y, m, d) := by
  obtain ⟨a, b, c⟩ := (date_is n).day h
  exact Prod.ext a (Prod.ext b c)
theorem is_lt {n y m d n' y' m' d' : Int} (h : Civil.Is n y m d) (g : Civil.Is n' y' m' d') (hn : n < n') : y < y' ∨ y = y' ∧ (m < m' ∨ m = m' ∧ d < d') := by
  have h1 := h.year
  have g1 := g.year
  obtain ⟨a, b, c⟩ := h
  obtain ⟨a', b', c'⟩ := g
  rcases Int.lt_trichotomy y y' with k | k | k
  · exact .inl k
  · subst k
    refine .inr ⟨rfl, ?_⟩
    rcases Int.lt_trichotomy m m' with k | k | k
    · exact .inl k
    · subst k; exact .inr ⟨rfl, by omega⟩
    · have := Civil.ahead_mono y (m := m') (k := m) (by omega) k (by omega); omega
  · have := Civil.first_mono (y := y' + 1) (z := y) (by omega); omega
/-- The hour, the minute, the second of a day's second; of the 86401st: 23:59:60. -/
def hour (s : Int) : Int := if s = 86400 then 23 else s / 3600
def minute (s : Int) : Int := if s = 86400 then 59 else s % 3600 / 60
def second (s : Int) : Int := if s = 86400 then 60 else s % 60
theorem tod_lt {s t : Int} (_h : 0 ≤ s) (hst : s < t) (ht : t ≤ 86400) : hour s < hour t ∨ hour s = hour t ∧ (minute s < minute t ∨ minute s = minute t ∧ second s < second t) := by
  unfold hour minute second
  simp only [if_neg (show ¬ s = 86400 by omega)]
  by_cases g : t = 86400
  · simp only [if_pos g]; omega
  · simp only [if_neg g]; omega
theorem tod_sum {s : Int} (h : 0 ≤ s) (ht : s ≤ 86400) : 3600 * hour s + 60 * minute s + second s = s ∧ (0 ≤ hour s ∧ hour s ≤ 23) ∧ (0 ≤ minute s ∧ minute s ≤ 59) ∧ 0 ≤ second s ∧ second s ≤ 60 := by
  unfold hour minute second
  by_cases g : s = 86400
  · simp only [if_pos g]; omega
  · simp only [if_neg g]
    exact ⟨by omega, ⟨by omega, by omega⟩, ⟨by omega, by omega⟩, by omega, by omega⟩
/-- The label of a day's number and its second. -/
noncomputable def mk (s : Int × Int) : Lb := ⟨(date s.1).1, (date s.1).2.1, (date s.1).2.2, hour s.2, minute s.2, second s.2⟩
theorem mk_lt {s t : Int × Int} (hs : 0 ≤ s.2 ∧ s.2 ≤ 86400) (ht : 0 ≤ t.2 ∧ t.2 ≤ 86400) (h : key s < key t) : bef (mk s) (mk t) = true := by
  rw [key_lt hs ht] at h
  unfold bef mk
  rw [decide_eq_true_eq]
  rcases h with h | ⟨h1, h2⟩
  · have := is_lt (date_is s.1) (date_is t.1) h
    simp only; omega
  · have := tod_lt hs.1 h2 ht.2
    rw [h1]; simp only [Int.lt_irrefl, true_and, false_or]; exact this
theorem mk_one {s t : Int × Int} (hs : 0 ≤ s.2 ∧ s.2 ≤ 86400) (ht : 0 ≤ t.2 ∧ t.2 ≤ 86400) (h : mk s = mk t) : s = t := by
  refine key_eq hs ht ?_
  rcases Int.lt_trichotomy (key s) (key t) with g | g | g
  · have := mk_lt hs ht g; rw [h, bef_irrefl] at this; cases this
  · exact g
  · have := mk_lt ht hs g; rw [h, bef_irrefl] at this; cases this
/-- The label of a count. -/
noncomputable def lbl (l : List (Int × Int)) (c : Int) : Lb := mk (lab l c)
theorem Chain.lbl_rise {a : Int} {l : List (Int × Int)} (h : Chain a 0 l) {c d : Int} (hcd : c < d) : bef (lbl l c) (lbl l d) = true := mk_lt (h.lab_bd c) (h.lab_bd d) (h.rise hcd)
theorem Chain.lbl_one {a : Int} {l : List (Int × Int)} (h : Chain a 0 l) {c d : Int} (e : lbl l c = lbl l d) : c = d := h.one (mk_one (h.lab_bd c) (h.lab_bd d) e)
theorem Chain.bef_iff {a : Int} {l : List (Int × Int)} (h : Chain a 0 l) (c d : Int) : bef (lbl l c) (lbl l d) = true ↔ c < d := by
  refine ⟨fun g => ?_, h.lbl_rise⟩
  rcases Int.lt_trichotomy c d with k | k | k
  · exact k
  · subst k; rw [bef_irrefl] at g; cases g
  · have := bef_trans g (h.lbl_rise k); rw [bef_irrefl] at this; cases this
/-- The offset is 0 or an entry's. -/
theorem off_some (o c : Int) (l : List (Int × Int)) : off o c l = o ∨ ∃ e ∈ l, off o c l = e.2 := by
  induction l generalizing o with
  | nil => exact .inl rfl
  | cons x l ih =>
    rw [off]
    by_cases h : x.1 ≤ c
    · rw [if_pos h]
      rcases ih x.2 with g | ⟨e, he, g⟩
      · exact .inr ⟨x, List.mem_cons_self, g⟩
      · exact .inr ⟨e, List.mem_cons_of_mem _ he, g⟩
    · rw [if_neg h]
      rcases ih o with g | ⟨e, he, g⟩
      · exact .inl g
      · exact .inr ⟨e, List.mem_cons_of_mem _ he, g⟩
theorem off_bd {o c : Int} {l : List (Int × Int)} {b : Int} (ho : -b ≤ o ∧ o ≤ b) (h : ∀ e ∈ l, -b ≤ e.2 ∧ e.2 ≤ b) : -b ≤ off o c l ∧ off o c l ≤ b := by
  rcases off_some o c l with g | ⟨e, he, g⟩
  · rw [g]; exact ho
  · rw [g]; exact h e he
/-- A good table: a leap table whose leaps are at the ends of days. -/
def good (l : List (Int × Int)) : Bool := Wire.tab l && l.all fun e => decide ((e.1 - e.2) % 86400 = 0)
theorem chain_of {a o : Int} {l : List (Int × Int)} (h : Wire.tabFrom a o l = true) (g : ∀ e ∈ l, (e.1 - e.2) % 86400 = 0) : Chain a o l := by
  induction l generalizing a o with
  | nil => trivial
  | cons e l ih =>
    simp only [Wire.tabFrom, Bool.and_eq_true, decide_eq_true_eq] at h
    exact ⟨h.1.1, h.1.2.2.2.2, g e List.mem_cons_self, ih h.2 fun x hx => g x (List.mem_cons_of_mem _ hx)⟩
theorem tab_bd {l : List (Int × Int)} (h : Wire.tab l = true) : l.length ≤ 32 ∧ ∀ e ∈ l, (0 ≤ e.1 ∧ e.1 ≤ 1099511627776) ∧ -32 ≤ e.2 ∧ e.2 ≤ 32 := by
  unfold Wire.tab at h
  rw [Bool.and_eq_true, decide_eq_true_eq] at h
  exact ⟨h.1, Wire.tabFrom_bd l 0 0 (by omega) h.2⟩
theorem good_chain {l : List (Int × Int)} (h : good l = true) : Chain 0 0 l := by
  unfold good Wire.tab at h
  simp only [Bool.and_eq_true, decide_eq_true_eq] at h
  exact chain_of h.1.2 fun e he => by simpa using List.all_eq_true.1 h.2 e he
theorem good_tab {l : List (Int × Int)} (h : good l = true) : Wire.tab l = true := by
  unfold good at h; rw [Bool.and_eq_true] at h; exact h.1
theorem good_off {l : List (Int × Int)} (h : good l = true) (c : Int) : -32 ≤ off 0 c l ∧ off 0 c l ≤ 32 :=
  off_bd (by omega) fun e he => ((tab_bd (good_tab h)).2 e he).2
/-- The counts there are. -/
def cnt (c : Int) : Prop := -4398046511104 ≤ c ∧ c ≤ 4398046511104
instance (c : Int) : Decidable (cnt c) := inferInstanceAs (Decidable (_ ∧ _))
/-- The number of a count's day. -/
theorem lab_inn {l : List (Int × Int)} (h : good l = true) {c : Int} (h1 : -4398046511105 ≤ c) (h2 : c ≤ 4398046511105) : Civil.inn (lab l c).1 := by
  have hb := good_off h c
  have hm := mint_bd c l
  obtain ⟨e, -⟩ := (good_chain h).lab_eq c
  rw [e]
  unfold Civil.inn
  simp only
  omega
/-- What a label's numbers make, but for the offset: the count. -/
theorem lbl_sum {l : List (Int × Int)} (h : good l = true) (c : Int) : 86400 * (lab l c).1 + 3600 * (lbl l c).h + 60 * (lbl l c).i + (lbl l c).s = c - off 0 c l := by
  obtain ⟨e, -⟩ := (good_chain h).lab_eq c
  have hb := (good_chain h).lab_bd c
  have ht := tod_sum hb.1 hb.2
  show 86400 * (lab l c).1 + 3600 * hour (lab l c).2 + 60 * minute (lab l c).2 + second (lab l c).2 = _
  rw [show 86400 * (lab l c).1 + 3600 * hour (lab l c).2 + 60 * minute (lab l c).2 + second (lab l c).2 = 86400 * (lab l c).1 + (lab l c).2 by omega, e]
  simp only
  omega
theorem lbl_bd {l : List (Int × Int)} (h : good l = true) (c : Int) : (0 ≤ (lbl l c).h ∧ (lbl l c).h ≤ 23) ∧ (0 ≤ (lbl l c).i ∧ (lbl l c).i ≤ 59) ∧ 0 ≤ (lbl l c).s ∧ (lbl l c).s ≤ 60 := by
  have hb := (good_chain h).lab_bd c
  exact (tod_sum hb.1 hb.2).2
theorem lbl_is (l : List (Int × Int)) (c : Int) : Civil.Is (lab l c).1 (lbl l c).y (lbl l c).m (lbl l c).d := date_is _
/-- The offsets that counts may have. -/
def offs (l : List (Int × Int)) : List Int := 0 :: l.map (·.2)
theorem off_mem (c : Int) (l : List (Int × Int)) : off 0 c l ∈ offs l := by
  unfold offs
  rcases off_some 0 c l with g | ⟨e, he, g⟩
  · rw [g]; exact List.mem_cons_self
  · rw [g]; exact List.mem_cons_of_mem _ (List.mem_map.2 ⟨e, he, rfl⟩)
/-- A count found by halving, if there is one of that label. -/
def find (_l : List (Int × Int)) (_L : Lb) (p : Int → Bool) : Int := halve p 50 (-4398046511104) 4398046511104
theorem find_is {l : List (Int × Int)} (h : good l = true) {L : Lb} {p : Int → Bool} (hp : ∀ c, p c = bef (lbl l c) L) {c : Int} (hc : cnt c) (hL : lbl l c = L) : find l L p = c := by
  have hm : ∀ x y, x ≤ y → p y = true → p x = true := fun x y hxy hy => by
    rw [hp] at hy ⊢
    rcases Int.lt_or_eq_of_le hxy with g | g
    · exact bef_trans ((good_chain h).lbl_rise g) hy
    · rw [g]; exact hy
  obtain ⟨a1, a2, a3, a4⟩ := halve_found p hm 50 (-4398046511104) 4398046511104 (by omega) (by omega)
  obtain ⟨c1, c2⟩ := hc
  unfold find
  generalize halve p 50 (-4398046511104) 4398046511104 = R at *
  rcases Int.lt_trichotomy R c with g | g | g
  · have g1 := a4 (by omega)
    have g2 := (good_chain h).lbl_rise g
    rw [hp, ← hL, g2] at g1; cases g1
  · exact g
  · have g1 := a3 c c1 g
    rw [hp, hL, bef_irrefl] at g1; cases g1
theorem find_in {l : List (Int × Int)} (L : Lb) (p : Int → Bool) (hm : ∀ x y, x ≤ y → p y = true → p x = true) : cnt (find l L p) := by
  obtain ⟨a1, a2, -, -⟩ := halve_found p hm 50 (-4398046511104) 4398046511104 (by omega) (by omega)
  exact ⟨a1, a2⟩
/-- Where no leap is near, the next label is a second later. -/
theorem lbl_next {l : List (Int × Int)} (h : good l = true) {c : Int} (hs : (lbl l c).s < 58) : (lbl l (c + 1)).s = (lbl l c).s + 1 ∧ (lbl l (c + 1)).i = (lbl l c).i ∧ (lbl l (c + 1)).d = (lbl l c).d := by
  have H := good_chain h
  obtain ⟨e1, e2⟩ := H.lab_eq c
  have hb := H.lab_bd c
  have hm : more l c = false := by
    cases hx : more l c with
    | false => rfl
    | true =>
      obtain ⟨q, -, -, m3, -⟩ := H.more_lab hx
      have : (lbl l c).s = 60 := by show second (lab l c).2 = 60; rw [m3]; rfl
      omega
  have hlab := lab_plain hm
  obtain ⟨q, hq⟩ : ∃ q, (c - off 0 c l) / 86400 = q := ⟨_, rfl⟩
  obtain ⟨r, hr⟩ : ∃ r, (c - off 0 c l) % 86400 = r := ⟨_, rfl⟩
  rw [hq, hr] at hlab
  have hrb : 0 ≤ r ∧ r < 86400 := by omega
  have hs2 : r % 60 < 58 := by
    have : (lbl l c).s = r % 60 := by show second (lab l c).2 = _; rw [hlab]; unfold second; rw [if_neg (by simp only; omega)]
    omega
  have hno : ∀ e ∈ l, e.1 ≠ c + 1 := fun e he hec => by
    obtain ⟨k1, k2⟩ := H.off_at he hec
    have k3 := H.mod e he
    rcases k2 with g | g
    · have := more_iff.2 ⟨e, he, hec, by omega⟩
      rw [hm] at this; cases this
    · omega
  have ho := off_same (o := 0) hno
  have hm1 : more l (c + 1) = false := by
    cases hx : more l (c + 1) with
    | false => rfl
    | true =>
      obtain ⟨q', m1, -, -, -⟩ := H.more_lab hx
      rw [ho] at m1
      omega
  have hlab1 := lab_plain hm1
  rw [ho, show (c + 1 - off 0 c l) / 86400 = q by omega, show (c + 1 - off 0 c l) % 86400 = r + 1 by omega] at hlab1
  unfold lbl mk
  rw [hlab, hlab1]
  simp only
  refine ⟨?_, ?_, trivial⟩
  · unfold second; rw [if_neg (by omega), if_neg (by omega)]; omega
  · unfold minute; rw [if_neg (by omega), if_neg (by omega)]; omega
/-- Around a leap: an entry's At is a day's first second; ahead of it 59 and 60, or 57 and 58. -/
theorem lbl_leap {l : List (Int × Int)} (h : good l = true) {e : Int × Int} (he : e ∈ l) :
    ((lbl l e.1).h = 0 ∧ (lbl l e.1).i = 0 ∧ (lbl l e.1).s = 0) ∧ ((lbl l (e.1 - 1)).h = 23 ∧ (lbl l (e.1 - 1)).i = 59 ∧ (lbl l (e.1 - 2)).i = 59 ∧ (lbl l (e.1 - 2)).d = (lbl l (e.1 - 1)).d) ∧
    (off 0 (e.1 - 1) l < e.2 → (lbl l (e.1 - 2)).s = 59 ∧ (lbl l (e.1 - 1)).s = 60) ∧
    (¬ off 0 (e.1 - 1) l < e.2 → (lbl l (e.1 - 2)).s = 57 ∧ (lbl l (e.1 - 1)).s = 58 ∧ ∀ c, lbl l c ≠ { lbl l (e.1 - 1) with s := 59 }) := by
  have H := good_chain h
  have hec : e.1 = e.1 - 1 + 1 := by omega
  obtain ⟨k1, k2⟩ := H.off_at he hec
  rw [← hec] at k1
  have k3 := H.mod e he
  have hno : ∀ c, e.1 - 86400 < c → c < e.1 + 86400 → c ≠ e.1 → ∀ x ∈ l, x.1 ≠ c := fun c h1 h2 h3 x hx hxc => by
    rcases Int.lt_or_le x.1 e.1 with g | g
    · have := H.apart hx he (by omega) (by omega); subst this; omega
    · have := H.apart he hx (by omega) (by omega); subst this; omega
  have hnm : ∀ c, e.1 - 86400 < c + 1 → c + 1 < e.1 + 86400 → c + 1 ≠ e.1 → more l c = false := fun c h1 h2 h3 => by
    cases hx : more l c with
    | false => rfl
    | true => obtain ⟨x, hx, g1, _⟩ := more_iff.1 hx; exact absurd g1 (hno _ h1 h2 h3 x hx)
  have o2 := off_same (o := 0) (c := e.1 - 2) (l := l) (by rw [show e.1 - 2 + 1 = e.1 - 1 by omega]; exact hno _ (by omega) (by omega) (by omega))
  rw [show e.1 - 2 + 1 = e.1 - 1 by omega] at o2
  have l0 := lab_plain (hnm e.1 (by omega) (by omega) (by omega))
  have l2 := lab_plain (hnm (e.1 - 2) (by omega) (by omega) (by omega))
  obtain ⟨q, hq⟩ : ∃ q, (e.1 - e.2) / 86400 = q := ⟨_, rfl⟩
  have hq2 : e.1 - e.2 = 86400 * q := by omega
  have L0 : lab l e.1 = (q, 0) := by rw [l0, k1]; exact Prod.ext hq k3
  have hle : ∀ q r, lab l (e.1 - 2) = (q, r) → lbl l (e.1 - 2) = mk (q, r) := fun q r h => by unfold lbl; rw [h]
  rcases k2 with k2 | k2
  · have hm : more l (e.1 - 1) = true := more_iff.2 ⟨e, he, by omega, by omega⟩
    obtain ⟨q', m1, -, m3, -⟩ := H.more_lab hm
    have e' : q' = q := by omega
    subst e'
    have L2 : lab l (e.1 - 2) = (q' - 1, 86399) := by
      rw [l2, ← o2]
      refine Prod.ext ?_ ?_
      · show (e.1 - 2 - off 0 (e.1 - 1) l) / 86400 = q' - 1; omega
      · show (e.1 - 2 - off 0 (e.1 - 1) l) % 86400 = 86399; omega
    unfold lbl
    rw [L0, m3, L2]
    refine ⟨⟨by show hour 0 = 0; decide, by show minute 0 = 0; decide, by show second 0 = 0; decide⟩, ⟨by show hour 86400 = 23; decide, by show minute 86400 = 59; decide, by show minute 86399 = 59; decide, rfl⟩, fun _ => ⟨by show second 86399 = 59; decide, by show second 86400 = 60; decide⟩, fun g => absurd (by omega) g⟩
  · have l1 := lab_plain (show more l (e.1 - 1) = false by
      cases hx : more l (e.1 - 1) with
      | false => rfl
      | true =>
        obtain ⟨x, hx, g1, g2⟩ := more_iff.1 hx
        have := H.apart he hx (by omega) (by omega)
        subst this; omega)
    have L1 : lab l (e.1 - 1) = (q - 1, 86398) := by
      rw [l1]
      refine Prod.ext ?_ ?_
      · show (e.1 - 1 - off 0 (e.1 - 1) l) / 86400 = q - 1; omega
      · show (e.1 - 1 - off 0 (e.1 - 1) l) % 86400 = 86398; omega
    have L2 : lab l (e.1 - 2) = (q - 1, 86397) := by
      rw [l2, ← o2]
      refine Prod.ext ?_ ?_
      · show (e.1 - 2 - off 0 (e.1 - 1) l) / 86400 = q - 1; omega
      · show (e.1 - 2 - off 0 (e.1 - 1) l) % 86400 = 86397; omega
    refine ⟨?_, ?_, fun g => absurd g (by omega), fun _ => ⟨?_, ?_, fun c hc => ?_⟩⟩
    · unfold lbl; rw [L0]; exact ⟨by show hour 0 = 0; decide, by show minute 0 = 0; decide, by show second 0 = 0; decide⟩
    · unfold lbl; rw [L1, L2]; exact ⟨by show hour 86398 = 23; decide, by show minute 86398 = 59; decide, by show minute 86397 = 59; decide, rfl⟩
    · unfold lbl; rw [L2]; show second 86397 = 57; decide
    · unfold lbl; rw [L1]; show second 86398 = 58; decide
    · have hx : mk (lab l c) = mk (q - 1, 86399) := by
        show lbl l c = _
        rw [hc]
        unfold lbl
        rw [L1]
        rfl
      have hy := mk_one (H.lab_bd c) (by simp) hx
      have r1 := H.rise (c := e.1 - 1) (d := e.1) (by omega)
      rcases Int.lt_or_le (e.1 - 1) c with g | g
      · rcases Int.lt_or_le c e.1 with g2 | g2
        · omega
        · rcases Int.lt_or_eq_of_le g2 with g3 | g3
          · have := H.rise g3; rw [hy, L0] at this; unfold key at this; simp only at this; omega
          · subst g3; rw [hy] at L0; have : (86399 : Int) = 0 := congrArg Prod.snd L0; omega
      · rcases Int.lt_or_eq_of_le g with g3 | g3
        · have := H.rise g3; rw [hy, L1] at this; unfold key at this; simp only at this; omega
        · subst g3; rw [hy] at L1; have : (86399 : Int) = 86398 := congrArg Prod.snd L1; omega
/-- An entry more, behind all others, changes no label ahead of it. -/
theorem lbl_snoc {l : List (Int × Int)} {e : Int × Int} {c : Int} (h : c < e.1 - 1) : lbl (l ++ [e]) c = lbl l c := by
  have ho : ∀ x, x < e.1 → off 0 x (l ++ [e]) = off 0 x l := fun x hx => by rw [off_snoc, if_neg (by omega)]
  have hm : more (l ++ [e]) c = more l c := by
    unfold more
    rw [ho c (by omega), List.any_append]
    simp only [List.any_cons, List.any_nil, Bool.or_false]
    rw [decide_eq_false (show ¬ e.1 - 1 = c by omega)]
    simp
  unfold lbl lab
  rw [hm, ho c (by omega), ho (c - 1) (by omega)]
end Leap
end Go.Proofs.YtbbkohpaebeidaaDoor
