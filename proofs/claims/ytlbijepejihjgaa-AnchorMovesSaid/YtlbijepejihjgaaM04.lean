/- Plain mathematics of layer 3: what is in all spans, the least span around some. -/
import Derived.Test.YtlbijepejihjgaaM01
namespace Go.Proofs.Ytlbijepejihjgaa
namespace Span
def mLo (l : List (Int × Int)) : Int := l.foldl (fun m s => max m s.1) (-2305843009213693952)
def mHi (l : List (Int × Int)) : Int := l.foldl (fun m s => min m s.2) 2305843009213693952
def hLo (l : List (Int × Int)) : Int := l.foldl (fun m s => if s.2 < s.1 then m else min m s.1) 2305843009213693952
def hHi (l : List (Int × Int)) : Int := l.foldl (fun m s => if s.2 < s.1 then m else max m s.2) (-2305843009213693952)
theorem mLo_snoc (l : List (Int × Int)) (s : Int × Int) : mLo (l ++ [s]) = max (mLo l) s.1 := by simp [mLo]
theorem mHi_snoc (l : List (Int × Int)) (s : Int × Int) : mHi (l ++ [s]) = min (mHi l) s.2 := by simp [mHi]
theorem hLo_snoc (l : List (Int × Int)) (s : Int × Int) : hLo (l ++ [s]) = if s.2 < s.1 then hLo l else min (hLo l) s.1 := by simp [hLo]
theorem hHi_snoc (l : List (Int × Int)) (s : Int × Int) : hHi (l ++ [s]) = if s.2 < s.1 then hHi l else max (hHi l) s.2 := by simp [hHi]
theorem snoc_ind {p : List (Int × Int) → Prop} (h0 : p []) (h1 : ∀ l s, p l → p (l ++ [s])) (l : List (Int × Int)) : p l := by
  have : ∀ n (l : List (Int × Int)), l.length = n → p l := by
    intro n
    induction n with
    | zero => intro l hl; rw [List.length_eq_zero_iff] at hl; subst hl; exact h0
    | succ n ih =>
      intro l hl
      rcases List.eq_nil_or_concat l with rfl | ⟨l', s, rfl⟩
      · simp at hl
      · rw [List.concat_eq_append] at hl ⊢; exact h1 l' s (ih l' (by simpa using hl))
  exact this _ l rfl
theorem mLo_ge (l : List (Int × Int)) : -2305843009213693952 ≤ mLo l := by
  induction l using snoc_ind with
  | h0 => decide
  | h1 l s ih => rw [mLo_snoc]; omega
theorem mHi_le (l : List (Int × Int)) : mHi l ≤ 2305843009213693952 := by
  induction l using snoc_ind with
  | h0 => decide
  | h1 l s ih => rw [mHi_snoc]; omega
theorem hLo_le (l : List (Int × Int)) : hLo l ≤ 2305843009213693952 := by
  induction l using snoc_ind with
  | h0 => decide
  | h1 l s ih => rw [hLo_snoc]; split <;> omega
theorem hHi_ge (l : List (Int × Int)) : -2305843009213693952 ≤ hHi l := by
  induction l using snoc_ind with
  | h0 => decide
  | h1 l s ih => rw [hHi_snoc]; split <;> omega
theorem mLo_iff (l : List (Int × Int)) (x : Int) : mLo l ≤ x ↔ -2305843009213693952 ≤ x ∧ ∀ s ∈ l, s.1 ≤ x := by
  induction l using snoc_ind with
  | h0 => simp [mLo]
  | h1 l s ih =>
    rw [mLo_snoc, Int.max_le, ih]
    constructor
    · rintro ⟨⟨h1, h2⟩, h3⟩
      exact ⟨h1, fun t ht => (List.mem_append.1 ht).elim (h2 t) (fun h => by rw [List.mem_singleton.1 h]; exact h3)⟩
    · rintro ⟨h1, h2⟩
      exact ⟨⟨h1, fun t ht => h2 t (by simp [ht])⟩, h2 s (by simp)⟩
theorem mHi_iff (l : List (Int × Int)) (x : Int) : x ≤ mHi l ↔ x ≤ 2305843009213693952 ∧ ∀ s ∈ l, x ≤ s.2 := by
  induction l using snoc_ind with
  | h0 => simp [mHi]
  | h1 l s ih =>
    rw [mHi_snoc, Int.le_min, ih]
    constructor
    · rintro ⟨⟨h1, h2⟩, h3⟩
      exact ⟨h1, fun t ht => (List.mem_append.1 ht).elim (h2 t) (fun h => by rw [List.mem_singleton.1 h]; exact h3)⟩
    · rintro ⟨h1, h2⟩
      exact ⟨⟨h1, fun t ht => h2 t (by simp [ht])⟩, h2 s (by simp)⟩
theorem hLo_iff (l : List (Int × Int)) (x : Int) : x ≤ hLo l ↔ x ≤ 2305843009213693952 ∧ ∀ s ∈ l, s.1 ≤ s.2 → x ≤ s.1 := by
  induction l using snoc_ind with
  | h0 => simp [hLo]
  | h1 l s ih =>
    rw [hLo_snoc]
    constructor
    · intro h
      have h' : x ≤ hLo l := by split at h <;> omega
      obtain ⟨h1, h2⟩ := ih.1 h'
      exact ⟨h1, fun t ht => (List.mem_append.1 ht).elim (h2 t) (fun ht hs => by rw [List.mem_singleton.1 ht] at hs ⊢; rw [if_neg (by omega)] at h; omega)⟩
    · rintro ⟨h1, h2⟩
      have h3 := ih.2 ⟨h1, fun t ht => h2 t (by simp [ht])⟩
      have h4 := h2 s (by simp)
      split <;> omega
theorem hHi_iff (l : List (Int × Int)) (x : Int) : hHi l ≤ x ↔ -2305843009213693952 ≤ x ∧ ∀ s ∈ l, s.1 ≤ s.2 → s.2 ≤ x := by
  induction l using snoc_ind with
  | h0 => simp [hHi]
  | h1 l s ih =>
    rw [hHi_snoc]
    constructor
    · intro h
      have h' : hHi l ≤ x := by split at h <;> omega
      obtain ⟨h1, h2⟩ := ih.1 h'
      exact ⟨h1, fun t ht => (List.mem_append.1 ht).elim (h2 t) (fun ht hs => by rw [List.mem_singleton.1 ht] at hs ⊢; rw [if_neg (by omega)] at h; omega)⟩
    · rintro ⟨h1, h2⟩
      have h3 := ih.2 ⟨h1, fun t ht => h2 t (by simp [ht])⟩
      have h4 := h2 s (by simp)
      split <;> omega
/-- These hang on what stands in the list alone. -/
theorem same {l k : List (Int × Int)} (h : ∀ s, s ∈ l ↔ s ∈ k) : mLo l = mLo k ∧ mHi l = mHi k ∧ hLo l = hLo k ∧ hHi l = hHi k := by
  refine ⟨Int.le_antisymm ?_ ?_, Int.le_antisymm ?_ ?_, Int.le_antisymm ?_ ?_, Int.le_antisymm ?_ ?_⟩
  · exact (mLo_iff l _).2 ⟨mLo_ge k, fun s hs => ((mLo_iff k _).1 (Int.le_refl _)).2 s ((h s).1 hs)⟩
  · exact (mLo_iff k _).2 ⟨mLo_ge l, fun s hs => ((mLo_iff l _).1 (Int.le_refl _)).2 s ((h s).2 hs)⟩
  · exact (mHi_iff k _).2 ⟨mHi_le l, fun s hs => ((mHi_iff l _).1 (Int.le_refl _)).2 s ((h s).2 hs)⟩
  · exact (mHi_iff l _).2 ⟨mHi_le k, fun s hs => ((mHi_iff k _).1 (Int.le_refl _)).2 s ((h s).1 hs)⟩
  · exact (hLo_iff k _).2 ⟨hLo_le l, fun s hs => ((hLo_iff l _).1 (Int.le_refl _)).2 s ((h s).2 hs)⟩
  · exact (hLo_iff l _).2 ⟨hLo_le k, fun s hs => ((hLo_iff k _).1 (Int.le_refl _)).2 s ((h s).1 hs)⟩
  · exact (hHi_iff l _).2 ⟨hHi_ge k, fun s hs => ((hHi_iff k _).1 (Int.le_refl _)).2 s ((h s).1 hs)⟩
  · exact (hHi_iff k _).2 ⟨hHi_ge l, fun s hs => ((hHi_iff l _).1 (Int.le_refl _)).2 s ((h s).2 hs)⟩
/-- Clipped as it goes, or at the end: it is one. -/
theorem clip_max (m x : Int) : Sat.clip (max (Sat.clip m) x) = Sat.clip (max m x) := by unfold Sat.clip; repeat' split
                                                                                        all_goals omega
theorem clip_min (m x : Int) : Sat.clip (min (Sat.clip m) x) = Sat.clip (min m x) := by unfold Sat.clip; repeat' split
                                                                                        all_goals omega
theorem half_even {n : Int} (h : n % 2 = 0) : n.tmod 2 = 0 ∧ n.tdiv 2 = n / 2 := by
  obtain ⟨k, rfl⟩ : ∃ k, n = 2 * k := ⟨n / 2, by omega⟩
  exact ⟨Int.mul_tmod_right 2 k, by rw [Int.mul_tdiv_cancel_left _ (by decide)]; omega⟩
theorem half_odd {n : Int} (h : ¬ n % 2 = 0) : n.tmod 2 ≠ 0 ∧ (n - 1).tdiv 2 = n / 2 := by
  refine ⟨fun h0 => ?_, (half_even (n := n - 1) (by omega)).2.trans (by omega)⟩
  have := Int.dvd_of_tmod_eq_zero h0
  omega
end Span
end Go.Proofs.Ytlbijepejihjgaa
