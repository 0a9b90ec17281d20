/- Plain mathematics of layer 9: which timers of a list have gone off. It names no program. -/
import Derived.Test.YtfankcoomfmjlaaM22
namespace Go.Proofs.Ytfankcoomfmjlaa
namespace Alarm
/-- In the table are those of the timers of the list l that haven't gone off. -/
def Left (l : List Int) (off : Nat → Bool) (L : List Tm) : Prop := Good L ∧ ∀ x, x ∈ L ↔ ∃ (i : Nat) (h : i < l.length), x = ⟨i, l[i]⟩ ∧ off i = false
theorem left_start (l : List Int) : Left l (fun i => decide (0 ≤ i)) [] := ⟨Good.nil, fun x => by simp⟩
theorem left_has {l : List Int} {k : Nat} {L : List Tm} (h : Left l (fun i => decide (k ≤ i)) L) : has k L = false := by
  rw [Bool.eq_false_iff]
  intro hh
  obtain ⟨x, hx, hi⟩ := has_iff.1 hh
  obtain ⟨i, hil, rfl, ho⟩ := (h.2 x).1 hx
  simp at hi ho
  omega
theorem left_set {l : List Int} {k : Nat} (hk : k < l.length) {L L' : List Tm} (h : Left l (fun i => decide (k ≤ i)) L) (hG : Good L') (hp : L'.Perm (⟨k, l[k]⟩ :: drop k L)) : Left l (fun i => decide (k + 1 ≤ i)) L' := by
  rw [drop_none (left_has h)] at hp
  refine ⟨hG, fun x => ?_⟩
  rw [hp.mem_iff, List.mem_cons]
  constructor
  · rintro (rfl | hx)
    · exact ⟨k, hk, rfl, by simp⟩
    · obtain ⟨i, hil, e, ho⟩ := (h.2 x).1 hx
      exact ⟨i, hil, e, by simp at ho ⊢; omega⟩
  · rintro ⟨i, hil, e, ho⟩
    by_cases e2 : i = k
    · subst e2; exact .inl e
    · exact .inr ((h.2 x).2 ⟨i, hil, e, by simp at ho ⊢; omega⟩)
theorem left_all {l : List Int} {L : List Tm} (h : Left l (fun i => decide (l.length ≤ i)) L) : Left l (fun _ => false) L := ⟨h.1, fun x => by
  rw [h.2]
  constructor
  · rintro ⟨i, hil, e, _⟩; exact ⟨i, hil, e, rfl⟩
  · rintro ⟨i, hil, e, _⟩; exact ⟨i, hil, e, by simp; omega⟩⟩
theorem left_at {l : List Int} {off : Nat → Bool} {L : List Tm} (h : Left l off L) {k : Nat} (hk : k < L.length) : ∃ (i : Nat) (hi : i < l.length), L[k] = ⟨i, l[i]⟩ ∧ off i = false := (h.2 _).1 (List.getElem_mem hk)
/-- Behind the first k of a table have gone off. -/
def offK (off : Nat → Bool) (L : List Tm) (k : Nat) : Nat → Bool := fun i => off i || has i (L.take k)
theorem offK_zero (off : Nat → Bool) (L : List Tm) : offK off L 0 = off := by funext i; simp [offK, has]
theorem offK_succ {off : Nat → Bool} {L : List Tm} {k i : Nat} {t : Int} (hk : k < L.length) (hx : L[k] = ⟨i, t⟩) : offK off L (k + 1) = fun j => offK off L k j || decide (j = i) := by
  funext j
  unfold offK
  rw [List.take_succ_eq_append_getElem hk, has_append, hx]
  have e : has (j : Int) [(⟨i, t⟩ : Tm)] = decide (j = i) := by
    rw [Bool.eq_iff_iff, has_iff]
    simp
    omega
  rw [e, Bool.or_assoc]
theorem offK_not {off : Nat → Bool} {L : List Tm} (hG : Good L) {k i : Nat} {t : Int} (hk : k < L.length) (hx : L[k] = ⟨i, t⟩) (ho : off i = false) : offK off L k i = false := by
  unfold offK
  rw [ho, Bool.false_or, Bool.eq_false_iff]
  intro hh
  obtain ⟨y, hy, hi⟩ := has_iff.1 hh
  obtain ⟨j, hj, rfl⟩ := List.mem_iff_getElem.1 hy
  simp only [List.length_take] at hj
  rw [List.getElem_take] at hi
  exact hG.id_at hk (show j < k by omega) (by rw [hi, hx])
theorem left_due {l : List Int} {off : Nat → Bool} {L : List Tm} (h : Left l off L) {now : Int} {i : Nat} (hi : i < l.length) (hn : l[i] ≤ now) : offK off L (cut now L) i = true := by
  unfold offK
  cases ho : off i with
  | true => rfl
  | false =>
    rw [Bool.false_or, has_iff]
    obtain ⟨j, hj, e⟩ := List.mem_iff_getElem.1 ((h.2 ⟨i, l[i]⟩).2 ⟨i, hi, rfl, ho⟩)
    have hjc : j < cut now L := by
      rcases Nat.lt_or_ge j (cut now L) with h1 | h1
      · exact h1
      · have := cut_rest h.1 hj h1
        rw [e] at this
        simp only at this
        omega
    exact ⟨L[j], by rw [List.mem_take_iff_getElem]; exact ⟨j, by omega, rfl⟩, by rw [e]⟩
theorem left_next {l : List Int} {off : Nat → Bool} {L : List Tm} (h : Left l off L) (k : Nat) : Left l (offK off L k) (L.drop k) := by
  refine ⟨h.1.skip k, fun x => ?_⟩
  constructor
  · intro hx
    obtain ⟨i, hi, e, ho⟩ := (h.2 x).1 (List.mem_of_mem_drop hx)
    obtain ⟨j, hj, ej⟩ := List.mem_iff_getElem.1 hx
    simp only [List.length_drop] at hj
    rw [List.getElem_drop] at ej
    have h1 := offK_not h.1 (k := k + j) (i := i) (t := l[i]) (by omega) (ej.trans e) ho
    refine ⟨i, hi, e, ?_⟩
    unfold offK at h1 ⊢
    rw [ho, Bool.false_or, Bool.eq_false_iff] at h1 ⊢
    intro hh
    obtain ⟨y, hy, hyi⟩ := has_iff.1 hh
    exact h1 (has_iff.2 ⟨y, (List.take_sublist_take_left (Nat.le_add_right k j)).subset hy, hyi⟩)
  · rintro ⟨i, hi, e, ho⟩
    unfold offK at ho
    rw [Bool.or_eq_false_iff] at ho
    have hx := (h.2 x).2 ⟨i, hi, e, ho.1⟩
    rw [← List.take_append_drop k L, List.mem_append] at hx
    rcases hx with hx | hx
    · have h2 := has_iff.2 ⟨x, hx, show x.id = (i : Int) by rw [e]⟩
      rw [h2] at ho
      exact absurd ho.2 (by decide)
    · exact hx
/-- How many of the first k haven't gone off. -/
def cnt (off : Nat → Bool) (k : Nat) : Nat := (List.range k).countP fun i => !off i
theorem cnt_zero (off : Nat → Bool) : cnt off 0 = 0 := rfl
theorem cnt_succ (off : Nat → Bool) (k : Nat) : cnt off (k + 1) = cnt off k + if off k then 0 else 1 := by
  unfold cnt
  rw [List.range_succ, List.countP_append]
  cases h : off k <;> simp [h]
theorem cnt_le (off : Nat → Bool) (k : Nat) : cnt off k ≤ k := by
  unfold cnt
  have := List.countP_le_length (p := fun i => !off i) (l := List.range k)
  rwa [List.length_range] at this
theorem left_len {l : List Int} {off : Nat → Bool} {L : List Tm} (h : Left l off L) : L.length = cnt off l.length := by
  have hp : (L.map Tm.id).Perm (((List.range l.length).filter fun i => !off i).map fun i : Nat => (i : Int)) := by
    rw [List.perm_ext_iff_of_nodup h.1.apart]
    · intro z
      rw [List.mem_map, List.mem_map]
      constructor
      · rintro ⟨x, hx, rfl⟩
        obtain ⟨i, hi, rfl, ho⟩ := (h.2 x).1 hx
        exact ⟨i, by simp [hi, ho], rfl⟩
      · rintro ⟨i, hi, rfl⟩
        simp at hi
        exact ⟨⟨i, l[i]'hi.1⟩, (h.2 _).2 ⟨i, hi.1, rfl, hi.2⟩, rfl⟩
    · unfold List.Nodup
      rw [List.pairwise_map]
      refine List.Pairwise.imp (R := fun a b => a ≠ b) (fun hab => by omega) ?_
      exact (List.nodup_range.filter _)
  have := hp.length_eq
  rw [List.length_map, List.length_map] at this
  rw [this]
  unfold cnt
  rw [List.countP_eq_length_filter]
end Alarm
end Go.Proofs.Ytfankcoomfmjlaa
