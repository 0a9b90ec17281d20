/- Plain mathematics of layer 9: timers by rising times, and then numbers. It names no program. -/
import Derived.Test.YtfankcoomfmjlaaW18
namespace Go.Proofs.Ytfankcoomfmjlaa
/-- A timer: its number, and the time at which it goes off. -/
structure Tm where
  id : Int
  t : Int
namespace Alarm
def lt (x y : Tm) : Prop := x.t < y.t ∨ x.t = y.t ∧ x.id < y.id
theorem lt_irrefl (x : Tm) : ¬ lt x x := fun h => by unfold lt at h; omega
theorem lt_asymm {x y : Tm} (h : lt x y) : ¬ lt y x := fun k => by unfold lt at h k; omega
theorem lt_trans {x y z : Tm} (h : lt x y) (k : lt y z) : lt x z := by unfold lt at *; omega
theorem lt_of_not {x y : Tm} (h : ¬ lt x y) (hi : x.id ≠ y.id) : lt y x := by unfold lt at *; omega
theorem not_lt_t {x y : Tm} (h : ¬ lt x y) : y.t ≤ x.t := by unfold lt at h; omega
theorem lt_t {x y : Tm} (h : lt x y) : x.t ≤ y.t := by unfold lt at h; omega
/-- Timers as they stand in a table. -/
structure Good (L : List Tm) : Prop where
  rise : L.Pairwise lt
  apart : (L.map Tm.id).Nodup
  few : L.length ≤ 64
theorem Good.nil : Good [] := ⟨List.Pairwise.nil, by simp, by simp⟩
def has (i : Int) (L : List Tm) : Bool := L.any fun x => decide (x.id = i)
def drop (i : Int) (L : List Tm) : List Tm := L.filter fun x => decide (x.id ≠ i)
def dropE (i : Int) (L : List Tm) : Int := if has i L then 0 else 9
def setE (i : Int) (L : List Tm) : Int := if has i L = false ∧ L.length = 64 then 7 else 0
theorem has_iff {i : Int} {L : List Tm} : has i L = true ↔ ∃ x ∈ L, x.id = i := by simp [has]
theorem has_perm {i : Int} {L M : List Tm} (h : L.Perm M) : has i L = has i M := by
  rw [Bool.eq_iff_iff, has_iff, has_iff]
  exact ⟨fun ⟨x, a, b⟩ => ⟨x, h.mem_iff.1 a, b⟩, fun ⟨x, a, b⟩ => ⟨x, h.mem_iff.2 a, b⟩⟩
theorem drop_perm {i : Int} {L M : List Tm} (h : L.Perm M) : (drop i L).Perm (drop i M) := h.filter _
theorem drop_le (i : Int) (L : List Tm) : (drop i L).length ≤ L.length := List.length_filter_le _ _
theorem drop_has (i : Int) (L : List Tm) : has i (drop i L) = false := by
  rw [Bool.eq_false_iff]
  intro h
  obtain ⟨x, hx, hi⟩ := has_iff.1 h
  have := (List.mem_filter.1 hx).2
  simp at this
  exact this hi
theorem drop_other {i j : Int} (L : List Tm) (h : has j L = false) : has j (drop i L) = false := by
  rw [Bool.eq_false_iff] at h ⊢
  intro k
  obtain ⟨x, hx, hi⟩ := has_iff.1 k
  exact h (has_iff.2 ⟨x, (List.mem_filter.1 hx).1, hi⟩)
theorem drop_none {i : Int} {L : List Tm} (h : has i L = false) : drop i L = L := by
  unfold drop
  rw [List.filter_eq_self]
  intro x hx
  rw [Bool.eq_false_iff] at h
  exact decide_eq_true fun e => h (has_iff.2 ⟨x, hx, e⟩)
theorem has_none {i : Int} {L : List Tm} (h : ∀ k (hk : k < L.length), L[k].id ≠ i) : has i L = false := by
  rw [Bool.eq_false_iff]
  intro hh
  obtain ⟨x, hx, hi⟩ := has_iff.1 hh
  obtain ⟨k, hk, rfl⟩ := List.mem_iff_getElem.1 hx
  exact h k hk hi
theorem has_at {i : Int} {L : List Tm} {k : Nat} (hk : k < L.length) (h : L[k].id = i) : has i L = true := has_iff.2 ⟨_, List.getElem_mem hk, h⟩
theorem has_cons (i : Int) (x : Tm) (L : List Tm) : has i (x :: L) = (decide (x.id = i) || has i L) := rfl
theorem drop_cons (i : Int) (x : Tm) (L : List Tm) : drop i (x :: L) = if x.id = i then drop i L else x :: drop i L := by
  unfold drop
  rw [List.filter_cons]
  by_cases h : x.id = i <;> simp [h]
theorem drop_append (i : Int) (L M : List Tm) : drop i (L ++ M) = drop i L ++ drop i M := List.filter_append ..
theorem has_append (i : Int) (L M : List Tm) : has i (L ++ M) = (has i L || has i M) := List.any_append
theorem drop_at {i : Int} : ∀ {L : List Tm} {k : Nat} (hk : k < L.length), (L.map Tm.id).Nodup → L[k].id = i → drop i L = L.take k ++ L.drop (k + 1)
  | [], _, hk, _, _ => absurd hk (Nat.not_lt_zero _)
  | x :: L, 0, _, hn, h => by
    simp only [List.getElem_cons_zero] at h
    rw [drop_cons, if_pos h]
    simp only [List.take_zero, List.nil_append, Nat.zero_add, List.drop_succ_cons, List.drop_zero]
    refine drop_none ?_
    rw [Bool.eq_false_iff]
    intro hh
    obtain ⟨y, hy, hi⟩ := has_iff.1 hh
    rw [List.map_cons, List.nodup_cons] at hn
    exact hn.1 (List.mem_map.2 ⟨y, hy, by rw [hi, h]⟩)
  | x :: L, k + 1, hk, hn, h => by
    rw [List.map_cons, List.nodup_cons] at hn
    simp only [List.length_cons] at hk
    have hk' : k < L.length := by omega
    simp only [List.getElem_cons_succ] at h
    have hx : x.id ≠ i := fun e => hn.1 (List.mem_map.2 ⟨L[k], List.getElem_mem hk', by rw [h, e]⟩)
    rw [drop_cons, if_neg hx, drop_at hk' hn.2 h]
    simp
namespace Good
variable {L : List Tm}
theorem sub {M : List Tm} (h : Good L) (hs : M.Sublist L) : Good M := ⟨h.rise.sublist hs, h.apart.sublist (hs.map _), Nat.le_trans hs.length_le h.few⟩
theorem drop (h : Good L) (i : Int) : Good (Alarm.drop i L) := h.sub List.filter_sublist
theorem skip (h : Good L) (k : Nat) : Good (L.drop k) := h.sub (List.drop_sublist k L)
theorem lt_at (h : Good L) {j k : Nat} (hk : k < L.length) (hj : j < k) : lt (L[j]'(by omega)) L[k] := (List.pairwise_iff_getElem.1 h.rise) j k (by omega) hk hj
theorem id_at (h : Good L) {j k : Nat} (hk : k < L.length) (hj : j < k) : (L[j]'(by omega)).id ≠ L[k].id := by
  have := (List.pairwise_iff_getElem.1 h.apart) j k (by simp; omega) (by simpa using hk) hj
  simpa using this
/-- Two tables of the same timers are the same. -/
theorem same {M : List Tm} (h : Good L) (k : Good M) (e : L.Perm M) : L = M :=
  e.eq_of_pairwise (fun _ _ _ _ hx hy => absurd hy (lt_asymm hx)) h.rise k.rise
/-- One timer more, in its place. -/
theorem ins (h : Good L) {x : Tm} {i : Nat} (hi : i ≤ L.length) (hlt : ∀ j (hj : j < L.length), j < i → lt L[j] x) (hge : ∀ j (hj : j < L.length), i ≤ j → ¬ lt L[j] x) (hx : has x.id L = false) (hl : L.length < 64) :
    Good (L.take i ++ x :: L.drop i) ∧ (L.take i ++ x :: L.drop i).Perm (x :: L) := by
  have hp : (L.take i ++ x :: L.drop i).Perm (x :: L) := by
    have := (List.perm_middle (a := x) (l₁ := L.take i) (l₂ := L.drop i))
    rwa [List.take_append_drop] at this
  have hid : ∀ y ∈ L, y.id ≠ x.id := fun y hy e => by
    rw [Bool.eq_false_iff] at hx
    exact hx (has_iff.2 ⟨y, hy, e⟩)
  refine ⟨⟨?_, ?_, ?_⟩, hp⟩
  · rw [List.pairwise_append, List.pairwise_cons]
    refine ⟨h.rise.sublist (List.take_sublist _ _), ⟨fun y hy => ?_, h.rise.sublist (List.drop_sublist _ _)⟩, fun y hy z hz => ?_⟩
    · obtain ⟨j, hj, rfl⟩ := List.mem_iff_getElem.1 hy
      simp only [List.length_drop] at hj
      rw [List.getElem_drop]
      exact lt_of_not (hge (i + j) (by omega) (by omega)) (hid _ (List.getElem_mem _))
    · obtain ⟨j, hj, rfl⟩ := List.mem_iff_getElem.1 hy
      simp only [List.length_take] at hj
      rw [List.getElem_take]
      have h1 := hlt j (by omega) (by omega)
      rcases List.mem_cons.1 hz with rfl | hz
      · exact h1
      · obtain ⟨m, hm, rfl⟩ := List.mem_iff_getElem.1 hz
        simp only [List.length_drop] at hm
        rw [List.getElem_drop]
        exact h.lt_at (by omega) (by omega)
  · refine (hp.map Tm.id).nodup_iff.2 ?_
    rw [List.map_cons, List.nodup_cons]
    refine ⟨fun hm => ?_, h.apart⟩
    obtain ⟨y, hy, e⟩ := List.mem_map.1 hm
    exact hid y hy e
  · rw [hp.length_eq, List.length_cons]; omega
end Good
/-- How many go off up to a time. -/
def cut (now : Int) (L : List Tm) : Nat := (L.takeWhile fun x => decide (x.t ≤ now)).length
theorem cut_le (now : Int) (L : List Tm) : cut now L ≤ L.length := (List.takeWhile_sublist _).length_le
theorem cut_nil (now : Int) : cut now [] = 0 := rfl
theorem cut_cons (now : Int) (x : Tm) (L : List Tm) : cut now (x :: L) = if x.t ≤ now then cut now L + 1 else 0 := by
  unfold cut
  rw [List.takeWhile_cons]
  by_cases h : x.t ≤ now <;> simp [h]
theorem cut_unique {now : Int} : ∀ {L : List Tm} {k : Nat}, k ≤ L.length → (∀ j (hj : j < L.length), j < k → L[j].t ≤ now) → (∀ hk : k < L.length, now < L[k].t) → cut now L = k
  | [], k, h, _, _ => by simp at h; subst h; rfl
  | x :: L, 0, _, _, h2 => by
    have := h2 (by simp)
    simp only [List.getElem_cons_zero] at this
    rw [cut_cons, if_neg (by omega)]
  | x :: L, k + 1, h, h1, h2 => by
    have hx := h1 0 (by simp) (by omega)
    simp only [List.getElem_cons_zero] at hx
    rw [cut_cons, if_pos hx, cut_unique (L := L) (k := k) (by simpa using h) (fun j hj hk => h1 (j + 1) (by simp; omega) (by omega)) (fun hk => h2 (by simp; omega))]
theorem cut_pre {now : Int} : ∀ {L : List Tm} {j : Nat} (hj : j < L.length), j < cut now L → L[j].t ≤ now
  | [], _, h, _ => absurd h (Nat.not_lt_zero _)
  | x :: L, 0, _, h => by
    rw [cut_cons] at h
    by_cases e : x.t ≤ now
    · exact e
    · rw [if_neg e] at h; omega
  | x :: L, j + 1, hj, h => by
    rw [cut_cons] at h
    by_cases e : x.t ≤ now
    · rw [if_pos e] at h
      exact cut_pre (L := L) (j := j) (by simp at hj; omega) (by omega)
    · rw [if_neg e] at h; omega
theorem cut_end {now : Int} : ∀ {L : List Tm} (h : cut now L < L.length), now < L[cut now L].t
  | [], h => absurd h (Nat.not_lt_zero _)
  | x :: L, h => by
    by_cases e : x.t ≤ now
    · have c : cut now (x :: L) = cut now L + 1 := by rw [cut_cons, if_pos e]
      simp only [c, List.getElem_cons_succ]
      exact cut_end (by simp only [c, List.length_cons] at h; omega)
    · have c : cut now (x :: L) = 0 := by rw [cut_cons, if_neg e]
      simp only [c, List.getElem_cons_zero]
      omega
theorem cut_rest {now : Int} {L : List Tm} (h : Good L) {j : Nat} (hj : j < L.length) (hc : cut now L ≤ j) : now < L[j].t := by
  have h1 := cut_end (now := now) (L := L) (by omega)
  rcases Nat.lt_or_eq_of_le hc with h2 | h2
  · have := lt_t (h.lt_at hj h2); omega
  · simp only [← h2]; exact h1
/-- The first one of many, in whatever order they stand. -/
theorem first_is {L M : List Tm} {x : Tm} (h : Good (x :: L)) (hp : M.Perm (x :: L)) {b : Nat} (hb : b < M.length) (hf : ∀ j (hj : j < M.length), ¬ lt M[j] M[b]) : M[b] = x := by
  have hm : M[b] ∈ x :: L := hp.mem_iff.1 (List.getElem_mem hb)
  rcases List.mem_cons.1 hm with e | e
  · exact e
  · obtain ⟨j, hj, ej⟩ := List.mem_iff_getElem.1 (hp.mem_iff.2 (List.mem_cons_self (a := x) (l := L)))
    have := hf j hj
    rw [ej] at this
    exact absurd ((List.pairwise_cons.1 h.rise).1 _ e) this
theorem drop_first {L M : List Tm} {x : Tm} (h : Good (x :: L)) (hp : M.Perm (x :: L)) : (drop x.id M).Perm L := by
  have h1 := drop_perm (i := x.id) hp
  have h2 := drop_at (i := x.id) (L := x :: L) (k := 0) (by simp) h.apart rfl
  rw [h2] at h1
  simpa using h1
end Alarm
end Go.Proofs.Ytfankcoomfmjlaa
