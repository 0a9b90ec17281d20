/- Plain mathematics of layer 8: what waits, as one list: which lists there can be; what the calls make of them. It names no program. -/
import Derived.Test.YtnjlamnpiafpdaaM17
namespace Go.Proofs.Ytnjlamnpiafpdaa
namespace Lane
/-- A list that there can be, in which nobody is older than N. -/
structure Good (N : Int) (L : List It) : Prop where
  who : ∀ x ∈ L, 0 ≤ x.who ∧ x.who < 48
  age : ∀ x ∈ L, 0 ≤ x.age ∧ x.age ≤ N
  falls : ∀ w, Falls (row L w)
  short : ∀ w, (row L w).length ≤ 64
/-- What Push answers. -/
def pushE (L : List It) (who : Int) (s : ByteArray) : Int :=
  if 0 ≤ who ∧ who < 48 then if 4096 < s.size then 3 else if (row L who).length = 64 then 8 else 0 else 1
/-- What waits behind Push. -/
def pushL (L : List It) (who : Int) (s : ByteArray) : List It :=
  if (0 ≤ who ∧ who < 48) ∧ s.size ≤ 4096 then (if (row L who).length = 64 then drop who L else L) ++ [⟨who, s, 0⟩] else L
theorem row_mem {L : List It} {w : Int} {y : ByteArray × Int} (h : y ∈ row L w) : ∃ x ∈ L, x.who = w ∧ y = (x.text, x.age) := by
  obtain ⟨x, hx, rfl⟩ := List.mem_map.1 h
  obtain ⟨h1, h2⟩ := List.mem_filter.1 hx
  exact ⟨x, h1, by simpa using h2, rfl⟩
theorem Good.far {N : Int} {L : List It} (h : Good N L) {w : Int} (hw : w < 0 ∨ 48 ≤ w) : row L w = [] := by
  unfold row
  rw [List.map_eq_nil_iff, List.filter_eq_nil_iff]
  intro x hx
  have := h.who x hx
  simp; omega
theorem Good.ages {N : Int} {L : List It} (h : Good N L) {w : Int} {y : ByteArray × Int} (hy : y ∈ row L w) : 0 ≤ y.2 ∧ y.2 ≤ N := by
  obtain ⟨x, hx, _, rfl⟩ := row_mem hy
  exact h.age x hx
theorem Good.nil (N : Int) : Good N [] := ⟨by simp, by simp, fun _ => Falls.nil, fun _ => by simp [row_nil]⟩
theorem Good.more {N M : Int} {L : List It} (h : Good N L) (hM : N ≤ M) : Good M L := ⟨h.who, fun x hx => by have := h.age x hx; omega, h.falls, h.short⟩
theorem Good.drop {N : Int} {L : List It} (h : Good N L) (w : Int) : Good N (drop w L) := by
  refine ⟨fun x hx => h.who x (mem_drop w L x hx), fun x hx => h.age x (mem_drop w L x hx), fun v => ?_, fun v => ?_⟩
  · rw [row_drop]
    split
    · exact (h.falls v).of_tail
    · exact h.falls v
  · rw [row_drop]
    have := h.short v
    split
    · rw [List.length_tail]; omega
    · exact this
theorem Good.snoc {N : Int} {L : List It} (h : Good N L) (hN : 0 ≤ N) {w : Int} (hw : 0 ≤ w ∧ w < 48) (s : ByteArray) (hl : (row L w).length < 64) : Good N (L ++ [⟨w, s, 0⟩]) := by
  refine ⟨fun x hx => ?_, fun x hx => ?_, fun v => ?_, fun v => ?_⟩
  · rcases List.mem_append.1 hx with hx | hx
    · exact h.who x hx
    · rw [List.mem_singleton.1 hx]; exact hw
  · rcases List.mem_append.1 hx with hx | hx
    · exact h.age x hx
    · rw [List.mem_singleton.1 hx]; exact ⟨Int.le_refl _, hN⟩
  · rw [row_push]
    split
    · exact (h.falls v).push (fun y hy => (h.ages hy).1) s
    · exact h.falls v
  · rw [row_push]
    split
    · rename_i e; subst e; simp; omega
    · exact h.short v
theorem Good.push {N : Int} {L : List It} (h : Good N L) (hN : 0 ≤ N) (w : Int) (s : ByteArray) : Good N (pushL L w s) := by
  unfold pushL
  by_cases hc : (0 ≤ w ∧ w < 48) ∧ s.size ≤ 4096
  · rw [if_pos hc]
    by_cases h64 : (row L w).length = 64
    · rw [if_pos h64]
      exact (h.drop w).snoc hN hc.1 s (by rw [row_drop, if_pos rfl, List.length_tail]; omega)
    · rw [if_neg h64]
      exact h.snoc hN hc.1 s (by have := h.short w; omega)
  · rw [if_neg hc]; exact h
theorem Good.clear {N : Int} {L : List It} (h : Good N L) (w : Int) : Good N (clear w L) := by
  refine ⟨fun x hx => h.who x (List.mem_filter.1 hx).1, fun x hx => h.age x (List.mem_filter.1 hx).1, fun v => ?_, fun v => ?_⟩
  · rw [row_clear]
    split
    · exact Falls.nil
    · exact h.falls v
  · rw [row_clear]
    split
    · simp
    · exact h.short v
theorem older_length (most : Int) (r : List (ByteArray × Int)) : (older most r).length ≤ r.length := by
  unfold older
  exact Nat.le_trans (List.length_filter_le _ _) (by simp)
theorem Good.tick {N : Int} {L : List It} (h : Good N L) (most : Int) : Good (N + 1) (tick most L) := by
  refine ⟨fun x hx => ?_, fun x hx => ?_, fun v => ?_, fun v => ?_⟩
  · obtain ⟨y, hy, e⟩ := mem_tick hx
    rw [← e]; exact h.who y hy
  · obtain ⟨h1, _⟩ := List.mem_filter.1 hx
    obtain ⟨y, hy, rfl⟩ := List.mem_map.1 h1
    have := h.age y hy
    simp only
    omega
  · rw [row_tick]; exact (h.falls v).older most
  · rw [row_tick]; exact Nat.le_trans (older_length _ _) (h.short v)
theorem tick_length (most : Int) (L : List It) : (tick most L).length ≤ L.length := by
  unfold tick
  exact Nat.le_trans (List.length_filter_le _ _) (by simp)
/-- The rows' numbers together. -/
theorem Good.total {N : Int} {L : List It} (h : Good N L) : total (fun k => row L k) 48 = L.length := total_rows 48 L h.who
theorem total_le {q r : Nat → List (ByteArray × Int)} (h : ∀ k, (q k).length ≤ (r k).length) : ∀ n, Lane.total q n ≤ Lane.total r n
  | 0 => Nat.le_refl _
  | n + 1 => Nat.add_le_add (total_le h n) (h n)
theorem push_row (L : List It) {w : Int} (hw : 0 ≤ w ∧ w < 48) {s : ByteArray} (hs : s.size ≤ 4096) (v : Int) :
    row (pushL L w s) v = if v = w then (if (row L w).length = 64 then (row L w).tail else row L w) ++ [(s, 0)] else row L v := by
  unfold pushL
  rw [if_pos ⟨hw, hs⟩, row_push]
  by_cases e : v = w
  · subst e
    rw [if_pos rfl, if_pos rfl]
    by_cases h : (row L v).length = 64
    · rw [if_pos h, if_pos h, row_drop, if_pos rfl]
    · rw [if_neg h, if_neg h]
  · rw [if_neg e, if_neg e]
    by_cases h : (row L w).length = 64
    · rw [if_pos h, row_drop, if_neg e]
    · rw [if_neg h]
end Lane
end Go.Proofs.Ytnjlamnpiafpdaa
