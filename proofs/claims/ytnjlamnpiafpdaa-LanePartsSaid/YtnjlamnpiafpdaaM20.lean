/- Plain mathematics of layer 8: what came in for two neighbours, frame by frame. It names no program. -/
import Derived.Test.YtnjlamnpiafpdaaM19
namespace Go.Proofs.Ytnjlamnpiafpdaa
namespace Lane
theorem push_other (L : List It) {w v : Int} (hv : v ≠ w) (s : ByteArray) : row (pushL L w s) v = row L v := by
  by_cases h : (0 ≤ w ∧ w < 48) ∧ s.size ≤ 4096
  · rw [push_row L h.1 h.2, if_neg hv]
  · unfold pushL; rw [if_neg h]
/-- One frame for each of the two. -/
def both (who other : Int) (L : List It) (s : ByteArray) : List It := pushL (pushL L other s) who s
def fed (who other : Int) (l : List ByteArray) : List It := l.foldl (both who other) []
/-- The last 64 of the first k. -/
def last (l : List ByteArray) (k : Nat) : List (ByteArray × Int) := ((l.take k).drop (k - 64)).map fun s => (s, 0)
theorem last_length {l : List ByteArray} {k : Nat} (hk : k ≤ l.length) : (last l k).length = min k 64 := by
  unfold last
  rw [List.length_map, List.length_drop, List.length_take]
  omega
theorem last_more {l : List ByteArray} {k : Nat} (hk : k < l.length) : last l (k + 1) = (if (last l k).length = 64 then (last l k).tail else last l k) ++ [(l[k], 0)] := by
  rw [last_length (Nat.le_of_lt hk)]
  by_cases h : k < 64
  · rw [if_neg (by omega)]
    unfold last
    rw [take_more hk, show k + 1 - 64 = 0 by omega, show k - 64 = 0 by omega, List.drop_zero, List.drop_zero, List.map_append]
    rfl
  · rw [if_pos (by omega)]
    unfold last
    rw [take_more hk, show k + 1 - 64 = (k - 64) + 1 by omega, List.drop_append_of_le_length (by rw [List.length_take]; omega), List.map_append, ← List.map_tail, List.tail_drop]
    rfl
theorem fed_more (who other : Int) {l : List ByteArray} {k : Nat} (hk : k < l.length) : fed who other (l.take (k + 1)) = pushL (pushL (fed who other (l.take k)) other l[k]) who l[k] := by
  rw [take_more hk]
  unfold fed
  rw [List.foldl_append]
  rfl
theorem fed_row {who other : Int} (hw : 0 ≤ who ∧ who < 48) (ho : other ≠ who) {l : List ByteArray} (hs : ∀ s ∈ l, s.size ≤ 4096) : ∀ k, k ≤ l.length → row (fed who other (l.take k)) who = last l k
  | 0, _ => by simp [fed, row_nil, last]
  | k + 1, h => by
    rw [fed_more who other (show k < l.length by omega), push_row _ hw (hs _ (List.getElem_mem _)), if_pos rfl, push_other _ (Ne.symm ho), fed_row hw ho hs k (by omega), last_more (show k < l.length by omega)]
theorem fed_answer {who other : Int} (hw : 0 ≤ who ∧ who < 48) (ho : other ≠ who) {l : List ByteArray} (hs : ∀ s ∈ l, s.size ≤ 4096) {k : Nat} (hk : k < l.length) :
    pushE (pushL (fed who other (l.take k)) other l[k]) who l[k] = if 64 ≤ k then 8 else 0 := by
  have h := hs _ (List.getElem_mem hk)
  unfold pushE
  rw [if_pos hw, if_neg (by omega), push_other _ (Ne.symm ho), fed_row hw ho hs k (by omega), last_length (Nat.le_of_lt hk)]
  by_cases h64 : 64 ≤ k
  · rw [if_pos h64, if_pos (by omega)]
  · rw [if_neg h64, if_neg (by omega)]
theorem fed_good (who other : Int) (l : List ByteArray) : Good 0 (fed who other l) := by
  have key : ∀ (l : List ByteArray) (L : List It), Good 0 L → Good 0 (l.foldl (both who other) L) := by
    intro l
    induction l with
    | nil => intro L h; exact h
    | cons s l ih =>
      intro L h
      rw [List.foldl_cons]
      exact ih _ ((h.push (Int.le_refl 0) _ _).push (Int.le_refl 0) _ _)
  exact key l [] (Good.nil 0)
/-- What is left of the last 64 from the i-th on. -/
theorem last_all (l : List ByteArray) : last l l.length = (l.drop (l.length - 64)).map fun s => (s, 0) := by unfold last; rw [List.take_length]
end Lane
end Go.Proofs.Ytnjlamnpiafpdaa
