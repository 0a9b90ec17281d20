/- Plain mathematics of layer 8: what waits for neighbours: one list of all, and a row for each. It names no program. -/
import Derived.KernelRfl
namespace Go.Proofs.Ytnjlamnpiafpdaa
/-- What waits: for whom, its bytes, its age. -/
structure It where
  who : Int
  text : ByteArray
  age : Int
namespace Lane
/-- The row of one. -/
def row (L : List It) (w : Int) : List (ByteArray × Int) := (L.filter fun x => decide (x.who = w)).map fun x => (x.text, x.age)
/-- The list without the first of w. -/
def drop (w : Int) : List It → List It
  | [] => []
  | x :: L => if x.who = w then L else x :: drop w L
def older (most : Int) (r : List (ByteArray × Int)) : List (ByteArray × Int) := (r.map fun x => (x.1, x.2 + 1)).filter fun x => decide (x.2 ≤ most)
def tick (most : Int) (L : List It) : List It := (L.map fun x => { x with age := x.age + 1 }).filter fun x => decide (x.age ≤ most)
def clear (w : Int) (L : List It) : List It := L.filter fun x => decide (x.who ≠ w)
theorem row_nil (w : Int) : row [] w = [] := rfl
theorem row_cons (x : It) (L : List It) (w : Int) : row (x :: L) w = if x.who = w then (x.text, x.age) :: row L w else row L w := by
  unfold row
  rw [List.filter_cons]
  by_cases h : x.who = w <;> simp [h]
theorem row_append (L M : List It) (w : Int) : row (L ++ M) w = row L w ++ row M w := by simp [row]
theorem row_push (L : List It) (w : Int) (s : ByteArray) (v : Int) : row (L ++ [⟨w, s, 0⟩]) v = if v = w then row L v ++ [(s, 0)] else row L v := by
  rw [row_append, row_cons, row_nil]
  by_cases h : w = v
  · subst h; simp
  · rw [if_neg h, if_neg (Ne.symm h), List.append_nil]
theorem row_drop (w : Int) : ∀ (L : List It) (v : Int), row (drop w L) v = if v = w then (row L v).tail else row L v
  | [], v => by simp [drop, row_nil]
  | x :: L, v => by
    unfold drop
    by_cases h : x.who = w
    · rw [if_pos h, row_cons]
      by_cases e : v = w
      · rw [if_pos e, if_pos (h.trans e.symm)]; rfl
      · rw [if_neg e, if_neg (fun g => e (g.symm.trans h))]
    · rw [if_neg h, row_cons, row_cons, row_drop w L v]
      by_cases e : v = w
      · subst e; rw [if_neg h, if_pos rfl, if_pos rfl, if_neg h]
      · rw [if_neg e, if_neg e]
theorem row_tick (most : Int) : ∀ (L : List It) (v : Int), row (tick most L) v = older most (row L v)
  | [], v => rfl
  | x :: L, v => by
    have ih := row_tick most L v
    unfold tick at ih ⊢
    rw [List.map_cons, List.filter_cons, row_cons]
    by_cases h : x.age + 1 ≤ most
    · rw [if_pos (by simpa using h), row_cons, ih]
      by_cases e : x.who = v
      · rw [if_pos e, if_pos e]; unfold older; rw [List.map_cons, List.filter_cons, if_pos (by simpa using h)]
      · rw [if_neg e, if_neg e]
    · rw [if_neg (by simpa using h), ih]
      by_cases e : x.who = v
      · rw [if_pos e]; unfold older; rw [List.map_cons, List.filter_cons, if_neg (by simpa using h)]
      · rw [if_neg e]
theorem row_clear (w : Int) : ∀ (L : List It) (v : Int), row (clear w L) v = if v = w then [] else row L v
  | [], v => by simp [clear, row_nil]
  | x :: L, v => by
    have ih := row_clear w L v
    unfold clear at ih ⊢
    rw [List.filter_cons]
    by_cases h : x.who = w
    · rw [if_neg (by simpa using h), ih, row_cons]
      by_cases e : v = w
      · rw [if_pos e, if_pos e]
      · rw [if_neg e, if_neg e, if_neg (fun g => e (g.symm.trans h))]
    · rw [if_pos (by simpa using h), row_cons, ih, row_cons]
      by_cases e : v = w
      · subst e; rw [if_pos rfl, if_pos rfl, if_neg h]
      · rw [if_neg e, if_neg e]
theorem row_length (L : List It) (w : Int) : (row L w).length = L.countP fun x => decide (x.who = w) := by
  unfold row; rw [List.length_map, ← List.countP_eq_length_filter]
/-- How many wait in the rows below n. -/
def total (q : Nat → List (ByteArray × Int)) : Nat → Nat
  | 0 => 0
  | n + 1 => total q n + (q n).length
theorem total_congr {q r : Nat → List (ByteArray × Int)} : ∀ n, (∀ k, k < n → (q k).length = (r k).length) → total q n = total r n
  | 0, _ => rfl
  | n + 1, h => by unfold total; rw [total_congr n fun k hk => h k (by omega), h n (by omega)]
theorem total_nil (n : Nat) : total (fun _ => []) n = 0 := by
  induction n with
  | zero => rfl
  | succ n ih => unfold total; rw [ih]; rfl
theorem total_cons (x : It) (L : List It) : ∀ n : Nat, total (fun k => row (x :: L) k) n = total (fun k => row L k) n + if 0 ≤ x.who ∧ x.who < n then 1 else 0
  | 0 => by simp [total]
  | n + 1 => by
    unfold total
    rw [total_cons x L n, row_cons]
    by_cases e : x.who = (n : Int)
    · rw [if_pos e, if_neg (by omega), if_pos (by omega), List.length_cons]; omega
    · rw [if_neg e]
      by_cases h : 0 ≤ x.who ∧ x.who < n
      · rw [if_pos h, if_pos (by omega)]; omega
      · rw [if_neg h, if_neg (by omega)]; omega
/-- All rows together are all that wait. -/
theorem total_rows (n : Nat) : ∀ L : List It, (∀ x ∈ L, 0 ≤ x.who ∧ x.who < n) → total (fun k => row L k) n = L.length
  | [], _ => total_nil n
  | x :: L, h => by
    rw [total_cons, total_rows n L fun y hy => h y (List.mem_cons_of_mem _ hy), if_pos (h x List.mem_cons_self), List.length_cons]
theorem mem_drop (w : Int) : ∀ (L : List It) (x : It), x ∈ drop w L → x ∈ L
  | [], _, h => h
  | y :: L, x, h => by
    unfold drop at h
    split at h
    · exact List.mem_cons_of_mem _ h
    · rcases List.mem_cons.1 h with rfl | g
      · exact List.mem_cons_self
      · exact List.mem_cons_of_mem _ (mem_drop w L x g)
theorem mem_tick {most : Int} {L : List It} {x : It} (h : x ∈ tick most L) : ∃ y ∈ L, y.who = x.who := by
  obtain ⟨h1, _⟩ := List.mem_filter.1 h
  obtain ⟨y, hy, rfl⟩ := List.mem_map.1 h1
  exact ⟨y, hy, rfl⟩
end Lane
end Go.Proofs.Ytnjlamnpiafpdaa
