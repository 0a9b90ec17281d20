/- Plain mathematics of layer 8: rows in which ages fall; what a beat does to a row. It names no program. -/
import Derived.Test.YtnjlamnpiafpdaaM13
namespace Go.Proofs.Ytnjlamnpiafpdaa
namespace Lane
/-- Nobody is older than who came ahead of him. -/
def Falls (l : List (ByteArray × Int)) : Prop := l.Pairwise fun a b => b.2 ≤ a.2
/-- The first k are older by a beat. -/
def aged (k : Nat) (l : List (ByteArray × Int)) : List (ByteArray × Int) := (l.take k).map (fun x => (x.1, x.2 + 1)) ++ l.drop k
/-- Those who aren't too old. -/
def keep (most : Int) (l : List (ByteArray × Int)) : List (ByteArray × Int) := l.filter fun x => decide (x.2 ≤ most)
theorem aged_zero (l : List (ByteArray × Int)) : aged 0 l = l := by simp [aged]
theorem aged_all (l : List (ByteArray × Int)) : aged l.length l = l.map (fun x => (x.1, x.2 + 1)) := by simp [aged]
theorem aged_length (k : Nat) (l : List (ByteArray × Int)) : (aged k l).length = l.length := by simp [aged]; omega
theorem aged_at (k : Nat) (l : List (ByteArray × Int)) (h : k < l.length) (h' : k < (aged k l).length) : (aged k l)[k] = l[k] := by
  have e : (aged k l)[k]? = l[k]? := by
    unfold aged
    rw [List.getElem?_append_right (by simp; omega)]
    simp [Nat.min_eq_left (Nat.le_of_lt h)]
  rw [List.getElem?_eq_getElem h, List.getElem?_eq_getElem h'] at e
  exact Option.some.inj e
theorem aged_set (k : Nat) (l : List (ByteArray × Int)) (h : k < l.length) : (aged k l).set k (l[k].1, l[k].2 + 1) = aged (k + 1) l := by
  unfold aged
  rw [List.set_append_right _ _ (by simp; omega), List.take_succ_eq_append_getElem h, List.map_append, List.append_assoc]
  congr 1
  rw [show k - (List.map (fun x : ByteArray × Int => (x.1, x.2 + 1)) (List.take k l)).length = 0 by simp; omega, List.drop_eq_getElem_cons h]
  rfl
theorem older_keep (most : Int) (l : List (ByteArray × Int)) : older most l = keep most (l.map fun x => (x.1, x.2 + 1)) := rfl
theorem keep_nil (most : Int) : keep most [] = [] := rfl
theorem keep_drop {most : Int} {x : ByteArray × Int} {l : List (ByteArray × Int)} (h : most < x.2) : keep most (x :: l) = keep most l := by
  unfold keep; rw [List.filter_cons, if_neg (by simpa using h)]
theorem keep_all {most : Int} {x : ByteArray × Int} {l : List (ByteArray × Int)} (h : x.2 ≤ most) (hF : Falls (x :: l)) : keep most (x :: l) = x :: l := by
  unfold keep
  rw [List.filter_eq_self]
  intro y hy
  rcases List.mem_cons.1 hy with rfl | hy
  · simpa using h
  · have := (List.pairwise_cons.1 hF).1 y hy
    simp; omega
theorem Falls.tail {x : ByteArray × Int} {l : List (ByteArray × Int)} (h : Falls (x :: l)) : Falls l := (List.pairwise_cons.1 h).2
theorem Falls.map {l : List (ByteArray × Int)} (h : Falls l) : Falls (l.map fun x => (x.1, x.2 + 1)) := by
  unfold Falls at h ⊢
  rw [List.pairwise_map]
  exact h.imp fun h => by simp; exact h
theorem Falls.older {l : List (ByteArray × Int)} (h : Falls l) (most : Int) : Falls (older most l) := List.Pairwise.filter _ h.map
theorem Falls.nil : Falls [] := List.Pairwise.nil
theorem Falls.push {l : List (ByteArray × Int)} (h : Falls l) (h0 : ∀ x ∈ l, 0 ≤ x.2) (s : ByteArray) : Falls (l ++ [(s, 0)]) := by
  unfold Falls at h ⊢
  rw [List.pairwise_append]
  exact ⟨h, List.pairwise_singleton _ _, fun a ha b hb => by rw [List.mem_singleton.1 hb]; exact h0 a ha⟩
theorem Falls.of_tail {l : List (ByteArray × Int)} (h : Falls l) : Falls l.tail := by
  cases l with
  | nil => exact h
  | cons x l => exact h.tail
end Lane
end Go.Proofs.Ytnjlamnpiafpdaa
