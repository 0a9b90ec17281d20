/- Plain mathematics of layer 9: timers at times one behind the other; how many go off. It names no program. -/
import Derived.Test.YtfankcoomfmjlaaM21
namespace Go.Proofs.Ytfankcoomfmjlaa
namespace Alarm
/-- Timers 0 .. k - 1, from the time a on. -/
def row (a : Int) (k : Nat) : List Tm := (List.range k).map fun i : Nat => (⟨i, a + i⟩ : Tm)
theorem row_length (a : Int) (k : Nat) : (row a k).length = k := by simp [row]
theorem row_at (a : Int) {k j : Nat} (h : j < (row a k).length) : (row a k)[j] = ⟨j, a + j⟩ := by simp [row]
theorem row_succ (a : Int) (k : Nat) : row a (k + 1) = row a k ++ [⟨k, a + k⟩] := by simp [row, List.range_succ]
theorem row_good (a : Int) {k : Nat} (h : k ≤ 64) : Good (row a k) := by
  refine ⟨?_, ?_, by rw [row_length]; exact h⟩
  · rw [List.pairwise_iff_getElem]
    intro i j hi hj hij
    rw [row_at, row_at]
    exact .inl (by simp only; omega)
  · unfold List.Nodup
    rw [List.pairwise_map, List.pairwise_iff_getElem]
    intro i j hi hj hij
    rw [row_at, row_at]
    simp only
    omega
theorem row_has (a : Int) {k : Nat} {i : Int} (h : i < 0 ∨ (k : Int) ≤ i) : has i (row a k) = false := has_none fun j hj => by
  rw [row_at]
  rw [row_length] at hj
  simp only
  omega
/-- To set what is there changes nothing. -/
theorem again {L : List Tm} {x : Tm} {k : Nat} (hG : Good L) (hk : k < L.length) (hx : L[k] = x) : L.Perm (x :: drop x.id L) := by
  rw [drop_at hk hG.apart (by rw [hx])]
  have e : L = L.take k ++ x :: L.drop (k + 1) := by
    rw [← hx, ← List.drop_eq_getElem_cons hk, List.take_append_drop]
  have h := List.perm_middle (a := x) (l₁ := L.take k) (l₂ := L.drop (k + 1))
  rw [← e] at h
  exact h
theorem cut_count {now : Int} : ∀ {L : List Tm}, L.Pairwise lt → cut now L = (L.filter fun x => decide (x.t ≤ now)).length
  | [], _ => rfl
  | x :: L, h => by
    rw [List.pairwise_cons] at h
    rw [cut_cons, List.filter_cons]
    by_cases e : x.t ≤ now
    · rw [if_pos e, cut_count h.2]
      simp [e]
    · have h0 : L.filter (fun y => decide (y.t ≤ now)) = [] := by
        rw [List.filter_eq_nil_iff]
        intro y hy
        have := lt_t (h.1 y hy)
        simp
        omega
      rw [if_neg e, h0]
      simp [e]
theorem cut_perm {now : Int} {L M : List Tm} (hL : Good L) (hp : L.Perm M) : cut now L = (M.filter fun x => decide (x.t ≤ now)).length := by
  rw [cut_count hL.rise, (hp.filter _).length_eq]
end Alarm
end Go.Proofs.Ytfankcoomfmjlaa
