/- Plain mathematics of layer 7: the k-th least by a sorted list, and what is made of it. It names no program. -/
import Derived.Test.YtlbijepejihjgaaM08
namespace Go.Proofs.Ytlbijepejihjgaa
namespace Trim
/-- The k-th of the sorted list. -/
def kth (k : Nat) (l : List Int) : Int := (l.mergeSort fun x y => decide (x ≤ y)).getD k 0
theorem sorted_pick {s : List Int} (hs : s.Pairwise (fun x y => x ≤ y)) {k : Nat} (hk : k < s.length) : Pick k s s[k] := by
  have e : s = s.take k ++ s.drop k := (List.take_append_drop k s).symm
  have hd : s.drop k = s[k] :: s.drop (k + 1) := List.drop_eq_getElem_cons hk
  have hp := hs
  rw [e] at hp
  obtain ⟨h1, h2, h3⟩ := List.pairwise_append.1 hp
  refine ⟨List.getElem_mem hk, ?_, ?_⟩
  · unfold lt
    have c1 : (s.take k).countP (fun y => decide (y < s[k])) ≤ k := by
      have := (s.take k).countP_le_length (p := fun y => decide (y < s[k]))
      simp only [List.length_take] at this; omega
    have c2 : (s.drop k).countP (fun y => decide (y < s[k])) = 0 := by
      rw [List.countP_eq_zero]
      intro a ha
      rw [hd] at ha h2
      rcases List.mem_cons.1 ha with rfl | h
      · simp
      · have := (List.pairwise_cons.1 h2).1 a h; simpa using this
    have : s.countP (fun y => decide (y < s[k])) = (s.take k).countP (fun y => decide (y < s[k])) + (s.drop k).countP (fun y => decide (y < s[k])) := by
      rw [← List.countP_append, List.take_append_drop]
    omega
  · unfold le
    have c1 : (s.take k).countP (fun y => decide (y ≤ s[k])) = k := by
      have : (s.take k).countP (fun y => decide (y ≤ s[k])) = (s.take k).length := by
        rw [List.countP_eq_length]
        intro a ha
        have := h3 a ha s[k] (by rw [hd]; exact List.mem_cons_self)
        simpa using this
      rw [this, List.length_take]; omega
    have c2 : 0 < (s.drop k).countP (fun y => decide (y ≤ s[k])) := by
      rw [List.countP_pos_iff]
      exact ⟨s[k], by rw [hd]; exact List.mem_cons_self, by simp⟩
    have : s.countP (fun y => decide (y ≤ s[k])) = (s.take k).countP (fun y => decide (y ≤ s[k])) + (s.drop k).countP (fun y => decide (y ≤ s[k])) := by
      rw [← List.countP_append, List.take_append_drop]
    omega
theorem kth_pick {k : Nat} {l : List Int} (hk : k < l.length) : Pick k l (kth k l) := by
  have hp := List.mergeSort_perm l (fun x y => decide (x ≤ y))
  have hs : (l.mergeSort fun x y => decide (x ≤ y)).Pairwise (fun x y => x ≤ y) :=
    (List.pairwise_mergeSort (le := fun x y : Int => decide (x ≤ y)) (fun a b c h1 h2 => by simp at *; omega) (fun a b => by simp; omega) l).imp (fun h => by simpa using h)
  have hk' : k < (l.mergeSort fun x y => decide (x ≤ y)).length := by rw [hp.length_eq]; exact hk
  have := sorted_pick hs hk'
  unfold kth
  rw [List.getD_eq_getElem?_getD, List.getElem?_eq_getElem hk']
  exact this.perm hp
/-- The k-th least, and whether there is one. -/
def val (k : Int) (l : List Int) : Int := if 0 ≤ k ∧ k < l.length then kth k.toNat l else 0
def is (k : Int) (n : Nat) : Bool := decide (0 ≤ k ∧ k < n)
theorem val_pick {k : Int} {l : List Int} (h : 0 ≤ k ∧ k < l.length) : Pick k.toNat l (val k l) := by
  unfold val; rw [if_pos h]; exact kth_pick (by omega)
theorem val_out {k : Int} {l : List Int} (h : ¬(0 ≤ k ∧ k < l.length)) : val k l = 0 := by unfold val; rw [if_neg h]
theorem val_of_pick {k : Int} {l : List Int} {v : Int} (h : 0 ≤ k ∧ k < l.length) (hv : Pick k.toNat l v) : val k l = v := (val_pick h).unique hv
theorem val_perm {k : Int} {l m : List Int} (hp : l.Perm m) : val k l = val k m := by
  have hl := hp.length_eq
  by_cases h : 0 ≤ k ∧ k < l.length
  · exact (val_of_pick (by omega) ((val_pick h).perm hp)).symm
  · rw [val_out h, val_out (by omega)]
theorem val_mem {k : Int} {l : List Int} (h : 0 ≤ k ∧ k < l.length) : val k l ∈ l := (val_pick h).1
/-- Whether the others are more than f. -/
def many (f : Int) (n : Nat) : Bool := decide (0 ≤ f ∧ f < n - f)
/-- The greatest of those that are left, and the least. -/
def mid (f : Int) (l : List Int) (c : Int → Int) : Int := if many f l.length then (c (val f l) + c (val (l.length - 1 - f) l)) / 2 else 0
/-- How many are the same. -/
def same (l : List Int) (x : Int) : Nat := l.countP fun y => decide (x = y)
/-- The place of the one of which there are most, more than m. -/
def best (l : List Int) : List Int → Nat → Int → Int → Int × Int
  | [], _, b, m => (b, m)
  | x :: r, i, b, m => if m < (same l x : Int) then best l r (i + 1) i (same l x) else best l r (i + 1) b m
end Trim
end Go.Proofs.Ytlbijepejihjgaa
