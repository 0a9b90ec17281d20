/- Plain mathematics of layer 19, more: the vote of the good tables' keys is the vote of the tables. It names no program. -/
import Derived.Test.YtbbkohpaebeidaaDoorM35
namespace Go.Proofs.YtbbkohpaebeidaaDoor
namespace Vote
/-- How many of these texts are this one. -/
def cnt (l : List (List UInt8)) (x : List UInt8) : Nat := l.countP fun y => decide (x = y)
/-- Behind k texts: the place of the one of which there are most, and how many. -/
def top (l : List (List UInt8)) (f : Int) : Nat → Int × Int
  | 0 => (-1, f)
  | k + 1 => if (top l f k).2 < (cnt l (l.getD k []) : Int) then ((k : Int), (cnt l (l.getD k []) : Int)) else top l f k
def topVal (l : List (List UInt8)) (b : Int) : List UInt8 := if 0 ≤ b then l.getD b.toNat [] else []
theorem top_snoc {l : List (List UInt8)} {k : Nat} (h : k < l.length) (f : Int) : top l f (k + 1) = if (top l f k).2 < (cnt l l[k] : Int) then ((k : Int), (cnt l l[k] : Int)) else top l f k := by
  rw [top, List.getD_eq_getElem?_getD, List.getElem?_eq_getElem h]; rfl
theorem topVal_at {l : List (List UInt8)} {k : Nat} (h : k < l.length) : topVal l (k : Int) = l[k] := by
  unfold topVal
  rw [if_pos (by omega), List.getD_eq_getElem?_getD, Int.toNat_natCast, List.getElem?_eq_getElem h]; rfl
/-- The good ones of these tables; their keys. -/
def goods (T : List (List (Int × Int))) : List (List (Int × Int)) := T.filter Leap.good
def keys (T : List (List (Int × Int))) : List (List UInt8) := (goods T).map key
theorem keys_length (T : List (List (Int × Int))) : (keys T).length = (goods T).length := List.length_map _
theorem keys_at {T : List (List (Int × Int))} {j : Nat} (hj : j < (keys T).length) (g : j < (goods T).length) : (keys T)[j] = key (goods T)[j] := by simp only [keys, List.getElem_map]
theorem cnt_keys {t : List (Int × Int)} (h : Leap.good t = true) (T : List (List (Int × Int))) : cnt (keys T) (key t) = tells t T := by
  unfold cnt keys goods tells
  rw [List.countP_map, List.countP_filter]
  refine List.countP_congr fun u _ => ?_
  simp only [Function.comp, Bool.and_eq_true, decide_eq_true_eq]
  constructor
  · rintro ⟨a, _⟩; exact (key_one a).symm
  · rintro rfl; exact ⟨rfl, h⟩
theorem goods_split {T : List (List (Int × Int))} {k : Nat} (hk : k < T.length) (h : Leap.good T[k] = true) : ∃ g : (goods (T.take k)).length < (goods T).length, (goods T)[(goods (T.take k)).length] = T[k] := by
  have e : goods T = goods (T.take k) ++ T[k] :: goods (T.drop (k + 1)) := by
    conv => lhs; rw [← List.take_append_drop k T, List.drop_eq_getElem_cons hk]
    unfold goods
    rw [List.filter_append, List.filter_cons_of_pos h]
  have hl : (goods (T.take k)).length < (goods T).length := by
    rw [e, List.length_append, List.length_cons]; omega
  refine ⟨hl, ?_⟩
  have : (goods T)[(goods (T.take k)).length]? = some T[k] := by
    rw [e, List.getElem?_append_right (Nat.le_refl _), Nat.sub_self]; rfl
  rw [List.getElem?_eq_getElem hl] at this
  exact Option.some.inj this
theorem goods_more {T : List (List (Int × Int))} {k : Nat} (hk : k < T.length) : (goods (T.take (k + 1))).length = (goods (T.take k)).length + if Leap.good T[k] = true then 1 else 0 := by
  rw [List.take_succ_eq_append_getElem hk]
  unfold goods
  rw [List.filter_append, List.length_append]
  by_cases h : Leap.good T[k] = true
  · rw [List.filter_cons_of_pos h, if_pos h]; rfl
  · rw [List.filter_cons_of_neg (by simpa using h), if_neg h]; rfl
/-- The vote of the keys, step by step, is the vote of the tables. -/
theorem top_best (F : Int) (T : List (List (Int × Int))) : ∀ k, k ≤ T.length →
    ((best F T k).1 = none ∧ (best F T k).2 = F ∧ top (keys T) F (goods (T.take k)).length = (-1, F)) ∨
    ∃ i, ∃ h : i < T.length, (best F T k).1 = some i ∧ ∃ j : Nat, ∃ g : j < (goods T).length, j < (goods (T.take k)).length ∧ (goods T)[j] = T[i] ∧ top (keys T) F (goods (T.take k)).length = ((j : Int), (best F T k).2) := by
  intro k
  induction k with
  | zero => intro _; exact .inl ⟨rfl, rfl, rfl⟩
  | succ k ih =>
    intro hk
    have hlt : k < T.length := by omega
    rw [best_step hlt, goods_more hlt]
    by_cases h : Leap.good T[k] = true
    · obtain ⟨g, e⟩ := goods_split hlt h
      have gk : (goods (T.take k)).length < (keys T).length := by unfold keys; rw [List.length_map]; exact g
      have ek : (keys T)[(goods (T.take k)).length] = key T[k] := by
        rw [keys_at gk g, e]
      rw [if_pos h, top_snoc gk, ek, cnt_keys h]
      have h2 : (top (keys T) F (goods (T.take k)).length).2 = (best F T k).2 := by
        rcases ih (by omega) with ⟨_, b, c⟩ | ⟨i, _, _, j, _, _, _, c⟩
        · rw [b, c]
        · rw [c]
      rw [h2]
      by_cases d : (best F T k).2 < tells T[k] T
      · rw [if_pos d, if_pos ⟨h, d⟩]
        exact .inr ⟨k, hlt, rfl, (goods (T.take k)).length, g, by omega, e, rfl⟩
      · rw [if_neg d, if_neg (fun q => d q.2)]
        rcases ih (by omega) with ⟨a, b, c⟩ | ⟨i, x, y, j, z, u, v, c⟩
        · exact .inl ⟨a, b, c⟩
        · exact .inr ⟨i, x, y, j, z, by omega, v, c⟩
    · rw [if_neg h, if_neg (fun q => h q.1), Nat.add_zero]
      exact ih (by omega)
/-- The place that the document answers. -/
def place (F : Int) (T : List (List (Int × Int))) (k : Nat) : Int := match (best F T k).1 with
  | some i => i
  | none => -1
/-- What is answered. -/
def is (F : Int) (T : List (List (Int × Int))) : Bool := (best F T T.length).1.isSome
def out (F : Int) (own : List (Int × Int)) (T : List (List (Int × Int))) : List (Int × Int) := match (best F T T.length).1 with
  | some i => T.getD i []
  | none => own
theorem place_step {F : Int} {l : List (List (Int × Int))} {k : Nat} (hk : k < l.length) : place F l (k + 1) = if Leap.good l[k] = true ∧ (best F l k).2 < tells l[k] l then (k : Int) else place F l k := by
  unfold place
  rw [best_step hk]
  by_cases h : Leap.good l[k] = true ∧ (best F l k).2 < tells l[k] l
  · rw [if_pos h, if_pos h]
  · rw [if_neg h, if_neg h]
theorem agreed (F : Int) (own : List (Int × Int)) (T : List (List (Int × Int))) :
    (is F T = false ∧ out F own T = own ∧ place F T T.length = -1 ∧ (top (keys T) F (keys T).length).1 = -1) ∨
    ∃ i : Nat, ∃ h : i < T.length, is F T = true ∧ out F own T = T[i] ∧ place F T T.length = i ∧ ∃ j : Nat, ∃ g : j < (keys T).length, (top (keys T) F (keys T).length).1 = j ∧ (keys T)[j] = key T[i] := by
  have hl : (keys T).length = (goods (T.take T.length)).length := by rw [List.take_length]; unfold keys; rw [List.length_map]
  rcases top_best F T T.length (Nat.le_refl _) with ⟨a, b, c⟩ | ⟨i, x, y, j, z, u, v, c⟩
  · left
    unfold is out place
    rw [a, hl, c]
    exact ⟨rfl, rfl, rfl, rfl⟩
  · right
    refine ⟨i, x, by unfold is; rw [y]; rfl, ?_, by unfold place; rw [y], j, by rw [hl]; exact u, by rw [hl, c], ?_⟩
    · unfold out; rw [y]
      simp only [List.getD_eq_getElem?_getD, List.getElem?_eq_getElem x, Option.getD_some]
    · rw [keys_at _ z, v]
theorem key_at {T : List (List (Int × Int))} {j : Nat} (hj : j < (keys T).length) (g : j < (goods T).length) {t : List (Int × Int)} (h : (keys T)[j] = key t) : (goods T)[j] = t := by
  rw [keys_at hj g] at h
  exact key_one h
/-- What is adopted is good, and more than F tell it. -/
theorem is_good {F : Int} {own : List (Int × Int)} {T : List (List (Int × Int))} (h : is F T = true) : Leap.good (out F own T) = true ∧ F < tells (out F own T) T := by
  unfold is at h
  obtain ⟨i, hi⟩ := Option.isSome_iff_exists.1 h
  obtain ⟨-, -, b3, -⟩ := best_is (F := F) (l := T) (k := T.length) (Nat.le_refl _)
  obtain ⟨hlt, -, hg, ht, -⟩ := b3 i hi
  have e : out F own T = T[i] := by
    unfold out; rw [hi]
    simp only [List.getD_eq_getElem?_getD, List.getElem?_eq_getElem hlt, Option.getD_some]
  rw [e]
  exact ⟨hg, ht⟩
theorem is_none {F : Int} {own : List (Int × Int)} {T : List (List (Int × Int))} (h : is F T = false) : out F own T = own := by
  unfold is at h
  unfold out
  rw [Option.isSome_eq_false_iff, Option.isNone_iff_eq_none] at h
  rw [h]
theorem is_nil (F : Int) : is F [] = false := rfl
theorem out_nil (F : Int) (own : List (Int × Int)) : out F own [] = own := rfl
/-- Whoever lies. -/
theorem holds {F : Int} {own t : List (Int × Int)} {T : List (List (Int × Int))} (hg : Leap.good t = true) (h1 : F < tells t T) (h2 : (T.length : Int) - tells t T ≤ F) : is F T = true ∧ out F own T = t := by
  obtain ⟨i, hi, hlt, e⟩ := best_holds hg h1 h2
  unfold is out
  rw [hi]
  refine ⟨rfl, ?_⟩
  simp only [List.getD_eq_getElem?_getD, List.getElem?_eq_getElem hlt, Option.getD_some]
  exact e
end Vote
end Go.Proofs.YtbbkohpaebeidaaDoor
