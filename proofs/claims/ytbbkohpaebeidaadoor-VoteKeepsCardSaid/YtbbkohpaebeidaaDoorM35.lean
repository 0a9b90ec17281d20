/- Plain mathematics of layer 19: a table's key, in decimal digits, tells it from every other one; the table that most tell. It names no program. -/
import Derived.Lib.ItoaNum
import Derived.Test.YtbbkohpaebeidaaDoorM34
namespace Go.Proofs.YtbbkohpaebeidaaDoor
namespace Vote
open Go.Lib
/-- The number that decimal digits make. -/
def val (l : List UInt8) : Nat := l.foldl (fun a d => 10 * a + (d.toNat - 48)) 0
theorem val_snoc (l : List UInt8) (d : UInt8) : val (l ++ [d]) = 10 * val l + (d.toNat - 48) := by simp [val]
theorem digit_nat {k : Nat} (h : k < 10) : (UInt8.ofNat (48 + k)).toNat = 48 + k := by
  rw [UInt8.toNat_ofNat']
  omega
theorem dec_step {u : Nat} (h : ¬ u < 10) : decDigits u = decDigits (u / 10) ++ [UInt8.ofNat (48 + u % 10)] := by rw [decDigits, dif_neg h]
theorem dec_val (u : Nat) : val (decDigits u) = u := by
  induction u using Nat.strongRecOn with
  | ind u ih =>
    by_cases h : u < 10
    · rw [decDigits_one h]
      show 10 * 0 + ((UInt8.ofNat (48 + u)).toNat - 48) = u
      rw [digit_nat h]; omega
    · rw [dec_step h, val_snoc, ih (u / 10) (by omega), digit_nat (by omega)]
      omega
theorem dec_in (u : Nat) : ∀ d ∈ decDigits u, 48 ≤ d.toNat ∧ d.toNat ≤ 57 := by
  induction u using Nat.strongRecOn with
  | ind u ih =>
    by_cases h : u < 10
    · rw [decDigits_one h]
      intro d hd
      rw [List.mem_singleton] at hd
      subst hd
      rw [digit_nat h]; omega
    · rw [dec_step h]
      intro d hd
      rcases List.mem_append.1 hd with g | g
      · exact ih (u / 10) (by omega) d g
      · rw [List.mem_singleton] at g
        subst g
        rw [digit_nat (by omega)]; omega
theorem dec_one {u v : Nat} (h : decDigits u = decDigits v) : u = v := by rw [← dec_val u, h, dec_val]
theorem dec_ne (u : Nat) : decDigits u ≠ [] := by
  by_cases h : u < 10
  · rw [decDigits_one h]; simp
  · rw [dec_step h]; simp
/-- A number's letters are digits, or a sign. -/
theorem itoa_in (n : Int) : ∀ d ∈ itoa n, d.toNat = 45 ∨ 48 ≤ d.toNat ∧ d.toNat ≤ 57 := by
  unfold itoa
  intro d hd
  by_cases h : n < 0
  · rw [if_pos h] at hd
    rcases List.mem_cons.1 hd with rfl | g
    · exact .inl rfl
    · exact .inr (dec_in _ d g)
  · rw [if_neg h] at hd
    exact .inr (dec_in _ d hd)
theorem itoa_one {m n : Int} (h : itoa m = itoa n) : m = n := by
  unfold itoa at h
  have key : ∀ u v : Nat, (45 : UInt8) :: decDigits u ≠ decDigits v := fun u v e => by
    have := dec_in v 45 (by rw [← e]; exact List.mem_cons_self)
    have g : (45 : UInt8).toNat = 45 := rfl
    omega
  by_cases h1 : m < 0
  · by_cases h2 : n < 0
    · rw [if_pos h1, if_pos h2] at h
      injection h with _ h3
      have := dec_one h3
      omega
    · rw [if_pos h1, if_neg h2] at h
      exact absurd h (key _ _)
  · by_cases h2 : n < 0
    · rw [if_neg h1, if_pos h2] at h
      exact absurd h.symm (key _ _)
    · rw [if_neg h1, if_neg h2] at h
      have := dec_one h
      omega
/-- What stands ahead of a letter that none of them is, is told by the whole. -/
theorem cut_one {s : UInt8} : ∀ {a b c d : List UInt8}, (∀ x ∈ a, x ≠ s) → (∀ x ∈ b, x ≠ s) → a ++ s :: c = b ++ s :: d → a = b ∧ c = d
  | [], [], c, d, _, _, h => by injection h with _ h; exact ⟨rfl, h⟩
  | [], y :: b, c, d, _, hb, h => by injection h with h _; exact absurd h.symm (hb y List.mem_cons_self)
  | x :: a, [], c, d, ha, _, h => by injection h with h _; exact absurd h (ha x List.mem_cons_self)
  | x :: a, y :: b, c, d, ha, hb, h => by
    injection h with h1 h2
    obtain ⟨e1, e2⟩ := cut_one (fun z hz => ha z (List.mem_cons_of_mem _ hz)) (fun z hz => hb z (List.mem_cons_of_mem _ hz)) h2
    exact ⟨by rw [h1, e1], e2⟩
/-- A table's key. -/
def key (l : List (Int × Int)) : List UInt8 := l.flatMap fun e => itoa e.1 ++ 58 :: (itoa e.2 ++ [59])
theorem key_cons (e : Int × Int) (l : List (Int × Int)) : key (e :: l) = itoa e.1 ++ 58 :: (itoa e.2 ++ 59 :: key l) := by simp [key]
theorem key_snoc (l : List (Int × Int)) (e : Int × Int) : key (l ++ [e]) = key l ++ (itoa e.1 ++ 58 :: (itoa e.2 ++ [59])) := by simp [key]
theorem itoa_58 (n : Int) : ∀ d ∈ itoa n, d ≠ 58 := fun d hd e => by
  have := itoa_in n d hd
  have g : (58 : UInt8).toNat = 58 := rfl
  rw [e] at this; omega
theorem itoa_59 (n : Int) : ∀ d ∈ itoa n, d ≠ 59 := fun d hd e => by
  have := itoa_in n d hd
  have g : (59 : UInt8).toNat = 59 := rfl
  rw [e] at this; omega
/-- A key tells a table from every other one. -/
theorem key_one : ∀ {a b : List (Int × Int)}, key a = key b → a = b
  | [], [], _ => rfl
  | [], e :: b, h => by
    rw [key_cons] at h
    have := congrArg List.length h
    simp [key] at this
  | e :: a, [], h => by
    rw [key_cons] at h
    have := congrArg List.length h
    simp [key] at this
  | (x, y) :: a, (u, v) :: b, h => by
    rw [key_cons, key_cons] at h
    obtain ⟨h1, h2⟩ := cut_one (itoa_58 x) (itoa_58 u) h
    obtain ⟨h3, h4⟩ := cut_one (itoa_59 y) (itoa_59 v) h2
    rw [itoa_one h1, itoa_one h3, key_one h4]
/-- How many tell a table. -/
def tells (t : List (Int × Int)) (l : List (List (Int × Int))) : Nat := l.countP fun u => decide (u = t)
theorem tells_le' (t : List (Int × Int)) (l : List (List (Int × Int))) : tells t l ≤ l.length := List.countP_le_length
/-- Two tables that differ are told by no more than all together. -/
theorem tells_two {s t : List (Int × Int)} (h : s ≠ t) (l : List (List (Int × Int))) : tells s l + tells t l ≤ l.length := by
  unfold tells
  induction l with
  | nil => simp
  | cons x l ih =>
    simp only [List.countP_cons, List.length_cons]
    by_cases h1 : x = s
    · have h2 : x ≠ t := fun e => h (h1.symm.trans e)
      simp [h1, h]; omega
    · simp [h1]
      split <;> omega
/-- The place of the table that is adopted among the first k: a good one that more than F tell, that most tell, the first of several such; and by how many. -/
def best (F : Int) (l : List (List (Int × Int))) : Nat → Option Nat × Int
  | 0 => (none, F)
  | k + 1 => match l[k]? with
    | none => best F l k
    | some t => if Leap.good t = true ∧ (best F l k).2 < tells t l then (some k, tells t l) else best F l k
theorem best_step {F : Int} {l : List (List (Int × Int))} {k : Nat} (hk : k < l.length) : best F l (k + 1) = if Leap.good l[k] = true ∧ (best F l k).2 < tells l[k] l then (some k, (tells l[k] l : Int)) else best F l k := by
  simp only [best, List.getElem?_eq_getElem hk]
/-- What is adopted. -/
theorem best_is {F : Int} {l : List (List (Int × Int))} : ∀ {k : Nat}, k ≤ l.length → F ≤ (best F l k).2 ∧ ((best F l k).1 = none → (best F l k).2 = F) ∧
    (∀ i, (best F l k).1 = some i → ∃ h : i < l.length, i < k ∧ Leap.good l[i] = true ∧ F < tells l[i] l ∧ (best F l k).2 = tells l[i] l) ∧
    (∀ j (h : j < l.length), j < k → Leap.good l[j] = true → (tells l[j] l : Int) ≤ (best F l k).2)
  | 0, _ => ⟨Int.le_refl _, fun _ => rfl, fun _ h => by simp [best] at h, fun _ _ h => absurd h (Nat.not_lt_zero _)⟩
  | k + 1, hk => by
    obtain ⟨h1, h2, h3, h4⟩ := best_is (k := k) (F := F) (l := l) (by omega)
    rw [best_step (by omega)]
    by_cases h : Leap.good l[k] = true ∧ (best F l k).2 < tells l[k] l
    · rw [if_pos h]
      refine ⟨by simp only; omega, fun e => by simp at e, fun i e => ?_, fun j hj hjk hg => ?_⟩
      · simp only [Option.some.injEq] at e
        subst e
        exact ⟨by omega, by omega, h.1, by omega, rfl⟩
      · simp only
        by_cases e : j = k
        · subst e; omega
        · have := h4 j hj (by omega) hg; omega
    · rw [if_neg h]
      refine ⟨h1, h2, fun i e => ?_, fun j hj hjk hg => ?_⟩
      · obtain ⟨a, b, c⟩ := h3 i e
        exact ⟨a, by omega, c⟩
      · by_cases e : j = k
        · subst e
          rcases Int.lt_or_le (best F l j).2 (tells l[j] l) with g | g
          · exact absurd ⟨hg, g⟩ h
          · exact g
        · exact h4 j hj (by omega) hg
/-- Whoever lies: what more than F tell is adopted, if all but F at most tell it. -/
theorem best_holds {F : Int} {l : List (List (Int × Int))} {t : List (Int × Int)} (hg : Leap.good t = true) (h1 : F < tells t l) (h2 : (l.length : Int) - tells t l ≤ F) : ∃ i, (best F l l.length).1 = some i ∧ ∃ h : i < l.length, l[i] = t := by
  obtain ⟨b1, b2, b3, b4⟩ := best_is (F := F) (l := l) (k := l.length) (Nat.le_refl _)
  have hm : t ∈ l := by
    have : 0 < tells t l ∨ F < 0 := by omega
    rcases this with g | g
    · obtain ⟨u, hu, e⟩ := List.countP_pos_iff.1 g
      have := of_decide_eq_true e
      subst this; exact hu
    · have := tells_le' t l
      omega
  obtain ⟨j, hj, e⟩ := List.mem_iff_getElem.1 hm
  have b5 := b4 j hj hj (by rw [e]; exact hg)
  rw [e] at b5
  cases hb : (best F l l.length).1 with
  | none => have := b2 hb; omega
  | some i =>
    obtain ⟨c1, c2, c3, c4, c5⟩ := b3 i hb
    refine ⟨i, rfl, c1, ?_⟩
    by_cases e2 : l[i] = t
    · exact e2
    · have := tells_two e2 l; omega
end Vote
end Go.Proofs.YtbbkohpaebeidaaDoor
