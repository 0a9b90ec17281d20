/- Plain mathematics of layer 14: rows of neighbours; who is heard again and again, and who isn't. It names no program. -/
import Derived.Test.YtcoeiedaopmpcaaM28
namespace Go.Proofs.Ytcoeiedaopmpcaa
namespace Mem
/-- k neighbours one behind the other, new ones. -/
def rowM (a k : Nat) : NF := fun j => if a ≤ j ∧ j < a + k then some (0, 0) else none
theorem rowM_zero (a : Nat) : rowM a 0 = nobody := by
  funext j
  unfold rowM nobody
  rw [if_neg (by omega)]
theorem rowM_put (a k : Nat) : put (rowM a k) (a + k) (0, 0) = rowM a (k + 1) := by
  funext j
  simp only [rowM, put]
  by_cases h : j = a + k
  · rw [if_pos h, if_pos (by omega)]
  · rw [if_neg h]
    by_cases h2 : a ≤ j ∧ j < a + k
    · rw [if_pos h2, if_pos (by omega)]
    · rw [if_neg h2, if_neg (by omega)]
theorem rowM_again (a k : Nat) : put (rowM a (k + 1)) (a + k) (0, 0) = rowM a (k + 1) := by
  funext j
  simp only [rowM, put]
  by_cases h : j = a + k
  · rw [if_pos h, if_pos (by omega)]
  · rw [if_neg h]
theorem rowM_len : ∀ a, a < 32 → ∀ k, k < 17 → (nums (rowM a k)).length = k := by decide +kernel
theorem rowM_less : ∀ a, a < 32 → (nums (drop (rowM a 16) (a + 3))).length = 15 := by decide +kernel
theorem rowM_full : ∀ a, a < 32 → ∀ o, o < 48 → (o < a ∨ a + 16 ≤ o) → (nums (put (drop (rowM a 16) (a + 3)) o (0, 0))).length = 16 := by decide +kernel
theorem hearE_at {f : NF} {k : Nat} (hk : k < 48) (h : f k ≠ none ∨ (nums f).length ≠ 16) : hearE f (k : Int) = 0 := by
  unfold hearE
  rw [if_pos (by omega), look_at, if_neg]
  rintro ⟨h1, h2⟩
  rcases h with h | h
  · exact h h1
  · exact h h2
theorem hear_at {f : NF} {k : Nat} (hk : k < 48) (h : f k ≠ none ∨ (nums f).length ≠ 16) : hear f (k : Int) = put f k (age (f k), 0) := by
  unfold hear
  rw [if_pos (hearE_at hk h), look_at]
  rfl
theorem hearE_full {f : NF} {k : Nat} (hk : k < 48) (h : f k = none) (h2 : (nums f).length = 16) : hearE f (k : Int) = 7 := by
  unfold hearE
  rw [if_pos (by omega), look_at, if_pos ⟨h, h2⟩]
/-- One is a neighbour of at least such an age. -/
def Aged (f : NF) (k : Nat) (n : Nat) : Prop := ∃ a q, f k = some (a, q) ∧ (n : Int) ≤ a
theorem aged_hear {f : NF} {k : Nat} (hk : k < 48) (h : f k ≠ none ∨ (nums f).length ≠ 16) (hG : Good f) : Aged (hear f (k : Int)) k 0 := by
  rw [hear_at hk h]
  exact ⟨age (f k), 0, if_pos rfl, (age_bd hG k).1⟩
theorem Aged.some {f : NF} {k n : Nat} (h : Aged f k n) : f k ≠ none := by
  obtain ⟨a, q, h, _⟩ := h
  rw [h]
  exact fun h => by cases h
theorem aged_tick {f : NF} {k n : Nat} {m : Int} (hk : k < 48) (h : Aged f k n) (hn : n < 60) : Aged (tick m (hear f (k : Int))) k (n + 1) ∧ quiet (tick m (hear f (k : Int)) k) = 1 := by
  have hs := h.some
  obtain ⟨a, q, h, ha⟩ := h
  rw [hear_at hk (.inl hs), h]
  have e : tick m (put f k (age (some (a, q)), 0)) k = some (up a, 1) := by
    unfold tick
    have : put f k (age (some (a, q)), 0) k = some (a, 0) := if_pos rfl
    rw [this]
    unfold step goes next
    simp only
    have h0 : decide (max m 0 < 0) = false := by rw [decide_eq_false_iff_not]; omega
    rw [h0]
    rfl
  refine ⟨⟨up a, 1, e, ?_⟩, by rw [e]; rfl⟩
  unfold up
  split <;> omega
/-- Behind j beats in which one wasn't heard, and patience p. -/
def Going (f : NF) (k : Nat) (p : Int) (j : Nat) : Prop := f k = none ∨ ∃ a, f k = some (a, 1 + (j : Int)) ∧ (j : Int) ≤ p
theorem going_start {f : NF} {k n : Nat} {p : Int} (h : Aged f k n) (hq : quiet (f k) = 1) (hp : 0 ≤ p) : Going f k p 0 := by
  obtain ⟨a, q, h, -⟩ := h
  rw [h] at hq
  have : q = 1 := hq
  subst this
  exact .inr ⟨a, h, by omega⟩
theorem going_tick {f : NF} {k j : Nat} {p : Int} (h : Going f k p j) (hp : p ≤ 50) : Going (tick p f) k p (j + 1) := by
  rcases h with h | ⟨a, h, hj⟩
  · exact .inl (by unfold tick; rw [h]; rfl)
  · unfold Going tick
    rw [h]
    unfold step goes next
    simp only
    by_cases hg : max p 0 < 1 + (j : Int)
    · rw [decide_eq_true hg]; exact .inl rfl
    · rw [decide_eq_false hg]
      have e : up (1 + (j : Int)) = 1 + ((j + 1 : Nat) : Int) := by unfold up; rw [if_pos (by omega)]; omega
      refine .inr ⟨if 1 + (j : Int) = 0 then up a else 0, ?_, by omega⟩
      rw [e]
      rfl
theorem going_end {f : NF} {k j : Nat} {p : Int} (h : Going f k p j) (hj : p < j) : f k = none := by
  rcases h with h | ⟨a, _, h⟩
  · exact h
  · omega
end Mem
end Go.Proofs.Ytcoeiedaopmpcaa
