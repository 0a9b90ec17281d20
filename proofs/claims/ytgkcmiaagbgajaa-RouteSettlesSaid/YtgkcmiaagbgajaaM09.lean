/- Plain mathematics of layer 15: behind D + 1 beats nodes have the steps of the shortest ways. It names no program. -/
namespace Go.Proofs.Ytgkcmiaagbgajaa
namespace Route
/-- What Next answers: one more than the least of the steps from 0 to D - 1; D + 1, if there are none. -/
def IsNext (D : Int) (l : List Int) (v : Int) : Prop := 1 ≤ v ∧ v ≤ D + 1 ∧ ∀ m : Int, 0 ≤ m → m < D → (v ≤ m + 1 ↔ ∃ x ∈ l, 0 ≤ x ∧ x ≤ m)
theorem IsNext.unique {D : Int} {l : List Int} {v u : Int} (h : IsNext D l v) (g : IsNext D l u) : v = u := by
  have key : ∀ {a b : Int}, IsNext D l a → IsNext D l b → ¬ a < b := by
    intro a b ha hb c
    obtain ⟨a1, a2, a3⟩ := ha
    obtain ⟨b1, b2, b3⟩ := hb
    have h1 := (a3 (a - 1) (by omega) (by omega)).1 (by omega)
    have h2 := (b3 (a - 1) (by omega) (by omega)).2 h1
    omega
  have := key h g; have := key g h; omega
theorem IsNext.mem {D : Int} {l m : List Int} {v : Int} (h : IsNext D l v) (e : ∀ x, x ∈ l ↔ x ∈ m) : IsNext D m v :=
  ⟨h.1, h.2.1, fun k k0 kD => (h.2.2 k k0 kD).trans ⟨fun ⟨x, hx, hk⟩ => ⟨x, (e x).1 hx, hk⟩, fun ⟨x, hx, hk⟩ => ⟨x, (e x).2 hx, hk⟩⟩⟩
section
variable (n : Nat) (core : Nat → Bool) (hears : Nat → Nat → Bool)
/-- There is a way of at most m steps. -/
def Way : Nat → Nat → Prop
  | 0, i => core i = true
  | m + 1, i => core i = true ∨ ∃ k, k < n ∧ hears i k = true ∧ Way m k
theorem Way.ofCore {m i : Nat} (h : core i = true) : Way n core hears m i := by
  cases m with
  | zero => exact h
  | succ m => exact Or.inl h
theorem Way.more {m i : Nat} (h : Way n core hears m i) : Way n core hears (m + 1) i := by
  induction m generalizing i with
  | zero => exact Or.inl h
  | succ m ih =>
    rcases h with h | ⟨k, hk, hh, hw⟩
    · exact Or.inl h
    · exact Or.inr ⟨k, hk, hh, ih hw⟩
theorem Way.mono {m m' i : Nat} (hm : m ≤ m') (h : Way n core hears m i) : Way n core hears m' i := by
  induction hm with
  | refl => exact h
  | step _ ih => exact Way.more n core hears ih
/-- v has the steps of the shortest ways as far as b tells. -/
def Told (D : Nat) (b : Nat) (v : Nat → Int) : Prop := ∀ i, i < n → 0 ≤ v i ∧ v i ≤ D + 1 ∧ ∀ m : Nat, m < b → m ≤ D → (v i ≤ m ↔ Way n core hears m i)
/-- One beat. 'said i k': what k tells i. -/
theorem Told.beat {D b : Nat} {v u : Nat → Int} {l : Nat → List Int} (hb : b ≠ 0 → Told n core hears D b v)
    (hl : b ≠ 0 → ∀ i, i < n → ∀ x, x ∈ l i ↔ ∃ k, k < n ∧ hears i k = true ∧ x = v k)
    (hu : ∀ i, i < n → (core i = true → u i = 0) ∧ (core i = false → IsNext D (l i) (u i))) : Told n core hears D (b + 1) u := by
  intro i hi
  cases hc : core i with
  | true =>
    have := (hu i hi).1 hc
    exact ⟨by omega, by omega, fun m _ _ => ⟨fun _ => Way.ofCore n core hears hc, fun _ => by omega⟩⟩
  | false =>
    obtain ⟨h1, h2, h3⟩ := (hu i hi).2 hc
    refine ⟨by omega, h2, fun m hm hmD => ?_⟩
    cases m with
    | zero => exact ⟨fun h => by omega, fun h => by rw [show core i = true from h] at hc; cases hc⟩
    | succ m =>
      have hb0 : b ≠ 0 := by omega
      have hv := hb hb0
      have e := h3 (m : Int) (by omega) (by omega)
      rw [show ((m + 1 : Nat) : Int) = (m : Int) + 1 by omega, e]
      constructor
      · rintro ⟨x, hx, x0, xm⟩
        obtain ⟨k, hk, hh, rfl⟩ := (hl hb0 i hi x).1 hx
        exact Or.inr ⟨k, hk, hh, ((hv k hk).2.2 m (by omega) (by omega)).1 xm⟩
      · rintro (h | ⟨k, hk, hh, hw⟩)
        · rw [h] at hc; cases hc
        · exact ⟨v k, (hl hb0 i hi _).2 ⟨k, hk, hh, rfl⟩, (hv k hk).1, ((hv k hk).2.2 m (by omega) (by omega)).2 hw⟩
/-- Behind D + 1 beats: the shortest way's, if it has at most D steps, else D + 1. -/
theorem Told.done {D : Nat} {v : Nat → Int} (h : Told n core hears D (D + 1) v) {i d : Nat} (hi : i < n) (hw : Way n core hears d i) (hs : ∀ m, m < d → ¬ Way n core hears m i) : v i = if d ≤ D then (d : Int) else D + 1 := by
  obtain ⟨h0, h1, h2⟩ := h i hi
  split
  · rename_i hd
    have a := (h2 d (by omega) hd).2 hw
    cases d with
    | zero => simp at a ⊢; omega
    | succ d =>
      have b := mt (h2 d (by omega) (by omega)).1 (hs d (by omega))
      omega
  · have b := mt (h2 D (by omega) (by omega)).1 (hs D (by omega))
    omega
theorem Told.lost {D : Nat} {v : Nat → Int} (h : Told n core hears D (D + 1) v) {i : Nat} (hi : i < n) (hs : ¬ Way n core hears D i) : v i = D + 1 := by
  obtain ⟨h0, h1, h2⟩ := h i hi
  have b := mt (h2 D (by omega) (by omega)).1 hs
  omega
end
end Route
end Go.Proofs.Ytgkcmiaagbgajaa
