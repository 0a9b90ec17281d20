/- Plain mathematics of layer 15: whom to follow; how many steps. -/
import Derived.Test.YtgkcmiaagbgajaaM09
import Derived.Test.YtgkcmiaagbgajaaM11
namespace Go.Proofs.Ytgkcmiaagbgajaa
namespace Route
/-- A message that may be followed. -/
def may (D : Int) (m : Msg) : Bool := decide (m.kind = 2 ∧ m.good = true ∧ 0 ≤ m.hops ∧ m.hops < D ∧ m.lo ≤ m.hi)
/-- How two numbers stand. -/
def c3 (x y : Int) : Int := if x < y then -1 else if y < x then 1 else 0
/-- How two messages stand. -/
def ord (a b : Msg) : Int := if c3 a.hops b.hops ≠ 0 then c3 a.hops b.hops else if c3 a.held b.held ≠ 0 then c3 a.held b.held else c3 a.frm b.frm
/-- One is to be followed rather than the other. -/
def lt3 (a b : Msg) : Prop := a.hops < b.hops ∨ a.hops = b.hops ∧ (a.held < b.held ∨ a.held = b.held ∧ a.frm < b.frm)
instance (a b : Msg) : Decidable (lt3 a b) := by unfold lt3; infer_instance
theorem ord_neg (a b : Msg) : ord a b < 0 ↔ lt3 a b := by
  unfold ord c3 lt3
  repeat' split
  all_goals omega
theorem c3_bd (x y : Int) : -1 ≤ c3 x y ∧ c3 x y ≤ 1 := by
  unfold c3
  repeat' split
  all_goals omega
/-- Which of the first k is to be followed. -/
def pick (D : Int) (f : Nat → Msg) : Nat → Option Nat
  | 0 => none
  | k + 1 => match pick D f k with
    | none => if may D (f k) = true then some k else none
    | some j => if may D (f k) = true ∧ lt3 (f k) (f j) then some k else some j
section
variable {D : Int} {f g : Nat → Msg}
theorem pick_lt : ∀ {k j : Nat}, pick D f k = some j → j < k
  | 0, _, h => by simp [pick] at h
  | k + 1, j, h => by
    unfold pick at h
    split at h
    · split at h
      · cases h; omega
      · cases h
    · rename_i i hi
      have := pick_lt hi
      split at h <;> cases h <;> omega
theorem pick_may : ∀ {k j : Nat}, pick D f k = some j → may D (f j) = true
  | 0, _, h => by simp [pick] at h
  | k + 1, j, h => by
    unfold pick at h
    split at h
    · split at h
      · cases h; assumption
      · cases h
    · rename_i i hi
      have := pick_may hi
      split at h
      · cases h; rename_i hh; exact hh.1
      · cases h; exact this
theorem pick_none : ∀ {k : Nat}, pick D f k = none → ∀ i, i < k → may D (f i) = false
  | 0, _, i, hi => absurd hi (Nat.not_lt_zero i)
  | k + 1, h, i, hi => by
    unfold pick at h
    split at h
    · rename_i hn
      split at h
      · cases h
      · rename_i hm
        rcases Nat.lt_succ_iff_lt_or_eq.1 hi with g | g
        · exact pick_none hn i g
        · subst g; simpa using hm
    · split at h <;> cases h
theorem lt3_trans {a b c : Msg} (h : ¬ lt3 b a) (k : lt3 c a) : ¬ lt3 b c := by
  unfold lt3 at *
  omega
theorem pick_best : ∀ {k j : Nat}, pick D f k = some j → ∀ i, i < k → may D (f i) = true → ¬ lt3 (f i) (f j)
  | 0, _, h => by simp [pick] at h
  | k + 1, j, h => by
    intro i hi hm
    unfold pick at h
    split at h
    · rename_i hn
      split at h
      · cases h
        rcases Nat.lt_succ_iff_lt_or_eq.1 hi with g | g
        · rw [pick_none hn i g] at hm; cases hm
        · subst g; unfold lt3; omega
      · cases h
    · rename_i b hb
      split at h
      · cases h
        rename_i hh
        rcases Nat.lt_succ_iff_lt_or_eq.1 hi with g | g
        · exact lt3_trans (pick_best hb i g hm) hh.2
        · subst g; unfold lt3; omega
      · cases h
        rename_i hh
        rcases Nat.lt_succ_iff_lt_or_eq.1 hi with g | g
        · exact pick_best hb i g hm
        · subst g; exact fun q => hh ⟨hm, q⟩
/-- One more, that isn't taken. -/
theorem pick_pass {k : Nat} (h : may D (f k) = false ∨ ∃ j, pick D f k = some j ∧ ¬ lt3 (f k) (f j)) : pick D f (k + 1) = pick D f k := by
  conv => lhs; unfold pick
  rcases h with h | ⟨j, hj, hn⟩
  · split
    · rename_i e; rw [if_neg (by simp [h]), e]
    · rename_i j e; rw [if_neg (by simp [h]), e]
  · rw [hj]
    simp [hn]
/-- One more, that is taken. -/
theorem pick_take {k : Nat} (hm : may D (f k) = true) (h : pick D f k = none ∨ ∃ j, pick D f k = some j ∧ lt3 (f k) (f j)) : pick D f (k + 1) = some k := by
  conv => lhs; unfold pick
  rcases h with h | ⟨j, hj, hn⟩
  · rw [h]; simp [hm]
  · rw [hj]; simp [hn, hm]
end
theorem lt3_neither {a b : Msg} (h : ¬ lt3 a b) (k : ¬ lt3 b a) : a.hops = b.hops ∧ a.held = b.held ∧ a.frm = b.frm := by
  unfold lt3 at *
  omega
/-- What Next answers. -/
def next (D : Int) (l : List Int) : Int := l.foldl (fun v x => if 0 ≤ x ∧ x < D then min v (x + 1) else v) (D + 1)
theorem next_snoc (D : Int) (l : List Int) (x : Int) : next D (l ++ [x]) = if 0 ≤ x ∧ x < D then min (next D l) (x + 1) else next D l := by
  unfold next
  rw [List.foldl_append]
  rfl
theorem next_nil (D : Int) : next D [] = D + 1 := rfl
theorem snoc_ind' {α : Type} {P : List α → Prop} (h0 : P []) (hs : ∀ l b, P l → P (l ++ [b])) (l : List α) : P l := by
  have : ∀ r : List α, P r.reverse := fun r => by
    induction r with
    | nil => exact h0
    | cons b r ih => rw [List.reverse_cons]; exact hs _ b ih
  have h := this l.reverse
  rwa [List.reverse_reverse] at h
theorem next_is {D : Int} (hD : 0 ≤ D) (l : List Int) : IsNext D l (next D l) := by
  induction l using snoc_ind' with
  | h0 => rw [next_nil]; exact ⟨by omega, by omega, fun m m0 mD => ⟨fun h => by omega, fun ⟨x, hx, _⟩ => by simp at hx⟩⟩
  | hs l x ih =>
    obtain ⟨h1, h2, h3⟩ := ih
    rw [next_snoc]
    refine ⟨?_, ?_, fun m m0 mD => ?_⟩
    · split <;> omega
    · split <;> omega
    · have key : (∃ y ∈ l ++ [x], 0 ≤ y ∧ y ≤ m) ↔ (∃ y ∈ l, 0 ≤ y ∧ y ≤ m) ∨ (0 ≤ x ∧ x ≤ m) := by
        constructor
        · rintro ⟨y, hy, h⟩
          rcases List.mem_append.1 hy with g | g
          · exact Or.inl ⟨y, g, h⟩
          · rw [List.mem_singleton.1 g] at h; exact Or.inr h
        · rintro (⟨y, hy, h⟩ | h)
          · exact ⟨y, List.mem_append_left _ hy, h⟩
          · exact ⟨x, by simp, h⟩
      rw [key, ← h3 m m0 mD]
      split <;> omega
theorem next_bd {D : Int} (hD : 0 ≤ D) (l : List Int) : 1 ≤ next D l ∧ next D l ≤ D + 1 := ⟨(next_is hD l).1, (next_is hD l).2.1⟩
/-- Steps don't hang on the order. -/
theorem next_turned {D : Int} (hD : 0 ≤ D) (l : List Int) : next D l.reverse = next D l := (next_is hD _).unique ((next_is hD l).mem fun x => by simp)
/-- What the document's Next finds: n is the least that is told. -/
theorem next_found {D : Int} (hD : 0 ≤ D) {l : List Int} {n : Int} (h0 : 0 ≤ n) (hn : n < D) (hm : n ∈ l) (hl : ∀ x ∈ l, 0 ≤ x → n ≤ x) : next D l = n + 1 := by
  obtain ⟨h1, h2, h3⟩ := next_is hD l
  have a := (h3 n h0 hn).2 ⟨n, hm, h0, Int.le_refl _⟩
  by_cases h : next D l ≤ n
  · obtain ⟨x, hx, x0, xm⟩ := (h3 (n - 1) (by omega) (by omega)).1 (by omega)
    have := hl x hx x0
    omega
  · omega
theorem next_lost {D : Int} (hD : 0 ≤ D) {l : List Int} (h : ∀ x ∈ l, ¬(0 ≤ x ∧ x < D)) : next D l = D + 1 := by
  obtain ⟨h1, h2, h3⟩ := next_is hD l
  by_cases g : next D l ≤ D
  · obtain ⟨x, hx, x0, xm⟩ := (h3 (next D l - 1) (by omega) (by omega)).1 (by omega)
    exact absurd ⟨x0, by omega⟩ (h x hx)
  · omega
end Route
end Go.Proofs.Ytgkcmiaagbgajaa
