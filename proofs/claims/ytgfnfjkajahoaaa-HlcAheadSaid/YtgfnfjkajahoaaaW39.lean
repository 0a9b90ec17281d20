/- Words of my own: a block of one's own of n cells as a function of their numbers; a row of one's own that grows beside such blocks. -/
import Derived.Test.YtgfnfjkajahoaaaW23
import Derived.Test.YtgfnfjkajahoaaaW22
namespace Go.Proofs.Ytgfnfjkajahoaaa
open Go.RowKit Go.WideShapes Go.ChangeShapes
/-- A block of one's own of n cells. -/
def CellsF (W : World) (g n : Nat) (φ : Nat → Value) : Prop := ∃ cs : Array Value, Own W g cs ∧ cs.size = n ∧ ∀ j, j < n → cs[j]? = some (φ j)
theorem grown_own {w w' : World} {g : Nat} {cs : Array Value} {row : Option Nat} (h : Own w g cs) (hg : w.grownBy w' row) (hne : row ≠ some g) : Own w' g cs := by
  have hl := h.lt
  obtain ⟨t, h⟩ := h
  exact ⟨t, (hg.block g hl (fun e => hne e.symm)).trans h⟩
theorem ok_grownBy {w w1 w2 : World} {row : Option Nat} (h : Ok w w1) (hg : w1.grownBy w2 row) (hr : ∀ k, row = some k → w.heap.size ≤ k) : Ok w w2 := Below.grown h hg h.size hr
theorem grown_of_ok {w w1 : World} (j : Ok w w1) : w.grownBy w1 none := ⟨j.below.os, j.below.tape, j.below.output, j.size, fun i hi _ => j.below.block i hi⟩
theorem grown_of_set (w : World) (p : Addr) (v : Value) : w.grownBy (w.setCell p v) (some p.block) := ⟨rfl, rfl, rfl, by simp, fun i _ hi => Below.heap_setCell w p v i (fun e => hi (by rw [e]))⟩
namespace CellsF
variable {w W W1 : World} {g n : Nat} {φ : Nat → Value}
theorem next (h : CellsF W g n φ) (k : Ok W W1) : CellsF W1 g n φ := by
  obtain ⟨cs, h1, h2, h3⟩ := h
  exact ⟨cs, h1.next k, h2, h3⟩
theorem lt (h : CellsF W g n φ) : g < W.heap.size := by
  obtain ⟨cs, h1, h2, h3⟩ := h
  exact h1.lt
theorem cell (h : CellsF W g n φ) {j : Nat} (hj : j < n) : W.cell? ⟨g, j, none⟩ = some (φ j) := by
  obtain ⟨cs, h1, h2, h3⟩ := h
  exact h1.cell j (h3 j hj)
theorem frozen (h : CellsF W g n φ) (j : Nat) : W.frozen? ⟨g, j, none⟩ = false := by
  obtain ⟨cs, h1, h2, h3⟩ := h
  exact h1.frozen j
theorem set (h : CellsF W g n φ) {i : Nat} (hi : i < n) (v : Value) : CellsF (W.setCell ⟨g, i, none⟩ v) g n (fun j => if j = i then v else φ j) := by
  obtain ⟨cs, h1, h2, h3⟩ := h
  refine ⟨_, h1.set i v, by simpa using h2, fun j hj => ?_⟩
  rw [set_at _ _ _ _ (by omega)]
  by_cases q : i = j
  · subst q; simp
  · show _ = some (if j = i then v else φ j)
    rw [if_neg q, if_neg (fun e => q e.symm)]; exact h3 j hj
theorem grown (h : CellsF W g n φ) {row : Option Nat} (hg : W.grownBy W1 row) (hne : row ≠ some g) : CellsF W1 g n φ := by
  obtain ⟨cs, h1, h2, h3⟩ := h
  exact ⟨cs, grown_own h1 hg hne, h2, h3⟩
theorem setOther (h : CellsF W g n φ) {p : Addr} (hp : p.block ≠ g) (v : Value) : CellsF (W.setCell p v) g n φ := h.grown (grown_of_set W p v) (fun e => hp (Option.some.inj e))
theorem only (h : CellsF W g n φ) {r : Nat} (k : Only r W W1) (hr : g ≠ r) : CellsF W1 g n φ := by
  obtain ⟨cs, h1, h2, h3⟩ := h
  exact ⟨cs, k.own h1 hr, h2, h3⟩
theorem mono (h : CellsF W g n φ) {ψ : Nat → Value} (he : ∀ j, j < n → ψ j = φ j) : CellsF W g n ψ := by
  obtain ⟨cs, h1, h2, h3⟩ := h
  exact ⟨cs, h1, h2, fun j hj => by rw [h3 j hj, he j hj]⟩
theorem new (w : World) (t : TypeId) (n : Nat) (z : Value) {g : Nat} (hg : g = w.heap.size) : CellsF (w.alloc (.cells (Array.replicate n z) t)) g n (fun _ => z) :=
  ⟨_, Own.new w _ t hg, by simp, fun j hj => by simp [hj]⟩
end CellsF
section
variable {w w1 : World} {B : Nat} {e : TypeId} {k n : Nat} {v : Value} {xs : List Value}
theorem row_nextF (h : w.ownsRow B e k v n xs) (j : Ok w w1) : w1.ownsRow B e k v n xs := h.kept (grown_of_ok j) (by cases v.ownBlock <;> simp)
theorem row_geF (h : w.ownsRow B e k v n xs) : ∀ r, v.ownBlock = some r → B ≤ r := fun r e => (h.lt r e).1
theorem row_ltF (h : w.ownsRow B e k v n xs) : ∀ r, v.ownBlock = some r → r < w.heap.size := fun r e => (h.lt r e).2
theorem row_setF (h : w.ownsRow B e k v n xs) {p : Addr} (hp : p.block < B) (u : Value) : (w.setCell p u).ownsRow B e k v n xs :=
  h.kept (grown_of_set w p u) (.inr fun e => absurd (row_geF h _ e) (Nat.not_le.2 hp))
theorem row_grownF (h : w.ownsRow B e k v n xs) {row : Option Nat} (hg : w.grownBy w1 row) (hne : ∀ r, v.ownBlock = some r → row ≠ some r) : w1.ownsRow B e k v n xs :=
  h.kept hg (by
    cases hv : v.ownBlock with
    | none => exact .inl rfl
    | some r => exact .inr fun e => hne r hv e.symm)
theorem row_nilF (w : World) (B : Nat) (e : TypeId) (k : Nat) : w.ownsRow B e k (.slice none 0 0) 0 [] := ⟨by simp, .inl ⟨rfl, rfl⟩⟩
end
/-- make, of n structs of two integers. -/
theorem run_make_pairs {P : Program} {t e : TypeId} {bytes : Nat} (ht : P.underlying t = some (.slice e)) (hi : (P.info? e).map (fun i => (i.zero, i.size, i.bytes)) = some (some (.agg #[.int .i64 0, .int .i64 0]), 2, bytes)) (hb : bytes ≤ 100) (n : Nat) (hn : n ≤ 1000) (w : World) :
    (Instr.makeSlice t (.int .i64 (n : Int)) (.int .i64 (n : Int))).run P w = .ok (.slice (some ⟨w.heap.size, 0, none⟩) n n) (w.alloc (.cells (Array.replicate (2 * n) (.int .i64 0)) e)) := by
  obtain ⟨i, h1, h2, h3, h4⟩ := info_parts hi
  have hm : n * bytes ≤ 1000 * 100 := Nat.mul_le_mul hn hb
  have := run_make (P := P) w t e i (.agg #[.int .i64 0, .int .i64 0]) ht h1 h2 .i64 .i64 (n : Int) (n : Int) (by omega) (Int.le_refl _) (by rw [h4, Int.mul_comm, ← Int.natCast_mul]; omega) (by omega)
  rw [Int.toNat_natCast, h3] at this
  rw [this, show madeCells (Value.agg #[.int .i64 0, .int .i64 0]).cells (n * 2) = Array.replicate (2 * n) (.int .i64 0) from ?_]
  apply Array.ext'
  apply List.ext_getElem?
  intro j
  have e2 : ∀ q, (#[Value.int .i64 0, Value.int .i64 0] : Array Value)[q % 2]! = .int .i64 0 := fun q => by
    have h2 : q % 2 = 0 ∨ q % 2 = 1 := by omega
    rcases h2 with h2 | h2 <;> rw [h2] <;> rfl
  have e3 : madeCells (Value.agg #[.int .i64 0, .int .i64 0]).cells (n * 2) = (Array.range (n * 2)).map fun _ => .int .i64 0 := by
    unfold madeCells
    congr 1
    funext q
    exact e2 q
  rw [e3, Nat.mul_comm 2 n]
  by_cases hj : j < n * 2
  · simp [hj]
  · simp [hj]
end Go.Proofs.Ytgfnfjkajahoaaa
