/- Words of my own: a message in a block, kept through a region. -/
import Derived.Test.YtgkcmiaagbgajaaW12
import Derived.Test.YtgkcmiaagbgajaaW05
namespace Go.Proofs.Ytgkcmiaagbgajaa
open Go.RowKit
set_option maxRecDepth 100000
/-- A message in the block g, and nothing turned since w. -/
def MB (g : Nat) (w : World) (m : Msg) (A : Option Addr) (cap : Nat) (w' : World) : Prop := w'.cell? ⟨g, 0, none⟩ = some (.int .i64 m.kind) ∧ w'.cell? ⟨g, 1, none⟩ = some (.int .i64 m.frm) ∧ w'.cell? ⟨g, 2, none⟩ = some (.int .i64 m.lo) ∧ w'.cell? ⟨g, 3, none⟩ = some (.int .i64 m.hi) ∧ w'.cell? ⟨g, 4, none⟩ = some (.int .i64 m.held) ∧ w'.cell? ⟨g, 5, none⟩ = some (.int .i64 m.hops) ∧ w'.cell? ⟨g, 6, none⟩ = some (.bool m.good) ∧ w'.cell? ⟨g, 7, none⟩ = some (.bool m.ref) ∧ w'.cell? ⟨g, 8, none⟩ = some (.int .i64 m.slo) ∧ w'.cell? ⟨g, 9, none⟩ = some (.int .i64 m.shi) ∧ w'.cell? ⟨g, 10, none⟩ = some (.int .i64 m.pulse) ∧ w'.cell? ⟨g, 11, none⟩ = some (.int .i64 m.time) ∧ w'.cell? ⟨g, 12, none⟩ = some (.int .i64 m.num) ∧ w'.cell? ⟨g, 13, none⟩ = some (.slice A m.table.length cap) ∧ g < w'.heap.size ∧ Ok w w'
namespace MB
variable {g : Nat} {w w' w1 : World} {m : Msg} {A : Option Addr} {cap : Nat}
theorem ok (h : MB g w m A cap w') : Ok w w' := by
  obtain ⟨-, -, -, -, -, -, -, -, -, -, -, -, -, -, -, h⟩ := h
  exact h
theorem of_own (h : Own w' g (msgCells m A cap)) (k : Ok w w') : MB g w m A cap w' :=
  ⟨h.cell 0 rfl, h.cell 1 rfl, h.cell 2 rfl, h.cell 3 rfl, h.cell 4 rfl, h.cell 5 rfl, h.cell 6 rfl, h.cell 7 rfl, h.cell 8 rfl, h.cell 9 rfl, h.cell 10 rfl, h.cell 11 rfl, h.cell 12 rfl, h.cell 13 rfl, h.lt, k⟩
theorem new (w : World) (m : Msg) (A : Option Addr) (cap : Nat) (t : TypeId) {g : Nat} (hg : g = w.heap.size) : MB g w m A cap (w.alloc (.cells (msgCells m A cap) t)) :=
  of_own (Own.new w (msgCells m A cap) t hg) ((Ok.refl w).alloc _)
theorem next (k : Ok w' w1) (h : MB g w m A cap w') : MB g w m A cap w1 := by
  obtain ⟨c0, c1, c2, c3, c4, c5, c6, c7, c8, c9, c10, c11, c12, c13, hl, hok⟩ := h
  have key : ∀ i, w1.cell? ⟨g, i, none⟩ = w'.cell? ⟨g, i, none⟩ := fun i => k.cell (p := ⟨g, i, none⟩) hl
  refine ⟨?_, ?_, ?_, ?_, ?_, ?_, ?_, ?_, ?_, ?_, ?_, ?_, ?_, ?_, Nat.lt_of_lt_of_le hl k.size, hok.trans k⟩ <;> (rw [key]; assumption)
theorem drew (h : MB g w m A cap w') : MB g w m A cap w'.drew := h.next (Ok.refl w').drew
theorem alloc (h : MB g w m A cap w') (o : Obj) : MB g w m A cap (w'.alloc o) := h.next ((Ok.refl w').alloc o)
end MB
end Go.Proofs.Ytgkcmiaagbgajaa
