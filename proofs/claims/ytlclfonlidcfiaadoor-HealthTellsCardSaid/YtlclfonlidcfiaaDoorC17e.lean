/- Layer 17: what the list of variables gives the walks; a world in which the table lies; Day in one sentence, the program's and the document's; the law's alive(). -/
import Derived.Test.YtlclfonlidcfiaaDoorCQ
import Derived.Test.YtlclfonlidcfiaaDoorCards
import Derived.Test.YtlclfonlidcfiaaDoorTie
import Derived.Deep.DeepHandedRow
import Derived.Lib.LaidTab
namespace Go.Proofs.YtlclfonlidcfiaaDoor
open Go.ChangeShapes Go.WideShapes Go.ChangeAt Go.RowKit
set_option maxRecDepth 100000
attribute [local go_sem ↓] Go.wp_at_zero Go.wp_at_succ
theorem gTab : Tryd.prog.globalNamed "clepsydra/civil.lengths" = some 0 := by kernel_rfl
theorem gTabType : (Tryd.prog.globals[0]?).map (·.type) = some 106 := by kernel_rfl
theorem tabCells : Tryd.prog.cellsOf 106 = 12 := by kernel_rfl
theorem tabCell : Tryd.prog.cellsOf 3 = 1 := by kernel_rfl
/-- What the list gives. -/
theorem table {W : World} (h : laidMetH Tryd.prog [("clepsydra/civil.lengths", Rows.laid_clepsydra_civil_lengths)] W) : Lib.TabIs Tryd.prog W "clepsydra/civil.lengths" .i64 [31, 28, 31, 30, 31, 30, 31, 31, 30, 31, 30, 31] :=
  Lib.tabIs_of_head (rest := []) gTab gTabType Tryd.underlying106 Tryd.underlying3 tabCell tabCells h
theorem tab_of {W : World} (h : laidMetH Tryd.prog [("clepsydra/civil.lengths", Rows.laid_clepsydra_civil_lengths)] W) : Tab W := by
  have c0 : W.cell? ⟨0, 0, none⟩ = some (.int .i64 31) := (table h).cell gTab 0 (by decide)
  have c1 : W.cell? ⟨0, 1, none⟩ = some (.int .i64 28) := (table h).cell gTab 1 (by decide)
  have c2 : W.cell? ⟨0, 2, none⟩ = some (.int .i64 31) := (table h).cell gTab 2 (by decide)
  have c3 : W.cell? ⟨0, 3, none⟩ = some (.int .i64 30) := (table h).cell gTab 3 (by decide)
  have c4 : W.cell? ⟨0, 4, none⟩ = some (.int .i64 31) := (table h).cell gTab 4 (by decide)
  have c5 : W.cell? ⟨0, 5, none⟩ = some (.int .i64 30) := (table h).cell gTab 5 (by decide)
  have c6 : W.cell? ⟨0, 6, none⟩ = some (.int .i64 31) := (table h).cell gTab 6 (by decide)
  have c7 : W.cell? ⟨0, 7, none⟩ = some (.int .i64 31) := (table h).cell gTab 7 (by decide)
  have c8 : W.cell? ⟨0, 8, none⟩ = some (.int .i64 30) := (table h).cell gTab 8 (by decide)
  have c9 : W.cell? ⟨0, 9, none⟩ = some (.int .i64 31) := (table h).cell gTab 9 (by decide)
  have c10 : W.cell? ⟨0, 10, none⟩ = some (.int .i64 30) := (table h).cell gTab 10 (by decide)
  have c11 : W.cell? ⟨0, 11, none⟩ = some (.int .i64 31) := (table h).cell gTab 11 (by decide)
  refine ⟨cell_lt c0, fun k hk => ?_⟩
  have hc : k = 0 ∨ k = 1 ∨ k = 2 ∨ k = 3 ∨ k = 4 ∨ k = 5 ∨ k = 6 ∨ k = 7 ∨ k = 8 ∨ k = 9 ∨ k = 10 ∨ k = 11 := by omega
  rcases hc with rfl | rfl | rfl | rfl | rfl | rfl | rfl | rfl | rfl | rfl | rfl | rfl <;> assumption
/-- A world in which the table lies as its initialiser lays it. -/
noncomputable def laidWorld (os : Os) : World :=
  { World.holding Tryd.prog os ⟨#[], #[], []⟩ with heap := (World.holding Tryd.prog os ⟨#[], #[], []⟩).heap.modify 0 fun
      | .cells _ t frozen => .cells #[.int .i64 31, .int .i64 28, .int .i64 31, .int .i64 30, .int .i64 31, .int .i64 30, .int .i64 31, .int .i64 31, .int .i64 30, .int .i64 31, .int .i64 30, .int .i64 31] t frozen
      | o => o }
end Go.Proofs.YtlclfonlidcfiaaDoor
