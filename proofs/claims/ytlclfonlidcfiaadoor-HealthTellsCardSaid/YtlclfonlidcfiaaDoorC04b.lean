/- Contracts of layer 4's Check, the program's and the document's. -/
import Derived.Test.YtlclfonlidcfiaaDoorC04a
import Derived.Test.YtlclfonlidcfiaaDoorWA
namespace Go.Proofs.YtlclfonlidcfiaaDoor
open Go.RowKit
set_option maxRecDepth 100000
attribute [local go_sem ↓] Go.wp_at_zero Go.wp_at_succ
/-- The block g holds a fabric's numbers. -/
abbrev parCells (p : Par) : Array Value := #[.int .i64 p.n, .int .i64 p.f, .int .i64 p.d, .int .i64 p.beat, .int .i64 p.rho, .int .i64 p.delay, .int .i64 p.jit, .int .i64 p.eps, .int .i64 p.mu, .int .i64 p.hold, .int .i64 p.pulse, .int .i64 p.sec]
theorem Own.pars {w : World} {g : Nat} {p : Par} (h : Own w g (parCells p)) :
    w.cell? ⟨g, 0, none⟩ = some (.int .i64 p.n) ∧ w.cell? ⟨g, 1, none⟩ = some (.int .i64 p.f) ∧ w.cell? ⟨g, 2, none⟩ = some (.int .i64 p.d) ∧ w.cell? ⟨g, 3, none⟩ = some (.int .i64 p.beat) ∧
    w.cell? ⟨g, 4, none⟩ = some (.int .i64 p.rho) ∧ w.cell? ⟨g, 5, none⟩ = some (.int .i64 p.delay) ∧ w.cell? ⟨g, 6, none⟩ = some (.int .i64 p.jit) ∧ w.cell? ⟨g, 7, none⟩ = some (.int .i64 p.eps) ∧
    w.cell? ⟨g, 8, none⟩ = some (.int .i64 p.mu) ∧ w.cell? ⟨g, 9, none⟩ = some (.int .i64 p.hold) ∧ w.cell? ⟨g, 10, none⟩ = some (.int .i64 p.pulse) ∧ w.cell? ⟨g, 11, none⟩ = some (.int .i64 p.sec) :=
  ⟨h.cell 0 rfl, h.cell 1 rfl, h.cell 2 rfl, h.cell 3 rfl, h.cell 4 rfl, h.cell 5 rfl, h.cell 6 rfl, h.cell 7 rfl, h.cell 8 rfl, h.cell 9 rfl, h.cell 10 rfl, h.cell 11 rfl⟩

end Go.Proofs.YtlclfonlidcfiaaDoor
