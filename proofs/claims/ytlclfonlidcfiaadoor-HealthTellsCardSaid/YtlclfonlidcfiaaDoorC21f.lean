/- A Front in a block: its numbers and its state. -/
import Derived.Test.YtlclfonlidcfiaaDoorC21e
import Derived.Test.YtlclfonlidcfiaaDoorWC
namespace Go.Proofs.YtlclfonlidcfiaaDoor
open Go.RowKit
set_option linter.unusedVariables false
set_option maxRecDepth 100000
def frontCells (p : Par) (s : Sta) (A : Option Addr) (cap : Nat) : Array Value := #[.int .i64 p.n, .int .i64 p.f, .int .i64 p.d, .int .i64 p.beat, .int .i64 p.rho, .int .i64 p.delay, .int .i64 p.jit, .int .i64 p.eps, .int .i64 p.mu, .int .i64 p.hold, .int .i64 p.pulse, .int .i64 p.sec, .int .i64 s.lo, .int .i64 s.hi, .int .i64 s.time, .bool s.set, .int .i64 s.held, .int .i64 s.hops, .bool s.good, .slice A s.table.length cap, .int .i64 s.st, .int .i64 s.sn, .int .i64 s.life]
/-- The numbers' cells. -/
theorem Own.frP {W : World} {g : Nat} {p : Par} {s : Sta} {A : Option Addr} {cap : Nat} (h : Own W g (frontCells p s A cap)) : W.cell? ⟨g, 0, none⟩ = some (.int .i64 p.n) ∧ W.cell? ⟨g, 1, none⟩ = some (.int .i64 p.f) ∧ W.cell? ⟨g, 2, none⟩ = some (.int .i64 p.d) ∧ W.cell? ⟨g, 3, none⟩ = some (.int .i64 p.beat) ∧ W.cell? ⟨g, 4, none⟩ = some (.int .i64 p.rho) ∧ W.cell? ⟨g, 5, none⟩ = some (.int .i64 p.delay) ∧ W.cell? ⟨g, 6, none⟩ = some (.int .i64 p.jit) ∧ W.cell? ⟨g, 7, none⟩ = some (.int .i64 p.eps) ∧ W.cell? ⟨g, 8, none⟩ = some (.int .i64 p.mu) ∧ W.cell? ⟨g, 9, none⟩ = some (.int .i64 p.hold) ∧ W.cell? ⟨g, 10, none⟩ = some (.int .i64 p.pulse) ∧ W.cell? ⟨g, 11, none⟩ = some (.int .i64 p.sec) := ⟨h.cell 0 rfl, h.cell 1 rfl, h.cell 2 rfl, h.cell 3 rfl, h.cell 4 rfl, h.cell 5 rfl, h.cell 6 rfl, h.cell 7 rfl, h.cell 8 rfl, h.cell 9 rfl, h.cell 10 rfl, h.cell 11 rfl⟩
/-- The state's cells. -/
theorem Own.frS {W : World} {g : Nat} {p : Par} {s : Sta} {A : Option Addr} {cap : Nat} (h : Own W g (frontCells p s A cap)) : W.cell? ⟨g, 12, none⟩ = some (.int .i64 s.lo) ∧ W.cell? ⟨g, 13, none⟩ = some (.int .i64 s.hi) ∧ W.cell? ⟨g, 14, none⟩ = some (.int .i64 s.time) ∧ W.cell? ⟨g, 15, none⟩ = some (.bool s.set) ∧ W.cell? ⟨g, 16, none⟩ = some (.int .i64 s.held) ∧ W.cell? ⟨g, 17, none⟩ = some (.int .i64 s.hops) ∧ W.cell? ⟨g, 18, none⟩ = some (.bool s.good) ∧ W.cell? ⟨g, 19, none⟩ = some (.slice A s.table.length cap) ∧ W.cell? ⟨g, 20, none⟩ = some (.int .i64 s.st) ∧ W.cell? ⟨g, 21, none⟩ = some (.int .i64 s.sn) ∧ W.cell? ⟨g, 22, none⟩ = some (.int .i64 s.life) := ⟨h.cell 12 rfl, h.cell 13 rfl, h.cell 14 rfl, h.cell 15 rfl, h.cell 16 rfl, h.cell 17 rfl, h.cell 18 rfl, h.cell 19 rfl, h.cell 20 rfl, h.cell 21 rfl, h.cell 22 rfl⟩
theorem PairsOf.only {K r : Nat} {w w1 : World} {A : Option Addr} {l : List (Int × Int)} (h : PairsOf K w A l) (k : Only r w w1) (hr : r < K) : PairsOf K w1 A l := ⟨fun j hj => by
  obtain ⟨b, off, e, hlt, hc, hd⟩ := h.1 j hj
  have hb : b ≠ r := by have : K ≤ b := h.2 _ e; omega
  exact ⟨b, off, e, Nat.lt_of_lt_of_le hlt k.size, (k.cell (p := ⟨b, off + j * 2, none⟩) hlt hb).trans hc, (k.cell (p := ⟨b, off + j * 2 + 1, none⟩) hlt hb).trans hd⟩, h.2⟩
theorem only_set11 {r : Nat} {w W : World} {g : Nat} (h : Only r w W) (hg : g = r ∨ w.heap.size ≤ g) (s : Sta) (A : Option Addr) (cap : Nat) : Only r w (((((((((((W.setCell ⟨g, 0, none⟩ (.int .i64 s.lo)).setCell ⟨g, 1, none⟩ (.int .i64 s.hi)).setCell ⟨g, 2, none⟩ (.int .i64 s.time)).setCell ⟨g, 3, none⟩ (.bool s.set)).setCell ⟨g, 4, none⟩ (.int .i64 s.held)).setCell ⟨g, 5, none⟩ (.int .i64 s.hops)).setCell ⟨g, 6, none⟩ (.bool s.good)).setCell ⟨g, 7, none⟩ (.slice A s.table.length cap)).setCell ⟨g, 8, none⟩ (.int .i64 s.st)).setCell ⟨g, 9, none⟩ (.int .i64 s.sn)).setCell ⟨g, 10, none⟩ (.int .i64 s.life)) := (((((((((((h.set (a := ⟨g, 0, none⟩) hg (.int .i64 s.lo)).set (a := ⟨g, 1, none⟩) hg (.int .i64 s.hi)).set (a := ⟨g, 2, none⟩) hg (.int .i64 s.time)).set (a := ⟨g, 3, none⟩) hg (.bool s.set)).set (a := ⟨g, 4, none⟩) hg (.int .i64 s.held)).set (a := ⟨g, 5, none⟩) hg (.int .i64 s.hops)).set (a := ⟨g, 6, none⟩) hg (.bool s.good)).set (a := ⟨g, 7, none⟩) hg (.slice A s.table.length cap)).set (a := ⟨g, 8, none⟩) hg (.int .i64 s.st)).set (a := ⟨g, 9, none⟩) hg (.int .i64 s.sn)).set (a := ⟨g, 10, none⟩) hg (.int .i64 s.life))
/-- The numbers that may be, of the law's `some`. -/
def par21 : Par := ⟨4, 1, 2, 1000, 1, 100, 10, 50, 20, 5, 5000, 1000⟩
theorem law21Some (w : World) : Calls Tryd.prog 18 #[] w fun e w' => e = .returned (parV par21) ∧ Ok w w' := by
  have hok := Ok.refl w
  go_enter Tryd.func18, Tryd.ntmps18
  go_wp2
  exact bodyPost_ret (v := parV par21) (by simp [results, Tryd.results18, go_sem, parV, par21]) rfl ⟨rfl, hok.alloc _⟩
end Go.Proofs.YtlclfonlidcfiaaDoor
