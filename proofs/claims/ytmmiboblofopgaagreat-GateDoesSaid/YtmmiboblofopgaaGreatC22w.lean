/- Words of my own for layer 22: what was heard and inputs, cell by cell; a gateway in a block. -/
import Derived.Test.YtmmiboblofopgaaGreatB22
import Derived.Test.YtmmiboblofopgaaGreatB16
import Derived.Test.YtmmiboblofopgaaGreatMA
namespace Go.Proofs.YtmmiboblofopgaaGreat
open Go.RowKit Go.WideShapes Go.ChangeShapes
set_option linter.unusedVariables false
set_option maxRecDepth 100000
theorem HeardsAt.nthAt {w : World} {B : Option Addr} {l : List HA} (h : HeardsAt w B l) (k : Nat) (hk : k < l.length) : ∃ b off, B = some ⟨b, off, none⟩ ∧ b < w.heap.size ∧ ∀ x, l[k] = x → w.cell? ⟨b, off + k * 15, none⟩ = some (.int .i64 x.m.kind) ∧ w.cell? ⟨b, off + k * 15 + 1, none⟩ = some (.int .i64 x.m.frm) ∧ w.cell? ⟨b, off + k * 15 + 2, none⟩ = some (.int .i64 x.m.lo) ∧ w.cell? ⟨b, off + k * 15 + 3, none⟩ = some (.int .i64 x.m.hi) ∧ w.cell? ⟨b, off + k * 15 + 4, none⟩ = some (.int .i64 x.m.held) ∧ w.cell? ⟨b, off + k * 15 + 5, none⟩ = some (.int .i64 x.m.hops) ∧ w.cell? ⟨b, off + k * 15 + 6, none⟩ = some (.bool x.m.good) ∧ w.cell? ⟨b, off + k * 15 + 7, none⟩ = some (.bool x.m.ref) ∧ w.cell? ⟨b, off + k * 15 + 8, none⟩ = some (.int .i64 x.m.slo) ∧ w.cell? ⟨b, off + k * 15 + 9, none⟩ = some (.int .i64 x.m.shi) ∧ w.cell? ⟨b, off + k * 15 + 10, none⟩ = some (.int .i64 x.m.pulse) ∧ w.cell? ⟨b, off + k * 15 + 11, none⟩ = some (.int .i64 x.m.time) ∧ w.cell? ⟨b, off + k * 15 + 12, none⟩ = some (.int .i64 x.m.num) ∧ w.cell? ⟨b, off + k * 15 + 13, none⟩ = some (.slice x.A x.m.table.length x.cap) ∧ w.cell? ⟨b, off + k * 15 + 14, none⟩ = some (.int .i64 x.age) := by
  obtain ⟨b, off, e, hlt, hc⟩ := h.cells.at haL_len (by decide) k hk
  refine ⟨b, off, e, hlt, fun x hx => ?_⟩
  subst hx
  exact ⟨hc 0 _ rfl, hc 1 _ rfl, hc 2 _ rfl, hc 3 _ rfl, hc 4 _ rfl, hc 5 _ rfl, hc 6 _ rfl, hc 7 _ rfl, hc 8 _ rfl, hc 9 _ rfl, hc 10 _ rfl, hc 11 _ rfl, hc 12 _ rfl, hc 13 _ rfl, hc 14 _ rfl⟩
theorem InsAt.nthAt {w : World} {B : Option Addr} {l : List In} (h : InsAt w B l) (k : Nat) (hk : k < l.length) : ∃ b off, B = some ⟨b, off, none⟩ ∧ b < w.heap.size ∧ ∀ x, l[k] = x → w.cell? ⟨b, off + k * 6, none⟩ = some (.int .i64 x.ticks) ∧ w.cell? ⟨b, off + k * 6 + 1, none⟩ = some (.slice x.B x.heard.length x.hcap) ∧ w.cell? ⟨b, off + k * 6 + 2, none⟩ = some (.bool x.ref) ∧ w.cell? ⟨b, off + k * 6 + 3, none⟩ = some (.int .i64 x.reading) ∧ w.cell? ⟨b, off + k * 6 + 4, none⟩ = some (.bool x.given) ∧ w.cell? ⟨b, off + k * 6 + 5, none⟩ = some (.slice x.T x.table.length x.tcap) := by
  obtain ⟨b, off, e, hlt, hc⟩ := h.cells.at inL_len (by decide) k hk
  refine ⟨b, off, e, hlt, fun x hx => ?_⟩
  subst hx
  exact ⟨hc 0 _ rfl, hc 1 _ rfl, hc 2 _ rfl, hc 3 _ rfl, hc 4 _ rfl, hc 5 _ rfl⟩
/-- A gateway's cells in a block: its Front's, and its number. -/
abbrev gateCells (me : Int) (p : Par) (s : Sta) (A : Option Addr) (cap : Nat) : Array Value := frontCellsR [.int .i64 me] p s A cap
/-- Not more than is played. -/
structure Few (s : Sta) (l : List In) : Prop where
  table : s.table.length ≤ 128
  list : l.length ≤ 12
  heard : ∀ x ∈ l, x.heard.length ≤ 40
  tables : ∀ x ∈ l, x.table.length ≤ 128
  told : ∀ x ∈ l, ∀ h ∈ x.heard, h.m.table.length ≤ 128
end Go.Proofs.YtmmiboblofopgaaGreat
