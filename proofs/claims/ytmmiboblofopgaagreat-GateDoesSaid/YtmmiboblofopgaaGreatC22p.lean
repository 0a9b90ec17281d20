/- What the program's calls of layer 22 do. -/
import Derived.Test.YtmmiboblofopgaaGreatC22w
namespace Go.Proofs.YtmmiboblofopgaaGreat
open Go.RowKit
set_option linter.unusedVariables false
/-- The state behind a beat. -/
def Gate.after (p : Par) (me : Int) (s : Sta) (x : In) : Sta := Health.stamped (Gate.state p me s x.ticks x.ref x.reading x.hds x.given x.table)
/-- What is told then. -/
noncomputable def Gate.tells (p : Par) (me : Int) (s : Sta) (x : In) : Msg := Gate.say p (Gate.state p me s x.ticks x.ref x.reading x.hds x.given x.table) 1 me (Gate.reads p x.ref x.reading) (Gate.sees p x.ref x.reading)
structure GateWorks : Prop where
  new : ∀ (p : Par) (me : Int) (s : Sta) (A : Option Addr) (cap : Nat) (w : World) (hA : PairsAt w A s.table) (hl : s.table.length ≤ 9223372036854775807), Calls Tryz.prog 10 #[parV p, .int .i64 me, staV s A cap] w fun e w' => ∃ (G : Nat) (A2 : Option Addr) (c2 : Nat), e = .returned (.pointer (some ⟨G, 0, none⟩)) ∧ Own w' G (gateCells me p (Health.sane p s) A2 c2) ∧ TabRow w.heap.size w' A2 c2 (Health.sane p s).table ∧ w.heap.size ≤ G ∧ (∀ a, A2 = some a → a.block ≠ G) ∧ Ok w w'
  beat : ∀ (G : Nat) (p : Par) (me : Int) (s : Sta) (A : Option Addr) (cap : Nat) (x : In) (w : World) (hO : Own w G (gateCells me p s A cap)) (hA : PairsAt w A s.table) (hAG : ∀ a, A = some a → a.block ≠ G) (hl : s.table.length ≤ 9223372036854775807) (hx : InAt w x) (hh : x.heard.length ≤ 1000) (ht : x.table.length ≤ 9223372036854775807) (hf : -9223372036854775808 ≤ p.f ∧ p.f ≤ 9223372036854775807) (hd : ∀ h ∈ x.heard, h.m.table.length ≤ 8796093022208), Calls Tryz.prog 16 #[.pointer (some ⟨G, 0, none⟩), inV x] w fun e w' => ∃ (A3 : Option Addr) (c3 : Nat) (A2 : Option Addr) (c2 : Nat), e = .returned (msgV (Gate.tells p me s x) A3 c3) ∧ Own w' G (gateCells me p (Gate.after p me s x) A2 c2) ∧ TabRow w.heap.size w' A2 c2 (Gate.after p me s x).table ∧ TabRow w.heap.size w' A3 c3 (Gate.after p me s x).table ∧ Only G w w'
end Go.Proofs.YtmmiboblofopgaaGreat
