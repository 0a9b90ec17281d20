/-
  No cell of these rows narrows 'for every input' (looked for: loops, veiled, ifaces, maps, wideKeys, modest, calm, conditions, laid).
  DERIVED. THE GIVEN ROWS OF THIS SEAT. 6 by the template 'for every input the law returns true; each argument reads behind the call as it read before'; 0 by the template 'total and deterministic' (their statements: YteoilfeldehldaaTotals.lean).
  GIVEN WITH THE SEED: the statements are not yours to turn. If you find one false, say at which input.
  Laid BY PROGRAM, IN A SANDBOX (cutbox-rows.mjs): the forced cells as the released guide's own fill.sh prints them over the translation 42278123c191af23… (all of the seat's roots in one cut). By AI agents, Wed Nov 11 2026. No macro, syntax, notation, axiom, sorry.
-/
import Derived.Test.YteoilfeldehldaaChecked
import GoSem.Claim
import GoSem.ClaimJoined
import GoSem.ClaimMapViews
import Derived.JoinedTies
import Derived.KernelRfl
namespace Go.Proofs.Yteoilfeldehldaa
/- THE CELL 'sum', in the pinned program and in every row, IS THE sha256 OF THE DUMP (.gsa) THAT YteoilfeldehldaaProg.lean LOADS. Nothing in Lean hashes anything: it is a label: what it is worth is what the hold of that sum in a sandbox is worth. -/
noncomputable def Try.pinned : Pinned := { name := "yteoilfeldehldaa", sum := "42278123c191af23a03449a0e6da303435114e0b43c71d9c27bed7aec54acc4e", checked := Try.checked }
namespace Rows
def none {H : Type} : Left H := { results := [], args := [] }

/-- 'clepsydralaw11.CarryMoves': WHATEVER THE INPUT: true; the input reads as it did. -/
def carryMovesSpec : ChangeSpec := { name := "carryMoves", fn := fun _ => fun
  | [d1, d2, d3] => { results := [.lit (.bool true)], args := [d1, d2, d3] }
  | _ => none }
def carryMovesRow : OpenClaim := { program := "yteoilfeldehldaa", sum := "42278123c191af23a03449a0e6da303435114e0b43c71d9c27bed7aec54acc4e", func := "clepsydra/clepsydralaw11.CarryMoves", spec := "carryMoves", apart := false }
def CarryMovesSaid : Prop := carryMovesRow.holds Try.pinned (OpenSpec.ofChange carryMovesSpec)

/-- ITS FALSE NEIGHBOUR: 'it returns false'. Refute it at one input. -/
def carryMovesWrong : ChangeSpec := { name := "carryMoves", fn := fun _ => fun
  | [d1, d2, d3] => { results := [.lit (.bool false)], args := [d1, d2, d3] }
  | _ => none }
def CarryMovesWrongFalsely : Prop := carryMovesRow.holds Try.pinned (OpenSpec.ofChange carryMovesWrong)

/-- 'clepsydralaw11.CarryHolds': WHATEVER THE INPUT: true; the input reads as it did. -/
def carryHoldsSpec : ChangeSpec := { name := "carryHolds", fn := fun _ => fun
  | [d1, d2, d3, d4] => { results := [.lit (.bool true)], args := [d1, d2, d3, d4] }
  | _ => none }
def carryHoldsRow : OpenClaim := { program := "yteoilfeldehldaa", sum := "42278123c191af23a03449a0e6da303435114e0b43c71d9c27bed7aec54acc4e", func := "clepsydra/clepsydralaw11.CarryHolds", spec := "carryHolds", apart := false }
def CarryHoldsSaid : Prop := carryHoldsRow.holds Try.pinned (OpenSpec.ofChange carryHoldsSpec)

/-- ITS FALSE NEIGHBOUR: 'it returns false'. Refute it at one input. -/
def carryHoldsWrong : ChangeSpec := { name := "carryHolds", fn := fun _ => fun
  | [d1, d2, d3, d4] => { results := [.lit (.bool false)], args := [d1, d2, d3, d4] }
  | _ => none }
def CarryHoldsWrongFalsely : Prop := carryHoldsRow.holds Try.pinned (OpenSpec.ofChange carryHoldsWrong)

/-- 'clepsydralaw11.CarryBrings': WHATEVER THE INPUT: true; the input reads as it did. -/
def carryBringsSpec : ChangeSpec := { name := "carryBrings", fn := fun _ => fun
  | [d1, d2, d3, d4, d5] => { results := [.lit (.bool true)], args := [d1, d2, d3, d4, d5] }
  | _ => none }
def carryBringsRow : OpenClaim := { program := "yteoilfeldehldaa", sum := "42278123c191af23a03449a0e6da303435114e0b43c71d9c27bed7aec54acc4e", func := "clepsydra/clepsydralaw11.CarryBrings", spec := "carryBrings", apart := false }
def CarryBringsSaid : Prop := carryBringsRow.holds Try.pinned (OpenSpec.ofChange carryBringsSpec)

/-- ITS FALSE NEIGHBOUR: 'it returns false'. Refute it at one input. -/
def carryBringsWrong : ChangeSpec := { name := "carryBrings", fn := fun _ => fun
  | [d1, d2, d3, d4, d5] => { results := [.lit (.bool false)], args := [d1, d2, d3, d4, d5] }
  | _ => none }
def CarryBringsWrongFalsely : Prop := carryBringsRow.holds Try.pinned (OpenSpec.ofChange carryBringsWrong)

/-- 'clepsydralaw11.CarryAges': WHATEVER THE INPUT: true; the input reads as it did. -/
def carryAgesSpec : ChangeSpec := { name := "carryAges", fn := fun _ => fun
  | [d1, d2, d3, d4] => { results := [.lit (.bool true)], args := [d1, d2, d3, d4] }
  | _ => none }
def carryAgesRow : OpenClaim := { program := "yteoilfeldehldaa", sum := "42278123c191af23a03449a0e6da303435114e0b43c71d9c27bed7aec54acc4e", func := "clepsydra/clepsydralaw11.CarryAges", spec := "carryAges", apart := false }
def CarryAgesSaid : Prop := carryAgesRow.holds Try.pinned (OpenSpec.ofChange carryAgesSpec)

/-- ITS FALSE NEIGHBOUR: 'it returns false'. Refute it at one input. -/
def carryAgesWrong : ChangeSpec := { name := "carryAges", fn := fun _ => fun
  | [d1, d2, d3, d4] => { results := [.lit (.bool false)], args := [d1, d2, d3, d4] }
  | _ => none }
def CarryAgesWrongFalsely : Prop := carryAgesRow.holds Try.pinned (OpenSpec.ofChange carryAgesWrong)

/-- 'clepsydralaw11.CarryWidens': WHATEVER THE INPUT: true; the input reads as it did. -/
def carryWidensSpec : ChangeSpec := { name := "carryWidens", fn := fun _ => fun
  | [d1, d2, d3] => { results := [.lit (.bool true)], args := [d1, d2, d3] }
  | _ => none }
def carryWidensRow : OpenClaim := { program := "yteoilfeldehldaa", sum := "42278123c191af23a03449a0e6da303435114e0b43c71d9c27bed7aec54acc4e", func := "clepsydra/clepsydralaw11.CarryWidens", spec := "carryWidens", apart := false }
def CarryWidensSaid : Prop := carryWidensRow.holds Try.pinned (OpenSpec.ofChange carryWidensSpec)

/-- ITS FALSE NEIGHBOUR: 'it returns false'. Refute it at one input. -/
def carryWidensWrong : ChangeSpec := { name := "carryWidens", fn := fun _ => fun
  | [d1, d2, d3] => { results := [.lit (.bool false)], args := [d1, d2, d3] }
  | _ => none }
def CarryWidensWrongFalsely : Prop := carryWidensRow.holds Try.pinned (OpenSpec.ofChange carryWidensWrong)

/-- 'clepsydralaw11.CarryWithin': WHATEVER THE INPUT: true; the input reads as it did. -/
def carryWithinSpec : ChangeSpec := { name := "carryWithin", fn := fun _ => fun
  | [d1, d2, d3, d4, d5] => { results := [.lit (.bool true)], args := [d1, d2, d3, d4, d5] }
  | _ => none }
def carryWithinRow : OpenClaim := { program := "yteoilfeldehldaa", sum := "42278123c191af23a03449a0e6da303435114e0b43c71d9c27bed7aec54acc4e", func := "clepsydra/clepsydralaw11.CarryWithin", spec := "carryWithin", apart := false }
def CarryWithinSaid : Prop := carryWithinRow.holds Try.pinned (OpenSpec.ofChange carryWithinSpec)

/-- ITS FALSE NEIGHBOUR: 'it returns false'. Refute it at one input. -/
def carryWithinWrong : ChangeSpec := { name := "carryWithin", fn := fun _ => fun
  | [d1, d2, d3, d4, d5] => { results := [.lit (.bool false)], args := [d1, d2, d3, d4, d5] }
  | _ => none }
def CarryWithinWrongFalsely : Prop := carryWithinRow.holds Try.pinned (OpenSpec.ofChange carryWithinWrong)

/- THE SECOND FORM. 'bulk': how many values and letters a reading holds, each counted each time it is reached (what is shared counts as often as it is met; a slice's spare places count too). A statement '..UptoSaid' is the law's where the arguments, and the package variables that the reading takes, are together of bulk at most 1048576: NARROWER than '..Said'. Prove '..Said' where nothing that the law and all that it calls make is longer than what came in: it says more and counts as full. Else prove '..UptoSaid'. A law counts once. -/
mutual
def uptoBulk {H : Type} : DataW H → Nat
  | .lit (.string bytes) => bytes.length + 1
  | .lit _ => 1
  | .nil => 1
  | .ptr d => uptoBulk d + 1
  | .slice elems spare => uptoBulkAll elems + uptoBulkAll spare + 1
  | .agg parts => uptoBulkAll parts + 1
  | .iface _ d => uptoBulk d + 1
  | .map entries => uptoBulkEntries entries + 1
  | .held _ => 1
def uptoBulkAll {H : Type} : List (DataW H) → Nat
  | [] => 0
  | d :: r => uptoBulk d + uptoBulkAll r
def uptoBulkEntries {H : Type} : List (Lit × DataW H) → Nat
  | [] => 0
  | x :: r => uptoBulkEntry x + uptoBulkEntries r
def uptoBulkEntry {H : Type} : Lit × DataW H → Nat
  | (.string bytes, d) => bytes.length + uptoBulk d + 1
  | (_, d) => uptoBulk d + 1
 end
def uptoSmall : (H : Type) → List (DataW H) → Bool := fun _ ds => decide (uptoBulkAll ds ≤ 1048576)
def OpenSpec.upto (s : _root_.Go.ChangeSpec) : _root_.Go.OpenSpec := { _root_.Go.OpenSpec.ofChange s with cond := some uptoSmall }

/-- 'clepsydralaw11.CarryMoves', WHERE WHAT IT READS IS OF BULK AT MOST 1048576: true; the input reads as it did. -/
def carryMovesUptoRow : OpenClaim := { program := "yteoilfeldehldaa", sum := "42278123c191af23a03449a0e6da303435114e0b43c71d9c27bed7aec54acc4e", func := "clepsydra/clepsydralaw11.CarryMoves", spec := "carryMoves", apart := false, narrowed := true }
def CarryMovesUptoSaid : Prop := carryMovesUptoRow.holds Try.pinned (OpenSpec.upto carryMovesSpec)

/-- 'clepsydralaw11.CarryHolds', WHERE WHAT IT READS IS OF BULK AT MOST 1048576: true; the input reads as it did. -/
def carryHoldsUptoRow : OpenClaim := { program := "yteoilfeldehldaa", sum := "42278123c191af23a03449a0e6da303435114e0b43c71d9c27bed7aec54acc4e", func := "clepsydra/clepsydralaw11.CarryHolds", spec := "carryHolds", apart := false, narrowed := true }
def CarryHoldsUptoSaid : Prop := carryHoldsUptoRow.holds Try.pinned (OpenSpec.upto carryHoldsSpec)

/-- 'clepsydralaw11.CarryBrings', WHERE WHAT IT READS IS OF BULK AT MOST 1048576: true; the input reads as it did. -/
def carryBringsUptoRow : OpenClaim := { program := "yteoilfeldehldaa", sum := "42278123c191af23a03449a0e6da303435114e0b43c71d9c27bed7aec54acc4e", func := "clepsydra/clepsydralaw11.CarryBrings", spec := "carryBrings", apart := false, narrowed := true }
def CarryBringsUptoSaid : Prop := carryBringsUptoRow.holds Try.pinned (OpenSpec.upto carryBringsSpec)

/-- 'clepsydralaw11.CarryAges', WHERE WHAT IT READS IS OF BULK AT MOST 1048576: true; the input reads as it did. -/
def carryAgesUptoRow : OpenClaim := { program := "yteoilfeldehldaa", sum := "42278123c191af23a03449a0e6da303435114e0b43c71d9c27bed7aec54acc4e", func := "clepsydra/clepsydralaw11.CarryAges", spec := "carryAges", apart := false, narrowed := true }
def CarryAgesUptoSaid : Prop := carryAgesUptoRow.holds Try.pinned (OpenSpec.upto carryAgesSpec)

/-- 'clepsydralaw11.CarryWidens', WHERE WHAT IT READS IS OF BULK AT MOST 1048576: true; the input reads as it did. -/
def carryWidensUptoRow : OpenClaim := { program := "yteoilfeldehldaa", sum := "42278123c191af23a03449a0e6da303435114e0b43c71d9c27bed7aec54acc4e", func := "clepsydra/clepsydralaw11.CarryWidens", spec := "carryWidens", apart := false, narrowed := true }
def CarryWidensUptoSaid : Prop := carryWidensUptoRow.holds Try.pinned (OpenSpec.upto carryWidensSpec)

/-- 'clepsydralaw11.CarryWithin', WHERE WHAT IT READS IS OF BULK AT MOST 1048576: true; the input reads as it did. -/
def carryWithinUptoRow : OpenClaim := { program := "yteoilfeldehldaa", sum := "42278123c191af23a03449a0e6da303435114e0b43c71d9c27bed7aec54acc4e", func := "clepsydra/clepsydralaw11.CarryWithin", spec := "carryWithin", apart := false, narrowed := true }
def CarryWithinUptoSaid : Prop := carryWithinUptoRow.holds Try.pinned (OpenSpec.upto carryWithinSpec)

end Rows
end Go.Proofs.Yteoilfeldehldaa
