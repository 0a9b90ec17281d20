/-
  No cell of these rows narrows 'for every input' (looked for: loops, veiled, ifaces, maps, wideKeys, modest, calm, conditions, laid).
  DERIVED. THE GIVEN ROWS OF THIS SEAT. 4 by the template 'for every input the law returns true; each argument reads behind the call as it read before'; 0 by the template 'total and deterministic' (their statements: YtlbijepejihjgaaTotals.lean).
  GIVEN WITH THE SEED: the statements are not yours to turn. If you find one false, say at which input.
  Laid BY PROGRAM, IN A SANDBOX (cutbox-rows.mjs): the forced cells as the released guide's own fill.sh prints them over the translation f62fc92b2a0fc59c… (all of the seat's roots in one cut). By AI agents, Wed Nov 11 2026. No macro, syntax, notation, axiom, sorry.
-/
import Derived.Test.YtlbijepejihjgaaChecked
import GoSem.Claim
import GoSem.ClaimJoined
import GoSem.ClaimMapViews
import Derived.JoinedTies
import Derived.KernelRfl
namespace Go.Proofs.Ytlbijepejihjgaa
/- THE CELL 'sum', in the pinned program and in every row, IS THE sha256 OF THE DUMP (.gsa) THAT YtlbijepejihjgaaProg.lean LOADS. Nothing in Lean hashes anything: it is a label: what it is worth is what the hold of that sum in a sandbox is worth. -/
noncomputable def Try.pinned : Pinned := { name := "ytlbijepejihjgaa", sum := "f62fc92b2a0fc59ce0aa2933df432e459627427272a3592e5cbb4f14e4571ec8", checked := Try.checked }
namespace Rows
def none {H : Type} : Left H := { results := [], args := [] }

/-- 'clepsydralaw16.AnchorSees': WHATEVER THE INPUT: true; the input reads as it did. -/
def anchorSeesSpec : ChangeSpec := { name := "anchorSees", fn := fun _ => fun
  | [d1, d2, d3, d4] => { results := [.lit (.bool true)], args := [d1, d2, d3, d4] }
  | _ => none }
def anchorSeesRow : OpenClaim := { program := "ytlbijepejihjgaa", sum := "f62fc92b2a0fc59ce0aa2933df432e459627427272a3592e5cbb4f14e4571ec8", func := "clepsydra/clepsydralaw16.AnchorSees", spec := "anchorSees", recurses := true, apart := false }
def AnchorSeesSaid : Prop := anchorSeesRow.holds Try.pinned (OpenSpec.ofChange anchorSeesSpec)

/-- ITS FALSE NEIGHBOUR: 'it returns false'. Refute it at one input. -/
def anchorSeesWrong : ChangeSpec := { name := "anchorSees", fn := fun _ => fun
  | [d1, d2, d3, d4] => { results := [.lit (.bool false)], args := [d1, d2, d3, d4] }
  | _ => none }
def AnchorSeesWrongFalsely : Prop := anchorSeesRow.holds Try.pinned (OpenSpec.ofChange anchorSeesWrong)

/-- 'clepsydralaw16.AnchorHolds': WHATEVER THE INPUT: true; the input reads as it did. -/
def anchorHoldsSpec : ChangeSpec := { name := "anchorHolds", fn := fun _ => fun
  | [d1, d2, d3, d4] => { results := [.lit (.bool true)], args := [d1, d2, d3, d4] }
  | _ => none }
def anchorHoldsRow : OpenClaim := { program := "ytlbijepejihjgaa", sum := "f62fc92b2a0fc59ce0aa2933df432e459627427272a3592e5cbb4f14e4571ec8", func := "clepsydra/clepsydralaw16.AnchorHolds", spec := "anchorHolds", recurses := true, apart := false }
def AnchorHoldsSaid : Prop := anchorHoldsRow.holds Try.pinned (OpenSpec.ofChange anchorHoldsSpec)

/-- ITS FALSE NEIGHBOUR: 'it returns false'. Refute it at one input. -/
def anchorHoldsWrong : ChangeSpec := { name := "anchorHolds", fn := fun _ => fun
  | [d1, d2, d3, d4] => { results := [.lit (.bool false)], args := [d1, d2, d3, d4] }
  | _ => none }
def AnchorHoldsWrongFalsely : Prop := anchorHoldsRow.holds Try.pinned (OpenSpec.ofChange anchorHoldsWrong)

/-- 'clepsydralaw16.AnchorAges': WHATEVER THE INPUT: true; the input reads as it did. -/
def anchorAgesSpec : ChangeSpec := { name := "anchorAges", fn := fun _ => fun
  | [d1, d2, d3, d4] => { results := [.lit (.bool true)], args := [d1, d2, d3, d4] }
  | _ => none }
def anchorAgesRow : OpenClaim := { program := "ytlbijepejihjgaa", sum := "f62fc92b2a0fc59ce0aa2933df432e459627427272a3592e5cbb4f14e4571ec8", func := "clepsydra/clepsydralaw16.AnchorAges", spec := "anchorAges", recurses := true, apart := false }
def AnchorAgesSaid : Prop := anchorAgesRow.holds Try.pinned (OpenSpec.ofChange anchorAgesSpec)

/-- ITS FALSE NEIGHBOUR: 'it returns false'. Refute it at one input. -/
def anchorAgesWrong : ChangeSpec := { name := "anchorAges", fn := fun _ => fun
  | [d1, d2, d3, d4] => { results := [.lit (.bool false)], args := [d1, d2, d3, d4] }
  | _ => none }
def AnchorAgesWrongFalsely : Prop := anchorAgesRow.holds Try.pinned (OpenSpec.ofChange anchorAgesWrong)

/-- 'clepsydralaw16.AnchorMoves': WHATEVER THE INPUT: true; the input reads as it did. -/
def anchorMovesSpec : ChangeSpec := { name := "anchorMoves", fn := fun _ => fun
  | [d1, d2, d3] => { results := [.lit (.bool true)], args := [d1, d2, d3] }
  | _ => none }
def anchorMovesRow : OpenClaim := { program := "ytlbijepejihjgaa", sum := "f62fc92b2a0fc59ce0aa2933df432e459627427272a3592e5cbb4f14e4571ec8", func := "clepsydra/clepsydralaw16.AnchorMoves", spec := "anchorMoves", recurses := true, apart := false }
def AnchorMovesSaid : Prop := anchorMovesRow.holds Try.pinned (OpenSpec.ofChange anchorMovesSpec)

/-- ITS FALSE NEIGHBOUR: 'it returns false'. Refute it at one input. -/
def anchorMovesWrong : ChangeSpec := { name := "anchorMoves", fn := fun _ => fun
  | [d1, d2, d3] => { results := [.lit (.bool false)], args := [d1, d2, d3] }
  | _ => none }
def AnchorMovesWrongFalsely : Prop := anchorMovesRow.holds Try.pinned (OpenSpec.ofChange anchorMovesWrong)

/- THE SECOND FORM. 'bulk': how many values and letters a reading holds, each counted each time it is reached (what is shared counts as often as it is met; a slice's spare places count too). A statement '..UptoSaid' is the law's where the arguments, and the package variables that the reading takes, are together of bulk at most 1048576: NARROWER than '..Said'. Prove '..Said' where nothing that the law and all that it calls make is longer than what came in: it says more and counts as full. Else prove '..UptoSaid'. A law counts once. -/
mutual
def uptoBulk {H : Type} : DataW H → Nat
  | .lit (.string bytes) => bytes.length + 1
  | .lit _ => 1
  | .nil => 1
  | .ptr d => uptoBulk d + 1
  | .slice elems spare => uptoBulkAll elems + uptoBulkAll spare + 1
  | .agg parts => uptoBulkAll parts + 1
  | .iface _ d => uptoBulk d + 1
  | .map entries => uptoBulkEntries entries + 1
  | .held _ => 1
def uptoBulkAll {H : Type} : List (DataW H) → Nat
  | [] => 0
  | d :: r => uptoBulk d + uptoBulkAll r
def uptoBulkEntries {H : Type} : List (Lit × DataW H) → Nat
  | [] => 0
  | x :: r => uptoBulkEntry x + uptoBulkEntries r
def uptoBulkEntry {H : Type} : Lit × DataW H → Nat
  | (.string bytes, d) => bytes.length + uptoBulk d + 1
  | (_, d) => uptoBulk d + 1
 end
def uptoSmall : (H : Type) → List (DataW H) → Bool := fun _ ds => decide (uptoBulkAll ds ≤ 1048576)
def OpenSpec.upto (s : _root_.Go.ChangeSpec) : _root_.Go.OpenSpec := { _root_.Go.OpenSpec.ofChange s with cond := some uptoSmall }

/-- 'clepsydralaw16.AnchorSees', WHERE WHAT IT READS IS OF BULK AT MOST 1048576: true; the input reads as it did. -/
def anchorSeesUptoRow : OpenClaim := { program := "ytlbijepejihjgaa", sum := "f62fc92b2a0fc59ce0aa2933df432e459627427272a3592e5cbb4f14e4571ec8", func := "clepsydra/clepsydralaw16.AnchorSees", spec := "anchorSees", recurses := true, apart := false, narrowed := true }
def AnchorSeesUptoSaid : Prop := anchorSeesUptoRow.holds Try.pinned (OpenSpec.upto anchorSeesSpec)

/-- 'clepsydralaw16.AnchorHolds', WHERE WHAT IT READS IS OF BULK AT MOST 1048576: true; the input reads as it did. -/
def anchorHoldsUptoRow : OpenClaim := { program := "ytlbijepejihjgaa", sum := "f62fc92b2a0fc59ce0aa2933df432e459627427272a3592e5cbb4f14e4571ec8", func := "clepsydra/clepsydralaw16.AnchorHolds", spec := "anchorHolds", recurses := true, apart := false, narrowed := true }
def AnchorHoldsUptoSaid : Prop := anchorHoldsUptoRow.holds Try.pinned (OpenSpec.upto anchorHoldsSpec)

/-- 'clepsydralaw16.AnchorAges', WHERE WHAT IT READS IS OF BULK AT MOST 1048576: true; the input reads as it did. -/
def anchorAgesUptoRow : OpenClaim := { program := "ytlbijepejihjgaa", sum := "f62fc92b2a0fc59ce0aa2933df432e459627427272a3592e5cbb4f14e4571ec8", func := "clepsydra/clepsydralaw16.AnchorAges", spec := "anchorAges", recurses := true, apart := false, narrowed := true }
def AnchorAgesUptoSaid : Prop := anchorAgesUptoRow.holds Try.pinned (OpenSpec.upto anchorAgesSpec)

/-- 'clepsydralaw16.AnchorMoves', WHERE WHAT IT READS IS OF BULK AT MOST 1048576: true; the input reads as it did. -/
def anchorMovesUptoRow : OpenClaim := { program := "ytlbijepejihjgaa", sum := "f62fc92b2a0fc59ce0aa2933df432e459627427272a3592e5cbb4f14e4571ec8", func := "clepsydra/clepsydralaw16.AnchorMoves", spec := "anchorMoves", recurses := true, apart := false, narrowed := true }
def AnchorMovesUptoSaid : Prop := anchorMovesUptoRow.holds Try.pinned (OpenSpec.upto anchorMovesSpec)

end Rows
end Go.Proofs.Ytlbijepejihjgaa
