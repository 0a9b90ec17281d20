/-
  No cell of these rows narrows 'for every input' (looked for: loops, veiled, ifaces, maps, wideKeys, modest, calm, conditions, laid).
  DERIVED. THE GIVEN ROWS OF THIS SEAT. 6 by the template 'for every input the law returns true; each argument reads behind the call as it read before'; 0 by the template 'total and deterministic' (their statements: YtgfnfjkajahoaaaTotals.lean).
  GIVEN WITH THE SEED: the statements are not yours to turn. If you find one false, say at which input.
  Laid BY PROGRAM, IN A SANDBOX (cutbox-rows.mjs): the forced cells as the released guide's own fill.sh prints them over the translation 9dea76930b0ca879… (all of the seat's roots in one cut). By AI agents, Wed Nov 11 2026. No macro, syntax, notation, axiom, sorry.
-/
import Derived.Test.YtgfnfjkajahoaaaChecked
import GoSem.Claim
import GoSem.ClaimJoined
import GoSem.ClaimMapViews
import Derived.JoinedTies
import Derived.KernelRfl
namespace Go.Proofs.Ytgfnfjkajahoaaa
/- THE CELL 'sum', in the pinned program and in every row, IS THE sha256 OF THE DUMP (.gsa) THAT YtgfnfjkajahoaaaProg.lean LOADS. Nothing in Lean hashes anything: it is a label: what it is worth is what the hold of that sum in a sandbox is worth. -/
noncomputable def Try.pinned : Pinned := { name := "ytgfnfjkajahoaaa", sum := "9dea76930b0ca87916f3f5c53c35d699fcb13d282907f74aa48c06f5bccff2fe", checked := Try.checked }
namespace Rows
def none {H : Type} : Left H := { results := [], args := [] }

/-- 'clepsydralaw20.HlcOrders': WHATEVER THE INPUT: true; the input reads as it did. -/
def hlcOrdersSpec : ChangeSpec := { name := "hlcOrders", fn := fun _ => fun
  | [d1, d2] => { results := [.lit (.bool true)], args := [d1, d2] }
  | _ => none }
def hlcOrdersRow : OpenClaim := { program := "ytgfnfjkajahoaaa", sum := "9dea76930b0ca87916f3f5c53c35d699fcb13d282907f74aa48c06f5bccff2fe", func := "clepsydra/clepsydralaw20.HlcOrders", spec := "hlcOrders", apart := false }
def HlcOrdersSaid : Prop := hlcOrdersRow.holds Try.pinned (OpenSpec.ofChange hlcOrdersSpec)

/-- ITS FALSE NEIGHBOUR: 'it returns false'. Refute it at one input. -/
def hlcOrdersWrong : ChangeSpec := { name := "hlcOrders", fn := fun _ => fun
  | [d1, d2] => { results := [.lit (.bool false)], args := [d1, d2] }
  | _ => none }
def HlcOrdersWrongFalsely : Prop := hlcOrdersRow.holds Try.pinned (OpenSpec.ofChange hlcOrdersWrong)

/-- 'clepsydralaw20.HlcTicks': WHATEVER THE INPUT: true; the input reads as it did. -/
def hlcTicksSpec : ChangeSpec := { name := "hlcTicks", fn := fun _ => fun
  | [d1, d2, d3, d4] => { results := [.lit (.bool true)], args := [d1, d2, d3, d4] }
  | _ => none }
def hlcTicksRow : OpenClaim := { program := "ytgfnfjkajahoaaa", sum := "9dea76930b0ca87916f3f5c53c35d699fcb13d282907f74aa48c06f5bccff2fe", func := "clepsydra/clepsydralaw20.HlcTicks", spec := "hlcTicks", apart := false }
def HlcTicksSaid : Prop := hlcTicksRow.holds Try.pinned (OpenSpec.ofChange hlcTicksSpec)

/-- ITS FALSE NEIGHBOUR: 'it returns false'. Refute it at one input. -/
def hlcTicksWrong : ChangeSpec := { name := "hlcTicks", fn := fun _ => fun
  | [d1, d2, d3, d4] => { results := [.lit (.bool false)], args := [d1, d2, d3, d4] }
  | _ => none }
def HlcTicksWrongFalsely : Prop := hlcTicksRow.holds Try.pinned (OpenSpec.ofChange hlcTicksWrong)

/-- 'clepsydralaw20.HlcRises': WHATEVER THE INPUT: true; the input reads as it did. -/
def hlcRisesSpec : ChangeSpec := { name := "hlcRises", fn := fun _ => fun
  | [d1, d2, d3, d4] => { results := [.lit (.bool true)], args := [d1, d2, d3, d4] }
  | _ => none }
def hlcRisesRow : OpenClaim := { program := "ytgfnfjkajahoaaa", sum := "9dea76930b0ca87916f3f5c53c35d699fcb13d282907f74aa48c06f5bccff2fe", func := "clepsydra/clepsydralaw20.HlcRises", spec := "hlcRises", apart := false }
def HlcRisesSaid : Prop := hlcRisesRow.holds Try.pinned (OpenSpec.ofChange hlcRisesSpec)

/-- ITS FALSE NEIGHBOUR: 'it returns false'. Refute it at one input. -/
def hlcRisesWrong : ChangeSpec := { name := "hlcRises", fn := fun _ => fun
  | [d1, d2, d3, d4] => { results := [.lit (.bool false)], args := [d1, d2, d3, d4] }
  | _ => none }
def HlcRisesWrongFalsely : Prop := hlcRisesRow.holds Try.pinned (OpenSpec.ofChange hlcRisesWrong)

/-- 'clepsydralaw20.HlcBounds': WHATEVER THE INPUT: true; the input reads as it did. -/
def hlcBoundsSpec : ChangeSpec := { name := "hlcBounds", fn := fun _ => fun
  | [d1, d2, d3, d4] => { results := [.lit (.bool true)], args := [d1, d2, d3, d4] }
  | _ => none }
def hlcBoundsRow : OpenClaim := { program := "ytgfnfjkajahoaaa", sum := "9dea76930b0ca87916f3f5c53c35d699fcb13d282907f74aa48c06f5bccff2fe", func := "clepsydra/clepsydralaw20.HlcBounds", spec := "hlcBounds", apart := false }
def HlcBoundsSaid : Prop := hlcBoundsRow.holds Try.pinned (OpenSpec.ofChange hlcBoundsSpec)

/-- ITS FALSE NEIGHBOUR: 'it returns false'. Refute it at one input. -/
def hlcBoundsWrong : ChangeSpec := { name := "hlcBounds", fn := fun _ => fun
  | [d1, d2, d3, d4] => { results := [.lit (.bool false)], args := [d1, d2, d3, d4] }
  | _ => none }
def HlcBoundsWrongFalsely : Prop := hlcBoundsRow.holds Try.pinned (OpenSpec.ofChange hlcBoundsWrong)

/-- 'clepsydralaw20.HlcAhead': WHATEVER THE INPUT: true; the input reads as it did. -/
def hlcAheadSpec : ChangeSpec := { name := "hlcAhead", fn := fun _ => fun
  | [d1, d2] => { results := [.lit (.bool true)], args := [d1, d2] }
  | _ => none }
def hlcAheadRow : OpenClaim := { program := "ytgfnfjkajahoaaa", sum := "9dea76930b0ca87916f3f5c53c35d699fcb13d282907f74aa48c06f5bccff2fe", func := "clepsydra/clepsydralaw20.HlcAhead", spec := "hlcAhead", apart := false }
def HlcAheadSaid : Prop := hlcAheadRow.holds Try.pinned (OpenSpec.ofChange hlcAheadSpec)

/-- ITS FALSE NEIGHBOUR: 'it returns false'. Refute it at one input. -/
def hlcAheadWrong : ChangeSpec := { name := "hlcAhead", fn := fun _ => fun
  | [d1, d2] => { results := [.lit (.bool false)], args := [d1, d2] }
  | _ => none }
def HlcAheadWrongFalsely : Prop := hlcAheadRow.holds Try.pinned (OpenSpec.ofChange hlcAheadWrong)

/-- 'clepsydralaw20.HlcLeads': WHATEVER THE INPUT: true; the input reads as it did. -/
def hlcLeadsSpec : ChangeSpec := { name := "hlcLeads", fn := fun _ => fun
  | [d1, d2, d3, d4] => { results := [.lit (.bool true)], args := [d1, d2, d3, d4] }
  | _ => none }
def hlcLeadsRow : OpenClaim := { program := "ytgfnfjkajahoaaa", sum := "9dea76930b0ca87916f3f5c53c35d699fcb13d282907f74aa48c06f5bccff2fe", func := "clepsydra/clepsydralaw20.HlcLeads", spec := "hlcLeads", apart := false }
def HlcLeadsSaid : Prop := hlcLeadsRow.holds Try.pinned (OpenSpec.ofChange hlcLeadsSpec)

/-- ITS FALSE NEIGHBOUR: 'it returns false'. Refute it at one input. -/
def hlcLeadsWrong : ChangeSpec := { name := "hlcLeads", fn := fun _ => fun
  | [d1, d2, d3, d4] => { results := [.lit (.bool false)], args := [d1, d2, d3, d4] }
  | _ => none }
def HlcLeadsWrongFalsely : Prop := hlcLeadsRow.holds Try.pinned (OpenSpec.ofChange hlcLeadsWrong)

/- THE SECOND FORM. 'bulk': how many values and letters a reading holds, each counted each time it is reached (what is shared counts as often as it is met; a slice's spare places count too). A statement '..UptoSaid' is the law's where the arguments, and the package variables that the reading takes, are together of bulk at most 1048576: NARROWER than '..Said'. Prove '..Said' where nothing that the law and all that it calls make is longer than what came in: it says more and counts as full. Else prove '..UptoSaid'. A law counts once. -/
mutual
def uptoBulk {H : Type} : DataW H → Nat
  | .lit (.string bytes) => bytes.length + 1
  | .lit _ => 1
  | .nil => 1
  | .ptr d => uptoBulk d + 1
  | .slice elems spare => uptoBulkAll elems + uptoBulkAll spare + 1
  | .agg parts => uptoBulkAll parts + 1
  | .iface _ d => uptoBulk d + 1
  | .map entries => uptoBulkEntries entries + 1
  | .held _ => 1
def uptoBulkAll {H : Type} : List (DataW H) → Nat
  | [] => 0
  | d :: r => uptoBulk d + uptoBulkAll r
def uptoBulkEntries {H : Type} : List (Lit × DataW H) → Nat
  | [] => 0
  | x :: r => uptoBulkEntry x + uptoBulkEntries r
def uptoBulkEntry {H : Type} : Lit × DataW H → Nat
  | (.string bytes, d) => bytes.length + uptoBulk d + 1
  | (_, d) => uptoBulk d + 1
 end
def uptoSmall : (H : Type) → List (DataW H) → Bool := fun _ ds => decide (uptoBulkAll ds ≤ 1048576)
def OpenSpec.upto (s : _root_.Go.ChangeSpec) : _root_.Go.OpenSpec := { _root_.Go.OpenSpec.ofChange s with cond := some uptoSmall }

/-- 'clepsydralaw20.HlcOrders', WHERE WHAT IT READS IS OF BULK AT MOST 1048576: true; the input reads as it did. -/
def hlcOrdersUptoRow : OpenClaim := { program := "ytgfnfjkajahoaaa", sum := "9dea76930b0ca87916f3f5c53c35d699fcb13d282907f74aa48c06f5bccff2fe", func := "clepsydra/clepsydralaw20.HlcOrders", spec := "hlcOrders", apart := false, narrowed := true }
def HlcOrdersUptoSaid : Prop := hlcOrdersUptoRow.holds Try.pinned (OpenSpec.upto hlcOrdersSpec)

/-- 'clepsydralaw20.HlcTicks', WHERE WHAT IT READS IS OF BULK AT MOST 1048576: true; the input reads as it did. -/
def hlcTicksUptoRow : OpenClaim := { program := "ytgfnfjkajahoaaa", sum := "9dea76930b0ca87916f3f5c53c35d699fcb13d282907f74aa48c06f5bccff2fe", func := "clepsydra/clepsydralaw20.HlcTicks", spec := "hlcTicks", apart := false, narrowed := true }
def HlcTicksUptoSaid : Prop := hlcTicksUptoRow.holds Try.pinned (OpenSpec.upto hlcTicksSpec)

/-- 'clepsydralaw20.HlcRises', WHERE WHAT IT READS IS OF BULK AT MOST 1048576: true; the input reads as it did. -/
def hlcRisesUptoRow : OpenClaim := { program := "ytgfnfjkajahoaaa", sum := "9dea76930b0ca87916f3f5c53c35d699fcb13d282907f74aa48c06f5bccff2fe", func := "clepsydra/clepsydralaw20.HlcRises", spec := "hlcRises", apart := false, narrowed := true }
def HlcRisesUptoSaid : Prop := hlcRisesUptoRow.holds Try.pinned (OpenSpec.upto hlcRisesSpec)

/-- 'clepsydralaw20.HlcBounds', WHERE WHAT IT READS IS OF BULK AT MOST 1048576: true; the input reads as it did. -/
def hlcBoundsUptoRow : OpenClaim := { program := "ytgfnfjkajahoaaa", sum := "9dea76930b0ca87916f3f5c53c35d699fcb13d282907f74aa48c06f5bccff2fe", func := "clepsydra/clepsydralaw20.HlcBounds", spec := "hlcBounds", apart := false, narrowed := true }
def HlcBoundsUptoSaid : Prop := hlcBoundsUptoRow.holds Try.pinned (OpenSpec.upto hlcBoundsSpec)

/-- 'clepsydralaw20.HlcAhead', WHERE WHAT IT READS IS OF BULK AT MOST 1048576: true; the input reads as it did. -/
def hlcAheadUptoRow : OpenClaim := { program := "ytgfnfjkajahoaaa", sum := "9dea76930b0ca87916f3f5c53c35d699fcb13d282907f74aa48c06f5bccff2fe", func := "clepsydra/clepsydralaw20.HlcAhead", spec := "hlcAhead", apart := false, narrowed := true }
def HlcAheadUptoSaid : Prop := hlcAheadUptoRow.holds Try.pinned (OpenSpec.upto hlcAheadSpec)

/-- 'clepsydralaw20.HlcLeads', WHERE WHAT IT READS IS OF BULK AT MOST 1048576: true; the input reads as it did. -/
def hlcLeadsUptoRow : OpenClaim := { program := "ytgfnfjkajahoaaa", sum := "9dea76930b0ca87916f3f5c53c35d699fcb13d282907f74aa48c06f5bccff2fe", func := "clepsydra/clepsydralaw20.HlcLeads", spec := "hlcLeads", apart := false, narrowed := true }
def HlcLeadsUptoSaid : Prop := hlcLeadsUptoRow.holds Try.pinned (OpenSpec.upto hlcLeadsSpec)

end Rows
end Go.Proofs.Ytgfnfjkajahoaaa
