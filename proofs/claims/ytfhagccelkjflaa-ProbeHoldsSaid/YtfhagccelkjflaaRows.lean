/-
  No cell of these rows narrows 'for every input' (looked for: loops, veiled, ifaces, maps, wideKeys, modest, calm, conditions, laid).
  DERIVED. THE GIVEN ROWS OF THIS SEAT. 4 by the template 'for every input the law returns true; each argument reads behind the call as it read before'; 0 by the template 'total and deterministic' (their statements: YtfhagccelkjflaaTotals.lean).
  GIVEN WITH THE SEED: the statements are not yours to turn. If you find one false, say at which input.
  Laid BY PROGRAM, IN A SANDBOX (cutbox-rows.mjs): the forced cells as the released guide's own fill.sh prints them over the translation c55d600301bc7f55… (all of the seat's roots in one cut). By AI agents, Wed Nov 11 2026. No macro, syntax, notation, axiom, sorry.
-/
import Derived.Test.YtfhagccelkjflaaChecked
import GoSem.Claim
import GoSem.ClaimJoined
import GoSem.ClaimMapViews
import Derived.JoinedTies
import Derived.KernelRfl
namespace Go.Proofs.Ytfhagccelkjflaa
/- THE CELL 'sum', in the pinned program and in every row, IS THE sha256 OF THE DUMP (.gsa) THAT YtfhagccelkjflaaProg.lean LOADS. Nothing in Lean hashes anything: it is a label: what it is worth is what the hold of that sum in a sandbox is worth. -/
noncomputable def Try.pinned : Pinned := { name := "ytfhagccelkjflaa", sum := "c55d600301bc7f550313bb9a93cb08f8bb20122adad3a80624fa04f3fd3e4b3a", checked := Try.checked }
namespace Rows
def none {H : Type} : Left H := { results := [], args := [] }

/-- 'clepsydralaw10.ProbeTells': WHATEVER THE INPUT: true; the input reads as it did. -/
def probeTellsSpec : ChangeSpec := { name := "probeTells", fn := fun _ => fun
  | [d1, d2] => { results := [.lit (.bool true)], args := [d1, d2] }
  | _ => none }
def probeTellsRow : OpenClaim := { program := "ytfhagccelkjflaa", sum := "c55d600301bc7f550313bb9a93cb08f8bb20122adad3a80624fa04f3fd3e4b3a", func := "clepsydra/clepsydralaw10.ProbeTells", spec := "probeTells", recurses := true, apart := false }
def ProbeTellsSaid : Prop := probeTellsRow.holds Try.pinned (OpenSpec.ofChange probeTellsSpec)

/-- ITS FALSE NEIGHBOUR: 'it returns false'. Refute it at one input. -/
def probeTellsWrong : ChangeSpec := { name := "probeTells", fn := fun _ => fun
  | [d1, d2] => { results := [.lit (.bool false)], args := [d1, d2] }
  | _ => none }
def ProbeTellsWrongFalsely : Prop := probeTellsRow.holds Try.pinned (OpenSpec.ofChange probeTellsWrong)

/-- 'clepsydralaw10.ProbeBest': WHATEVER THE INPUT: true; the input reads as it did. -/
def probeBestSpec : ChangeSpec := { name := "probeBest", fn := fun _ => fun
  | [d1, d2] => { results := [.lit (.bool true)], args := [d1, d2] }
  | _ => none }
def probeBestRow : OpenClaim := { program := "ytfhagccelkjflaa", sum := "c55d600301bc7f550313bb9a93cb08f8bb20122adad3a80624fa04f3fd3e4b3a", func := "clepsydra/clepsydralaw10.ProbeBest", spec := "probeBest", recurses := true, apart := false }
def ProbeBestSaid : Prop := probeBestRow.holds Try.pinned (OpenSpec.ofChange probeBestSpec)

/-- ITS FALSE NEIGHBOUR: 'it returns false'. Refute it at one input. -/
def probeBestWrong : ChangeSpec := { name := "probeBest", fn := fun _ => fun
  | [d1, d2] => { results := [.lit (.bool false)], args := [d1, d2] }
  | _ => none }
def ProbeBestWrongFalsely : Prop := probeBestRow.holds Try.pinned (OpenSpec.ofChange probeBestWrong)

/-- 'clepsydralaw10.ProbeHolds': WHATEVER THE INPUT: true; the input reads as it did. -/
def probeHoldsSpec : ChangeSpec := { name := "probeHolds", fn := fun _ => fun
  | [d1, d2, d3, d4, d5, d6, d7] => { results := [.lit (.bool true)], args := [d1, d2, d3, d4, d5, d6, d7] }
  | _ => none }
def probeHoldsRow : OpenClaim := { program := "ytfhagccelkjflaa", sum := "c55d600301bc7f550313bb9a93cb08f8bb20122adad3a80624fa04f3fd3e4b3a", func := "clepsydra/clepsydralaw10.ProbeHolds", spec := "probeHolds", apart := false }
def ProbeHoldsSaid : Prop := probeHoldsRow.holds Try.pinned (OpenSpec.ofChange probeHoldsSpec)

/-- ITS FALSE NEIGHBOUR: 'it returns false'. Refute it at one input. -/
def probeHoldsWrong : ChangeSpec := { name := "probeHolds", fn := fun _ => fun
  | [d1, d2, d3, d4, d5, d6, d7] => { results := [.lit (.bool false)], args := [d1, d2, d3, d4, d5, d6, d7] }
  | _ => none }
def ProbeHoldsWrongFalsely : Prop := probeHoldsRow.holds Try.pinned (OpenSpec.ofChange probeHoldsWrong)

/-- 'clepsydralaw10.ProbeNarrows': WHATEVER THE INPUT: true; the input reads as it did. -/
def probeNarrowsSpec : ChangeSpec := { name := "probeNarrows", fn := fun _ => fun
  | [d1, d2, d3] => { results := [.lit (.bool true)], args := [d1, d2, d3] }
  | _ => none }
def probeNarrowsRow : OpenClaim := { program := "ytfhagccelkjflaa", sum := "c55d600301bc7f550313bb9a93cb08f8bb20122adad3a80624fa04f3fd3e4b3a", func := "clepsydra/clepsydralaw10.ProbeNarrows", spec := "probeNarrows", apart := false }
def ProbeNarrowsSaid : Prop := probeNarrowsRow.holds Try.pinned (OpenSpec.ofChange probeNarrowsSpec)

/-- ITS FALSE NEIGHBOUR: 'it returns false'. Refute it at one input. -/
def probeNarrowsWrong : ChangeSpec := { name := "probeNarrows", fn := fun _ => fun
  | [d1, d2, d3] => { results := [.lit (.bool false)], args := [d1, d2, d3] }
  | _ => none }
def ProbeNarrowsWrongFalsely : Prop := probeNarrowsRow.holds Try.pinned (OpenSpec.ofChange probeNarrowsWrong)

/- THE SECOND FORM. 'bulk': how many values and letters a reading holds, each counted each time it is reached (what is shared counts as often as it is met; a slice's spare places count too). A statement '..UptoSaid' is the law's where the arguments, and the package variables that the reading takes, are together of bulk at most 1048576: NARROWER than '..Said'. Prove '..Said' where nothing that the law and all that it calls make is longer than what came in: it says more and counts as full. Else prove '..UptoSaid'. A law counts once. -/
mutual
def uptoBulk {H : Type} : DataW H → Nat
  | .lit (.string bytes) => bytes.length + 1
  | .lit _ => 1
  | .nil => 1
  | .ptr d => uptoBulk d + 1
  | .slice elems spare => uptoBulkAll elems + uptoBulkAll spare + 1
  | .agg parts => uptoBulkAll parts + 1
  | .iface _ d => uptoBulk d + 1
  | .map entries => uptoBulkEntries entries + 1
  | .held _ => 1
def uptoBulkAll {H : Type} : List (DataW H) → Nat
  | [] => 0
  | d :: r => uptoBulk d + uptoBulkAll r
def uptoBulkEntries {H : Type} : List (Lit × DataW H) → Nat
  | [] => 0
  | x :: r => uptoBulkEntry x + uptoBulkEntries r
def uptoBulkEntry {H : Type} : Lit × DataW H → Nat
  | (.string bytes, d) => bytes.length + uptoBulk d + 1
  | (_, d) => uptoBulk d + 1
 end
def uptoSmall : (H : Type) → List (DataW H) → Bool := fun _ ds => decide (uptoBulkAll ds ≤ 1048576)
def OpenSpec.upto (s : _root_.Go.ChangeSpec) : _root_.Go.OpenSpec := { _root_.Go.OpenSpec.ofChange s with cond := some uptoSmall }

/-- 'clepsydralaw10.ProbeTells', WHERE WHAT IT READS IS OF BULK AT MOST 1048576: true; the input reads as it did. -/
def probeTellsUptoRow : OpenClaim := { program := "ytfhagccelkjflaa", sum := "c55d600301bc7f550313bb9a93cb08f8bb20122adad3a80624fa04f3fd3e4b3a", func := "clepsydra/clepsydralaw10.ProbeTells", spec := "probeTells", recurses := true, apart := false, narrowed := true }
def ProbeTellsUptoSaid : Prop := probeTellsUptoRow.holds Try.pinned (OpenSpec.upto probeTellsSpec)

/-- 'clepsydralaw10.ProbeBest', WHERE WHAT IT READS IS OF BULK AT MOST 1048576: true; the input reads as it did. -/
def probeBestUptoRow : OpenClaim := { program := "ytfhagccelkjflaa", sum := "c55d600301bc7f550313bb9a93cb08f8bb20122adad3a80624fa04f3fd3e4b3a", func := "clepsydra/clepsydralaw10.ProbeBest", spec := "probeBest", recurses := true, apart := false, narrowed := true }
def ProbeBestUptoSaid : Prop := probeBestUptoRow.holds Try.pinned (OpenSpec.upto probeBestSpec)

/-- 'clepsydralaw10.ProbeHolds', WHERE WHAT IT READS IS OF BULK AT MOST 1048576: true; the input reads as it did. -/
def probeHoldsUptoRow : OpenClaim := { program := "ytfhagccelkjflaa", sum := "c55d600301bc7f550313bb9a93cb08f8bb20122adad3a80624fa04f3fd3e4b3a", func := "clepsydra/clepsydralaw10.ProbeHolds", spec := "probeHolds", apart := false, narrowed := true }
def ProbeHoldsUptoSaid : Prop := probeHoldsUptoRow.holds Try.pinned (OpenSpec.upto probeHoldsSpec)

/-- 'clepsydralaw10.ProbeNarrows', WHERE WHAT IT READS IS OF BULK AT MOST 1048576: true; the input reads as it did. -/
def probeNarrowsUptoRow : OpenClaim := { program := "ytfhagccelkjflaa", sum := "c55d600301bc7f550313bb9a93cb08f8bb20122adad3a80624fa04f3fd3e4b3a", func := "clepsydra/clepsydralaw10.ProbeNarrows", spec := "probeNarrows", apart := false, narrowed := true }
def ProbeNarrowsUptoSaid : Prop := probeNarrowsUptoRow.holds Try.pinned (OpenSpec.upto probeNarrowsSpec)

end Rows
end Go.Proofs.Ytfhagccelkjflaa
