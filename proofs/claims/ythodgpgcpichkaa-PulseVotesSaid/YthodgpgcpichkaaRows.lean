/-
  No cell of these rows narrows 'for every input' (looked for: loops, veiled, ifaces, maps, wideKeys, modest, calm, conditions, laid).
  DERIVED. THE GIVEN ROWS OF THIS SEAT. 4 by the template 'for every input the law returns true; each argument reads behind the call as it read before'; 0 by the template 'total and deterministic' (their statements: YthodgpgcpichkaaTotals.lean).
  GIVEN WITH THE SEED: the statements are not yours to turn. If you find one false, say at which input.
  Laid BY PROGRAM, IN A SANDBOX (cutbox-rows.mjs): the forced cells as the released guide's own fill.sh prints them over the translation c670e430406b733e… (all of the seat's roots in one cut). By AI agents, Wed Nov 11 2026. No macro, syntax, notation, axiom, sorry.
-/
import Derived.Test.YthodgpgcpichkaaChecked
import GoSem.Claim
import GoSem.ClaimJoined
import GoSem.ClaimMapViews
import Derived.JoinedTies
import Derived.KernelRfl
namespace Go.Proofs.Ythodgpgcpichkaa
/- THE CELL 'sum', in the pinned program and in every row, IS THE sha256 OF THE DUMP (.gsa) THAT YthodgpgcpichkaaProg.lean LOADS. Nothing in Lean hashes anything: it is a label: what it is worth is what the hold of that sum in a sandbox is worth. -/
noncomputable def Try.pinned : Pinned := { name := "ythodgpgcpichkaa", sum := "c670e430406b733eb0952e478d665c1eab7fc67a9a7a12681d9b16107057e410", checked := Try.checked }
namespace Rows
def none {H : Type} : Left H := { results := [], args := [] }

/-- 'clepsydralaw13.PulseFires': WHATEVER THE INPUT: true; the input reads as it did. -/
def pulseFiresSpec : ChangeSpec := { name := "pulseFires", fn := fun _ => fun
  | [d1, d2, d3, d4] => { results := [.lit (.bool true)], args := [d1, d2, d3, d4] }
  | _ => none }
def pulseFiresRow : OpenClaim := { program := "ythodgpgcpichkaa", sum := "c670e430406b733eb0952e478d665c1eab7fc67a9a7a12681d9b16107057e410", func := "clepsydra/clepsydralaw13.PulseFires", spec := "pulseFires", apart := false }
def PulseFiresSaid : Prop := pulseFiresRow.holds Try.pinned (OpenSpec.ofChange pulseFiresSpec)

/-- ITS FALSE NEIGHBOUR: 'it returns false'. Refute it at one input. -/
def pulseFiresWrong : ChangeSpec := { name := "pulseFires", fn := fun _ => fun
  | [d1, d2, d3, d4] => { results := [.lit (.bool false)], args := [d1, d2, d3, d4] }
  | _ => none }
def PulseFiresWrongFalsely : Prop := pulseFiresRow.holds Try.pinned (OpenSpec.ofChange pulseFiresWrong)

/-- 'clepsydralaw13.PulseVotes': WHATEVER THE INPUT: true; the input reads as it did. -/
def pulseVotesSpec : ChangeSpec := { name := "pulseVotes", fn := fun _ => fun
  | [d1, d2, d3, d4] => { results := [.lit (.bool true)], args := [d1, d2, d3, d4] }
  | _ => none }
def pulseVotesRow : OpenClaim := { program := "ythodgpgcpichkaa", sum := "c670e430406b733eb0952e478d665c1eab7fc67a9a7a12681d9b16107057e410", func := "clepsydra/clepsydralaw13.PulseVotes", spec := "pulseVotes", recurses := true, apart := false }
def PulseVotesSaid : Prop := pulseVotesRow.holds Try.pinned (OpenSpec.ofChange pulseVotesSpec)

/-- ITS FALSE NEIGHBOUR: 'it returns false'. Refute it at one input. -/
def pulseVotesWrong : ChangeSpec := { name := "pulseVotes", fn := fun _ => fun
  | [d1, d2, d3, d4] => { results := [.lit (.bool false)], args := [d1, d2, d3, d4] }
  | _ => none }
def PulseVotesWrongFalsely : Prop := pulseVotesRow.holds Try.pinned (OpenSpec.ofChange pulseVotesWrong)

/-- 'clepsydralaw13.PulseNear': WHATEVER THE INPUT: true; the input reads as it did. -/
def pulseNearSpec : ChangeSpec := { name := "pulseNear", fn := fun _ => fun
  | [d1, d2, d3] => { results := [.lit (.bool true)], args := [d1, d2, d3] }
  | _ => none }
def pulseNearRow : OpenClaim := { program := "ythodgpgcpichkaa", sum := "c670e430406b733eb0952e478d665c1eab7fc67a9a7a12681d9b16107057e410", func := "clepsydra/clepsydralaw13.PulseNear", spec := "pulseNear", apart := false }
def PulseNearSaid : Prop := pulseNearRow.holds Try.pinned (OpenSpec.ofChange pulseNearSpec)

/-- ITS FALSE NEIGHBOUR: 'it returns false'. Refute it at one input. -/
def pulseNearWrong : ChangeSpec := { name := "pulseNear", fn := fun _ => fun
  | [d1, d2, d3] => { results := [.lit (.bool false)], args := [d1, d2, d3] }
  | _ => none }
def PulseNearWrongFalsely : Prop := pulseNearRow.holds Try.pinned (OpenSpec.ofChange pulseNearWrong)

/-- 'clepsydralaw13.PulseParts': WHATEVER THE INPUT: true; the input reads as it did. -/
def pulsePartsSpec : ChangeSpec := { name := "pulseParts", fn := fun _ => fun
  | [d1, d2, d3, d4] => { results := [.lit (.bool true)], args := [d1, d2, d3, d4] }
  | _ => none }
def pulsePartsRow : OpenClaim := { program := "ythodgpgcpichkaa", sum := "c670e430406b733eb0952e478d665c1eab7fc67a9a7a12681d9b16107057e410", func := "clepsydra/clepsydralaw13.PulseParts", spec := "pulseParts", apart := false }
def PulsePartsSaid : Prop := pulsePartsRow.holds Try.pinned (OpenSpec.ofChange pulsePartsSpec)

/-- ITS FALSE NEIGHBOUR: 'it returns false'. Refute it at one input. -/
def pulsePartsWrong : ChangeSpec := { name := "pulseParts", fn := fun _ => fun
  | [d1, d2, d3, d4] => { results := [.lit (.bool false)], args := [d1, d2, d3, d4] }
  | _ => none }
def PulsePartsWrongFalsely : Prop := pulsePartsRow.holds Try.pinned (OpenSpec.ofChange pulsePartsWrong)

/- THE SECOND FORM. 'bulk': how many values and letters a reading holds, each counted each time it is reached (what is shared counts as often as it is met; a slice's spare places count too). A statement '..UptoSaid' is the law's where the arguments, and the package variables that the reading takes, are together of bulk at most 1048576: NARROWER than '..Said'. Prove '..Said' where nothing that the law and all that it calls make is longer than what came in: it says more and counts as full. Else prove '..UptoSaid'. A law counts once. -/
mutual
def uptoBulk {H : Type} : DataW H → Nat
  | .lit (.string bytes) => bytes.length + 1
  | .lit _ => 1
  | .nil => 1
  | .ptr d => uptoBulk d + 1
  | .slice elems spare => uptoBulkAll elems + uptoBulkAll spare + 1
  | .agg parts => uptoBulkAll parts + 1
  | .iface _ d => uptoBulk d + 1
  | .map entries => uptoBulkEntries entries + 1
  | .held _ => 1
def uptoBulkAll {H : Type} : List (DataW H) → Nat
  | [] => 0
  | d :: r => uptoBulk d + uptoBulkAll r
def uptoBulkEntries {H : Type} : List (Lit × DataW H) → Nat
  | [] => 0
  | x :: r => uptoBulkEntry x + uptoBulkEntries r
def uptoBulkEntry {H : Type} : Lit × DataW H → Nat
  | (.string bytes, d) => bytes.length + uptoBulk d + 1
  | (_, d) => uptoBulk d + 1
 end
def uptoSmall : (H : Type) → List (DataW H) → Bool := fun _ ds => decide (uptoBulkAll ds ≤ 1048576)
def OpenSpec.upto (s : _root_.Go.ChangeSpec) : _root_.Go.OpenSpec := { _root_.Go.OpenSpec.ofChange s with cond := some uptoSmall }

/-- 'clepsydralaw13.PulseFires', WHERE WHAT IT READS IS OF BULK AT MOST 1048576: true; the input reads as it did. -/
def pulseFiresUptoRow : OpenClaim := { program := "ythodgpgcpichkaa", sum := "c670e430406b733eb0952e478d665c1eab7fc67a9a7a12681d9b16107057e410", func := "clepsydra/clepsydralaw13.PulseFires", spec := "pulseFires", apart := false, narrowed := true }
def PulseFiresUptoSaid : Prop := pulseFiresUptoRow.holds Try.pinned (OpenSpec.upto pulseFiresSpec)

/-- 'clepsydralaw13.PulseVotes', WHERE WHAT IT READS IS OF BULK AT MOST 1048576: true; the input reads as it did. -/
def pulseVotesUptoRow : OpenClaim := { program := "ythodgpgcpichkaa", sum := "c670e430406b733eb0952e478d665c1eab7fc67a9a7a12681d9b16107057e410", func := "clepsydra/clepsydralaw13.PulseVotes", spec := "pulseVotes", recurses := true, apart := false, narrowed := true }
def PulseVotesUptoSaid : Prop := pulseVotesUptoRow.holds Try.pinned (OpenSpec.upto pulseVotesSpec)

/-- 'clepsydralaw13.PulseNear', WHERE WHAT IT READS IS OF BULK AT MOST 1048576: true; the input reads as it did. -/
def pulseNearUptoRow : OpenClaim := { program := "ythodgpgcpichkaa", sum := "c670e430406b733eb0952e478d665c1eab7fc67a9a7a12681d9b16107057e410", func := "clepsydra/clepsydralaw13.PulseNear", spec := "pulseNear", apart := false, narrowed := true }
def PulseNearUptoSaid : Prop := pulseNearUptoRow.holds Try.pinned (OpenSpec.upto pulseNearSpec)

/-- 'clepsydralaw13.PulseParts', WHERE WHAT IT READS IS OF BULK AT MOST 1048576: true; the input reads as it did. -/
def pulsePartsUptoRow : OpenClaim := { program := "ythodgpgcpichkaa", sum := "c670e430406b733eb0952e478d665c1eab7fc67a9a7a12681d9b16107057e410", func := "clepsydra/clepsydralaw13.PulseParts", spec := "pulseParts", apart := false, narrowed := true }
def PulsePartsUptoSaid : Prop := pulsePartsUptoRow.holds Try.pinned (OpenSpec.upto pulsePartsSpec)

end Rows
end Go.Proofs.Ythodgpgcpichkaa
