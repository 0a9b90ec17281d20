/-
  No cell of these rows narrows 'for every input' (looked for: loops, veiled, ifaces, maps, wideKeys, modest, calm, conditions, laid).
  DERIVED. THE GIVEN ROWS OF THIS SEAT. 5 by the template 'for every input the law returns true; each argument reads behind the call as it read before'; 0 by the template 'total and deterministic' (their statements: YtmmiboblofopgaaGreatTotals.lean).
  GIVEN WITH THE SEED: the statements are not yours to turn. If you find one false, say at which input.
  Laid BY PROGRAM, IN A SANDBOX (cutbox-rows.mjs): the forced cells as the released guide's own fill.sh prints them over the translation 57fec6b830f9dc58… (all of the seat's roots in one cut). By AI agents, Wed Nov 11 2026. No macro, syntax, notation, axiom, sorry.
-/
import Derived.Test.YtmmiboblofopgaaGreatChecked
import GoSem.Claim
import GoSem.ClaimJoined
import GoSem.ClaimMapViews
import Derived.JoinedTies
import Derived.KernelRfl
namespace Go.Proofs.YtmmiboblofopgaaGreat
/- THE CELL 'sum', in the pinned program and in every row, IS THE sha256 OF THE DUMP (.gsa) THAT YtmmiboblofopgaaGreatProg.lean LOADS. Nothing in Lean hashes anything: it is a label: what it is worth is what the hold of that sum in a sandbox is worth. -/
noncomputable def Tryz.pinned : Pinned := { name := "ytmmiboblofopgaagreat", sum := "57fec6b830f9dc58a1bfd5a2b4e0ec1b2ff4037c88343c7244baace7aac17c1b", checked := Tryz.checked }
namespace Rows
def none {H : Type} : Left H := { results := [], args := [] }

/-- 'clepsydralaw22.GateDoes': WHATEVER THE INPUT: true; the input reads as it did. -/
def gateDoesSpec : ChangeSpec := { name := "gateDoes", fn := fun _ => fun
  | [d1, d2, d3, d4] => { results := [.lit (.bool true)], args := [d1, d2, d3, d4] }
  | _ => none }
def gateDoesRow : OpenClaim := { program := "ytmmiboblofopgaagreat", sum := "57fec6b830f9dc58a1bfd5a2b4e0ec1b2ff4037c88343c7244baace7aac17c1b", func := "clepsydra/clepsydralaw22.GateDoes", spec := "gateDoes", unfollowed := true, recurses := true, apart := false }
def GateDoesSaid : Prop := gateDoesRow.holds Tryz.pinned (OpenSpec.ofChange gateDoesSpec)

/-- ITS FALSE NEIGHBOUR: 'it returns false'. Refute it at one input. -/
def gateDoesWrong : ChangeSpec := { name := "gateDoes", fn := fun _ => fun
  | [d1, d2, d3, d4] => { results := [.lit (.bool false)], args := [d1, d2, d3, d4] }
  | _ => none }
def GateDoesWrongFalsely : Prop := gateDoesRow.holds Tryz.pinned (OpenSpec.ofChange gateDoesWrong)

/-- 'clepsydralaw22.GateHolds': WHATEVER THE INPUT: true; the input reads as it did. -/
def gateHoldsSpec : ChangeSpec := { name := "gateHolds", fn := fun _ => fun
  | [d1, d2, d3, d4, d5, d6] => { results := [.lit (.bool true)], args := [d1, d2, d3, d4, d5, d6] }
  | _ => none }
def gateHoldsRow : OpenClaim := { program := "ytmmiboblofopgaagreat", sum := "57fec6b830f9dc58a1bfd5a2b4e0ec1b2ff4037c88343c7244baace7aac17c1b", func := "clepsydra/clepsydralaw22.GateHolds", spec := "gateHolds", unfollowed := true, recurses := true, apart := false }
def GateHoldsSaid : Prop := gateHoldsRow.holds Tryz.pinned (OpenSpec.ofChange gateHoldsSpec)

/-- ITS FALSE NEIGHBOUR: 'it returns false'. Refute it at one input. -/
def gateHoldsWrong : ChangeSpec := { name := "gateHolds", fn := fun _ => fun
  | [d1, d2, d3, d4, d5, d6] => { results := [.lit (.bool false)], args := [d1, d2, d3, d4, d5, d6] }
  | _ => none }
def GateHoldsWrongFalsely : Prop := gateHoldsRow.holds Tryz.pinned (OpenSpec.ofChange gateHoldsWrong)

/-- 'clepsydralaw22.GateWaits': WHATEVER THE INPUT: true; the input reads as it did. -/
def gateWaitsSpec : ChangeSpec := { name := "gateWaits", fn := fun _ => fun
  | [d1, d2, d3, d4, d5] => { results := [.lit (.bool true)], args := [d1, d2, d3, d4, d5] }
  | _ => none }
def gateWaitsRow : OpenClaim := { program := "ytmmiboblofopgaagreat", sum := "57fec6b830f9dc58a1bfd5a2b4e0ec1b2ff4037c88343c7244baace7aac17c1b", func := "clepsydra/clepsydralaw22.GateWaits", spec := "gateWaits", unfollowed := true, recurses := true, apart := false }
def GateWaitsSaid : Prop := gateWaitsRow.holds Tryz.pinned (OpenSpec.ofChange gateWaitsSpec)

/-- ITS FALSE NEIGHBOUR: 'it returns false'. Refute it at one input. -/
def gateWaitsWrong : ChangeSpec := { name := "gateWaits", fn := fun _ => fun
  | [d1, d2, d3, d4, d5] => { results := [.lit (.bool false)], args := [d1, d2, d3, d4, d5] }
  | _ => none }
def GateWaitsWrongFalsely : Prop := gateWaitsRow.holds Tryz.pinned (OpenSpec.ofChange gateWaitsWrong)

/-- 'clepsydralaw22.GateKeeps': WHATEVER THE INPUT: true; the input reads as it did. -/
def gateKeepsSpec : ChangeSpec := { name := "gateKeeps", fn := fun _ => fun
  | [d1, d2, d3] => { results := [.lit (.bool true)], args := [d1, d2, d3] }
  | _ => none }
def gateKeepsRow : OpenClaim := { program := "ytmmiboblofopgaagreat", sum := "57fec6b830f9dc58a1bfd5a2b4e0ec1b2ff4037c88343c7244baace7aac17c1b", func := "clepsydra/clepsydralaw22.GateKeeps", spec := "gateKeeps", unfollowed := true, recurses := true, apart := false }
def GateKeepsSaid : Prop := gateKeepsRow.holds Tryz.pinned (OpenSpec.ofChange gateKeepsSpec)

/-- ITS FALSE NEIGHBOUR: 'it returns false'. Refute it at one input. -/
def gateKeepsWrong : ChangeSpec := { name := "gateKeeps", fn := fun _ => fun
  | [d1, d2, d3] => { results := [.lit (.bool false)], args := [d1, d2, d3] }
  | _ => none }
def GateKeepsWrongFalsely : Prop := gateKeepsRow.holds Tryz.pinned (OpenSpec.ofChange gateKeepsWrong)

/-- 'clepsydralaw22.GateForgets': WHATEVER THE INPUT: true; the input reads as it did. -/
def gateForgetsSpec : ChangeSpec := { name := "gateForgets", fn := fun _ => fun
  | [d1, d2, d3, d4] => { results := [.lit (.bool true)], args := [d1, d2, d3, d4] }
  | _ => none }
def gateForgetsRow : OpenClaim := { program := "ytmmiboblofopgaagreat", sum := "57fec6b830f9dc58a1bfd5a2b4e0ec1b2ff4037c88343c7244baace7aac17c1b", func := "clepsydra/clepsydralaw22.GateForgets", spec := "gateForgets", unfollowed := true, recurses := true, apart := false }
def GateForgetsSaid : Prop := gateForgetsRow.holds Tryz.pinned (OpenSpec.ofChange gateForgetsSpec)

/-- ITS FALSE NEIGHBOUR: 'it returns false'. Refute it at one input. -/
def gateForgetsWrong : ChangeSpec := { name := "gateForgets", fn := fun _ => fun
  | [d1, d2, d3, d4] => { results := [.lit (.bool false)], args := [d1, d2, d3, d4] }
  | _ => none }
def GateForgetsWrongFalsely : Prop := gateForgetsRow.holds Tryz.pinned (OpenSpec.ofChange gateForgetsWrong)

/- THE SECOND FORM. 'bulk': how many values and letters a reading holds, each counted each time it is reached (what is shared counts as often as it is met; a slice's spare places count too). A statement '..UptoSaid' is the law's where the arguments, and the package variables that the reading takes, are together of bulk at most 1048576: NARROWER than '..Said'. Prove '..Said' where nothing that the law and all that it calls make is longer than what came in: it says more and counts as full. Else prove '..UptoSaid'. A law counts once. -/
mutual
def uptoBulk {H : Type} : DataW H → Nat
  | .lit (.string bytes) => bytes.length + 1
  | .lit _ => 1
  | .nil => 1
  | .ptr d => uptoBulk d + 1
  | .slice elems spare => uptoBulkAll elems + uptoBulkAll spare + 1
  | .agg parts => uptoBulkAll parts + 1
  | .iface _ d => uptoBulk d + 1
  | .map entries => uptoBulkEntries entries + 1
  | .held _ => 1
def uptoBulkAll {H : Type} : List (DataW H) → Nat
  | [] => 0
  | d :: r => uptoBulk d + uptoBulkAll r
def uptoBulkEntries {H : Type} : List (Lit × DataW H) → Nat
  | [] => 0
  | x :: r => uptoBulkEntry x + uptoBulkEntries r
def uptoBulkEntry {H : Type} : Lit × DataW H → Nat
  | (.string bytes, d) => bytes.length + uptoBulk d + 1
  | (_, d) => uptoBulk d + 1
 end
def uptoSmall : (H : Type) → List (DataW H) → Bool := fun _ ds => decide (uptoBulkAll ds ≤ 1048576)
def OpenSpec.upto (s : _root_.Go.ChangeSpec) : _root_.Go.OpenSpec := { _root_.Go.OpenSpec.ofChange s with cond := some uptoSmall }

/-- 'clepsydralaw22.GateDoes', WHERE WHAT IT READS IS OF BULK AT MOST 1048576: true; the input reads as it did. -/
def gateDoesUptoRow : OpenClaim := { program := "ytmmiboblofopgaagreat", sum := "57fec6b830f9dc58a1bfd5a2b4e0ec1b2ff4037c88343c7244baace7aac17c1b", func := "clepsydra/clepsydralaw22.GateDoes", spec := "gateDoes", unfollowed := true, recurses := true, apart := false, narrowed := true }
def GateDoesUptoSaid : Prop := gateDoesUptoRow.holds Tryz.pinned (OpenSpec.upto gateDoesSpec)

/-- 'clepsydralaw22.GateHolds', WHERE WHAT IT READS IS OF BULK AT MOST 1048576: true; the input reads as it did. -/
def gateHoldsUptoRow : OpenClaim := { program := "ytmmiboblofopgaagreat", sum := "57fec6b830f9dc58a1bfd5a2b4e0ec1b2ff4037c88343c7244baace7aac17c1b", func := "clepsydra/clepsydralaw22.GateHolds", spec := "gateHolds", unfollowed := true, recurses := true, apart := false, narrowed := true }
def GateHoldsUptoSaid : Prop := gateHoldsUptoRow.holds Tryz.pinned (OpenSpec.upto gateHoldsSpec)

/-- 'clepsydralaw22.GateWaits', WHERE WHAT IT READS IS OF BULK AT MOST 1048576: true; the input reads as it did. -/
def gateWaitsUptoRow : OpenClaim := { program := "ytmmiboblofopgaagreat", sum := "57fec6b830f9dc58a1bfd5a2b4e0ec1b2ff4037c88343c7244baace7aac17c1b", func := "clepsydra/clepsydralaw22.GateWaits", spec := "gateWaits", unfollowed := true, recurses := true, apart := false, narrowed := true }
def GateWaitsUptoSaid : Prop := gateWaitsUptoRow.holds Tryz.pinned (OpenSpec.upto gateWaitsSpec)

/-- 'clepsydralaw22.GateKeeps', WHERE WHAT IT READS IS OF BULK AT MOST 1048576: true; the input reads as it did. -/
def gateKeepsUptoRow : OpenClaim := { program := "ytmmiboblofopgaagreat", sum := "57fec6b830f9dc58a1bfd5a2b4e0ec1b2ff4037c88343c7244baace7aac17c1b", func := "clepsydra/clepsydralaw22.GateKeeps", spec := "gateKeeps", unfollowed := true, recurses := true, apart := false, narrowed := true }
def GateKeepsUptoSaid : Prop := gateKeepsUptoRow.holds Tryz.pinned (OpenSpec.upto gateKeepsSpec)

/-- 'clepsydralaw22.GateForgets', WHERE WHAT IT READS IS OF BULK AT MOST 1048576: true; the input reads as it did. -/
def gateForgetsUptoRow : OpenClaim := { program := "ytmmiboblofopgaagreat", sum := "57fec6b830f9dc58a1bfd5a2b4e0ec1b2ff4037c88343c7244baace7aac17c1b", func := "clepsydra/clepsydralaw22.GateForgets", spec := "gateForgets", unfollowed := true, recurses := true, apart := false, narrowed := true }
def GateForgetsUptoSaid : Prop := gateForgetsUptoRow.holds Tryz.pinned (OpenSpec.upto gateForgetsSpec)

end Rows
end Go.Proofs.YtmmiboblofopgaaGreat
