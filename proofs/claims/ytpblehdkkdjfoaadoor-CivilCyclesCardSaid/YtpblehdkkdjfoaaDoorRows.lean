/-
  NARROWER THAN 'FOR EVERY INPUT', by the rows' own cells (each row's printed sentence says how): CivilMonths: laid · CivilDays: laid · CivilDates: laid · CivilBack: laid · CivilNext: laid · CivilCycles: laid.
  DERIVED. THE GIVEN ROWS OF THIS SEAT. 6 by the template 'for every input the law returns true; each argument reads behind the call as it read before'; 0 by the template 'total and deterministic' (their statements: YtpblehdkkdjfoaaDoorTotals.lean).
  GIVEN WITH THE SEED: the statements are not yours to turn. If you find one false, say at which input.
  Laid BY PROGRAM, IN A SANDBOX (cutbox-rows.mjs): the forced cells as the released guide's own fill.sh prints them over the translation 35214044b3764e63… (all of the seat's roots in one cut). By AI agents, Wed Nov 11 2026. No macro, syntax, notation, axiom, sorry.
-/
import Derived.Test.YtpblehdkkdjfoaaDoorChecked
import GoSem.Claim
import GoSem.ClaimJoined
import GoSem.ClaimMapViews
import Derived.JoinedTies
import Derived.KernelRfl
namespace Go.Proofs.YtpblehdkkdjfoaaDoor
/- THE CELL 'sum', in the pinned program and in every row, IS THE sha256 OF THE DUMP (.gsa) THAT YtpblehdkkdjfoaaDoorProg.lean LOADS. Nothing in Lean hashes anything: it is a label: what it is worth is what the hold of that sum in a sandbox is worth. -/
noncomputable def Tryd.pinned : Pinned := { name := "ytpblehdkkdjfoaadoor", sum := "35214044b3764e634a6098101be2127cd61a656e2b061b93413c949a35a25be3", checked := Tryd.checked }
namespace Rows
def none {H : Type} : Left H := { results := [], args := [] }

/- WHAT THE LISTED PACKAGE-LEVEL VARIABLES READ AS WHEN THE CALL BEGINS. Each datum BY PROGRAM (the guide's laid-datum.mjs) off the statement by which the dump's own 'gosem.cut.vars' lays the variable. In a bare row this is a premise. The card (YtpblehdkkdjfoaaDoorCards.lean) ties it to the program's text. -/
def laid_clepsydra_civil_lengths {H : Type} : DataW H := .agg [.lit (.int .i64 31), .lit (.int .i64 28), .lit (.int .i64 31), .lit (.int .i64 30), .lit (.int .i64 31), .lit (.int .i64 30), .lit (.int .i64 31), .lit (.int .i64 31), .lit (.int .i64 30), .lit (.int .i64 31), .lit (.int .i64 30), .lit (.int .i64 31)]

/-- 'clepsydralaw17.CivilMonths': WHATEVER THE INPUT: true; the input reads as it did. -/
def civilMonthsSpec : ChangeSpec := { name := "civilMonths", fn := fun _ => fun
  | [d1, d2] => { results := [.lit (.bool true)], args := [d1, d2] }
  | _ => none }
def civilMonthsRow : OpenClaim := { program := "ytpblehdkkdjfoaadoor", sum := "35214044b3764e634a6098101be2127cd61a656e2b061b93413c949a35a25be3", func := "clepsydra/clepsydralaw17.CivilMonths", spec := "civilMonths", named := ["clepsydra/civil.lengths"], apart := false, laid := [("clepsydra/civil.lengths", laid_clepsydra_civil_lengths)] }
def CivilMonthsSaid : Prop := civilMonthsRow.holds Tryd.pinned (OpenSpec.ofChange civilMonthsSpec)

/-- ITS FALSE NEIGHBOUR: 'it returns false'. Refute it at one input. -/
def civilMonthsWrong : ChangeSpec := { name := "civilMonths", fn := fun _ => fun
  | [d1, d2] => { results := [.lit (.bool false)], args := [d1, d2] }
  | _ => none }
def CivilMonthsWrongFalsely : Prop := civilMonthsRow.holds Tryd.pinned (OpenSpec.ofChange civilMonthsWrong)

/-- 'clepsydralaw17.CivilDays': WHATEVER THE INPUT: true; the input reads as it did. -/
def civilDaysSpec : ChangeSpec := { name := "civilDays", fn := fun _ => fun
  | [d1, d2, d3] => { results := [.lit (.bool true)], args := [d1, d2, d3] }
  | _ => none }
def civilDaysRow : OpenClaim := { program := "ytpblehdkkdjfoaadoor", sum := "35214044b3764e634a6098101be2127cd61a656e2b061b93413c949a35a25be3", func := "clepsydra/clepsydralaw17.CivilDays", spec := "civilDays", named := ["clepsydra/civil.lengths", "math/bits.divideError", "math/bits.overflowError"], apart := false, laid := [("clepsydra/civil.lengths", laid_clepsydra_civil_lengths)] }
def CivilDaysSaid : Prop := civilDaysRow.holds Tryd.pinned (OpenSpec.ofChange civilDaysSpec)

/-- ITS FALSE NEIGHBOUR: 'it returns false'. Refute it at one input. -/
def civilDaysWrong : ChangeSpec := { name := "civilDays", fn := fun _ => fun
  | [d1, d2, d3] => { results := [.lit (.bool false)], args := [d1, d2, d3] }
  | _ => none }
def CivilDaysWrongFalsely : Prop := civilDaysRow.holds Tryd.pinned (OpenSpec.ofChange civilDaysWrong)

/-- 'clepsydralaw17.CivilDates': WHATEVER THE INPUT: true; the input reads as it did. -/
def civilDatesSpec : ChangeSpec := { name := "civilDates", fn := fun _ => fun
  | [d] => { results := [.lit (.bool true)], args := [d] }
  | _ => none }
def civilDatesRow : OpenClaim := { program := "ytpblehdkkdjfoaadoor", sum := "35214044b3764e634a6098101be2127cd61a656e2b061b93413c949a35a25be3", func := "clepsydra/clepsydralaw17.CivilDates", spec := "civilDates", named := ["clepsydra/civil.lengths", "math/bits.divideError", "math/bits.overflowError"], apart := false, laid := [("clepsydra/civil.lengths", laid_clepsydra_civil_lengths)] }
def CivilDatesSaid : Prop := civilDatesRow.holds Tryd.pinned (OpenSpec.ofChange civilDatesSpec)

/-- ITS FALSE NEIGHBOUR: 'it returns false'. Refute it at one input. -/
def civilDatesWrong : ChangeSpec := { name := "civilDates", fn := fun _ => fun
  | [d] => { results := [.lit (.bool false)], args := [d] }
  | _ => none }
def CivilDatesWrongFalsely : Prop := civilDatesRow.holds Tryd.pinned (OpenSpec.ofChange civilDatesWrong)

/-- 'clepsydralaw17.CivilBack': WHATEVER THE INPUT: true; the input reads as it did. -/
def civilBackSpec : ChangeSpec := { name := "civilBack", fn := fun _ => fun
  | [d1, d2, d3, d4] => { results := [.lit (.bool true)], args := [d1, d2, d3, d4] }
  | _ => none }
def civilBackRow : OpenClaim := { program := "ytpblehdkkdjfoaadoor", sum := "35214044b3764e634a6098101be2127cd61a656e2b061b93413c949a35a25be3", func := "clepsydra/clepsydralaw17.CivilBack", spec := "civilBack", named := ["clepsydra/civil.lengths", "math/bits.divideError", "math/bits.overflowError"], apart := false, laid := [("clepsydra/civil.lengths", laid_clepsydra_civil_lengths)] }
def CivilBackSaid : Prop := civilBackRow.holds Tryd.pinned (OpenSpec.ofChange civilBackSpec)

/-- ITS FALSE NEIGHBOUR: 'it returns false'. Refute it at one input. -/
def civilBackWrong : ChangeSpec := { name := "civilBack", fn := fun _ => fun
  | [d1, d2, d3, d4] => { results := [.lit (.bool false)], args := [d1, d2, d3, d4] }
  | _ => none }
def CivilBackWrongFalsely : Prop := civilBackRow.holds Tryd.pinned (OpenSpec.ofChange civilBackWrong)

/-- 'clepsydralaw17.CivilNext': WHATEVER THE INPUT: true; the input reads as it did. -/
def civilNextSpec : ChangeSpec := { name := "civilNext", fn := fun _ => fun
  | [d] => { results := [.lit (.bool true)], args := [d] }
  | _ => none }
def civilNextRow : OpenClaim := { program := "ytpblehdkkdjfoaadoor", sum := "35214044b3764e634a6098101be2127cd61a656e2b061b93413c949a35a25be3", func := "clepsydra/clepsydralaw17.CivilNext", spec := "civilNext", named := ["clepsydra/civil.lengths", "math/bits.divideError", "math/bits.overflowError"], apart := false, laid := [("clepsydra/civil.lengths", laid_clepsydra_civil_lengths)] }
def CivilNextSaid : Prop := civilNextRow.holds Tryd.pinned (OpenSpec.ofChange civilNextSpec)

/-- ITS FALSE NEIGHBOUR: 'it returns false'. Refute it at one input. -/
def civilNextWrong : ChangeSpec := { name := "civilNext", fn := fun _ => fun
  | [d] => { results := [.lit (.bool false)], args := [d] }
  | _ => none }
def CivilNextWrongFalsely : Prop := civilNextRow.holds Tryd.pinned (OpenSpec.ofChange civilNextWrong)

/-- 'clepsydralaw17.CivilCycles': WHATEVER THE INPUT: true; the input reads as it did. -/
def civilCyclesSpec : ChangeSpec := { name := "civilCycles", fn := fun _ => fun
  | [d1, d2] => { results := [.lit (.bool true)], args := [d1, d2] }
  | _ => none }
def civilCyclesRow : OpenClaim := { program := "ytpblehdkkdjfoaadoor", sum := "35214044b3764e634a6098101be2127cd61a656e2b061b93413c949a35a25be3", func := "clepsydra/clepsydralaw17.CivilCycles", spec := "civilCycles", named := ["clepsydra/civil.lengths", "math/bits.divideError", "math/bits.overflowError"], apart := false, laid := [("clepsydra/civil.lengths", laid_clepsydra_civil_lengths)] }
def CivilCyclesSaid : Prop := civilCyclesRow.holds Tryd.pinned (OpenSpec.ofChange civilCyclesSpec)

/-- ITS FALSE NEIGHBOUR: 'it returns false'. Refute it at one input. -/
def civilCyclesWrong : ChangeSpec := { name := "civilCycles", fn := fun _ => fun
  | [d1, d2] => { results := [.lit (.bool false)], args := [d1, d2] }
  | _ => none }
def CivilCyclesWrongFalsely : Prop := civilCyclesRow.holds Tryd.pinned (OpenSpec.ofChange civilCyclesWrong)

/- THE SECOND FORM. 'bulk': how many values and letters a reading holds, each counted each time it is reached (what is shared counts as often as it is met; a slice's spare places count too). A statement '..UptoSaid' is the law's where the arguments, and the package variables that the reading takes, are together of bulk at most 1048576: NARROWER than '..Said'. Prove '..Said' where nothing that the law and all that it calls make is longer than what came in: it says more and counts as full. Else prove '..UptoSaid'. A law counts once. -/
mutual
def uptoBulk {H : Type} : DataW H → Nat
  | .lit (.string bytes) => bytes.length + 1
  | .lit _ => 1
  | .nil => 1
  | .ptr d => uptoBulk d + 1
  | .slice elems spare => uptoBulkAll elems + uptoBulkAll spare + 1
  | .agg parts => uptoBulkAll parts + 1
  | .iface _ d => uptoBulk d + 1
  | .map entries => uptoBulkEntries entries + 1
  | .held _ => 1
def uptoBulkAll {H : Type} : List (DataW H) → Nat
  | [] => 0
  | d :: r => uptoBulk d + uptoBulkAll r
def uptoBulkEntries {H : Type} : List (Lit × DataW H) → Nat
  | [] => 0
  | x :: r => uptoBulkEntry x + uptoBulkEntries r
def uptoBulkEntry {H : Type} : Lit × DataW H → Nat
  | (.string bytes, d) => bytes.length + uptoBulk d + 1
  | (_, d) => uptoBulk d + 1
 end
def uptoSmall : (H : Type) → List (DataW H) → Bool := fun _ ds => decide (uptoBulkAll ds ≤ 1048576)
def OpenSpec.upto (s : _root_.Go.ChangeSpec) : _root_.Go.OpenSpec := { _root_.Go.OpenSpec.ofChange s with cond := some uptoSmall }

/-- 'clepsydralaw17.CivilMonths', WHERE WHAT IT READS IS OF BULK AT MOST 1048576: true; the input reads as it did. -/
def civilMonthsUptoRow : OpenClaim := { program := "ytpblehdkkdjfoaadoor", sum := "35214044b3764e634a6098101be2127cd61a656e2b061b93413c949a35a25be3", func := "clepsydra/clepsydralaw17.CivilMonths", spec := "civilMonths", named := ["clepsydra/civil.lengths"], apart := false, laid := [("clepsydra/civil.lengths", laid_clepsydra_civil_lengths)], narrowed := true }
def CivilMonthsUptoSaid : Prop := civilMonthsUptoRow.holds Tryd.pinned (OpenSpec.upto civilMonthsSpec)

/-- 'clepsydralaw17.CivilDays', WHERE WHAT IT READS IS OF BULK AT MOST 1048576: true; the input reads as it did. -/
def civilDaysUptoRow : OpenClaim := { program := "ytpblehdkkdjfoaadoor", sum := "35214044b3764e634a6098101be2127cd61a656e2b061b93413c949a35a25be3", func := "clepsydra/clepsydralaw17.CivilDays", spec := "civilDays", named := ["clepsydra/civil.lengths", "math/bits.divideError", "math/bits.overflowError"], apart := false, laid := [("clepsydra/civil.lengths", laid_clepsydra_civil_lengths)], narrowed := true }
def CivilDaysUptoSaid : Prop := civilDaysUptoRow.holds Tryd.pinned (OpenSpec.upto civilDaysSpec)

/-- 'clepsydralaw17.CivilDates', WHERE WHAT IT READS IS OF BULK AT MOST 1048576: true; the input reads as it did. -/
def civilDatesUptoRow : OpenClaim := { program := "ytpblehdkkdjfoaadoor", sum := "35214044b3764e634a6098101be2127cd61a656e2b061b93413c949a35a25be3", func := "clepsydra/clepsydralaw17.CivilDates", spec := "civilDates", named := ["clepsydra/civil.lengths", "math/bits.divideError", "math/bits.overflowError"], apart := false, laid := [("clepsydra/civil.lengths", laid_clepsydra_civil_lengths)], narrowed := true }
def CivilDatesUptoSaid : Prop := civilDatesUptoRow.holds Tryd.pinned (OpenSpec.upto civilDatesSpec)

/-- 'clepsydralaw17.CivilBack', WHERE WHAT IT READS IS OF BULK AT MOST 1048576: true; the input reads as it did. -/
def civilBackUptoRow : OpenClaim := { program := "ytpblehdkkdjfoaadoor", sum := "35214044b3764e634a6098101be2127cd61a656e2b061b93413c949a35a25be3", func := "clepsydra/clepsydralaw17.CivilBack", spec := "civilBack", named := ["clepsydra/civil.lengths", "math/bits.divideError", "math/bits.overflowError"], apart := false, laid := [("clepsydra/civil.lengths", laid_clepsydra_civil_lengths)], narrowed := true }
def CivilBackUptoSaid : Prop := civilBackUptoRow.holds Tryd.pinned (OpenSpec.upto civilBackSpec)

/-- 'clepsydralaw17.CivilNext', WHERE WHAT IT READS IS OF BULK AT MOST 1048576: true; the input reads as it did. -/
def civilNextUptoRow : OpenClaim := { program := "ytpblehdkkdjfoaadoor", sum := "35214044b3764e634a6098101be2127cd61a656e2b061b93413c949a35a25be3", func := "clepsydra/clepsydralaw17.CivilNext", spec := "civilNext", named := ["clepsydra/civil.lengths", "math/bits.divideError", "math/bits.overflowError"], apart := false, laid := [("clepsydra/civil.lengths", laid_clepsydra_civil_lengths)], narrowed := true }
def CivilNextUptoSaid : Prop := civilNextUptoRow.holds Tryd.pinned (OpenSpec.upto civilNextSpec)

/-- 'clepsydralaw17.CivilCycles', WHERE WHAT IT READS IS OF BULK AT MOST 1048576: true; the input reads as it did. -/
def civilCyclesUptoRow : OpenClaim := { program := "ytpblehdkkdjfoaadoor", sum := "35214044b3764e634a6098101be2127cd61a656e2b061b93413c949a35a25be3", func := "clepsydra/clepsydralaw17.CivilCycles", spec := "civilCycles", named := ["clepsydra/civil.lengths", "math/bits.divideError", "math/bits.overflowError"], apart := false, laid := [("clepsydra/civil.lengths", laid_clepsydra_civil_lengths)], narrowed := true }
def CivilCyclesUptoSaid : Prop := civilCyclesUptoRow.holds Tryd.pinned (OpenSpec.upto civilCyclesSpec)

end Rows
end Go.Proofs.YtpblehdkkdjfoaaDoor
