/- What the program's calls of layer 21 do. -/
import Derived.Test.YtlclfonlidcfiaaC21f
namespace Go.Proofs.Ytlclfonlidcfiaa
open Go.RowKit
set_option linter.unusedVariables false
structure FrontDoes : Prop where
  healthSane : ∀ (p : Par) (s : Sta) (A : Option Addr) (cap : Nat) (w : World) (hA : PairsAt w A s.table) (hl : s.table.length ≤ 9223372036854775807), Calls Try.prog 11 #[parV p, staV s A cap] w (StaEnd w (Health.sane p s))
  healthOf : ∀ (p : Par) (s : Sta) (A : Option Addr) (cap : Nat) (w : World), Calls Try.prog 14 #[parV p, staV s A cap] w fun e w' => e = .returned (.int .i64 (Health.of p s)) ∧ Ok w w'
  healthFar : ∀ (p : Par) (held : Int) (w : World), Calls Try.prog 16 #[parV p, .int .i64 held] w fun e w' => e = .returned (.int .i64 (Health.far p held)) ∧ Ok w w'
  frontHealth : ∀ (g : Nat) (p : Par) (s : Sta) (A : Option Addr) (cap : Nat) (w : World) (h : Own w g (frontCells p s A cap)), Calls Try.prog 30 #[.pointer (some ⟨g, 0, none⟩)] w fun e w' => e = .returned (.int .i64 (Health.of p s)) ∧ Ok w w'
  frontNow : ∀ (g : Nat) (p : Par) (s : Sta) (A : Option Addr) (cap : Nat) (w : World) (h : Own w g (frontCells p s A cap)), Calls Try.prog 28 #[.pointer (some ⟨g, 0, none⟩)] w fun e w' => e = .returned (.tuple #[.int .i64 (if Health.of p s = 0 then 0 else s.time), .int .i64 (if Health.of p s = 0 then 20 else 0)]) ∧ Ok w w'
  frontInterval : ∀ (g : Nat) (p : Par) (s : Sta) (A : Option Addr) (cap : Nat) (w : World) (h : Own w g (frontCells p s A cap)), Calls Try.prog 29 #[.pointer (some ⟨g, 0, none⟩)] w fun e w' => e = .returned (.tuple #[spanV (if Health.of p s = 0 then 0 else s.lo) (if Health.of p s = 0 then 0 else s.hi), .int .i64 (if Health.of p s = 0 then 20 else 0)]) ∧ Ok w w'
  frontStamp : ∀ (g : Nat) (p : Par) (s : Sta) (A : Option Addr) (cap : Nat) (w : World) (h : Own w g (frontCells p s A cap)), Calls Try.prog 20 #[.pointer (some ⟨g, 0, none⟩)] w fun e w' => e = .returned (.tuple #[stV (Hlc.tick (s.st, s.sn) s.time), .int .i64 0]) ∧ Own w' g (frontCells p (Health.stamped s) A cap) ∧ Only g w w'
  frontListen : ∀ (g : Nat) (p : Par) (s : Sta) (A : Option Addr) (cap : Nat) (x : Int × Int) (w : World) (h : Own w g (frontCells p s A cap)), Calls Try.prog 22 #[.pointer (some ⟨g, 0, none⟩), stV x] w fun e w' => e = .returned (.tuple #[]) ∧ Own w' g (frontCells p (Health.listen p s x) A cap) ∧ Only g w w'
  frontStep : ∀ (g : Nat) (p : Par) (s : Sta) (A : Option Addr) (cap : Nat) (ticks : Int) (u : Sta) (C : Option Addr) (cup : Nat) (w : World) (h : Own w g (frontCells p s A cap)) (hC : PairsAt w C u.table) (hl : u.table.length ≤ 9223372036854775807), Calls Try.prog 18 #[.pointer (some ⟨g, 0, none⟩), .int .i64 ticks, staV u C cup] w fun e w' => e = .returned (.tuple #[]) ∧ ∃ (A2 : Option Addr) (c2 : Nat), Own w' g (frontCells p (Health.step p s ticks u) A2 c2) ∧ PairsOf w.heap.size w' A2 (Health.step p s ticks u).table ∧ Only g w w'
end Go.Proofs.Ytlclfonlidcfiaa
