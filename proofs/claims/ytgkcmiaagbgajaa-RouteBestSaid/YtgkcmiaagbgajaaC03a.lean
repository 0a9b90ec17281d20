/- Contracts of layer 3's functions: those of one span. -/
import Derived.Test.YtgkcmiaagbgajaaW04
import Derived.Deep.QuietTactic
import Derived.BigQuiet
import Derived.Deep.RegionHeld3
import Derived.Deep.DrawnRows
import Derived.Test.YtgkcmiaagbgajaaM04
namespace Go.Proofs.Ytgkcmiaagbgajaa
open Go.RowKit
set_option maxRecDepth 100000
attribute [local go_sem ↓] Go.wp_at_zero Go.wp_at_succ
/-- A span, as a value. -/
abbrev spanV (lo hi : Int) : Value := .agg #[.int .i64 lo, .int .i64 hi]

theorem spanEmpty (lo hi : Int) (w : World) : Calls Try.prog 20 #[spanV lo hi] w fun e w' => e = .returned (.bool (decide (hi < lo))) ∧ Ok w w' := by
  have hok := Ok.refl w
  go_enter Try.func20, Try.ntmps20
  go_wp2
  go_ret
  exact ⟨rfl, hok.alloc _⟩
end Go.Proofs.Ytgkcmiaagbgajaa
