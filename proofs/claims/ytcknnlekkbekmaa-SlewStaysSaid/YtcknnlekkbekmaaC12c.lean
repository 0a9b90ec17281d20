/- Layer 12: what every law asks first; the program's clock in numbers that may be. -/
import Derived.Test.YtcknnlekkbekmaaC12a
import Derived.Test.YtcknnlekkbekmaaM25
namespace Go.Proofs.Ytcknnlekkbekmaa
open Go.RowKit
set_option maxRecDepth 100000
attribute [local go_sem ↓] Go.wp_at_zero Go.wp_at_succ
/-- The document's example. -/
def par12 : Par := ⟨0, 0, 0, 0, 0, 0, 0, 0, 20, 0, 0, 0⟩
theorem law12Alive (w : World) : Calls Try.prog 8 #[] w fun e w' => e = .returned (.bool true) ∧ Ok w w' := by
  have hok := Ok.refl w
  have KS := Lib.hid fun w => slewStep par12 100 1000 1150 w
  have KO := Lib.hid fun w => slewOff 100 true 90 w
  rw [show Slew.step par12 100 1000 1150 = 1120 by decide +kernel] at KS
  rw [show Sat.abs (Sat.sub 100 90) = 10 by decide +kernel] at KO
  have hS := Own.new w #[.int .i64 100, .bool true] 25 (g := w.heap.size) rfl
  have HS := Lib.hid hS
  have hl : w.heap.size < (w.alloc (.cells #[.int .i64 100, .bool true] 25)).heap.size := hS.lt
  go_enter Try.func8, Try.ntmps8
  go_wp2_with (first | (go_at_call 12; refine (KS.out _).mono ?_; rintro e w1 ⟨rfl, hb1⟩; replace hok := (hok.alloc _).trans hb1; have hS := HS.out.next hb1; have c0 := hS.cell 0 rfl; have c1 := hS.cell 1 rfl; have hPl := hS.lt; clear hb1) | (go_at_call 13; refine (KO.out _).mono ?_; rintro e w2 ⟨rfl, hb2⟩; replace hok := hok.trans hb2; clear hb2))
  go_ret
  exact ⟨rfl, hok⟩
end Go.Proofs.Ytcknnlekkbekmaa
