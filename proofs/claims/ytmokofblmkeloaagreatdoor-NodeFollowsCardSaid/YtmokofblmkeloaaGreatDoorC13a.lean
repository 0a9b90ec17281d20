import Derived.Test.YtmokofblmkeloaaGreatDoorB04
import Derived.Test.YtmokofblmkeloaaGreatDoorB06
import Derived.Test.YtmokofblmkeloaaGreatDoorB03
import Derived.Test.YtmokofblmkeloaaGreatDoorMA
namespace Go.Proofs.YtmokofblmkeloaaGreatDoor
open Go.RowKit
set_option maxRecDepth 100000
attribute [local go_sem ↓] Go.wp_at_zero Go.wp_at_succ
theorem pulseNumber (p : Par) (t : Int) (w : World) : Calls Tryz.prog 131 #[parV p, .int .i64 t] w fun e w' => e = .returned (.int .i64 (Pulse.num p.pulse t)) ∧ Ok w w' := by
  have hok := Ok.refl w
  show Calls _ _ _ _ fun e w' => e = .returned (.int .i64 (Sat.clip t / Wide.one p.pulse)) ∧ Ok w w'
  go_enter Tryz.func131, Tryz.ntmps131
  go_wp2_with (go_at_call 147; refine (wideDiv _ _ _).mono ?_; rintro e w1 ⟨rfl, hb1⟩; replace hok := (hok.alloc _).trans hb1; clear hb1)
  go_ret
  exact ⟨rfl, hok⟩
end Go.Proofs.YtmokofblmkeloaaGreatDoor
