/- Contracts of layer 13: Number, Phase and Begin, the program's, and the document's Number. -/
import Derived.Test.YtlclfonlidcfiaaDoorC02b
import Derived.Test.YtlclfonlidcfiaaDoorC02c
import Derived.Test.YtlclfonlidcfiaaDoorC04a
import Derived.Test.YtlclfonlidcfiaaDoorMA
namespace Go.Proofs.YtlclfonlidcfiaaDoor
open Go.RowKit
set_option maxRecDepth 100000
attribute [local go_sem ↓] Go.wp_at_zero Go.wp_at_succ
theorem pulseNumber (p : Par) (t : Int) (w : World) : Calls Tryd.prog 25 #[parV p, .int .i64 t] w fun e w' => e = .returned (.int .i64 (Pulse.num p.pulse t)) ∧ Ok w w' := by
  have hok := Ok.refl w
  show Calls _ _ _ _ fun e w' => e = .returned (.int .i64 (Sat.clip t / Wide.one p.pulse)) ∧ Ok w w'
  go_enter Tryd.func25, Tryd.ntmps25
  go_wp2_with (go_at_call 20; refine (wideDiv _ _ _).mono ?_; rintro e w1 ⟨rfl, hb1⟩; replace hok := (hok.alloc _).trans hb1; clear hb1)
  go_ret
  exact ⟨rfl, hok⟩
theorem refNumber (p : Par) (t : Int) (w : World) : Calls Tryd.prog 12 #[parV p, .int .i64 t] w fun e w' => e = .returned (.int .i64 (Pulse.num p.pulse t)) ∧ Ok w w' := by
  have hok := Ok.refl w
  show Calls _ _ _ _ fun e w' => e = .returned (.int .i64 (Sat.clip t / Wide.one p.pulse)) ∧ Ok w w'
  go_enter Tryd.func12, Tryd.ntmps12
  go_wp2_with (go_at_call 22; refine (refDiv _ _ _).mono ?_; rintro e w1 ⟨rfl, rfl⟩)
  go_ret
  exact ⟨rfl, hok.alloc _⟩
end Go.Proofs.YtlclfonlidcfiaaDoor
