/- Contracts of layer 13: Number, Phase and Begin, the program's, and the document's Number. -/
import Derived.Test.YtmmiboblofopgaaGreatB01
import Derived.Test.YtmmiboblofopgaaGreatB00
import Derived.Test.YtmmiboblofopgaaGreatMA
namespace Go.Proofs.YtmmiboblofopgaaGreat
open Go.RowKit
set_option maxRecDepth 100000
attribute [local go_sem ↓] Go.wp_at_zero Go.wp_at_succ
theorem pulseNumber (p : Par) (t : Int) (w : World) : Calls Tryz.prog 93 #[parV p, .int .i64 t] w fun e w' => e = .returned (.int .i64 (Pulse.num p.pulse t)) ∧ Ok w w' := by
  have hok := Ok.refl w
  show Calls _ _ _ _ fun e w' => e = .returned (.int .i64 (Sat.clip t / Wide.one p.pulse)) ∧ Ok w w'
  go_enter Tryz.func93, Tryz.ntmps93
  go_wp2_with (go_at_call 122; refine (wideDiv _ _ _).mono ?_; rintro e w1 ⟨rfl, hb1⟩; replace hok := (hok.alloc _).trans hb1; clear hb1)
  go_ret
  exact ⟨rfl, hok⟩
theorem refNumber (p : Par) (t : Int) (w : World) : Calls Tryz.prog 86 #[parV p, .int .i64 t] w fun e w' => e = .returned (.int .i64 (Pulse.num p.pulse t)) ∧ Ok w w' := by
  have hok := Ok.refl w
  show Calls _ _ _ _ fun e w' => e = .returned (.int .i64 (Sat.clip t / Wide.one p.pulse)) ∧ Ok w w'
  go_enter Tryz.func86, Tryz.ntmps86
  go_wp2_with (go_at_call 119; refine (refDiv _ _ _).mono ?_; rintro e w1 ⟨rfl, rfl⟩)
  go_ret
  exact ⟨rfl, hok.alloc _⟩
end Go.Proofs.YtmmiboblofopgaaGreat
