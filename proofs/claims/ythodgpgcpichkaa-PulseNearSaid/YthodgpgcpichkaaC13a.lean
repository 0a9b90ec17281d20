/- Contracts of layer 13: Number, Phase and Begin, the program's, and the document's Number. -/
import Derived.Test.YthodgpgcpichkaaC02b
import Derived.Test.YthodgpgcpichkaaC02c
import Derived.Test.YthodgpgcpichkaaC04a
import Derived.Test.YthodgpgcpichkaaM26
namespace Go.Proofs.Ythodgpgcpichkaa
open Go.RowKit
set_option maxRecDepth 100000
attribute [local go_sem ↓] Go.wp_at_zero Go.wp_at_succ
theorem pulseNumber (p : Par) (t : Int) (w : World) : Calls Try.prog 11 #[parV p, .int .i64 t] w fun e w' => e = .returned (.int .i64 (Pulse.num p.pulse t)) ∧ Ok w w' := by
  have hok := Ok.refl w
  show Calls _ _ _ _ fun e w' => e = .returned (.int .i64 (Sat.clip t / Wide.one p.pulse)) ∧ Ok w w'
  go_enter Try.func11, Try.ntmps11
  go_wp2_with (go_at_call 17; refine (wideDiv _ _ _).mono ?_; rintro e w1 ⟨rfl, hb1⟩; replace hok := (hok.alloc _).trans hb1; clear hb1)
  go_ret
  exact ⟨rfl, hok⟩
theorem pulsePhase (p : Par) (t : Int) (w : World) : Calls Try.prog 15 #[parV p, .int .i64 t] w fun e w' => e = .returned (.int .i64 (Pulse.ph p.pulse t)) ∧ Ok w w' := by
  have hok := Ok.refl w
  show Calls _ _ _ _ fun e w' => e = .returned (.int .i64 (Sat.clip t % Wide.one p.pulse)) ∧ Ok w w'
  go_enter Try.func15, Try.ntmps15
  go_wp2_with (go_at_call 17; refine (wideDiv _ _ _).mono ?_; rintro e w1 ⟨rfl, hb1⟩; replace hok := (hok.alloc _).trans hb1; clear hb1)
  go_ret
  exact ⟨rfl, hok⟩
theorem refNumber (p : Par) (t : Int) (w : World) : Calls Try.prog 16 #[parV p, .int .i64 t] w fun e w' => e = .returned (.int .i64 (Pulse.num p.pulse t)) ∧ Ok w w' := by
  have hok := Ok.refl w
  show Calls _ _ _ _ fun e w' => e = .returned (.int .i64 (Sat.clip t / Wide.one p.pulse)) ∧ Ok w w'
  go_enter Try.func16, Try.ntmps16
  go_wp2_with (go_at_call 25; refine (refDiv _ _ _).mono ?_; rintro e w1 ⟨rfl, rfl⟩)
  go_ret
  exact ⟨rfl, hok.alloc _⟩
end Go.Proofs.Ythodgpgcpichkaa
