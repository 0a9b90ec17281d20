/- Contracts of layer 12: the document's Step. -/
import Derived.Test.YtlclfonlidcfiaaC01a
import Derived.Test.YtlclfonlidcfiaaC01c
import Derived.Test.YtlclfonlidcfiaaC04b
import Derived.Test.YtlclfonlidcfiaaMA
import Derived.Deep.QuietTactic
import Derived.BigQuiet
namespace Go.Proofs.Ytlclfonlidcfiaa
open Go.RowKit
set_option maxRecDepth 100000
attribute [local go_sem ↓] Go.wp_at_zero Go.wp_at_succ
theorem ref12Step (p : Par) (t ticks to : Int) (w : World) : Calls Try.prog 58 #[parV p, .int .i64 t, .int .i64 ticks, .int .i64 to] w fun e w' => e = .returned (.int .i64 (Slew.step p t ticks to)) ∧ Ok w w' := by
  have hok := Ok.refl w
  have hb := Sat.clip_bd p.mu
  have hn : IntKind.i64.wrap (-Sat.clip p.mu) = -Sat.clip p.mu := IntWalk.i64_in _ ⟨by omega, by omega⟩
  unfold Slew.step
  obtain ⟨b, hbe⟩ : ∃ b, Sat.sum [t, ticks] = b := ⟨_, rfl⟩
  have KB := Lib.hid fun (A : Option Addr) w (h : IntsAt w A [t, ticks]) => refAdd A [t, ticks] 2 w h (by simp)
  rw [hbe] at KB ⊢
  obtain ⟨q, hqe⟩ : ∃ b, Sat.clip p.mu = b := ⟨_, rfl⟩
  have KC := Lib.hid fun w => refClip p.mu w
  rw [hqe] at KC hb hn ⊢
  obtain ⟨y, hye⟩ : ∃ x, Sat.bound (Sat.sub to b) (-q) p.mu = x := ⟨_, rfl⟩
  have KO := Lib.hid fun w => refBound (Sat.sub to b) (-q) p.mu w
  rw [hye] at KO ⊢
  have KY := Lib.hid fun (A : Option Addr) w (h : IntsAt w A [b, y]) => refAdd A [b, y] 2 w h (by simp)
  obtain ⟨z, hz⟩ : ∃ x, Sat.sum [b, y] = x := ⟨_, rfl⟩
  rw [hz] at KY ⊢
  clear hbe hqe hye hz
  go_enter Try.func58, Try.ntmps58
  go_wp2_with (go_at_call 44; refine (KB.out _ _ ?_).mono ?_; (focus ((with_reducible refine ints_new _ _ _ _ ?_ ?_) <;> (simp; done))); rintro e w' ⟨rfl, rfl⟩)
  go_quiet (first | (go_at_call 85; exact Calls.quiet_of_same ((refSub _ _ _).mono fun _ _ h => ⟨h.1, h.2.symm⟩)) | (go_at_call 42; exact Calls.quiet_of_same ((KC.out _).mono fun _ _ h => ⟨h.1, h.2.symm⟩)) | (go_at_call 43; exact Calls.quiet_of_same ((KO.out _).mono fun _ _ h => ⟨h.1, h.2.symm⟩)))
  go_wp2_with (go_at_call 44; refine (KY.out _ _ ?_).mono ?_; (focus ((with_reducible refine ints_new _ _ _ _ ?_ ?_) <;> (simp; done))); rintro e w' ⟨rfl, rfl⟩)
  go_ret
  exact ⟨rfl, ((((hok.alloc _).alloc _).drewN _).alloc _)⟩
end Go.Proofs.Ytlclfonlidcfiaa
