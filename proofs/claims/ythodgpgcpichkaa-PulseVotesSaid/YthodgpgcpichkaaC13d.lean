/- Layer 13: what every law asks first. -/
import Derived.Test.YthodgpgcpichkaaC13c
namespace Go.Proofs.Ythodgpgcpichkaa
open Go.RowKit
set_option linter.unusedVariables false
set_option maxRecDepth 100000
attribute [local go_sem ↓] Go.wp_at_zero Go.wp_at_succ
/-- The document's example. -/
def par13 : Par := ⟨0, 0, 0, 0, 0, 0, 0, 0, 0, 0, 10, 0⟩
set_option maxHeartbeats 1600000 in
theorem law13Alive (w : World) : Calls Try.prog 7 #[] w fun e w' => e = .returned (.bool true) ∧ Ok w w' := by
  have KN := Lib.hid fun w => pulseNumber par13 (-1) w
  have KP := Lib.hid fun w => pulsePhase par13 (-1) w
  have KF := Lib.hid fun w => pulseFired par13 8 31 9 (by omega) w
  rw [show Pulse.num par13.pulse (-1) = -1 by decide +kernel] at KN
  rw [show Pulse.ph par13.pulse (-1) = 9 by decide +kernel] at KP
  unfold FiredEnd at KF
  rw [show Pulse.count par13.pulse 8 31 9 = 3 by decide +kernel, show Pulse.fired par13.pulse 8 31 9 = [1, 2, 3] by decide +kernel] at KF
  have HP := Lib.hid (Own.new w (parCells par13) 23 rfl)
  have hok := (Ok.refl w).alloc (.cells (parCells par13) 23)
  have hz : ∀ w, Sem.run Try.prog (zeroValue 23) w = .ok (.agg #[.int .i64 0, .int .i64 0, .int .i64 0, .int .i64 0, .int .i64 0, .int .i64 0, .int .i64 0, .int .i64 0, .int .i64 0, .int .i64 0, .int .i64 0, .int .i64 0]) w := fun _ => by kernel_rfl
  go_enter Try.func7, Try.ntmps7
  go_wp2_with (first
    | (go_at_call 11; refine (KN.out _).mono ?_; rintro e w1 ⟨rfl, hb1⟩; have hP := HP.out.next hb1; replace hok := hok.trans hb1; clear hb1 HP; obtain ⟨c0, c1, c2, c3, c4, c5, c6, c7, c8, c9, c10, c11⟩ := hP.pars; have hPl := hP.lt)
    | (go_at_call 15; refine (KP.out _).mono ?_; rintro e w2 ⟨rfl, hb1⟩; clear c0 c1 c2 c3 c4 c5 c6 c7 c8 c9 c10 c11 hPl; replace hP := hP.next hb1; replace hok := hok.trans hb1; clear hb1; obtain ⟨c0, c1, c2, c3, c4, c5, c6, c7, c8, c9, c10, c11⟩ := hP.pars; have hPl := hP.lt)
    | (go_at_call 9; refine (KF.out _).mono ?_; rintro e w3 ⟨A, c, rfl, hI, hb1⟩; clear c0 c1 c2 c3 c4 c5 c6 c7 c8 c9 c10 c11 hPl; replace hok := hok.trans hb1; clear hb1 hP)
    | (go_at_call 8; refine (sameTrue A _ [1, 2, 3] 3 c 3 _ rfl (hI.below (below_alloc _ _)) (ints_new _ _ _ _ rfl rfl) (by omega)).mono ?_; rintro e w4 ⟨rfl, hb1⟩; replace hok := (hok.alloc _).trans hb1; clear hb1))
  go_ret
  exact ⟨rfl, hok⟩
end Go.Proofs.Ythodgpgcpichkaa
