/- Layer 4: what every law asks first. -/
import Derived.Test.YtcelhpocegmpgaaC04e
import Derived.Test.YtcelhpocegmpgaaC04c
namespace Go.Proofs.Ytcelhpocegmpgaa
open Go.RowKit
set_option maxRecDepth 100000
/-- The document's example. -/
def exP : Par := ⟨4, 1, 2, 1000, 1, 100, 10, 50, 20, 5, 5000, 1000⟩
abbrev exV : Value := .agg #[.int .i64 4, .int .i64 1, .int .i64 2, .int .i64 1000, .int .i64 1, .int .i64 100, .int .i64 10, .int .i64 50, .int .i64 20, .int .i64 5, .int .i64 5000, .int .i64 1000]
theorem law4Some (w : World) : Calls Try.prog 9 #[] w fun e w' => e = .returned exV ∧ Ok w w' := by
  have hok := Ok.refl w
  go_enter Try.func9, Try.ntmps9
  go_wp2
  exact bodyPost_ret (v := exV) (by simp [results, Try.results9, go_sem]) rfl ⟨rfl, hok.alloc _⟩
theorem ex_check : Lim.check exP = 0 := by decide
theorem ex_hop : Lim.hop exP = 12 := by decide
theorem ex_gate : Lim.gate exP = 224 := by decide
theorem ex_width : Lim.width exP 0 2 = 260 := by decide
theorem ex_settle : Lim.settle exP = 53 := by decide
theorem exCheck (w : World) : Calls Try.prog 8 #[exV] w fun e w' => e = .returned (.int .i64 0) ∧ Ok w w' := by
  have h := limCheck exP w; rw [ex_check] at h; exact h
theorem exHop (w : World) : Calls Try.prog 12 #[exV] w fun e w' => e = .returned (.int .i64 12) ∧ Ok w w' := by
  have h := limHop exP w; rw [ex_hop] at h; exact h
theorem exGate (w : World) : Calls Try.prog 14 #[exV] w fun e w' => e = .returned (.int .i64 224) ∧ Ok w w' := by
  have h := limGate exP w; rw [ex_gate] at h; exact h
theorem exWidth (w : World) : Calls Try.prog 16 #[exV, .int .i64 0, .int .i64 2] w fun e w' => e = .returned (.int .i64 260) ∧ Ok w w' := by
  have h := limWidth exP 0 2 w; rw [ex_width] at h; exact h
theorem exSettle (w : World) : Calls Try.prog 20 #[exV] w fun e w' => e = .returned (.int .i64 53) ∧ Ok w w' := by
  have h := limSettle exP w; rw [ex_settle] at h; exact h
set_option maxHeartbeats 800000 in
theorem law4Alive (w : World) : Calls Try.prog 11 #[] w fun e w' => e = .returned (.bool true) ∧ Ok w w' := by
  have hok := Ok.refl w
  go_enter Try.func11, Try.ntmps11
  go_wp2_with (first
    | (go_at_call 9; (with_reducible refine (law4Some _).mono ?_); rintro e w1 ⟨rfl, hb1⟩; replace hok := hok.trans hb1; clear hb1)
    | (go_at_call 8; (with_reducible refine (exCheck _).mono ?_); rintro e w1 ⟨rfl, hb1⟩; replace hok := hok.trans hb1; clear hb1)
    | (go_at_call 12; (with_reducible refine (exHop _).mono ?_); rintro e w1 ⟨rfl, hb1⟩; replace hok := hok.trans hb1; clear hb1)
    | (go_at_call 14; (with_reducible refine (exGate _).mono ?_); rintro e w1 ⟨rfl, hb1⟩; replace hok := hok.trans hb1; clear hb1)
    | (go_at_call 16; (with_reducible refine (exWidth _).mono ?_); rintro e w1 ⟨rfl, hb1⟩; replace hok := hok.trans hb1; clear hb1)
    | (go_at_call 20; (with_reducible refine (exSettle _).mono ?_); rintro e w1 ⟨rfl, hb1⟩; replace hok := hok.trans hb1; clear hb1))
  go_ret
  exact ⟨rfl, hok⟩
end Go.Proofs.Ytcelhpocegmpgaa
