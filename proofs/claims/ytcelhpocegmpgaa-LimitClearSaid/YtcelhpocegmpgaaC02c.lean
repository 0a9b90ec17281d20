/- Contracts of layer 2's document functions: divisors, division. -/
import Derived.Test.YtcelhpocegmpgaaC01a
import Derived.Test.YtcelhpocegmpgaaM02
import Derived.Test.YtcelhpocegmpgaaW02
namespace Go.Proofs.Ytcelhpocegmpgaa
open Go.RowKit Go.Lib
set_option maxRecDepth 100000

theorem refOne (c : Int) (w : World) : Calls Try.prog 43 #[.int .i64 c] w fun e w' => e = .returned (.int .i64 (Wide.one c)) ∧ w = w' := by
  by_cases h : Sat.clip c < 1
  · have e : Wide.one c = 1 := by unfold Wide.one; rw [if_pos h]
    rw [e]; clear e
    go_enter Try.func43, Try.ntmps43
    go_wp2_with (go_at_call 40; refine (refClip _ _).mono ?_; rintro e w' ⟨rfl, rfl⟩)
    go_ret
    exact ⟨rfl, rfl⟩
  · have e : Wide.one c = Sat.clip c := by unfold Wide.one; rw [if_neg h]
    rw [e]; clear e
    go_enter Try.func43, Try.ntmps43
    go_wp2_with (go_at_call 40; refine (refClip _ _).mono ?_; rintro e w' ⟨rfl, rfl⟩)
    go_ret
    exact ⟨rfl, rfl⟩
end Go.Proofs.Ytcelhpocegmpgaa
