/- Contracts of layer 1's functions, the program's and the document's. -/
import Derived.Test.YtgfnfjkajahoaaaRows
import Derived.Test.YtgfnfjkajahoaaaM01
import Derived.WalkKit
import Derived.ProofKit
import Derived.OpenShut
import Derived.WalkLawsBesides
import Derived.IntWalk
import Derived.Lib.Hide
namespace Go.Proofs.Ytgfnfjkajahoaaa
open Go.RowKit

theorem satBound (x lo hi : Int) (w : World) : Calls Try.prog 29 #[.int .i64 x, .int .i64 lo, .int .i64 hi] w fun e w' => e = .returned (.int .i64 (Sat.bound x lo hi)) ∧ w = w' := by
  by_cases h1 : x < lo
  · have h : Sat.bound x lo hi = lo := by unfold Sat.bound; rw [if_pos (Or.inr h1)]
    rw [h]; clear h
    go_enter Try.func29, Try.ntmps29
    go_wp2
    go_ret
    exact ⟨rfl, rfl⟩
  · by_cases h2 : hi < lo
    · have h : Sat.bound x lo hi = lo := by unfold Sat.bound; rw [if_pos (Or.inl h2)]
      rw [h]; clear h
      go_enter Try.func29, Try.ntmps29
      go_wp2
      go_ret
      exact ⟨rfl, rfl⟩
    · by_cases h3 : hi < x
      · have h : Sat.bound x lo hi = hi := by unfold Sat.bound; rw [if_neg (by omega), if_pos h3]
        rw [h]; clear h
        go_enter Try.func29, Try.ntmps29
        go_wp2
        go_ret
        exact ⟨rfl, rfl⟩
      · have h : Sat.bound x lo hi = x := by unfold Sat.bound; rw [if_neg (by omega), if_neg h3]
        rw [h]; clear h
        go_enter Try.func29, Try.ntmps29
        go_wp2
        go_ret
        exact ⟨rfl, rfl⟩

theorem satClip (x : Int) (w : World) : Calls Try.prog 23 #[.int .i64 x] w fun e w' => e = .returned (.int .i64 (Sat.clip x)) ∧ w = w' := by
  rw [Sat.clip_eq_bound]
  go_enter Try.func23, Try.ntmps23
  go_wp2_with (go_at_call 29; refine (satBound _ _ _ _).mono ?_; rintro e w' ⟨rfl, rfl⟩)
  go_ret
  exact ⟨rfl, rfl⟩

theorem refClip (x : Int) (w : World) : Calls Try.prog 20 #[.int .i64 x] w fun e w' => e = .returned (.int .i64 (Sat.clip x)) ∧ w = w' := by
  by_cases h1 : 2305843009213693952 < x
  · rw [Sat.clip_hi (by omega)]
    go_enter Try.func20, Try.ntmps20
    go_wp2
    go_ret
    exact ⟨rfl, rfl⟩
  · by_cases h2 : x < -2305843009213693952
    · rw [Sat.clip_lo (by omega)]
      go_enter Try.func20, Try.ntmps20
      go_wp2
      go_ret
      exact ⟨rfl, rfl⟩
    · rw [Sat.clip_in (by omega) (by omega)]
      go_enter Try.func20, Try.ntmps20
      go_wp2
      go_ret
      exact ⟨rfl, rfl⟩
end Go.Proofs.Ytgfnfjkajahoaaa
