import Derived.Test.YtmokofblmkeloaaGreatDoorRows
import Derived.Test.YtmokofblmkeloaaGreatDoorMA
import Derived.WalkKit
import Derived.ProofKit
import Derived.OpenShut
import Derived.WalkLawsBesides
import Derived.IntWalk
import Derived.Lib.Hide
namespace Go.Proofs.YtmokofblmkeloaaGreatDoor
open Go.RowKit

theorem satBound (x lo hi : Int) (w : World) : Calls Tryz.prog 55 #[.int .i64 x, .int .i64 lo, .int .i64 hi] w fun e w' => e = .returned (.int .i64 (Sat.bound x lo hi)) ∧ w = w' := by
  by_cases h1 : x < lo
  · have h : Sat.bound x lo hi = lo := by unfold Sat.bound; rw [if_pos (Or.inr h1)]
    rw [h]; clear h
    go_enter Tryz.func55, Tryz.ntmps55
    go_wp2
    go_ret
    exact ⟨rfl, rfl⟩
  · by_cases h2 : hi < lo
    · have h : Sat.bound x lo hi = lo := by unfold Sat.bound; rw [if_pos (Or.inl h2)]
      rw [h]; clear h
      go_enter Tryz.func55, Tryz.ntmps55
      go_wp2
      go_ret
      exact ⟨rfl, rfl⟩
    · by_cases h3 : hi < x
      · have h : Sat.bound x lo hi = hi := by unfold Sat.bound; rw [if_neg (by omega), if_pos h3]
        rw [h]; clear h
        go_enter Tryz.func55, Tryz.ntmps55
        go_wp2
        go_ret
        exact ⟨rfl, rfl⟩
      · have h : Sat.bound x lo hi = x := by unfold Sat.bound; rw [if_neg (by omega), if_neg h3]
        rw [h]; clear h
        go_enter Tryz.func55, Tryz.ntmps55
        go_wp2
        go_ret
        exact ⟨rfl, rfl⟩

theorem satClip (x : Int) (w : World) : Calls Tryz.prog 54 #[.int .i64 x] w fun e w' => e = .returned (.int .i64 (Sat.clip x)) ∧ w = w' := by
  rw [Sat.clip_eq_bound]
  go_enter Tryz.func54, Tryz.ntmps54
  go_wp2_with (go_at_call 55; refine (satBound _ _ _ _).mono ?_; rintro e w' ⟨rfl, rfl⟩)
  go_ret
  exact ⟨rfl, rfl⟩

theorem satNeg (x : Int) (w : World) : Calls Tryz.prog 143 #[.int .i64 x] w fun e w' => e = .returned (.int .i64 (Sat.neg x)) ∧ w = w' := by
  have hb := Sat.clip_bd x
  unfold Sat.neg
  go_enter Tryz.func143, Tryz.ntmps143
  go_wp2_with (go_at_call 54; refine (satClip _ _).mono ?_; rintro e w' ⟨rfl, rfl⟩)
  go_ret
  exact ⟨rfl, rfl⟩
theorem satAbs (x : Int) (w : World) : Calls Tryz.prog 105 #[.int .i64 x] w fun e w' => e = .returned (.int .i64 (Sat.abs x)) ∧ w = w' := by
  have hb := Sat.clip_bd x
  by_cases h : Sat.clip x < 0
  · have h1 : Sat.abs x = Sat.neg x := by unfold Sat.abs Sat.neg; rw [if_pos h]
    have h2 : Sat.clip x < Sat.neg x := by unfold Sat.neg; omega
    rw [h1]; clear h1
    go_enter Tryz.func105, Tryz.ntmps105
    go_wp2_with (first | (go_at_call 54; refine (satClip _ _).mono ?_; rintro e w' ⟨rfl, rfl⟩) | (go_at_call 143; refine (satNeg _ _).mono ?_; rintro e w' ⟨rfl, rfl⟩))
    go_ret
    exact ⟨rfl, rfl⟩
  · have h1 : Sat.abs x = Sat.clip x := by unfold Sat.abs; rw [if_neg h]
    have h2 : Sat.neg x ≤ Sat.clip x := by unfold Sat.neg; omega
    rw [h1]; clear h1
    go_enter Tryz.func105, Tryz.ntmps105
    go_wp2_with (first | (go_at_call 54; refine (satClip _ _).mono ?_; rintro e w' ⟨rfl, rfl⟩) | (go_at_call 143; refine (satNeg _ _).mono ?_; rintro e w' ⟨rfl, rfl⟩))
    go_ret
    exact ⟨rfl, rfl⟩
theorem satSub (a b : Int) (w : World) : Calls Tryz.prog 148 #[.int .i64 a, .int .i64 b] w fun e w' => e = .returned (.int .i64 (Sat.sub a b)) ∧ w = w' := by
  have ha := Sat.clip_bd a
  have hb := Sat.clip_bd b
  unfold Sat.sub
  go_enter Tryz.func148, Tryz.ntmps148
  go_wp2_with (go_at_call 54; refine (satClip _ _).mono ?_; rintro e w' ⟨rfl, rfl⟩)
  go_ret
  exact ⟨rfl, rfl⟩
end Go.Proofs.YtmokofblmkeloaaGreatDoor
