/- Contracts of layer 3's functions: those of one span. -/
import Derived.Test.YtlbijepejihjgaaC01a
import Derived.Test.YtlbijepejihjgaaC01c
import Derived.Test.YtlbijepejihjgaaW04
import Derived.Deep.QuietTactic
import Derived.BigQuiet
import Derived.Deep.RegionHeld3
import Derived.Deep.DrawnRows
import Derived.Test.YtlbijepejihjgaaM04
namespace Go.Proofs.Ytlbijepejihjgaa
open Go.RowKit
set_option maxRecDepth 100000
attribute [local go_sem ↓] Go.wp_at_zero Go.wp_at_succ
/-- A span, as a value. -/
abbrev spanV (lo hi : Int) : Value := .agg #[.int .i64 lo, .int .i64 hi]

theorem spanOf (lo hi : Int) (w : World) : Calls Try.prog 20 #[.int .i64 lo, .int .i64 hi] w fun e w' => e = .returned (spanV (Sat.clip lo) (Sat.clip hi)) ∧ Ok w w' := by
  have hok := Ok.refl w
  go_enter Try.func20, Try.ntmps20
  go_wp2_with (go_at_call 40; refine (satClip _ _).mono ?_; rintro e w' ⟨rfl, rfl⟩)
  exact bodyPost_ret (v := spanV (Sat.clip lo) (Sat.clip hi)) (by simp [results, Try.results20, go_sem]) rfl ⟨rfl, hok.alloc _⟩
theorem spanEmpty (lo hi : Int) (w : World) : Calls Try.prog 47 #[spanV lo hi] w fun e w' => e = .returned (.bool (decide (hi < lo))) ∧ Ok w w' := by
  have hok := Ok.refl w
  go_enter Try.func47, Try.ntmps47
  go_wp2
  go_ret
  exact ⟨rfl, hok.alloc _⟩
set_option maxHeartbeats 800000 in
theorem spanShift (a b lo hi : Int) (w : World) : Calls Try.prog 37 #[spanV a b, .int .i64 lo, .int .i64 hi] w fun e w' => e = .returned (spanV (Sat.sum [a, lo]) (Sat.sum [b, hi])) ∧ Ok w w' := by
  have hok := Ok.refl w
  go_enter Try.func37, Try.ntmps37
  go_wp2
  go_region_held3 (fun w' => w'.cell? ⟨w.heap.size, 0, none⟩ = some (.int .i64 a) ∧ w'.cell? ⟨w.heap.size, 1, none⟩ = some (.int .i64 b))
    (go_keep) (first | (go_at_call 22; refine (satAdd _ [a, lo] 2 _ ?_ (by simp)).mono ?_; (focus ((repeat (first | ((with_reducible refine ints_new _ _ _ _ ?_ ?_) <;> (simp; done)) | (with_reducible refine IntsAt.drew ?_) | (with_reducible refine IntsAt.alloc ?_ _))); done)); rintro e w' ⟨rfl, rfl⟩) | (go_at_call 22; refine (satAdd _ [b, hi] 2 _ ?_ (by simp)).mono ?_; (focus ((repeat (first | ((with_reducible refine ints_new _ _ _ _ ?_ ?_) <;> (simp; done)) | (with_reducible refine IntsAt.drew ?_) | (with_reducible refine IntsAt.alloc ?_ _))); done)); rintro e w' ⟨rfl, rfl⟩))
  all_goals
    go_wp2
    exact bodyPost_ret (v := spanV _ _) (by simp [results, Try.results37, go_sem]) rfl ⟨rfl, by repeat (first | (with_reducible exact hok) | ((with_reducible refine Ok.setCell ?_ ?_ _); focus (simp; done)) | (with_reducible refine Ok.drew ?_) | (with_reducible refine Ok.alloc ?_ _))⟩
theorem ref3Of (lo hi : Int) (w : World) : Calls Try.prog 30 #[.int .i64 lo, .int .i64 hi] w fun e w' => e = .returned (spanV (Sat.clip lo) (Sat.clip hi)) ∧ Ok w w' := by
  have hok := Ok.refl w
  go_enter Try.func30, Try.ntmps30
  go_wp2_with (go_at_call 41; refine (refClip _ _).mono ?_; rintro e w' ⟨rfl, rfl⟩)
  exact bodyPost_ret (v := spanV (Sat.clip lo) (Sat.clip hi)) (by simp [results, Try.results30, go_sem]) rfl ⟨rfl, hok.alloc _⟩
end Go.Proofs.Ytlbijepejihjgaa
