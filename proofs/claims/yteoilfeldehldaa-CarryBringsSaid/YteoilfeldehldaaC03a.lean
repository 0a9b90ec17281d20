/- Contracts of layer 3's functions: those of one span. -/
import Derived.Test.YteoilfeldehldaaC01a
import Derived.Test.YteoilfeldehldaaC01c
import Derived.Test.YteoilfeldehldaaW04
import Derived.Deep.QuietTactic
import Derived.BigQuiet
import Derived.Deep.RegionHeld3
import Derived.Deep.DrawnRows
import Derived.Test.YteoilfeldehldaaM04
namespace Go.Proofs.Yteoilfeldehldaa
open Go.RowKit
set_option maxRecDepth 100000
attribute [local go_sem ↓] Go.wp_at_zero Go.wp_at_succ
/-- A span, as a value. -/
abbrev spanV (lo hi : Int) : Value := .agg #[.int .i64 lo, .int .i64 hi]

set_option maxHeartbeats 800000 in
theorem spanShift (a b lo hi : Int) (w : World) : Calls Try.prog 21 #[spanV a b, .int .i64 lo, .int .i64 hi] w fun e w' => e = .returned (spanV (Sat.sum [a, lo]) (Sat.sum [b, hi])) ∧ Ok w w' := by
  have hok := Ok.refl w
  go_enter Try.func21, Try.ntmps21
  go_wp2
  go_region_held3 (fun w' => w'.cell? ⟨w.heap.size, 0, none⟩ = some (.int .i64 a) ∧ w'.cell? ⟨w.heap.size, 1, none⟩ = some (.int .i64 b))
    (go_keep) (first | (go_at_call 23; refine (satAdd _ [a, lo] 2 _ ?_ (by simp)).mono ?_; (focus ((repeat (first | ((with_reducible refine ints_new _ _ _ _ ?_ ?_) <;> (simp; done)) | (with_reducible refine IntsAt.drew ?_) | (with_reducible refine IntsAt.alloc ?_ _))); done)); rintro e w' ⟨rfl, rfl⟩) | (go_at_call 23; refine (satAdd _ [b, hi] 2 _ ?_ (by simp)).mono ?_; (focus ((repeat (first | ((with_reducible refine ints_new _ _ _ _ ?_ ?_) <;> (simp; done)) | (with_reducible refine IntsAt.drew ?_) | (with_reducible refine IntsAt.alloc ?_ _))); done)); rintro e w' ⟨rfl, rfl⟩))
  all_goals
    go_wp2
    exact bodyPost_ret (v := spanV _ _) (by simp [results, Try.results21, go_sem]) rfl ⟨rfl, by repeat (first | (with_reducible exact hok) | ((with_reducible refine Ok.setCell ?_ ?_ _); focus (simp; done)) | (with_reducible refine Ok.drew ?_) | (with_reducible refine Ok.alloc ?_ _))⟩
set_option maxHeartbeats 800000 in
theorem ref3Shift (a b lo hi : Int) (w : World) : Calls Try.prog 24 #[spanV a b, .int .i64 lo, .int .i64 hi] w fun e w' => e = .returned (spanV (Sat.sum [a, lo]) (Sat.sum [b, hi])) ∧ Ok w w' := by
  have hok := Ok.refl w
  go_enter Try.func24, Try.ntmps24
  go_wp2
  go_region_held3 (fun w' => w'.cell? ⟨w.heap.size, 0, none⟩ = some (.int .i64 a) ∧ w'.cell? ⟨w.heap.size, 1, none⟩ = some (.int .i64 b))
    (go_keep) (first | (go_at_call 26; refine (refAdd _ [a, lo] 2 _ ?_ (by simp)).mono ?_; (focus ((repeat (first | ((with_reducible refine ints_new _ _ _ _ ?_ ?_) <;> (simp; done)) | (with_reducible refine IntsAt.drew ?_) | (with_reducible refine IntsAt.alloc ?_ _))); done)); rintro e w' ⟨rfl, rfl⟩) | (go_at_call 26; refine (refAdd _ [b, hi] 2 _ ?_ (by simp)).mono ?_; (focus ((repeat (first | ((with_reducible refine ints_new _ _ _ _ ?_ ?_) <;> (simp; done)) | (with_reducible refine IntsAt.drew ?_) | (with_reducible refine IntsAt.alloc ?_ _))); done)); rintro e w' ⟨rfl, rfl⟩))
  all_goals
    go_wp2
    exact bodyPost_ret (v := spanV _ _) (by simp [results, Try.results24, go_sem]) rfl ⟨rfl, by repeat (first | (with_reducible exact hok) | ((with_reducible refine Ok.setCell ?_ ?_ _); focus (simp; done)) | (with_reducible refine Ok.drew ?_) | (with_reducible refine Ok.alloc ?_ _))⟩
end Go.Proofs.Yteoilfeldehldaa
