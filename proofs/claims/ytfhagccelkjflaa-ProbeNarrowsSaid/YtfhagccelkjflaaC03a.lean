/- Contracts of layer 3's functions: those of one span. -/
import Derived.Test.YtfhagccelkjflaaC01a
import Derived.Test.YtfhagccelkjflaaC01c
import Derived.Test.YtfhagccelkjflaaW04
import Derived.Deep.QuietTactic
import Derived.BigQuiet
import Derived.Deep.RegionHeld3
import Derived.Deep.DrawnRows
import Derived.Test.YtfhagccelkjflaaM04
namespace Go.Proofs.Ytfhagccelkjflaa
open Go.RowKit
set_option maxRecDepth 100000
attribute [local go_sem ↓] Go.wp_at_zero Go.wp_at_succ
/-- A span, as a value. -/
abbrev spanV (lo hi : Int) : Value := .agg #[.int .i64 lo, .int .i64 hi]

theorem spanAll (w : World) : Calls Try.prog 32 #[] w fun e w' => e = .returned (spanV (-2305843009213693952) 2305843009213693952) ∧ Ok w w' := by
  have hok := Ok.refl w
  go_enter Try.func32, Try.ntmps32
  go_wp2
  exact bodyPost_ret (v := spanV (-2305843009213693952) 2305843009213693952) (by simp [results, Try.results32, go_sem]) rfl ⟨rfl, hok.alloc _⟩
theorem spanOf (lo hi : Int) (w : World) : Calls Try.prog 18 #[.int .i64 lo, .int .i64 hi] w fun e w' => e = .returned (spanV (Sat.clip lo) (Sat.clip hi)) ∧ Ok w w' := by
  have hok := Ok.refl w
  go_enter Try.func18, Try.ntmps18
  go_wp2_with (go_at_call 31; refine (satClip _ _).mono ?_; rintro e w' ⟨rfl, rfl⟩)
  exact bodyPost_ret (v := spanV (Sat.clip lo) (Sat.clip hi)) (by simp [results, Try.results18, go_sem]) rfl ⟨rfl, hok.alloc _⟩
theorem spanEmpty (lo hi : Int) (w : World) : Calls Try.prog 20 #[spanV lo hi] w fun e w' => e = .returned (.bool (decide (hi < lo))) ∧ Ok w w' := by
  have hok := Ok.refl w
  go_enter Try.func20, Try.ntmps20
  go_wp2
  go_ret
  exact ⟨rfl, hok.alloc _⟩
theorem spanWide (lo hi : Int) (w : World) : Calls Try.prog 22 #[spanV lo hi] w fun e w' => e = .returned (.int .i64 (if hi < lo then -1 else Sat.sub hi lo)) ∧ Ok w w' := by
  have hok := Ok.refl w
  by_cases h : hi < lo
  · rw [if_pos h]
    go_enter Try.func22, Try.ntmps22
    go_wp2_with (go_at_call 20; refine (spanEmpty _ _ _).mono ?_; rintro e w1 ⟨rfl, hb1⟩; replace hok := (hok.alloc _).trans hb1; clear hb1)
    go_ret
    exact ⟨rfl, hok⟩
  · rw [if_neg h]
    go_enter Try.func22, Try.ntmps22
    go_wp2_with (first | (go_at_call 20; refine (spanEmpty _ _ _).mono ?_; rintro e w1 ⟨rfl, hb1⟩; obtain ⟨c0, c1, -⟩ := (Box.new _ _ _ _ rfl).next hb1; replace hok := (hok.alloc _).trans hb1; clear hb1) | (go_at_call 15; refine (satSub _ _ _).mono ?_; rintro e w' ⟨rfl, rfl⟩))
    go_ret
    exact ⟨rfl, hok⟩
set_option maxHeartbeats 800000 in
theorem spanShift (a b lo hi : Int) (w : World) : Calls Try.prog 34 #[spanV a b, .int .i64 lo, .int .i64 hi] w fun e w' => e = .returned (spanV (Sat.sum [a, lo]) (Sat.sum [b, hi])) ∧ Ok w w' := by
  have hok := Ok.refl w
  go_enter Try.func34, Try.ntmps34
  go_wp2
  go_region_held3 (fun w' => w'.cell? ⟨w.heap.size, 0, none⟩ = some (.int .i64 a) ∧ w'.cell? ⟨w.heap.size, 1, none⟩ = some (.int .i64 b))
    (go_keep) (first | (go_at_call 19; refine (satAdd _ [a, lo] 2 _ ?_ (by simp)).mono ?_; (focus ((repeat (first | ((with_reducible refine ints_new _ _ _ _ ?_ ?_) <;> (simp; done)) | (with_reducible refine IntsAt.drew ?_) | (with_reducible refine IntsAt.alloc ?_ _))); done)); rintro e w' ⟨rfl, rfl⟩) | (go_at_call 19; refine (satAdd _ [b, hi] 2 _ ?_ (by simp)).mono ?_; (focus ((repeat (first | ((with_reducible refine ints_new _ _ _ _ ?_ ?_) <;> (simp; done)) | (with_reducible refine IntsAt.drew ?_) | (with_reducible refine IntsAt.alloc ?_ _))); done)); rintro e w' ⟨rfl, rfl⟩))
  all_goals
    go_wp2
    exact bodyPost_ret (v := spanV _ _) (by simp [results, Try.results34, go_sem]) rfl ⟨rfl, by repeat (first | (with_reducible exact hok) | ((with_reducible refine Ok.setCell ?_ ?_ _); focus (simp; done)) | (with_reducible refine Ok.drew ?_) | (with_reducible refine Ok.alloc ?_ _))⟩
theorem ref3Of (lo hi : Int) (w : World) : Calls Try.prog 38 #[.int .i64 lo, .int .i64 hi] w fun e w' => e = .returned (spanV (Sat.clip lo) (Sat.clip hi)) ∧ Ok w w' := by
  have hok := Ok.refl w
  go_enter Try.func38, Try.ntmps38
  go_wp2_with (go_at_call 36; refine (refClip _ _).mono ?_; rintro e w' ⟨rfl, rfl⟩)
  exact bodyPost_ret (v := spanV (Sat.clip lo) (Sat.clip hi)) (by simp [results, Try.results38, go_sem]) rfl ⟨rfl, hok.alloc _⟩
theorem ref3Wide (lo hi : Int) (w : World) : Calls Try.prog 11 #[spanV lo hi] w fun e w' => e = .returned (.int .i64 (if hi < lo then -1 else Sat.sub hi lo)) ∧ Ok w w' := by
  have hok := Ok.refl w
  by_cases h : hi < lo
  · rw [if_pos h]
    go_enter Try.func11, Try.ntmps11
    go_wp2
    go_ret
    exact ⟨rfl, hok.alloc _⟩
  · rw [if_neg h]
    go_enter Try.func11, Try.ntmps11
    go_wp2_with (go_at_call 21; refine (refSub _ _ _).mono ?_; rintro e w' ⟨rfl, rfl⟩)
    go_ret
    exact ⟨rfl, hok.alloc _⟩
set_option maxHeartbeats 800000 in
theorem ref3Shift (a b lo hi : Int) (w : World) : Calls Try.prog 28 #[spanV a b, .int .i64 lo, .int .i64 hi] w fun e w' => e = .returned (spanV (Sat.sum [a, lo]) (Sat.sum [b, hi])) ∧ Ok w w' := by
  have hok := Ok.refl w
  go_enter Try.func28, Try.ntmps28
  go_wp2
  go_region_held3 (fun w' => w'.cell? ⟨w.heap.size, 0, none⟩ = some (.int .i64 a) ∧ w'.cell? ⟨w.heap.size, 1, none⟩ = some (.int .i64 b))
    (go_keep) (first | (go_at_call 29; refine (refAdd _ [a, lo] 2 _ ?_ (by simp)).mono ?_; (focus ((repeat (first | ((with_reducible refine ints_new _ _ _ _ ?_ ?_) <;> (simp; done)) | (with_reducible refine IntsAt.drew ?_) | (with_reducible refine IntsAt.alloc ?_ _))); done)); rintro e w' ⟨rfl, rfl⟩) | (go_at_call 29; refine (refAdd _ [b, hi] 2 _ ?_ (by simp)).mono ?_; (focus ((repeat (first | ((with_reducible refine ints_new _ _ _ _ ?_ ?_) <;> (simp; done)) | (with_reducible refine IntsAt.drew ?_) | (with_reducible refine IntsAt.alloc ?_ _))); done)); rintro e w' ⟨rfl, rfl⟩))
  all_goals
    go_wp2
    exact bodyPost_ret (v := spanV _ _) (by simp [results, Try.results28, go_sem]) rfl ⟨rfl, by repeat (first | (with_reducible exact hok) | ((with_reducible refine Ok.setCell ?_ ?_ _); focus (simp; done)) | (with_reducible refine Ok.drew ?_) | (with_reducible refine Ok.alloc ?_ _))⟩
end Go.Proofs.Ytfhagccelkjflaa
