/- Contracts of layer 3's functions: those of one span. -/
import Derived.Test.YtpbgfjfodojlaaaC01a
import Derived.Test.YtpbgfjfodojlaaaC01c
import Derived.Test.YtpbgfjfodojlaaaW04
import Derived.Deep.QuietTactic
import Derived.BigQuiet
import Derived.Deep.RegionHeld3
import Derived.Deep.DrawnRows
import Derived.Test.YtpbgfjfodojlaaaM04
namespace Go.Proofs.Ytpbgfjfodojlaaa
open Go.RowKit
set_option maxRecDepth 100000
attribute [local go_sem ↓] Go.wp_at_zero Go.wp_at_succ
/-- A span, as a value. -/
abbrev spanV (lo hi : Int) : Value := .agg #[.int .i64 lo, .int .i64 hi]

theorem spanAll (w : World) : Calls Try.prog 10 #[] w fun e w' => e = .returned (spanV (-2305843009213693952) 2305843009213693952) ∧ Ok w w' := by
  have hok := Ok.refl w
  go_enter Try.func10, Try.ntmps10
  go_wp2
  exact bodyPost_ret (v := spanV (-2305843009213693952) 2305843009213693952) (by simp [results, Try.results10, go_sem]) rfl ⟨rfl, hok.alloc _⟩
theorem spanOf (lo hi : Int) (w : World) : Calls Try.prog 11 #[.int .i64 lo, .int .i64 hi] w fun e w' => e = .returned (spanV (Sat.clip lo) (Sat.clip hi)) ∧ Ok w w' := by
  have hok := Ok.refl w
  go_enter Try.func11, Try.ntmps11
  go_wp2_with (go_at_call 26; refine (satClip _ _).mono ?_; rintro e w' ⟨rfl, rfl⟩)
  exact bodyPost_ret (v := spanV (Sat.clip lo) (Sat.clip hi)) (by simp [results, Try.results11, go_sem]) rfl ⟨rfl, hok.alloc _⟩
theorem spanEmpty (lo hi : Int) (w : World) : Calls Try.prog 13 #[spanV lo hi] w fun e w' => e = .returned (.bool (decide (hi < lo))) ∧ Ok w w' := by
  have hok := Ok.refl w
  go_enter Try.func13, Try.ntmps13
  go_wp2
  go_ret
  exact ⟨rfl, hok.alloc _⟩
theorem spanHas (lo hi x : Int) (w : World) : Calls Try.prog 14 #[spanV lo hi, .int .i64 x] w fun e w' => e = .returned (.bool (decide (lo ≤ x ∧ x ≤ hi))) ∧ Ok w w' := by
  have hok := Ok.refl w
  by_cases h : lo ≤ x
  · by_cases h2 : x ≤ hi
    · rw [show decide (lo ≤ x ∧ x ≤ hi) = true from decide_eq_true ⟨h, h2⟩]
      go_enter Try.func14, Try.ntmps14
      go_wp2
      go_ret
      exact ⟨rfl, hok.alloc _⟩
    · rw [show decide (lo ≤ x ∧ x ≤ hi) = false from decide_eq_false fun g => h2 g.2]
      go_enter Try.func14, Try.ntmps14
      go_wp2
      go_ret
      exact ⟨rfl, hok.alloc _⟩
  · rw [show decide (lo ≤ x ∧ x ≤ hi) = false from decide_eq_false fun g => h g.1]
    go_enter Try.func14, Try.ntmps14
    go_wp2
    go_ret
    exact ⟨rfl, hok.alloc _⟩
theorem spanWide (lo hi : Int) (w : World) : Calls Try.prog 18 #[spanV lo hi] w fun e w' => e = .returned (.int .i64 (if hi < lo then -1 else Sat.sub hi lo)) ∧ Ok w w' := by
  have hok := Ok.refl w
  by_cases h : hi < lo
  · rw [if_pos h]
    go_enter Try.func18, Try.ntmps18
    go_wp2_with (go_at_call 13; refine (spanEmpty _ _ _).mono ?_; rintro e w1 ⟨rfl, hb1⟩; replace hok := (hok.alloc _).trans hb1; clear hb1)
    go_ret
    exact ⟨rfl, hok⟩
  · rw [if_neg h]
    go_enter Try.func18, Try.ntmps18
    go_wp2_with (first | (go_at_call 13; refine (spanEmpty _ _ _).mono ?_; rintro e w1 ⟨rfl, hb1⟩; obtain ⟨c0, c1, -⟩ := (Box.new _ _ _ _ rfl).next hb1; replace hok := (hok.alloc _).trans hb1; clear hb1) | (go_at_call 30; refine (satSub _ _ _).mono ?_; rintro e w' ⟨rfl, rfl⟩))
    go_ret
    exact ⟨rfl, hok⟩
theorem spanMid (lo hi : Int) (w : World) : Calls Try.prog 9 #[spanV lo hi] w fun e w' => e = .returned (.int .i64 ((Sat.clip lo + Sat.clip hi) / 2)) ∧ Ok w w' := by
  have hok := Ok.refl w
  have b1 := Sat.clip_bd lo
  have b2 := Sat.clip_bd hi
  go_enter Try.func9, Try.ntmps9
  go_wp2
  go_quiet ((go_at_call 26; exact Calls.quiet_of_same ((satClip _ _).mono fun _ _ h => ⟨h.1, h.2.symm⟩)))
  go_wp2
  go_ret
  exact ⟨rfl, (hok.alloc _).drewN _⟩
set_option maxHeartbeats 800000 in
theorem spanShift (a b lo hi : Int) (w : World) : Calls Try.prog 16 #[spanV a b, .int .i64 lo, .int .i64 hi] w fun e w' => e = .returned (spanV (Sat.sum [a, lo]) (Sat.sum [b, hi])) ∧ Ok w w' := by
  have hok := Ok.refl w
  go_enter Try.func16, Try.ntmps16
  go_wp2
  go_region_held3 (fun w' => w'.cell? ⟨w.heap.size, 0, none⟩ = some (.int .i64 a) ∧ w'.cell? ⟨w.heap.size, 1, none⟩ = some (.int .i64 b))
    (go_keep) (first | (go_at_call 28; refine (satAdd _ [a, lo] 2 _ ?_ (by simp)).mono ?_; (focus ((repeat (first | ((with_reducible refine ints_new _ _ _ _ ?_ ?_) <;> (simp; done)) | (with_reducible refine IntsAt.drew ?_) | (with_reducible refine IntsAt.alloc ?_ _))); done)); rintro e w' ⟨rfl, rfl⟩) | (go_at_call 28; refine (satAdd _ [b, hi] 2 _ ?_ (by simp)).mono ?_; (focus ((repeat (first | ((with_reducible refine ints_new _ _ _ _ ?_ ?_) <;> (simp; done)) | (with_reducible refine IntsAt.drew ?_) | (with_reducible refine IntsAt.alloc ?_ _))); done)); rintro e w' ⟨rfl, rfl⟩))
  all_goals
    go_wp2
    exact bodyPost_ret (v := spanV _ _) (by simp [results, Try.results16, go_sem]) rfl ⟨rfl, by repeat (first | (with_reducible exact hok) | ((with_reducible refine Ok.setCell ?_ ?_ _); focus (simp; done)) | (with_reducible refine Ok.drew ?_) | (with_reducible refine Ok.alloc ?_ _))⟩
theorem ref3Of (lo hi : Int) (w : World) : Calls Try.prog 12 #[.int .i64 lo, .int .i64 hi] w fun e w' => e = .returned (spanV (Sat.clip lo) (Sat.clip hi)) ∧ Ok w w' := by
  have hok := Ok.refl w
  go_enter Try.func12, Try.ntmps12
  go_wp2_with (go_at_call 27; refine (refClip _ _).mono ?_; rintro e w' ⟨rfl, rfl⟩)
  exact bodyPost_ret (v := spanV (Sat.clip lo) (Sat.clip hi)) (by simp [results, Try.results12, go_sem]) rfl ⟨rfl, hok.alloc _⟩
theorem ref3Has (lo hi x : Int) (w : World) : Calls Try.prog 15 #[spanV lo hi, .int .i64 x] w fun e w' => e = .returned (.bool (decide (lo ≤ x ∧ x ≤ hi))) ∧ Ok w w' := by
  have hok := Ok.refl w
  by_cases h : lo ≤ x
  · by_cases h2 : x ≤ hi
    · rw [show decide (lo ≤ x ∧ x ≤ hi) = true from decide_eq_true ⟨h, h2⟩]
      go_enter Try.func15, Try.ntmps15
      go_wp2
      go_ret
      exact ⟨rfl, hok.alloc _⟩
    · rw [show decide (lo ≤ x ∧ x ≤ hi) = false from decide_eq_false fun g => h2 g.2]
      go_enter Try.func15, Try.ntmps15
      go_wp2
      go_ret
      exact ⟨rfl, hok.alloc _⟩
  · rw [show decide (lo ≤ x ∧ x ≤ hi) = false from decide_eq_false fun g => h g.1]
    go_enter Try.func15, Try.ntmps15
    go_wp2
    go_ret
    exact ⟨rfl, hok.alloc _⟩
theorem ref3Wide (lo hi : Int) (w : World) : Calls Try.prog 19 #[spanV lo hi] w fun e w' => e = .returned (.int .i64 (if hi < lo then -1 else Sat.sub hi lo)) ∧ Ok w w' := by
  have hok := Ok.refl w
  by_cases h : hi < lo
  · rw [if_pos h]
    go_enter Try.func19, Try.ntmps19
    go_wp2
    go_ret
    exact ⟨rfl, hok.alloc _⟩
  · rw [if_neg h]
    go_enter Try.func19, Try.ntmps19
    go_wp2_with (go_at_call 31; refine (refSub _ _ _).mono ?_; rintro e w' ⟨rfl, rfl⟩)
    go_ret
    exact ⟨rfl, hok.alloc _⟩
theorem ref3Mid (lo hi : Int) (w : World) : Calls Try.prog 20 #[spanV lo hi] w fun e w' => e = .returned (.int .i64 ((Sat.clip lo + Sat.clip hi) / 2)) ∧ Ok w w' := by
  have hok := Ok.refl w
  have b1 := Sat.clip_bd lo
  have b2 := Sat.clip_bd hi
  obtain ⟨n, hn⟩ : ∃ n, Sat.clip lo + Sat.clip hi = n := ⟨_, rfl⟩
  rw [hn]
  have hb : -4611686018427387904 ≤ n ∧ n ≤ 4611686018427387904 := by omega
  clear b1 b2
  by_cases h : n % 2 = 0
  · have h1 : n.tmod 2 = 0 := (Span.half_even h).1
    have h2 : n.tdiv 2 = n / 2 := (Span.half_even h).2
    go_enter Try.func20, Try.ntmps20
    go_wp2
    go_quiet ((go_at_call 27; exact Calls.quiet_of_same ((refClip _ _).mono fun _ _ h => ⟨h.1, h.2.symm⟩)))
    go_wp2
    go_ret
    exact ⟨rfl, (hok.alloc _).drewN _⟩
  · have h1 : n.tmod 2 ≠ 0 := (Span.half_odd h).1
    have h2 : (n - 1).tdiv 2 = n / 2 := (Span.half_odd h).2
    go_enter Try.func20, Try.ntmps20
    go_wp2
    go_quiet ((go_at_call 27; exact Calls.quiet_of_same ((refClip _ _).mono fun _ _ h => ⟨h.1, h.2.symm⟩)))
    go_wp2
    go_ret
    exact ⟨rfl, (hok.alloc _).drewN _⟩
set_option maxHeartbeats 800000 in
theorem ref3Shift (a b lo hi : Int) (w : World) : Calls Try.prog 17 #[spanV a b, .int .i64 lo, .int .i64 hi] w fun e w' => e = .returned (spanV (Sat.sum [a, lo]) (Sat.sum [b, hi])) ∧ Ok w w' := by
  have hok := Ok.refl w
  go_enter Try.func17, Try.ntmps17
  go_wp2
  go_region_held3 (fun w' => w'.cell? ⟨w.heap.size, 0, none⟩ = some (.int .i64 a) ∧ w'.cell? ⟨w.heap.size, 1, none⟩ = some (.int .i64 b))
    (go_keep) (first | (go_at_call 29; refine (refAdd _ [a, lo] 2 _ ?_ (by simp)).mono ?_; (focus ((repeat (first | ((with_reducible refine ints_new _ _ _ _ ?_ ?_) <;> (simp; done)) | (with_reducible refine IntsAt.drew ?_) | (with_reducible refine IntsAt.alloc ?_ _))); done)); rintro e w' ⟨rfl, rfl⟩) | (go_at_call 29; refine (refAdd _ [b, hi] 2 _ ?_ (by simp)).mono ?_; (focus ((repeat (first | ((with_reducible refine ints_new _ _ _ _ ?_ ?_) <;> (simp; done)) | (with_reducible refine IntsAt.drew ?_) | (with_reducible refine IntsAt.alloc ?_ _))); done)); rintro e w' ⟨rfl, rfl⟩))
  all_goals
    go_wp2
    exact bodyPost_ret (v := spanV _ _) (by simp [results, Try.results17, go_sem]) rfl ⟨rfl, by repeat (first | (with_reducible exact hok) | ((with_reducible refine Ok.setCell ?_ ?_ _); focus (simp; done)) | (with_reducible refine Ok.drew ?_) | (with_reducible refine Ok.alloc ?_ _))⟩
end Go.Proofs.Ytpbgfjfodojlaaa
