/- Contracts of layer 3's functions: those of one span. -/
import Derived.Test.YtlclfonlidcfiaaC01a
import Derived.Test.YtlclfonlidcfiaaC01c
import Derived.Test.YtlclfonlidcfiaaWA
import Derived.Deep.QuietTactic
import Derived.BigQuiet
import Derived.Deep.RegionHeld3
import Derived.Deep.DrawnRows
import Derived.Test.YtlclfonlidcfiaaMA
namespace Go.Proofs.Ytlclfonlidcfiaa
open Go.RowKit
set_option maxRecDepth 100000
attribute [local go_sem ↓] Go.wp_at_zero Go.wp_at_succ
/-- A span, as a value. -/
abbrev spanV (lo hi : Int) : Value := .agg #[.int .i64 lo, .int .i64 hi]

theorem spanAll (w : World) : Calls Try.prog 34 #[] w fun e w' => e = .returned (spanV (-2305843009213693952) 2305843009213693952) ∧ Ok w w' := by
  have hok := Ok.refl w
  go_enter Try.func34, Try.ntmps34
  go_wp2
  exact bodyPost_ret (v := spanV (-2305843009213693952) 2305843009213693952) (by simp [results, Try.results34, go_sem]) rfl ⟨rfl, hok.alloc _⟩
theorem spanOf (lo hi : Int) (w : World) : Calls Try.prog 32 #[.int .i64 lo, .int .i64 hi] w fun e w' => e = .returned (spanV (Sat.clip lo) (Sat.clip hi)) ∧ Ok w w' := by
  have hok := Ok.refl w
  go_enter Try.func32, Try.ntmps32
  go_wp2_with (go_at_call 35; refine (satClip _ _).mono ?_; rintro e w' ⟨rfl, rfl⟩)
  exact bodyPost_ret (v := spanV (Sat.clip lo) (Sat.clip hi)) (by simp [results, Try.results32, go_sem]) rfl ⟨rfl, hok.alloc _⟩
theorem spanEmpty (lo hi : Int) (w : World) : Calls Try.prog 33 #[spanV lo hi] w fun e w' => e = .returned (.bool (decide (hi < lo))) ∧ Ok w w' := by
  have hok := Ok.refl w
  go_enter Try.func33, Try.ntmps33
  go_wp2
  go_ret
  exact ⟨rfl, hok.alloc _⟩
theorem spanMid (lo hi : Int) (w : World) : Calls Try.prog 79 #[spanV lo hi] w fun e w' => e = .returned (.int .i64 ((Sat.clip lo + Sat.clip hi) / 2)) ∧ Ok w w' := by
  have hok := Ok.refl w
  have b1 := Sat.clip_bd lo
  have b2 := Sat.clip_bd hi
  go_enter Try.func79, Try.ntmps79
  go_wp2
  go_quiet ((go_at_call 35; exact Calls.quiet_of_same ((satClip _ _).mono fun _ _ h => ⟨h.1, h.2.symm⟩)))
  go_wp2
  go_ret
  exact ⟨rfl, (hok.alloc _).drewN _⟩
theorem ref3Of (lo hi : Int) (w : World) : Calls Try.prog 41 #[.int .i64 lo, .int .i64 hi] w fun e w' => e = .returned (spanV (Sat.clip lo) (Sat.clip hi)) ∧ Ok w w' := by
  have hok := Ok.refl w
  go_enter Try.func41, Try.ntmps41
  go_wp2_with (go_at_call 42; refine (refClip _ _).mono ?_; rintro e w' ⟨rfl, rfl⟩)
  exact bodyPost_ret (v := spanV (Sat.clip lo) (Sat.clip hi)) (by simp [results, Try.results41, go_sem]) rfl ⟨rfl, hok.alloc _⟩
theorem ref3Mid (lo hi : Int) (w : World) : Calls Try.prog 57 #[spanV lo hi] w fun e w' => e = .returned (.int .i64 ((Sat.clip lo + Sat.clip hi) / 2)) ∧ Ok w w' := by
  have hok := Ok.refl w
  have b1 := Sat.clip_bd lo
  have b2 := Sat.clip_bd hi
  obtain ⟨n, hn⟩ : ∃ n, Sat.clip lo + Sat.clip hi = n := ⟨_, rfl⟩
  rw [hn]
  have hb : -4611686018427387904 ≤ n ∧ n ≤ 4611686018427387904 := by omega
  clear b1 b2
  by_cases h : n % 2 = 0
  · have h1 : n.tmod 2 = 0 := (Span.half_even h).1
    have h2 : n.tdiv 2 = n / 2 := (Span.half_even h).2
    go_enter Try.func57, Try.ntmps57
    go_wp2
    go_quiet ((go_at_call 42; exact Calls.quiet_of_same ((refClip _ _).mono fun _ _ h => ⟨h.1, h.2.symm⟩)))
    go_wp2
    go_ret
    exact ⟨rfl, (hok.alloc _).drewN _⟩
  · have h1 : n.tmod 2 ≠ 0 := (Span.half_odd h).1
    have h2 : (n - 1).tdiv 2 = n / 2 := (Span.half_odd h).2
    go_enter Try.func57, Try.ntmps57
    go_wp2
    go_quiet ((go_at_call 42; exact Calls.quiet_of_same ((refClip _ _).mono fun _ _ h => ⟨h.1, h.2.symm⟩)))
    go_wp2
    go_ret
    exact ⟨rfl, (hok.alloc _).drewN _⟩
end Go.Proofs.Ytlclfonlidcfiaa
