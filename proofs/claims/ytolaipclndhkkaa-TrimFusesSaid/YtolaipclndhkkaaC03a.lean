/- Contracts of layer 3's functions: those of one span. -/
import Derived.Test.YtolaipclndhkkaaC01a
import Derived.Test.YtolaipclndhkkaaC01c
import Derived.Test.YtolaipclndhkkaaW04
import Derived.Deep.QuietTactic
import Derived.BigQuiet
import Derived.Deep.RegionHeld3
import Derived.Deep.DrawnRows
import Derived.Test.YtolaipclndhkkaaM04
namespace Go.Proofs.Ytolaipclndhkkaa
open Go.RowKit
set_option maxRecDepth 100000
attribute [local go_sem ↓] Go.wp_at_zero Go.wp_at_succ
/-- A span, as a value. -/
abbrev spanV (lo hi : Int) : Value := .agg #[.int .i64 lo, .int .i64 hi]

theorem spanOf (lo hi : Int) (w : World) : Calls Try.prog 30 #[.int .i64 lo, .int .i64 hi] w fun e w' => e = .returned (spanV (Sat.clip lo) (Sat.clip hi)) ∧ Ok w w' := by
  have hok := Ok.refl w
  go_enter Try.func30, Try.ntmps30
  go_wp2_with (go_at_call 36; refine (satClip _ _).mono ?_; rintro e w' ⟨rfl, rfl⟩)
  exact bodyPost_ret (v := spanV (Sat.clip lo) (Sat.clip hi)) (by simp [results, Try.results30, go_sem]) rfl ⟨rfl, hok.alloc _⟩
theorem spanEmpty (lo hi : Int) (w : World) : Calls Try.prog 29 #[spanV lo hi] w fun e w' => e = .returned (.bool (decide (hi < lo))) ∧ Ok w w' := by
  have hok := Ok.refl w
  go_enter Try.func29, Try.ntmps29
  go_wp2
  go_ret
  exact ⟨rfl, hok.alloc _⟩
theorem spanMid (lo hi : Int) (w : World) : Calls Try.prog 26 #[spanV lo hi] w fun e w' => e = .returned (.int .i64 ((Sat.clip lo + Sat.clip hi) / 2)) ∧ Ok w w' := by
  have hok := Ok.refl w
  have b1 := Sat.clip_bd lo
  have b2 := Sat.clip_bd hi
  go_enter Try.func26, Try.ntmps26
  go_wp2
  go_quiet ((go_at_call 36; exact Calls.quiet_of_same ((satClip _ _).mono fun _ _ h => ⟨h.1, h.2.symm⟩)))
  go_wp2
  go_ret
  exact ⟨rfl, (hok.alloc _).drewN _⟩
theorem ref3Of (lo hi : Int) (w : World) : Calls Try.prog 31 #[.int .i64 lo, .int .i64 hi] w fun e w' => e = .returned (spanV (Sat.clip lo) (Sat.clip hi)) ∧ Ok w w' := by
  have hok := Ok.refl w
  go_enter Try.func31, Try.ntmps31
  go_wp2_with (go_at_call 37; refine (refClip _ _).mono ?_; rintro e w' ⟨rfl, rfl⟩)
  exact bodyPost_ret (v := spanV (Sat.clip lo) (Sat.clip hi)) (by simp [results, Try.results31, go_sem]) rfl ⟨rfl, hok.alloc _⟩
theorem ref3Mid (lo hi : Int) (w : World) : Calls Try.prog 28 #[spanV lo hi] w fun e w' => e = .returned (.int .i64 ((Sat.clip lo + Sat.clip hi) / 2)) ∧ Ok w w' := by
  have hok := Ok.refl w
  have b1 := Sat.clip_bd lo
  have b2 := Sat.clip_bd hi
  obtain ⟨n, hn⟩ : ∃ n, Sat.clip lo + Sat.clip hi = n := ⟨_, rfl⟩
  rw [hn]
  have hb : -4611686018427387904 ≤ n ∧ n ≤ 4611686018427387904 := by omega
  clear b1 b2
  by_cases h : n % 2 = 0
  · have h1 : n.tmod 2 = 0 := (Span.half_even h).1
    have h2 : n.tdiv 2 = n / 2 := (Span.half_even h).2
    go_enter Try.func28, Try.ntmps28
    go_wp2
    go_quiet ((go_at_call 37; exact Calls.quiet_of_same ((refClip _ _).mono fun _ _ h => ⟨h.1, h.2.symm⟩)))
    go_wp2
    go_ret
    exact ⟨rfl, (hok.alloc _).drewN _⟩
  · have h1 : n.tmod 2 ≠ 0 := (Span.half_odd h).1
    have h2 : (n - 1).tdiv 2 = n / 2 := (Span.half_odd h).2
    go_enter Try.func28, Try.ntmps28
    go_wp2
    go_quiet ((go_at_call 37; exact Calls.quiet_of_same ((refClip _ _).mono fun _ _ h => ⟨h.1, h.2.symm⟩)))
    go_wp2
    go_ret
    exact ⟨rfl, (hok.alloc _).drewN _⟩
end Go.Proofs.Ytolaipclndhkkaa
