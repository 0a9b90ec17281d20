/- Contracts of layer 3's functions: those of one span. -/
import Derived.Test.YtlclfonlidcfiaaDoorC01a
import Derived.Test.YtlclfonlidcfiaaDoorC01c
import Derived.Test.YtlclfonlidcfiaaDoorWA
import Derived.Deep.QuietTactic
import Derived.BigQuiet
import Derived.Deep.RegionHeld3
import Derived.Deep.DrawnRows
import Derived.Test.YtlclfonlidcfiaaDoorMA
namespace Go.Proofs.YtlclfonlidcfiaaDoor
open Go.RowKit
set_option maxRecDepth 100000
attribute [local go_sem ↓] Go.wp_at_zero Go.wp_at_succ
/-- A span, as a value. -/
abbrev spanV (lo hi : Int) : Value := .agg #[.int .i64 lo, .int .i64 hi]

theorem spanAll (w : World) : Calls Tryd.prog 58 #[] w fun e w' => e = .returned (spanV (-2305843009213693952) 2305843009213693952) ∧ Ok w w' := by
  have hok := Ok.refl w
  go_enter Tryd.func58, Tryd.ntmps58
  go_wp2
  exact bodyPost_ret (v := spanV (-2305843009213693952) 2305843009213693952) (by simp [results, Tryd.results58, go_sem]) rfl ⟨rfl, hok.alloc _⟩
theorem spanOf (lo hi : Int) (w : World) : Calls Tryd.prog 56 #[.int .i64 lo, .int .i64 hi] w fun e w' => e = .returned (spanV (Sat.clip lo) (Sat.clip hi)) ∧ Ok w w' := by
  have hok := Ok.refl w
  go_enter Tryd.func56, Tryd.ntmps56
  go_wp2_with (go_at_call 37; refine (satClip _ _).mono ?_; rintro e w' ⟨rfl, rfl⟩)
  exact bodyPost_ret (v := spanV (Sat.clip lo) (Sat.clip hi)) (by simp [results, Tryd.results56, go_sem]) rfl ⟨rfl, hok.alloc _⟩
theorem spanEmpty (lo hi : Int) (w : World) : Calls Tryd.prog 57 #[spanV lo hi] w fun e w' => e = .returned (.bool (decide (hi < lo))) ∧ Ok w w' := by
  have hok := Ok.refl w
  go_enter Tryd.func57, Tryd.ntmps57
  go_wp2
  go_ret
  exact ⟨rfl, hok.alloc _⟩
theorem spanMid (lo hi : Int) (w : World) : Calls Tryd.prog 53 #[spanV lo hi] w fun e w' => e = .returned (.int .i64 ((Sat.clip lo + Sat.clip hi) / 2)) ∧ Ok w w' := by
  have hok := Ok.refl w
  have b1 := Sat.clip_bd lo
  have b2 := Sat.clip_bd hi
  go_enter Tryd.func53, Tryd.ntmps53
  go_wp2
  go_quiet ((go_at_call 37; exact Calls.quiet_of_same ((satClip _ _).mono fun _ _ h => ⟨h.1, h.2.symm⟩)))
  go_wp2
  go_ret
  exact ⟨rfl, (hok.alloc _).drewN _⟩
end Go.Proofs.YtlclfonlidcfiaaDoor
