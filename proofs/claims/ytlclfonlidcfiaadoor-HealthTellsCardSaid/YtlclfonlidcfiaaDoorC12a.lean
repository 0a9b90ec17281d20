/- Contracts of layer 12: the program's Step and Off. -/
import Derived.Test.YtlclfonlidcfiaaDoorC01a
import Derived.Test.YtlclfonlidcfiaaDoorC01c
import Derived.Test.YtlclfonlidcfiaaDoorC04b
import Derived.Test.YtlclfonlidcfiaaDoorMA
import Derived.Deep.QuietTactic
import Derived.BigQuiet
namespace Go.Proofs.YtlclfonlidcfiaaDoor
open Go.RowKit
set_option maxRecDepth 100000
attribute [local go_sem ↓] Go.wp_at_zero Go.wp_at_succ
/-- A clock, as a value. -/
abbrev clockV (t : Int) (s : Bool) : Value := .agg #[.int .i64 t, .bool s]
theorem slewJump (p : Par) (t : Int) (s : Bool) (ticks to : Int) (w : World) : Calls Tryd.prog 55 #[clockV t s, parV p, .int .i64 ticks, .int .i64 to, .bool true] w fun e w' => e = .returned (clockV (Sat.clip to) true) ∧ Ok w w' := by
  have hok := Ok.refl w
  go_enter Tryd.func55, Tryd.ntmps55
  go_wp2_with (go_at_call 37; refine (satClip _ _).mono ?_; rintro e w' ⟨rfl, rfl⟩)
  exact bodyPost_ret (v := clockV (Sat.clip to) true) (by simp [results, Tryd.results55, go_sem]) rfl ⟨rfl, ((hok.alloc _).alloc _).alloc _⟩
theorem slewUnset (p : Par) (t : Int) (ticks to : Int) (j : Bool) (w : World) : Calls Tryd.prog 55 #[clockV t false, parV p, .int .i64 ticks, .int .i64 to, .bool j] w fun e w' => e = .returned (clockV (Sat.clip to) true) ∧ Ok w w' := by
  cases j
  · have hok := Ok.refl w
    go_enter Tryd.func55, Tryd.ntmps55
    go_wp2_with (go_at_call 37; refine (satClip _ _).mono ?_; rintro e w' ⟨rfl, rfl⟩)
    exact bodyPost_ret (v := clockV (Sat.clip to) true) (by simp [results, Tryd.results55, go_sem]) rfl ⟨rfl, ((hok.alloc _).alloc _).alloc _⟩
  · exact slewJump p t false ticks to w
theorem slewStep (p : Par) (t ticks to : Int) (w : World) : Calls Tryd.prog 55 #[clockV t true, parV p, .int .i64 ticks, .int .i64 to, .bool false] w fun e w' => e = .returned (clockV (Slew.step p t ticks to) true) ∧ Ok w w' := by
  have hok := Ok.refl w
  show Calls _ _ _ _ fun e w' => e = .returned (clockV (Sat.sum [Sat.sum [t, ticks], Sat.bound (Sat.sub to (Sat.sum [t, ticks])) (Sat.neg p.mu) p.mu]) true) ∧ Ok w w'
  go_enter Tryd.func55, Tryd.ntmps55
  go_wp2_with (go_at_call 36; refine (satAdd2 _ _ _ _ _ (by simp)).mono ?_; rintro e w' ⟨rfl, rfl⟩)
  go_quiet (first | (go_at_call 75; exact Calls.quiet_of_same ((satSub _ _ _).mono fun _ _ h => ⟨h.1, h.2.symm⟩)) | (go_at_call 76; exact Calls.quiet_of_same ((satNeg _ _).mono fun _ _ h => ⟨h.1, h.2.symm⟩)) | (go_at_call 59; exact Calls.quiet_of_same ((satBound _ _ _ _).mono fun _ _ h => ⟨h.1, h.2.symm⟩)))
  go_wp2_with (go_at_call 36; refine (satAdd2 _ _ _ _ _ (by simp)).mono ?_; rintro e w' ⟨rfl, rfl⟩)
  refine bodyPost_ret (v := clockV (Sat.sum [Sat.sum [t, ticks], Sat.bound (Sat.sub to (Sat.sum [t, ticks])) (Sat.neg p.mu) p.mu]) true) (by simp [results, Tryd.results55, go_sem]) rfl ⟨rfl, ?_⟩
  exact Ok.alloc (Ok.setCell (Ok.setCell (Ok.drewN (Ok.alloc (Ok.alloc (Ok.alloc (Ok.alloc hok _) _) _) _) _) (show w.heap.size ≤ w.heap.size + 1 + 1 by omega) _) (show w.heap.size ≤ w.heap.size + 1 + 1 by omega) _) _
theorem slewOff (t : Int) (s : Bool) (x : Int) (w : World) : Calls Tryd.prog 54 #[clockV t s, .int .i64 x] w fun e w' => e = .returned (.int .i64 (Sat.abs (Sat.sub t x))) ∧ Ok w w' := by
  have hok := Ok.refl w
  go_enter Tryd.func54, Tryd.ntmps54
  go_wp2_with (first | (go_at_call 75; refine (satSub _ _ _).mono ?_; rintro e w' ⟨rfl, rfl⟩) | (go_at_call 74; refine (satAbs _ _).mono ?_; rintro e w' ⟨rfl, rfl⟩))
  go_ret
  exact ⟨rfl, hok.alloc _⟩
end Go.Proofs.YtlclfonlidcfiaaDoor
