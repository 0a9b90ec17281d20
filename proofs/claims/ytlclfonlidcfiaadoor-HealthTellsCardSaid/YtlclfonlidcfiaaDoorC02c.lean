/- Contracts of layer 2's document functions: divisors, division. -/
import Derived.Test.YtlclfonlidcfiaaDoorC01a
import Derived.Test.YtlclfonlidcfiaaDoorMA
import Derived.Test.YtlclfonlidcfiaaDoorWA
namespace Go.Proofs.YtlclfonlidcfiaaDoor
open Go.RowKit Go.Lib
set_option maxRecDepth 100000

theorem refOne (c : Int) (w : World) : Calls Tryd.prog 43 #[.int .i64 c] w fun e w' => e = .returned (.int .i64 (Wide.one c)) ∧ w = w' := by
  by_cases h : Sat.clip c < 1
  · have e : Wide.one c = 1 := by unfold Wide.one; rw [if_pos h]
    rw [e]; clear e
    go_enter Tryd.func43, Tryd.ntmps43
    go_wp2_with (go_at_call 42; refine (refClip _ _).mono ?_; rintro e w' ⟨rfl, rfl⟩)
    go_ret
    exact ⟨rfl, rfl⟩
  · have e : Wide.one c = Sat.clip c := by unfold Wide.one; rw [if_neg h]
    rw [e]; clear e
    go_enter Tryd.func43, Tryd.ntmps43
    go_wp2_with (go_at_call 42; refine (refClip _ _).mono ?_; rintro e w' ⟨rfl, rfl⟩)
    go_ret
    exact ⟨rfl, rfl⟩
theorem exact_div (a k : Int) (hk : 1 ≤ k) : (a - a % k).tdiv k = a / k := by
  have h := Int.mul_ediv_add_emod a k
  have e : a - a % k = k * (a / k) := by omega
  rw [e, Int.mul_tdiv_cancel_left _ (by omega)]
set_option maxHeartbeats 400000 in
theorem refDiv (a c : Int) (w : World) : Calls Tryd.prog 22 #[.int .i64 a, .int .i64 c] w fun e w' => e = .returned (.tuple #[.int .i64 (Sat.clip a / Wide.one c), .int .i64 (Sat.clip a % Wide.one c)]) ∧ w = w' := by
  have ha := Sat.clip_bd a
  have hc := Wide.one_bd c
  obtain ⟨⟨t1, t2⟩, ⟨r1, r2⟩, k1, k2⟩ := Wide.trunc (Sat.clip a) (Wide.one c) hc.1 hc.2 ha.1 ha.2
  have hx := exact_div (Sat.clip a) (Wide.one c) hc.1
  obtain ⟨R, hR⟩ : ∃ R, (Sat.clip a).tmod (Wide.one c) = R := ⟨_, rfl⟩
  rw [hR] at r1 r2 k1 k2
  have hQ : -2305843009213693953 ≤ Sat.clip a / Wide.one c ∧ Sat.clip a / Wide.one c ≤ 2305843009213693952 := by
    rcases Int.lt_or_le R 0 with g | g
    · have := (k1 g).1; omega
    · have := (k2 g).1; omega
  have e0 : ((Wide.one c) == 0) = false := by rw [beq_eq_false_iff_ne]; omega
  by_cases hn : R < 0
  · obtain ⟨m1, m2⟩ := k1 hn
    rw [m2] at hx ⊢
    clear k1 k2 m1 m2
    generalize Sat.clip a / Wide.one c = Q at *
    go_enter Tryd.func22, Tryd.ntmps22
    go_wp2_with (first | (go_at_call 42; refine (refClip _ _).mono ?_; rintro e w' ⟨rfl, rfl⟩) | (go_at_call 43; refine (refOne _ _).mono ?_; rintro e w' ⟨rfl, rfl⟩))
    go_ret2
    exact ⟨rfl, rfl⟩
  · obtain ⟨m1, m2⟩ := k2 (by omega)
    rw [m2] at hx ⊢
    clear k1 k2 m1 m2
    generalize Sat.clip a / Wide.one c = Q at *
    go_enter Tryd.func22, Tryd.ntmps22
    go_wp2_with (first | (go_at_call 42; refine (refClip _ _).mono ?_; rintro e w' ⟨rfl, rfl⟩) | (go_at_call 43; refine (refOne _ _).mono ?_; rintro e w' ⟨rfl, rfl⟩))
    go_ret2
    exact ⟨rfl, rfl⟩
end Go.Proofs.YtlclfonlidcfiaaDoor
