/- Several texts of mine in one: C02a, C02b, C02c, C02d. -/
import Derived.Test.YtmmiboblofopgaaGreatC01a
import Derived.Test.YtmmiboblofopgaaGreatB00
import Derived.Test.YtmmiboblofopgaaGreatMA
import Derived.Deep.QuietTactic
import Derived.BigQuiet
import Derived.Deep.CutBlock
import Derived.Deep.DeepCutAuto
import Derived.Laws.BitsAllLaws
import Derived.Lib.ItoaNum
import Derived.Deep.RegionWith
import Derived.Test.YtmmiboblofopgaaGreatC01a
import Derived.Deep.OwnRows
import Derived.RegionTactic
import Derived.ChangeAlike
/- math/bits.Div64: what it answers, of a high word below the divisor. -/
namespace Go.Proofs.YtmmiboblofopgaaGreat
open Go.RowKit Go.Lib
set_option maxRecDepth 100000

end Go.Proofs.YtmmiboblofopgaaGreat

/- Contracts of layer 2's functions of the program: wide. -/
namespace Go.Proofs.YtmmiboblofopgaaGreat
open Go.RowKit Go.Lib
set_option maxRecDepth 100000

theorem wideDivisor (c : Int) (w : World) : Calls Tryz.prog 141 #[.int .i64 c] w fun e w' => e = .returned (.int .i64 (Wide.one c)) ∧ Ok w w' := by
  have h1 := Lib.hid (Wide.most_one c)
  go_enter Tryz.func141, Tryz.ntmps141
  go_wp2_with (go_at_call 133; (with_reducible refine (satMax2 _ _ _ _ _ (by simp)).mono ?_); rintro e w' ⟨rfl, rfl⟩; rw [h1.out])
  go_ret
  exact ⟨rfl, (Ok.refl w).alloc _⟩
set_option maxHeartbeats 400000 in
theorem wideDiv (a c : Int) (w : World) : Calls Tryz.prog 122 #[.int .i64 a, .int .i64 c] w fun e w' => e = .returned (.tuple #[.int .i64 (Sat.clip a / Wide.one c), .int .i64 (Sat.clip a % Wide.one c)]) ∧ Ok w w' := by
  have ha := Sat.clip_bd a
  have hc := Wide.one_bd c
  obtain ⟨⟨t1, t2⟩, ⟨r1, r2⟩, k1, k2⟩ := Wide.trunc (Sat.clip a) (Wide.one c) hc.1 hc.2 ha.1 ha.2
  obtain ⟨T, hT⟩ : ∃ T, (Sat.clip a).tdiv (Wide.one c) = T := ⟨_, rfl⟩
  obtain ⟨R, hR⟩ : ∃ R, (Sat.clip a).tmod (Wide.one c) = R := ⟨_, rfl⟩
  rw [hT] at t1 t2 k1 k2
  rw [hR] at r1 r2 k1 k2
  have K1 := Lib.hid k1
  have K2 := Lib.hid k2
  clear k1 k2
  have hb := Ok.refl w
  have e0 : ((Wide.one c) == 0) = false := by rw [beq_eq_false_iff_ne]; omega
  by_cases hn : R < 0
  all_goals
    go_enter Tryz.func122, Tryz.ntmps122
    go_wp2_with (first | (go_at_call 60; refine (satClip _ _).mono ?_; rintro e w' ⟨rfl, rfl⟩) | (go_at_call 141; refine (wideDivisor _ _).mono ?_; rintro e w1 ⟨rfl, hb1⟩; replace hb := hb.trans hb1; clear hb1))
    go_quiet (fail)
    go_wp2
    go_ret2
    first
    | (obtain ⟨x, y⟩ := K1.out hn; exact ⟨by rw [x, y]; rfl, hb.drewN _⟩)
    | (obtain ⟨x, y⟩ := K2.out (by omega); exact ⟨by rw [x, y]; rfl, hb.drewN _⟩)
end Go.Proofs.YtmmiboblofopgaaGreat

/- Contracts of layer 2's document functions: divisors, division. -/
namespace Go.Proofs.YtmmiboblofopgaaGreat
open Go.RowKit Go.Lib
set_option maxRecDepth 100000

theorem refOne (c : Int) (w : World) : Calls Tryz.prog 137 #[.int .i64 c] w fun e w' => e = .returned (.int .i64 (Wide.one c)) ∧ w = w' := by
  by_cases h : Sat.clip c < 1
  · have e : Wide.one c = 1 := by unfold Wide.one; rw [if_pos h]
    rw [e]; clear e
    go_enter Tryz.func137, Tryz.ntmps137
    go_wp2_with (go_at_call 28; refine (refClip _ _).mono ?_; rintro e w' ⟨rfl, rfl⟩)
    go_ret
    exact ⟨rfl, rfl⟩
  · have e : Wide.one c = Sat.clip c := by unfold Wide.one; rw [if_neg h]
    rw [e]; clear e
    go_enter Tryz.func137, Tryz.ntmps137
    go_wp2_with (go_at_call 28; refine (refClip _ _).mono ?_; rintro e w' ⟨rfl, rfl⟩)
    go_ret
    exact ⟨rfl, rfl⟩
theorem exact_div (a k : Int) (hk : 1 ≤ k) : (a - a % k).tdiv k = a / k := by
  have h := Int.mul_ediv_add_emod a k
  have e : a - a % k = k * (a / k) := by omega
  rw [e, Int.mul_tdiv_cancel_left _ (by omega)]
set_option maxHeartbeats 400000 in
theorem refDiv (a c : Int) (w : World) : Calls Tryz.prog 119 #[.int .i64 a, .int .i64 c] w fun e w' => e = .returned (.tuple #[.int .i64 (Sat.clip a / Wide.one c), .int .i64 (Sat.clip a % Wide.one c)]) ∧ w = w' := by
  have ha := Sat.clip_bd a
  have hc := Wide.one_bd c
  obtain ⟨⟨t1, t2⟩, ⟨r1, r2⟩, k1, k2⟩ := Wide.trunc (Sat.clip a) (Wide.one c) hc.1 hc.2 ha.1 ha.2
  have hx := exact_div (Sat.clip a) (Wide.one c) hc.1
  obtain ⟨R, hR⟩ : ∃ R, (Sat.clip a).tmod (Wide.one c) = R := ⟨_, rfl⟩
  rw [hR] at r1 r2 k1 k2
  have hQ : -2305843009213693953 ≤ Sat.clip a / Wide.one c ∧ Sat.clip a / Wide.one c ≤ 2305843009213693952 := by
    rcases Int.lt_or_le R 0 with g | g
    · have := (k1 g).1; omega
    · have := (k2 g).1; omega
  have e0 : ((Wide.one c) == 0) = false := by rw [beq_eq_false_iff_ne]; omega
  by_cases hn : R < 0
  · obtain ⟨m1, m2⟩ := k1 hn
    rw [m2] at hx ⊢
    clear k1 k2 m1 m2
    generalize Sat.clip a / Wide.one c = Q at *
    go_enter Tryz.func119, Tryz.ntmps119
    go_wp2_with (first | (go_at_call 28; refine (refClip _ _).mono ?_; rintro e w' ⟨rfl, rfl⟩) | (go_at_call 137; refine (refOne _ _).mono ?_; rintro e w' ⟨rfl, rfl⟩))
    go_ret2
    exact ⟨rfl, rfl⟩
  · obtain ⟨m1, m2⟩ := k2 (by omega)
    rw [m2] at hx ⊢
    clear k1 k2 m1 m2
    generalize Sat.clip a / Wide.one c = Q at *
    go_enter Tryz.func119, Tryz.ntmps119
    go_wp2_with (first | (go_at_call 28; refine (refClip _ _).mono ?_; rintro e w' ⟨rfl, rfl⟩) | (go_at_call 137; refine (refOne _ _).mono ?_; rintro e w' ⟨rfl, rfl⟩))
    go_ret2
    exact ⟨rfl, rfl⟩
end Go.Proofs.YtmmiboblofopgaaGreat

/- Contracts of layer 2's document functions: products by digits. -/
namespace Go.Proofs.YtmmiboblofopgaaGreat
open Go.RowKit
set_option maxRecDepth 100000

end Go.Proofs.YtmmiboblofopgaaGreat
