/- Contracts of layer 2's functions of the program: wide. -/
import Derived.Test.YtlclfonlidcfiaaC01c
import Derived.Test.YtlclfonlidcfiaaMA
import Derived.Test.YtlclfonlidcfiaaWA
import Derived.Test.YtlclfonlidcfiaaC02a
import Derived.Deep.QuietTactic
import Derived.BigQuiet
import Derived.Deep.RegionWith
namespace Go.Proofs.Ytlclfonlidcfiaa
open Go.RowKit Go.Lib
set_option maxRecDepth 100000

theorem wideDivisor (c : Int) (w : World) : Calls Try.prog 99 #[.int .i64 c] w fun e w' => e = .returned (.int .i64 (Wide.one c)) ∧ Ok w w' := by
  have h1 := Lib.hid (Wide.most_one c)
  go_enter Try.func99, Try.ntmps99
  go_wp2_with (go_at_call 48; (with_reducible refine (satMax2 _ _ _ _ _ (by simp)).mono ?_); rintro e w' ⟨rfl, rfl⟩; rw [h1.out])
  go_ret
  exact ⟨rfl, (Ok.refl w).alloc _⟩
set_option maxHeartbeats 400000 in
theorem wideDiv (a c : Int) (w : World) : Calls Try.prog 92 #[.int .i64 a, .int .i64 c] w fun e w' => e = .returned (.tuple #[.int .i64 (Sat.clip a / Wide.one c), .int .i64 (Sat.clip a % Wide.one c)]) ∧ Ok w w' := by
  have ha := Sat.clip_bd a
  have hc := Wide.one_bd c
  obtain ⟨⟨t1, t2⟩, ⟨r1, r2⟩, k1, k2⟩ := Wide.trunc (Sat.clip a) (Wide.one c) hc.1 hc.2 ha.1 ha.2
  obtain ⟨T, hT⟩ : ∃ T, (Sat.clip a).tdiv (Wide.one c) = T := ⟨_, rfl⟩
  obtain ⟨R, hR⟩ : ∃ R, (Sat.clip a).tmod (Wide.one c) = R := ⟨_, rfl⟩
  rw [hT] at t1 t2 k1 k2
  rw [hR] at r1 r2 k1 k2
  have K1 := Lib.hid k1
  have K2 := Lib.hid k2
  clear k1 k2
  have hb := Ok.refl w
  have e0 : ((Wide.one c) == 0) = false := by rw [beq_eq_false_iff_ne]; omega
  by_cases hn : R < 0
  all_goals
    go_enter Try.func92, Try.ntmps92
    go_wp2_with (first | (go_at_call 35; refine (satClip _ _).mono ?_; rintro e w' ⟨rfl, rfl⟩) | (go_at_call 99; refine (wideDivisor _ _).mono ?_; rintro e w1 ⟨rfl, hb1⟩; replace hb := hb.trans hb1; clear hb1))
    go_quiet (fail)
    go_wp2
    go_ret2
    first
    | (obtain ⟨x, y⟩ := K1.out hn; exact ⟨by rw [x, y]; rfl, hb.drewN _⟩)
    | (obtain ⟨x, y⟩ := K2.out (by omega); exact ⟨by rw [x, y]; rfl, hb.drewN _⟩)
end Go.Proofs.Ytlclfonlidcfiaa
