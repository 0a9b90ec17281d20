/- Contracts of layer 2's functions of the program: wide. -/
import Derived.Test.YtlclfonlidcfiaaDoorC01b
import Derived.Test.YtlclfonlidcfiaaDoorC01c
import Derived.Test.YtlclfonlidcfiaaDoorMA
import Derived.Test.YtlclfonlidcfiaaDoorWA
import Derived.Test.YtlclfonlidcfiaaDoorC02a
import Derived.Deep.QuietTactic
import Derived.BigQuiet
import Derived.Deep.RegionWith
namespace Go.Proofs.YtlclfonlidcfiaaDoor
open Go.RowKit Go.Lib
set_option maxRecDepth 100000

theorem wideDivisor (c : Int) (w : World) : Calls Tryd.prog 38 #[.int .i64 c] w fun e w' => e = .returned (.int .i64 (Wide.one c)) ∧ Ok w w' := by
  have h1 := Lib.hid (Wide.most_one c)
  go_enter Tryd.func38, Tryd.ntmps38
  go_wp2_with (go_at_call 62; (with_reducible refine (satMax2 _ _ _ _ _ (by simp)).mono ?_); rintro e w' ⟨rfl, rfl⟩; rw [h1.out])
  go_ret
  exact ⟨rfl, (Ok.refl w).alloc _⟩
set_option maxHeartbeats 400000 in
theorem wideDiv (a c : Int) (w : World) : Calls Tryd.prog 20 #[.int .i64 a, .int .i64 c] w fun e w' => e = .returned (.tuple #[.int .i64 (Sat.clip a / Wide.one c), .int .i64 (Sat.clip a % Wide.one c)]) ∧ Ok w w' := by
  have ha := Sat.clip_bd a
  have hc := Wide.one_bd c
  obtain ⟨⟨t1, t2⟩, ⟨r1, r2⟩, k1, k2⟩ := Wide.trunc (Sat.clip a) (Wide.one c) hc.1 hc.2 ha.1 ha.2
  obtain ⟨T, hT⟩ : ∃ T, (Sat.clip a).tdiv (Wide.one c) = T := ⟨_, rfl⟩
  obtain ⟨R, hR⟩ : ∃ R, (Sat.clip a).tmod (Wide.one c) = R := ⟨_, rfl⟩
  rw [hT] at t1 t2 k1 k2
  rw [hR] at r1 r2 k1 k2
  have K1 := Lib.hid k1
  have K2 := Lib.hid k2
  clear k1 k2
  have hb := Ok.refl w
  have e0 : ((Wide.one c) == 0) = false := by rw [beq_eq_false_iff_ne]; omega
  by_cases hn : R < 0
  all_goals
    go_enter Tryd.func20, Tryd.ntmps20
    go_wp2_with (first | (go_at_call 37; refine (satClip _ _).mono ?_; rintro e w' ⟨rfl, rfl⟩) | (go_at_call 38; refine (wideDivisor _ _).mono ?_; rintro e w1 ⟨rfl, hb1⟩; replace hb := hb.trans hb1; clear hb1))
    go_quiet (fail)
    go_wp2
    go_ret2
    first
    | (obtain ⟨x, y⟩ := K1.out hn; exact ⟨by rw [x, y]; rfl, hb.drewN _⟩)
    | (obtain ⟨x, y⟩ := K2.out (by omega); exact ⟨by rw [x, y]; rfl, hb.drewN _⟩)
set_option maxHeartbeats 800000 in
theorem wideSizes (a b c : Nat) (ha : a ≤ 2305843009213693952) (hb : b ≤ 2305843009213693952) (hc : 1 ≤ c) (hc' : c ≤ 2305843009213693952) (w : World) :
    Calls Tryd.prog 94 #[.int .i64 a, .int .i64 b, .int .i64 c] w fun e w' => e = .returned (.tuple #[.int .i64 (Wide.fdiv ((a * b : Nat) : Int) c), .int .i64 (Wide.cdiv ((a * b : Nat) : Int) c)]) ∧ Ok w w' := by
  rw [Wide.fdiv_nat, Wide.cdiv_nat (by omega)]
  obtain ⟨q, hq⟩ : ∃ q, a * b / 18446744073709551616 = q := ⟨_, rfl⟩
  obtain ⟨r, hr⟩ : ∃ r, a * b % 18446744073709551616 = r := ⟨_, rfl⟩
  obtain ⟨p, hp⟩ : ∃ p, a * b = p := ⟨_, rfl⟩
  rw [hp] at hq hr ⊢
  have hrb : r < 18446744073709551616 := by omega
  have hpq : p = q * 18446744073709551616 + r := by omega
  have Hq := Lib.hid (show a * b / 18446744073709551616 = q by rw [hp]; exact hq)
  have Hr := Lib.hid (show a * b % 18446744073709551616 = r by rw [hp]; exact hr)
  clear hp hq hr
  have hok := Ok.refl w
  obtain ⟨t, ht⟩ : ∃ t, p / c = t := ⟨_, rfl⟩
  obtain ⟨l, hl⟩ : ∃ l, p % c = l := ⟨_, rfl⟩
  rw [ht, hl]
  by_cases h1 : c ≤ q
  · have htb : 18446744073709551616 ≤ t := by
      rw [← ht, Nat.le_div_iff_mul_le (by omega), Nat.mul_comm]
      have := Nat.mul_le_mul_right 18446744073709551616 h1
      omega
    rw [Sat.clip_hi (x := ((t : Nat) : Int)) (by omega), Sat.clip_hi (x := ((t : Nat) : Int) + 1) (by omega), ite_self]
    clear ht hl hpq htb
    go_enter Tryd.func94, Tryd.ntmps94
    go_wp2_with (go_at_call 92; refine (bitsMul64' a b q r (by omega) (by omega) Hq Hr _).mono ?_; rintro e w' ⟨rfl, rfl⟩)
    go_ret2
    exact ⟨rfl, hok⟩
  · have h1' : q < c := by omega
    have ht' : (q * 18446744073709551616 + r) / c = t := by rw [← hpq]; exact ht
    have hl' : (q * 18446744073709551616 + r) % c = l := by rw [← hpq]; exact hl
    have htb : t < 18446744073709551616 := by
      rw [← ht, hpq, Nat.div_lt_iff_lt_mul (by omega), Nat.mul_comm]
      have := Nat.mul_le_mul_left 18446744073709551616 (show q + 1 ≤ c from h1')
      omega
    have hD := Lib.hid (fun w => bitsDiv64 q r c h1' hrb (by omega) w)
    rw [ht', hl'] at hD
    have hM := Lib.hid (fun w => bitsMul64' a b q r (by omega) (by omega) Hq Hr w)
    have i1 : (q : Int) < (c : Int) := by omega
    have ia : (a : Int) ≤ 2305843009213693952 := by omega
    have ib : (b : Int) ≤ 2305843009213693952 := by omega
    have i2 : (c : Int) ≤ 2305843009213693952 := by omega
    have hlc : l < c := by rw [← hl]; exact Nat.mod_lt _ (by omega)
    clear ht hl hpq ht' hl' h1 h1' hrb ha hb hc hc' hlc
    have T0 : (0 : Int) ≤ (t : Int) := by omega
    have L0 : (0 : Int) ≤ (l : Int) := by omega
    have Lif : ∀ x y : Int, (if 0 < l then x else y) = if 0 < (l : Int) then x else y := fun x y => by
      by_cases g : 0 < l
      · rw [if_pos g, if_pos (by omega)]
      · rw [if_neg g, if_neg (by omega)]
    rw [Lif]
    clear Lif htb
    generalize (t : Int) = T at *
    generalize (l : Int) = L at *
    by_cases h2 : (2305843009213693952 : Int) ≤ T
    · rw [Sat.clip_hi (x := T) (by omega), Sat.clip_hi (x := T + 1) (by omega), ite_self]
      go_enter Tryd.func94, Tryd.ntmps94
      go_wp2_with (first | (go_at_call 92; refine (hM.out _).mono ?_; rintro e w' ⟨rfl, rfl⟩) | (go_at_call 95; refine (hD.out _).mono ?_; rintro e w' ⟨rfl, n, rfl⟩))
      go_ret2
      exact ⟨rfl, hok.drewN _⟩
    · rw [Sat.clip_in (x := T) (by omega) (by omega), Sat.clip_in (x := T + 1) (by omega) (by omega)]
      have h2' : T < 2305843009213693952 := by omega
      clear h2
      by_cases h3 : (0 : Int) < L
      · rw [if_pos (by omega)]
        go_enter Tryd.func94, Tryd.ntmps94
        go_wp2_with (first | (go_at_call 92; refine (hM.out _).mono ?_; rintro e w' ⟨rfl, rfl⟩) | (go_at_call 95; refine (hD.out _).mono ?_; rintro e w' ⟨rfl, n, rfl⟩))
        go_ret2
        exact ⟨rfl, hok.drewN _⟩
      · rw [if_neg (by omega)]
        go_enter Tryd.func94, Tryd.ntmps94
        go_wp2_with (first | (go_at_call 92; refine (hM.out _).mono ?_; rintro e w' ⟨rfl, rfl⟩) | (go_at_call 95; refine (hD.out _).mono ?_; rintro e w' ⟨rfl, n, rfl⟩))
        go_ret2
        exact ⟨rfl, hok.drewN _⟩
set_option maxHeartbeats 400000 in
theorem wideRatio (a b c : Int) (w : World) : Calls Tryd.prog 93 #[.int .i64 a, .int .i64 b, .int .i64 c] w fun e w' => e = .returned (.tuple #[.int .i64 (Wide.down a b c), .int .i64 (Wide.up a b c)]) ∧ Ok w w' := by
  have ha := Sat.abs_bd a
  have hb := Sat.abs_bd b
  have hc := Wide.one_bd c
  obtain ⟨x, hx⟩ := Int.eq_ofNat_of_zero_le ha.1
  obtain ⟨y, hy⟩ := Int.eq_ofNat_of_zero_le hb.1
  obtain ⟨k, hk⟩ := Int.eq_ofNat_of_zero_le (show 0 ≤ Wide.one c by omega)
  obtain ⟨m1, m2⟩ := Wide.abs_mul a b
  rw [hx, hy, ← Int.natCast_mul] at m1 m2
  have bf := Wide.fdiv_bd ((x * y : Nat) : Int) k
  have bc := Wide.cdiv_bd ((x * y : Nat) : Int) k
  have HS := Lib.hid fun w => wideSizes x y k (by omega) (by omega) (by omega) (by omega) w
  unfold Wide.down Wide.up
  rw [hk]
  have M1 := Lib.hid m1
  have M2 := Lib.hid m2
  have cA := Lib.hid fun w => satAbs a w
  have cB := Lib.hid fun w => satAbs b w
  have cC := Lib.hid fun w => wideDivisor c w
  rw [hx] at cA
  rw [hy] at cB
  rw [hk] at cC
  clear m1 m2 ha hb hc hx hy hk
  obtain ⟨F, hF⟩ : ∃ F, Wide.fdiv ((x * y : Nat) : Int) k = F := ⟨_, rfl⟩
  obtain ⟨C, hC⟩ : ∃ C, Wide.cdiv ((x * y : Nat) : Int) k = C := ⟨_, rfl⟩
  rw [hF] at bf HS
  rw [hC] at bc HS
  have EF := Lib.hid hF
  have EC := Lib.hid hC
  clear hF hC
  have hok := Ok.refl w
  have key : ∀ s t : Bool, decide (a < 0) = s → decide (b < 0) = t → Calls Tryd.prog 93 #[.int .i64 a, .int .i64 b, .int .i64 c] w fun e w' => e = .returned (.tuple #[.int .i64 (if s = t then F else -C), .int .i64 (if s = t then C else -F)]) ∧ Ok w w' := by
    intro s t hs ht
    cases s <;> cases t
    all_goals
      simp only [if_true, if_false, reduceCtorEq]
      go_enter Tryd.func93, Tryd.ntmps93
      go_wp2_with (first
        | (go_at_call_of 74 (Value.int .i64 a); refine (cA.out _).mono ?_; rintro e w' ⟨rfl, rfl⟩)
        | (go_at_call_of 74 (Value.int .i64 b); refine (cB.out _).mono ?_; rintro e w' ⟨rfl, rfl⟩)
        | (go_at_call 38; refine (cC.out _).mono ?_; rintro e w1 ⟨rfl, hb1⟩; replace hok := hok.trans hb1; clear hb1)
        | (go_at_call 94; refine (HS.out _).mono ?_; rintro e w1 ⟨rfl, hb1⟩; replace hok := hok.trans hb1; clear hb1))
      go_ret2
      exact ⟨rfl, hok⟩
  have hk := key _ _ rfl rfl
  by_cases hs : decide (a < 0) = decide (b < 0)
  · rw [if_pos hs, if_pos hs] at hk
    rw [M1.out hs, EF.out, EC.out]
    exact hk
  · rw [if_neg hs, if_neg hs] at hk
    rw [M2.out hs, Wide.fdiv_neg, Wide.cdiv_neg, EF.out, EC.out]
    exact hk
theorem wideMulDiv (a b c : Int) (w : World) : Calls Tryd.prog 90 #[.int .i64 a, .int .i64 b, .int .i64 c] w fun e w' => e = .returned (.int .i64 (Wide.down a b c)) ∧ Ok w w' := by
  have hok := Ok.refl w
  go_enter Tryd.func90, Tryd.ntmps90
  go_wp2_with (go_at_call 93; refine (wideRatio _ _ _ _).mono ?_; rintro e w1 ⟨rfl, hb1⟩; replace hok := hok.trans hb1; clear hb1)
  go_ret
  exact ⟨rfl, hok⟩
end Go.Proofs.YtlclfonlidcfiaaDoor
