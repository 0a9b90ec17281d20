import Derived.Test.YtmokofblmkeloaaGreatDoorC01a
import Derived.Test.YtmokofblmkeloaaGreatDoorShelf
namespace Go.Proofs.YtmokofblmkeloaaGreatDoor
open Go.RowKit Go.Lib

theorem bitsMul64' (x y q r : Nat) (hx : x < 18446744073709551616) (hy : y < 18446744073709551616) (hq : Hid (x * y / 18446744073709551616 = q)) (hr : Hid (x * y % 18446744073709551616 = r)) (w : World) :
    Calls Tryz.prog 142 #[.int .u64 x, .int .u64 y] w fun e w' => e = .returned (.tuple #[.int .u64 (q : Int), .int .u64 (r : Int)]) ∧ w = w' := by
  have h := Tryz.bits_Mul64 x y hx hy w
  rw [hq.out, hr.out] at h
  exact h.mono fun e w' g => ⟨g.1, g.2.symm⟩
/-- The size of a product of two sizes that are not beyond 2^61. -/
def sizeOf (a b : Nat) : Int := if a * b / 18446744073709551616 = 0 ∧ a * b % 18446744073709551616 ≤ 2305843009213693952 then ((a * b : Nat) : Int) else 2305843009213693952
theorem sizeOf_eq (a b : Nat) : sizeOf a b = Sat.clip ((a : Int) * (b : Int)) := by
  unfold sizeOf
  rw [← Int.natCast_mul]
  generalize a * b = n
  split
  · rw [Sat.clip_in (by omega) (by omega)]
  · rw [Sat.clip_hi (by omega)]
set_option maxHeartbeats 400000 in
theorem satMulSizes (a b : Int) (ha : 0 ≤ a) (ha' : a ≤ 2305843009213693952) (hb : 0 ≤ b) (hb' : b ≤ 2305843009213693952) (w : World) :
    Calls Tryz.prog 104 #[.int .i64 a, .int .i64 b] w fun e w' => e = .returned (.int .i64 (Sat.clip (a * b))) ∧ w = w' := by
  obtain ⟨x, rfl⟩ := Int.eq_ofNat_of_zero_le ha
  obtain ⟨y, rfl⟩ := Int.eq_ofNat_of_zero_le hb
  rw [← sizeOf_eq]
  have hx : x < 18446744073709551616 := by omega
  have hy : y < 18446744073709551616 := by omega
  unfold sizeOf
  obtain ⟨q, hq⟩ : ∃ q, x * y / 18446744073709551616 = q := ⟨_, rfl⟩
  obtain ⟨r, hr⟩ : ∃ r, x * y % 18446744073709551616 = r := ⟨_, rfl⟩
  have hrb : r < 18446744073709551616 := by omega
  rw [hq, hr]
  by_cases h1 : q = 0
  · by_cases h2 : r ≤ 2305843009213693952
    · have h3 : (r : Int) ≤ 2305843009213693952 := by omega
      have e2 : x * y = r := by omega
      rw [if_pos ⟨h1, h2⟩, e2]
      have Hq := Lib.hid hq
      have Hr := Lib.hid hr
      clear hq hr e2 ha hb
      subst h1
      go_enter Tryz.func104, Tryz.ntmps104
      go_wp2_with (go_at_call 142; refine (bitsMul64' x y 0 r hx hy Hq Hr _).mono ?_; rintro e w' ⟨rfl, rfl⟩)
      go_ret
      exact ⟨rfl, rfl⟩
    · rw [if_neg (fun h => h2 h.2)]
      have h3 : 2305843009213693952 < (r : Int) := by omega
      have Hq := Lib.hid hq
      have Hr := Lib.hid hr
      clear hq hr ha hb
      subst h1
      go_enter Tryz.func104, Tryz.ntmps104
      go_wp2_with (go_at_call 142; refine (bitsMul64' x y 0 r hx hy Hq Hr _).mono ?_; rintro e w' ⟨rfl, rfl⟩)
      go_ret
      exact ⟨rfl, rfl⟩
  · rw [if_neg (fun h => h1 h.1)]
    have b1 : ((q : Int) == 0) = false := by rw [beq_eq_false_iff_ne]; omega
    have b2 : ((q : Int) != 0) = true := by rw [bne_iff_ne]; omega
    have Hq := Lib.hid hq
    have Hr := Lib.hid hr
    clear hq hr ha hb
    go_enter Tryz.func104, Tryz.ntmps104
    go_wp2_with (go_at_call 142; refine (bitsMul64' x y q r hx hy Hq Hr _).mono ?_; rintro e w' ⟨rfl, rfl⟩)
    go_ret
    exact ⟨rfl, rfl⟩
theorem mul_abs (a b : Int) : Sat.mul a b = if decide (a < 0) = decide (b < 0) then Sat.clip (Sat.abs a * Sat.abs b) else -Sat.clip (Sat.abs a * Sat.abs b) := by
  have ca : a < 0 ↔ Sat.clip a < 0 := by unfold Sat.clip; repeat' split
                                         all_goals omega
  have cb : b < 0 ↔ Sat.clip b < 0 := by unfold Sat.clip; repeat' split
                                         all_goals omega
  unfold Sat.mul Sat.abs
  by_cases h1 : Sat.clip a < 0 <;> by_cases h2 : Sat.clip b < 0 <;> simp [ca, cb, h1, h2, Int.neg_mul, Int.mul_neg, Int.neg_neg, Sat.clip_neg (Sat.clip a * Sat.clip b)]
set_option maxHeartbeats 400000 in
theorem satMul (a b : Int) (w : World) : Calls Tryz.prog 50 #[.int .i64 a, .int .i64 b] w fun e w' => e = .returned (.int .i64 (Sat.mul a b)) ∧ w = w' := by
  rw [mul_abs]
  have ha := Sat.abs_bd a
  have hb := Sat.abs_bd b
  have hc := Sat.clip_bd (Sat.abs a * Sat.abs b)
  have key : ∀ s t : Bool, decide (a < 0) = s → decide (b < 0) = t → Calls Tryz.prog 50 #[.int .i64 a, .int .i64 b] w fun e w' => e = .returned (.int .i64 (if s = t then Sat.clip (Sat.abs a * Sat.abs b) else -Sat.clip (Sat.abs a * Sat.abs b))) ∧ w = w' := by
    intro s t hs ht
    cases s <;> cases t
    all_goals
      simp only [if_true, if_false, reduceCtorEq]
      go_enter Tryz.func50, Tryz.ntmps50
      go_wp2_with (first | (go_at_call 105; refine (satAbs _ _).mono ?_; rintro e w' ⟨rfl, rfl⟩) | (go_at_call 104; refine (satMulSizes _ _ ha.1 ha.2 hb.1 hb.2 _).mono ?_; rintro e w' ⟨rfl, rfl⟩))
      go_ret
      exact ⟨rfl, rfl⟩
  exact key _ _ rfl rfl
end Go.Proofs.YtmokofblmkeloaaGreatDoor
