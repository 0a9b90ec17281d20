/- Contracts of layer 6: the document's Good. -/
import Derived.Test.YtacnoakbcilmfaaC06a
import Derived.BigGuardPart
import Derived.Deep.CutRange
namespace Go.Proofs.Ytacnoakbcilmfaa
open Go.RowKit
set_option maxRecDepth 100000
/-- Beyond the greatest number? -/
def farB (x : Int) : Bool := decide (2305843009213693952 < x ∨ x < -2305843009213693952)
theorem ref6far (x : Int) (w : World) : Calls Try.prog 23 #[.int .i64 x] w fun e w' => e = .returned (.bool (farB x)) ∧ w = w' := by
  unfold farB
  by_cases h : 2305843009213693952 < x
  · rw [decide_eq_true (.inl h)]
    go_enter Try.func23, Try.ntmps23
    go_wp2
    go_ret
    exact ⟨rfl, rfl⟩
  · by_cases h2 : x < -2305843009213693952
    · rw [decide_eq_true (.inr h2)]
      go_enter Try.func23, Try.ntmps23
      go_wp2
      go_ret
      exact ⟨rfl, rfl⟩
    · rw [decide_eq_false (fun g => g.elim h h2)]
      go_enter Try.func23, Try.ntmps23
      go_wp2
      go_ret
      exact ⟨rfl, rfl⟩
/-- The cells of a message in a block. -/
def msgCells (m : Msg) (A : Option Addr) (cap : Nat) : Array Value := #[.int .i64 m.kind, .int .i64 m.frm, .int .i64 m.lo, .int .i64 m.hi, .int .i64 m.held, .int .i64 m.hops, .bool m.good, .bool m.ref, .int .i64 m.slo, .int .i64 m.shi, .int .i64 m.pulse, .int .i64 m.time, .int .i64 m.num, .slice A m.table.length cap]
set_option maxHeartbeats 1600000 in
theorem ref6Good (m : Msg) (A : Option Addr) (cap : Nat) (w : World) (h : PairsAt w A m.table) (hl : m.table.length ≤ 9223372036854775807) :
    Calls Try.prog 12 #[msgV m A cap] w fun e w' => e = .returned (.bool (Wire.good m)) ∧ Ok w w' := by
  have hok := Ok.refl w
  have KT := Lib.hid fun W (h : PairsAt W A m.table) => ref6Table A m.table cap W h hl
  by_cases c1 : (m.kind = 1 ∨ m.kind = 2) ∧ 0 ≤ m.frm ∧ m.frm ≤ 47 ∧ 0 ≤ m.held ∧ m.held ≤ 1073741824 ∧ 0 ≤ m.hops ∧ m.hops ≤ 17
  · by_cases c2 : (-2305843009213693952 ≤ m.lo ∧ m.lo ≤ 2305843009213693952) ∧ (-2305843009213693952 ≤ m.hi ∧ m.hi ≤ 2305843009213693952) ∧ (-2305843009213693952 ≤ m.slo ∧ m.slo ≤ 2305843009213693952) ∧ (-2305843009213693952 ≤ m.shi ∧ m.shi ≤ 2305843009213693952) ∧
        (-2305843009213693952 ≤ m.pulse ∧ m.pulse ≤ 2305843009213693952) ∧ (-2305843009213693952 ≤ m.time ∧ m.time ≤ 2305843009213693952) ∧ 0 ≤ m.num ∧ m.num ≤ 1073741824
    · have e : Wire.good m = Wire.tab m.table := by unfold Wire.good Wire.goodN; rw [decide_eq_true c1, decide_eq_true c2]; rfl
      rw [e]
      unfold msgV
      cases m with
      | mk kind frm lo hi held hops good ref slo shi pulse time num table =>
        simp only at c1 c2 h KT hl ⊢
        clear e
        obtain ⟨k1, k2, k3, k4, k5, k6, k7⟩ := c1
        have dk : (kind != 1 && kind != 2) = false := by rcases k1 with rfl | rfl <;> rfl
        have f1 : farB lo = false := decide_eq_false (by omega)
        have f2 : farB hi = false := decide_eq_false (by omega)
        have f3 : farB slo = false := decide_eq_false (by omega)
        have f4 : farB shi = false := decide_eq_false (by omega)
        have f5 : farB pulse = false := decide_eq_false (by omega)
        have f6 : farB time = false := decide_eq_false (by omega)
        have g1 : decide (num < 0) = false := decide_eq_false (by omega)
        have g2 : decide (1073741824 < num) = false := decide_eq_false (by omega)
        have l1 : decide (frm < 0) = false := decide_eq_false (by omega)
        have l2 : decide (47 < frm) = false := decide_eq_false (by omega)
        have l3 : decide (held < 0) = false := decide_eq_false (by omega)
        have l4 : decide (1073741824 < held) = false := decide_eq_false (by omega)
        have l5 : decide (hops < 0) = false := decide_eq_false (by omega)
        have l6 : decide (17 < hops) = false := decide_eq_false (by omega)
        have H := Lib.hid h
        clear h c2 k2 k3 k4 k5 k6 k7
        rcases k1 with rfl | rfl
        all_goals
          clear dk
          go_enter Try.func12, Try.ntmps12
          go_wp2_with (first
            | (go_at_call 23; refine (ref6far _ _).mono ?_; rintro e w1 ⟨rfl, rfl⟩)
            | (go_at_call 14; (with_reducible refine (KT.out _ (H.out.alloc _)).mono ?_); rintro e w1 ⟨rfl, hb1⟩; replace hok := (hok.alloc _).trans hb1; clear hb1))
          go_ret
          exact ⟨rfl, hok⟩
    · have e : Wire.good m = false := by unfold Wire.good Wire.goodN; rw [decide_eq_false c2]; simp
      rw [e]
      unfold msgV
      cases m with
      | mk kind frm lo hi held hops good ref slo shi pulse time num table =>
        simp only at c1 c2 ⊢
        clear e h KT
        obtain ⟨k1, k2, k3, k4, k5, k6, k7⟩ := c1
        rcases k1 with rfl | rfl
        all_goals
          go_enter Try.func12, Try.ntmps12
          go_wp2_with (go_at_call 23; refine (ref6far _ _).mono ?_; rintro e w1 ⟨rfl, rfl⟩)
          all_goals
            first
              | (go_ret; exact ⟨rfl, hok.alloc _⟩)
              | (exfalso; simp only [farB, decide_eq_false_iff_not] at *; omega)
  · have e : Wire.good m = false := by unfold Wire.good Wire.goodN; rw [decide_eq_false c1]; rfl
    rw [e]
    unfold msgV
    cases m with
    | mk kind frm lo hi held hops good ref slo shi pulse time num table =>
      simp only at c1 ⊢
      clear e h KT
      go_enter Try.func12, Try.ntmps12
      go_wp2_with fail
      all_goals
        go_ret
        exact ⟨rfl, hok.alloc _⟩
end Go.Proofs.Ytacnoakbcilmfaa
