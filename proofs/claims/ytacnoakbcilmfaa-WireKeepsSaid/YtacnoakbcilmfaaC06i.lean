/- Contracts of layer 6: the program's Good. -/
import Derived.Test.YtacnoakbcilmfaaC06h
namespace Go.Proofs.Ytacnoakbcilmfaa
open Go.RowKit
set_option maxRecDepth 100000
theorem wireWithin6 (lo hi a b c d e f : Int) (w : World) (t : TypeId) {g : Nat} (hb : g = w.heap.size) : Calls Try.prog 22 #[.int .i64 lo, .int .i64 hi, .slice (some ⟨g, 0, none⟩) 6 6] (w.alloc (.cells #[.int .i64 a, .int .i64 b, .int .i64 c, .int .i64 d, .int .i64 e, .int .i64 f] t)) fun x w' => x = .returned (.bool (allIn lo hi [a, b, c, d, e, f])) ∧ (w.alloc (.cells #[.int .i64 a, .int .i64 b, .int .i64 c, .int .i64 d, .int .i64 e, .int .i64 f] t)) = w' :=
  wireWithin lo hi _ [a, b, c, d, e, f] 6 _ (ints_new w [a, b, c, d, e, f] t _ rfl hb) (by simp)
/-- Good, as the program asks it. -/
def goodP (m : Msg) : Bool := decide (1 ≤ m.kind ∧ m.kind ≤ 2) && (decide (0 ≤ m.frm ∧ m.frm ≤ 47) && (allIn (-2305843009213693952) 2305843009213693952 [m.lo, m.hi, m.slo, m.shi, m.pulse, m.time] && (decide (0 ≤ m.held ∧ m.held ≤ 1073741824) && (decide (0 ≤ m.hops ∧ m.hops ≤ 17) && (decide (0 ≤ m.num ∧ m.num ≤ 1073741824) && Wire.tab m.table)))))
theorem goodP_eq (m : Msg) : goodP m = Wire.good m := by
  unfold goodP Wire.good Wire.goodN allIn
  rw [Bool.eq_iff_iff]
  simp only [List.all_cons, List.all_nil, Bool.and_true, Bool.and_eq_true, decide_eq_true_eq]
  constructor
  · rintro ⟨h1, h2, h3, h4, h5, h6, h7⟩
    exact ⟨⟨by omega, by omega⟩, h7⟩
  · rintro ⟨⟨h1, h2⟩, h7⟩
    exact ⟨by omega, by omega, by omega, by omega, by omega, by omega, h7⟩
set_option maxHeartbeats 4000000 in
theorem wireGood (m : Msg) (A : Option Addr) (cap : Nat) (w : World) (h : PairsAt w A m.table) (hl : m.table.length ≤ 9223372036854775807) :
    Calls Try.prog 10 #[msgV m A cap] w fun e w' => e = .returned (.bool (Wire.good m)) ∧ Ok w w' := by
  have hok := Ok.refl w
  rw [← goodP_eq]
  have KT := Lib.hid fun W (k : Ok w W) => wireTable A m.table cap W (h.below k) hl
  have K1 := Lib.hid fun (W : World) t b (hb : b = W.heap.size) => wireWithin1 1 2 m.kind W t hb
  have K2 := Lib.hid fun (W : World) t b (hb : b = W.heap.size) => wireWithin1 0 47 m.frm W t hb
  have K3 := Lib.hid fun (W : World) t b (hb : b = W.heap.size) => wireWithin6 (-2305843009213693952) 2305843009213693952 m.lo m.hi m.slo m.shi m.pulse m.time W t hb
  have K4 := Lib.hid fun (W : World) t b (hb : b = W.heap.size) => wireWithin1 0 1073741824 m.held W t hb
  have K5 := Lib.hid fun (W : World) t b (hb : b = W.heap.size) => wireWithin1 0 17 m.hops W t hb
  have K6 := Lib.hid fun (W : World) t b (hb : b = W.heap.size) => wireWithin1 0 1073741824 m.num W t hb
  unfold goodP msgV
  cases m with
  | mk kind frm lo hi held hops good ref slo shi pulse time num table =>
  simp only at KT K1 K2 K3 K4 K5 K6 h hl ⊢
  clear h
  obtain ⟨b1, e1⟩ : ∃ b, decide (1 ≤ kind ∧ kind ≤ 2) = b := ⟨_, rfl⟩
  rw [e1] at K1 ⊢
  clear e1
  obtain ⟨b2, e2⟩ : ∃ b, decide (0 ≤ frm ∧ frm ≤ 47) = b := ⟨_, rfl⟩
  rw [e2] at K2 ⊢
  clear e2
  obtain ⟨b3, e3⟩ : ∃ b, allIn (-2305843009213693952) 2305843009213693952 [lo, hi, slo, shi, pulse, time] = b := ⟨_, rfl⟩
  rw [e3] at K3 ⊢
  clear e3
  obtain ⟨b4, e4⟩ : ∃ b, decide (0 ≤ held ∧ held ≤ 1073741824) = b := ⟨_, rfl⟩
  rw [e4] at K4 ⊢
  clear e4
  obtain ⟨b5, e5⟩ : ∃ b, decide (0 ≤ hops ∧ hops ≤ 17) = b := ⟨_, rfl⟩
  rw [e5] at K5 ⊢
  clear e5
  obtain ⟨b6, e6⟩ : ∃ b, decide (0 ≤ num ∧ num ≤ 1073741824) = b := ⟨_, rfl⟩
  rw [e6] at K6 ⊢
  clear e6
  obtain ⟨b7, e7⟩ : ∃ b, Wire.tab table = b := ⟨_, rfl⟩
  rw [e7] at KT ⊢
  clear e7
  cases b1
  · simp only [Bool.false_and]
    go_enter Try.func10, Try.ntmps10
    go_wp2_with (first | (go_at_call 22; (with_reducible refine (K1.out _ _ _ (by simp)).mono ?_); rintro e w1 ⟨rfl, rfl⟩) | (go_at_call 22; (with_reducible refine (K2.out _ _ _ (by simp)).mono ?_); rintro e w1 ⟨rfl, rfl⟩) | (go_at_call 22; (with_reducible refine (K3.out _ _ _ (by simp)).mono ?_); rintro e w1 ⟨rfl, rfl⟩) | (go_at_call 22; (with_reducible refine (K4.out _ _ _ (by simp)).mono ?_); rintro e w1 ⟨rfl, rfl⟩) | (go_at_call 22; (with_reducible refine (K5.out _ _ _ (by simp)).mono ?_); rintro e w1 ⟨rfl, rfl⟩) | (go_at_call 22; (with_reducible refine (K6.out _ _ _ (by simp)).mono ?_); rintro e w1 ⟨rfl, rfl⟩) | (go_at_call 13; (with_reducible refine (KT.out _ (by repeat (first | exact hok | apply Ok.alloc))).mono ?_); rintro e w1 ⟨rfl, hb1⟩))
    go_ret
    exact ⟨rfl, by repeat (first | exact hok | apply Ok.alloc)⟩
  simp only [Bool.true_and]
  cases b2
  · simp only [Bool.false_and]
    go_enter Try.func10, Try.ntmps10
    go_wp2_with (first | (go_at_call 22; (with_reducible refine (K1.out _ _ _ (by simp)).mono ?_); rintro e w1 ⟨rfl, rfl⟩) | (go_at_call 22; (with_reducible refine (K2.out _ _ _ (by simp)).mono ?_); rintro e w1 ⟨rfl, rfl⟩) | (go_at_call 22; (with_reducible refine (K3.out _ _ _ (by simp)).mono ?_); rintro e w1 ⟨rfl, rfl⟩) | (go_at_call 22; (with_reducible refine (K4.out _ _ _ (by simp)).mono ?_); rintro e w1 ⟨rfl, rfl⟩) | (go_at_call 22; (with_reducible refine (K5.out _ _ _ (by simp)).mono ?_); rintro e w1 ⟨rfl, rfl⟩) | (go_at_call 22; (with_reducible refine (K6.out _ _ _ (by simp)).mono ?_); rintro e w1 ⟨rfl, rfl⟩) | (go_at_call 13; (with_reducible refine (KT.out _ (by repeat (first | exact hok | apply Ok.alloc))).mono ?_); rintro e w1 ⟨rfl, hb1⟩))
    go_ret
    exact ⟨rfl, by repeat (first | exact hok | apply Ok.alloc)⟩
  simp only [Bool.true_and]
  cases b3
  · simp only [Bool.false_and]
    go_enter Try.func10, Try.ntmps10
    go_wp2_with (first | (go_at_call 22; (with_reducible refine (K1.out _ _ _ (by simp)).mono ?_); rintro e w1 ⟨rfl, rfl⟩) | (go_at_call 22; (with_reducible refine (K2.out _ _ _ (by simp)).mono ?_); rintro e w1 ⟨rfl, rfl⟩) | (go_at_call 22; (with_reducible refine (K3.out _ _ _ (by simp)).mono ?_); rintro e w1 ⟨rfl, rfl⟩) | (go_at_call 22; (with_reducible refine (K4.out _ _ _ (by simp)).mono ?_); rintro e w1 ⟨rfl, rfl⟩) | (go_at_call 22; (with_reducible refine (K5.out _ _ _ (by simp)).mono ?_); rintro e w1 ⟨rfl, rfl⟩) | (go_at_call 22; (with_reducible refine (K6.out _ _ _ (by simp)).mono ?_); rintro e w1 ⟨rfl, rfl⟩) | (go_at_call 13; (with_reducible refine (KT.out _ (by repeat (first | exact hok | apply Ok.alloc))).mono ?_); rintro e w1 ⟨rfl, hb1⟩))
    go_ret
    exact ⟨rfl, by repeat (first | exact hok | apply Ok.alloc)⟩
  simp only [Bool.true_and]
  cases b4
  · simp only [Bool.false_and]
    go_enter Try.func10, Try.ntmps10
    go_wp2_with (first | (go_at_call 22; (with_reducible refine (K1.out _ _ _ (by simp)).mono ?_); rintro e w1 ⟨rfl, rfl⟩) | (go_at_call 22; (with_reducible refine (K2.out _ _ _ (by simp)).mono ?_); rintro e w1 ⟨rfl, rfl⟩) | (go_at_call 22; (with_reducible refine (K3.out _ _ _ (by simp)).mono ?_); rintro e w1 ⟨rfl, rfl⟩) | (go_at_call 22; (with_reducible refine (K4.out _ _ _ (by simp)).mono ?_); rintro e w1 ⟨rfl, rfl⟩) | (go_at_call 22; (with_reducible refine (K5.out _ _ _ (by simp)).mono ?_); rintro e w1 ⟨rfl, rfl⟩) | (go_at_call 22; (with_reducible refine (K6.out _ _ _ (by simp)).mono ?_); rintro e w1 ⟨rfl, rfl⟩) | (go_at_call 13; (with_reducible refine (KT.out _ (by repeat (first | exact hok | apply Ok.alloc))).mono ?_); rintro e w1 ⟨rfl, hb1⟩))
    go_ret
    exact ⟨rfl, by repeat (first | exact hok | apply Ok.alloc)⟩
  simp only [Bool.true_and]
  cases b5
  · simp only [Bool.false_and]
    go_enter Try.func10, Try.ntmps10
    go_wp2_with (first | (go_at_call 22; (with_reducible refine (K1.out _ _ _ (by simp)).mono ?_); rintro e w1 ⟨rfl, rfl⟩) | (go_at_call 22; (with_reducible refine (K2.out _ _ _ (by simp)).mono ?_); rintro e w1 ⟨rfl, rfl⟩) | (go_at_call 22; (with_reducible refine (K3.out _ _ _ (by simp)).mono ?_); rintro e w1 ⟨rfl, rfl⟩) | (go_at_call 22; (with_reducible refine (K4.out _ _ _ (by simp)).mono ?_); rintro e w1 ⟨rfl, rfl⟩) | (go_at_call 22; (with_reducible refine (K5.out _ _ _ (by simp)).mono ?_); rintro e w1 ⟨rfl, rfl⟩) | (go_at_call 22; (with_reducible refine (K6.out _ _ _ (by simp)).mono ?_); rintro e w1 ⟨rfl, rfl⟩) | (go_at_call 13; (with_reducible refine (KT.out _ (by repeat (first | exact hok | apply Ok.alloc))).mono ?_); rintro e w1 ⟨rfl, hb1⟩))
    go_ret
    exact ⟨rfl, by repeat (first | exact hok | apply Ok.alloc)⟩
  simp only [Bool.true_and]
  cases b6
  · simp only [Bool.false_and]
    go_enter Try.func10, Try.ntmps10
    go_wp2_with (first | (go_at_call 22; (with_reducible refine (K1.out _ _ _ (by simp)).mono ?_); rintro e w1 ⟨rfl, rfl⟩) | (go_at_call 22; (with_reducible refine (K2.out _ _ _ (by simp)).mono ?_); rintro e w1 ⟨rfl, rfl⟩) | (go_at_call 22; (with_reducible refine (K3.out _ _ _ (by simp)).mono ?_); rintro e w1 ⟨rfl, rfl⟩) | (go_at_call 22; (with_reducible refine (K4.out _ _ _ (by simp)).mono ?_); rintro e w1 ⟨rfl, rfl⟩) | (go_at_call 22; (with_reducible refine (K5.out _ _ _ (by simp)).mono ?_); rintro e w1 ⟨rfl, rfl⟩) | (go_at_call 22; (with_reducible refine (K6.out _ _ _ (by simp)).mono ?_); rintro e w1 ⟨rfl, rfl⟩) | (go_at_call 13; (with_reducible refine (KT.out _ (by repeat (first | exact hok | apply Ok.alloc))).mono ?_); rintro e w1 ⟨rfl, hb1⟩))
    go_ret
    exact ⟨rfl, by repeat (first | exact hok | apply Ok.alloc)⟩
  simp only [Bool.true_and]
  go_enter Try.func10, Try.ntmps10
  go_wp2_with (first | (go_at_call 22; (with_reducible refine (K1.out _ _ _ (by simp)).mono ?_); rintro e w1 ⟨rfl, rfl⟩) | (go_at_call 22; (with_reducible refine (K2.out _ _ _ (by simp)).mono ?_); rintro e w1 ⟨rfl, rfl⟩) | (go_at_call 22; (with_reducible refine (K3.out _ _ _ (by simp)).mono ?_); rintro e w1 ⟨rfl, rfl⟩) | (go_at_call 22; (with_reducible refine (K4.out _ _ _ (by simp)).mono ?_); rintro e w1 ⟨rfl, rfl⟩) | (go_at_call 22; (with_reducible refine (K5.out _ _ _ (by simp)).mono ?_); rintro e w1 ⟨rfl, rfl⟩) | (go_at_call 22; (with_reducible refine (K6.out _ _ _ (by simp)).mono ?_); rintro e w1 ⟨rfl, rfl⟩) | (go_at_call 13; (with_reducible refine (KT.out _ (by repeat (first | exact hok | apply Ok.alloc))).mono ?_); rintro e w1 ⟨rfl, hb1⟩))
  go_ret
  exact ⟨rfl, Ok.trans (by repeat (first | exact hok | apply Ok.alloc)) hb1⟩
end Go.Proofs.Ytacnoakbcilmfaa
