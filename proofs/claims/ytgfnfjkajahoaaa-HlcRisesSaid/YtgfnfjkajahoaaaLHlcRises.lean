/- HlcRises: for every stamp, time, message and most the law answers true: whatever happens, a clock is later than it was, behind a message that is heard later than its stamp, and never ahead of now. No condition. -/
import Derived.Test.YtgfnfjkajahoaaaC20d
import Derived.Test.YtgfnfjkajahoaaaW18
import Derived.Test.YtgfnfjkajahoaaaW28
import Derived.Test.YtgfnfjkajahoaaaC20e
import Derived.Test.YtgfnfjkajahoaaaW38
namespace Go.Proofs.Ytgfnfjkajahoaaa.hlcRises
open Go.ChangeShapes Go.WideShapes Go.ChangeAt Go.RowKit
set_option linter.unusedVariables false
set_option maxRecDepth 100000
attribute [local go_sem ↓] Go.wp_at_zero Go.wp_at_succ
/-- What each operation leaves. -/
def VMR (N0 g h : Nat) (t n now a b most k1 k2 : Int) (q : Bool) (w : World) (v : Value) : Nat → Prop
  | 0 => v = .agg #[.int .i64 t, .int .i64 n]
  | 1 => v = .agg #[.int .i64 t, .int .i64 n]
  | 2 => v = .int .i64 now
  | 3 => v = .agg #[.int .i64 a, .int .i64 b]
  | 4 => v = .int .i64 most
  | 5 => v = .tuple #[.agg #[.int .i64 k1, .int .i64 k2], .bool q]
  | 6 => v = .tuple #[.agg #[.int .i64 k1, .int .i64 k2], .bool q]
  | 7 => v = .agg #[.int .i64 k1, .int .i64 k2]
  | 8 => v = .bool q
  | 9 => ∃ g : Nat, v = .pointer (some ⟨g, 0, none⟩) ∧ Own w g #[.int .i64 0, .int .i64 0] ∧ N0 ≤ g
  | _ => v = .bool true
/-- It stays so. -/
def VCR (N0 g h : Nat) (t n now a b most k1 k2 : Int) (q : Bool) (i : Nat) (v : Value) (w : World) : Prop := ∀ w', Ok w w' → VMR N0 g h t n now a b most k1 k2 q w' v i
/-- What Tick and Hear answer of a clock that can be, at a time that can be. -/
theorem known {t n now a b most : Int} (h0 : Hlc.right (t, n) = true) (h1 : ¬ t = 2305843009213693952) (h2 : now < 2305843009213693952) (h3 : -2305843009213693952 ≤ now) (h4 : a < 2305843009213693952) {x y k1 k2 : Int} {q : Bool} (ht : Hlc.tick (t, n) now = (x, y)) (hh : Hlc.hear (t, n) now (a, b) most = ((k1, k2), q)) :
    (Hlc.less (t, n) (x, y) = true ∧ Hlc.less (t, n) (k1, k2) = true ∧ now ≤ x ∧ now ≤ k1 ∧ Hlc.right (x, y) = true ∧ Hlc.right (k1, k2) = true) ∧
    (q = true → Hlc.less (a, b) (k1, k2) = true ∧ Hlc.less (k1, k2) (x, y) = false ∧ a ≤ most) ∧ (q = false → k1 = x ∧ k2 = y) ∧
    ∀ T, t ≤ T → now ≤ T → (q = true → a ≤ T) → k1 ≤ T + (if n = 1073741824 ∨ b = 1073741824 then 1 else 0) := by
  have hr := (Hlc.right_iff (t, n)).1 h0
  have hlt : t < 2305843009213693952 := by have := hr.1.2; simp only at this; omega
  obtain ⟨a1, a2, a3, a4⟩ := Hlc.tick_in (c := (t, n)) (now := now) h0 hlt ⟨h3, h2⟩
  rw [ht] at a1 a2 a3 a4
  unfold Hlc.hear at hh
  by_cases g : Hlc.right (a, b) = true ∧ a ≤ most
  · rw [if_pos g] at hh
    obtain ⟨b1, b2, b3, b4, b5, b6⟩ := Hlc.hear_in (c := (t, n)) (now := now) (s := (a, b)) h0 hlt ⟨h3, h2⟩ g.1 h4
    obtain ⟨e1, e2⟩ := Prod.mk.inj hh
    rw [e1] at b1 b2 b3 b4 b5 b6
    rw [ht] at b6
    exact ⟨⟨a1, b1, a3, b4, a2, b3⟩, fun _ => ⟨b2, b6, g.2⟩, fun e => by (rw [← e2] at e; cases e), fun T c1 c2 c3 => b5 T c1 c2 (c3 e2.symm)⟩
  · rw [if_neg g, ht] at hh
    obtain ⟨e1, e2⟩ := Prod.mk.inj hh
    obtain ⟨rfl, rfl⟩ := Prod.mk.inj e1
    refine ⟨⟨a1, a1, a3, a3, a2, a2⟩, fun e => by (rw [← e2] at e; cases e), fun _ => ⟨rfl, rfl⟩, fun T c1 c2 _ => ?_⟩
    have := a4 T c1 c2
    simp only at this
    by_cases e : n = 1073741824
    · rw [if_pos e] at this
      rw [if_pos (Or.inl e)]
      exact this
    · rw [if_neg e] at this
      split <;> omega
theorem no0 (w : World) (t n now a b most : Int) (h0 : Hlc.right (t, n) = false) : Calls Try.prog 5 #[stV (t, n), .int .i64 now, stV (a, b), .int .i64 most] w fun e w' => e = .returned (.bool true) ∧ Ok w w' := by
  have KG := Lib.hid fun w => ref20Right (t, n) w
  rw [h0] at KG
  clear h0
  have HH0 := Lib.hid (Held.two (W := w) t n a b 23 23 rfl rfl)
  have HK := Lib.hid (((Ok.refl w).alloc (.cells #[.int .i64 t, .int .i64 n] 23)).alloc (.cells #[.int .i64 a, .int .i64 b] 23))
  go_enter Try.func5, Try.ntmps5
  go_wp2_with (first | (go_at_call 9; (with_reducible refine (law20Alive _).mono ?_); rintro e w1 ⟨rfl, hb1⟩; have hH := HH0.out.next hb1; have hok := HK.out.trans hb1; clear hb1 HH0 HK; have s0 := (hH.get (g := w.heap.size + 1) (x := a) (y := b) (by simp)).c0; have s1 := (hH.get (g := w.heap.size + 1) (x := a) (y := b) (by simp)).c1; have sl := (hH.get (g := w.heap.size + 1) (x := a) (y := b) (by simp)).lt; have p0 := (hH.get (g := w.heap.size) (x := t) (y := n) (by simp)).c0; have p1 := (hH.get (g := w.heap.size) (x := t) (y := n) (by simp)).c1; have pl := (hH.get (g := w.heap.size) (x := t) (y := n) (by simp)).lt) | (go_at_call 13; refine (KG.out _).mono ?_; rintro e w2 ⟨rfl, hb1⟩; replace hH := hH.next hb1; replace hok := hok.trans hb1; clear hb1 p0 p1 pl s0 s1 sl; have s0 := (hH.get (g := w.heap.size + 1) (x := a) (y := b) (by simp)).c0; have s1 := (hH.get (g := w.heap.size + 1) (x := a) (y := b) (by simp)).c1; have sl := (hH.get (g := w.heap.size + 1) (x := a) (y := b) (by simp)).lt; have p0 := (hH.get (g := w.heap.size) (x := t) (y := n) (by simp)).c0; have p1 := (hH.get (g := w.heap.size) (x := t) (y := n) (by simp)).c1; have pl := (hH.get (g := w.heap.size) (x := t) (y := n) (by simp)).lt))
  go_ret
  exact ⟨rfl, hok⟩
theorem no1 (w : World) (t n now a b most : Int) (h0 : Hlc.right (t, n) = true) (h1 : t = 2305843009213693952) : Calls Try.prog 5 #[stV (t, n), .int .i64 now, stV (a, b), .int .i64 most] w fun e w' => e = .returned (.bool true) ∧ Ok w w' := by
  have KG := Lib.hid fun w => ref20Right (t, n) w
  rw [h0] at KG
  clear h0
  have e1 : (t == 2305843009213693952) = true := beq_iff_eq.2 h1
  clear h1
  have HH0 := Lib.hid (Held.two (W := w) t n a b 23 23 rfl rfl)
  have HK := Lib.hid (((Ok.refl w).alloc (.cells #[.int .i64 t, .int .i64 n] 23)).alloc (.cells #[.int .i64 a, .int .i64 b] 23))
  go_enter Try.func5, Try.ntmps5
  go_wp2_with (first | (go_at_call 9; (with_reducible refine (law20Alive _).mono ?_); rintro e w1 ⟨rfl, hb1⟩; have hH := HH0.out.next hb1; have hok := HK.out.trans hb1; clear hb1 HH0 HK; have s0 := (hH.get (g := w.heap.size + 1) (x := a) (y := b) (by simp)).c0; have s1 := (hH.get (g := w.heap.size + 1) (x := a) (y := b) (by simp)).c1; have sl := (hH.get (g := w.heap.size + 1) (x := a) (y := b) (by simp)).lt; have p0 := (hH.get (g := w.heap.size) (x := t) (y := n) (by simp)).c0; have p1 := (hH.get (g := w.heap.size) (x := t) (y := n) (by simp)).c1; have pl := (hH.get (g := w.heap.size) (x := t) (y := n) (by simp)).lt) | (go_at_call 13; refine (KG.out _).mono ?_; rintro e w2 ⟨rfl, hb1⟩; replace hH := hH.next hb1; replace hok := hok.trans hb1; clear hb1 p0 p1 pl s0 s1 sl; have s0 := (hH.get (g := w.heap.size + 1) (x := a) (y := b) (by simp)).c0; have s1 := (hH.get (g := w.heap.size + 1) (x := a) (y := b) (by simp)).c1; have sl := (hH.get (g := w.heap.size + 1) (x := a) (y := b) (by simp)).lt; have p0 := (hH.get (g := w.heap.size) (x := t) (y := n) (by simp)).c0; have p1 := (hH.get (g := w.heap.size) (x := t) (y := n) (by simp)).c1; have pl := (hH.get (g := w.heap.size) (x := t) (y := n) (by simp)).lt))
  go_ret
  exact ⟨rfl, hok⟩
theorem no2 (w : World) (t n now a b most : Int) (h0 : Hlc.right (t, n) = true) (h1 : ¬ t = 2305843009213693952) (h2 : 2305843009213693952 ≤ now) : Calls Try.prog 5 #[stV (t, n), .int .i64 now, stV (a, b), .int .i64 most] w fun e w' => e = .returned (.bool true) ∧ Ok w w' := by
  have KG := Lib.hid fun w => ref20Right (t, n) w
  rw [h0] at KG
  clear h0
  have e1 : (t == 2305843009213693952) = false := beq_eq_false_iff_ne.2 h1
  clear h1
  have HH0 := Lib.hid (Held.two (W := w) t n a b 23 23 rfl rfl)
  have HK := Lib.hid (((Ok.refl w).alloc (.cells #[.int .i64 t, .int .i64 n] 23)).alloc (.cells #[.int .i64 a, .int .i64 b] 23))
  go_enter Try.func5, Try.ntmps5
  go_wp2_with (first | (go_at_call 9; (with_reducible refine (law20Alive _).mono ?_); rintro e w1 ⟨rfl, hb1⟩; have hH := HH0.out.next hb1; have hok := HK.out.trans hb1; clear hb1 HH0 HK; have s0 := (hH.get (g := w.heap.size + 1) (x := a) (y := b) (by simp)).c0; have s1 := (hH.get (g := w.heap.size + 1) (x := a) (y := b) (by simp)).c1; have sl := (hH.get (g := w.heap.size + 1) (x := a) (y := b) (by simp)).lt; have p0 := (hH.get (g := w.heap.size) (x := t) (y := n) (by simp)).c0; have p1 := (hH.get (g := w.heap.size) (x := t) (y := n) (by simp)).c1; have pl := (hH.get (g := w.heap.size) (x := t) (y := n) (by simp)).lt) | (go_at_call 13; refine (KG.out _).mono ?_; rintro e w2 ⟨rfl, hb1⟩; replace hH := hH.next hb1; replace hok := hok.trans hb1; clear hb1 p0 p1 pl s0 s1 sl; have s0 := (hH.get (g := w.heap.size + 1) (x := a) (y := b) (by simp)).c0; have s1 := (hH.get (g := w.heap.size + 1) (x := a) (y := b) (by simp)).c1; have sl := (hH.get (g := w.heap.size + 1) (x := a) (y := b) (by simp)).lt; have p0 := (hH.get (g := w.heap.size) (x := t) (y := n) (by simp)).c0; have p1 := (hH.get (g := w.heap.size) (x := t) (y := n) (by simp)).c1; have pl := (hH.get (g := w.heap.size) (x := t) (y := n) (by simp)).lt))
  go_ret
  exact ⟨rfl, hok⟩
theorem no3 (w : World) (t n now a b most : Int) (h0 : Hlc.right (t, n) = true) (h1 : ¬ t = 2305843009213693952) (h2 : now < 2305843009213693952) (h3 : now < -2305843009213693952) : Calls Try.prog 5 #[stV (t, n), .int .i64 now, stV (a, b), .int .i64 most] w fun e w' => e = .returned (.bool true) ∧ Ok w w' := by
  have KG := Lib.hid fun w => ref20Right (t, n) w
  rw [h0] at KG
  clear h0
  have e1 : (t == 2305843009213693952) = false := beq_eq_false_iff_ne.2 h1
  clear h1
  have HH0 := Lib.hid (Held.two (W := w) t n a b 23 23 rfl rfl)
  have HK := Lib.hid (((Ok.refl w).alloc (.cells #[.int .i64 t, .int .i64 n] 23)).alloc (.cells #[.int .i64 a, .int .i64 b] 23))
  go_enter Try.func5, Try.ntmps5
  go_wp2_with (first | (go_at_call 9; (with_reducible refine (law20Alive _).mono ?_); rintro e w1 ⟨rfl, hb1⟩; have hH := HH0.out.next hb1; have hok := HK.out.trans hb1; clear hb1 HH0 HK; have s0 := (hH.get (g := w.heap.size + 1) (x := a) (y := b) (by simp)).c0; have s1 := (hH.get (g := w.heap.size + 1) (x := a) (y := b) (by simp)).c1; have sl := (hH.get (g := w.heap.size + 1) (x := a) (y := b) (by simp)).lt; have p0 := (hH.get (g := w.heap.size) (x := t) (y := n) (by simp)).c0; have p1 := (hH.get (g := w.heap.size) (x := t) (y := n) (by simp)).c1; have pl := (hH.get (g := w.heap.size) (x := t) (y := n) (by simp)).lt) | (go_at_call 13; refine (KG.out _).mono ?_; rintro e w2 ⟨rfl, hb1⟩; replace hH := hH.next hb1; replace hok := hok.trans hb1; clear hb1 p0 p1 pl s0 s1 sl; have s0 := (hH.get (g := w.heap.size + 1) (x := a) (y := b) (by simp)).c0; have s1 := (hH.get (g := w.heap.size + 1) (x := a) (y := b) (by simp)).c1; have sl := (hH.get (g := w.heap.size + 1) (x := a) (y := b) (by simp)).lt; have p0 := (hH.get (g := w.heap.size) (x := t) (y := n) (by simp)).c0; have p1 := (hH.get (g := w.heap.size) (x := t) (y := n) (by simp)).c1; have pl := (hH.get (g := w.heap.size) (x := t) (y := n) (by simp)).lt))
  go_ret
  exact ⟨rfl, hok⟩
theorem no4 (w : World) (t n now a b most : Int) (h0 : Hlc.right (t, n) = true) (h1 : ¬ t = 2305843009213693952) (h2 : now < 2305843009213693952) (h3 : -2305843009213693952 ≤ now) (h4 : 2305843009213693952 ≤ a) : Calls Try.prog 5 #[stV (t, n), .int .i64 now, stV (a, b), .int .i64 most] w fun e w' => e = .returned (.bool true) ∧ Ok w w' := by
  have KG := Lib.hid fun w => ref20Right (t, n) w
  rw [h0] at KG
  clear h0
  have e1 : (t == 2305843009213693952) = false := beq_eq_false_iff_ne.2 h1
  clear h1
  have HH0 := Lib.hid (Held.two (W := w) t n a b 23 23 rfl rfl)
  have HK := Lib.hid (((Ok.refl w).alloc (.cells #[.int .i64 t, .int .i64 n] 23)).alloc (.cells #[.int .i64 a, .int .i64 b] 23))
  go_enter Try.func5, Try.ntmps5
  go_wp2_with (first | (go_at_call 9; (with_reducible refine (law20Alive _).mono ?_); rintro e w1 ⟨rfl, hb1⟩; have hH := HH0.out.next hb1; have hok := HK.out.trans hb1; clear hb1 HH0 HK; have s0 := (hH.get (g := w.heap.size + 1) (x := a) (y := b) (by simp)).c0; have s1 := (hH.get (g := w.heap.size + 1) (x := a) (y := b) (by simp)).c1; have sl := (hH.get (g := w.heap.size + 1) (x := a) (y := b) (by simp)).lt; have p0 := (hH.get (g := w.heap.size) (x := t) (y := n) (by simp)).c0; have p1 := (hH.get (g := w.heap.size) (x := t) (y := n) (by simp)).c1; have pl := (hH.get (g := w.heap.size) (x := t) (y := n) (by simp)).lt) | (go_at_call 13; refine (KG.out _).mono ?_; rintro e w2 ⟨rfl, hb1⟩; replace hH := hH.next hb1; replace hok := hok.trans hb1; clear hb1 p0 p1 pl s0 s1 sl; have s0 := (hH.get (g := w.heap.size + 1) (x := a) (y := b) (by simp)).c0; have s1 := (hH.get (g := w.heap.size + 1) (x := a) (y := b) (by simp)).c1; have sl := (hH.get (g := w.heap.size + 1) (x := a) (y := b) (by simp)).lt; have p0 := (hH.get (g := w.heap.size) (x := t) (y := n) (by simp)).c0; have p1 := (hH.get (g := w.heap.size) (x := t) (y := n) (by simp)).c1; have pl := (hH.get (g := w.heap.size) (x := t) (y := n) (by simp)).lt))
  go_ret
  exact ⟨rfl, hok⟩
set_option maxHeartbeats 3200000 in
theorem yes (w : World) (t n now a b most : Int) (h0 : Hlc.right (t, n) = true) (h1 : ¬ t = 2305843009213693952) (h2 : now < 2305843009213693952) (h3 : -2305843009213693952 ≤ now) (h4 : a < 2305843009213693952) : Calls Try.prog 5 #[stV (t, n), .int .i64 now, stV (a, b), .int .i64 most] w fun e w' => e = .returned (.bool true) ∧ Ok w w' := by
  have KG := Lib.hid fun w => ref20Right (t, n) w
  have KC := Lib.hid fun w => law20Clock (t, n) w
  have KH := Lib.hid fun w => hlcHear (t, n) now (a, b) most w
  have KT := Lib.hid fun w => hlcTick (t, n) now w
  rw [h0] at KG
  obtain ⟨⟨⟨k1, k2⟩, q⟩, hz⟩ : ∃ z, Hlc.hear (t, n) now (a, b) most = z := ⟨_, rfl⟩
  obtain ⟨⟨x, y⟩, hz2⟩ : ∃ z, Hlc.tick (t, n) now = z := ⟨_, rfl⟩
  have KN := known h0 h1 h2 h3 h4 hz2 hz
  rw [hz] at KH
  rw [hz2] at KT
  clear hz hz2
  obtain ⟨⟨l1, l2, l3, l4, l5, l6⟩, m1, -, -⟩ := KN
  have KL1 := Lib.hid fun w => hlcLess (t, n) (x, y) w
  have KL2 := Lib.hid fun w => hlcLess (t, n) (k1, k2) w
  have KL3 := Lib.hid fun w => hlcLess (a, b) (k1, k2) w
  have KR1 := Lib.hid fun w => hlcRight (x, y) w
  have KR2 := Lib.hid fun w => hlcRight (k1, k2) w
  rw [l1] at KL1
  rw [l2] at KL2
  rw [l5] at KR1
  rw [l6] at KR2
  have e1 : (t == 2305843009213693952) = false := beq_eq_false_iff_ne.2 h1
  have d1 : decide (x < now) = false := decide_eq_false (by omega)
  have d2 : decide (k1 < now) = false := decide_eq_false (by omega)
  have m2 := Lib.hid m1
  clear l1 l2 l3 l4 l5 l6 h1 h0 m1
  have HH0 := Lib.hid (Held.two (W := w) t n a b 23 23 rfl rfl)
  have HK := Lib.hid (((Ok.refl w).alloc (.cells #[.int .i64 t, .int .i64 n] 23)).alloc (.cells #[.int .i64 a, .int .i64 b] 23))
  go_enter Try.func5, Try.ntmps5
  go_upto_region 6 with (first | (go_at_call 9; (with_reducible refine (law20Alive _).mono ?_); rintro e w1 ⟨rfl, hb1⟩; have hH := HH0.out.next hb1; have hok := HK.out.trans hb1; clear hb1 HH0 HK; have s0 := (hH.get (g := w.heap.size + 1) (x := a) (y := b) (by simp)).c0; have s1 := (hH.get (g := w.heap.size + 1) (x := a) (y := b) (by simp)).c1; have sl := (hH.get (g := w.heap.size + 1) (x := a) (y := b) (by simp)).lt; have p0 := (hH.get (g := w.heap.size) (x := t) (y := n) (by simp)).c0; have p1 := (hH.get (g := w.heap.size) (x := t) (y := n) (by simp)).c1; have pl := (hH.get (g := w.heap.size) (x := t) (y := n) (by simp)).lt) | (go_at_call 13; refine (KG.out _).mono ?_; rintro e w2 ⟨rfl, hb1⟩; replace hH := hH.next hb1; replace hok := hok.trans hb1; clear hb1 p0 p1 pl s0 s1 sl; have s0 := (hH.get (g := w.heap.size + 1) (x := a) (y := b) (by simp)).c0; have s1 := (hH.get (g := w.heap.size + 1) (x := a) (y := b) (by simp)).c1; have sl := (hH.get (g := w.heap.size + 1) (x := a) (y := b) (by simp)).lt; have p0 := (hH.get (g := w.heap.size) (x := t) (y := n) (by simp)).c0; have p1 := (hH.get (g := w.heap.size) (x := t) (y := n) (by simp)).c1; have pl := (hH.get (g := w.heap.size) (x := t) (y := n) (by simp)).lt) | (go_at_call 16; refine (KC.out _).mono ?_; rintro e w3 ⟨rfl, hb1⟩; replace hH := hH.next hb1; replace hok := hok.trans hb1; clear hb1 p0 p1 pl s0 s1 sl) | (go_at_call 21; refine (KT.out _).mono ?_; rintro e w4 ⟨rfl, hb1⟩; replace hH := (hH.next hb1).push x y 29 rfl; replace hok := (hok.trans hb1).alloc (.cells #[.int .i64 x, .int .i64 y] 29); clear hb1))
  obtain ⟨W1, hW1⟩ : ∃ r, w4.alloc (.cells #[.int .i64 x, .int .i64 y] 29) = r := ⟨_, rfl⟩
  rw [hW1] at hH hok ⊢
  clear hW1
  obtain ⟨gt, hgt⟩ : ∃ r, w4.heap.size = r := ⟨_, rfl⟩
  rw [hgt] at hH
  rw [hgt]
  clear hgt
  obtain ⟨h, hh⟩ : ∃ r, w.heap.size + 1 = r := ⟨_, rfl⟩
  obtain ⟨g, hg⟩ : ∃ r, w.heap.size = r := ⟨_, rfl⟩
  rw [hh, hg] at hH
  rw [hh, hg]
  clear hh hg
  obtain ⟨N0, hN0⟩ : ∃ r, W1.drew.heap.size = r := ⟨_, rfl⟩
  have HN := Lib.hid hN0
  have HN0 := Lib.hid fun gx (hgx : N0 ≤ gx) => And.intro (hH.drew.other (g := gx) (hN0 ▸ hgx)) (Nat.le_trans (hok.trans (Ok.refl W1).drew).size (hN0 ▸ hgx) : w.heap.size ≤ gx)
  have HOK := Lib.hid hok
  have HH := Lib.hid fun W' (k : Ok W1.drew W') => hH.drew.next k
  clear hN0 hH hok
  refine wp_region_facts_float (by kernel_rfl) 94 rfl (VCR N0 g h t n now a b most k1 k2 q) Ok 10 8 rfl (by decide) _ _ rfl rfl (by kernel_rfl) (by kernel_rfl) _ _ rfl rfl rfl (by kernel_rfl) (by kernel_rfl) (fun i v w w' h k w'' k' => h w'' (k.trans k')) (fun a b c => Ok.trans) (Ok.refl _) [some 40, some 41, some 42, some 43, some 44, some 45, some 39, some 46, some 47, some 10] [some 40, some 41, some 42, some 43, some 44, some 45, some 39, some 46, none, some 10] rfl rfl ⟨?_, ?_, ?_, ?_, ?_, ?_, ?_, ?_, ?_, ?_, trivial⟩ ?_ ?_
  · intro a' w' hF hR
    have e4 : a'.tmps[4]? = some (.pointer (some ⟨g, 0, none⟩)) := hF.slot 4 (by kernel_rfl) rfl
    have hZ := (HH.out _ hR).get (g := g) (x := t) (y := n) (by simp)
    have c0 := hZ.c0
    have c1 := hZ.c1
    have hzl := hZ.lt
    refine wpOp_run (v := .agg #[.int .i64 t, .int .i64 n]) rfl rfl ?_ (fun _ _ => rfl) (Ok.refl _)
    clear hF
    go_simp
  · intro a' w' hF hR
    obtain ⟨v0, hv0, e40⟩ := hF.get 0 40 (by kernel_rfl) (by kernel_rfl)
    obtain rfl : v0 = _ := hv0 _ (Ok.refl _)
    clear hF
    refine wpOp_call (f := 16) (args := #[.agg #[.int .i64 t, .int .i64 n]]) rfl rfl ?_ ((KC.out _).mono ?_)
    · go_simp
    · rintro e w2 ⟨rfl, hb2⟩; exact ⟨_, rfl, fun _ _ => rfl, hb2⟩
  · intro a' w' hF hR
    have e1 : a'.tmps[1]? = some (.int .i64 now) := hF.slot 1 (by kernel_rfl) rfl
    refine wpOp_run (v := .int .i64 now) rfl rfl ?_ (fun _ _ => rfl) (Ok.refl _)
    clear hF
    go_simp
  · intro a' w' hF hR
    have e6 : a'.tmps[6]? = some (.pointer (some ⟨h, 0, none⟩)) := hF.slot 6 (by kernel_rfl) rfl
    have hZ := (HH.out _ hR).get (g := h) (x := a) (y := b) (by simp)
    have c0 := hZ.c0
    have c1 := hZ.c1
    have hzl := hZ.lt
    refine wpOp_run (v := .agg #[.int .i64 a, .int .i64 b]) rfl rfl ?_ (fun _ _ => rfl) (Ok.refl _)
    clear hF
    go_simp
  · intro a' w' hF hR
    have e3 : a'.tmps[3]? = some (.int .i64 most) := hF.slot 3 (by kernel_rfl) rfl
    refine wpOp_run (v := .int .i64 most) rfl rfl ?_ (fun _ _ => rfl) (Ok.refl _)
    clear hF
    go_simp
  · intro a' w' hF hR
    obtain ⟨v1, hv1, e41⟩ := hF.get 1 41 (by kernel_rfl) (by kernel_rfl)
    obtain rfl : v1 = _ := hv1 _ (Ok.refl _)
    obtain ⟨v2, hv2, e42⟩ := hF.get 2 42 (by kernel_rfl) (by kernel_rfl)
    obtain rfl : v2 = _ := hv2 _ (Ok.refl _)
    obtain ⟨v3, hv3, e43⟩ := hF.get 3 43 (by kernel_rfl) (by kernel_rfl)
    obtain rfl : v3 = _ := hv3 _ (Ok.refl _)
    obtain ⟨v4, hv4, e44⟩ := hF.get 4 44 (by kernel_rfl) (by kernel_rfl)
    obtain rfl : v4 = _ := hv4 _ (Ok.refl _)
    clear hF
    refine wpOp_call (f := 17) (args := #[.agg #[.int .i64 t, .int .i64 n], .int .i64 now, .agg #[.int .i64 a, .int .i64 b], .int .i64 most]) rfl rfl ?_ ((KH.out _).mono ?_)
    · go_simp
    · rintro e w2 ⟨rfl, hb2⟩; exact ⟨_, rfl, fun _ _ => rfl, hb2⟩
  · intro a' w' hF hR
    obtain ⟨v5, hv5, e45⟩ := hF.get 5 45 (by kernel_rfl) (by kernel_rfl)
    obtain rfl : v5 = _ := hv5 _ (Ok.refl _)
    refine wpOp_run (v := .tuple #[.agg #[.int .i64 k1, .int .i64 k2], .bool q]) rfl rfl ?_ (fun _ _ => rfl) (Ok.refl _)
    clear hF
    go_simp
  · intro a' w' hF hR
    obtain ⟨v6, hv6, e39⟩ := hF.get 6 39 (by kernel_rfl) (by kernel_rfl)
    obtain rfl : v6 = _ := hv6 _ (Ok.refl _)
    refine wpOp_run (v := .agg #[.int .i64 k1, .int .i64 k2]) rfl rfl ?_ (fun _ _ => rfl) (Ok.refl _)
    clear hF
    go_simp
  · intro a' w' hF hR
    obtain ⟨v6, hv6, e39⟩ := hF.get 6 39 (by kernel_rfl) (by kernel_rfl)
    obtain rfl : v6 = _ := hv6 _ (Ok.refl _)
    refine wpOp_run (v := .bool q) rfl rfl ?_ (fun _ _ => rfl) (Ok.refl _)
    clear hF
    go_simp
  · intro a' w' hF hR
    have hzero : Sem.run Try.prog (zeroValue 29) w' = .ok (.agg #[.int .i64 0, .int .i64 0]) w' := by kernel_rfl
    refine wpOp_run (v := .pointer (some ⟨w'.heap.size, 0, none⟩)) (w' := w'.alloc (.cells #[.int .i64 0, .int .i64 0] 29)) rfl rfl ?_ (fun w'' k => ⟨_, rfl, (Own.new _ _ _ rfl).next k, (HN.out ▸ hR.size)⟩) ((Ok.refl _).alloc _)
    clear hF
    go_simp
  · intro vs W' hvs hR
    have e7 : vs 7 = .agg #[.int .i64 k1, .int .i64 k2] := hvs 7 (by decide) _ (Ok.refl _)
    have e8 : vs 8 = .bool q := hvs 8 (by decide) _ (Ok.refl _)
    obtain ⟨gx, e9, hX, hgx⟩ := hvs 9 (by decide) _ (Ok.refl _)
    have hH := HH.out _ hR
    have hok := (HOK.out.trans (Ok.refl W1).drew).trans hR
    have hn := HN0.out _ hgx
    have hxx : Slab W' gx 0 0 := ⟨hX.blk⟩
    have f0 := hxx.f0
    have f1 := hxx.f1
    have c0 := hxx.c0
    have c1 := hxx.c1
    clear hvs HH HOK HN HN0 KH hX hgx
    simp only [putFrom, e7, e8, e9]
    simp only [Act.put, List.setIfInBounds_toArray, List.set_cons_zero, List.set_cons_succ]
    refine wpOp_store (w' := (W'.setCell ⟨gx, 0, none⟩ (.int .i64 k1)).setCell ⟨gx, 1, none⟩ (.int .i64 k2)) rfl rfl rfl ?_ ?_
    · go_simp
    replace hH := hH.setTwo hn.1 hxx k1 k2
    replace hok := hok.two hn.2 k1 k2
    clear f0 f1 c0 c1 hxx hn e7 e8 e9
    generalize (W'.setCell ⟨gx, 0, none⟩ (.int .i64 k1)).setCell ⟨gx, 1, none⟩ (.int .i64 k2) = W2 at hH hok ⊢
    refine wpOp_leaves (v := .bool q) (w' := W2) rfl rfl ?_ ?_
    · go_simp
    simp only [Act.put, List.setIfInBounds_toArray]
    generalize vs 0 = z0
    generalize vs 1 = z1
    generalize vs 2 = z2
    generalize vs 3 = z3
    generalize vs 4 = z4
    generalize vs 5 = z5
    try generalize vs 6 = z6
    clear hR vs
    have d0 := (hH.get (g := gt) (x := x) (y := y) (by simp)).c0
    have d1 := (hH.get (g := gt) (x := x) (y := y) (by simp)).c1
    have dl := (hH.get (g := gt) (x := x) (y := y) (by simp)).lt
    have r0 := (hH.get (g := gx) (x := k1) (y := k2) (by simp)).c0
    have r1 := (hH.get (g := gx) (x := k1) (y := k2) (by simp)).c1
    have rl := (hH.get (g := gx) (x := k1) (y := k2) (by simp)).lt
    have s0 := (hH.get (g := h) (x := a) (y := b) (by simp)).c0
    have s1 := (hH.get (g := h) (x := a) (y := b) (by simp)).c1
    have sl := (hH.get (g := h) (x := a) (y := b) (by simp)).lt
    have p0 := (hH.get (g := g) (x := t) (y := n) (by simp)).c0
    have p1 := (hH.get (g := g) (x := t) (y := n) (by simp)).c1
    have pl := (hH.get (g := g) (x := t) (y := n) (by simp)).lt
    cases q
    · go_wp2_with (first | (go_at_call 10; first | ((with_reducible refine (KL1.out _).mono ?_); rintro e w7 ⟨rfl, hb1⟩; replace hH := hH.next hb1; replace hok := hok.trans hb1; clear hb1; clear d0 d1 dl r0 r1 rl s0 s1 sl p0 p1 pl; have d0 := (hH.get (g := gt) (x := x) (y := y) (by simp)).c0; have d1 := (hH.get (g := gt) (x := x) (y := y) (by simp)).c1; have dl := (hH.get (g := gt) (x := x) (y := y) (by simp)).lt; have r0 := (hH.get (g := gx) (x := k1) (y := k2) (by simp)).c0; have r1 := (hH.get (g := gx) (x := k1) (y := k2) (by simp)).c1; have rl := (hH.get (g := gx) (x := k1) (y := k2) (by simp)).lt; have s0 := (hH.get (g := h) (x := a) (y := b) (by simp)).c0; have s1 := (hH.get (g := h) (x := a) (y := b) (by simp)).c1; have sl := (hH.get (g := h) (x := a) (y := b) (by simp)).lt; have p0 := (hH.get (g := g) (x := t) (y := n) (by simp)).c0; have p1 := (hH.get (g := g) (x := t) (y := n) (by simp)).c1; have pl := (hH.get (g := g) (x := t) (y := n) (by simp)).lt) | ((with_reducible refine (KL2.out _).mono ?_); rintro e w7 ⟨rfl, hb1⟩; replace hH := hH.next hb1; replace hok := hok.trans hb1; clear hb1; clear d0 d1 dl r0 r1 rl s0 s1 sl p0 p1 pl; have d0 := (hH.get (g := gt) (x := x) (y := y) (by simp)).c0; have d1 := (hH.get (g := gt) (x := x) (y := y) (by simp)).c1; have dl := (hH.get (g := gt) (x := x) (y := y) (by simp)).lt; have r0 := (hH.get (g := gx) (x := k1) (y := k2) (by simp)).c0; have r1 := (hH.get (g := gx) (x := k1) (y := k2) (by simp)).c1; have rl := (hH.get (g := gx) (x := k1) (y := k2) (by simp)).lt; have s0 := (hH.get (g := h) (x := a) (y := b) (by simp)).c0; have s1 := (hH.get (g := h) (x := a) (y := b) (by simp)).c1; have sl := (hH.get (g := h) (x := a) (y := b) (by simp)).lt; have p0 := (hH.get (g := g) (x := t) (y := n) (by simp)).c0; have p1 := (hH.get (g := g) (x := t) (y := n) (by simp)).c1; have pl := (hH.get (g := g) (x := t) (y := n) (by simp)).lt) | ((with_reducible refine (KL3.out _).mono ?_); rintro e w7 ⟨rfl, hb1⟩; replace hH := hH.next hb1; replace hok := hok.trans hb1; clear hb1; clear d0 d1 dl r0 r1 rl s0 s1 sl p0 p1 pl; have d0 := (hH.get (g := gt) (x := x) (y := y) (by simp)).c0; have d1 := (hH.get (g := gt) (x := x) (y := y) (by simp)).c1; have dl := (hH.get (g := gt) (x := x) (y := y) (by simp)).lt; have r0 := (hH.get (g := gx) (x := k1) (y := k2) (by simp)).c0; have r1 := (hH.get (g := gx) (x := k1) (y := k2) (by simp)).c1; have rl := (hH.get (g := gx) (x := k1) (y := k2) (by simp)).lt; have s0 := (hH.get (g := h) (x := a) (y := b) (by simp)).c0; have s1 := (hH.get (g := h) (x := a) (y := b) (by simp)).c1; have sl := (hH.get (g := h) (x := a) (y := b) (by simp)).lt; have p0 := (hH.get (g := g) (x := t) (y := n) (by simp)).c0; have p1 := (hH.get (g := g) (x := t) (y := n) (by simp)).c1; have pl := (hH.get (g := g) (x := t) (y := n) (by simp)).lt)) | (go_at_call 12; first | ((with_reducible refine (KR1.out _).mono ?_); rintro e w7 ⟨rfl, hb1⟩; replace hH := hH.next hb1; replace hok := hok.trans hb1; clear hb1; clear d0 d1 dl r0 r1 rl s0 s1 sl p0 p1 pl; have d0 := (hH.get (g := gt) (x := x) (y := y) (by simp)).c0; have d1 := (hH.get (g := gt) (x := x) (y := y) (by simp)).c1; have dl := (hH.get (g := gt) (x := x) (y := y) (by simp)).lt; have r0 := (hH.get (g := gx) (x := k1) (y := k2) (by simp)).c0; have r1 := (hH.get (g := gx) (x := k1) (y := k2) (by simp)).c1; have rl := (hH.get (g := gx) (x := k1) (y := k2) (by simp)).lt; have s0 := (hH.get (g := h) (x := a) (y := b) (by simp)).c0; have s1 := (hH.get (g := h) (x := a) (y := b) (by simp)).c1; have sl := (hH.get (g := h) (x := a) (y := b) (by simp)).lt; have p0 := (hH.get (g := g) (x := t) (y := n) (by simp)).c0; have p1 := (hH.get (g := g) (x := t) (y := n) (by simp)).c1; have pl := (hH.get (g := g) (x := t) (y := n) (by simp)).lt) | ((with_reducible refine (KR2.out _).mono ?_); rintro e w7 ⟨rfl, hb1⟩; replace hH := hH.next hb1; replace hok := hok.trans hb1; clear hb1; clear d0 d1 dl r0 r1 rl s0 s1 sl p0 p1 pl; have d0 := (hH.get (g := gt) (x := x) (y := y) (by simp)).c0; have d1 := (hH.get (g := gt) (x := x) (y := y) (by simp)).c1; have dl := (hH.get (g := gt) (x := x) (y := y) (by simp)).lt; have r0 := (hH.get (g := gx) (x := k1) (y := k2) (by simp)).c0; have r1 := (hH.get (g := gx) (x := k1) (y := k2) (by simp)).c1; have rl := (hH.get (g := gx) (x := k1) (y := k2) (by simp)).lt; have s0 := (hH.get (g := h) (x := a) (y := b) (by simp)).c0; have s1 := (hH.get (g := h) (x := a) (y := b) (by simp)).c1; have sl := (hH.get (g := h) (x := a) (y := b) (by simp)).lt; have p0 := (hH.get (g := g) (x := t) (y := n) (by simp)).c0; have p1 := (hH.get (g := g) (x := t) (y := n) (by simp)).c1; have pl := (hH.get (g := g) (x := t) (y := n) (by simp)).lt)))
      go_ret
      exact ⟨rfl, hok⟩
    · rw [(m2.out rfl).1] at KL3
      go_wp2_with (first | (go_at_call 10; first | ((with_reducible refine (KL1.out _).mono ?_); rintro e w7 ⟨rfl, hb1⟩; replace hH := hH.next hb1; replace hok := hok.trans hb1; clear hb1; clear d0 d1 dl r0 r1 rl s0 s1 sl p0 p1 pl; have d0 := (hH.get (g := gt) (x := x) (y := y) (by simp)).c0; have d1 := (hH.get (g := gt) (x := x) (y := y) (by simp)).c1; have dl := (hH.get (g := gt) (x := x) (y := y) (by simp)).lt; have r0 := (hH.get (g := gx) (x := k1) (y := k2) (by simp)).c0; have r1 := (hH.get (g := gx) (x := k1) (y := k2) (by simp)).c1; have rl := (hH.get (g := gx) (x := k1) (y := k2) (by simp)).lt; have s0 := (hH.get (g := h) (x := a) (y := b) (by simp)).c0; have s1 := (hH.get (g := h) (x := a) (y := b) (by simp)).c1; have sl := (hH.get (g := h) (x := a) (y := b) (by simp)).lt; have p0 := (hH.get (g := g) (x := t) (y := n) (by simp)).c0; have p1 := (hH.get (g := g) (x := t) (y := n) (by simp)).c1; have pl := (hH.get (g := g) (x := t) (y := n) (by simp)).lt) | ((with_reducible refine (KL2.out _).mono ?_); rintro e w7 ⟨rfl, hb1⟩; replace hH := hH.next hb1; replace hok := hok.trans hb1; clear hb1; clear d0 d1 dl r0 r1 rl s0 s1 sl p0 p1 pl; have d0 := (hH.get (g := gt) (x := x) (y := y) (by simp)).c0; have d1 := (hH.get (g := gt) (x := x) (y := y) (by simp)).c1; have dl := (hH.get (g := gt) (x := x) (y := y) (by simp)).lt; have r0 := (hH.get (g := gx) (x := k1) (y := k2) (by simp)).c0; have r1 := (hH.get (g := gx) (x := k1) (y := k2) (by simp)).c1; have rl := (hH.get (g := gx) (x := k1) (y := k2) (by simp)).lt; have s0 := (hH.get (g := h) (x := a) (y := b) (by simp)).c0; have s1 := (hH.get (g := h) (x := a) (y := b) (by simp)).c1; have sl := (hH.get (g := h) (x := a) (y := b) (by simp)).lt; have p0 := (hH.get (g := g) (x := t) (y := n) (by simp)).c0; have p1 := (hH.get (g := g) (x := t) (y := n) (by simp)).c1; have pl := (hH.get (g := g) (x := t) (y := n) (by simp)).lt) | ((with_reducible refine (KL3.out _).mono ?_); rintro e w7 ⟨rfl, hb1⟩; replace hH := hH.next hb1; replace hok := hok.trans hb1; clear hb1; clear d0 d1 dl r0 r1 rl s0 s1 sl p0 p1 pl; have d0 := (hH.get (g := gt) (x := x) (y := y) (by simp)).c0; have d1 := (hH.get (g := gt) (x := x) (y := y) (by simp)).c1; have dl := (hH.get (g := gt) (x := x) (y := y) (by simp)).lt; have r0 := (hH.get (g := gx) (x := k1) (y := k2) (by simp)).c0; have r1 := (hH.get (g := gx) (x := k1) (y := k2) (by simp)).c1; have rl := (hH.get (g := gx) (x := k1) (y := k2) (by simp)).lt; have s0 := (hH.get (g := h) (x := a) (y := b) (by simp)).c0; have s1 := (hH.get (g := h) (x := a) (y := b) (by simp)).c1; have sl := (hH.get (g := h) (x := a) (y := b) (by simp)).lt; have p0 := (hH.get (g := g) (x := t) (y := n) (by simp)).c0; have p1 := (hH.get (g := g) (x := t) (y := n) (by simp)).c1; have pl := (hH.get (g := g) (x := t) (y := n) (by simp)).lt)) | (go_at_call 12; first | ((with_reducible refine (KR1.out _).mono ?_); rintro e w7 ⟨rfl, hb1⟩; replace hH := hH.next hb1; replace hok := hok.trans hb1; clear hb1; clear d0 d1 dl r0 r1 rl s0 s1 sl p0 p1 pl; have d0 := (hH.get (g := gt) (x := x) (y := y) (by simp)).c0; have d1 := (hH.get (g := gt) (x := x) (y := y) (by simp)).c1; have dl := (hH.get (g := gt) (x := x) (y := y) (by simp)).lt; have r0 := (hH.get (g := gx) (x := k1) (y := k2) (by simp)).c0; have r1 := (hH.get (g := gx) (x := k1) (y := k2) (by simp)).c1; have rl := (hH.get (g := gx) (x := k1) (y := k2) (by simp)).lt; have s0 := (hH.get (g := h) (x := a) (y := b) (by simp)).c0; have s1 := (hH.get (g := h) (x := a) (y := b) (by simp)).c1; have sl := (hH.get (g := h) (x := a) (y := b) (by simp)).lt; have p0 := (hH.get (g := g) (x := t) (y := n) (by simp)).c0; have p1 := (hH.get (g := g) (x := t) (y := n) (by simp)).c1; have pl := (hH.get (g := g) (x := t) (y := n) (by simp)).lt) | ((with_reducible refine (KR2.out _).mono ?_); rintro e w7 ⟨rfl, hb1⟩; replace hH := hH.next hb1; replace hok := hok.trans hb1; clear hb1; clear d0 d1 dl r0 r1 rl s0 s1 sl p0 p1 pl; have d0 := (hH.get (g := gt) (x := x) (y := y) (by simp)).c0; have d1 := (hH.get (g := gt) (x := x) (y := y) (by simp)).c1; have dl := (hH.get (g := gt) (x := x) (y := y) (by simp)).lt; have r0 := (hH.get (g := gx) (x := k1) (y := k2) (by simp)).c0; have r1 := (hH.get (g := gx) (x := k1) (y := k2) (by simp)).c1; have rl := (hH.get (g := gx) (x := k1) (y := k2) (by simp)).lt; have s0 := (hH.get (g := h) (x := a) (y := b) (by simp)).c0; have s1 := (hH.get (g := h) (x := a) (y := b) (by simp)).c1; have sl := (hH.get (g := h) (x := a) (y := b) (by simp)).lt; have p0 := (hH.get (g := g) (x := t) (y := n) (by simp)).c0; have p1 := (hH.get (g := g) (x := t) (y := n) (by simp)).c1; have pl := (hH.get (g := g) (x := t) (y := n) (by simp)).lt)))
      go_ret
      exact ⟨rfl, hok⟩
  · intro vs W' hvs hR
    have e7 : vs 7 = .agg #[.int .i64 k1, .int .i64 k2] := hvs 7 (by decide) (by decide) _ (Ok.refl _)
    have e8 : vs 6 = .tuple #[.agg #[.int .i64 k1, .int .i64 k2], .bool q] := hvs 6 (by decide) (by decide) _ (Ok.refl _)
    obtain ⟨gx, e9, hX, hgx⟩ := hvs 9 (by decide) (by decide) _ (Ok.refl _)
    have hH := HH.out _ hR
    have hok := (HOK.out.trans (Ok.refl W1).drew).trans hR
    have hn := HN0.out _ hgx
    have hxx : Slab W' gx 0 0 := ⟨hX.blk⟩
    have f0 := hxx.f0
    have f1 := hxx.f1
    have c0 := hxx.c0
    have c1 := hxx.c1
    clear hvs HH HOK HN HN0 KH hX hgx
    simp only [putFrom, e7, e8, e9]
    simp only [Act.put, List.setIfInBounds_toArray, List.set_cons_zero, List.set_cons_succ]
    refine wpOp_store (w' := (W'.setCell ⟨gx, 0, none⟩ (.int .i64 k1)).setCell ⟨gx, 1, none⟩ (.int .i64 k2)) rfl rfl rfl ?_ ?_
    · go_simp
    replace hH := hH.setTwo hn.1 hxx k1 k2
    replace hok := hok.two hn.2 k1 k2
    clear f0 f1 c0 c1 hxx hn e7 e8 e9
    generalize (W'.setCell ⟨gx, 0, none⟩ (.int .i64 k1)).setCell ⟨gx, 1, none⟩ (.int .i64 k2) = W2 at hH hok ⊢
    refine wpOp_leaves (v := .bool q) (w' := W2) rfl rfl ?_ ?_
    · go_simp
    simp only [Act.put, List.setIfInBounds_toArray]
    refine wpOp_leaves (v := .bool q) (w' := W2) rfl rfl ?_ ?_
    · go_simp
    simp only [Act.put]
    generalize vs 0 = z0
    generalize vs 1 = z1
    generalize vs 2 = z2
    generalize vs 3 = z3
    generalize vs 4 = z4
    generalize vs 5 = z5
    try generalize vs 6 = z6
    clear hR vs
    have d0 := (hH.get (g := gt) (x := x) (y := y) (by simp)).c0
    have d1 := (hH.get (g := gt) (x := x) (y := y) (by simp)).c1
    have dl := (hH.get (g := gt) (x := x) (y := y) (by simp)).lt
    have r0 := (hH.get (g := gx) (x := k1) (y := k2) (by simp)).c0
    have r1 := (hH.get (g := gx) (x := k1) (y := k2) (by simp)).c1
    have rl := (hH.get (g := gx) (x := k1) (y := k2) (by simp)).lt
    have s0 := (hH.get (g := h) (x := a) (y := b) (by simp)).c0
    have s1 := (hH.get (g := h) (x := a) (y := b) (by simp)).c1
    have sl := (hH.get (g := h) (x := a) (y := b) (by simp)).lt
    have p0 := (hH.get (g := g) (x := t) (y := n) (by simp)).c0
    have p1 := (hH.get (g := g) (x := t) (y := n) (by simp)).c1
    have pl := (hH.get (g := g) (x := t) (y := n) (by simp)).lt
    cases q
    · go_wp2_with (first | (go_at_call 10; first | ((with_reducible refine (KL1.out _).mono ?_); rintro e w7 ⟨rfl, hb1⟩; replace hH := hH.next hb1; replace hok := hok.trans hb1; clear hb1; clear d0 d1 dl r0 r1 rl s0 s1 sl p0 p1 pl; have d0 := (hH.get (g := gt) (x := x) (y := y) (by simp)).c0; have d1 := (hH.get (g := gt) (x := x) (y := y) (by simp)).c1; have dl := (hH.get (g := gt) (x := x) (y := y) (by simp)).lt; have r0 := (hH.get (g := gx) (x := k1) (y := k2) (by simp)).c0; have r1 := (hH.get (g := gx) (x := k1) (y := k2) (by simp)).c1; have rl := (hH.get (g := gx) (x := k1) (y := k2) (by simp)).lt; have s0 := (hH.get (g := h) (x := a) (y := b) (by simp)).c0; have s1 := (hH.get (g := h) (x := a) (y := b) (by simp)).c1; have sl := (hH.get (g := h) (x := a) (y := b) (by simp)).lt; have p0 := (hH.get (g := g) (x := t) (y := n) (by simp)).c0; have p1 := (hH.get (g := g) (x := t) (y := n) (by simp)).c1; have pl := (hH.get (g := g) (x := t) (y := n) (by simp)).lt) | ((with_reducible refine (KL2.out _).mono ?_); rintro e w7 ⟨rfl, hb1⟩; replace hH := hH.next hb1; replace hok := hok.trans hb1; clear hb1; clear d0 d1 dl r0 r1 rl s0 s1 sl p0 p1 pl; have d0 := (hH.get (g := gt) (x := x) (y := y) (by simp)).c0; have d1 := (hH.get (g := gt) (x := x) (y := y) (by simp)).c1; have dl := (hH.get (g := gt) (x := x) (y := y) (by simp)).lt; have r0 := (hH.get (g := gx) (x := k1) (y := k2) (by simp)).c0; have r1 := (hH.get (g := gx) (x := k1) (y := k2) (by simp)).c1; have rl := (hH.get (g := gx) (x := k1) (y := k2) (by simp)).lt; have s0 := (hH.get (g := h) (x := a) (y := b) (by simp)).c0; have s1 := (hH.get (g := h) (x := a) (y := b) (by simp)).c1; have sl := (hH.get (g := h) (x := a) (y := b) (by simp)).lt; have p0 := (hH.get (g := g) (x := t) (y := n) (by simp)).c0; have p1 := (hH.get (g := g) (x := t) (y := n) (by simp)).c1; have pl := (hH.get (g := g) (x := t) (y := n) (by simp)).lt) | ((with_reducible refine (KL3.out _).mono ?_); rintro e w7 ⟨rfl, hb1⟩; replace hH := hH.next hb1; replace hok := hok.trans hb1; clear hb1; clear d0 d1 dl r0 r1 rl s0 s1 sl p0 p1 pl; have d0 := (hH.get (g := gt) (x := x) (y := y) (by simp)).c0; have d1 := (hH.get (g := gt) (x := x) (y := y) (by simp)).c1; have dl := (hH.get (g := gt) (x := x) (y := y) (by simp)).lt; have r0 := (hH.get (g := gx) (x := k1) (y := k2) (by simp)).c0; have r1 := (hH.get (g := gx) (x := k1) (y := k2) (by simp)).c1; have rl := (hH.get (g := gx) (x := k1) (y := k2) (by simp)).lt; have s0 := (hH.get (g := h) (x := a) (y := b) (by simp)).c0; have s1 := (hH.get (g := h) (x := a) (y := b) (by simp)).c1; have sl := (hH.get (g := h) (x := a) (y := b) (by simp)).lt; have p0 := (hH.get (g := g) (x := t) (y := n) (by simp)).c0; have p1 := (hH.get (g := g) (x := t) (y := n) (by simp)).c1; have pl := (hH.get (g := g) (x := t) (y := n) (by simp)).lt)) | (go_at_call 12; first | ((with_reducible refine (KR1.out _).mono ?_); rintro e w7 ⟨rfl, hb1⟩; replace hH := hH.next hb1; replace hok := hok.trans hb1; clear hb1; clear d0 d1 dl r0 r1 rl s0 s1 sl p0 p1 pl; have d0 := (hH.get (g := gt) (x := x) (y := y) (by simp)).c0; have d1 := (hH.get (g := gt) (x := x) (y := y) (by simp)).c1; have dl := (hH.get (g := gt) (x := x) (y := y) (by simp)).lt; have r0 := (hH.get (g := gx) (x := k1) (y := k2) (by simp)).c0; have r1 := (hH.get (g := gx) (x := k1) (y := k2) (by simp)).c1; have rl := (hH.get (g := gx) (x := k1) (y := k2) (by simp)).lt; have s0 := (hH.get (g := h) (x := a) (y := b) (by simp)).c0; have s1 := (hH.get (g := h) (x := a) (y := b) (by simp)).c1; have sl := (hH.get (g := h) (x := a) (y := b) (by simp)).lt; have p0 := (hH.get (g := g) (x := t) (y := n) (by simp)).c0; have p1 := (hH.get (g := g) (x := t) (y := n) (by simp)).c1; have pl := (hH.get (g := g) (x := t) (y := n) (by simp)).lt) | ((with_reducible refine (KR2.out _).mono ?_); rintro e w7 ⟨rfl, hb1⟩; replace hH := hH.next hb1; replace hok := hok.trans hb1; clear hb1; clear d0 d1 dl r0 r1 rl s0 s1 sl p0 p1 pl; have d0 := (hH.get (g := gt) (x := x) (y := y) (by simp)).c0; have d1 := (hH.get (g := gt) (x := x) (y := y) (by simp)).c1; have dl := (hH.get (g := gt) (x := x) (y := y) (by simp)).lt; have r0 := (hH.get (g := gx) (x := k1) (y := k2) (by simp)).c0; have r1 := (hH.get (g := gx) (x := k1) (y := k2) (by simp)).c1; have rl := (hH.get (g := gx) (x := k1) (y := k2) (by simp)).lt; have s0 := (hH.get (g := h) (x := a) (y := b) (by simp)).c0; have s1 := (hH.get (g := h) (x := a) (y := b) (by simp)).c1; have sl := (hH.get (g := h) (x := a) (y := b) (by simp)).lt; have p0 := (hH.get (g := g) (x := t) (y := n) (by simp)).c0; have p1 := (hH.get (g := g) (x := t) (y := n) (by simp)).c1; have pl := (hH.get (g := g) (x := t) (y := n) (by simp)).lt)))
      go_ret
      exact ⟨rfl, hok⟩
    · rw [(m2.out rfl).1] at KL3
      go_wp2_with (first | (go_at_call 10; first | ((with_reducible refine (KL1.out _).mono ?_); rintro e w7 ⟨rfl, hb1⟩; replace hH := hH.next hb1; replace hok := hok.trans hb1; clear hb1; clear d0 d1 dl r0 r1 rl s0 s1 sl p0 p1 pl; have d0 := (hH.get (g := gt) (x := x) (y := y) (by simp)).c0; have d1 := (hH.get (g := gt) (x := x) (y := y) (by simp)).c1; have dl := (hH.get (g := gt) (x := x) (y := y) (by simp)).lt; have r0 := (hH.get (g := gx) (x := k1) (y := k2) (by simp)).c0; have r1 := (hH.get (g := gx) (x := k1) (y := k2) (by simp)).c1; have rl := (hH.get (g := gx) (x := k1) (y := k2) (by simp)).lt; have s0 := (hH.get (g := h) (x := a) (y := b) (by simp)).c0; have s1 := (hH.get (g := h) (x := a) (y := b) (by simp)).c1; have sl := (hH.get (g := h) (x := a) (y := b) (by simp)).lt; have p0 := (hH.get (g := g) (x := t) (y := n) (by simp)).c0; have p1 := (hH.get (g := g) (x := t) (y := n) (by simp)).c1; have pl := (hH.get (g := g) (x := t) (y := n) (by simp)).lt) | ((with_reducible refine (KL2.out _).mono ?_); rintro e w7 ⟨rfl, hb1⟩; replace hH := hH.next hb1; replace hok := hok.trans hb1; clear hb1; clear d0 d1 dl r0 r1 rl s0 s1 sl p0 p1 pl; have d0 := (hH.get (g := gt) (x := x) (y := y) (by simp)).c0; have d1 := (hH.get (g := gt) (x := x) (y := y) (by simp)).c1; have dl := (hH.get (g := gt) (x := x) (y := y) (by simp)).lt; have r0 := (hH.get (g := gx) (x := k1) (y := k2) (by simp)).c0; have r1 := (hH.get (g := gx) (x := k1) (y := k2) (by simp)).c1; have rl := (hH.get (g := gx) (x := k1) (y := k2) (by simp)).lt; have s0 := (hH.get (g := h) (x := a) (y := b) (by simp)).c0; have s1 := (hH.get (g := h) (x := a) (y := b) (by simp)).c1; have sl := (hH.get (g := h) (x := a) (y := b) (by simp)).lt; have p0 := (hH.get (g := g) (x := t) (y := n) (by simp)).c0; have p1 := (hH.get (g := g) (x := t) (y := n) (by simp)).c1; have pl := (hH.get (g := g) (x := t) (y := n) (by simp)).lt) | ((with_reducible refine (KL3.out _).mono ?_); rintro e w7 ⟨rfl, hb1⟩; replace hH := hH.next hb1; replace hok := hok.trans hb1; clear hb1; clear d0 d1 dl r0 r1 rl s0 s1 sl p0 p1 pl; have d0 := (hH.get (g := gt) (x := x) (y := y) (by simp)).c0; have d1 := (hH.get (g := gt) (x := x) (y := y) (by simp)).c1; have dl := (hH.get (g := gt) (x := x) (y := y) (by simp)).lt; have r0 := (hH.get (g := gx) (x := k1) (y := k2) (by simp)).c0; have r1 := (hH.get (g := gx) (x := k1) (y := k2) (by simp)).c1; have rl := (hH.get (g := gx) (x := k1) (y := k2) (by simp)).lt; have s0 := (hH.get (g := h) (x := a) (y := b) (by simp)).c0; have s1 := (hH.get (g := h) (x := a) (y := b) (by simp)).c1; have sl := (hH.get (g := h) (x := a) (y := b) (by simp)).lt; have p0 := (hH.get (g := g) (x := t) (y := n) (by simp)).c0; have p1 := (hH.get (g := g) (x := t) (y := n) (by simp)).c1; have pl := (hH.get (g := g) (x := t) (y := n) (by simp)).lt)) | (go_at_call 12; first | ((with_reducible refine (KR1.out _).mono ?_); rintro e w7 ⟨rfl, hb1⟩; replace hH := hH.next hb1; replace hok := hok.trans hb1; clear hb1; clear d0 d1 dl r0 r1 rl s0 s1 sl p0 p1 pl; have d0 := (hH.get (g := gt) (x := x) (y := y) (by simp)).c0; have d1 := (hH.get (g := gt) (x := x) (y := y) (by simp)).c1; have dl := (hH.get (g := gt) (x := x) (y := y) (by simp)).lt; have r0 := (hH.get (g := gx) (x := k1) (y := k2) (by simp)).c0; have r1 := (hH.get (g := gx) (x := k1) (y := k2) (by simp)).c1; have rl := (hH.get (g := gx) (x := k1) (y := k2) (by simp)).lt; have s0 := (hH.get (g := h) (x := a) (y := b) (by simp)).c0; have s1 := (hH.get (g := h) (x := a) (y := b) (by simp)).c1; have sl := (hH.get (g := h) (x := a) (y := b) (by simp)).lt; have p0 := (hH.get (g := g) (x := t) (y := n) (by simp)).c0; have p1 := (hH.get (g := g) (x := t) (y := n) (by simp)).c1; have pl := (hH.get (g := g) (x := t) (y := n) (by simp)).lt) | ((with_reducible refine (KR2.out _).mono ?_); rintro e w7 ⟨rfl, hb1⟩; replace hH := hH.next hb1; replace hok := hok.trans hb1; clear hb1; clear d0 d1 dl r0 r1 rl s0 s1 sl p0 p1 pl; have d0 := (hH.get (g := gt) (x := x) (y := y) (by simp)).c0; have d1 := (hH.get (g := gt) (x := x) (y := y) (by simp)).c1; have dl := (hH.get (g := gt) (x := x) (y := y) (by simp)).lt; have r0 := (hH.get (g := gx) (x := k1) (y := k2) (by simp)).c0; have r1 := (hH.get (g := gx) (x := k1) (y := k2) (by simp)).c1; have rl := (hH.get (g := gx) (x := k1) (y := k2) (by simp)).lt; have s0 := (hH.get (g := h) (x := a) (y := b) (by simp)).c0; have s1 := (hH.get (g := h) (x := a) (y := b) (by simp)).c1; have sl := (hH.get (g := h) (x := a) (y := b) (by simp)).lt; have p0 := (hH.get (g := g) (x := t) (y := n) (by simp)).c0; have p1 := (hH.get (g := g) (x := t) (y := n) (by simp)).c1; have pl := (hH.get (g := g) (x := t) (y := n) (by simp)).lt)))
      go_ret
      exact ⟨rfl, hok⟩
theorem walk (w : World) (t n : Int) (wt : (Lit.int .i64 t).wf = true) (wn : (Lit.int .i64 n).wf = true) (now : Int) (w0 : (Lit.int .i64 now).wf = true) (a b : Int) (wa : (Lit.int .i64 a).wf = true) (wb : (Lit.int .i64 b).wf = true) (most : Int) (wm : (Lit.int .i64 most).wf = true) :
    Calls Try.prog 5 #[.agg #[.int .i64 t, .int .i64 n], .int .i64 now, .agg #[.int .i64 a, .int .i64 b], .int .i64 most] w fun e w' => e = .returned (.bool true) ∧ Below w.heap.size w w' := by
  show Calls Try.prog 5 #[stV (t, n), .int .i64 now, stV (a, b), .int .i64 most] w fun e w' => e = .returned (.bool true) ∧ Ok w w' 
  by_cases h0 : Hlc.right (t, n) = true
  rotate_left
  · exact no0 w t n now a b most (by simpa using h0)
  by_cases h1 : t = 2305843009213693952
  · exact no1 w t n now a b most h0 h1
  by_cases h2 : 2305843009213693952 ≤ now
  · exact no2 w t n now a b most h0 h1 h2
  replace h2 : now < 2305843009213693952 := by omega
  by_cases h3 : now < -2305843009213693952
  · exact no3 w t n now a b most h0 h1 h2 h3
  replace h3 : -2305843009213693952 ≤ now := by omega
  by_cases h4 : 2305843009213693952 ≤ a
  · exact no4 w t n now a b most h0 h1 h2 h3 h4
  replace h4 : a < 2305843009213693952 := by omega
  exact yes w t n now a b most h0 h1 h2 h3 h4
theorem own : ownKnob Try.prog.godebug = none := by kernel_rfl
theorem laidOut : laidOutB Try.prog = true := by kernel_rfl
set_option maxRecDepth 100000 in
theorem lifted (os : Os) (started : os.Started) (H : Type) (enc : TypeId × Value → H) :
    ReturnsInHanded {} Try.checked os 5 .any (Rows.hlcRisesSpec.pre6 enc Try.prog Try.f5 Rows.hlcRisesRow.domain false) (Rows.hlcRisesSpec.post enc Try.prog Try.f5 false true false false) := by
  refine returnsInHanded_of_change (C := Try.checked) own started (by kernel_rfl) Try.func5
    (ChangeSpec.witness6 (enc := enc) (C := Try.checked) false ⟨#[], #[.agg #[.int .i64 0, .int .i64 0], .int .i64 0, .agg #[.int .i64 0, .int .i64 0], .int .i64 0], []⟩ 8 (by kernel_rfl) (by kernel_rfl) (by kernel_rfl) (by kernel_rfl)) ?_
  intro W base args ds gs before hval0 hW _ _
  have hval : ∀ (j : Nat) t v, Try.f5.params[j]? = some t → args[j]? = some v → Value.okWide Try.prog W .any base t v := hval0
  have hW' := hW
  obtain ⟨p, q, hA, hV, rfl, _, _⟩ := hW
  obtain ⟨rfl, rfl⟩ := trodVars_none hV
  replace hA : DataW.TrodAll enc Try.prog W 0 (fun _ => true) true Try.f5.params.toList args.toList ds p := hA
  rw [Try.params5] at hA hval
  obtain ⟨v0, vs0, d0, ds0, p0, q0, hargs, rfl, rfl, h0, r0⟩ := trodAll_cons hA
  obtain ⟨v1, vs1, d1, ds1, p1, q1, rfl, rfl, rfl, h1, r1⟩ := trodAll_cons r0
  obtain ⟨v2, vs2, d2, ds2, p2, q2, rfl, rfl, rfl, h2, r2⟩ := trodAll_cons r1
  obtain ⟨v3, vs3, d3, ds3, p3, q3, rfl, rfl, rfl, h3, r3⟩ := trodAll_cons r2
  obtain ⟨rfl, rfl, rfl⟩ := trodAll_nil r3
  obtain rfl : args = #[v0, v1, v2, v3] := by cases args; simp_all
  obtain ⟨s0_0, s0_1, rfl, ws0_0, ws0_1⟩ := open_pair Try.underlying23 (by kernel_rfl) (by kernel_rfl) (by kernel_rfl) (by kernel_rfl) (hval 0 23 v0 rfl rfl) h0
  obtain ⟨a1, rfl, rfl, rfl, w1⟩ := open_int Try.underlying3 (hval 1 3 v1 rfl rfl) h1
  obtain ⟨s2_0, s2_1, rfl, ws2_0, ws2_1⟩ := open_pair Try.underlying23 (by kernel_rfl) (by kernel_rfl) (by kernel_rfl) (by kernel_rfl) (hval 2 23 v2 rfl rfl) h2
  obtain ⟨a3, rfl, rfl, rfl, w3⟩ := open_int Try.underlying3 (hval 3 3 v3 rfl rfl) h3
  refine (walk W s0_0 s0_1 ws0_0 ws0_1 a1 w1 s2_0 s2_1 ws2_0 ws2_1 a3 w3).mono fun e W' ⟨he, hb⟩ => ?_
  subst he
  exact ⟨_, rfl, law_post hW' laidOut (by rw [Try.params5]; exact params_ok (by kernel_rfl)) rfl (by kernel_rfl) Try.underlying4 rfl rfl rfl hb⟩
theorem over : Rows.hlcRisesRow.holds Try.pinned (OpenSpec.ofChange Rows.hlcRisesSpec) :=
  OpenClaim.holds_of_wide 5 Try.f5 rfl rfl rfl rfl rfl rfl rfl ⟨rfl, rfl, rfl, rfl, rfl⟩ rfl rfl rfl rfl rfl (by kernel_rfl) Try.func5 (by kernel_rfl)
    (of_decide_eq_true (by kernel_rfl)) (by unfold Func.isWrapper; first | (rw [if_pos (by decide +kernel)]; kernel_rfl) | (rw [if_neg (by decide +kernel)]; exact ⟨rfl, rfl⟩))
    (fun os started H enc _ => lifted os started H enc)
theorem proved : Rows.HlcRisesSaid := over
end Go.Proofs.Ytgfnfjkajahoaaa.hlcRises
