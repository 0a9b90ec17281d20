/- CarryHolds: for all numbers the law answers true: the time stays in what it was in, behind a beat. No condition. -/
import Derived.Test.YteoilfeldehldaaC11c
import Derived.Test.YteoilfeldehldaaW06
namespace Go.Proofs.Yteoilfeldehldaa.carryHolds
open Go.ChangeShapes Go.WideShapes Go.ChangeAt Go.RowKit
set_option linter.unusedVariables false
set_option maxRecDepth 100000
attribute [local go_sem ↓] Go.wp_at_zero Go.wp_at_succ
theorem no0 (w : World) (p : Par) (a b now off : Int) (hm : ¬ Lim.May p) : Calls Try.prog 4 #[parV p, spanV a b, .int .i64 now, .int .i64 off] w fun e w' => e = .returned (.bool true) ∧ Ok w w' := by
  have HP := Lib.hid ((Own.new w (parCells p) 23 rfl).alloc (.cells #[.int .i64 a, .int .i64 b] 25))
  have HS := Lib.hid (Slab.new (w.alloc (.cells (parCells p) 23)) a b 25 (g := w.heap.size + 1) (by simp))
  have HK := Lib.hid (((Ok.refl w).alloc (.cells (parCells p) 23)).alloc (.cells #[.int .i64 a, .int .i64 b] 25))
  have KC := Lib.hid fun w => limCheck p w
  rw [show Lim.check p = 1 from if_neg hm] at KC
  clear hm
  go_enter Try.func4, Try.ntmps4
  go_wp2_with (first | (go_at_call 9; (with_reducible refine (law11Alive _).mono ?_); rintro e w1 ⟨rfl, hb1⟩; have hP := HP.out.next hb1; have hS := HS.out.next hb1; have hok := HK.out.trans hb1; clear hb1 HP HS HK; obtain ⟨c0, c1, c2, c3, c4, c5, c6, c7, c8, c9, c10, c11⟩ := hP.pars; have d0 := hS.c0; have d1 := hS.c1) | (go_at_call 18; (with_reducible refine (KC.out _).mono ?_); rintro e w2 ⟨rfl, hb1⟩; clear c0 c1 c2 c3 c4 c5 c6 c7 c8 c9 c10 c11 d0 d1; replace hP := hP.next hb1; replace hS := hS.next hb1; replace hok := hok.trans hb1; clear hb1; obtain ⟨c0, c1, c2, c3, c4, c5, c6, c7, c8, c9, c10, c11⟩ := hP.pars; have d0 := hS.c0; have d1 := hS.c1; have hPl := hP.lt; have hSl := hS.lt))
  go_ret
  exact ⟨rfl, hok⟩
theorem no1 (w : World) (p : Par) (a b now off : Int) (hm : Lim.May p) (h0 : 1152921504606846976 < now) : Calls Try.prog 4 #[parV p, spanV a b, .int .i64 now, .int .i64 off] w fun e w' => e = .returned (.bool true) ∧ Ok w w' := by
  have HP := Lib.hid ((Own.new w (parCells p) 23 rfl).alloc (.cells #[.int .i64 a, .int .i64 b] 25))
  have HS := Lib.hid (Slab.new (w.alloc (.cells (parCells p) 23)) a b 25 (g := w.heap.size + 1) (by simp))
  have HK := Lib.hid (((Ok.refl w).alloc (.cells (parCells p) 23)).alloc (.cells #[.int .i64 a, .int .i64 b] 25))
  have KC := Lib.hid fun w => limCheck p w
  rw [show Lim.check p = 0 from if_pos hm] at KC
  obtain ⟨b1, r1, d1, j1, -⟩ := Lim.May.bds hm
  clear hm
  go_enter Try.func4, Try.ntmps4
  go_wp2_with (first | (go_at_call 9; (with_reducible refine (law11Alive _).mono ?_); rintro e w1 ⟨rfl, hb1⟩; have hP := HP.out.next hb1; have hS := HS.out.next hb1; have hok := HK.out.trans hb1; clear hb1 HP HS HK; obtain ⟨c0, c1, c2, c3, c4, c5, c6, c7, c8, c9, c10, c11⟩ := hP.pars; have d0 := hS.c0; have d1 := hS.c1) | (go_at_call 18; (with_reducible refine (KC.out _).mono ?_); rintro e w2 ⟨rfl, hb1⟩; clear c0 c1 c2 c3 c4 c5 c6 c7 c8 c9 c10 c11 d0 d1; replace hP := hP.next hb1; replace hS := hS.next hb1; replace hok := hok.trans hb1; clear hb1; obtain ⟨c0, c1, c2, c3, c4, c5, c6, c7, c8, c9, c10, c11⟩ := hP.pars; have d0 := hS.c0; have d1 := hS.c1; have hPl := hP.lt; have hSl := hS.lt))
  go_ret
  exact ⟨rfl, hok⟩
theorem no2 (w : World) (p : Par) (a b now off : Int) (hm : Lim.May p) (h0 : now ≤ 1152921504606846976) (h1 : now < -1152921504606846976) : Calls Try.prog 4 #[parV p, spanV a b, .int .i64 now, .int .i64 off] w fun e w' => e = .returned (.bool true) ∧ Ok w w' := by
  have HP := Lib.hid ((Own.new w (parCells p) 23 rfl).alloc (.cells #[.int .i64 a, .int .i64 b] 25))
  have HS := Lib.hid (Slab.new (w.alloc (.cells (parCells p) 23)) a b 25 (g := w.heap.size + 1) (by simp))
  have HK := Lib.hid (((Ok.refl w).alloc (.cells (parCells p) 23)).alloc (.cells #[.int .i64 a, .int .i64 b] 25))
  have KC := Lib.hid fun w => limCheck p w
  rw [show Lim.check p = 0 from if_pos hm] at KC
  obtain ⟨b1, r1, d1, j1, -⟩ := Lim.May.bds hm
  clear hm
  go_enter Try.func4, Try.ntmps4
  go_wp2_with (first | (go_at_call 9; (with_reducible refine (law11Alive _).mono ?_); rintro e w1 ⟨rfl, hb1⟩; have hP := HP.out.next hb1; have hS := HS.out.next hb1; have hok := HK.out.trans hb1; clear hb1 HP HS HK; obtain ⟨c0, c1, c2, c3, c4, c5, c6, c7, c8, c9, c10, c11⟩ := hP.pars; have d0 := hS.c0; have d1 := hS.c1) | (go_at_call 18; (with_reducible refine (KC.out _).mono ?_); rintro e w2 ⟨rfl, hb1⟩; clear c0 c1 c2 c3 c4 c5 c6 c7 c8 c9 c10 c11 d0 d1; replace hP := hP.next hb1; replace hS := hS.next hb1; replace hok := hok.trans hb1; clear hb1; obtain ⟨c0, c1, c2, c3, c4, c5, c6, c7, c8, c9, c10, c11⟩ := hP.pars; have d0 := hS.c0; have d1 := hS.c1; have hPl := hP.lt; have hSl := hS.lt))
  go_ret
  exact ⟨rfl, hok⟩
theorem no3 (w : World) (p : Par) (a b now off : Int) (hm : Lim.May p) (h0 : now ≤ 1152921504606846976) (h1 : -1152921504606846976 ≤ now) (h2 : now < a) : Calls Try.prog 4 #[parV p, spanV a b, .int .i64 now, .int .i64 off] w fun e w' => e = .returned (.bool true) ∧ Ok w w' := by
  have HP := Lib.hid ((Own.new w (parCells p) 23 rfl).alloc (.cells #[.int .i64 a, .int .i64 b] 25))
  have HS := Lib.hid (Slab.new (w.alloc (.cells (parCells p) 23)) a b 25 (g := w.heap.size + 1) (by simp))
  have HK := Lib.hid (((Ok.refl w).alloc (.cells (parCells p) 23)).alloc (.cells #[.int .i64 a, .int .i64 b] 25))
  have KC := Lib.hid fun w => limCheck p w
  rw [show Lim.check p = 0 from if_pos hm] at KC
  obtain ⟨b1, r1, d1, j1, -⟩ := Lim.May.bds hm
  clear hm
  go_enter Try.func4, Try.ntmps4
  go_wp2_with (first | (go_at_call 9; (with_reducible refine (law11Alive _).mono ?_); rintro e w1 ⟨rfl, hb1⟩; have hP := HP.out.next hb1; have hS := HS.out.next hb1; have hok := HK.out.trans hb1; clear hb1 HP HS HK; obtain ⟨c0, c1, c2, c3, c4, c5, c6, c7, c8, c9, c10, c11⟩ := hP.pars; have d0 := hS.c0; have d1 := hS.c1) | (go_at_call 18; (with_reducible refine (KC.out _).mono ?_); rintro e w2 ⟨rfl, hb1⟩; clear c0 c1 c2 c3 c4 c5 c6 c7 c8 c9 c10 c11 d0 d1; replace hP := hP.next hb1; replace hS := hS.next hb1; replace hok := hok.trans hb1; clear hb1; obtain ⟨c0, c1, c2, c3, c4, c5, c6, c7, c8, c9, c10, c11⟩ := hP.pars; have d0 := hS.c0; have d1 := hS.c1; have hPl := hP.lt; have hSl := hS.lt))
  go_ret
  exact ⟨rfl, hok⟩
theorem no4 (w : World) (p : Par) (a b now off : Int) (hm : Lim.May p) (h0 : now ≤ 1152921504606846976) (h1 : -1152921504606846976 ≤ now) (h2 : a ≤ now) (h3 : b < now) : Calls Try.prog 4 #[parV p, spanV a b, .int .i64 now, .int .i64 off] w fun e w' => e = .returned (.bool true) ∧ Ok w w' := by
  have HP := Lib.hid ((Own.new w (parCells p) 23 rfl).alloc (.cells #[.int .i64 a, .int .i64 b] 25))
  have HS := Lib.hid (Slab.new (w.alloc (.cells (parCells p) 23)) a b 25 (g := w.heap.size + 1) (by simp))
  have HK := Lib.hid (((Ok.refl w).alloc (.cells (parCells p) 23)).alloc (.cells #[.int .i64 a, .int .i64 b] 25))
  have KC := Lib.hid fun w => limCheck p w
  rw [show Lim.check p = 0 from if_pos hm] at KC
  obtain ⟨b1, r1, d1, j1, -⟩ := Lim.May.bds hm
  clear hm
  go_enter Try.func4, Try.ntmps4
  go_wp2_with (first | (go_at_call 9; (with_reducible refine (law11Alive _).mono ?_); rintro e w1 ⟨rfl, hb1⟩; have hP := HP.out.next hb1; have hS := HS.out.next hb1; have hok := HK.out.trans hb1; clear hb1 HP HS HK; obtain ⟨c0, c1, c2, c3, c4, c5, c6, c7, c8, c9, c10, c11⟩ := hP.pars; have d0 := hS.c0; have d1 := hS.c1) | (go_at_call 18; (with_reducible refine (KC.out _).mono ?_); rintro e w2 ⟨rfl, hb1⟩; clear c0 c1 c2 c3 c4 c5 c6 c7 c8 c9 c10 c11 d0 d1; replace hP := hP.next hb1; replace hS := hS.next hb1; replace hok := hok.trans hb1; clear hb1; obtain ⟨c0, c1, c2, c3, c4, c5, c6, c7, c8, c9, c10, c11⟩ := hP.pars; have d0 := hS.c0; have d1 := hS.c1; have hPl := hP.lt; have hSl := hS.lt))
  go_ret
  exact ⟨rfl, hok⟩
theorem no5 (w : World) (p : Par) (a b now off : Int) (hm : Lim.May p) (h0 : now ≤ 1152921504606846976) (h1 : -1152921504606846976 ≤ now) (h2 : a ≤ now) (h3 : now ≤ b) (h4 : p.rho < off) : Calls Try.prog 4 #[parV p, spanV a b, .int .i64 now, .int .i64 off] w fun e w' => e = .returned (.bool true) ∧ Ok w w' := by
  have HP := Lib.hid ((Own.new w (parCells p) 23 rfl).alloc (.cells #[.int .i64 a, .int .i64 b] 25))
  have HS := Lib.hid (Slab.new (w.alloc (.cells (parCells p) 23)) a b 25 (g := w.heap.size + 1) (by simp))
  have HK := Lib.hid (((Ok.refl w).alloc (.cells (parCells p) 23)).alloc (.cells #[.int .i64 a, .int .i64 b] 25))
  have KC := Lib.hid fun w => limCheck p w
  rw [show Lim.check p = 0 from if_pos hm] at KC
  obtain ⟨b1, r1, d1, j1, -⟩ := Lim.May.bds hm
  clear hm
  go_enter Try.func4, Try.ntmps4
  go_wp2_with (first | (go_at_call 9; (with_reducible refine (law11Alive _).mono ?_); rintro e w1 ⟨rfl, hb1⟩; have hP := HP.out.next hb1; have hS := HS.out.next hb1; have hok := HK.out.trans hb1; clear hb1 HP HS HK; obtain ⟨c0, c1, c2, c3, c4, c5, c6, c7, c8, c9, c10, c11⟩ := hP.pars; have d0 := hS.c0; have d1 := hS.c1) | (go_at_call 18; (with_reducible refine (KC.out _).mono ?_); rintro e w2 ⟨rfl, hb1⟩; clear c0 c1 c2 c3 c4 c5 c6 c7 c8 c9 c10 c11 d0 d1; replace hP := hP.next hb1; replace hS := hS.next hb1; replace hok := hok.trans hb1; clear hb1; obtain ⟨c0, c1, c2, c3, c4, c5, c6, c7, c8, c9, c10, c11⟩ := hP.pars; have d0 := hS.c0; have d1 := hS.c1; have hPl := hP.lt; have hSl := hS.lt))
  go_ret
  exact ⟨rfl, hok⟩
theorem no6 (w : World) (p : Par) (a b now off : Int) (hm : Lim.May p) (h0 : now ≤ 1152921504606846976) (h1 : -1152921504606846976 ≤ now) (h2 : a ≤ now) (h3 : now ≤ b) (h4 : off ≤ p.rho) (h5 : off < -p.rho) : Calls Try.prog 4 #[parV p, spanV a b, .int .i64 now, .int .i64 off] w fun e w' => e = .returned (.bool true) ∧ Ok w w' := by
  have HP := Lib.hid ((Own.new w (parCells p) 23 rfl).alloc (.cells #[.int .i64 a, .int .i64 b] 25))
  have HS := Lib.hid (Slab.new (w.alloc (.cells (parCells p) 23)) a b 25 (g := w.heap.size + 1) (by simp))
  have HK := Lib.hid (((Ok.refl w).alloc (.cells (parCells p) 23)).alloc (.cells #[.int .i64 a, .int .i64 b] 25))
  have KC := Lib.hid fun w => limCheck p w
  rw [show Lim.check p = 0 from if_pos hm] at KC
  obtain ⟨b1, r1, d1, j1, -⟩ := Lim.May.bds hm
  clear hm
  go_enter Try.func4, Try.ntmps4
  go_wp2_with (first | (go_at_call 9; (with_reducible refine (law11Alive _).mono ?_); rintro e w1 ⟨rfl, hb1⟩; have hP := HP.out.next hb1; have hS := HS.out.next hb1; have hok := HK.out.trans hb1; clear hb1 HP HS HK; obtain ⟨c0, c1, c2, c3, c4, c5, c6, c7, c8, c9, c10, c11⟩ := hP.pars; have d0 := hS.c0; have d1 := hS.c1) | (go_at_call 18; (with_reducible refine (KC.out _).mono ?_); rintro e w2 ⟨rfl, hb1⟩; clear c0 c1 c2 c3 c4 c5 c6 c7 c8 c9 c10 c11 d0 d1; replace hP := hP.next hb1; replace hS := hS.next hb1; replace hok := hok.trans hb1; clear hb1; obtain ⟨c0, c1, c2, c3, c4, c5, c6, c7, c8, c9, c10, c11⟩ := hP.pars; have d0 := hS.c0; have d1 := hS.c1; have hPl := hP.lt; have hSl := hS.lt))
  go_ret
  exact ⟨rfl, hok⟩
/-- What each operation leaves. -/
def VMH (B g : Nat) (p : Par) (x y now off t1 t2 : Int) (w : World) (v : Value) : Nat → Prop
  | 0 => v = .pointer (some ⟨g, 0, none⟩)
  | 1 => v = .int .i64 x
  | 2 => v = .int .i64 (now + p.beat)
  | 3 => v = .bool true
  | 4 => v = .bool true
  | 5 => v = .int .i64 (now + p.beat)
  | 6 => v = .pointer (some ⟨g, 1, none⟩)
  | 7 => v = .int .i64 y
  | 8 => v = .bool true
  | 9 => v = .bool true
  | 10 => v = .bool true
  | 11 => v = parV p
  | 12 => v = spanV t1 t2
  | 13 => v = .int .i64 t1
  | 14 => v = .pointer (some ⟨B, 3, none⟩)
  | 15 => v = .int .i64 p.beat
  | 16 => v = .int .i64 off
  | 17 => v = .int .i64 (p.beat + off)
  | 18 => v = .bool true
  | 19 => v = .bool true
  | 20 => v = .bool true
  | 21 => v = .pointer (some ⟨B, 3, none⟩)
  | 22 => v = .int .i64 p.beat
  | 23 => v = .int .i64 off
  | 24 => v = .int .i64 (p.beat + off)
  | 25 => v = parV p
  | 26 => v = spanV t1 t2
  | 27 => v = .int .i64 t2
  | 28 => v = .bool true
  | 29 => v = .bool true
  | 30 => v = .bool true
  | _ => v = .bool true
/-- It stays so. -/
def VCH (B g : Nat) (p : Par) (x y now off t1 t2 : Int) (i : Nat) (v : Value) (w : World) : Prop := ∀ w', Ok w w' → VMH B g p x y now off t1 t2 w' v i
set_option maxHeartbeats 3200000 in
theorem yes (w : World) (p : Par) (a b now off : Int) (hm : Lim.May p) (h0 : now ≤ 1152921504606846976) (h1 : -1152921504606846976 ≤ now) (h2 : a ≤ now) (h3 : now ≤ b) (h4 : off ≤ p.rho) (h5 : -p.rho ≤ off) : Calls Try.prog 4 #[parV p, spanV a b, .int .i64 now, .int .i64 off] w fun e w' => e = .returned (.bool true) ∧ Ok w w' := by
  obtain ⟨k1, k2⟩ := Carry.holds hm (s := (a, b)) (now := now) (off := off) ⟨h1, h0⟩ h2 h3 ⟨h5, h4⟩
  have KA := Lib.hid fun w => carryHold p a b (p.beat + off) w
  have KT := Lib.hid fun w => carryTicks p w
  rw [Carry.ticks_in hm] at KT
  simp only at KT
  obtain ⟨x, y, hxy⟩ : ∃ x y, Carry.hold p (a, b) (p.beat + off) = (x, y) := ⟨_, _, rfl⟩
  rw [hxy] at k1 k2 KA
  simp only at k1 k2 KA
  clear hxy
  have HP := Lib.hid ((Own.new w (parCells p) 23 rfl).alloc (.cells #[.int .i64 a, .int .i64 b] 25))
  have HS := Lib.hid (Slab.new (w.alloc (.cells (parCells p) 23)) a b 25 (g := w.heap.size + 1) (by simp))
  have HK := Lib.hid (((Ok.refl w).alloc (.cells (parCells p) 23)).alloc (.cells #[.int .i64 a, .int .i64 b] 25))
  have KC := Lib.hid fun w => limCheck p w
  rw [show Lim.check p = 0 from if_pos hm] at KC
  obtain ⟨b1, r1, d1, j1, -⟩ := Lim.May.bds hm
  clear hm
  obtain ⟨t1, ht1⟩ : ∃ t, p.beat - p.rho = t := ⟨_, rfl⟩
  obtain ⟨t2, ht2⟩ : ∃ t, p.beat + p.rho = t := ⟨_, rfl⟩
  rw [ht1, ht2] at KT
  have f1 := Lib.hid (decide_eq_true (show x ≤ now + p.beat from k1))
  have f2 := Lib.hid (decide_eq_true (show now + p.beat ≤ y from k2))
  have f3 := Lib.hid (decide_eq_true (show t1 ≤ p.beat + off by omega))
  have f4 := Lib.hid (decide_eq_true (show p.beat + off ≤ t2 by omega))
  clear k1 k2 ht1 ht2
  go_enter Try.func4, Try.ntmps4
  go_upto_region 7 with (first | (go_at_call 9; (with_reducible refine (law11Alive _).mono ?_); rintro e w1 ⟨rfl, hb1⟩; have hP := HP.out.next hb1; have hS := HS.out.next hb1; have hok := HK.out.trans hb1; clear hb1 HP HS HK; obtain ⟨c0, c1, c2, c3, c4, c5, c6, c7, c8, c9, c10, c11⟩ := hP.pars; have d0 := hS.c0; have d1 := hS.c1) | (go_at_call 18; (with_reducible refine (KC.out _).mono ?_); rintro e w2 ⟨rfl, hb1⟩; clear c0 c1 c2 c3 c4 c5 c6 c7 c8 c9 c10 c11 d0 d1; replace hP := hP.next hb1; replace hS := hS.next hb1; replace hok := hok.trans hb1; clear hb1; obtain ⟨c0, c1, c2, c3, c4, c5, c6, c7, c8, c9, c10, c11⟩ := hP.pars; have d0 := hS.c0; have d1 := hS.c1; have hPl := hP.lt; have hSl := hS.lt) | (go_at_call 10; (with_reducible refine (KA.out _).mono ?_); rintro e w3 ⟨rfl, hb1⟩; clear c0 c1 c2 c3 c4 c5 c6 c7 c8 c9 c10 c11 d0 d1; clear hPl hSl; replace hP := hP.next hb1; replace hok := hok.trans hb1; clear hb1 hS; obtain ⟨c0, c1, c2, c3, c4, c5, c6, c7, c8, c9, c10, c11⟩ := hP.pars; have hPl := hP.lt))
  clear KC KA c0 c1 c2 c3 c4 c5 c6 c7 c8 c9 c10 c11 hPl
  have hX := Slab.new w3 x y 25 rfl
  replace hP := hP.alloc (.cells #[.int .i64 x, .int .i64 y] 25)
  replace hok := hok.alloc (.cells #[.int .i64 x, .int .i64 y] 25)
  generalize w3.alloc (.cells #[.int .i64 x, .int .i64 y] 25) = W at hP hX hok ⊢
  generalize w3.heap.size = g at hX ⊢
  obtain ⟨B, hBe⟩ : ∃ b, w.heap.size = b := ⟨_, rfl⟩
  rw [hBe] at hP ⊢
  clear hBe
  have HP := Lib.hid fun W' (k : Ok W.drew W') => hP.drew.next k
  have HX := Lib.hid fun W' (k : Ok W.drew W') => hX.drew.next k
  have HOK := Lib.hid hok
  clear hP hX hok
  replace f1 := f1.out
  replace f2 := f2.out
  replace f3 := f3.out
  replace f4 := f4.out
  clear h0 h1 h2 h3
  refine wp_region_facts (by kernel_rfl) 90 rfl (VCH B g p x y now off t1 t2) Ok (by kernel_rfl) (fun i v w w' h k w'' k' => h w'' (k.trans k')) (fun a b c => Ok.trans) (Ok.refl _) [some 60, some 61, some 62, some 63, some 64, some 65, some 66, some 67, some 68, some 69, some 70, some 71, some 72, some 73, some 74, some 75, some 76, some 77, some 78, some 79, some 80, some 81, some 82, some 83, some 84, some 85, some 86, some 87, some 88, some 89, some 8] rfl 31 rfl ⟨?_, ?_, ?_, ?_, ?_, ?_, ?_, ?_, ?_, ?_, ?_, ?_, ?_, ?_, ?_, ?_, ?_, ?_, ?_, ?_, ?_, ?_, ?_, ?_, ?_, ?_, ?_, ?_, ?_, ?_, ?_, trivial⟩ ?_
  · intro a' w' hF hR
    have e9 : a'.tmps[9]? = some (.pointer (some ⟨g, 0, none⟩)) := hF.slot 9 (by kernel_rfl) rfl
    refine wpOp_run (v := .pointer (some ⟨g, 0, none⟩)) rfl rfl ?_ (fun _ _ => rfl) (Ok.refl _)
    clear hF
    go_simp
  · intro a' w' hF hR
    obtain ⟨v0, hv0, e60⟩ := hF.get 0 60 (by kernel_rfl) (by kernel_rfl)
    obtain rfl : v0 = _ := hv0 _ (Ok.refl _)
    have e0 := (HX.out _ hR).c0
    have e1 := (HX.out _ hR).c1
    refine wpOp_run (v := .int .i64 x) rfl rfl ?_ (fun _ _ => rfl) (Ok.refl _)
    clear hF
    go_simp
  · intro a' w' hF hR
    have e10 : a'.tmps[10]? = some (.int .i64 (now + p.beat)) := hF.slot 10 (by kernel_rfl) rfl
    refine wpOp_run (v := .int .i64 (now + p.beat)) rfl rfl ?_ (fun _ _ => rfl) (Ok.refl _)
    clear hF
    go_simp
  · intro a' w' hF hR
    obtain ⟨v1, hv1, e61⟩ := hF.get 1 61 (by kernel_rfl) (by kernel_rfl)
    obtain rfl : v1 = _ := hv1 _ (Ok.refl _)
    obtain ⟨v2, hv2, e62⟩ := hF.get 2 62 (by kernel_rfl) (by kernel_rfl)
    obtain rfl : v2 = _ := hv2 _ (Ok.refl _)
    refine wpOp_run (v := .bool true) rfl rfl ?_ (fun _ _ => rfl) (Ok.refl _)
    clear hF
    go_simp
  · intro a' w' hF hR
    obtain ⟨v3, hv3, e63⟩ := hF.get 3 63 (by kernel_rfl) (by kernel_rfl)
    obtain rfl : v3 = _ := hv3 _ (Ok.refl _)
    refine wpOp_run (v := .bool true) rfl rfl ?_ (fun _ _ => rfl) (Ok.refl _)
    clear hF
    go_simp
  · intro a' w' hF hR
    have e10 : a'.tmps[10]? = some (.int .i64 (now + p.beat)) := hF.slot 10 (by kernel_rfl) rfl
    obtain ⟨vg, hvg, eg⟩ := hF.get 4 64 (by kernel_rfl) (by kernel_rfl)
    obtain rfl : vg = _ := hvg _ (Ok.refl _)
    refine wpOp_runG (v := .int .i64 (now + p.beat)) rfl (wanted_yes rfl (by kernel_rfl) eg) ?_ (fun _ _ => rfl) (Ok.refl _)
    clear hF
    go_simp
  · intro a' w' hF hR
    have e9 : a'.tmps[9]? = some (.pointer (some ⟨g, 0, none⟩)) := hF.slot 9 (by kernel_rfl) rfl
    obtain ⟨vg, hvg, eg⟩ := hF.get 4 64 (by kernel_rfl) (by kernel_rfl)
    obtain rfl : vg = _ := hvg _ (Ok.refl _)
    refine wpOp_runG (v := .pointer (some ⟨g, 1, none⟩)) rfl (wanted_yes rfl (by kernel_rfl) eg) ?_ (fun _ _ => rfl) (Ok.refl _)
    clear hF
    go_simp
  · intro a' w' hF hR
    obtain ⟨v6, hv6, e66⟩ := hF.get 6 66 (by kernel_rfl) (by kernel_rfl)
    obtain rfl : v6 = _ := hv6 _ (Ok.refl _)
    obtain ⟨vg, hvg, eg⟩ := hF.get 4 64 (by kernel_rfl) (by kernel_rfl)
    obtain rfl : vg = _ := hvg _ (Ok.refl _)
    have e0 := (HX.out _ hR).c0
    have e1 := (HX.out _ hR).c1
    refine wpOp_runG (v := .int .i64 y) rfl (wanted_yes rfl (by kernel_rfl) eg) ?_ (fun _ _ => rfl) (Ok.refl _)
    clear hF
    go_simp
  · intro a' w' hF hR
    obtain ⟨v5, hv5, e65⟩ := hF.get 5 65 (by kernel_rfl) (by kernel_rfl)
    obtain rfl : v5 = _ := hv5 _ (Ok.refl _)
    obtain ⟨v7, hv7, e67⟩ := hF.get 7 67 (by kernel_rfl) (by kernel_rfl)
    obtain rfl : v7 = _ := hv7 _ (Ok.refl _)
    obtain ⟨vg, hvg, eg⟩ := hF.get 4 64 (by kernel_rfl) (by kernel_rfl)
    obtain rfl : vg = _ := hvg _ (Ok.refl _)
    refine wpOp_runG (v := .bool true) rfl (wanted_yes rfl (by kernel_rfl) eg) ?_ (fun _ _ => rfl) (Ok.refl _)
    clear hF
    go_simp
  · intro a' w' hF hR
    obtain ⟨v4, hv4, e64⟩ := hF.get 4 64 (by kernel_rfl) (by kernel_rfl)
    obtain rfl : v4 = _ := hv4 _ (Ok.refl _)
    obtain ⟨v8, hv8, e68⟩ := hF.get 8 68 (by kernel_rfl) (by kernel_rfl)
    obtain rfl : v8 = _ := hv8 _ (Ok.refl _)
    refine wpOp_run (v := .bool true) rfl rfl ?_ (fun _ _ => rfl) (Ok.refl _)
    clear hF
    go_simp
  · intro a' w' hF hR
    obtain ⟨v9, hv9, e69⟩ := hF.get 9 69 (by kernel_rfl) (by kernel_rfl)
    obtain rfl : v9 = _ := hv9 _ (Ok.refl _)
    refine wpOp_run (v := .bool true) rfl rfl ?_ (fun _ _ => rfl) (Ok.refl _)
    clear hF
    go_simp
  · intro a' w' hF hR
    have e4 : a'.tmps[4]? = some (.pointer (some ⟨B, 0, none⟩)) := hF.slot 4 (by kernel_rfl) rfl
    obtain ⟨vg, hvg, eg⟩ := hF.get 10 70 (by kernel_rfl) (by kernel_rfl)
    obtain rfl : vg = _ := hvg _ (Ok.refl _)
    obtain ⟨c0, c1, c2, c3, c4, c5, c6, c7, c8, c9, c10, c11⟩ := (HP.out _ hR).pars
    refine wpOp_runG (v := parV p) rfl (wanted_yes rfl (by kernel_rfl) eg) ?_ (fun _ _ => rfl) (Ok.refl _)
    clear hF
    go_simp
  · intro a' w' hF hR
    obtain ⟨v11, hv11, e71⟩ := hF.get 11 71 (by kernel_rfl) (by kernel_rfl)
    obtain rfl : v11 = _ := hv11 _ (Ok.refl _)
    obtain ⟨vg, hvg, eg⟩ := hF.get 10 70 (by kernel_rfl) (by kernel_rfl)
    obtain rfl : vg = _ := hvg _ (Ok.refl _)
    refine wpOp_callG (f := 14) (args := #[parV p]) rfl (wanted_yes rfl (by kernel_rfl) eg) ?_ ((KT.out _).mono ?_)
    · go_simp
    · rintro e w2 ⟨rfl, hb2⟩; exact ⟨_, rfl, fun _ _ => rfl, hb2⟩
  · intro a' w' hF hR
    obtain ⟨v12, hv12, e72⟩ := hF.get 12 72 (by kernel_rfl) (by kernel_rfl)
    obtain rfl : v12 = _ := hv12 _ (Ok.refl _)
    obtain ⟨vg, hvg, eg⟩ := hF.get 10 70 (by kernel_rfl) (by kernel_rfl)
    obtain rfl : vg = _ := hvg _ (Ok.refl _)
    have fl : Sem.run Try.prog (Instr.field 25 (spanV t1 t2) 0) w' = .ok (.int .i64 t1) w' := by kernel_rfl
    refine wpOp_runG (v := .int .i64 t1) rfl (wanted_yes rfl (by kernel_rfl) eg) ?_ (fun _ _ => rfl) (Ok.refl _)
    clear hF
    go_simp
  · intro a' w' hF hR
    have e4 : a'.tmps[4]? = some (.pointer (some ⟨B, 0, none⟩)) := hF.slot 4 (by kernel_rfl) rfl
    obtain ⟨vg, hvg, eg⟩ := hF.get 10 70 (by kernel_rfl) (by kernel_rfl)
    obtain rfl : vg = _ := hvg _ (Ok.refl _)
    refine wpOp_runG (v := .pointer (some ⟨B, 3, none⟩)) rfl (wanted_yes rfl (by kernel_rfl) eg) ?_ (fun _ _ => rfl) (Ok.refl _)
    clear hF
    go_simp
  · intro a' w' hF hR
    obtain ⟨v14, hv14, e74⟩ := hF.get 14 74 (by kernel_rfl) (by kernel_rfl)
    obtain rfl : v14 = _ := hv14 _ (Ok.refl _)
    obtain ⟨vg, hvg, eg⟩ := hF.get 10 70 (by kernel_rfl) (by kernel_rfl)
    obtain rfl : vg = _ := hvg _ (Ok.refl _)
    obtain ⟨c0, c1, c2, c3, c4, c5, c6, c7, c8, c9, c10, c11⟩ := (HP.out _ hR).pars
    refine wpOp_runG (v := .int .i64 p.beat) rfl (wanted_yes rfl (by kernel_rfl) eg) ?_ (fun _ _ => rfl) (Ok.refl _)
    clear hF
    go_simp
  · intro a' w' hF hR
    have e3 : a'.tmps[3]? = some (.int .i64 off) := hF.slot 3 (by kernel_rfl) rfl
    obtain ⟨vg, hvg, eg⟩ := hF.get 10 70 (by kernel_rfl) (by kernel_rfl)
    obtain rfl : vg = _ := hvg _ (Ok.refl _)
    refine wpOp_runG (v := .int .i64 off) rfl (wanted_yes rfl (by kernel_rfl) eg) ?_ (fun _ _ => rfl) (Ok.refl _)
    clear hF
    go_simp
  · intro a' w' hF hR
    obtain ⟨v15, hv15, e75⟩ := hF.get 15 75 (by kernel_rfl) (by kernel_rfl)
    obtain rfl : v15 = _ := hv15 _ (Ok.refl _)
    obtain ⟨v16, hv16, e76⟩ := hF.get 16 76 (by kernel_rfl) (by kernel_rfl)
    obtain rfl : v16 = _ := hv16 _ (Ok.refl _)
    obtain ⟨vg, hvg, eg⟩ := hF.get 10 70 (by kernel_rfl) (by kernel_rfl)
    obtain rfl : vg = _ := hvg _ (Ok.refl _)
    refine wpOp_runG (v := .int .i64 (p.beat + off)) rfl (wanted_yes rfl (by kernel_rfl) eg) ?_ (fun _ _ => rfl) (Ok.refl _)
    clear hF
    go_simp; exact IntWalk.i64_in _ ⟨by omega, by omega⟩
  · intro a' w' hF hR
    obtain ⟨v13, hv13, e73⟩ := hF.get 13 73 (by kernel_rfl) (by kernel_rfl)
    obtain rfl : v13 = _ := hv13 _ (Ok.refl _)
    obtain ⟨v17, hv17, e77⟩ := hF.get 17 77 (by kernel_rfl) (by kernel_rfl)
    obtain rfl : v17 = _ := hv17 _ (Ok.refl _)
    obtain ⟨vg, hvg, eg⟩ := hF.get 10 70 (by kernel_rfl) (by kernel_rfl)
    obtain rfl : vg = _ := hvg _ (Ok.refl _)
    refine wpOp_runG (v := .bool true) rfl (wanted_yes rfl (by kernel_rfl) eg) ?_ (fun _ _ => rfl) (Ok.refl _)
    clear hF
    go_simp
  · intro a' w' hF hR
    obtain ⟨v10, hv10, e70⟩ := hF.get 10 70 (by kernel_rfl) (by kernel_rfl)
    obtain rfl : v10 = _ := hv10 _ (Ok.refl _)
    obtain ⟨v18, hv18, e78⟩ := hF.get 18 78 (by kernel_rfl) (by kernel_rfl)
    obtain rfl : v18 = _ := hv18 _ (Ok.refl _)
    refine wpOp_run (v := .bool true) rfl rfl ?_ (fun _ _ => rfl) (Ok.refl _)
    clear hF
    go_simp
  · intro a' w' hF hR
    obtain ⟨v19, hv19, e79⟩ := hF.get 19 79 (by kernel_rfl) (by kernel_rfl)
    obtain rfl : v19 = _ := hv19 _ (Ok.refl _)
    refine wpOp_run (v := .bool true) rfl rfl ?_ (fun _ _ => rfl) (Ok.refl _)
    clear hF
    go_simp
  · intro a' w' hF hR
    have e4 : a'.tmps[4]? = some (.pointer (some ⟨B, 0, none⟩)) := hF.slot 4 (by kernel_rfl) rfl
    obtain ⟨vg, hvg, eg⟩ := hF.get 20 80 (by kernel_rfl) (by kernel_rfl)
    obtain rfl : vg = _ := hvg _ (Ok.refl _)
    refine wpOp_runG (v := .pointer (some ⟨B, 3, none⟩)) rfl (wanted_yes rfl (by kernel_rfl) eg) ?_ (fun _ _ => rfl) (Ok.refl _)
    clear hF
    go_simp
  · intro a' w' hF hR
    obtain ⟨v21, hv21, e81⟩ := hF.get 21 81 (by kernel_rfl) (by kernel_rfl)
    obtain rfl : v21 = _ := hv21 _ (Ok.refl _)
    obtain ⟨vg, hvg, eg⟩ := hF.get 20 80 (by kernel_rfl) (by kernel_rfl)
    obtain rfl : vg = _ := hvg _ (Ok.refl _)
    obtain ⟨c0, c1, c2, c3, c4, c5, c6, c7, c8, c9, c10, c11⟩ := (HP.out _ hR).pars
    refine wpOp_runG (v := .int .i64 p.beat) rfl (wanted_yes rfl (by kernel_rfl) eg) ?_ (fun _ _ => rfl) (Ok.refl _)
    clear hF
    go_simp
  · intro a' w' hF hR
    have e3 : a'.tmps[3]? = some (.int .i64 off) := hF.slot 3 (by kernel_rfl) rfl
    obtain ⟨vg, hvg, eg⟩ := hF.get 20 80 (by kernel_rfl) (by kernel_rfl)
    obtain rfl : vg = _ := hvg _ (Ok.refl _)
    refine wpOp_runG (v := .int .i64 off) rfl (wanted_yes rfl (by kernel_rfl) eg) ?_ (fun _ _ => rfl) (Ok.refl _)
    clear hF
    go_simp
  · intro a' w' hF hR
    obtain ⟨v22, hv22, e82⟩ := hF.get 22 82 (by kernel_rfl) (by kernel_rfl)
    obtain rfl : v22 = _ := hv22 _ (Ok.refl _)
    obtain ⟨v23, hv23, e83⟩ := hF.get 23 83 (by kernel_rfl) (by kernel_rfl)
    obtain rfl : v23 = _ := hv23 _ (Ok.refl _)
    obtain ⟨vg, hvg, eg⟩ := hF.get 20 80 (by kernel_rfl) (by kernel_rfl)
    obtain rfl : vg = _ := hvg _ (Ok.refl _)
    refine wpOp_runG (v := .int .i64 (p.beat + off)) rfl (wanted_yes rfl (by kernel_rfl) eg) ?_ (fun _ _ => rfl) (Ok.refl _)
    clear hF
    go_simp; exact IntWalk.i64_in _ ⟨by omega, by omega⟩
  · intro a' w' hF hR
    have e4 : a'.tmps[4]? = some (.pointer (some ⟨B, 0, none⟩)) := hF.slot 4 (by kernel_rfl) rfl
    obtain ⟨vg, hvg, eg⟩ := hF.get 20 80 (by kernel_rfl) (by kernel_rfl)
    obtain rfl : vg = _ := hvg _ (Ok.refl _)
    obtain ⟨c0, c1, c2, c3, c4, c5, c6, c7, c8, c9, c10, c11⟩ := (HP.out _ hR).pars
    refine wpOp_runG (v := parV p) rfl (wanted_yes rfl (by kernel_rfl) eg) ?_ (fun _ _ => rfl) (Ok.refl _)
    clear hF
    go_simp
  · intro a' w' hF hR
    obtain ⟨v25, hv25, e85⟩ := hF.get 25 85 (by kernel_rfl) (by kernel_rfl)
    obtain rfl : v25 = _ := hv25 _ (Ok.refl _)
    obtain ⟨vg, hvg, eg⟩ := hF.get 20 80 (by kernel_rfl) (by kernel_rfl)
    obtain rfl : vg = _ := hvg _ (Ok.refl _)
    refine wpOp_callG (f := 14) (args := #[parV p]) rfl (wanted_yes rfl (by kernel_rfl) eg) ?_ ((KT.out _).mono ?_)
    · go_simp
    · rintro e w2 ⟨rfl, hb2⟩; exact ⟨_, rfl, fun _ _ => rfl, hb2⟩
  · intro a' w' hF hR
    obtain ⟨v26, hv26, e86⟩ := hF.get 26 86 (by kernel_rfl) (by kernel_rfl)
    obtain rfl : v26 = _ := hv26 _ (Ok.refl _)
    obtain ⟨vg, hvg, eg⟩ := hF.get 20 80 (by kernel_rfl) (by kernel_rfl)
    obtain rfl : vg = _ := hvg _ (Ok.refl _)
    have fl : Sem.run Try.prog (Instr.field 25 (spanV t1 t2) 1) w' = .ok (.int .i64 t2) w' := by kernel_rfl
    refine wpOp_runG (v := .int .i64 t2) rfl (wanted_yes rfl (by kernel_rfl) eg) ?_ (fun _ _ => rfl) (Ok.refl _)
    clear hF
    go_simp
  · intro a' w' hF hR
    obtain ⟨v24, hv24, e84⟩ := hF.get 24 84 (by kernel_rfl) (by kernel_rfl)
    obtain rfl : v24 = _ := hv24 _ (Ok.refl _)
    obtain ⟨v27, hv27, e87⟩ := hF.get 27 87 (by kernel_rfl) (by kernel_rfl)
    obtain rfl : v27 = _ := hv27 _ (Ok.refl _)
    obtain ⟨vg, hvg, eg⟩ := hF.get 20 80 (by kernel_rfl) (by kernel_rfl)
    obtain rfl : vg = _ := hvg _ (Ok.refl _)
    refine wpOp_runG (v := .bool true) rfl (wanted_yes rfl (by kernel_rfl) eg) ?_ (fun _ _ => rfl) (Ok.refl _)
    clear hF
    go_simp
  · intro a' w' hF hR
    obtain ⟨v20, hv20, e80⟩ := hF.get 20 80 (by kernel_rfl) (by kernel_rfl)
    obtain rfl : v20 = _ := hv20 _ (Ok.refl _)
    obtain ⟨v28, hv28, e88⟩ := hF.get 28 88 (by kernel_rfl) (by kernel_rfl)
    obtain rfl : v28 = _ := hv28 _ (Ok.refl _)
    refine wpOp_run (v := .bool true) rfl rfl ?_ (fun _ _ => rfl) (Ok.refl _)
    clear hF
    go_simp
  · intro a' w' hF hR
    obtain ⟨v29, hv29, e89⟩ := hF.get 29 89 (by kernel_rfl) (by kernel_rfl)
    obtain rfl : v29 = _ := hv29 _ (Ok.refl _)
    refine wpOp_run (v := .bool true) rfl rfl ?_ (fun _ _ => rfl) (Ok.refl _)
    clear hF
    go_simp
  intro vs w' hV hR
  have e30 : vs 30 = .bool true := hV 30 (by decide) _ (Ok.refl _)
  have hok2 := HOK.out.trans ((Ok.refl W).drew.trans hR)
  clear hV HP HX KT f1 f2 f3 f4
  simp only [putFrom, e30]
  simp only [Act.put, List.setIfInBounds_toArray, List.set_cons_zero, List.set_cons_succ]
  go_wp2
  go_ret
  exact ⟨rfl, hok2⟩
theorem walk (w : World) (p : Par) (_wp : ParWf p) (a b : Int) (_wa : (Lit.int .i64 a).wf = true) (_wb : (Lit.int .i64 b).wf = true) (now : Int) (_w0 : (Lit.int .i64 now).wf = true) (off : Int) (_w1 : (Lit.int .i64 off).wf = true) :
    Calls Try.prog 4 #[parV p, spanV a b, .int .i64 now, .int .i64 off] w fun e w' => e = .returned (.bool true) ∧ Below w.heap.size w w' := by
  show Calls Try.prog 4 #[parV p, spanV a b, .int .i64 now, .int .i64 off] w fun e w' => e = .returned (.bool true) ∧ Ok w w' 
  by_cases hm : Lim.May p
  rotate_left
  · exact no0 w p a b now off hm
  by_cases h0 : 1152921504606846976 < now
  · exact no1 w p a b now off hm h0
  replace h0 : now ≤ 1152921504606846976 := by omega
  by_cases h1 : now < -1152921504606846976
  · exact no2 w p a b now off hm h0 h1
  replace h1 : -1152921504606846976 ≤ now := by omega
  by_cases h2 : now < a
  · exact no3 w p a b now off hm h0 h1 h2
  replace h2 : a ≤ now := by omega
  by_cases h3 : b < now
  · exact no4 w p a b now off hm h0 h1 h2 h3
  replace h3 : now ≤ b := by omega
  by_cases h4 : p.rho < off
  · exact no5 w p a b now off hm h0 h1 h2 h3 h4
  replace h4 : off ≤ p.rho := by omega
  by_cases h5 : off < -p.rho
  · exact no6 w p a b now off hm h0 h1 h2 h3 h4 h5
  replace h5 : -p.rho ≤ off := by omega
  exact yes w p a b now off hm h0 h1 h2 h3 h4 h5
theorem own : ownKnob Try.prog.godebug = none := by kernel_rfl
theorem laidOut : laidOutB Try.prog = true := by kernel_rfl
set_option maxRecDepth 100000 in
theorem lifted (os : Os) (started : os.Started) (H : Type) (enc : TypeId × Value → H) :
    ReturnsInHanded {} Try.checked os 4 .any (Rows.carryHoldsSpec.pre6 enc Try.prog Try.f4 Rows.carryHoldsRow.domain false) (Rows.carryHoldsSpec.post enc Try.prog Try.f4 false true false false) := by
  refine returnsInHanded_of_change (C := Try.checked) own started (by kernel_rfl) Try.func4
    (ChangeSpec.witness6 (enc := enc) (C := Try.checked) false ⟨#[], #[.agg #[.int .i64 0, .int .i64 0, .int .i64 0, .int .i64 0, .int .i64 0, .int .i64 0, .int .i64 0, .int .i64 0, .int .i64 0, .int .i64 0, .int .i64 0, .int .i64 0], .agg #[.int .i64 0, .int .i64 0], .int .i64 0, .int .i64 0], []⟩ 8 (by kernel_rfl) (by kernel_rfl) (by kernel_rfl) (by kernel_rfl)) ?_
  intro W base args ds gs before hval0 hW _ _
  have hval : ∀ (j : Nat) t v, Try.f4.params[j]? = some t → args[j]? = some v → Value.okWide Try.prog W .any base t v := hval0
  have hW' := hW
  obtain ⟨p, q, hA, hV, rfl, _, _⟩ := hW
  obtain ⟨rfl, rfl⟩ := trodVars_none hV
  replace hA : DataW.TrodAll enc Try.prog W 0 (fun _ => true) true Try.f4.params.toList args.toList ds p := hA
  rw [Try.params4] at hA hval
  obtain ⟨v0, vs0, d0, ds0, p0, q0, hargs, rfl, rfl, h0, r0⟩ := trodAll_cons hA
  obtain ⟨v1, vs1, d1, ds1, p1, q1, rfl, rfl, rfl, h1, r1⟩ := trodAll_cons r0
  obtain ⟨v2, vs2, d2, ds2, p2, q2, rfl, rfl, rfl, h2, r2⟩ := trodAll_cons r1
  obtain ⟨v3, vs3, d3, ds3, p3, q3, rfl, rfl, rfl, h3, r3⟩ := trodAll_cons r2
  obtain ⟨rfl, rfl, rfl⟩ := trodAll_nil r3
  obtain rfl : args = #[v0, v1, v2, v3] := by cases args; simp_all
  obtain ⟨p0, rfl, wp0⟩ := open_par Try.underlying23 rfl (by kernel_rfl) (by kernel_rfl) (by kernel_rfl) (hval 0 23 v0 rfl rfl) h0
  obtain ⟨s1_0, s1_1, rfl, ws1_0, ws1_1⟩ := open_pair Try.underlying25 (by kernel_rfl) (by kernel_rfl) (by kernel_rfl) (by kernel_rfl) (hval 1 25 v1 rfl rfl) h1
  obtain ⟨a2, rfl, rfl, rfl, w2⟩ := open_int Try.underlying3 (hval 2 3 v2 rfl rfl) h2
  obtain ⟨a3, rfl, rfl, rfl, w3⟩ := open_int Try.underlying3 (hval 3 3 v3 rfl rfl) h3
  refine (walk W p0 wp0 s1_0 s1_1 ws1_0 ws1_1 a2 w2 a3 w3).mono fun e W' ⟨he, hb⟩ => ?_
  subst he
  exact ⟨_, rfl, law_post hW' laidOut (by rw [Try.params4]; exact params_ok (by kernel_rfl)) rfl (by kernel_rfl) Try.underlying4 rfl rfl rfl hb⟩
theorem over : Rows.carryHoldsRow.holds Try.pinned (OpenSpec.ofChange Rows.carryHoldsSpec) :=
  OpenClaim.holds_of_wide 4 Try.f4 rfl rfl rfl rfl rfl rfl rfl ⟨rfl, rfl, rfl, rfl, rfl⟩ rfl rfl rfl rfl rfl (by kernel_rfl) Try.func4 (by kernel_rfl)
    (of_decide_eq_true (by kernel_rfl)) (by unfold Func.isWrapper; first | (rw [if_pos (by decide +kernel)]; kernel_rfl) | (rw [if_neg (by decide +kernel)]; exact ⟨rfl, rfl⟩))
    (fun os started H enc _ => lifted os started H enc)
theorem proved : Rows.CarryHoldsSaid := over
end Go.Proofs.Yteoilfeldehldaa.carryHolds
