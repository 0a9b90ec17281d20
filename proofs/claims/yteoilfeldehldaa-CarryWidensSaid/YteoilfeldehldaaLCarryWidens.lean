/- CarryWidens: for all numbers the law answers true: behind a beat a span is wider by two drifts, behind a way by a hop. No condition. -/
import Derived.Test.YteoilfeldehldaaC11c
import Derived.Test.YteoilfeldehldaaW06
import Derived.Test.YteoilfeldehldaaC04d
import Derived.Test.YteoilfeldehldaaW31
namespace Go.Proofs.Yteoilfeldehldaa.carryWidens
open Go.ChangeShapes Go.WideShapes Go.ChangeAt Go.RowKit
set_option linter.unusedVariables false
set_option maxRecDepth 100000
attribute [local go_sem ↓] Go.wp_at_zero Go.wp_at_succ
theorem no0 (w : World) (p : Par) (a b m : Int) (hm : ¬ Lim.May p) : Calls Try.prog 7 #[parV p, spanV a b, .int .i64 m] w fun e w' => e = .returned (.bool true) ∧ Ok w w' := by
  have HP := Lib.hid ((Own.new w (parCells p) 23 rfl).alloc (.cells #[.int .i64 a, .int .i64 b] 25))
  have HS := Lib.hid (Slab.new (w.alloc (.cells (parCells p) 23)) a b 25 (g := w.heap.size + 1) (by simp))
  have HK := Lib.hid (((Ok.refl w).alloc (.cells (parCells p) 23)).alloc (.cells #[.int .i64 a, .int .i64 b] 25))
  have KC := Lib.hid fun w => limCheck p w
  rw [show Lim.check p = 1 from if_neg hm] at KC
  clear hm
  go_enter Try.func7, Try.ntmps7
  go_wp2_with (first | (go_at_call 9; (with_reducible refine (law11Alive _).mono ?_); rintro e w1 ⟨rfl, hb1⟩; have hP := HP.out.next hb1; have hS := HS.out.next hb1; have hok := HK.out.trans hb1; clear hb1 HP HS HK; obtain ⟨c0, c1, c2, c3, c4, c5, c6, c7, c8, c9, c10, c11⟩ := hP.pars; have d0 := hS.c0; have d1 := hS.c1) | (go_at_call 18; (with_reducible refine (KC.out _).mono ?_); rintro e w2 ⟨rfl, hb1⟩; clear c0 c1 c2 c3 c4 c5 c6 c7 c8 c9 c10 c11 d0 d1; replace hP := hP.next hb1; replace hS := hS.next hb1; replace hok := hok.trans hb1; clear hb1; obtain ⟨c0, c1, c2, c3, c4, c5, c6, c7, c8, c9, c10, c11⟩ := hP.pars; have d0 := hS.c0; have d1 := hS.c1; have hPl := hP.lt; have hSl := hS.lt))
  go_ret
  exact ⟨rfl, hok⟩
theorem far00 (w : World) (p : Par) (a b m : Int) (hm : Lim.May p) (g0 : 576460752303423488 < a) : Calls Try.prog 7 #[parV p, spanV a b, .int .i64 m] w fun e w' => e = .returned (.bool true) ∧ Ok w w' := by
  have HP := Lib.hid ((Own.new w (parCells p) 23 rfl).alloc (.cells #[.int .i64 a, .int .i64 b] 25))
  have HS := Lib.hid (Slab.new (w.alloc (.cells (parCells p) 23)) a b 25 (g := w.heap.size + 1) (by simp))
  have HK := Lib.hid (((Ok.refl w).alloc (.cells (parCells p) 23)).alloc (.cells #[.int .i64 a, .int .i64 b] 25))
  have KC := Lib.hid fun w => limCheck p w
  rw [show Lim.check p = 0 from if_pos hm] at KC
  obtain ⟨b1, r1, d1, j1, -⟩ := Lim.May.bds hm
  clear hm
  have n0 : ∀ (w : World), (Instr.index 34 (.agg #[.int .i64 a, .int .i64 b, .int .i64 m]) (.int .i64 0)).run Try.prog w = .ok (.int .i64 a) w := fun _ => by kernel_rfl
  have n1 : ∀ (w : World), (Instr.index 34 (.agg #[.int .i64 a, .int .i64 b, .int .i64 m]) (.int .i64 1)).run Try.prog w = .ok (.int .i64 b) w := fun _ => by kernel_rfl
  have n2 : ∀ (w : World), (Instr.index 34 (.agg #[.int .i64 a, .int .i64 b, .int .i64 m]) (.int .i64 2)).run Try.prog w = .ok (.int .i64 m) w := fun _ => by kernel_rfl
  go_enter Try.func7, Try.ntmps7
  go_wp2_with (first | (go_at_call 9; (with_reducible refine (law11Alive _).mono ?_); rintro e w1 ⟨rfl, hb1⟩; have hP := HP.out.next hb1; have hS := HS.out.next hb1; have hok := HK.out.trans hb1; clear hb1 HP HS HK; obtain ⟨c0, c1, c2, c3, c4, c5, c6, c7, c8, c9, c10, c11⟩ := hP.pars; have d0 := hS.c0; have d1 := hS.c1) | (go_at_call 18; (with_reducible refine (KC.out _).mono ?_); rintro e w2 ⟨rfl, hb1⟩; clear c0 c1 c2 c3 c4 c5 c6 c7 c8 c9 c10 c11 d0 d1; replace hP := hP.next hb1; replace hS := hS.next hb1; replace hok := hok.trans hb1; clear hb1; obtain ⟨c0, c1, c2, c3, c4, c5, c6, c7, c8, c9, c10, c11⟩ := hP.pars; have d0 := hS.c0; have d1 := hS.c1; have hPl := hP.lt; have hSl := hS.lt))
  refine wp_loop_rounds 4 ?_
  repeat' (rw [rounds_succ]; go_wp2_with fail)
  go_ret
  exact ⟨rfl, hok⟩
theorem far01 (w : World) (p : Par) (a b m : Int) (hm : Lim.May p) (g0 : a < -576460752303423488) : Calls Try.prog 7 #[parV p, spanV a b, .int .i64 m] w fun e w' => e = .returned (.bool true) ∧ Ok w w' := by
  have HP := Lib.hid ((Own.new w (parCells p) 23 rfl).alloc (.cells #[.int .i64 a, .int .i64 b] 25))
  have HS := Lib.hid (Slab.new (w.alloc (.cells (parCells p) 23)) a b 25 (g := w.heap.size + 1) (by simp))
  have HK := Lib.hid (((Ok.refl w).alloc (.cells (parCells p) 23)).alloc (.cells #[.int .i64 a, .int .i64 b] 25))
  have KC := Lib.hid fun w => limCheck p w
  rw [show Lim.check p = 0 from if_pos hm] at KC
  obtain ⟨b1, r1, d1, j1, -⟩ := Lim.May.bds hm
  clear hm
  have n0 : ∀ (w : World), (Instr.index 34 (.agg #[.int .i64 a, .int .i64 b, .int .i64 m]) (.int .i64 0)).run Try.prog w = .ok (.int .i64 a) w := fun _ => by kernel_rfl
  have n1 : ∀ (w : World), (Instr.index 34 (.agg #[.int .i64 a, .int .i64 b, .int .i64 m]) (.int .i64 1)).run Try.prog w = .ok (.int .i64 b) w := fun _ => by kernel_rfl
  have n2 : ∀ (w : World), (Instr.index 34 (.agg #[.int .i64 a, .int .i64 b, .int .i64 m]) (.int .i64 2)).run Try.prog w = .ok (.int .i64 m) w := fun _ => by kernel_rfl
  go_enter Try.func7, Try.ntmps7
  go_wp2_with (first | (go_at_call 9; (with_reducible refine (law11Alive _).mono ?_); rintro e w1 ⟨rfl, hb1⟩; have hP := HP.out.next hb1; have hS := HS.out.next hb1; have hok := HK.out.trans hb1; clear hb1 HP HS HK; obtain ⟨c0, c1, c2, c3, c4, c5, c6, c7, c8, c9, c10, c11⟩ := hP.pars; have d0 := hS.c0; have d1 := hS.c1) | (go_at_call 18; (with_reducible refine (KC.out _).mono ?_); rintro e w2 ⟨rfl, hb1⟩; clear c0 c1 c2 c3 c4 c5 c6 c7 c8 c9 c10 c11 d0 d1; replace hP := hP.next hb1; replace hS := hS.next hb1; replace hok := hok.trans hb1; clear hb1; obtain ⟨c0, c1, c2, c3, c4, c5, c6, c7, c8, c9, c10, c11⟩ := hP.pars; have d0 := hS.c0; have d1 := hS.c1; have hPl := hP.lt; have hSl := hS.lt))
  refine wp_loop_rounds 4 ?_
  repeat' (rw [rounds_succ]; go_wp2_with fail)
  go_ret
  exact ⟨rfl, hok⟩
theorem far10 (w : World) (p : Par) (a b m : Int) (hm : Lim.May p) (g0 : a ≤ 576460752303423488 ∧ -576460752303423488 ≤ a) (g1 : 576460752303423488 < b) : Calls Try.prog 7 #[parV p, spanV a b, .int .i64 m] w fun e w' => e = .returned (.bool true) ∧ Ok w w' := by
  have HP := Lib.hid ((Own.new w (parCells p) 23 rfl).alloc (.cells #[.int .i64 a, .int .i64 b] 25))
  have HS := Lib.hid (Slab.new (w.alloc (.cells (parCells p) 23)) a b 25 (g := w.heap.size + 1) (by simp))
  have HK := Lib.hid (((Ok.refl w).alloc (.cells (parCells p) 23)).alloc (.cells #[.int .i64 a, .int .i64 b] 25))
  have KC := Lib.hid fun w => limCheck p w
  rw [show Lim.check p = 0 from if_pos hm] at KC
  obtain ⟨b1, r1, d1, j1, -⟩ := Lim.May.bds hm
  clear hm
  have n0 : ∀ (w : World), (Instr.index 34 (.agg #[.int .i64 a, .int .i64 b, .int .i64 m]) (.int .i64 0)).run Try.prog w = .ok (.int .i64 a) w := fun _ => by kernel_rfl
  have n1 : ∀ (w : World), (Instr.index 34 (.agg #[.int .i64 a, .int .i64 b, .int .i64 m]) (.int .i64 1)).run Try.prog w = .ok (.int .i64 b) w := fun _ => by kernel_rfl
  have n2 : ∀ (w : World), (Instr.index 34 (.agg #[.int .i64 a, .int .i64 b, .int .i64 m]) (.int .i64 2)).run Try.prog w = .ok (.int .i64 m) w := fun _ => by kernel_rfl
  go_enter Try.func7, Try.ntmps7
  go_wp2_with (first | (go_at_call 9; (with_reducible refine (law11Alive _).mono ?_); rintro e w1 ⟨rfl, hb1⟩; have hP := HP.out.next hb1; have hS := HS.out.next hb1; have hok := HK.out.trans hb1; clear hb1 HP HS HK; obtain ⟨c0, c1, c2, c3, c4, c5, c6, c7, c8, c9, c10, c11⟩ := hP.pars; have d0 := hS.c0; have d1 := hS.c1) | (go_at_call 18; (with_reducible refine (KC.out _).mono ?_); rintro e w2 ⟨rfl, hb1⟩; clear c0 c1 c2 c3 c4 c5 c6 c7 c8 c9 c10 c11 d0 d1; replace hP := hP.next hb1; replace hS := hS.next hb1; replace hok := hok.trans hb1; clear hb1; obtain ⟨c0, c1, c2, c3, c4, c5, c6, c7, c8, c9, c10, c11⟩ := hP.pars; have d0 := hS.c0; have d1 := hS.c1; have hPl := hP.lt; have hSl := hS.lt))
  refine wp_loop_rounds 4 ?_
  repeat' (rw [rounds_succ]; go_wp2_with fail)
  go_ret
  exact ⟨rfl, hok⟩
theorem far11 (w : World) (p : Par) (a b m : Int) (hm : Lim.May p) (g0 : a ≤ 576460752303423488 ∧ -576460752303423488 ≤ a) (g1 : b < -576460752303423488) : Calls Try.prog 7 #[parV p, spanV a b, .int .i64 m] w fun e w' => e = .returned (.bool true) ∧ Ok w w' := by
  have HP := Lib.hid ((Own.new w (parCells p) 23 rfl).alloc (.cells #[.int .i64 a, .int .i64 b] 25))
  have HS := Lib.hid (Slab.new (w.alloc (.cells (parCells p) 23)) a b 25 (g := w.heap.size + 1) (by simp))
  have HK := Lib.hid (((Ok.refl w).alloc (.cells (parCells p) 23)).alloc (.cells #[.int .i64 a, .int .i64 b] 25))
  have KC := Lib.hid fun w => limCheck p w
  rw [show Lim.check p = 0 from if_pos hm] at KC
  obtain ⟨b1, r1, d1, j1, -⟩ := Lim.May.bds hm
  clear hm
  have n0 : ∀ (w : World), (Instr.index 34 (.agg #[.int .i64 a, .int .i64 b, .int .i64 m]) (.int .i64 0)).run Try.prog w = .ok (.int .i64 a) w := fun _ => by kernel_rfl
  have n1 : ∀ (w : World), (Instr.index 34 (.agg #[.int .i64 a, .int .i64 b, .int .i64 m]) (.int .i64 1)).run Try.prog w = .ok (.int .i64 b) w := fun _ => by kernel_rfl
  have n2 : ∀ (w : World), (Instr.index 34 (.agg #[.int .i64 a, .int .i64 b, .int .i64 m]) (.int .i64 2)).run Try.prog w = .ok (.int .i64 m) w := fun _ => by kernel_rfl
  go_enter Try.func7, Try.ntmps7
  go_wp2_with (first | (go_at_call 9; (with_reducible refine (law11Alive _).mono ?_); rintro e w1 ⟨rfl, hb1⟩; have hP := HP.out.next hb1; have hS := HS.out.next hb1; have hok := HK.out.trans hb1; clear hb1 HP HS HK; obtain ⟨c0, c1, c2, c3, c4, c5, c6, c7, c8, c9, c10, c11⟩ := hP.pars; have d0 := hS.c0; have d1 := hS.c1) | (go_at_call 18; (with_reducible refine (KC.out _).mono ?_); rintro e w2 ⟨rfl, hb1⟩; clear c0 c1 c2 c3 c4 c5 c6 c7 c8 c9 c10 c11 d0 d1; replace hP := hP.next hb1; replace hS := hS.next hb1; replace hok := hok.trans hb1; clear hb1; obtain ⟨c0, c1, c2, c3, c4, c5, c6, c7, c8, c9, c10, c11⟩ := hP.pars; have d0 := hS.c0; have d1 := hS.c1; have hPl := hP.lt; have hSl := hS.lt))
  refine wp_loop_rounds 4 ?_
  repeat' (rw [rounds_succ]; go_wp2_with fail)
  go_ret
  exact ⟨rfl, hok⟩
theorem far20 (w : World) (p : Par) (a b m : Int) (hm : Lim.May p) (g0 : a ≤ 576460752303423488 ∧ -576460752303423488 ≤ a) (g1 : b ≤ 576460752303423488 ∧ -576460752303423488 ≤ b) (g2 : 576460752303423488 < m) : Calls Try.prog 7 #[parV p, spanV a b, .int .i64 m] w fun e w' => e = .returned (.bool true) ∧ Ok w w' := by
  have HP := Lib.hid ((Own.new w (parCells p) 23 rfl).alloc (.cells #[.int .i64 a, .int .i64 b] 25))
  have HS := Lib.hid (Slab.new (w.alloc (.cells (parCells p) 23)) a b 25 (g := w.heap.size + 1) (by simp))
  have HK := Lib.hid (((Ok.refl w).alloc (.cells (parCells p) 23)).alloc (.cells #[.int .i64 a, .int .i64 b] 25))
  have KC := Lib.hid fun w => limCheck p w
  rw [show Lim.check p = 0 from if_pos hm] at KC
  obtain ⟨b1, r1, d1, j1, -⟩ := Lim.May.bds hm
  clear hm
  have n0 : ∀ (w : World), (Instr.index 34 (.agg #[.int .i64 a, .int .i64 b, .int .i64 m]) (.int .i64 0)).run Try.prog w = .ok (.int .i64 a) w := fun _ => by kernel_rfl
  have n1 : ∀ (w : World), (Instr.index 34 (.agg #[.int .i64 a, .int .i64 b, .int .i64 m]) (.int .i64 1)).run Try.prog w = .ok (.int .i64 b) w := fun _ => by kernel_rfl
  have n2 : ∀ (w : World), (Instr.index 34 (.agg #[.int .i64 a, .int .i64 b, .int .i64 m]) (.int .i64 2)).run Try.prog w = .ok (.int .i64 m) w := fun _ => by kernel_rfl
  go_enter Try.func7, Try.ntmps7
  go_wp2_with (first | (go_at_call 9; (with_reducible refine (law11Alive _).mono ?_); rintro e w1 ⟨rfl, hb1⟩; have hP := HP.out.next hb1; have hS := HS.out.next hb1; have hok := HK.out.trans hb1; clear hb1 HP HS HK; obtain ⟨c0, c1, c2, c3, c4, c5, c6, c7, c8, c9, c10, c11⟩ := hP.pars; have d0 := hS.c0; have d1 := hS.c1) | (go_at_call 18; (with_reducible refine (KC.out _).mono ?_); rintro e w2 ⟨rfl, hb1⟩; clear c0 c1 c2 c3 c4 c5 c6 c7 c8 c9 c10 c11 d0 d1; replace hP := hP.next hb1; replace hS := hS.next hb1; replace hok := hok.trans hb1; clear hb1; obtain ⟨c0, c1, c2, c3, c4, c5, c6, c7, c8, c9, c10, c11⟩ := hP.pars; have d0 := hS.c0; have d1 := hS.c1; have hPl := hP.lt; have hSl := hS.lt))
  refine wp_loop_rounds 4 ?_
  repeat' (rw [rounds_succ]; go_wp2_with fail)
  go_ret
  exact ⟨rfl, hok⟩
theorem far21 (w : World) (p : Par) (a b m : Int) (hm : Lim.May p) (g0 : a ≤ 576460752303423488 ∧ -576460752303423488 ≤ a) (g1 : b ≤ 576460752303423488 ∧ -576460752303423488 ≤ b) (g2 : m < -576460752303423488) : Calls Try.prog 7 #[parV p, spanV a b, .int .i64 m] w fun e w' => e = .returned (.bool true) ∧ Ok w w' := by
  have HP := Lib.hid ((Own.new w (parCells p) 23 rfl).alloc (.cells #[.int .i64 a, .int .i64 b] 25))
  have HS := Lib.hid (Slab.new (w.alloc (.cells (parCells p) 23)) a b 25 (g := w.heap.size + 1) (by simp))
  have HK := Lib.hid (((Ok.refl w).alloc (.cells (parCells p) 23)).alloc (.cells #[.int .i64 a, .int .i64 b] 25))
  have KC := Lib.hid fun w => limCheck p w
  rw [show Lim.check p = 0 from if_pos hm] at KC
  obtain ⟨b1, r1, d1, j1, -⟩ := Lim.May.bds hm
  clear hm
  have n0 : ∀ (w : World), (Instr.index 34 (.agg #[.int .i64 a, .int .i64 b, .int .i64 m]) (.int .i64 0)).run Try.prog w = .ok (.int .i64 a) w := fun _ => by kernel_rfl
  have n1 : ∀ (w : World), (Instr.index 34 (.agg #[.int .i64 a, .int .i64 b, .int .i64 m]) (.int .i64 1)).run Try.prog w = .ok (.int .i64 b) w := fun _ => by kernel_rfl
  have n2 : ∀ (w : World), (Instr.index 34 (.agg #[.int .i64 a, .int .i64 b, .int .i64 m]) (.int .i64 2)).run Try.prog w = .ok (.int .i64 m) w := fun _ => by kernel_rfl
  go_enter Try.func7, Try.ntmps7
  go_wp2_with (first | (go_at_call 9; (with_reducible refine (law11Alive _).mono ?_); rintro e w1 ⟨rfl, hb1⟩; have hP := HP.out.next hb1; have hS := HS.out.next hb1; have hok := HK.out.trans hb1; clear hb1 HP HS HK; obtain ⟨c0, c1, c2, c3, c4, c5, c6, c7, c8, c9, c10, c11⟩ := hP.pars; have d0 := hS.c0; have d1 := hS.c1) | (go_at_call 18; (with_reducible refine (KC.out _).mono ?_); rintro e w2 ⟨rfl, hb1⟩; clear c0 c1 c2 c3 c4 c5 c6 c7 c8 c9 c10 c11 d0 d1; replace hP := hP.next hb1; replace hS := hS.next hb1; replace hok := hok.trans hb1; clear hb1; obtain ⟨c0, c1, c2, c3, c4, c5, c6, c7, c8, c9, c10, c11⟩ := hP.pars; have d0 := hS.c0; have d1 := hS.c1; have hPl := hP.lt; have hSl := hS.lt))
  refine wp_loop_rounds 4 ?_
  repeat' (rw [rounds_succ]; go_wp2_with fail)
  go_ret
  exact ⟨rfl, hok⟩
/-- What each operation leaves. -/
def VMW1 (B S K : Nat) (p : Par) (a b m x1 y1 x2 y2 : Int) (w : World) (v : Value) : Nat → Prop
  | 0 => v = parV p
  | 1 => v = spanV a b
  | 2 => v = .int .i64 m
  | 3 => v = spanV x1 y1
  | 4 => v = parV p
  | 5 => v = spanV a b
  | 6 => v = .int .i64 m
  | 7 => v = spanV x2 y2
  | 8 => ∃ g : Nat, v = .pointer (some ⟨g, 0, none⟩) ∧ Own w g #[.int .i64 0, .int .i64 0] ∧ K ≤ g
  | 9 => ∃ g : Nat, v = .pointer (some ⟨g, 0, none⟩) ∧ Own w g #[.int .i64 0, .int .i64 0] ∧ K ≤ g
  | _ => v = .bool true
/-- It stays so. -/
def VCW1 (B S K : Nat) (p : Par) (a b m x1 y1 x2 y2 : Int) (i : Nat) (v : Value) (w : World) : Prop := ∀ w', Ok w w' → VMW1 B S K p a b m x1 y1 x2 y2 w' v i
/-- Of the operations 8 and 9 also: they make a block. -/
def UCW1 (B S K : Nat) (p : Par) (a b m x1 y1 x2 y2 : Int) (w : World) (i : Nat) (v : Value) (w' : World) : Prop := VCW1 B S K p a b m x1 y1 x2 y2 i v w' ∧ (i = 8 ∨ i = 9 → v = toBlk w.heap.size ∧ w.heap.size < w'.heap.size)
/-- What each operation leaves. -/
def VMW2 (B S g h : Nat) (p : Par) (a b x1 y1 x2 y2 dd ee rr d2 hp : Int) (w : World) (v : Value) : Nat → Prop
  | 0 => v = .pointer (some ⟨g, 1, none⟩)
  | 1 => v = .int .i64 y1
  | 2 => v = .pointer (some ⟨g, 0, none⟩)
  | 3 => v = .int .i64 x1
  | 4 => v = .int .i64 dd
  | 5 => v = .pointer (some ⟨S, 1, none⟩)
  | 6 => v = .int .i64 b
  | 7 => v = .pointer (some ⟨S, 0, none⟩)
  | 8 => v = .int .i64 a
  | 9 => v = .int .i64 ee
  | 10 => v = .pointer (some ⟨B, 4, none⟩)
  | 11 => v = .int .i64 p.rho
  | 12 => v = .int .i64 rr
  | 13 => v = .int .i64 dd
  | 14 => v = .bool true
  | 15 => v = .bool true
  | 16 => v = .pointer (some ⟨h, 1, none⟩)
  | 17 => v = .int .i64 y2
  | 18 => v = .pointer (some ⟨h, 0, none⟩)
  | 19 => v = .int .i64 x2
  | 20 => v = .int .i64 d2
  | 21 => v = .pointer (some ⟨S, 1, none⟩)
  | 22 => v = .int .i64 b
  | 23 => v = .pointer (some ⟨S, 0, none⟩)
  | 24 => v = .int .i64 a
  | 25 => v = .int .i64 ee
  | 26 => v = parV p
  | 27 => v = .int .i64 hp
  | 28 => v = .int .i64 d2
  | 29 => v = .bool true
  | 30 => v = .bool true
  | 31 => v = .bool true
  | _ => v = .bool true
/-- It stays so. -/
def VCW2 (B S g h : Nat) (p : Par) (a b x1 y1 x2 y2 dd ee rr d2 hp : Int) (i : Nat) (v : Value) (w : World) : Prop := ∀ w', Ok w w' → VMW2 B S g h p a b x1 y1 x2 y2 dd ee rr d2 hp w' v i
set_option maxHeartbeats 3200000 in
theorem yes (w : World) (p : Par) (a b m : Int) (hm : Lim.May p) (g0 : a ≤ 576460752303423488 ∧ -576460752303423488 ≤ a) (g1 : b ≤ 576460752303423488 ∧ -576460752303423488 ≤ b) (g2 : m ≤ 576460752303423488 ∧ -576460752303423488 ≤ m) : Calls Try.prog 7 #[parV p, spanV a b, .int .i64 m] w fun e w' => e = .returned (.bool true) ∧ Ok w w' := by
  have KA := Lib.hid fun w => carryHold p a b m w
  have KB := Lib.hid fun w => carryWay p a b m w
  have KH := Lib.hid fun w => limHop p w
  rw [Carry.hold_in hm (a, b) (n := m) (by omega)] at KA
  rw [Carry.way_in hm (a, b) (n := m) (by omega)] at KB
  have hx := Lim.hop_in hm.small
  obtain ⟨hp, hhp⟩ : ∃ h, Lim.hop p = h := ⟨_, rfl⟩
  rw [hhp] at KH hx
  clear hhp
  have HP := Lib.hid ((Own.new w (parCells p) 23 rfl).alloc (.cells #[.int .i64 a, .int .i64 b] 25))
  have HS := Lib.hid (Slab.new (w.alloc (.cells (parCells p) 23)) a b 25 (g := w.heap.size + 1) (by simp))
  have HK := Lib.hid (((Ok.refl w).alloc (.cells (parCells p) 23)).alloc (.cells #[.int .i64 a, .int .i64 b] 25))
  have KC := Lib.hid fun w => limCheck p w
  rw [show Lim.check p = 0 from if_pos hm] at KC
  obtain ⟨b1, r1, d1, j1, -⟩ := Lim.May.bds hm
  clear hm
  have n0 : ∀ (w : World), (Instr.index 34 (.agg #[.int .i64 a, .int .i64 b, .int .i64 m]) (.int .i64 0)).run Try.prog w = .ok (.int .i64 a) w := fun _ => by kernel_rfl
  have n1 : ∀ (w : World), (Instr.index 34 (.agg #[.int .i64 a, .int .i64 b, .int .i64 m]) (.int .i64 1)).run Try.prog w = .ok (.int .i64 b) w := fun _ => by kernel_rfl
  have n2 : ∀ (w : World), (Instr.index 34 (.agg #[.int .i64 a, .int .i64 b, .int .i64 m]) (.int .i64 2)).run Try.prog w = .ok (.int .i64 m) w := fun _ => by kernel_rfl
  simp only at KA KB
  rw [Sat.clip_in (x := a) (by omega) (by omega), Sat.clip_in (x := b) (by omega) (by omega), Sat.clip_in (x := a + (m - p.rho)) (by omega) (by omega), Sat.clip_in (x := b + (m + p.rho)) (by omega) (by omega)] at KA
  rw [Sat.clip_in (x := a) (by omega) (by omega), Sat.clip_in (x := b) (by omega) (by omega), Sat.clip_in (x := a + (p.delay - p.jit + m - p.rho)) (by omega) (by omega), Sat.clip_in (x := b + (p.delay + m + p.rho)) (by omega) (by omega)] at KB
  obtain ⟨x1, hx1⟩ : ∃ x, a + (m - p.rho) = x := ⟨_, rfl⟩
  obtain ⟨y1, hy1⟩ : ∃ x, b + (m + p.rho) = x := ⟨_, rfl⟩
  obtain ⟨x2, hx2⟩ : ∃ x, a + (p.delay - p.jit + m - p.rho) = x := ⟨_, rfl⟩
  obtain ⟨y2, hy2⟩ : ∃ x, b + (p.delay + m + p.rho) = x := ⟨_, rfl⟩
  rw [hx1, hy1] at KA
  rw [hx2, hy2] at KB
  obtain ⟨ee, he⟩ : ∃ x, b - a = x := ⟨_, rfl⟩
  obtain ⟨rr, hrr⟩ : ∃ x, 2 * p.rho = x := ⟨_, rfl⟩
  obtain ⟨dd, hdd⟩ : ∃ x, y1 - x1 = x := ⟨_, rfl⟩
  obtain ⟨d2, hd2⟩ : ∃ x, y2 - x2 = x := ⟨_, rfl⟩
  have q1 := Lib.hid (show IntKind.i64.wrap (y1 - x1) = dd by rw [hdd]; exact IntWalk.i64_in _ ⟨by omega, by omega⟩)
  have q2 := Lib.hid (show IntKind.i64.wrap (b - a) = ee by rw [he]; exact IntWalk.i64_in _ ⟨by omega, by omega⟩)
  have q3 := Lib.hid (show IntKind.i64.wrap (2 * p.rho) = rr by rw [hrr]; exact IntWalk.i64_in _ ⟨by omega, by omega⟩)
  have q4 := Lib.hid (show IntKind.i64.wrap (ee + rr) = dd by rw [show ee + rr = dd by omega]; exact IntWalk.i64_in _ ⟨by omega, by omega⟩)
  have q5 := Lib.hid (show IntKind.i64.wrap (y2 - x2) = d2 by rw [hd2]; exact IntWalk.i64_in _ ⟨by omega, by omega⟩)
  have q6 := Lib.hid (show IntKind.i64.wrap (ee + hp) = d2 by rw [show ee + hp = d2 by omega]; exact IntWalk.i64_in _ ⟨by omega, by omega⟩)
  clear hx1 hy1 hx2 hy2 he hrr hdd hd2 hx
  go_enter Try.func7, Try.ntmps7
  go_wp2_with (first | (go_at_call 9; (with_reducible refine (law11Alive _).mono ?_); rintro e w1 ⟨rfl, hb1⟩; have hP := HP.out.next hb1; have hS := HS.out.next hb1; have hok := HK.out.trans hb1; clear hb1 HP HS HK; obtain ⟨c0, c1, c2, c3, c4, c5, c6, c7, c8, c9, c10, c11⟩ := hP.pars; have d0 := hS.c0; have d1 := hS.c1) | (go_at_call 18; (with_reducible refine (KC.out _).mono ?_); rintro e w2 ⟨rfl, hb1⟩; clear c0 c1 c2 c3 c4 c5 c6 c7 c8 c9 c10 c11 d0 d1; replace hP := hP.next hb1; replace hS := hS.next hb1; replace hok := hok.trans hb1; clear hb1; obtain ⟨c0, c1, c2, c3, c4, c5, c6, c7, c8, c9, c10, c11⟩ := hP.pars; have d0 := hS.c0; have d1 := hS.c1; have hPl := hP.lt; have hSl := hS.lt))
  refine wp_loop_rounds 4 ?_
  repeat' (rw [rounds_succ]; (first | go_upto_region 11 with fail | go_wp2_with fail))
  clear KC n0 n1 n2 g0 g1 g2 c0 c1 c2 c3 c4 c5 c6 c7 c8 c9 c10 c11 d0 d1 hPl hSl
  generalize w2 = W at hP hS hok ⊢
  have hwB : w.heap.size ≤ w.heap.size := Nat.le_refl _
  have hPl := hP.lt
  have hSl := hS.lt
  have hKw := hok.size
  have hK : W.heap.size ≤ W.drew.heap.size := Nat.le_refl _
  obtain ⟨K, hKe⟩ : ∃ K, W.heap.size = K := ⟨_, rfl⟩
  rw [hKe] at hPl hSl hKw hK
  obtain ⟨S, hSe⟩ : ∃ b, w.heap.size + 1 = b := ⟨_, rfl⟩
  obtain ⟨B, hBe⟩ : ∃ b, w.heap.size = b := ⟨_, rfl⟩
  rw [hSe] at hS hSl ⊢
  rw [hBe] at hP hPl ⊢
  clear hwB hSe hKe
  have HP := Lib.hid fun W' (k : Ok W.drew W') => hP.drew.next k
  have HS := Lib.hid fun W' (k : Ok W.drew W') => hS.drew.next k
  have HOK := Lib.hid hok
  clear hP hS hok
  refine wp_region_facts_two (by kernel_rfl) 71 rfl (VCW1 B S K p a b m x1 y1 x2 y2) (UCW1 B S K p a b m x1 y1 x2 y2) Ok 8 9 9 10 _ 10 rfl rfl (by decide) (by kernel_rfl) (by kernel_rfl) (by kernel_rfl) (by kernel_rfl) (by kernel_rfl) (by decide) (by intro g h; simp [undef] at h) (by intro g h; simp [undef] at h) (fun i v w w' h k w'' k' => h w'' (k.trans k')) (fun _ _ _ _ h => h.1) (fun _ _ _ h => h.2 (.inl rfl)) (fun _ _ _ h => h.2 (.inr rfl)) (fun _ _ h => h.size) (fun a b c => Ok.trans) (Ok.refl _) [some 32, some 33, some 34, some 35, some 36, some 37, some 38, some 39, some 9, some 10] rfl _ rfl ⟨?_, ?_, ?_, ?_, ?_, ?_, ?_, ?_, ?_, ?_, trivial⟩ ?_
  · intro a' w' hF hR
    have e3 : a'.tmps[3]? = some (.pointer (some ⟨B, 0, none⟩)) := hF.slot 3 (by kernel_rfl) rfl
    obtain ⟨c0, c1, c2, c3, c4, c5, c6, c7, c8, c9, c10, c11⟩ := (HP.out _ hR).pars
    refine wpOp_run (v := parV p) rfl rfl ?_ ⟨fun _ _ => rfl, fun h => absurd h (by decide)⟩ (Ok.refl _)
    clear hF
    go_simp
  · intro a' w' hF hR
    have e4 : a'.tmps[4]? = some (.pointer (some ⟨S, 0, none⟩)) := hF.slot 4 (by kernel_rfl) rfl
    have d0 := (HS.out _ hR).c0
    have d1 := (HS.out _ hR).c1
    refine wpOp_run (v := spanV a b) rfl rfl ?_ ⟨fun _ _ => rfl, fun h => absurd h (by decide)⟩ (Ok.refl _)
    clear hF
    go_simp
  · intro a' w' hF hR
    have e2 : a'.tmps[2]? = some (.int .i64 m) := hF.slot 2 (by kernel_rfl) rfl
    refine wpOp_run (v := .int .i64 m) rfl rfl ?_ ⟨fun _ _ => rfl, fun h => absurd h (by decide)⟩ (Ok.refl _)
    clear hF
    go_simp
  · intro a' w' hF hR
    obtain ⟨v0, hv0, e32⟩ := hF.get 0 32 (by kernel_rfl) (by kernel_rfl)
    obtain rfl : v0 = _ := hv0 _ (Ok.refl _)
    obtain ⟨v1, hv1, e33⟩ := hF.get 1 33 (by kernel_rfl) (by kernel_rfl)
    obtain rfl : v1 = _ := hv1 _ (Ok.refl _)
    obtain ⟨v2, hv2, e34⟩ := hF.get 2 34 (by kernel_rfl) (by kernel_rfl)
    obtain rfl : v2 = _ := hv2 _ (Ok.refl _)
    clear hF
    refine wpOp_call (f := 10) (args := #[parV p, spanV a b, .int .i64 m]) rfl rfl ?_ ((KA.out _).mono ?_)
    · go_simp
    · rintro e w2 ⟨rfl, hb2⟩; exact ⟨_, rfl, ⟨fun _ _ => rfl, fun h => absurd h (by decide)⟩, hb2⟩
  · intro a' w' hF hR
    have e3 : a'.tmps[3]? = some (.pointer (some ⟨B, 0, none⟩)) := hF.slot 3 (by kernel_rfl) rfl
    obtain ⟨c0, c1, c2, c3, c4, c5, c6, c7, c8, c9, c10, c11⟩ := (HP.out _ hR).pars
    refine wpOp_run (v := parV p) rfl rfl ?_ ⟨fun _ _ => rfl, fun h => absurd h (by decide)⟩ (Ok.refl _)
    clear hF
    go_simp
  · intro a' w' hF hR
    have e4 : a'.tmps[4]? = some (.pointer (some ⟨S, 0, none⟩)) := hF.slot 4 (by kernel_rfl) rfl
    have d0 := (HS.out _ hR).c0
    have d1 := (HS.out _ hR).c1
    refine wpOp_run (v := spanV a b) rfl rfl ?_ ⟨fun _ _ => rfl, fun h => absurd h (by decide)⟩ (Ok.refl _)
    clear hF
    go_simp
  · intro a' w' hF hR
    have e2 : a'.tmps[2]? = some (.int .i64 m) := hF.slot 2 (by kernel_rfl) rfl
    refine wpOp_run (v := .int .i64 m) rfl rfl ?_ ⟨fun _ _ => rfl, fun h => absurd h (by decide)⟩ (Ok.refl _)
    clear hF
    go_simp
  · intro a' w' hF hR
    obtain ⟨v4, hv4, e36⟩ := hF.get 4 36 (by kernel_rfl) (by kernel_rfl)
    obtain rfl : v4 = _ := hv4 _ (Ok.refl _)
    obtain ⟨v5, hv5, e37⟩ := hF.get 5 37 (by kernel_rfl) (by kernel_rfl)
    obtain rfl : v5 = _ := hv5 _ (Ok.refl _)
    obtain ⟨v6, hv6, e38⟩ := hF.get 6 38 (by kernel_rfl) (by kernel_rfl)
    obtain rfl : v6 = _ := hv6 _ (Ok.refl _)
    clear hF
    refine wpOp_call (f := 12) (args := #[parV p, spanV a b, .int .i64 m]) rfl rfl ?_ ((KB.out _).mono ?_)
    · go_simp
    · rintro e w2 ⟨rfl, hb2⟩; exact ⟨_, rfl, ⟨fun _ _ => rfl, fun h => absurd h (by decide)⟩, hb2⟩
  · intro a' w' hF hR
    have hzero : Sem.run Try.prog (zeroValue 25) w' = .ok (.agg #[.int .i64 0, .int .i64 0]) w' := by kernel_rfl
    refine wpOp_run (v := .pointer (some ⟨w'.heap.size, 0, none⟩)) (w' := w'.alloc (.cells #[.int .i64 0, .int .i64 0] 25)) rfl rfl ?_ ⟨fun w'' k => ⟨_, rfl, (Own.new _ _ _ rfl).next k, (show K ≤ w'.heap.size from Nat.le_trans hK hR.size)⟩, fun _ => ⟨rfl, by simp⟩⟩ ((Ok.refl _).alloc _)
    clear hF
    go_simp
  · intro a' w' hF hR
    have hzero : Sem.run Try.prog (zeroValue 25) w' = .ok (.agg #[.int .i64 0, .int .i64 0]) w' := by kernel_rfl
    refine wpOp_run (v := .pointer (some ⟨w'.heap.size, 0, none⟩)) (w' := w'.alloc (.cells #[.int .i64 0, .int .i64 0] 25)) rfl rfl ?_ ⟨fun w'' k => ⟨_, rfl, (Own.new _ _ _ rfl).next k, (show K ≤ w'.heap.size from Nat.le_trans hK hR.size)⟩, fun _ => ⟨rfl, by simp⟩⟩ ((Ok.refl _).alloc _)
    clear hF
    go_simp
  intro vs W' hvs hgh hR
  have e3 : vs 3 = spanV x1 y1 := hvs 3 (by decide) _ (Ok.refl _)
  have e7 : vs 7 = spanV x2 y2 := hvs 7 (by decide) _ (Ok.refl _)
  obtain ⟨g, e8, hO1, hK1⟩ := hvs 8 (by decide) _ (Ok.refl _)
  obtain ⟨h, e9, hO2, hK2⟩ := hvs 9 (by decide) _ (Ok.refl _)
  have hne := hgh _ _ e8 e9
  have hG : Slab W' g 0 0 := ⟨hO1.blk⟩
  have hH : Slab W' h 0 0 := ⟨hO2.blk⟩
  have hP2 := HP.out _ hR
  have hS2 := HS.out _ hR
  have hok1 := HOK.out.trans ((Ok.refl W).drew.trans hR)
  clear hvs hgh hR HOK hO1 hO2 HP HS
  simp only [putFrom, e3, e7, e8, e9]
  simp only [Act.put, List.setIfInBounds_toArray, List.set_cons_zero, List.set_cons_succ]
  clear e3 e7 e8 e9
  have f0 := hG.f0
  have f1 := hG.f1
  have c0 := hG.c0
  have c1 := hG.c1
  refine wpOp_store (w' := (W'.setCell ⟨g, 0, none⟩ (.int .i64 x1)).setCell ⟨g, 1, none⟩ (.int .i64 y1)) rfl rfl rfl ?_ ?_
  · go_simp
  replace hG := hG.set x1 y1
  replace hH := (hH.setOther (a := ⟨g, 0, none⟩) (by show h ≠ g; omega) (.int .i64 x1)).setOther (a := ⟨g, 1, none⟩) (by show h ≠ g; omega) (.int .i64 y1)
  replace hP2 := (hP2.setOther (a := ⟨g, 0, none⟩) (by show B ≠ g; omega) (.int .i64 x1)).setOther (a := ⟨g, 1, none⟩) (by show B ≠ g; omega) (.int .i64 y1)
  replace hS2 := (hS2.setOther (a := ⟨g, 0, none⟩) (by show S ≠ g; omega) (.int .i64 x1)).setOther (a := ⟨g, 1, none⟩) (by show S ≠ g; omega) (.int .i64 y1)
  replace hok1 := (hok1.setCell (p := ⟨g, 0, none⟩) (by show w.heap.size ≤ g; omega) (.int .i64 x1)).setCell (p := ⟨g, 1, none⟩) (by show w.heap.size ≤ g; omega) (.int .i64 y1)
  clear f0 f1 c0 c1
  generalize (W'.setCell ⟨g, 0, none⟩ (.int .i64 x1)).setCell ⟨g, 1, none⟩ (.int .i64 y1) = W2 at hG hH hok1 hP2 hS2 ⊢
  have f0 := hH.f0
  have f1 := hH.f1
  have c0 := hH.c0
  have c1 := hH.c1
  refine wpOp_store (w' := (W2.setCell ⟨h, 0, none⟩ (.int .i64 x2)).setCell ⟨h, 1, none⟩ (.int .i64 y2)) rfl rfl rfl ?_ ?_
  · go_simp
  replace hH := hH.set x2 y2
  replace hG := (hG.setOther (a := ⟨h, 0, none⟩) (by show g ≠ h; omega) (.int .i64 x2)).setOther (a := ⟨h, 1, none⟩) (by show g ≠ h; omega) (.int .i64 y2)
  replace hP2 := (hP2.setOther (a := ⟨h, 0, none⟩) (by show B ≠ h; omega) (.int .i64 x2)).setOther (a := ⟨h, 1, none⟩) (by show B ≠ h; omega) (.int .i64 y2)
  replace hS2 := (hS2.setOther (a := ⟨h, 0, none⟩) (by show S ≠ h; omega) (.int .i64 x2)).setOther (a := ⟨h, 1, none⟩) (by show S ≠ h; omega) (.int .i64 y2)
  replace hok1 := (hok1.setCell (p := ⟨h, 0, none⟩) (by show w.heap.size ≤ h; omega) (.int .i64 x2)).setCell (p := ⟨h, 1, none⟩) (by show w.heap.size ≤ h; omega) (.int .i64 y2)
  clear f0 f1 c0 c1
  generalize (W2.setCell ⟨h, 0, none⟩ (.int .i64 x2)).setCell ⟨h, 1, none⟩ (.int .i64 y2) = W3 at hH hG hok1 hP2 hS2 ⊢
  clear KA KB hK1 hK2 hne hKw hK
  simp only [TailFrom]
  go_upto_region 12 with fail
  have HP := Lib.hid fun W' (k : Ok W3.drew W') => hP2.drew.next k
  have HS := Lib.hid fun W' (k : Ok W3.drew W') => hS2.drew.next k
  have HG := Lib.hid fun W' (k : Ok W3.drew W') => hG.drew.next k
  have HH := Lib.hid fun W' (k : Ok W3.drew W') => hH.drew.next k
  have HOK := Lib.hid hok1
  clear hP2 hS2 hG hH hok1
  replace q1 := q1.out
  replace q2 := q2.out
  replace q3 := q3.out
  replace q4 := q4.out
  replace q5 := q5.out
  replace q6 := q6.out
  generalize vs (0 + 1 + 1 + 1 + 1 + 1 + 1) = z6
  generalize vs (0 + 1 + 1 + 1 + 1 + 1) = z5
  generalize vs (0 + 1 + 1 + 1 + 1) = z4
  generalize vs (0 + 1 + 1) = z2
  generalize vs (0 + 1) = z1
  generalize vs 0 = z0
  refine wp_region_facts (by kernel_rfl) 71 rfl (VCW2 B S g h p a b x1 y1 x2 y2 dd ee rr d2 hp) Ok (by kernel_rfl) (fun i v w w' h k w'' k' => h w'' (k.trans k')) (fun a b c => Ok.trans) (Ok.refl _) [some 40, some 41, some 42, some 43, some 44, some 45, some 46, some 47, some 48, some 49, some 50, some 51, some 52, some 53, some 54, some 55, some 56, some 57, some 58, some 59, some 60, some 61, some 62, some 63, some 64, some 65, some 66, some 67, some 68, some 69, some 70, some 6] rfl 32 rfl ⟨?_, ?_, ?_, ?_, ?_, ?_, ?_, ?_, ?_, ?_, ?_, ?_, ?_, ?_, ?_, ?_, ?_, ?_, ?_, ?_, ?_, ?_, ?_, ?_, ?_, ?_, ?_, ?_, ?_, ?_, ?_, ?_, trivial⟩ ?_
  · intro a' w' hF hR
    have e9 : a'.tmps[9]? = some (.pointer (some ⟨g, 0, none⟩)) := hF.slot 9 (by kernel_rfl) rfl
    refine wpOp_run (v := .pointer (some ⟨g, 1, none⟩)) rfl rfl ?_ (fun _ _ => rfl) (Ok.refl _)
    clear hF
    go_simp
  · intro a' w' hF hR
    obtain ⟨v0, hv0, e40⟩ := hF.get 0 40 (by kernel_rfl) (by kernel_rfl)
    obtain rfl : v0 = _ := hv0 _ (Ok.refl _)
    have e0 := (HG.out _ hR).c0
    have e1 := (HG.out _ hR).c1
    refine wpOp_run (v := .int .i64 y1) rfl rfl ?_ (fun _ _ => rfl) (Ok.refl _)
    clear hF
    go_simp
  · intro a' w' hF hR
    have e9 : a'.tmps[9]? = some (.pointer (some ⟨g, 0, none⟩)) := hF.slot 9 (by kernel_rfl) rfl
    refine wpOp_run (v := .pointer (some ⟨g, 0, none⟩)) rfl rfl ?_ (fun _ _ => rfl) (Ok.refl _)
    clear hF
    go_simp
  · intro a' w' hF hR
    obtain ⟨v2, hv2, e42⟩ := hF.get 2 42 (by kernel_rfl) (by kernel_rfl)
    obtain rfl : v2 = _ := hv2 _ (Ok.refl _)
    have e0 := (HG.out _ hR).c0
    have e1 := (HG.out _ hR).c1
    refine wpOp_run (v := .int .i64 x1) rfl rfl ?_ (fun _ _ => rfl) (Ok.refl _)
    clear hF
    go_simp
  · intro a' w' hF hR
    obtain ⟨v1, hv1, e41⟩ := hF.get 1 41 (by kernel_rfl) (by kernel_rfl)
    obtain rfl : v1 = _ := hv1 _ (Ok.refl _)
    obtain ⟨v3, hv3, e43⟩ := hF.get 3 43 (by kernel_rfl) (by kernel_rfl)
    obtain rfl : v3 = _ := hv3 _ (Ok.refl _)
    refine wpOp_run (v := .int .i64 dd) rfl rfl ?_ (fun _ _ => rfl) (Ok.refl _)
    clear hF
    go_simp
  · intro a' w' hF hR
    have e4 : a'.tmps[4]? = some (.pointer (some ⟨S, 0, none⟩)) := hF.slot 4 (by kernel_rfl) rfl
    refine wpOp_run (v := .pointer (some ⟨S, 1, none⟩)) rfl rfl ?_ (fun _ _ => rfl) (Ok.refl _)
    clear hF
    go_simp
  · intro a' w' hF hR
    obtain ⟨v5, hv5, e45⟩ := hF.get 5 45 (by kernel_rfl) (by kernel_rfl)
    obtain rfl : v5 = _ := hv5 _ (Ok.refl _)
    have d0 := (HS.out _ hR).c0
    have d1 := (HS.out _ hR).c1
    refine wpOp_run (v := .int .i64 b) rfl rfl ?_ (fun _ _ => rfl) (Ok.refl _)
    clear hF
    go_simp
  · intro a' w' hF hR
    have e4 : a'.tmps[4]? = some (.pointer (some ⟨S, 0, none⟩)) := hF.slot 4 (by kernel_rfl) rfl
    refine wpOp_run (v := .pointer (some ⟨S, 0, none⟩)) rfl rfl ?_ (fun _ _ => rfl) (Ok.refl _)
    clear hF
    go_simp
  · intro a' w' hF hR
    obtain ⟨v7, hv7, e47⟩ := hF.get 7 47 (by kernel_rfl) (by kernel_rfl)
    obtain rfl : v7 = _ := hv7 _ (Ok.refl _)
    have d0 := (HS.out _ hR).c0
    have d1 := (HS.out _ hR).c1
    refine wpOp_run (v := .int .i64 a) rfl rfl ?_ (fun _ _ => rfl) (Ok.refl _)
    clear hF
    go_simp
  · intro a' w' hF hR
    obtain ⟨v6, hv6, e46⟩ := hF.get 6 46 (by kernel_rfl) (by kernel_rfl)
    obtain rfl : v6 = _ := hv6 _ (Ok.refl _)
    obtain ⟨v8, hv8, e48⟩ := hF.get 8 48 (by kernel_rfl) (by kernel_rfl)
    obtain rfl : v8 = _ := hv8 _ (Ok.refl _)
    refine wpOp_run (v := .int .i64 ee) rfl rfl ?_ (fun _ _ => rfl) (Ok.refl _)
    clear hF
    go_simp
  · intro a' w' hF hR
    have e3 : a'.tmps[3]? = some (.pointer (some ⟨B, 0, none⟩)) := hF.slot 3 (by kernel_rfl) rfl
    refine wpOp_run (v := .pointer (some ⟨B, 4, none⟩)) rfl rfl ?_ (fun _ _ => rfl) (Ok.refl _)
    clear hF
    go_simp
  · intro a' w' hF hR
    obtain ⟨v10, hv10, e50⟩ := hF.get 10 50 (by kernel_rfl) (by kernel_rfl)
    obtain rfl : v10 = _ := hv10 _ (Ok.refl _)
    obtain ⟨c0, c1, c2, c3, c4, c5, c6, c7, c8, c9, c10, c11⟩ := (HP.out _ hR).pars
    refine wpOp_run (v := .int .i64 p.rho) rfl rfl ?_ (fun _ _ => rfl) (Ok.refl _)
    clear hF
    go_simp
  · intro a' w' hF hR
    obtain ⟨v11, hv11, e51⟩ := hF.get 11 51 (by kernel_rfl) (by kernel_rfl)
    obtain rfl : v11 = _ := hv11 _ (Ok.refl _)
    refine wpOp_run (v := .int .i64 rr) rfl rfl ?_ (fun _ _ => rfl) (Ok.refl _)
    clear hF
    go_simp
  · intro a' w' hF hR
    obtain ⟨v9, hv9, e49⟩ := hF.get 9 49 (by kernel_rfl) (by kernel_rfl)
    obtain rfl : v9 = _ := hv9 _ (Ok.refl _)
    obtain ⟨v12, hv12, e52⟩ := hF.get 12 52 (by kernel_rfl) (by kernel_rfl)
    obtain rfl : v12 = _ := hv12 _ (Ok.refl _)
    refine wpOp_run (v := .int .i64 dd) rfl rfl ?_ (fun _ _ => rfl) (Ok.refl _)
    clear hF
    go_simp
  · intro a' w' hF hR
    obtain ⟨v4, hv4, e44⟩ := hF.get 4 44 (by kernel_rfl) (by kernel_rfl)
    obtain rfl : v4 = _ := hv4 _ (Ok.refl _)
    obtain ⟨v13, hv13, e53⟩ := hF.get 13 53 (by kernel_rfl) (by kernel_rfl)
    obtain rfl : v13 = _ := hv13 _ (Ok.refl _)
    refine wpOp_run (v := .bool true) rfl rfl ?_ (fun _ _ => rfl) (Ok.refl _)
    clear hF
    go_simp
  · intro a' w' hF hR
    obtain ⟨v14, hv14, e54⟩ := hF.get 14 54 (by kernel_rfl) (by kernel_rfl)
    obtain rfl : v14 = _ := hv14 _ (Ok.refl _)
    refine wpOp_run (v := .bool true) rfl rfl ?_ (fun _ _ => rfl) (Ok.refl _)
    clear hF
    go_simp
  · intro a' w' hF hR
    have e10 : a'.tmps[10]? = some (.pointer (some ⟨h, 0, none⟩)) := hF.slot 10 (by kernel_rfl) rfl
    obtain ⟨vg, hvg, eg⟩ := hF.get 15 55 (by kernel_rfl) (by kernel_rfl)
    obtain rfl : vg = _ := hvg _ (Ok.refl _)
    refine wpOp_runG (v := .pointer (some ⟨h, 1, none⟩)) rfl (wanted_yes rfl (by kernel_rfl) eg) ?_ (fun _ _ => rfl) (Ok.refl _)
    clear hF
    go_simp
  · intro a' w' hF hR
    obtain ⟨v16, hv16, e56⟩ := hF.get 16 56 (by kernel_rfl) (by kernel_rfl)
    obtain rfl : v16 = _ := hv16 _ (Ok.refl _)
    obtain ⟨vg, hvg, eg⟩ := hF.get 15 55 (by kernel_rfl) (by kernel_rfl)
    obtain rfl : vg = _ := hvg _ (Ok.refl _)
    have e0 := (HH.out _ hR).c0
    have e1 := (HH.out _ hR).c1
    refine wpOp_runG (v := .int .i64 y2) rfl (wanted_yes rfl (by kernel_rfl) eg) ?_ (fun _ _ => rfl) (Ok.refl _)
    clear hF
    go_simp
  · intro a' w' hF hR
    have e10 : a'.tmps[10]? = some (.pointer (some ⟨h, 0, none⟩)) := hF.slot 10 (by kernel_rfl) rfl
    obtain ⟨vg, hvg, eg⟩ := hF.get 15 55 (by kernel_rfl) (by kernel_rfl)
    obtain rfl : vg = _ := hvg _ (Ok.refl _)
    refine wpOp_runG (v := .pointer (some ⟨h, 0, none⟩)) rfl (wanted_yes rfl (by kernel_rfl) eg) ?_ (fun _ _ => rfl) (Ok.refl _)
    clear hF
    go_simp
  · intro a' w' hF hR
    obtain ⟨v18, hv18, e58⟩ := hF.get 18 58 (by kernel_rfl) (by kernel_rfl)
    obtain rfl : v18 = _ := hv18 _ (Ok.refl _)
    obtain ⟨vg, hvg, eg⟩ := hF.get 15 55 (by kernel_rfl) (by kernel_rfl)
    obtain rfl : vg = _ := hvg _ (Ok.refl _)
    have e0 := (HH.out _ hR).c0
    have e1 := (HH.out _ hR).c1
    refine wpOp_runG (v := .int .i64 x2) rfl (wanted_yes rfl (by kernel_rfl) eg) ?_ (fun _ _ => rfl) (Ok.refl _)
    clear hF
    go_simp
  · intro a' w' hF hR
    obtain ⟨v17, hv17, e57⟩ := hF.get 17 57 (by kernel_rfl) (by kernel_rfl)
    obtain rfl : v17 = _ := hv17 _ (Ok.refl _)
    obtain ⟨v19, hv19, e59⟩ := hF.get 19 59 (by kernel_rfl) (by kernel_rfl)
    obtain rfl : v19 = _ := hv19 _ (Ok.refl _)
    obtain ⟨vg, hvg, eg⟩ := hF.get 15 55 (by kernel_rfl) (by kernel_rfl)
    obtain rfl : vg = _ := hvg _ (Ok.refl _)
    refine wpOp_runG (v := .int .i64 d2) rfl (wanted_yes rfl (by kernel_rfl) eg) ?_ (fun _ _ => rfl) (Ok.refl _)
    clear hF
    go_simp
  · intro a' w' hF hR
    have e4 : a'.tmps[4]? = some (.pointer (some ⟨S, 0, none⟩)) := hF.slot 4 (by kernel_rfl) rfl
    obtain ⟨vg, hvg, eg⟩ := hF.get 15 55 (by kernel_rfl) (by kernel_rfl)
    obtain rfl : vg = _ := hvg _ (Ok.refl _)
    refine wpOp_runG (v := .pointer (some ⟨S, 1, none⟩)) rfl (wanted_yes rfl (by kernel_rfl) eg) ?_ (fun _ _ => rfl) (Ok.refl _)
    clear hF
    go_simp
  · intro a' w' hF hR
    obtain ⟨v21, hv21, e61⟩ := hF.get 21 61 (by kernel_rfl) (by kernel_rfl)
    obtain rfl : v21 = _ := hv21 _ (Ok.refl _)
    obtain ⟨vg, hvg, eg⟩ := hF.get 15 55 (by kernel_rfl) (by kernel_rfl)
    obtain rfl : vg = _ := hvg _ (Ok.refl _)
    have d0 := (HS.out _ hR).c0
    have d1 := (HS.out _ hR).c1
    refine wpOp_runG (v := .int .i64 b) rfl (wanted_yes rfl (by kernel_rfl) eg) ?_ (fun _ _ => rfl) (Ok.refl _)
    clear hF
    go_simp
  · intro a' w' hF hR
    have e4 : a'.tmps[4]? = some (.pointer (some ⟨S, 0, none⟩)) := hF.slot 4 (by kernel_rfl) rfl
    obtain ⟨vg, hvg, eg⟩ := hF.get 15 55 (by kernel_rfl) (by kernel_rfl)
    obtain rfl : vg = _ := hvg _ (Ok.refl _)
    refine wpOp_runG (v := .pointer (some ⟨S, 0, none⟩)) rfl (wanted_yes rfl (by kernel_rfl) eg) ?_ (fun _ _ => rfl) (Ok.refl _)
    clear hF
    go_simp
  · intro a' w' hF hR
    obtain ⟨v23, hv23, e63⟩ := hF.get 23 63 (by kernel_rfl) (by kernel_rfl)
    obtain rfl : v23 = _ := hv23 _ (Ok.refl _)
    obtain ⟨vg, hvg, eg⟩ := hF.get 15 55 (by kernel_rfl) (by kernel_rfl)
    obtain rfl : vg = _ := hvg _ (Ok.refl _)
    have d0 := (HS.out _ hR).c0
    have d1 := (HS.out _ hR).c1
    refine wpOp_runG (v := .int .i64 a) rfl (wanted_yes rfl (by kernel_rfl) eg) ?_ (fun _ _ => rfl) (Ok.refl _)
    clear hF
    go_simp
  · intro a' w' hF hR
    obtain ⟨v22, hv22, e62⟩ := hF.get 22 62 (by kernel_rfl) (by kernel_rfl)
    obtain rfl : v22 = _ := hv22 _ (Ok.refl _)
    obtain ⟨v24, hv24, e64⟩ := hF.get 24 64 (by kernel_rfl) (by kernel_rfl)
    obtain rfl : v24 = _ := hv24 _ (Ok.refl _)
    obtain ⟨vg, hvg, eg⟩ := hF.get 15 55 (by kernel_rfl) (by kernel_rfl)
    obtain rfl : vg = _ := hvg _ (Ok.refl _)
    refine wpOp_runG (v := .int .i64 ee) rfl (wanted_yes rfl (by kernel_rfl) eg) ?_ (fun _ _ => rfl) (Ok.refl _)
    clear hF
    go_simp
  · intro a' w' hF hR
    have e3 : a'.tmps[3]? = some (.pointer (some ⟨B, 0, none⟩)) := hF.slot 3 (by kernel_rfl) rfl
    obtain ⟨vg, hvg, eg⟩ := hF.get 15 55 (by kernel_rfl) (by kernel_rfl)
    obtain rfl : vg = _ := hvg _ (Ok.refl _)
    obtain ⟨c0, c1, c2, c3, c4, c5, c6, c7, c8, c9, c10, c11⟩ := (HP.out _ hR).pars
    refine wpOp_runG (v := parV p) rfl (wanted_yes rfl (by kernel_rfl) eg) ?_ (fun _ _ => rfl) (Ok.refl _)
    clear hF
    go_simp
  · intro a' w' hF hR
    obtain ⟨v26, hv26, e66⟩ := hF.get 26 66 (by kernel_rfl) (by kernel_rfl)
    obtain rfl : v26 = _ := hv26 _ (Ok.refl _)
    obtain ⟨vg, hvg, eg⟩ := hF.get 15 55 (by kernel_rfl) (by kernel_rfl)
    obtain rfl : vg = _ := hvg _ (Ok.refl _)
    refine wpOp_callG (f := 19) (args := #[parV p]) rfl (wanted_yes rfl (by kernel_rfl) eg) ?_ ((KH.out _).mono ?_)
    · go_simp
    · rintro e w2 ⟨rfl, hb2⟩; exact ⟨_, rfl, fun _ _ => rfl, hb2⟩
  · intro a' w' hF hR
    obtain ⟨v25, hv25, e65⟩ := hF.get 25 65 (by kernel_rfl) (by kernel_rfl)
    obtain rfl : v25 = _ := hv25 _ (Ok.refl _)
    obtain ⟨v27, hv27, e67⟩ := hF.get 27 67 (by kernel_rfl) (by kernel_rfl)
    obtain rfl : v27 = _ := hv27 _ (Ok.refl _)
    obtain ⟨vg, hvg, eg⟩ := hF.get 15 55 (by kernel_rfl) (by kernel_rfl)
    obtain rfl : vg = _ := hvg _ (Ok.refl _)
    refine wpOp_runG (v := .int .i64 d2) rfl (wanted_yes rfl (by kernel_rfl) eg) ?_ (fun _ _ => rfl) (Ok.refl _)
    clear hF
    go_simp
  · intro a' w' hF hR
    obtain ⟨v20, hv20, e60⟩ := hF.get 20 60 (by kernel_rfl) (by kernel_rfl)
    obtain rfl : v20 = _ := hv20 _ (Ok.refl _)
    obtain ⟨v28, hv28, e68⟩ := hF.get 28 68 (by kernel_rfl) (by kernel_rfl)
    obtain rfl : v28 = _ := hv28 _ (Ok.refl _)
    obtain ⟨vg, hvg, eg⟩ := hF.get 15 55 (by kernel_rfl) (by kernel_rfl)
    obtain rfl : vg = _ := hvg _ (Ok.refl _)
    refine wpOp_runG (v := .bool true) rfl (wanted_yes rfl (by kernel_rfl) eg) ?_ (fun _ _ => rfl) (Ok.refl _)
    clear hF
    go_simp
  · intro a' w' hF hR
    obtain ⟨v15, hv15, e55⟩ := hF.get 15 55 (by kernel_rfl) (by kernel_rfl)
    obtain rfl : v15 = _ := hv15 _ (Ok.refl _)
    obtain ⟨v29, hv29, e69⟩ := hF.get 29 69 (by kernel_rfl) (by kernel_rfl)
    obtain rfl : v29 = _ := hv29 _ (Ok.refl _)
    refine wpOp_run (v := .bool true) rfl rfl ?_ (fun _ _ => rfl) (Ok.refl _)
    clear hF
    go_simp
  · intro a' w' hF hR
    obtain ⟨v30, hv30, e70⟩ := hF.get 30 70 (by kernel_rfl) (by kernel_rfl)
    obtain rfl : v30 = _ := hv30 _ (Ok.refl _)
    refine wpOp_run (v := .bool true) rfl rfl ?_ (fun _ _ => rfl) (Ok.refl _)
    clear hF
    go_simp
  intro vs2 w' hV hR
  have e31 : vs2 31 = .bool true := hV 31 (by decide) _ (Ok.refl _)
  have hok2 := HOK.out.trans ((Ok.refl W3).drew.trans hR)
  clear hV HP HS HG HH KH q1 q2 q3 q4 q5 q6
  simp only [putFrom, e31]
  simp only [Act.put, List.setIfInBounds_toArray, List.set_cons_zero, List.set_cons_succ]
  go_wp2
  go_ret
  exact ⟨rfl, hok2⟩
theorem walk (w : World) (p : Par) (_wp : ParWf p) (a b : Int) (_wa : (Lit.int .i64 a).wf = true) (_wb : (Lit.int .i64 b).wf = true) (m : Int) (_w0 : (Lit.int .i64 m).wf = true) :
    Calls Try.prog 7 #[parV p, spanV a b, .int .i64 m] w fun e w' => e = .returned (.bool true) ∧ Below w.heap.size w w' := by
  show Calls Try.prog 7 #[parV p, spanV a b, .int .i64 m] w fun e w' => e = .returned (.bool true) ∧ Ok w w' 
  by_cases hm : Lim.May p
  rotate_left
  · exact no0 w p a b m hm
  by_cases k0 : 576460752303423488 < a
  · exact far00 w p a b m hm k0
  by_cases m0 : a < -576460752303423488
  · exact far01 w p a b m hm m0
  have g0 : a ≤ 576460752303423488 ∧ -576460752303423488 ≤ a := by omega
  by_cases k1 : 576460752303423488 < b
  · exact far10 w p a b m hm g0 k1
  by_cases m1 : b < -576460752303423488
  · exact far11 w p a b m hm g0 m1
  have g1 : b ≤ 576460752303423488 ∧ -576460752303423488 ≤ b := by omega
  by_cases k2 : 576460752303423488 < m
  · exact far20 w p a b m hm g0 g1 k2
  by_cases m2 : m < -576460752303423488
  · exact far21 w p a b m hm g0 g1 m2
  have g2 : m ≤ 576460752303423488 ∧ -576460752303423488 ≤ m := by omega
  exact yes w p a b m hm g0 g1 g2
theorem own : ownKnob Try.prog.godebug = none := by kernel_rfl
theorem laidOut : laidOutB Try.prog = true := by kernel_rfl
set_option maxRecDepth 100000 in
theorem lifted (os : Os) (started : os.Started) (H : Type) (enc : TypeId × Value → H) :
    ReturnsInHanded {} Try.checked os 7 .any (Rows.carryWidensSpec.pre6 enc Try.prog Try.f7 Rows.carryWidensRow.domain false) (Rows.carryWidensSpec.post enc Try.prog Try.f7 false true false false) := by
  refine returnsInHanded_of_change (C := Try.checked) own started (by kernel_rfl) Try.func7
    (ChangeSpec.witness6 (enc := enc) (C := Try.checked) false ⟨#[], #[.agg #[.int .i64 0, .int .i64 0, .int .i64 0, .int .i64 0, .int .i64 0, .int .i64 0, .int .i64 0, .int .i64 0, .int .i64 0, .int .i64 0, .int .i64 0, .int .i64 0], .agg #[.int .i64 0, .int .i64 0], .int .i64 0], []⟩ 8 (by kernel_rfl) (by kernel_rfl) (by kernel_rfl) (by kernel_rfl)) ?_
  intro W base args ds gs before hval0 hW _ _
  have hval : ∀ (j : Nat) t v, Try.f7.params[j]? = some t → args[j]? = some v → Value.okWide Try.prog W .any base t v := hval0
  have hW' := hW
  obtain ⟨p, q, hA, hV, rfl, _, _⟩ := hW
  obtain ⟨rfl, rfl⟩ := trodVars_none hV
  replace hA : DataW.TrodAll enc Try.prog W 0 (fun _ => true) true Try.f7.params.toList args.toList ds p := hA
  rw [Try.params7] at hA hval
  obtain ⟨v0, vs0, d0, ds0, p0, q0, hargs, rfl, rfl, h0, r0⟩ := trodAll_cons hA
  obtain ⟨v1, vs1, d1, ds1, p1, q1, rfl, rfl, rfl, h1, r1⟩ := trodAll_cons r0
  obtain ⟨v2, vs2, d2, ds2, p2, q2, rfl, rfl, rfl, h2, r2⟩ := trodAll_cons r1
  obtain ⟨rfl, rfl, rfl⟩ := trodAll_nil r2
  obtain rfl : args = #[v0, v1, v2] := by cases args; simp_all
  obtain ⟨p0, rfl, wp0⟩ := open_par Try.underlying23 rfl (by kernel_rfl) (by kernel_rfl) (by kernel_rfl) (hval 0 23 v0 rfl rfl) h0
  obtain ⟨s1_0, s1_1, rfl, ws1_0, ws1_1⟩ := open_pair Try.underlying25 (by kernel_rfl) (by kernel_rfl) (by kernel_rfl) (by kernel_rfl) (hval 1 25 v1 rfl rfl) h1
  obtain ⟨a2, rfl, rfl, rfl, w2⟩ := open_int Try.underlying3 (hval 2 3 v2 rfl rfl) h2
  refine (walk W p0 wp0 s1_0 s1_1 ws1_0 ws1_1 a2 w2).mono fun e W' ⟨he, hb⟩ => ?_
  subst he
  exact ⟨_, rfl, law_post hW' laidOut (by rw [Try.params7]; exact params_ok (by kernel_rfl)) rfl (by kernel_rfl) Try.underlying4 rfl rfl rfl hb⟩
theorem over : Rows.carryWidensRow.holds Try.pinned (OpenSpec.ofChange Rows.carryWidensSpec) :=
  OpenClaim.holds_of_wide 7 Try.f7 rfl rfl rfl rfl rfl rfl rfl ⟨rfl, rfl, rfl, rfl, rfl⟩ rfl rfl rfl rfl rfl (by kernel_rfl) Try.func7 (by kernel_rfl)
    (of_decide_eq_true (by kernel_rfl)) (by unfold Func.isWrapper; first | (rw [if_pos (by decide +kernel)]; kernel_rfl) | (rw [if_neg (by decide +kernel)]; exact ⟨rfl, rfl⟩))
    (fun os started H enc _ => lifted os started H enc)
theorem proved : Rows.CarryWidensSaid := over
end Go.Proofs.Yteoilfeldehldaa.carryWidens
