/- SlewRate: for all numbers the law answers true: a set clock that may not jump goes on by the ticks, and the slewing's bound more or less at most, and never past where it is brought to. No condition. -/
import Derived.Test.YtcknnlekkbekmaaC12c
import Derived.Test.YtcknnlekkbekmaaW06
import Derived.Test.YtcknnlekkbekmaaW32
namespace Go.Proofs.Ytcknnlekkbekmaa.slewRate
open Go.ChangeShapes Go.WideShapes Go.ChangeAt Go.RowKit
set_option linter.unusedVariables false
set_option maxRecDepth 100000
attribute [local go_sem ↓] Go.wp_at_zero Go.wp_at_succ
theorem no0 (W0 : World) (p : Par) (t : Int) (s : Bool) (ticks to : Int) (hm : ¬ Lim.May p) : Calls Try.prog 4 #[parV p, clockV t s, .int .i64 ticks, .int .i64 to] W0 fun e w' => e = .returned (.bool true) ∧ Ok W0 w' := by
  have HP := Lib.hid ((Own.new W0 (parCells p) 23 rfl).alloc (.cells #[.int .i64 t, .bool s] 25))
  have HC := Lib.hid (Own.new (W0.alloc (.cells (parCells p) 23)) #[.int .i64 t, .bool s] 25 (g := W0.heap.size + 1) (by simp))
  have HK := Lib.hid (((Ok.refl W0).alloc (.cells (parCells p) 23)).alloc (.cells #[.int .i64 t, .bool s] 25))
  have KC := Lib.hid fun w => limCheck p w
  rw [show Lim.check p = 1 from if_neg hm] at KC
  clear hm
  go_enter Try.func4, Try.ntmps4
  go_wp2_with (first | (go_at_call 8; (with_reducible refine (law12Alive _).mono ?_); rintro e w1 ⟨rfl, hb1⟩; have hP := HP.out.next hb1; have hC := HC.out.next hb1; have hok := HK.out.trans hb1; clear hb1 HP HC HK; obtain ⟨c0, c1, c2, c3, c4, c5, c6, c7, c8, c9, c10, c11⟩ := hP.pars; have d0 := hC.cell 0 rfl; have d1 := hC.cell 1 rfl; have hPl := hP.lt; have hCl := hC.lt) | (go_at_call 14; (with_reducible refine (KC.out _).mono ?_); rintro e w2 ⟨rfl, hb1⟩; clear c0 c1 c2 c3 c4 c5 c6 c7 c8 c9 c10 c11 d0 d1 hPl hCl; replace hP := hP.next hb1; replace hC := hC.next hb1; replace hok := hok.trans hb1; clear hb1; obtain ⟨c0, c1, c2, c3, c4, c5, c6, c7, c8, c9, c10, c11⟩ := hP.pars; have d0 := hC.cell 0 rfl; have d1 := hC.cell 1 rfl; have hPl := hP.lt; have hCl := hC.lt))
  go_ret
  exact ⟨rfl, hok⟩
theorem no1 (W0 : World) (p : Par) (t : Int) (s : Bool) (ticks to : Int) (hm : Lim.May p) (h0 : s = false) : Calls Try.prog 4 #[parV p, clockV t s, .int .i64 ticks, .int .i64 to] W0 fun e w' => e = .returned (.bool true) ∧ Ok W0 w' := by
  have HP := Lib.hid ((Own.new W0 (parCells p) 23 rfl).alloc (.cells #[.int .i64 t, .bool s] 25))
  have HC := Lib.hid (Own.new (W0.alloc (.cells (parCells p) 23)) #[.int .i64 t, .bool s] 25 (g := W0.heap.size + 1) (by simp))
  have HK := Lib.hid (((Ok.refl W0).alloc (.cells (parCells p) 23)).alloc (.cells #[.int .i64 t, .bool s] 25))
  have KC := Lib.hid fun w => limCheck p w
  subst h0
  rw [show Lim.check p = 0 from if_pos hm] at KC
  obtain ⟨⟨m1, m2⟩, ⟨m3, m4⟩, m5, m6⟩ := Slew.mu_bds hm
  clear hm
  go_enter Try.func4, Try.ntmps4
  go_wp2_with (first | (go_at_call 8; (with_reducible refine (law12Alive _).mono ?_); rintro e w1 ⟨rfl, hb1⟩; have hP := HP.out.next hb1; have hC := HC.out.next hb1; have hok := HK.out.trans hb1; clear hb1 HP HC HK; obtain ⟨c0, c1, c2, c3, c4, c5, c6, c7, c8, c9, c10, c11⟩ := hP.pars; have d0 := hC.cell 0 rfl; have d1 := hC.cell 1 rfl; have hPl := hP.lt; have hCl := hC.lt) | (go_at_call 14; (with_reducible refine (KC.out _).mono ?_); rintro e w2 ⟨rfl, hb1⟩; clear c0 c1 c2 c3 c4 c5 c6 c7 c8 c9 c10 c11 d0 d1 hPl hCl; replace hP := hP.next hb1; replace hC := hC.next hb1; replace hok := hok.trans hb1; clear hb1; obtain ⟨c0, c1, c2, c3, c4, c5, c6, c7, c8, c9, c10, c11⟩ := hP.pars; have d0 := hC.cell 0 rfl; have d1 := hC.cell 1 rfl; have hPl := hP.lt; have hCl := hC.lt))
  go_ret
  exact ⟨rfl, hok⟩
theorem far00 (W0 : World) (p : Par) (t : Int) (s : Bool) (ticks to : Int) (hm : Lim.May p) (h0 : s = true) (g0 : 288230376151711744 < t) : Calls Try.prog 4 #[parV p, clockV t s, .int .i64 ticks, .int .i64 to] W0 fun e w' => e = .returned (.bool true) ∧ Ok W0 w' := by
  have HP := Lib.hid ((Own.new W0 (parCells p) 23 rfl).alloc (.cells #[.int .i64 t, .bool s] 25))
  have HC := Lib.hid (Own.new (W0.alloc (.cells (parCells p) 23)) #[.int .i64 t, .bool s] 25 (g := W0.heap.size + 1) (by simp))
  have HK := Lib.hid (((Ok.refl W0).alloc (.cells (parCells p) 23)).alloc (.cells #[.int .i64 t, .bool s] 25))
  have KC := Lib.hid fun w => limCheck p w
  subst h0
  rw [show Lim.check p = 0 from if_pos hm] at KC
  obtain ⟨⟨m1, m2⟩, ⟨m3, m4⟩, m5, m6⟩ := Slew.mu_bds hm
  clear hm
  have n0 : ∀ (w : World), (Instr.index 34 (.agg #[.int .i64 t, .int .i64 ticks, .int .i64 to]) (.int .i64 0)).run Try.prog w = .ok (.int .i64 t) w := fun _ => by kernel_rfl
  have n1 : ∀ (w : World), (Instr.index 34 (.agg #[.int .i64 t, .int .i64 ticks, .int .i64 to]) (.int .i64 1)).run Try.prog w = .ok (.int .i64 ticks) w := fun _ => by kernel_rfl
  have n2 : ∀ (w : World), (Instr.index 34 (.agg #[.int .i64 t, .int .i64 ticks, .int .i64 to]) (.int .i64 2)).run Try.prog w = .ok (.int .i64 to) w := fun _ => by kernel_rfl
  go_enter Try.func4, Try.ntmps4
  go_wp2_with (first | (go_at_call 8; (with_reducible refine (law12Alive _).mono ?_); rintro e w1 ⟨rfl, hb1⟩; have hP := HP.out.next hb1; have hC := HC.out.next hb1; have hok := HK.out.trans hb1; clear hb1 HP HC HK; obtain ⟨c0, c1, c2, c3, c4, c5, c6, c7, c8, c9, c10, c11⟩ := hP.pars; have d0 := hC.cell 0 rfl; have d1 := hC.cell 1 rfl; have hPl := hP.lt; have hCl := hC.lt) | (go_at_call 14; (with_reducible refine (KC.out _).mono ?_); rintro e w2 ⟨rfl, hb1⟩; clear c0 c1 c2 c3 c4 c5 c6 c7 c8 c9 c10 c11 d0 d1 hPl hCl; replace hP := hP.next hb1; replace hC := hC.next hb1; replace hok := hok.trans hb1; clear hb1; obtain ⟨c0, c1, c2, c3, c4, c5, c6, c7, c8, c9, c10, c11⟩ := hP.pars; have d0 := hC.cell 0 rfl; have d1 := hC.cell 1 rfl; have hPl := hP.lt; have hCl := hC.lt))
  refine wp_loop_rounds 4 ?_
  repeat' (rw [rounds_succ]; go_wp2_with fail)
  go_ret
  exact ⟨rfl, hok⟩
theorem far01 (W0 : World) (p : Par) (t : Int) (s : Bool) (ticks to : Int) (hm : Lim.May p) (h0 : s = true) (g0 : t < -288230376151711744) : Calls Try.prog 4 #[parV p, clockV t s, .int .i64 ticks, .int .i64 to] W0 fun e w' => e = .returned (.bool true) ∧ Ok W0 w' := by
  have HP := Lib.hid ((Own.new W0 (parCells p) 23 rfl).alloc (.cells #[.int .i64 t, .bool s] 25))
  have HC := Lib.hid (Own.new (W0.alloc (.cells (parCells p) 23)) #[.int .i64 t, .bool s] 25 (g := W0.heap.size + 1) (by simp))
  have HK := Lib.hid (((Ok.refl W0).alloc (.cells (parCells p) 23)).alloc (.cells #[.int .i64 t, .bool s] 25))
  have KC := Lib.hid fun w => limCheck p w
  subst h0
  rw [show Lim.check p = 0 from if_pos hm] at KC
  obtain ⟨⟨m1, m2⟩, ⟨m3, m4⟩, m5, m6⟩ := Slew.mu_bds hm
  clear hm
  have n0 : ∀ (w : World), (Instr.index 34 (.agg #[.int .i64 t, .int .i64 ticks, .int .i64 to]) (.int .i64 0)).run Try.prog w = .ok (.int .i64 t) w := fun _ => by kernel_rfl
  have n1 : ∀ (w : World), (Instr.index 34 (.agg #[.int .i64 t, .int .i64 ticks, .int .i64 to]) (.int .i64 1)).run Try.prog w = .ok (.int .i64 ticks) w := fun _ => by kernel_rfl
  have n2 : ∀ (w : World), (Instr.index 34 (.agg #[.int .i64 t, .int .i64 ticks, .int .i64 to]) (.int .i64 2)).run Try.prog w = .ok (.int .i64 to) w := fun _ => by kernel_rfl
  go_enter Try.func4, Try.ntmps4
  go_wp2_with (first | (go_at_call 8; (with_reducible refine (law12Alive _).mono ?_); rintro e w1 ⟨rfl, hb1⟩; have hP := HP.out.next hb1; have hC := HC.out.next hb1; have hok := HK.out.trans hb1; clear hb1 HP HC HK; obtain ⟨c0, c1, c2, c3, c4, c5, c6, c7, c8, c9, c10, c11⟩ := hP.pars; have d0 := hC.cell 0 rfl; have d1 := hC.cell 1 rfl; have hPl := hP.lt; have hCl := hC.lt) | (go_at_call 14; (with_reducible refine (KC.out _).mono ?_); rintro e w2 ⟨rfl, hb1⟩; clear c0 c1 c2 c3 c4 c5 c6 c7 c8 c9 c10 c11 d0 d1 hPl hCl; replace hP := hP.next hb1; replace hC := hC.next hb1; replace hok := hok.trans hb1; clear hb1; obtain ⟨c0, c1, c2, c3, c4, c5, c6, c7, c8, c9, c10, c11⟩ := hP.pars; have d0 := hC.cell 0 rfl; have d1 := hC.cell 1 rfl; have hPl := hP.lt; have hCl := hC.lt))
  refine wp_loop_rounds 4 ?_
  repeat' (rw [rounds_succ]; go_wp2_with fail)
  go_ret
  exact ⟨rfl, hok⟩
theorem far10 (W0 : World) (p : Par) (t : Int) (s : Bool) (ticks to : Int) (hm : Lim.May p) (h0 : s = true) (g0 : t ≤ 288230376151711744 ∧ -288230376151711744 ≤ t) (g1 : 288230376151711744 < ticks) : Calls Try.prog 4 #[parV p, clockV t s, .int .i64 ticks, .int .i64 to] W0 fun e w' => e = .returned (.bool true) ∧ Ok W0 w' := by
  have HP := Lib.hid ((Own.new W0 (parCells p) 23 rfl).alloc (.cells #[.int .i64 t, .bool s] 25))
  have HC := Lib.hid (Own.new (W0.alloc (.cells (parCells p) 23)) #[.int .i64 t, .bool s] 25 (g := W0.heap.size + 1) (by simp))
  have HK := Lib.hid (((Ok.refl W0).alloc (.cells (parCells p) 23)).alloc (.cells #[.int .i64 t, .bool s] 25))
  have KC := Lib.hid fun w => limCheck p w
  subst h0
  rw [show Lim.check p = 0 from if_pos hm] at KC
  obtain ⟨⟨m1, m2⟩, ⟨m3, m4⟩, m5, m6⟩ := Slew.mu_bds hm
  clear hm
  have n0 : ∀ (w : World), (Instr.index 34 (.agg #[.int .i64 t, .int .i64 ticks, .int .i64 to]) (.int .i64 0)).run Try.prog w = .ok (.int .i64 t) w := fun _ => by kernel_rfl
  have n1 : ∀ (w : World), (Instr.index 34 (.agg #[.int .i64 t, .int .i64 ticks, .int .i64 to]) (.int .i64 1)).run Try.prog w = .ok (.int .i64 ticks) w := fun _ => by kernel_rfl
  have n2 : ∀ (w : World), (Instr.index 34 (.agg #[.int .i64 t, .int .i64 ticks, .int .i64 to]) (.int .i64 2)).run Try.prog w = .ok (.int .i64 to) w := fun _ => by kernel_rfl
  go_enter Try.func4, Try.ntmps4
  go_wp2_with (first | (go_at_call 8; (with_reducible refine (law12Alive _).mono ?_); rintro e w1 ⟨rfl, hb1⟩; have hP := HP.out.next hb1; have hC := HC.out.next hb1; have hok := HK.out.trans hb1; clear hb1 HP HC HK; obtain ⟨c0, c1, c2, c3, c4, c5, c6, c7, c8, c9, c10, c11⟩ := hP.pars; have d0 := hC.cell 0 rfl; have d1 := hC.cell 1 rfl; have hPl := hP.lt; have hCl := hC.lt) | (go_at_call 14; (with_reducible refine (KC.out _).mono ?_); rintro e w2 ⟨rfl, hb1⟩; clear c0 c1 c2 c3 c4 c5 c6 c7 c8 c9 c10 c11 d0 d1 hPl hCl; replace hP := hP.next hb1; replace hC := hC.next hb1; replace hok := hok.trans hb1; clear hb1; obtain ⟨c0, c1, c2, c3, c4, c5, c6, c7, c8, c9, c10, c11⟩ := hP.pars; have d0 := hC.cell 0 rfl; have d1 := hC.cell 1 rfl; have hPl := hP.lt; have hCl := hC.lt))
  refine wp_loop_rounds 4 ?_
  repeat' (rw [rounds_succ]; go_wp2_with fail)
  go_ret
  exact ⟨rfl, hok⟩
theorem far11 (W0 : World) (p : Par) (t : Int) (s : Bool) (ticks to : Int) (hm : Lim.May p) (h0 : s = true) (g0 : t ≤ 288230376151711744 ∧ -288230376151711744 ≤ t) (g1 : ticks < -288230376151711744) : Calls Try.prog 4 #[parV p, clockV t s, .int .i64 ticks, .int .i64 to] W0 fun e w' => e = .returned (.bool true) ∧ Ok W0 w' := by
  have HP := Lib.hid ((Own.new W0 (parCells p) 23 rfl).alloc (.cells #[.int .i64 t, .bool s] 25))
  have HC := Lib.hid (Own.new (W0.alloc (.cells (parCells p) 23)) #[.int .i64 t, .bool s] 25 (g := W0.heap.size + 1) (by simp))
  have HK := Lib.hid (((Ok.refl W0).alloc (.cells (parCells p) 23)).alloc (.cells #[.int .i64 t, .bool s] 25))
  have KC := Lib.hid fun w => limCheck p w
  subst h0
  rw [show Lim.check p = 0 from if_pos hm] at KC
  obtain ⟨⟨m1, m2⟩, ⟨m3, m4⟩, m5, m6⟩ := Slew.mu_bds hm
  clear hm
  have n0 : ∀ (w : World), (Instr.index 34 (.agg #[.int .i64 t, .int .i64 ticks, .int .i64 to]) (.int .i64 0)).run Try.prog w = .ok (.int .i64 t) w := fun _ => by kernel_rfl
  have n1 : ∀ (w : World), (Instr.index 34 (.agg #[.int .i64 t, .int .i64 ticks, .int .i64 to]) (.int .i64 1)).run Try.prog w = .ok (.int .i64 ticks) w := fun _ => by kernel_rfl
  have n2 : ∀ (w : World), (Instr.index 34 (.agg #[.int .i64 t, .int .i64 ticks, .int .i64 to]) (.int .i64 2)).run Try.prog w = .ok (.int .i64 to) w := fun _ => by kernel_rfl
  go_enter Try.func4, Try.ntmps4
  go_wp2_with (first | (go_at_call 8; (with_reducible refine (law12Alive _).mono ?_); rintro e w1 ⟨rfl, hb1⟩; have hP := HP.out.next hb1; have hC := HC.out.next hb1; have hok := HK.out.trans hb1; clear hb1 HP HC HK; obtain ⟨c0, c1, c2, c3, c4, c5, c6, c7, c8, c9, c10, c11⟩ := hP.pars; have d0 := hC.cell 0 rfl; have d1 := hC.cell 1 rfl; have hPl := hP.lt; have hCl := hC.lt) | (go_at_call 14; (with_reducible refine (KC.out _).mono ?_); rintro e w2 ⟨rfl, hb1⟩; clear c0 c1 c2 c3 c4 c5 c6 c7 c8 c9 c10 c11 d0 d1 hPl hCl; replace hP := hP.next hb1; replace hC := hC.next hb1; replace hok := hok.trans hb1; clear hb1; obtain ⟨c0, c1, c2, c3, c4, c5, c6, c7, c8, c9, c10, c11⟩ := hP.pars; have d0 := hC.cell 0 rfl; have d1 := hC.cell 1 rfl; have hPl := hP.lt; have hCl := hC.lt))
  refine wp_loop_rounds 4 ?_
  repeat' (rw [rounds_succ]; go_wp2_with fail)
  go_ret
  exact ⟨rfl, hok⟩
theorem far20 (W0 : World) (p : Par) (t : Int) (s : Bool) (ticks to : Int) (hm : Lim.May p) (h0 : s = true) (g0 : t ≤ 288230376151711744 ∧ -288230376151711744 ≤ t) (g1 : ticks ≤ 288230376151711744 ∧ -288230376151711744 ≤ ticks) (g2 : 288230376151711744 < to) : Calls Try.prog 4 #[parV p, clockV t s, .int .i64 ticks, .int .i64 to] W0 fun e w' => e = .returned (.bool true) ∧ Ok W0 w' := by
  have HP := Lib.hid ((Own.new W0 (parCells p) 23 rfl).alloc (.cells #[.int .i64 t, .bool s] 25))
  have HC := Lib.hid (Own.new (W0.alloc (.cells (parCells p) 23)) #[.int .i64 t, .bool s] 25 (g := W0.heap.size + 1) (by simp))
  have HK := Lib.hid (((Ok.refl W0).alloc (.cells (parCells p) 23)).alloc (.cells #[.int .i64 t, .bool s] 25))
  have KC := Lib.hid fun w => limCheck p w
  subst h0
  rw [show Lim.check p = 0 from if_pos hm] at KC
  obtain ⟨⟨m1, m2⟩, ⟨m3, m4⟩, m5, m6⟩ := Slew.mu_bds hm
  clear hm
  have n0 : ∀ (w : World), (Instr.index 34 (.agg #[.int .i64 t, .int .i64 ticks, .int .i64 to]) (.int .i64 0)).run Try.prog w = .ok (.int .i64 t) w := fun _ => by kernel_rfl
  have n1 : ∀ (w : World), (Instr.index 34 (.agg #[.int .i64 t, .int .i64 ticks, .int .i64 to]) (.int .i64 1)).run Try.prog w = .ok (.int .i64 ticks) w := fun _ => by kernel_rfl
  have n2 : ∀ (w : World), (Instr.index 34 (.agg #[.int .i64 t, .int .i64 ticks, .int .i64 to]) (.int .i64 2)).run Try.prog w = .ok (.int .i64 to) w := fun _ => by kernel_rfl
  go_enter Try.func4, Try.ntmps4
  go_wp2_with (first | (go_at_call 8; (with_reducible refine (law12Alive _).mono ?_); rintro e w1 ⟨rfl, hb1⟩; have hP := HP.out.next hb1; have hC := HC.out.next hb1; have hok := HK.out.trans hb1; clear hb1 HP HC HK; obtain ⟨c0, c1, c2, c3, c4, c5, c6, c7, c8, c9, c10, c11⟩ := hP.pars; have d0 := hC.cell 0 rfl; have d1 := hC.cell 1 rfl; have hPl := hP.lt; have hCl := hC.lt) | (go_at_call 14; (with_reducible refine (KC.out _).mono ?_); rintro e w2 ⟨rfl, hb1⟩; clear c0 c1 c2 c3 c4 c5 c6 c7 c8 c9 c10 c11 d0 d1 hPl hCl; replace hP := hP.next hb1; replace hC := hC.next hb1; replace hok := hok.trans hb1; clear hb1; obtain ⟨c0, c1, c2, c3, c4, c5, c6, c7, c8, c9, c10, c11⟩ := hP.pars; have d0 := hC.cell 0 rfl; have d1 := hC.cell 1 rfl; have hPl := hP.lt; have hCl := hC.lt))
  refine wp_loop_rounds 4 ?_
  repeat' (rw [rounds_succ]; go_wp2_with fail)
  go_ret
  exact ⟨rfl, hok⟩
theorem far21 (W0 : World) (p : Par) (t : Int) (s : Bool) (ticks to : Int) (hm : Lim.May p) (h0 : s = true) (g0 : t ≤ 288230376151711744 ∧ -288230376151711744 ≤ t) (g1 : ticks ≤ 288230376151711744 ∧ -288230376151711744 ≤ ticks) (g2 : to < -288230376151711744) : Calls Try.prog 4 #[parV p, clockV t s, .int .i64 ticks, .int .i64 to] W0 fun e w' => e = .returned (.bool true) ∧ Ok W0 w' := by
  have HP := Lib.hid ((Own.new W0 (parCells p) 23 rfl).alloc (.cells #[.int .i64 t, .bool s] 25))
  have HC := Lib.hid (Own.new (W0.alloc (.cells (parCells p) 23)) #[.int .i64 t, .bool s] 25 (g := W0.heap.size + 1) (by simp))
  have HK := Lib.hid (((Ok.refl W0).alloc (.cells (parCells p) 23)).alloc (.cells #[.int .i64 t, .bool s] 25))
  have KC := Lib.hid fun w => limCheck p w
  subst h0
  rw [show Lim.check p = 0 from if_pos hm] at KC
  obtain ⟨⟨m1, m2⟩, ⟨m3, m4⟩, m5, m6⟩ := Slew.mu_bds hm
  clear hm
  have n0 : ∀ (w : World), (Instr.index 34 (.agg #[.int .i64 t, .int .i64 ticks, .int .i64 to]) (.int .i64 0)).run Try.prog w = .ok (.int .i64 t) w := fun _ => by kernel_rfl
  have n1 : ∀ (w : World), (Instr.index 34 (.agg #[.int .i64 t, .int .i64 ticks, .int .i64 to]) (.int .i64 1)).run Try.prog w = .ok (.int .i64 ticks) w := fun _ => by kernel_rfl
  have n2 : ∀ (w : World), (Instr.index 34 (.agg #[.int .i64 t, .int .i64 ticks, .int .i64 to]) (.int .i64 2)).run Try.prog w = .ok (.int .i64 to) w := fun _ => by kernel_rfl
  go_enter Try.func4, Try.ntmps4
  go_wp2_with (first | (go_at_call 8; (with_reducible refine (law12Alive _).mono ?_); rintro e w1 ⟨rfl, hb1⟩; have hP := HP.out.next hb1; have hC := HC.out.next hb1; have hok := HK.out.trans hb1; clear hb1 HP HC HK; obtain ⟨c0, c1, c2, c3, c4, c5, c6, c7, c8, c9, c10, c11⟩ := hP.pars; have d0 := hC.cell 0 rfl; have d1 := hC.cell 1 rfl; have hPl := hP.lt; have hCl := hC.lt) | (go_at_call 14; (with_reducible refine (KC.out _).mono ?_); rintro e w2 ⟨rfl, hb1⟩; clear c0 c1 c2 c3 c4 c5 c6 c7 c8 c9 c10 c11 d0 d1 hPl hCl; replace hP := hP.next hb1; replace hC := hC.next hb1; replace hok := hok.trans hb1; clear hb1; obtain ⟨c0, c1, c2, c3, c4, c5, c6, c7, c8, c9, c10, c11⟩ := hP.pars; have d0 := hC.cell 0 rfl; have d1 := hC.cell 1 rfl; have hPl := hP.lt; have hCl := hC.lt))
  refine wp_loop_rounds 4 ?_
  repeat' (rw [rounds_succ]; go_wp2_with fail)
  go_ret
  exact ⟨rfl, hok⟩
set_option maxHeartbeats 3200000 in
theorem yesUp (W0 : World) (p : Par) (t : Int) (s : Bool) (ticks to : Int) (hm : Lim.May p) (h0 : s = true) (g0 : t ≤ 288230376151711744 ∧ -288230376151711744 ≤ t) (g1 : ticks ≤ 288230376151711744 ∧ -288230376151711744 ≤ ticks) (g2 : to ≤ 288230376151711744 ∧ -288230376151711744 ≤ to) (hw : t + ticks ≤ to) : Calls Try.prog 4 #[parV p, clockV t s, .int .i64 ticks, .int .i64 to] W0 fun e w' => e = .returned (.bool true) ∧ Ok W0 w' := by
  have KS := Lib.hid fun w => slewStep p t ticks to w
  have e := Slew.step_in (p := p) (time := t) (ticks := ticks) (to := to) ⟨by have := Slew.mu_bds hm; omega, by have := Slew.mu_bds hm; omega⟩ ⟨g0.2, g0.1⟩ ⟨g1.2, g1.1⟩ ⟨g2.2, g2.1⟩
  have m0 : 0 ≤ p.mu := by have := Slew.mu_bds hm; omega
  have k1 := Slew.by_bd m0 (to - (t + ticks))
  have k2 := Slew.by_between m0 (to - (t + ticks))
  obtain ⟨x, hx⟩ : ∃ x, Slew.step p t ticks to = x := ⟨_, rfl⟩
  rw [hx] at KS e
  clear hx
  generalize Slew.by_ p.mu (to - (t + ticks)) = y at e k1 k2
  have k3 : x - t - ticks ≤ p.mu := by omega
  have k4 : -p.mu ≤ x - t - ticks := by omega
  have k5 : t + ticks ≤ x := by omega
  have k6 : x ≤ to := by omega
  have k7 : -1152921504606846976 ≤ x ∧ x ≤ 1152921504606846976 := by omega
  clear e k1 k2 y
  have HP := Lib.hid ((Own.new W0 (parCells p) 23 rfl).alloc (.cells #[.int .i64 t, .bool s] 25))
  have HC := Lib.hid (Own.new (W0.alloc (.cells (parCells p) 23)) #[.int .i64 t, .bool s] 25 (g := W0.heap.size + 1) (by simp))
  have HK := Lib.hid (((Ok.refl W0).alloc (.cells (parCells p) 23)).alloc (.cells #[.int .i64 t, .bool s] 25))
  have KC := Lib.hid fun w => limCheck p w
  subst h0
  rw [show Lim.check p = 0 from if_pos hm] at KC
  obtain ⟨⟨m1, m2⟩, ⟨m3, m4⟩, m5, m6⟩ := Slew.mu_bds hm
  clear hm
  have n0 : ∀ (w : World), (Instr.index 34 (.agg #[.int .i64 t, .int .i64 ticks, .int .i64 to]) (.int .i64 0)).run Try.prog w = .ok (.int .i64 t) w := fun _ => by kernel_rfl
  have n1 : ∀ (w : World), (Instr.index 34 (.agg #[.int .i64 t, .int .i64 ticks, .int .i64 to]) (.int .i64 1)).run Try.prog w = .ok (.int .i64 ticks) w := fun _ => by kernel_rfl
  have n2 : ∀ (w : World), (Instr.index 34 (.agg #[.int .i64 t, .int .i64 ticks, .int .i64 to]) (.int .i64 2)).run Try.prog w = .ok (.int .i64 to) w := fun _ => by kernel_rfl
  go_enter Try.func4, Try.ntmps4
  go_wp2_with (first | (go_at_call 8; (with_reducible refine (law12Alive _).mono ?_); rintro e w1 ⟨rfl, hb1⟩; have hP := HP.out.next hb1; have hC := HC.out.next hb1; have hok := HK.out.trans hb1; clear hb1 HP HC HK; obtain ⟨c0, c1, c2, c3, c4, c5, c6, c7, c8, c9, c10, c11⟩ := hP.pars; have d0 := hC.cell 0 rfl; have d1 := hC.cell 1 rfl; have hPl := hP.lt; have hCl := hC.lt) | (go_at_call 14; (with_reducible refine (KC.out _).mono ?_); rintro e w2 ⟨rfl, hb1⟩; clear c0 c1 c2 c3 c4 c5 c6 c7 c8 c9 c10 c11 d0 d1 hPl hCl; replace hP := hP.next hb1; replace hC := hC.next hb1; replace hok := hok.trans hb1; clear hb1; obtain ⟨c0, c1, c2, c3, c4, c5, c6, c7, c8, c9, c10, c11⟩ := hP.pars; have d0 := hC.cell 0 rfl; have d1 := hC.cell 1 rfl; have hPl := hP.lt; have hCl := hC.lt))
  refine wp_loop_rounds 4 ?_
  repeat' (rw [rounds_succ]; go_wp2_with ((go_at_call 12; (with_reducible refine (KS.out _).mono ?_); rintro e w3 ⟨rfl, hb1⟩; clear c0 c1 c2 c3 c4 c5 c6 c7 c8 c9 c10 c11 d0 d1 hPl hCl; replace hP := hP.next hb1; replace hC := hC.next hb1; replace hok := hok.trans hb1; clear hb1; obtain ⟨c0, c1, c2, c3, c4, c5, c6, c7, c8, c9, c10, c11⟩ := hP.pars; have d0 := hC.cell 0 rfl; have d1 := hC.cell 1 rfl; have hPl := hP.lt; have hCl := hC.lt)))
  go_ret
  exact ⟨rfl, hok.alloc _⟩
set_option maxHeartbeats 3200000 in
theorem yesDown (W0 : World) (p : Par) (t : Int) (s : Bool) (ticks to : Int) (hm : Lim.May p) (h0 : s = true) (g0 : t ≤ 288230376151711744 ∧ -288230376151711744 ≤ t) (g1 : ticks ≤ 288230376151711744 ∧ -288230376151711744 ≤ ticks) (g2 : to ≤ 288230376151711744 ∧ -288230376151711744 ≤ to) (hw : to < t + ticks) : Calls Try.prog 4 #[parV p, clockV t s, .int .i64 ticks, .int .i64 to] W0 fun e w' => e = .returned (.bool true) ∧ Ok W0 w' := by
  have KS := Lib.hid fun w => slewStep p t ticks to w
  have e := Slew.step_in (p := p) (time := t) (ticks := ticks) (to := to) ⟨by have := Slew.mu_bds hm; omega, by have := Slew.mu_bds hm; omega⟩ ⟨g0.2, g0.1⟩ ⟨g1.2, g1.1⟩ ⟨g2.2, g2.1⟩
  have m0 : 0 ≤ p.mu := by have := Slew.mu_bds hm; omega
  have k1 := Slew.by_bd m0 (to - (t + ticks))
  have k2 := Slew.by_between m0 (to - (t + ticks))
  obtain ⟨x, hx⟩ : ∃ x, Slew.step p t ticks to = x := ⟨_, rfl⟩
  rw [hx] at KS e
  clear hx
  generalize Slew.by_ p.mu (to - (t + ticks)) = y at e k1 k2
  have k3 : x - t - ticks ≤ p.mu := by omega
  have k4 : -p.mu ≤ x - t - ticks := by omega
  have k5 : x ≤ t + ticks := by omega
  have k6 : to ≤ x := by omega
  have k7 : -1152921504606846976 ≤ x ∧ x ≤ 1152921504606846976 := by omega
  clear e k1 k2 y
  have k8 : to ≤ t + ticks := by omega
  have HP := Lib.hid ((Own.new W0 (parCells p) 23 rfl).alloc (.cells #[.int .i64 t, .bool s] 25))
  have HC := Lib.hid (Own.new (W0.alloc (.cells (parCells p) 23)) #[.int .i64 t, .bool s] 25 (g := W0.heap.size + 1) (by simp))
  have HK := Lib.hid (((Ok.refl W0).alloc (.cells (parCells p) 23)).alloc (.cells #[.int .i64 t, .bool s] 25))
  have KC := Lib.hid fun w => limCheck p w
  subst h0
  rw [show Lim.check p = 0 from if_pos hm] at KC
  obtain ⟨⟨m1, m2⟩, ⟨m3, m4⟩, m5, m6⟩ := Slew.mu_bds hm
  clear hm
  have n0 : ∀ (w : World), (Instr.index 34 (.agg #[.int .i64 t, .int .i64 ticks, .int .i64 to]) (.int .i64 0)).run Try.prog w = .ok (.int .i64 t) w := fun _ => by kernel_rfl
  have n1 : ∀ (w : World), (Instr.index 34 (.agg #[.int .i64 t, .int .i64 ticks, .int .i64 to]) (.int .i64 1)).run Try.prog w = .ok (.int .i64 ticks) w := fun _ => by kernel_rfl
  have n2 : ∀ (w : World), (Instr.index 34 (.agg #[.int .i64 t, .int .i64 ticks, .int .i64 to]) (.int .i64 2)).run Try.prog w = .ok (.int .i64 to) w := fun _ => by kernel_rfl
  go_enter Try.func4, Try.ntmps4
  go_wp2_with (first | (go_at_call 8; (with_reducible refine (law12Alive _).mono ?_); rintro e w1 ⟨rfl, hb1⟩; have hP := HP.out.next hb1; have hC := HC.out.next hb1; have hok := HK.out.trans hb1; clear hb1 HP HC HK; obtain ⟨c0, c1, c2, c3, c4, c5, c6, c7, c8, c9, c10, c11⟩ := hP.pars; have d0 := hC.cell 0 rfl; have d1 := hC.cell 1 rfl; have hPl := hP.lt; have hCl := hC.lt) | (go_at_call 14; (with_reducible refine (KC.out _).mono ?_); rintro e w2 ⟨rfl, hb1⟩; clear c0 c1 c2 c3 c4 c5 c6 c7 c8 c9 c10 c11 d0 d1 hPl hCl; replace hP := hP.next hb1; replace hC := hC.next hb1; replace hok := hok.trans hb1; clear hb1; obtain ⟨c0, c1, c2, c3, c4, c5, c6, c7, c8, c9, c10, c11⟩ := hP.pars; have d0 := hC.cell 0 rfl; have d1 := hC.cell 1 rfl; have hPl := hP.lt; have hCl := hC.lt))
  refine wp_loop_rounds 4 ?_
  repeat' (rw [rounds_succ]; go_wp2_with ((go_at_call 12; (with_reducible refine (KS.out _).mono ?_); rintro e w3 ⟨rfl, hb1⟩; clear c0 c1 c2 c3 c4 c5 c6 c7 c8 c9 c10 c11 d0 d1 hPl hCl; replace hP := hP.next hb1; replace hC := hC.next hb1; replace hok := hok.trans hb1; clear hb1; obtain ⟨c0, c1, c2, c3, c4, c5, c6, c7, c8, c9, c10, c11⟩ := hP.pars; have d0 := hC.cell 0 rfl; have d1 := hC.cell 1 rfl; have hPl := hP.lt; have hCl := hC.lt)))
  go_ret
  exact ⟨rfl, hok.alloc _⟩
theorem yes (W0 : World) (p : Par) (t : Int) (s : Bool) (ticks to : Int) (hm : Lim.May p) (h0 : s = true) (g0 : t ≤ 288230376151711744 ∧ -288230376151711744 ≤ t) (g1 : ticks ≤ 288230376151711744 ∧ -288230376151711744 ≤ ticks) (g2 : to ≤ 288230376151711744 ∧ -288230376151711744 ≤ to) : Calls Try.prog 4 #[parV p, clockV t s, .int .i64 ticks, .int .i64 to] W0 fun e w' => e = .returned (.bool true) ∧ Ok W0 w' := by
  rcases Int.lt_or_le to (t + ticks) with hw | hw
  · exact yesDown W0 p t s ticks to hm h0 g0 g1 g2 hw
  · exact yesUp W0 p t s ticks to hm h0 g0 g1 g2 hw
theorem walk (W0 : World) (p : Par) (_wp : ParWf p) (t : Int) (s : Bool) (_wt : (Lit.int .i64 t).wf = true) (ticks : Int) (_w0 : (Lit.int .i64 ticks).wf = true) (to : Int) (_w1 : (Lit.int .i64 to).wf = true) :
    Calls Try.prog 4 #[parV p, clockV t s, .int .i64 ticks, .int .i64 to] W0 fun e w' => e = .returned (.bool true) ∧ Below W0.heap.size W0 w' := by
  show Calls Try.prog 4 #[parV p, clockV t s, .int .i64 ticks, .int .i64 to] W0 fun e w' => e = .returned (.bool true) ∧ Ok W0 w' 
  by_cases hm : Lim.May p
  rotate_left
  · exact no0 W0 p t s ticks to hm
  cases s
  · exact no1 W0 p t false ticks to hm rfl
  have h0 : true = true := rfl
  by_cases q00 : 288230376151711744 < t
  · exact far00 W0 p t true ticks to hm h0 q00
  by_cases q01 : t < -288230376151711744
  · exact far01 W0 p t true ticks to hm h0 q01
  have g0 : t ≤ 288230376151711744 ∧ -288230376151711744 ≤ t := ⟨by omega, by omega⟩
  by_cases q10 : 288230376151711744 < ticks
  · exact far10 W0 p t true ticks to hm h0 g0 q10
  by_cases q11 : ticks < -288230376151711744
  · exact far11 W0 p t true ticks to hm h0 g0 q11
  have g1 : ticks ≤ 288230376151711744 ∧ -288230376151711744 ≤ ticks := ⟨by omega, by omega⟩
  by_cases q20 : 288230376151711744 < to
  · exact far20 W0 p t true ticks to hm h0 g0 g1 q20
  by_cases q21 : to < -288230376151711744
  · exact far21 W0 p t true ticks to hm h0 g0 g1 q21
  have g2 : to ≤ 288230376151711744 ∧ -288230376151711744 ≤ to := ⟨by omega, by omega⟩
  exact yes W0 p t true ticks to hm h0 g0 g1 g2
theorem own : ownKnob Try.prog.godebug = none := by kernel_rfl
theorem laidOut : laidOutB Try.prog = true := by kernel_rfl
set_option maxRecDepth 100000 in
theorem lifted (os : Os) (started : os.Started) (H : Type) (enc : TypeId × Value → H) :
    ReturnsInHanded {} Try.checked os 4 .any (Rows.slewRateSpec.pre6 enc Try.prog Try.f4 Rows.slewRateRow.domain false) (Rows.slewRateSpec.post enc Try.prog Try.f4 false true false false) := by
  refine returnsInHanded_of_change (C := Try.checked) own started (by kernel_rfl) Try.func4
    (ChangeSpec.witness6 (enc := enc) (C := Try.checked) false ⟨#[], #[.agg #[.int .i64 0, .int .i64 0, .int .i64 0, .int .i64 0, .int .i64 0, .int .i64 0, .int .i64 0, .int .i64 0, .int .i64 0, .int .i64 0, .int .i64 0, .int .i64 0], .agg #[.int .i64 0, .bool false], .int .i64 0, .int .i64 0], []⟩ 8 (by kernel_rfl) (by kernel_rfl) (by kernel_rfl) (by kernel_rfl)) ?_
  intro W base args ds gs before hval0 hW _ _
  have hval : ∀ (j : Nat) t v, Try.f4.params[j]? = some t → args[j]? = some v → Value.okWide Try.prog W .any base t v := hval0
  have hW' := hW
  obtain ⟨p, q, hA, hV, rfl, _, _⟩ := hW
  obtain ⟨rfl, rfl⟩ := trodVars_none hV
  replace hA : DataW.TrodAll enc Try.prog W 0 (fun _ => true) true Try.f4.params.toList args.toList ds p := hA
  rw [Try.params4] at hA hval
  obtain ⟨v0, vs0, d0, ds0, p0, q0, hargs, rfl, rfl, h0, r0⟩ := trodAll_cons hA
  obtain ⟨v1, vs1, d1, ds1, p1, q1, rfl, rfl, rfl, h1, r1⟩ := trodAll_cons r0
  obtain ⟨v2, vs2, d2, ds2, p2, q2, rfl, rfl, rfl, h2, r2⟩ := trodAll_cons r1
  obtain ⟨v3, vs3, d3, ds3, p3, q3, rfl, rfl, rfl, h3, r3⟩ := trodAll_cons r2
  obtain ⟨rfl, rfl, rfl⟩ := trodAll_nil r3
  obtain rfl : args = #[v0, v1, v2, v3] := by cases args; simp_all
  obtain ⟨p0, rfl, wp0⟩ := open_par Try.underlying23 rfl (by kernel_rfl) (by kernel_rfl) (by kernel_rfl) (hval 0 23 v0 rfl rfl) h0
  obtain ⟨a1, b1, rfl, w1⟩ := open_intbool Try.underlying25 (by kernel_rfl) (by kernel_rfl) (by kernel_rfl) (by kernel_rfl) (hval 1 25 v1 rfl rfl) h1
  obtain ⟨a2, rfl, rfl, rfl, w2⟩ := open_int Try.underlying3 (hval 2 3 v2 rfl rfl) h2
  obtain ⟨a3, rfl, rfl, rfl, w3⟩ := open_int Try.underlying3 (hval 3 3 v3 rfl rfl) h3
  refine (walk W p0 wp0 a1 b1 w1 a2 w2 a3 w3).mono fun e W' ⟨he, hb⟩ => ?_
  subst he
  exact ⟨_, rfl, law_post hW' laidOut (by rw [Try.params4]; exact params_ok (by kernel_rfl)) rfl (by kernel_rfl) Try.underlying4 rfl rfl rfl hb⟩
theorem over : Rows.slewRateRow.holds Try.pinned (OpenSpec.ofChange Rows.slewRateSpec) :=
  OpenClaim.holds_of_wide 4 Try.f4 rfl rfl rfl rfl rfl rfl rfl ⟨rfl, rfl, rfl, rfl, rfl⟩ rfl rfl rfl rfl rfl (by kernel_rfl) Try.func4 (by kernel_rfl)
    (of_decide_eq_true (by kernel_rfl)) (by unfold Func.isWrapper; first | (rw [if_pos (by decide +kernel)]; kernel_rfl) | (rw [if_neg (by decide +kernel)]; exact ⟨rfl, rfl⟩))
    (fun os started H enc _ => lifted os started H enc)
theorem proved : Rows.SlewRateSaid := over
end Go.Proofs.Ytcknnlekkbekmaa.slewRate
