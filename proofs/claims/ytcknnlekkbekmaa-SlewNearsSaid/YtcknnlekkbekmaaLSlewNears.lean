/- SlewNears: for all numbers the law answers true: two clocks that are slewed by the same ticks to the same time never get further from one another, nor change places. No condition. -/
import Derived.Test.YtcknnlekkbekmaaC12c
import Derived.Test.YtcknnlekkbekmaaW06
namespace Go.Proofs.Ytcknnlekkbekmaa.slewNears
open Go.ChangeShapes Go.WideShapes Go.ChangeAt Go.RowKit
set_option linter.unusedVariables false
set_option maxRecDepth 100000
attribute [local go_sem ↓] Go.wp_at_zero Go.wp_at_succ
theorem no0 (W0 : World) (p : Par) (a b ticks to : Int) (hm : ¬ Lim.May p) : Calls Try.prog 7 #[parV p, .int .i64 a, .int .i64 b, .int .i64 ticks, .int .i64 to] W0 fun e w' => e = .returned (.bool true) ∧ Ok W0 w' := by
  have HP := Lib.hid (Own.new W0 (parCells p) 23 rfl)
  have HK := Lib.hid ((Ok.refl W0).alloc (.cells (parCells p) 23))
  have KC := Lib.hid fun w => limCheck p w
  rw [show Lim.check p = 1 from if_neg hm] at KC
  clear hm
  go_enter Try.func7, Try.ntmps7
  go_wp2_with (first | (go_at_call 8; (with_reducible refine (law12Alive _).mono ?_); rintro e w1 ⟨rfl, hb1⟩; have hP := HP.out.next hb1; have hok := HK.out.trans hb1; clear hb1 HP HK; obtain ⟨c0, c1, c2, c3, c4, c5, c6, c7, c8, c9, c10, c11⟩ := hP.pars; have hPl := hP.lt) | (go_at_call 14; (with_reducible refine (KC.out _).mono ?_); rintro e w2 ⟨rfl, hb1⟩; clear c0 c1 c2 c3 c4 c5 c6 c7 c8 c9 c10 c11 hPl; replace hP := hP.next hb1; replace hok := hok.trans hb1; clear hb1; obtain ⟨c0, c1, c2, c3, c4, c5, c6, c7, c8, c9, c10, c11⟩ := hP.pars; have hPl := hP.lt))
  go_ret
  exact ⟨rfl, hok⟩
theorem no1 (W0 : World) (p : Par) (a b ticks to : Int) (hm : Lim.May p) (h0 : b < a) : Calls Try.prog 7 #[parV p, .int .i64 a, .int .i64 b, .int .i64 ticks, .int .i64 to] W0 fun e w' => e = .returned (.bool true) ∧ Ok W0 w' := by
  have HP := Lib.hid (Own.new W0 (parCells p) 23 rfl)
  have HK := Lib.hid ((Ok.refl W0).alloc (.cells (parCells p) 23))
  have KC := Lib.hid fun w => limCheck p w
  rw [show Lim.check p = 0 from if_pos hm] at KC
  obtain ⟨⟨m1, m2⟩, ⟨m3, m4⟩, m5, m6⟩ := Slew.mu_bds hm
  clear hm
  go_enter Try.func7, Try.ntmps7
  go_wp2_with (first | (go_at_call 8; (with_reducible refine (law12Alive _).mono ?_); rintro e w1 ⟨rfl, hb1⟩; have hP := HP.out.next hb1; have hok := HK.out.trans hb1; clear hb1 HP HK; obtain ⟨c0, c1, c2, c3, c4, c5, c6, c7, c8, c9, c10, c11⟩ := hP.pars; have hPl := hP.lt) | (go_at_call 14; (with_reducible refine (KC.out _).mono ?_); rintro e w2 ⟨rfl, hb1⟩; clear c0 c1 c2 c3 c4 c5 c6 c7 c8 c9 c10 c11 hPl; replace hP := hP.next hb1; replace hok := hok.trans hb1; clear hb1; obtain ⟨c0, c1, c2, c3, c4, c5, c6, c7, c8, c9, c10, c11⟩ := hP.pars; have hPl := hP.lt))
  go_ret
  exact ⟨rfl, hok⟩
theorem far00 (W0 : World) (p : Par) (a b ticks to : Int) (hm : Lim.May p) (h0 : a ≤ b) (g0 : 72057594037927936 < a) : Calls Try.prog 7 #[parV p, .int .i64 a, .int .i64 b, .int .i64 ticks, .int .i64 to] W0 fun e w' => e = .returned (.bool true) ∧ Ok W0 w' := by
  have HP := Lib.hid (Own.new W0 (parCells p) 23 rfl)
  have HK := Lib.hid ((Ok.refl W0).alloc (.cells (parCells p) 23))
  have KC := Lib.hid fun w => limCheck p w
  rw [show Lim.check p = 0 from if_pos hm] at KC
  obtain ⟨⟨m1, m2⟩, ⟨m3, m4⟩, m5, m6⟩ := Slew.mu_bds hm
  clear hm
  have n0 : ∀ (w : World), (Instr.index 38 (.agg #[.int .i64 a, .int .i64 b, .int .i64 ticks, .int .i64 to]) (.int .i64 0)).run Try.prog w = .ok (.int .i64 a) w := fun _ => by kernel_rfl
  have n1 : ∀ (w : World), (Instr.index 38 (.agg #[.int .i64 a, .int .i64 b, .int .i64 ticks, .int .i64 to]) (.int .i64 1)).run Try.prog w = .ok (.int .i64 b) w := fun _ => by kernel_rfl
  have n2 : ∀ (w : World), (Instr.index 38 (.agg #[.int .i64 a, .int .i64 b, .int .i64 ticks, .int .i64 to]) (.int .i64 2)).run Try.prog w = .ok (.int .i64 ticks) w := fun _ => by kernel_rfl
  have n3 : ∀ (w : World), (Instr.index 38 (.agg #[.int .i64 a, .int .i64 b, .int .i64 ticks, .int .i64 to]) (.int .i64 3)).run Try.prog w = .ok (.int .i64 to) w := fun _ => by kernel_rfl
  go_enter Try.func7, Try.ntmps7
  go_wp2_with (first | (go_at_call 8; (with_reducible refine (law12Alive _).mono ?_); rintro e w1 ⟨rfl, hb1⟩; have hP := HP.out.next hb1; have hok := HK.out.trans hb1; clear hb1 HP HK; obtain ⟨c0, c1, c2, c3, c4, c5, c6, c7, c8, c9, c10, c11⟩ := hP.pars; have hPl := hP.lt) | (go_at_call 14; (with_reducible refine (KC.out _).mono ?_); rintro e w2 ⟨rfl, hb1⟩; clear c0 c1 c2 c3 c4 c5 c6 c7 c8 c9 c10 c11 hPl; replace hP := hP.next hb1; replace hok := hok.trans hb1; clear hb1; obtain ⟨c0, c1, c2, c3, c4, c5, c6, c7, c8, c9, c10, c11⟩ := hP.pars; have hPl := hP.lt))
  refine wp_loop_rounds 5 ?_
  repeat' (rw [rounds_succ]; go_wp2_with fail)
  go_ret
  exact ⟨rfl, hok⟩
theorem far01 (W0 : World) (p : Par) (a b ticks to : Int) (hm : Lim.May p) (h0 : a ≤ b) (g0 : a < -72057594037927936) : Calls Try.prog 7 #[parV p, .int .i64 a, .int .i64 b, .int .i64 ticks, .int .i64 to] W0 fun e w' => e = .returned (.bool true) ∧ Ok W0 w' := by
  have HP := Lib.hid (Own.new W0 (parCells p) 23 rfl)
  have HK := Lib.hid ((Ok.refl W0).alloc (.cells (parCells p) 23))
  have KC := Lib.hid fun w => limCheck p w
  rw [show Lim.check p = 0 from if_pos hm] at KC
  obtain ⟨⟨m1, m2⟩, ⟨m3, m4⟩, m5, m6⟩ := Slew.mu_bds hm
  clear hm
  have n0 : ∀ (w : World), (Instr.index 38 (.agg #[.int .i64 a, .int .i64 b, .int .i64 ticks, .int .i64 to]) (.int .i64 0)).run Try.prog w = .ok (.int .i64 a) w := fun _ => by kernel_rfl
  have n1 : ∀ (w : World), (Instr.index 38 (.agg #[.int .i64 a, .int .i64 b, .int .i64 ticks, .int .i64 to]) (.int .i64 1)).run Try.prog w = .ok (.int .i64 b) w := fun _ => by kernel_rfl
  have n2 : ∀ (w : World), (Instr.index 38 (.agg #[.int .i64 a, .int .i64 b, .int .i64 ticks, .int .i64 to]) (.int .i64 2)).run Try.prog w = .ok (.int .i64 ticks) w := fun _ => by kernel_rfl
  have n3 : ∀ (w : World), (Instr.index 38 (.agg #[.int .i64 a, .int .i64 b, .int .i64 ticks, .int .i64 to]) (.int .i64 3)).run Try.prog w = .ok (.int .i64 to) w := fun _ => by kernel_rfl
  go_enter Try.func7, Try.ntmps7
  go_wp2_with (first | (go_at_call 8; (with_reducible refine (law12Alive _).mono ?_); rintro e w1 ⟨rfl, hb1⟩; have hP := HP.out.next hb1; have hok := HK.out.trans hb1; clear hb1 HP HK; obtain ⟨c0, c1, c2, c3, c4, c5, c6, c7, c8, c9, c10, c11⟩ := hP.pars; have hPl := hP.lt) | (go_at_call 14; (with_reducible refine (KC.out _).mono ?_); rintro e w2 ⟨rfl, hb1⟩; clear c0 c1 c2 c3 c4 c5 c6 c7 c8 c9 c10 c11 hPl; replace hP := hP.next hb1; replace hok := hok.trans hb1; clear hb1; obtain ⟨c0, c1, c2, c3, c4, c5, c6, c7, c8, c9, c10, c11⟩ := hP.pars; have hPl := hP.lt))
  refine wp_loop_rounds 5 ?_
  repeat' (rw [rounds_succ]; go_wp2_with fail)
  go_ret
  exact ⟨rfl, hok⟩
theorem far10 (W0 : World) (p : Par) (a b ticks to : Int) (hm : Lim.May p) (h0 : a ≤ b) (g0 : a ≤ 72057594037927936 ∧ -72057594037927936 ≤ a) (g1 : 72057594037927936 < b) : Calls Try.prog 7 #[parV p, .int .i64 a, .int .i64 b, .int .i64 ticks, .int .i64 to] W0 fun e w' => e = .returned (.bool true) ∧ Ok W0 w' := by
  have HP := Lib.hid (Own.new W0 (parCells p) 23 rfl)
  have HK := Lib.hid ((Ok.refl W0).alloc (.cells (parCells p) 23))
  have KC := Lib.hid fun w => limCheck p w
  rw [show Lim.check p = 0 from if_pos hm] at KC
  obtain ⟨⟨m1, m2⟩, ⟨m3, m4⟩, m5, m6⟩ := Slew.mu_bds hm
  clear hm
  have n0 : ∀ (w : World), (Instr.index 38 (.agg #[.int .i64 a, .int .i64 b, .int .i64 ticks, .int .i64 to]) (.int .i64 0)).run Try.prog w = .ok (.int .i64 a) w := fun _ => by kernel_rfl
  have n1 : ∀ (w : World), (Instr.index 38 (.agg #[.int .i64 a, .int .i64 b, .int .i64 ticks, .int .i64 to]) (.int .i64 1)).run Try.prog w = .ok (.int .i64 b) w := fun _ => by kernel_rfl
  have n2 : ∀ (w : World), (Instr.index 38 (.agg #[.int .i64 a, .int .i64 b, .int .i64 ticks, .int .i64 to]) (.int .i64 2)).run Try.prog w = .ok (.int .i64 ticks) w := fun _ => by kernel_rfl
  have n3 : ∀ (w : World), (Instr.index 38 (.agg #[.int .i64 a, .int .i64 b, .int .i64 ticks, .int .i64 to]) (.int .i64 3)).run Try.prog w = .ok (.int .i64 to) w := fun _ => by kernel_rfl
  go_enter Try.func7, Try.ntmps7
  go_wp2_with (first | (go_at_call 8; (with_reducible refine (law12Alive _).mono ?_); rintro e w1 ⟨rfl, hb1⟩; have hP := HP.out.next hb1; have hok := HK.out.trans hb1; clear hb1 HP HK; obtain ⟨c0, c1, c2, c3, c4, c5, c6, c7, c8, c9, c10, c11⟩ := hP.pars; have hPl := hP.lt) | (go_at_call 14; (with_reducible refine (KC.out _).mono ?_); rintro e w2 ⟨rfl, hb1⟩; clear c0 c1 c2 c3 c4 c5 c6 c7 c8 c9 c10 c11 hPl; replace hP := hP.next hb1; replace hok := hok.trans hb1; clear hb1; obtain ⟨c0, c1, c2, c3, c4, c5, c6, c7, c8, c9, c10, c11⟩ := hP.pars; have hPl := hP.lt))
  refine wp_loop_rounds 5 ?_
  repeat' (rw [rounds_succ]; go_wp2_with fail)
  go_ret
  exact ⟨rfl, hok⟩
theorem far11 (W0 : World) (p : Par) (a b ticks to : Int) (hm : Lim.May p) (h0 : a ≤ b) (g0 : a ≤ 72057594037927936 ∧ -72057594037927936 ≤ a) (g1 : b < -72057594037927936) : Calls Try.prog 7 #[parV p, .int .i64 a, .int .i64 b, .int .i64 ticks, .int .i64 to] W0 fun e w' => e = .returned (.bool true) ∧ Ok W0 w' := by
  omega
theorem far20 (W0 : World) (p : Par) (a b ticks to : Int) (hm : Lim.May p) (h0 : a ≤ b) (g0 : a ≤ 72057594037927936 ∧ -72057594037927936 ≤ a) (g1 : b ≤ 72057594037927936 ∧ -72057594037927936 ≤ b) (g2 : 72057594037927936 < ticks) : Calls Try.prog 7 #[parV p, .int .i64 a, .int .i64 b, .int .i64 ticks, .int .i64 to] W0 fun e w' => e = .returned (.bool true) ∧ Ok W0 w' := by
  have HP := Lib.hid (Own.new W0 (parCells p) 23 rfl)
  have HK := Lib.hid ((Ok.refl W0).alloc (.cells (parCells p) 23))
  have KC := Lib.hid fun w => limCheck p w
  rw [show Lim.check p = 0 from if_pos hm] at KC
  obtain ⟨⟨m1, m2⟩, ⟨m3, m4⟩, m5, m6⟩ := Slew.mu_bds hm
  clear hm
  have n0 : ∀ (w : World), (Instr.index 38 (.agg #[.int .i64 a, .int .i64 b, .int .i64 ticks, .int .i64 to]) (.int .i64 0)).run Try.prog w = .ok (.int .i64 a) w := fun _ => by kernel_rfl
  have n1 : ∀ (w : World), (Instr.index 38 (.agg #[.int .i64 a, .int .i64 b, .int .i64 ticks, .int .i64 to]) (.int .i64 1)).run Try.prog w = .ok (.int .i64 b) w := fun _ => by kernel_rfl
  have n2 : ∀ (w : World), (Instr.index 38 (.agg #[.int .i64 a, .int .i64 b, .int .i64 ticks, .int .i64 to]) (.int .i64 2)).run Try.prog w = .ok (.int .i64 ticks) w := fun _ => by kernel_rfl
  have n3 : ∀ (w : World), (Instr.index 38 (.agg #[.int .i64 a, .int .i64 b, .int .i64 ticks, .int .i64 to]) (.int .i64 3)).run Try.prog w = .ok (.int .i64 to) w := fun _ => by kernel_rfl
  go_enter Try.func7, Try.ntmps7
  go_wp2_with (first | (go_at_call 8; (with_reducible refine (law12Alive _).mono ?_); rintro e w1 ⟨rfl, hb1⟩; have hP := HP.out.next hb1; have hok := HK.out.trans hb1; clear hb1 HP HK; obtain ⟨c0, c1, c2, c3, c4, c5, c6, c7, c8, c9, c10, c11⟩ := hP.pars; have hPl := hP.lt) | (go_at_call 14; (with_reducible refine (KC.out _).mono ?_); rintro e w2 ⟨rfl, hb1⟩; clear c0 c1 c2 c3 c4 c5 c6 c7 c8 c9 c10 c11 hPl; replace hP := hP.next hb1; replace hok := hok.trans hb1; clear hb1; obtain ⟨c0, c1, c2, c3, c4, c5, c6, c7, c8, c9, c10, c11⟩ := hP.pars; have hPl := hP.lt))
  refine wp_loop_rounds 5 ?_
  repeat' (rw [rounds_succ]; go_wp2_with fail)
  go_ret
  exact ⟨rfl, hok⟩
theorem far21 (W0 : World) (p : Par) (a b ticks to : Int) (hm : Lim.May p) (h0 : a ≤ b) (g0 : a ≤ 72057594037927936 ∧ -72057594037927936 ≤ a) (g1 : b ≤ 72057594037927936 ∧ -72057594037927936 ≤ b) (g2 : ticks < -72057594037927936) : Calls Try.prog 7 #[parV p, .int .i64 a, .int .i64 b, .int .i64 ticks, .int .i64 to] W0 fun e w' => e = .returned (.bool true) ∧ Ok W0 w' := by
  have HP := Lib.hid (Own.new W0 (parCells p) 23 rfl)
  have HK := Lib.hid ((Ok.refl W0).alloc (.cells (parCells p) 23))
  have KC := Lib.hid fun w => limCheck p w
  rw [show Lim.check p = 0 from if_pos hm] at KC
  obtain ⟨⟨m1, m2⟩, ⟨m3, m4⟩, m5, m6⟩ := Slew.mu_bds hm
  clear hm
  have n0 : ∀ (w : World), (Instr.index 38 (.agg #[.int .i64 a, .int .i64 b, .int .i64 ticks, .int .i64 to]) (.int .i64 0)).run Try.prog w = .ok (.int .i64 a) w := fun _ => by kernel_rfl
  have n1 : ∀ (w : World), (Instr.index 38 (.agg #[.int .i64 a, .int .i64 b, .int .i64 ticks, .int .i64 to]) (.int .i64 1)).run Try.prog w = .ok (.int .i64 b) w := fun _ => by kernel_rfl
  have n2 : ∀ (w : World), (Instr.index 38 (.agg #[.int .i64 a, .int .i64 b, .int .i64 ticks, .int .i64 to]) (.int .i64 2)).run Try.prog w = .ok (.int .i64 ticks) w := fun _ => by kernel_rfl
  have n3 : ∀ (w : World), (Instr.index 38 (.agg #[.int .i64 a, .int .i64 b, .int .i64 ticks, .int .i64 to]) (.int .i64 3)).run Try.prog w = .ok (.int .i64 to) w := fun _ => by kernel_rfl
  go_enter Try.func7, Try.ntmps7
  go_wp2_with (first | (go_at_call 8; (with_reducible refine (law12Alive _).mono ?_); rintro e w1 ⟨rfl, hb1⟩; have hP := HP.out.next hb1; have hok := HK.out.trans hb1; clear hb1 HP HK; obtain ⟨c0, c1, c2, c3, c4, c5, c6, c7, c8, c9, c10, c11⟩ := hP.pars; have hPl := hP.lt) | (go_at_call 14; (with_reducible refine (KC.out _).mono ?_); rintro e w2 ⟨rfl, hb1⟩; clear c0 c1 c2 c3 c4 c5 c6 c7 c8 c9 c10 c11 hPl; replace hP := hP.next hb1; replace hok := hok.trans hb1; clear hb1; obtain ⟨c0, c1, c2, c3, c4, c5, c6, c7, c8, c9, c10, c11⟩ := hP.pars; have hPl := hP.lt))
  refine wp_loop_rounds 5 ?_
  repeat' (rw [rounds_succ]; go_wp2_with fail)
  go_ret
  exact ⟨rfl, hok⟩
theorem far30 (W0 : World) (p : Par) (a b ticks to : Int) (hm : Lim.May p) (h0 : a ≤ b) (g0 : a ≤ 72057594037927936 ∧ -72057594037927936 ≤ a) (g1 : b ≤ 72057594037927936 ∧ -72057594037927936 ≤ b) (g2 : ticks ≤ 72057594037927936 ∧ -72057594037927936 ≤ ticks) (g3 : 72057594037927936 < to) : Calls Try.prog 7 #[parV p, .int .i64 a, .int .i64 b, .int .i64 ticks, .int .i64 to] W0 fun e w' => e = .returned (.bool true) ∧ Ok W0 w' := by
  have HP := Lib.hid (Own.new W0 (parCells p) 23 rfl)
  have HK := Lib.hid ((Ok.refl W0).alloc (.cells (parCells p) 23))
  have KC := Lib.hid fun w => limCheck p w
  rw [show Lim.check p = 0 from if_pos hm] at KC
  obtain ⟨⟨m1, m2⟩, ⟨m3, m4⟩, m5, m6⟩ := Slew.mu_bds hm
  clear hm
  have n0 : ∀ (w : World), (Instr.index 38 (.agg #[.int .i64 a, .int .i64 b, .int .i64 ticks, .int .i64 to]) (.int .i64 0)).run Try.prog w = .ok (.int .i64 a) w := fun _ => by kernel_rfl
  have n1 : ∀ (w : World), (Instr.index 38 (.agg #[.int .i64 a, .int .i64 b, .int .i64 ticks, .int .i64 to]) (.int .i64 1)).run Try.prog w = .ok (.int .i64 b) w := fun _ => by kernel_rfl
  have n2 : ∀ (w : World), (Instr.index 38 (.agg #[.int .i64 a, .int .i64 b, .int .i64 ticks, .int .i64 to]) (.int .i64 2)).run Try.prog w = .ok (.int .i64 ticks) w := fun _ => by kernel_rfl
  have n3 : ∀ (w : World), (Instr.index 38 (.agg #[.int .i64 a, .int .i64 b, .int .i64 ticks, .int .i64 to]) (.int .i64 3)).run Try.prog w = .ok (.int .i64 to) w := fun _ => by kernel_rfl
  go_enter Try.func7, Try.ntmps7
  go_wp2_with (first | (go_at_call 8; (with_reducible refine (law12Alive _).mono ?_); rintro e w1 ⟨rfl, hb1⟩; have hP := HP.out.next hb1; have hok := HK.out.trans hb1; clear hb1 HP HK; obtain ⟨c0, c1, c2, c3, c4, c5, c6, c7, c8, c9, c10, c11⟩ := hP.pars; have hPl := hP.lt) | (go_at_call 14; (with_reducible refine (KC.out _).mono ?_); rintro e w2 ⟨rfl, hb1⟩; clear c0 c1 c2 c3 c4 c5 c6 c7 c8 c9 c10 c11 hPl; replace hP := hP.next hb1; replace hok := hok.trans hb1; clear hb1; obtain ⟨c0, c1, c2, c3, c4, c5, c6, c7, c8, c9, c10, c11⟩ := hP.pars; have hPl := hP.lt))
  refine wp_loop_rounds 5 ?_
  repeat' (rw [rounds_succ]; go_wp2_with fail)
  go_ret
  exact ⟨rfl, hok⟩
theorem far31 (W0 : World) (p : Par) (a b ticks to : Int) (hm : Lim.May p) (h0 : a ≤ b) (g0 : a ≤ 72057594037927936 ∧ -72057594037927936 ≤ a) (g1 : b ≤ 72057594037927936 ∧ -72057594037927936 ≤ b) (g2 : ticks ≤ 72057594037927936 ∧ -72057594037927936 ≤ ticks) (g3 : to < -72057594037927936) : Calls Try.prog 7 #[parV p, .int .i64 a, .int .i64 b, .int .i64 ticks, .int .i64 to] W0 fun e w' => e = .returned (.bool true) ∧ Ok W0 w' := by
  have HP := Lib.hid (Own.new W0 (parCells p) 23 rfl)
  have HK := Lib.hid ((Ok.refl W0).alloc (.cells (parCells p) 23))
  have KC := Lib.hid fun w => limCheck p w
  rw [show Lim.check p = 0 from if_pos hm] at KC
  obtain ⟨⟨m1, m2⟩, ⟨m3, m4⟩, m5, m6⟩ := Slew.mu_bds hm
  clear hm
  have n0 : ∀ (w : World), (Instr.index 38 (.agg #[.int .i64 a, .int .i64 b, .int .i64 ticks, .int .i64 to]) (.int .i64 0)).run Try.prog w = .ok (.int .i64 a) w := fun _ => by kernel_rfl
  have n1 : ∀ (w : World), (Instr.index 38 (.agg #[.int .i64 a, .int .i64 b, .int .i64 ticks, .int .i64 to]) (.int .i64 1)).run Try.prog w = .ok (.int .i64 b) w := fun _ => by kernel_rfl
  have n2 : ∀ (w : World), (Instr.index 38 (.agg #[.int .i64 a, .int .i64 b, .int .i64 ticks, .int .i64 to]) (.int .i64 2)).run Try.prog w = .ok (.int .i64 ticks) w := fun _ => by kernel_rfl
  have n3 : ∀ (w : World), (Instr.index 38 (.agg #[.int .i64 a, .int .i64 b, .int .i64 ticks, .int .i64 to]) (.int .i64 3)).run Try.prog w = .ok (.int .i64 to) w := fun _ => by kernel_rfl
  go_enter Try.func7, Try.ntmps7
  go_wp2_with (first | (go_at_call 8; (with_reducible refine (law12Alive _).mono ?_); rintro e w1 ⟨rfl, hb1⟩; have hP := HP.out.next hb1; have hok := HK.out.trans hb1; clear hb1 HP HK; obtain ⟨c0, c1, c2, c3, c4, c5, c6, c7, c8, c9, c10, c11⟩ := hP.pars; have hPl := hP.lt) | (go_at_call 14; (with_reducible refine (KC.out _).mono ?_); rintro e w2 ⟨rfl, hb1⟩; clear c0 c1 c2 c3 c4 c5 c6 c7 c8 c9 c10 c11 hPl; replace hP := hP.next hb1; replace hok := hok.trans hb1; clear hb1; obtain ⟨c0, c1, c2, c3, c4, c5, c6, c7, c8, c9, c10, c11⟩ := hP.pars; have hPl := hP.lt))
  refine wp_loop_rounds 5 ?_
  repeat' (rw [rounds_succ]; go_wp2_with fail)
  go_ret
  exact ⟨rfl, hok⟩
set_option maxHeartbeats 3200000 in
theorem yes (W0 : World) (p : Par) (a b ticks to : Int) (hm : Lim.May p) (h0 : a ≤ b) (g0 : a ≤ 72057594037927936 ∧ -72057594037927936 ≤ a) (g1 : b ≤ 72057594037927936 ∧ -72057594037927936 ≤ b) (g2 : ticks ≤ 72057594037927936 ∧ -72057594037927936 ≤ ticks) (g3 : to ≤ 72057594037927936 ∧ -72057594037927936 ≤ to) : Calls Try.prog 7 #[parV p, .int .i64 a, .int .i64 b, .int .i64 ticks, .int .i64 to] W0 fun e w' => e = .returned (.bool true) ∧ Ok W0 w' := by
  have KA := Lib.hid fun w => slewStep p a ticks to w
  have KB := Lib.hid fun w => slewStep p b ticks to w
  have m0 : 0 ≤ p.mu ∧ p.mu ≤ 1099511627776 := by have := Slew.mu_bds hm; omega
  have ea := Slew.step_in (p := p) (time := a) (ticks := ticks) (to := to) ⟨by omega, by omega⟩ ⟨by omega, by omega⟩ ⟨by omega, by omega⟩ ⟨by omega, by omega⟩
  have eb := Slew.step_in (p := p) (time := b) (ticks := ticks) (to := to) ⟨by omega, by omega⟩ ⟨by omega, by omega⟩ ⟨by omega, by omega⟩ ⟨by omega, by omega⟩
  have k0 := Slew.by_near (t := to) m0.1 (show a + ticks ≤ b + ticks by omega)
  have k1 := Slew.by_bd m0.1 (to - (a + ticks))
  have k2 := Slew.by_bd m0.1 (to - (b + ticks))
  obtain ⟨x, hx⟩ : ∃ x, Slew.step p a ticks to = x := ⟨_, rfl⟩
  obtain ⟨y, hy⟩ : ∃ x, Slew.step p b ticks to = x := ⟨_, rfl⟩
  rw [hx] at KA ea
  rw [hy] at KB eb
  clear hx hy
  generalize Slew.by_ p.mu (to - (a + ticks)) = u at ea k0 k1
  generalize Slew.by_ p.mu (to - (b + ticks)) = v at eb k0 k2
  have k3 : x ≤ y := by omega
  have k4 : y - x ≤ b - a := by omega
  have k5 : -1152921504606846976 ≤ x ∧ x ≤ 1152921504606846976 := by omega
  have k6 : -1152921504606846976 ≤ y ∧ y ≤ 1152921504606846976 := by omega
  clear ea eb k0 k1 k2 u v m0
  have HP := Lib.hid (Own.new W0 (parCells p) 23 rfl)
  have HK := Lib.hid ((Ok.refl W0).alloc (.cells (parCells p) 23))
  have KC := Lib.hid fun w => limCheck p w
  rw [show Lim.check p = 0 from if_pos hm] at KC
  obtain ⟨⟨m1, m2⟩, ⟨m3, m4⟩, m5, m6⟩ := Slew.mu_bds hm
  clear hm
  have n0 : ∀ (w : World), (Instr.index 38 (.agg #[.int .i64 a, .int .i64 b, .int .i64 ticks, .int .i64 to]) (.int .i64 0)).run Try.prog w = .ok (.int .i64 a) w := fun _ => by kernel_rfl
  have n1 : ∀ (w : World), (Instr.index 38 (.agg #[.int .i64 a, .int .i64 b, .int .i64 ticks, .int .i64 to]) (.int .i64 1)).run Try.prog w = .ok (.int .i64 b) w := fun _ => by kernel_rfl
  have n2 : ∀ (w : World), (Instr.index 38 (.agg #[.int .i64 a, .int .i64 b, .int .i64 ticks, .int .i64 to]) (.int .i64 2)).run Try.prog w = .ok (.int .i64 ticks) w := fun _ => by kernel_rfl
  have n3 : ∀ (w : World), (Instr.index 38 (.agg #[.int .i64 a, .int .i64 b, .int .i64 ticks, .int .i64 to]) (.int .i64 3)).run Try.prog w = .ok (.int .i64 to) w := fun _ => by kernel_rfl
  go_enter Try.func7, Try.ntmps7
  go_wp2_with (first | (go_at_call 8; (with_reducible refine (law12Alive _).mono ?_); rintro e w1 ⟨rfl, hb1⟩; have hP := HP.out.next hb1; have hok := HK.out.trans hb1; clear hb1 HP HK; obtain ⟨c0, c1, c2, c3, c4, c5, c6, c7, c8, c9, c10, c11⟩ := hP.pars; have hPl := hP.lt) | (go_at_call 14; (with_reducible refine (KC.out _).mono ?_); rintro e w2 ⟨rfl, hb1⟩; clear c0 c1 c2 c3 c4 c5 c6 c7 c8 c9 c10 c11 hPl; replace hP := hP.next hb1; replace hok := hok.trans hb1; clear hb1; obtain ⟨c0, c1, c2, c3, c4, c5, c6, c7, c8, c9, c10, c11⟩ := hP.pars; have hPl := hP.lt))
  refine wp_loop_rounds 5 ?_
  repeat' (rw [rounds_succ]; go_wp2_with (first | (go_at_call 12; (with_reducible refine (KA.out _).mono ?_); rintro e w3 ⟨rfl, hb1⟩; clear c0 c1 c2 c3 c4 c5 c6 c7 c8 c9 c10 c11 hPl; replace hP := hP.next hb1; replace hok := hok.trans hb1; clear hb1; obtain ⟨c0, c1, c2, c3, c4, c5, c6, c7, c8, c9, c10, c11⟩ := hP.pars; have hPl := hP.lt) | (go_at_call 12; (with_reducible refine (KB.out _).mono ?_); rintro e w4 ⟨rfl, hb1⟩; clear c0 c1 c2 c3 c4 c5 c6 c7 c8 c9 c10 c11 hPl; replace hP := (hP.alloc _).next hb1; have hX := (Own.new w3 #[.int .i64 x, .bool true] 25 rfl).next hb1; replace hok := (hok.alloc _).trans hb1; clear hb1; have d0 := hX.cell 0 rfl; have hXl := hX.lt; obtain ⟨c0, c1, c2, c3, c4, c5, c6, c7, c8, c9, c10, c11⟩ := hP.pars; have hPl := hP.lt)))
  go_ret
  exact ⟨rfl, hok.alloc _⟩
theorem walk (W0 : World) (p : Par) (_wp : ParWf p) (a : Int) (_w0 : (Lit.int .i64 a).wf = true) (b : Int) (_w1 : (Lit.int .i64 b).wf = true) (ticks : Int) (_w2 : (Lit.int .i64 ticks).wf = true) (to : Int) (_w3 : (Lit.int .i64 to).wf = true) :
    Calls Try.prog 7 #[parV p, .int .i64 a, .int .i64 b, .int .i64 ticks, .int .i64 to] W0 fun e w' => e = .returned (.bool true) ∧ Below W0.heap.size W0 w' := by
  show Calls Try.prog 7 #[parV p, .int .i64 a, .int .i64 b, .int .i64 ticks, .int .i64 to] W0 fun e w' => e = .returned (.bool true) ∧ Ok W0 w' 
  by_cases hm : Lim.May p
  rotate_left
  · exact no0 W0 p a b ticks to hm
  by_cases h0 : b < a
  · exact no1 W0 p a b ticks to hm h0
  replace h0 : a ≤ b := by omega
  by_cases q00 : 72057594037927936 < a
  · exact far00 W0 p a b ticks to hm h0 q00
  by_cases q01 : a < -72057594037927936
  · exact far01 W0 p a b ticks to hm h0 q01
  have g0 : a ≤ 72057594037927936 ∧ -72057594037927936 ≤ a := ⟨by omega, by omega⟩
  by_cases q10 : 72057594037927936 < b
  · exact far10 W0 p a b ticks to hm h0 g0 q10
  by_cases q11 : b < -72057594037927936
  · exact far11 W0 p a b ticks to hm h0 g0 q11
  have g1 : b ≤ 72057594037927936 ∧ -72057594037927936 ≤ b := ⟨by omega, by omega⟩
  by_cases q20 : 72057594037927936 < ticks
  · exact far20 W0 p a b ticks to hm h0 g0 g1 q20
  by_cases q21 : ticks < -72057594037927936
  · exact far21 W0 p a b ticks to hm h0 g0 g1 q21
  have g2 : ticks ≤ 72057594037927936 ∧ -72057594037927936 ≤ ticks := ⟨by omega, by omega⟩
  by_cases q30 : 72057594037927936 < to
  · exact far30 W0 p a b ticks to hm h0 g0 g1 g2 q30
  by_cases q31 : to < -72057594037927936
  · exact far31 W0 p a b ticks to hm h0 g0 g1 g2 q31
  have g3 : to ≤ 72057594037927936 ∧ -72057594037927936 ≤ to := ⟨by omega, by omega⟩
  exact yes W0 p a b ticks to hm h0 g0 g1 g2 g3
theorem own : ownKnob Try.prog.godebug = none := by kernel_rfl
theorem laidOut : laidOutB Try.prog = true := by kernel_rfl
set_option maxRecDepth 100000 in
theorem lifted (os : Os) (started : os.Started) (H : Type) (enc : TypeId × Value → H) :
    ReturnsInHanded {} Try.checked os 7 .any (Rows.slewNearsSpec.pre6 enc Try.prog Try.f7 Rows.slewNearsRow.domain false) (Rows.slewNearsSpec.post enc Try.prog Try.f7 false true false false) := by
  refine returnsInHanded_of_change (C := Try.checked) own started (by kernel_rfl) Try.func7
    (ChangeSpec.witness6 (enc := enc) (C := Try.checked) false ⟨#[], #[.agg #[.int .i64 0, .int .i64 0, .int .i64 0, .int .i64 0, .int .i64 0, .int .i64 0, .int .i64 0, .int .i64 0, .int .i64 0, .int .i64 0, .int .i64 0, .int .i64 0], .int .i64 0, .int .i64 0, .int .i64 0, .int .i64 0], []⟩ 8 (by kernel_rfl) (by kernel_rfl) (by kernel_rfl) (by kernel_rfl)) ?_
  intro W base args ds gs before hval0 hW _ _
  have hval : ∀ (j : Nat) t v, Try.f7.params[j]? = some t → args[j]? = some v → Value.okWide Try.prog W .any base t v := hval0
  have hW' := hW
  obtain ⟨p, q, hA, hV, rfl, _, _⟩ := hW
  obtain ⟨rfl, rfl⟩ := trodVars_none hV
  replace hA : DataW.TrodAll enc Try.prog W 0 (fun _ => true) true Try.f7.params.toList args.toList ds p := hA
  rw [Try.params7] at hA hval
  obtain ⟨v0, vs0, d0, ds0, p0, q0, hargs, rfl, rfl, h0, r0⟩ := trodAll_cons hA
  obtain ⟨v1, vs1, d1, ds1, p1, q1, rfl, rfl, rfl, h1, r1⟩ := trodAll_cons r0
  obtain ⟨v2, vs2, d2, ds2, p2, q2, rfl, rfl, rfl, h2, r2⟩ := trodAll_cons r1
  obtain ⟨v3, vs3, d3, ds3, p3, q3, rfl, rfl, rfl, h3, r3⟩ := trodAll_cons r2
  obtain ⟨v4, vs4, d4, ds4, p4, q4, rfl, rfl, rfl, h4, r4⟩ := trodAll_cons r3
  obtain ⟨rfl, rfl, rfl⟩ := trodAll_nil r4
  obtain rfl : args = #[v0, v1, v2, v3, v4] := by cases args; simp_all
  obtain ⟨p0, rfl, wp0⟩ := open_par Try.underlying23 rfl (by kernel_rfl) (by kernel_rfl) (by kernel_rfl) (hval 0 23 v0 rfl rfl) h0
  obtain ⟨a1, rfl, rfl, rfl, w1⟩ := open_int Try.underlying3 (hval 1 3 v1 rfl rfl) h1
  obtain ⟨a2, rfl, rfl, rfl, w2⟩ := open_int Try.underlying3 (hval 2 3 v2 rfl rfl) h2
  obtain ⟨a3, rfl, rfl, rfl, w3⟩ := open_int Try.underlying3 (hval 3 3 v3 rfl rfl) h3
  obtain ⟨a4, rfl, rfl, rfl, w4⟩ := open_int Try.underlying3 (hval 4 3 v4 rfl rfl) h4
  refine (walk W p0 wp0 a1 w1 a2 w2 a3 w3 a4 w4).mono fun e W' ⟨he, hb⟩ => ?_
  subst he
  exact ⟨_, rfl, law_post hW' laidOut (by rw [Try.params7]; exact params_ok (by kernel_rfl)) rfl (by kernel_rfl) Try.underlying4 rfl rfl rfl hb⟩
theorem over : Rows.slewNearsRow.holds Try.pinned (OpenSpec.ofChange Rows.slewNearsSpec) :=
  OpenClaim.holds_of_wide 7 Try.f7 rfl rfl rfl rfl rfl rfl rfl ⟨rfl, rfl, rfl, rfl, rfl⟩ rfl rfl rfl rfl rfl (by kernel_rfl) Try.func7 (by kernel_rfl)
    (of_decide_eq_true (by kernel_rfl)) (by unfold Func.isWrapper; first | (rw [if_pos (by decide +kernel)]; kernel_rfl) | (rw [if_neg (by decide +kernel)]; exact ⟨rfl, rfl⟩))
    (fun os started H enc _ => lifted os started H enc)
theorem proved : Rows.SlewNearsSaid := over
end Go.Proofs.Ytcknnlekkbekmaa.slewNears
