/- ProbeHolds, its ways out: where numbers may not be so, or are too far off, the law answers true. -/
import Derived.Test.YtfhagccelkjflaaC10c
import Derived.Test.YtfhagccelkjflaaW06
namespace Go.Proofs.Ytfhagccelkjflaa.probeHolds
open Go.ChangeShapes Go.WideShapes Go.ChangeAt Go.RowKit
set_option linter.unusedVariables false
set_option maxRecDepth 100000
attribute [local go_sem ↓] Go.wp_at_zero Go.wp_at_succ
theorem no0 (w : World) (p : Par) (asked ad there rest back drift : Int) (hm : ¬ Lim.May p) : Calls Try.prog 5 #[parV p, .int .i64 asked, .int .i64 ad, .int .i64 there, .int .i64 rest, .int .i64 back, .int .i64 drift] w fun e w' => e = .returned (.bool true) ∧ Ok w w' := by
  have HP := Lib.hid (Own.new w (parCells p) 23 rfl)
  have HK := Lib.hid ((Ok.refl w).alloc (.cells (parCells p) 23))
  have KC := Lib.hid fun w => limCheck p w
  rw [show Lim.check p = 1 from if_neg hm] at KC
  clear hm
  go_enter Try.func5, Try.ntmps5
  go_wp2_with (first | (go_at_call 7; (with_reducible refine (law10Alive _).mono ?_); rintro e w1 ⟨rfl, hb1⟩; have hP := HP.out.next hb1; have hok := HK.out.trans hb1; clear hb1 HP HK; obtain ⟨c0, c1, c2, c3, c4, c5, c6, c7, c8, c9, c10, c11⟩ := hP.pars) | (go_at_call 13; (with_reducible refine (KC.out _).mono ?_); rintro e w2 ⟨rfl, hb1⟩; clear c0 c1 c2 c3 c4 c5 c6 c7 c8 c9 c10 c11; replace hP := hP.next hb1; replace hok := hok.trans hb1; clear hb1; obtain ⟨c0, c1, c2, c3, c4, c5, c6, c7, c8, c9, c10, c11⟩ := hP.pars; have hPl := hP.lt))
  go_ret
  exact ⟨rfl, hok⟩
theorem no1 (w : World) (p : Par) (asked ad there rest back drift : Int) (hm : Lim.May p) (h0 : there < p.delay - p.jit) : Calls Try.prog 5 #[parV p, .int .i64 asked, .int .i64 ad, .int .i64 there, .int .i64 rest, .int .i64 back, .int .i64 drift] w fun e w' => e = .returned (.bool true) ∧ Ok w w' := by
  have HP := Lib.hid (Own.new w (parCells p) 23 rfl)
  have HK := Lib.hid ((Ok.refl w).alloc (.cells (parCells p) 23))
  have KC := Lib.hid fun w => limCheck p w
  rw [show Lim.check p = 0 from if_pos hm] at KC
  obtain ⟨b1, r1, d1, j1, -⟩ := Lim.May.bds hm
  clear hm
  go_enter Try.func5, Try.ntmps5
  go_wp2_with (first | (go_at_call 7; (with_reducible refine (law10Alive _).mono ?_); rintro e w1 ⟨rfl, hb1⟩; have hP := HP.out.next hb1; have hok := HK.out.trans hb1; clear hb1 HP HK; obtain ⟨c0, c1, c2, c3, c4, c5, c6, c7, c8, c9, c10, c11⟩ := hP.pars) | (go_at_call 13; (with_reducible refine (KC.out _).mono ?_); rintro e w2 ⟨rfl, hb1⟩; clear c0 c1 c2 c3 c4 c5 c6 c7 c8 c9 c10 c11; replace hP := hP.next hb1; replace hok := hok.trans hb1; clear hb1; obtain ⟨c0, c1, c2, c3, c4, c5, c6, c7, c8, c9, c10, c11⟩ := hP.pars; have hPl := hP.lt))
  go_ret
  exact ⟨rfl, hok⟩
theorem no2 (w : World) (p : Par) (asked ad there rest back drift : Int) (hm : Lim.May p) (h0 : p.delay - p.jit ≤ there) (h1 : p.delay < there) : Calls Try.prog 5 #[parV p, .int .i64 asked, .int .i64 ad, .int .i64 there, .int .i64 rest, .int .i64 back, .int .i64 drift] w fun e w' => e = .returned (.bool true) ∧ Ok w w' := by
  have HP := Lib.hid (Own.new w (parCells p) 23 rfl)
  have HK := Lib.hid ((Ok.refl w).alloc (.cells (parCells p) 23))
  have KC := Lib.hid fun w => limCheck p w
  rw [show Lim.check p = 0 from if_pos hm] at KC
  obtain ⟨b1, r1, d1, j1, -⟩ := Lim.May.bds hm
  clear hm
  go_enter Try.func5, Try.ntmps5
  go_wp2_with (first | (go_at_call 7; (with_reducible refine (law10Alive _).mono ?_); rintro e w1 ⟨rfl, hb1⟩; have hP := HP.out.next hb1; have hok := HK.out.trans hb1; clear hb1 HP HK; obtain ⟨c0, c1, c2, c3, c4, c5, c6, c7, c8, c9, c10, c11⟩ := hP.pars) | (go_at_call 13; (with_reducible refine (KC.out _).mono ?_); rintro e w2 ⟨rfl, hb1⟩; clear c0 c1 c2 c3 c4 c5 c6 c7 c8 c9 c10 c11; replace hP := hP.next hb1; replace hok := hok.trans hb1; clear hb1; obtain ⟨c0, c1, c2, c3, c4, c5, c6, c7, c8, c9, c10, c11⟩ := hP.pars; have hPl := hP.lt))
  go_ret
  exact ⟨rfl, hok⟩
theorem no3 (w : World) (p : Par) (asked ad there rest back drift : Int) (hm : Lim.May p) (h0 : p.delay - p.jit ≤ there) (h1 : there ≤ p.delay) (h2 : back < p.delay - p.jit) : Calls Try.prog 5 #[parV p, .int .i64 asked, .int .i64 ad, .int .i64 there, .int .i64 rest, .int .i64 back, .int .i64 drift] w fun e w' => e = .returned (.bool true) ∧ Ok w w' := by
  have HP := Lib.hid (Own.new w (parCells p) 23 rfl)
  have HK := Lib.hid ((Ok.refl w).alloc (.cells (parCells p) 23))
  have KC := Lib.hid fun w => limCheck p w
  rw [show Lim.check p = 0 from if_pos hm] at KC
  obtain ⟨b1, r1, d1, j1, -⟩ := Lim.May.bds hm
  clear hm
  go_enter Try.func5, Try.ntmps5
  go_wp2_with (first | (go_at_call 7; (with_reducible refine (law10Alive _).mono ?_); rintro e w1 ⟨rfl, hb1⟩; have hP := HP.out.next hb1; have hok := HK.out.trans hb1; clear hb1 HP HK; obtain ⟨c0, c1, c2, c3, c4, c5, c6, c7, c8, c9, c10, c11⟩ := hP.pars) | (go_at_call 13; (with_reducible refine (KC.out _).mono ?_); rintro e w2 ⟨rfl, hb1⟩; clear c0 c1 c2 c3 c4 c5 c6 c7 c8 c9 c10 c11; replace hP := hP.next hb1; replace hok := hok.trans hb1; clear hb1; obtain ⟨c0, c1, c2, c3, c4, c5, c6, c7, c8, c9, c10, c11⟩ := hP.pars; have hPl := hP.lt))
  go_ret
  exact ⟨rfl, hok⟩
theorem no4 (w : World) (p : Par) (asked ad there rest back drift : Int) (hm : Lim.May p) (h0 : p.delay - p.jit ≤ there) (h1 : there ≤ p.delay) (h2 : p.delay - p.jit ≤ back) (h3 : p.delay < back) : Calls Try.prog 5 #[parV p, .int .i64 asked, .int .i64 ad, .int .i64 there, .int .i64 rest, .int .i64 back, .int .i64 drift] w fun e w' => e = .returned (.bool true) ∧ Ok w w' := by
  have HP := Lib.hid (Own.new w (parCells p) 23 rfl)
  have HK := Lib.hid ((Ok.refl w).alloc (.cells (parCells p) 23))
  have KC := Lib.hid fun w => limCheck p w
  rw [show Lim.check p = 0 from if_pos hm] at KC
  obtain ⟨b1, r1, d1, j1, -⟩ := Lim.May.bds hm
  clear hm
  go_enter Try.func5, Try.ntmps5
  go_wp2_with (first | (go_at_call 7; (with_reducible refine (law10Alive _).mono ?_); rintro e w1 ⟨rfl, hb1⟩; have hP := HP.out.next hb1; have hok := HK.out.trans hb1; clear hb1 HP HK; obtain ⟨c0, c1, c2, c3, c4, c5, c6, c7, c8, c9, c10, c11⟩ := hP.pars) | (go_at_call 13; (with_reducible refine (KC.out _).mono ?_); rintro e w2 ⟨rfl, hb1⟩; clear c0 c1 c2 c3 c4 c5 c6 c7 c8 c9 c10 c11; replace hP := hP.next hb1; replace hok := hok.trans hb1; clear hb1; obtain ⟨c0, c1, c2, c3, c4, c5, c6, c7, c8, c9, c10, c11⟩ := hP.pars; have hPl := hP.lt))
  go_ret
  exact ⟨rfl, hok⟩
theorem no5 (w : World) (p : Par) (asked ad there rest back drift : Int) (hm : Lim.May p) (h0 : p.delay - p.jit ≤ there) (h1 : there ≤ p.delay) (h2 : p.delay - p.jit ≤ back) (h3 : back ≤ p.delay) (h4 : 2 * p.rho < drift) : Calls Try.prog 5 #[parV p, .int .i64 asked, .int .i64 ad, .int .i64 there, .int .i64 rest, .int .i64 back, .int .i64 drift] w fun e w' => e = .returned (.bool true) ∧ Ok w w' := by
  have HP := Lib.hid (Own.new w (parCells p) 23 rfl)
  have HK := Lib.hid ((Ok.refl w).alloc (.cells (parCells p) 23))
  have KC := Lib.hid fun w => limCheck p w
  rw [show Lim.check p = 0 from if_pos hm] at KC
  obtain ⟨b1, r1, d1, j1, -⟩ := Lim.May.bds hm
  clear hm
  go_enter Try.func5, Try.ntmps5
  go_wp2_with (first | (go_at_call 7; (with_reducible refine (law10Alive _).mono ?_); rintro e w1 ⟨rfl, hb1⟩; have hP := HP.out.next hb1; have hok := HK.out.trans hb1; clear hb1 HP HK; obtain ⟨c0, c1, c2, c3, c4, c5, c6, c7, c8, c9, c10, c11⟩ := hP.pars) | (go_at_call 13; (with_reducible refine (KC.out _).mono ?_); rintro e w2 ⟨rfl, hb1⟩; clear c0 c1 c2 c3 c4 c5 c6 c7 c8 c9 c10 c11; replace hP := hP.next hb1; replace hok := hok.trans hb1; clear hb1; obtain ⟨c0, c1, c2, c3, c4, c5, c6, c7, c8, c9, c10, c11⟩ := hP.pars; have hPl := hP.lt))
  go_ret
  exact ⟨rfl, hok⟩
theorem no6 (w : World) (p : Par) (asked ad there rest back drift : Int) (hm : Lim.May p) (h0 : p.delay - p.jit ≤ there) (h1 : there ≤ p.delay) (h2 : p.delay - p.jit ≤ back) (h3 : back ≤ p.delay) (h4 : drift ≤ 2 * p.rho) (h5 : drift < -2 * p.rho) : Calls Try.prog 5 #[parV p, .int .i64 asked, .int .i64 ad, .int .i64 there, .int .i64 rest, .int .i64 back, .int .i64 drift] w fun e w' => e = .returned (.bool true) ∧ Ok w w' := by
  have HP := Lib.hid (Own.new w (parCells p) 23 rfl)
  have HK := Lib.hid ((Ok.refl w).alloc (.cells (parCells p) 23))
  have KC := Lib.hid fun w => limCheck p w
  rw [show Lim.check p = 0 from if_pos hm] at KC
  obtain ⟨b1, r1, d1, j1, -⟩ := Lim.May.bds hm
  clear hm
  go_enter Try.func5, Try.ntmps5
  go_wp2_with (first | (go_at_call 7; (with_reducible refine (law10Alive _).mono ?_); rintro e w1 ⟨rfl, hb1⟩; have hP := HP.out.next hb1; have hok := HK.out.trans hb1; clear hb1 HP HK; obtain ⟨c0, c1, c2, c3, c4, c5, c6, c7, c8, c9, c10, c11⟩ := hP.pars) | (go_at_call 13; (with_reducible refine (KC.out _).mono ?_); rintro e w2 ⟨rfl, hb1⟩; clear c0 c1 c2 c3 c4 c5 c6 c7 c8 c9 c10 c11; replace hP := hP.next hb1; replace hok := hok.trans hb1; clear hb1; obtain ⟨c0, c1, c2, c3, c4, c5, c6, c7, c8, c9, c10, c11⟩ := hP.pars; have hPl := hP.lt))
  go_ret
  exact ⟨rfl, hok⟩
theorem far00 (w : World) (p : Par) (asked ad there rest back drift : Int) (hm : Lim.May p) (h0 : p.delay - p.jit ≤ there) (h1 : there ≤ p.delay) (h2 : p.delay - p.jit ≤ back) (h3 : back ≤ p.delay) (h4 : drift ≤ 2 * p.rho) (h5 : -2 * p.rho ≤ drift) (g0 : 1125899906842624 < asked) : Calls Try.prog 5 #[parV p, .int .i64 asked, .int .i64 ad, .int .i64 there, .int .i64 rest, .int .i64 back, .int .i64 drift] w fun e w' => e = .returned (.bool true) ∧ Ok w w' := by
  have HP := Lib.hid (Own.new w (parCells p) 23 rfl)
  have HK := Lib.hid ((Ok.refl w).alloc (.cells (parCells p) 23))
  have KC := Lib.hid fun w => limCheck p w
  rw [show Lim.check p = 0 from if_pos hm] at KC
  obtain ⟨b1, r1, d1, j1, -⟩ := Lim.May.bds hm
  clear hm
  have n0 : ∀ (w : World), (Instr.index 38 (.agg #[.int .i64 asked, .int .i64 ad, .int .i64 rest]) (.int .i64 0)).run Try.prog w = .ok (.int .i64 asked) w := fun _ => by kernel_rfl
  have n1 : ∀ (w : World), (Instr.index 38 (.agg #[.int .i64 asked, .int .i64 ad, .int .i64 rest]) (.int .i64 1)).run Try.prog w = .ok (.int .i64 ad) w := fun _ => by kernel_rfl
  have n2 : ∀ (w : World), (Instr.index 38 (.agg #[.int .i64 asked, .int .i64 ad, .int .i64 rest]) (.int .i64 2)).run Try.prog w = .ok (.int .i64 rest) w := fun _ => by kernel_rfl
  go_enter Try.func5, Try.ntmps5
  go_wp2_with (first | (go_at_call 7; (with_reducible refine (law10Alive _).mono ?_); rintro e w1 ⟨rfl, hb1⟩; have hP := HP.out.next hb1; have hok := HK.out.trans hb1; clear hb1 HP HK; obtain ⟨c0, c1, c2, c3, c4, c5, c6, c7, c8, c9, c10, c11⟩ := hP.pars) | (go_at_call 13; (with_reducible refine (KC.out _).mono ?_); rintro e w2 ⟨rfl, hb1⟩; clear c0 c1 c2 c3 c4 c5 c6 c7 c8 c9 c10 c11; replace hP := hP.next hb1; replace hok := hok.trans hb1; clear hb1; obtain ⟨c0, c1, c2, c3, c4, c5, c6, c7, c8, c9, c10, c11⟩ := hP.pars; have hPl := hP.lt))
  refine wp_loop_rounds 4 ?_
  repeat' (rw [rounds_succ]; go_wp2_with fail)
  go_ret
  exact ⟨rfl, hok⟩
theorem far01 (w : World) (p : Par) (asked ad there rest back drift : Int) (hm : Lim.May p) (h0 : p.delay - p.jit ≤ there) (h1 : there ≤ p.delay) (h2 : p.delay - p.jit ≤ back) (h3 : back ≤ p.delay) (h4 : drift ≤ 2 * p.rho) (h5 : -2 * p.rho ≤ drift) (g0 : asked < -1125899906842624) : Calls Try.prog 5 #[parV p, .int .i64 asked, .int .i64 ad, .int .i64 there, .int .i64 rest, .int .i64 back, .int .i64 drift] w fun e w' => e = .returned (.bool true) ∧ Ok w w' := by
  have HP := Lib.hid (Own.new w (parCells p) 23 rfl)
  have HK := Lib.hid ((Ok.refl w).alloc (.cells (parCells p) 23))
  have KC := Lib.hid fun w => limCheck p w
  rw [show Lim.check p = 0 from if_pos hm] at KC
  obtain ⟨b1, r1, d1, j1, -⟩ := Lim.May.bds hm
  clear hm
  have n0 : ∀ (w : World), (Instr.index 38 (.agg #[.int .i64 asked, .int .i64 ad, .int .i64 rest]) (.int .i64 0)).run Try.prog w = .ok (.int .i64 asked) w := fun _ => by kernel_rfl
  have n1 : ∀ (w : World), (Instr.index 38 (.agg #[.int .i64 asked, .int .i64 ad, .int .i64 rest]) (.int .i64 1)).run Try.prog w = .ok (.int .i64 ad) w := fun _ => by kernel_rfl
  have n2 : ∀ (w : World), (Instr.index 38 (.agg #[.int .i64 asked, .int .i64 ad, .int .i64 rest]) (.int .i64 2)).run Try.prog w = .ok (.int .i64 rest) w := fun _ => by kernel_rfl
  go_enter Try.func5, Try.ntmps5
  go_wp2_with (first | (go_at_call 7; (with_reducible refine (law10Alive _).mono ?_); rintro e w1 ⟨rfl, hb1⟩; have hP := HP.out.next hb1; have hok := HK.out.trans hb1; clear hb1 HP HK; obtain ⟨c0, c1, c2, c3, c4, c5, c6, c7, c8, c9, c10, c11⟩ := hP.pars) | (go_at_call 13; (with_reducible refine (KC.out _).mono ?_); rintro e w2 ⟨rfl, hb1⟩; clear c0 c1 c2 c3 c4 c5 c6 c7 c8 c9 c10 c11; replace hP := hP.next hb1; replace hok := hok.trans hb1; clear hb1; obtain ⟨c0, c1, c2, c3, c4, c5, c6, c7, c8, c9, c10, c11⟩ := hP.pars; have hPl := hP.lt))
  refine wp_loop_rounds 4 ?_
  repeat' (rw [rounds_succ]; go_wp2_with fail)
  go_ret
  exact ⟨rfl, hok⟩
theorem far10 (w : World) (p : Par) (asked ad there rest back drift : Int) (hm : Lim.May p) (h0 : p.delay - p.jit ≤ there) (h1 : there ≤ p.delay) (h2 : p.delay - p.jit ≤ back) (h3 : back ≤ p.delay) (h4 : drift ≤ 2 * p.rho) (h5 : -2 * p.rho ≤ drift) (g0 : asked ≤ 1125899906842624 ∧ -1125899906842624 ≤ asked) (g1 : 1125899906842624 < ad) : Calls Try.prog 5 #[parV p, .int .i64 asked, .int .i64 ad, .int .i64 there, .int .i64 rest, .int .i64 back, .int .i64 drift] w fun e w' => e = .returned (.bool true) ∧ Ok w w' := by
  have HP := Lib.hid (Own.new w (parCells p) 23 rfl)
  have HK := Lib.hid ((Ok.refl w).alloc (.cells (parCells p) 23))
  have KC := Lib.hid fun w => limCheck p w
  rw [show Lim.check p = 0 from if_pos hm] at KC
  obtain ⟨b1, r1, d1, j1, -⟩ := Lim.May.bds hm
  clear hm
  have n0 : ∀ (w : World), (Instr.index 38 (.agg #[.int .i64 asked, .int .i64 ad, .int .i64 rest]) (.int .i64 0)).run Try.prog w = .ok (.int .i64 asked) w := fun _ => by kernel_rfl
  have n1 : ∀ (w : World), (Instr.index 38 (.agg #[.int .i64 asked, .int .i64 ad, .int .i64 rest]) (.int .i64 1)).run Try.prog w = .ok (.int .i64 ad) w := fun _ => by kernel_rfl
  have n2 : ∀ (w : World), (Instr.index 38 (.agg #[.int .i64 asked, .int .i64 ad, .int .i64 rest]) (.int .i64 2)).run Try.prog w = .ok (.int .i64 rest) w := fun _ => by kernel_rfl
  go_enter Try.func5, Try.ntmps5
  go_wp2_with (first | (go_at_call 7; (with_reducible refine (law10Alive _).mono ?_); rintro e w1 ⟨rfl, hb1⟩; have hP := HP.out.next hb1; have hok := HK.out.trans hb1; clear hb1 HP HK; obtain ⟨c0, c1, c2, c3, c4, c5, c6, c7, c8, c9, c10, c11⟩ := hP.pars) | (go_at_call 13; (with_reducible refine (KC.out _).mono ?_); rintro e w2 ⟨rfl, hb1⟩; clear c0 c1 c2 c3 c4 c5 c6 c7 c8 c9 c10 c11; replace hP := hP.next hb1; replace hok := hok.trans hb1; clear hb1; obtain ⟨c0, c1, c2, c3, c4, c5, c6, c7, c8, c9, c10, c11⟩ := hP.pars; have hPl := hP.lt))
  refine wp_loop_rounds 4 ?_
  repeat' (rw [rounds_succ]; go_wp2_with fail)
  go_ret
  exact ⟨rfl, hok⟩
theorem far11 (w : World) (p : Par) (asked ad there rest back drift : Int) (hm : Lim.May p) (h0 : p.delay - p.jit ≤ there) (h1 : there ≤ p.delay) (h2 : p.delay - p.jit ≤ back) (h3 : back ≤ p.delay) (h4 : drift ≤ 2 * p.rho) (h5 : -2 * p.rho ≤ drift) (g0 : asked ≤ 1125899906842624 ∧ -1125899906842624 ≤ asked) (g1 : ad < -1125899906842624) : Calls Try.prog 5 #[parV p, .int .i64 asked, .int .i64 ad, .int .i64 there, .int .i64 rest, .int .i64 back, .int .i64 drift] w fun e w' => e = .returned (.bool true) ∧ Ok w w' := by
  have HP := Lib.hid (Own.new w (parCells p) 23 rfl)
  have HK := Lib.hid ((Ok.refl w).alloc (.cells (parCells p) 23))
  have KC := Lib.hid fun w => limCheck p w
  rw [show Lim.check p = 0 from if_pos hm] at KC
  obtain ⟨b1, r1, d1, j1, -⟩ := Lim.May.bds hm
  clear hm
  have n0 : ∀ (w : World), (Instr.index 38 (.agg #[.int .i64 asked, .int .i64 ad, .int .i64 rest]) (.int .i64 0)).run Try.prog w = .ok (.int .i64 asked) w := fun _ => by kernel_rfl
  have n1 : ∀ (w : World), (Instr.index 38 (.agg #[.int .i64 asked, .int .i64 ad, .int .i64 rest]) (.int .i64 1)).run Try.prog w = .ok (.int .i64 ad) w := fun _ => by kernel_rfl
  have n2 : ∀ (w : World), (Instr.index 38 (.agg #[.int .i64 asked, .int .i64 ad, .int .i64 rest]) (.int .i64 2)).run Try.prog w = .ok (.int .i64 rest) w := fun _ => by kernel_rfl
  go_enter Try.func5, Try.ntmps5
  go_wp2_with (first | (go_at_call 7; (with_reducible refine (law10Alive _).mono ?_); rintro e w1 ⟨rfl, hb1⟩; have hP := HP.out.next hb1; have hok := HK.out.trans hb1; clear hb1 HP HK; obtain ⟨c0, c1, c2, c3, c4, c5, c6, c7, c8, c9, c10, c11⟩ := hP.pars) | (go_at_call 13; (with_reducible refine (KC.out _).mono ?_); rintro e w2 ⟨rfl, hb1⟩; clear c0 c1 c2 c3 c4 c5 c6 c7 c8 c9 c10 c11; replace hP := hP.next hb1; replace hok := hok.trans hb1; clear hb1; obtain ⟨c0, c1, c2, c3, c4, c5, c6, c7, c8, c9, c10, c11⟩ := hP.pars; have hPl := hP.lt))
  refine wp_loop_rounds 4 ?_
  repeat' (rw [rounds_succ]; go_wp2_with fail)
  go_ret
  exact ⟨rfl, hok⟩
theorem far20 (w : World) (p : Par) (asked ad there rest back drift : Int) (hm : Lim.May p) (h0 : p.delay - p.jit ≤ there) (h1 : there ≤ p.delay) (h2 : p.delay - p.jit ≤ back) (h3 : back ≤ p.delay) (h4 : drift ≤ 2 * p.rho) (h5 : -2 * p.rho ≤ drift) (g0 : asked ≤ 1125899906842624 ∧ -1125899906842624 ≤ asked) (g1 : ad ≤ 1125899906842624 ∧ -1125899906842624 ≤ ad) (g2 : 1125899906842624 < rest) : Calls Try.prog 5 #[parV p, .int .i64 asked, .int .i64 ad, .int .i64 there, .int .i64 rest, .int .i64 back, .int .i64 drift] w fun e w' => e = .returned (.bool true) ∧ Ok w w' := by
  have HP := Lib.hid (Own.new w (parCells p) 23 rfl)
  have HK := Lib.hid ((Ok.refl w).alloc (.cells (parCells p) 23))
  have KC := Lib.hid fun w => limCheck p w
  rw [show Lim.check p = 0 from if_pos hm] at KC
  obtain ⟨b1, r1, d1, j1, -⟩ := Lim.May.bds hm
  clear hm
  have n0 : ∀ (w : World), (Instr.index 38 (.agg #[.int .i64 asked, .int .i64 ad, .int .i64 rest]) (.int .i64 0)).run Try.prog w = .ok (.int .i64 asked) w := fun _ => by kernel_rfl
  have n1 : ∀ (w : World), (Instr.index 38 (.agg #[.int .i64 asked, .int .i64 ad, .int .i64 rest]) (.int .i64 1)).run Try.prog w = .ok (.int .i64 ad) w := fun _ => by kernel_rfl
  have n2 : ∀ (w : World), (Instr.index 38 (.agg #[.int .i64 asked, .int .i64 ad, .int .i64 rest]) (.int .i64 2)).run Try.prog w = .ok (.int .i64 rest) w := fun _ => by kernel_rfl
  go_enter Try.func5, Try.ntmps5
  go_wp2_with (first | (go_at_call 7; (with_reducible refine (law10Alive _).mono ?_); rintro e w1 ⟨rfl, hb1⟩; have hP := HP.out.next hb1; have hok := HK.out.trans hb1; clear hb1 HP HK; obtain ⟨c0, c1, c2, c3, c4, c5, c6, c7, c8, c9, c10, c11⟩ := hP.pars) | (go_at_call 13; (with_reducible refine (KC.out _).mono ?_); rintro e w2 ⟨rfl, hb1⟩; clear c0 c1 c2 c3 c4 c5 c6 c7 c8 c9 c10 c11; replace hP := hP.next hb1; replace hok := hok.trans hb1; clear hb1; obtain ⟨c0, c1, c2, c3, c4, c5, c6, c7, c8, c9, c10, c11⟩ := hP.pars; have hPl := hP.lt))
  refine wp_loop_rounds 4 ?_
  repeat' (rw [rounds_succ]; go_wp2_with fail)
  go_ret
  exact ⟨rfl, hok⟩
theorem far21 (w : World) (p : Par) (asked ad there rest back drift : Int) (hm : Lim.May p) (h0 : p.delay - p.jit ≤ there) (h1 : there ≤ p.delay) (h2 : p.delay - p.jit ≤ back) (h3 : back ≤ p.delay) (h4 : drift ≤ 2 * p.rho) (h5 : -2 * p.rho ≤ drift) (g0 : asked ≤ 1125899906842624 ∧ -1125899906842624 ≤ asked) (g1 : ad ≤ 1125899906842624 ∧ -1125899906842624 ≤ ad) (g2 : rest < -1125899906842624) : Calls Try.prog 5 #[parV p, .int .i64 asked, .int .i64 ad, .int .i64 there, .int .i64 rest, .int .i64 back, .int .i64 drift] w fun e w' => e = .returned (.bool true) ∧ Ok w w' := by
  have HP := Lib.hid (Own.new w (parCells p) 23 rfl)
  have HK := Lib.hid ((Ok.refl w).alloc (.cells (parCells p) 23))
  have KC := Lib.hid fun w => limCheck p w
  rw [show Lim.check p = 0 from if_pos hm] at KC
  obtain ⟨b1, r1, d1, j1, -⟩ := Lim.May.bds hm
  clear hm
  have n0 : ∀ (w : World), (Instr.index 38 (.agg #[.int .i64 asked, .int .i64 ad, .int .i64 rest]) (.int .i64 0)).run Try.prog w = .ok (.int .i64 asked) w := fun _ => by kernel_rfl
  have n1 : ∀ (w : World), (Instr.index 38 (.agg #[.int .i64 asked, .int .i64 ad, .int .i64 rest]) (.int .i64 1)).run Try.prog w = .ok (.int .i64 ad) w := fun _ => by kernel_rfl
  have n2 : ∀ (w : World), (Instr.index 38 (.agg #[.int .i64 asked, .int .i64 ad, .int .i64 rest]) (.int .i64 2)).run Try.prog w = .ok (.int .i64 rest) w := fun _ => by kernel_rfl
  go_enter Try.func5, Try.ntmps5
  go_wp2_with (first | (go_at_call 7; (with_reducible refine (law10Alive _).mono ?_); rintro e w1 ⟨rfl, hb1⟩; have hP := HP.out.next hb1; have hok := HK.out.trans hb1; clear hb1 HP HK; obtain ⟨c0, c1, c2, c3, c4, c5, c6, c7, c8, c9, c10, c11⟩ := hP.pars) | (go_at_call 13; (with_reducible refine (KC.out _).mono ?_); rintro e w2 ⟨rfl, hb1⟩; clear c0 c1 c2 c3 c4 c5 c6 c7 c8 c9 c10 c11; replace hP := hP.next hb1; replace hok := hok.trans hb1; clear hb1; obtain ⟨c0, c1, c2, c3, c4, c5, c6, c7, c8, c9, c10, c11⟩ := hP.pars; have hPl := hP.lt))
  refine wp_loop_rounds 4 ?_
  repeat' (rw [rounds_succ]; go_wp2_with fail)
  go_ret
  exact ⟨rfl, hok⟩
end Go.Proofs.Ytfhagccelkjflaa.probeHolds
