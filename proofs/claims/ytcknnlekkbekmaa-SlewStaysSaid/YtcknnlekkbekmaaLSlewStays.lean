/- SlewStays: for all numbers the law answers true: a clock that was at most so far from the time, and is brought to something at most so far from it, is at most so far from it again. No condition. -/
import Derived.Test.YtcknnlekkbekmaaC12c
import Derived.Test.YtcknnlekkbekmaaW06
namespace Go.Proofs.Ytcknnlekkbekmaa.slewStays
open Go.ChangeShapes Go.WideShapes Go.ChangeAt Go.RowKit
set_option linter.unusedVariables false
set_option maxRecDepth 100000
attribute [local go_sem ↓] Go.wp_at_zero Go.wp_at_succ
theorem no0 (W0 : World) (p : Par) (now wd off err to : Int) (hm : ¬ Lim.May p) : Calls Try.prog 5 #[parV p, .int .i64 now, .int .i64 wd, .int .i64 off, .int .i64 err, .int .i64 to] W0 fun e w' => e = .returned (.bool true) ∧ Ok W0 w' := by
  have HP := Lib.hid (Own.new W0 (parCells p) 23 rfl)
  have HK := Lib.hid ((Ok.refl W0).alloc (.cells (parCells p) 23))
  have KC := Lib.hid fun w => limCheck p w
  rw [show Lim.check p = 1 from if_neg hm] at KC
  clear hm
  go_enter Try.func5, Try.ntmps5
  go_wp2_with (first | (go_at_call 8; (with_reducible refine (law12Alive _).mono ?_); rintro e w1 ⟨rfl, hb1⟩; have hP := HP.out.next hb1; have hok := HK.out.trans hb1; clear hb1 HP HK; obtain ⟨c0, c1, c2, c3, c4, c5, c6, c7, c8, c9, c10, c11⟩ := hP.pars; have hPl := hP.lt) | (go_at_call 14; (with_reducible refine (KC.out _).mono ?_); rintro e w2 ⟨rfl, hb1⟩; clear c0 c1 c2 c3 c4 c5 c6 c7 c8 c9 c10 c11 hPl; replace hP := hP.next hb1; replace hok := hok.trans hb1; clear hb1; obtain ⟨c0, c1, c2, c3, c4, c5, c6, c7, c8, c9, c10, c11⟩ := hP.pars; have hPl := hP.lt))
  go_ret
  exact ⟨rfl, hok⟩
theorem no1 (W0 : World) (p : Par) (now wd off err to : Int) (hm : Lim.May p) (h0 : wd < 0) : Calls Try.prog 5 #[parV p, .int .i64 now, .int .i64 wd, .int .i64 off, .int .i64 err, .int .i64 to] W0 fun e w' => e = .returned (.bool true) ∧ Ok W0 w' := by
  have HP := Lib.hid (Own.new W0 (parCells p) 23 rfl)
  have HK := Lib.hid ((Ok.refl W0).alloc (.cells (parCells p) 23))
  have KC := Lib.hid fun w => limCheck p w
  rw [show Lim.check p = 0 from if_pos hm] at KC
  obtain ⟨⟨m1, m2⟩, ⟨m3, m4⟩, m5, m6⟩ := Slew.mu_bds hm
  clear hm
  go_enter Try.func5, Try.ntmps5
  go_wp2_with (first | (go_at_call 8; (with_reducible refine (law12Alive _).mono ?_); rintro e w1 ⟨rfl, hb1⟩; have hP := HP.out.next hb1; have hok := HK.out.trans hb1; clear hb1 HP HK; obtain ⟨c0, c1, c2, c3, c4, c5, c6, c7, c8, c9, c10, c11⟩ := hP.pars; have hPl := hP.lt) | (go_at_call 14; (with_reducible refine (KC.out _).mono ?_); rintro e w2 ⟨rfl, hb1⟩; clear c0 c1 c2 c3 c4 c5 c6 c7 c8 c9 c10 c11 hPl; replace hP := hP.next hb1; replace hok := hok.trans hb1; clear hb1; obtain ⟨c0, c1, c2, c3, c4, c5, c6, c7, c8, c9, c10, c11⟩ := hP.pars; have hPl := hP.lt))
  go_ret
  exact ⟨rfl, hok⟩
theorem no2 (W0 : World) (p : Par) (now wd off err to : Int) (hm : Lim.May p) (h0 : 0 ≤ wd) (h1 : 72057594037927936 < wd) : Calls Try.prog 5 #[parV p, .int .i64 now, .int .i64 wd, .int .i64 off, .int .i64 err, .int .i64 to] W0 fun e w' => e = .returned (.bool true) ∧ Ok W0 w' := by
  have HP := Lib.hid (Own.new W0 (parCells p) 23 rfl)
  have HK := Lib.hid ((Ok.refl W0).alloc (.cells (parCells p) 23))
  have KC := Lib.hid fun w => limCheck p w
  rw [show Lim.check p = 0 from if_pos hm] at KC
  obtain ⟨⟨m1, m2⟩, ⟨m3, m4⟩, m5, m6⟩ := Slew.mu_bds hm
  clear hm
  go_enter Try.func5, Try.ntmps5
  go_wp2_with (first | (go_at_call 8; (with_reducible refine (law12Alive _).mono ?_); rintro e w1 ⟨rfl, hb1⟩; have hP := HP.out.next hb1; have hok := HK.out.trans hb1; clear hb1 HP HK; obtain ⟨c0, c1, c2, c3, c4, c5, c6, c7, c8, c9, c10, c11⟩ := hP.pars; have hPl := hP.lt) | (go_at_call 14; (with_reducible refine (KC.out _).mono ?_); rintro e w2 ⟨rfl, hb1⟩; clear c0 c1 c2 c3 c4 c5 c6 c7 c8 c9 c10 c11 hPl; replace hP := hP.next hb1; replace hok := hok.trans hb1; clear hb1; obtain ⟨c0, c1, c2, c3, c4, c5, c6, c7, c8, c9, c10, c11⟩ := hP.pars; have hPl := hP.lt))
  go_ret
  exact ⟨rfl, hok⟩
theorem no3 (W0 : World) (p : Par) (now wd off err to : Int) (hm : Lim.May p) (h0 : 0 ≤ wd) (h1 : wd ≤ 72057594037927936) (h2 : 72057594037927936 < now) : Calls Try.prog 5 #[parV p, .int .i64 now, .int .i64 wd, .int .i64 off, .int .i64 err, .int .i64 to] W0 fun e w' => e = .returned (.bool true) ∧ Ok W0 w' := by
  have HP := Lib.hid (Own.new W0 (parCells p) 23 rfl)
  have HK := Lib.hid ((Ok.refl W0).alloc (.cells (parCells p) 23))
  have KC := Lib.hid fun w => limCheck p w
  rw [show Lim.check p = 0 from if_pos hm] at KC
  obtain ⟨⟨m1, m2⟩, ⟨m3, m4⟩, m5, m6⟩ := Slew.mu_bds hm
  clear hm
  go_enter Try.func5, Try.ntmps5
  go_wp2_with (first | (go_at_call 8; (with_reducible refine (law12Alive _).mono ?_); rintro e w1 ⟨rfl, hb1⟩; have hP := HP.out.next hb1; have hok := HK.out.trans hb1; clear hb1 HP HK; obtain ⟨c0, c1, c2, c3, c4, c5, c6, c7, c8, c9, c10, c11⟩ := hP.pars; have hPl := hP.lt) | (go_at_call 14; (with_reducible refine (KC.out _).mono ?_); rintro e w2 ⟨rfl, hb1⟩; clear c0 c1 c2 c3 c4 c5 c6 c7 c8 c9 c10 c11 hPl; replace hP := hP.next hb1; replace hok := hok.trans hb1; clear hb1; obtain ⟨c0, c1, c2, c3, c4, c5, c6, c7, c8, c9, c10, c11⟩ := hP.pars; have hPl := hP.lt))
  go_ret
  exact ⟨rfl, hok⟩
theorem no4 (W0 : World) (p : Par) (now wd off err to : Int) (hm : Lim.May p) (h0 : 0 ≤ wd) (h1 : wd ≤ 72057594037927936) (h2 : now ≤ 72057594037927936) (h3 : now < -72057594037927936) : Calls Try.prog 5 #[parV p, .int .i64 now, .int .i64 wd, .int .i64 off, .int .i64 err, .int .i64 to] W0 fun e w' => e = .returned (.bool true) ∧ Ok W0 w' := by
  have HP := Lib.hid (Own.new W0 (parCells p) 23 rfl)
  have HK := Lib.hid ((Ok.refl W0).alloc (.cells (parCells p) 23))
  have KC := Lib.hid fun w => limCheck p w
  rw [show Lim.check p = 0 from if_pos hm] at KC
  obtain ⟨⟨m1, m2⟩, ⟨m3, m4⟩, m5, m6⟩ := Slew.mu_bds hm
  clear hm
  go_enter Try.func5, Try.ntmps5
  go_wp2_with (first | (go_at_call 8; (with_reducible refine (law12Alive _).mono ?_); rintro e w1 ⟨rfl, hb1⟩; have hP := HP.out.next hb1; have hok := HK.out.trans hb1; clear hb1 HP HK; obtain ⟨c0, c1, c2, c3, c4, c5, c6, c7, c8, c9, c10, c11⟩ := hP.pars; have hPl := hP.lt) | (go_at_call 14; (with_reducible refine (KC.out _).mono ?_); rintro e w2 ⟨rfl, hb1⟩; clear c0 c1 c2 c3 c4 c5 c6 c7 c8 c9 c10 c11 hPl; replace hP := hP.next hb1; replace hok := hok.trans hb1; clear hb1; obtain ⟨c0, c1, c2, c3, c4, c5, c6, c7, c8, c9, c10, c11⟩ := hP.pars; have hPl := hP.lt))
  go_ret
  exact ⟨rfl, hok⟩
theorem no5 (W0 : World) (p : Par) (now wd off err to : Int) (hm : Lim.May p) (h0 : 0 ≤ wd) (h1 : wd ≤ 72057594037927936) (h2 : now ≤ 72057594037927936) (h3 : -72057594037927936 ≤ now) (h4 : wd < off) : Calls Try.prog 5 #[parV p, .int .i64 now, .int .i64 wd, .int .i64 off, .int .i64 err, .int .i64 to] W0 fun e w' => e = .returned (.bool true) ∧ Ok W0 w' := by
  have HP := Lib.hid (Own.new W0 (parCells p) 23 rfl)
  have HK := Lib.hid ((Ok.refl W0).alloc (.cells (parCells p) 23))
  have KC := Lib.hid fun w => limCheck p w
  rw [show Lim.check p = 0 from if_pos hm] at KC
  obtain ⟨⟨m1, m2⟩, ⟨m3, m4⟩, m5, m6⟩ := Slew.mu_bds hm
  clear hm
  go_enter Try.func5, Try.ntmps5
  go_wp2_with (first | (go_at_call 8; (with_reducible refine (law12Alive _).mono ?_); rintro e w1 ⟨rfl, hb1⟩; have hP := HP.out.next hb1; have hok := HK.out.trans hb1; clear hb1 HP HK; obtain ⟨c0, c1, c2, c3, c4, c5, c6, c7, c8, c9, c10, c11⟩ := hP.pars; have hPl := hP.lt) | (go_at_call 14; (with_reducible refine (KC.out _).mono ?_); rintro e w2 ⟨rfl, hb1⟩; clear c0 c1 c2 c3 c4 c5 c6 c7 c8 c9 c10 c11 hPl; replace hP := hP.next hb1; replace hok := hok.trans hb1; clear hb1; obtain ⟨c0, c1, c2, c3, c4, c5, c6, c7, c8, c9, c10, c11⟩ := hP.pars; have hPl := hP.lt))
  go_ret
  exact ⟨rfl, hok⟩
theorem no6 (W0 : World) (p : Par) (now wd off err to : Int) (hm : Lim.May p) (h0 : 0 ≤ wd) (h1 : wd ≤ 72057594037927936) (h2 : now ≤ 72057594037927936) (h3 : -72057594037927936 ≤ now) (h4 : off ≤ wd) (h5 : off < -wd) : Calls Try.prog 5 #[parV p, .int .i64 now, .int .i64 wd, .int .i64 off, .int .i64 err, .int .i64 to] W0 fun e w' => e = .returned (.bool true) ∧ Ok W0 w' := by
  have HP := Lib.hid (Own.new W0 (parCells p) 23 rfl)
  have HK := Lib.hid ((Ok.refl W0).alloc (.cells (parCells p) 23))
  have KC := Lib.hid fun w => limCheck p w
  rw [show Lim.check p = 0 from if_pos hm] at KC
  obtain ⟨⟨m1, m2⟩, ⟨m3, m4⟩, m5, m6⟩ := Slew.mu_bds hm
  clear hm
  go_enter Try.func5, Try.ntmps5
  go_wp2_with (first | (go_at_call 8; (with_reducible refine (law12Alive _).mono ?_); rintro e w1 ⟨rfl, hb1⟩; have hP := HP.out.next hb1; have hok := HK.out.trans hb1; clear hb1 HP HK; obtain ⟨c0, c1, c2, c3, c4, c5, c6, c7, c8, c9, c10, c11⟩ := hP.pars; have hPl := hP.lt) | (go_at_call 14; (with_reducible refine (KC.out _).mono ?_); rintro e w2 ⟨rfl, hb1⟩; clear c0 c1 c2 c3 c4 c5 c6 c7 c8 c9 c10 c11 hPl; replace hP := hP.next hb1; replace hok := hok.trans hb1; clear hb1; obtain ⟨c0, c1, c2, c3, c4, c5, c6, c7, c8, c9, c10, c11⟩ := hP.pars; have hPl := hP.lt))
  go_ret
  exact ⟨rfl, hok⟩
theorem no7 (W0 : World) (p : Par) (now wd off err to : Int) (hm : Lim.May p) (h0 : 0 ≤ wd) (h1 : wd ≤ 72057594037927936) (h2 : now ≤ 72057594037927936) (h3 : -72057594037927936 ≤ now) (h4 : off ≤ wd) (h5 : -wd ≤ off) (h6 : p.rho < err) : Calls Try.prog 5 #[parV p, .int .i64 now, .int .i64 wd, .int .i64 off, .int .i64 err, .int .i64 to] W0 fun e w' => e = .returned (.bool true) ∧ Ok W0 w' := by
  have HP := Lib.hid (Own.new W0 (parCells p) 23 rfl)
  have HK := Lib.hid ((Ok.refl W0).alloc (.cells (parCells p) 23))
  have KC := Lib.hid fun w => limCheck p w
  rw [show Lim.check p = 0 from if_pos hm] at KC
  obtain ⟨⟨m1, m2⟩, ⟨m3, m4⟩, m5, m6⟩ := Slew.mu_bds hm
  clear hm
  go_enter Try.func5, Try.ntmps5
  go_wp2_with (first | (go_at_call 8; (with_reducible refine (law12Alive _).mono ?_); rintro e w1 ⟨rfl, hb1⟩; have hP := HP.out.next hb1; have hok := HK.out.trans hb1; clear hb1 HP HK; obtain ⟨c0, c1, c2, c3, c4, c5, c6, c7, c8, c9, c10, c11⟩ := hP.pars; have hPl := hP.lt) | (go_at_call 14; (with_reducible refine (KC.out _).mono ?_); rintro e w2 ⟨rfl, hb1⟩; clear c0 c1 c2 c3 c4 c5 c6 c7 c8 c9 c10 c11 hPl; replace hP := hP.next hb1; replace hok := hok.trans hb1; clear hb1; obtain ⟨c0, c1, c2, c3, c4, c5, c6, c7, c8, c9, c10, c11⟩ := hP.pars; have hPl := hP.lt))
  go_ret
  exact ⟨rfl, hok⟩
theorem no8 (W0 : World) (p : Par) (now wd off err to : Int) (hm : Lim.May p) (h0 : 0 ≤ wd) (h1 : wd ≤ 72057594037927936) (h2 : now ≤ 72057594037927936) (h3 : -72057594037927936 ≤ now) (h4 : off ≤ wd) (h5 : -wd ≤ off) (h6 : err ≤ p.rho) (h7 : err < -p.rho) : Calls Try.prog 5 #[parV p, .int .i64 now, .int .i64 wd, .int .i64 off, .int .i64 err, .int .i64 to] W0 fun e w' => e = .returned (.bool true) ∧ Ok W0 w' := by
  have HP := Lib.hid (Own.new W0 (parCells p) 23 rfl)
  have HK := Lib.hid ((Ok.refl W0).alloc (.cells (parCells p) 23))
  have KC := Lib.hid fun w => limCheck p w
  rw [show Lim.check p = 0 from if_pos hm] at KC
  obtain ⟨⟨m1, m2⟩, ⟨m3, m4⟩, m5, m6⟩ := Slew.mu_bds hm
  clear hm
  go_enter Try.func5, Try.ntmps5
  go_wp2_with (first | (go_at_call 8; (with_reducible refine (law12Alive _).mono ?_); rintro e w1 ⟨rfl, hb1⟩; have hP := HP.out.next hb1; have hok := HK.out.trans hb1; clear hb1 HP HK; obtain ⟨c0, c1, c2, c3, c4, c5, c6, c7, c8, c9, c10, c11⟩ := hP.pars; have hPl := hP.lt) | (go_at_call 14; (with_reducible refine (KC.out _).mono ?_); rintro e w2 ⟨rfl, hb1⟩; clear c0 c1 c2 c3 c4 c5 c6 c7 c8 c9 c10 c11 hPl; replace hP := hP.next hb1; replace hok := hok.trans hb1; clear hb1; obtain ⟨c0, c1, c2, c3, c4, c5, c6, c7, c8, c9, c10, c11⟩ := hP.pars; have hPl := hP.lt))
  go_ret
  exact ⟨rfl, hok⟩
theorem no9 (W0 : World) (p : Par) (now wd off err to : Int) (hm : Lim.May p) (h0 : 0 ≤ wd) (h1 : wd ≤ 72057594037927936) (h2 : now ≤ 72057594037927936) (h3 : -72057594037927936 ≤ now) (h4 : off ≤ wd) (h5 : -wd ≤ off) (h6 : err ≤ p.rho) (h7 : -p.rho ≤ err) (h8 : wd < to) : Calls Try.prog 5 #[parV p, .int .i64 now, .int .i64 wd, .int .i64 off, .int .i64 err, .int .i64 to] W0 fun e w' => e = .returned (.bool true) ∧ Ok W0 w' := by
  have HP := Lib.hid (Own.new W0 (parCells p) 23 rfl)
  have HK := Lib.hid ((Ok.refl W0).alloc (.cells (parCells p) 23))
  have KC := Lib.hid fun w => limCheck p w
  rw [show Lim.check p = 0 from if_pos hm] at KC
  obtain ⟨⟨m1, m2⟩, ⟨m3, m4⟩, m5, m6⟩ := Slew.mu_bds hm
  clear hm
  go_enter Try.func5, Try.ntmps5
  go_wp2_with (first | (go_at_call 8; (with_reducible refine (law12Alive _).mono ?_); rintro e w1 ⟨rfl, hb1⟩; have hP := HP.out.next hb1; have hok := HK.out.trans hb1; clear hb1 HP HK; obtain ⟨c0, c1, c2, c3, c4, c5, c6, c7, c8, c9, c10, c11⟩ := hP.pars; have hPl := hP.lt) | (go_at_call 14; (with_reducible refine (KC.out _).mono ?_); rintro e w2 ⟨rfl, hb1⟩; clear c0 c1 c2 c3 c4 c5 c6 c7 c8 c9 c10 c11 hPl; replace hP := hP.next hb1; replace hok := hok.trans hb1; clear hb1; obtain ⟨c0, c1, c2, c3, c4, c5, c6, c7, c8, c9, c10, c11⟩ := hP.pars; have hPl := hP.lt))
  go_ret
  exact ⟨rfl, hok⟩
theorem no10 (W0 : World) (p : Par) (now wd off err to : Int) (hm : Lim.May p) (h0 : 0 ≤ wd) (h1 : wd ≤ 72057594037927936) (h2 : now ≤ 72057594037927936) (h3 : -72057594037927936 ≤ now) (h4 : off ≤ wd) (h5 : -wd ≤ off) (h6 : err ≤ p.rho) (h7 : -p.rho ≤ err) (h8 : to ≤ wd) (h9 : to < -wd) : Calls Try.prog 5 #[parV p, .int .i64 now, .int .i64 wd, .int .i64 off, .int .i64 err, .int .i64 to] W0 fun e w' => e = .returned (.bool true) ∧ Ok W0 w' := by
  have HP := Lib.hid (Own.new W0 (parCells p) 23 rfl)
  have HK := Lib.hid ((Ok.refl W0).alloc (.cells (parCells p) 23))
  have KC := Lib.hid fun w => limCheck p w
  rw [show Lim.check p = 0 from if_pos hm] at KC
  obtain ⟨⟨m1, m2⟩, ⟨m3, m4⟩, m5, m6⟩ := Slew.mu_bds hm
  clear hm
  go_enter Try.func5, Try.ntmps5
  go_wp2_with (first | (go_at_call 8; (with_reducible refine (law12Alive _).mono ?_); rintro e w1 ⟨rfl, hb1⟩; have hP := HP.out.next hb1; have hok := HK.out.trans hb1; clear hb1 HP HK; obtain ⟨c0, c1, c2, c3, c4, c5, c6, c7, c8, c9, c10, c11⟩ := hP.pars; have hPl := hP.lt) | (go_at_call 14; (with_reducible refine (KC.out _).mono ?_); rintro e w2 ⟨rfl, hb1⟩; clear c0 c1 c2 c3 c4 c5 c6 c7 c8 c9 c10 c11 hPl; replace hP := hP.next hb1; replace hok := hok.trans hb1; clear hb1; obtain ⟨c0, c1, c2, c3, c4, c5, c6, c7, c8, c9, c10, c11⟩ := hP.pars; have hPl := hP.lt))
  go_ret
  exact ⟨rfl, hok⟩
set_option maxHeartbeats 3200000 in
theorem yes (W0 : World) (p : Par) (now wd off err to : Int) (hm : Lim.May p) (h0 : 0 ≤ wd) (h1 : wd ≤ 72057594037927936) (h2 : now ≤ 72057594037927936) (h3 : -72057594037927936 ≤ now) (h4 : off ≤ wd) (h5 : -wd ≤ off) (h6 : err ≤ p.rho) (h7 : -p.rho ≤ err) (h8 : to ≤ wd) (h9 : -wd ≤ to) : Calls Try.prog 5 #[parV p, .int .i64 now, .int .i64 wd, .int .i64 off, .int .i64 err, .int .i64 to] W0 fun e w' => e = .returned (.bool true) ∧ Ok W0 w' := by
  have KS := Lib.hid fun w => slewStep p (now + off) (p.beat + err) (now + p.beat + to) w
  have m0 := Slew.mu_bds hm
  have e := Slew.step_in (p := p) (time := now + off) (ticks := p.beat + err) (to := now + p.beat + to) ⟨by omega, by omega⟩ ⟨by omega, by omega⟩ ⟨by omega, by omega⟩ ⟨by omega, by omega⟩
  have k := Slew.by_stays (mu := p.mu) (w := wd) (e := off + err) (to := to) (by omega) (by omega) (by omega) (by omega)
  rw [show now + p.beat + to - (now + off + (p.beat + err)) = to - (off + err) by omega] at e
  obtain ⟨x, hx⟩ : ∃ x, Slew.step p (now + off) (p.beat + err) (now + p.beat + to) = x := ⟨_, rfl⟩
  rw [hx] at KS e
  clear hx
  have KO := Lib.hid fun w => slewOff x true (now + p.beat) w
  generalize Slew.by_ p.mu (to - (off + err)) = u at e k
  rw [Lim.sub_in (a := x) (b := now + p.beat) (by omega) (by omega) (by omega)] at KO
  obtain ⟨f, hf, hfw⟩ : ∃ f, Sat.abs (x - (now + p.beat)) = f ∧ f ≤ wd := ⟨_, rfl, by unfold Sat.abs; rw [Sat.clip_in (by omega) (by omega)]; split <;> omega⟩
  rw [hf] at KO
  clear hf e k u
  have HP := Lib.hid (Own.new W0 (parCells p) 23 rfl)
  have HK := Lib.hid ((Ok.refl W0).alloc (.cells (parCells p) 23))
  have KC := Lib.hid fun w => limCheck p w
  rw [show Lim.check p = 0 from if_pos hm] at KC
  obtain ⟨⟨m1, m2⟩, ⟨m3, m4⟩, m5, m6⟩ := Slew.mu_bds hm
  clear hm
  go_enter Try.func5, Try.ntmps5
  go_wp2_with (first | (go_at_call 8; (with_reducible refine (law12Alive _).mono ?_); rintro e w1 ⟨rfl, hb1⟩; have hP := HP.out.next hb1; have hok := HK.out.trans hb1; clear hb1 HP HK; obtain ⟨c0, c1, c2, c3, c4, c5, c6, c7, c8, c9, c10, c11⟩ := hP.pars; have hPl := hP.lt) | (go_at_call 14; (with_reducible refine (KC.out _).mono ?_); rintro e w2 ⟨rfl, hb1⟩; clear c0 c1 c2 c3 c4 c5 c6 c7 c8 c9 c10 c11 hPl; replace hP := hP.next hb1; replace hok := hok.trans hb1; clear hb1; obtain ⟨c0, c1, c2, c3, c4, c5, c6, c7, c8, c9, c10, c11⟩ := hP.pars; have hPl := hP.lt) | (go_at_call 12; (with_reducible refine (KS.out _).mono ?_); rintro e w3 ⟨rfl, hb1⟩; clear c0 c1 c2 c3 c4 c5 c6 c7 c8 c9 c10 c11 hPl; replace hP := (hP.alloc _).next hb1; replace hok := (hok.alloc _).trans hb1; clear hb1; obtain ⟨c0, c1, c2, c3, c4, c5, c6, c7, c8, c9, c10, c11⟩ := hP.pars; have hPl := hP.lt) | (go_at_call 13; (with_reducible refine (KO.out _).mono ?_); rintro e w4 ⟨rfl, hb1⟩; clear c0 c1 c2 c3 c4 c5 c6 c7 c8 c9 c10 c11 hPl; have hX := (Own.new w3 #[.int .i64 x, .bool true] 25 rfl).next hb1; have d1 := hX.cell 1 rfl; have hXl := hX.lt; replace hok := (hok.alloc _).trans hb1; clear hb1))
  go_ret
  exact ⟨rfl, hok⟩
theorem walk (W0 : World) (p : Par) (_wp : ParWf p) (now : Int) (_w0 : (Lit.int .i64 now).wf = true) (wd : Int) (_w1 : (Lit.int .i64 wd).wf = true) (off : Int) (_w2 : (Lit.int .i64 off).wf = true) (err : Int) (_w3 : (Lit.int .i64 err).wf = true) (to : Int) (_w4 : (Lit.int .i64 to).wf = true) :
    Calls Try.prog 5 #[parV p, .int .i64 now, .int .i64 wd, .int .i64 off, .int .i64 err, .int .i64 to] W0 fun e w' => e = .returned (.bool true) ∧ Below W0.heap.size W0 w' := by
  show Calls Try.prog 5 #[parV p, .int .i64 now, .int .i64 wd, .int .i64 off, .int .i64 err, .int .i64 to] W0 fun e w' => e = .returned (.bool true) ∧ Ok W0 w' 
  by_cases hm : Lim.May p
  rotate_left
  · exact no0 W0 p now wd off err to hm
  by_cases h0 : wd < 0
  · exact no1 W0 p now wd off err to hm h0
  replace h0 : 0 ≤ wd := by omega
  by_cases h1 : 72057594037927936 < wd
  · exact no2 W0 p now wd off err to hm h0 h1
  replace h1 : wd ≤ 72057594037927936 := by omega
  by_cases h2 : 72057594037927936 < now
  · exact no3 W0 p now wd off err to hm h0 h1 h2
  replace h2 : now ≤ 72057594037927936 := by omega
  by_cases h3 : now < -72057594037927936
  · exact no4 W0 p now wd off err to hm h0 h1 h2 h3
  replace h3 : -72057594037927936 ≤ now := by omega
  by_cases h4 : wd < off
  · exact no5 W0 p now wd off err to hm h0 h1 h2 h3 h4
  replace h4 : off ≤ wd := by omega
  by_cases h5 : off < -wd
  · exact no6 W0 p now wd off err to hm h0 h1 h2 h3 h4 h5
  replace h5 : -wd ≤ off := by omega
  by_cases h6 : p.rho < err
  · exact no7 W0 p now wd off err to hm h0 h1 h2 h3 h4 h5 h6
  replace h6 : err ≤ p.rho := by omega
  by_cases h7 : err < -p.rho
  · exact no8 W0 p now wd off err to hm h0 h1 h2 h3 h4 h5 h6 h7
  replace h7 : -p.rho ≤ err := by omega
  by_cases h8 : wd < to
  · exact no9 W0 p now wd off err to hm h0 h1 h2 h3 h4 h5 h6 h7 h8
  replace h8 : to ≤ wd := by omega
  by_cases h9 : to < -wd
  · exact no10 W0 p now wd off err to hm h0 h1 h2 h3 h4 h5 h6 h7 h8 h9
  replace h9 : -wd ≤ to := by omega
  exact yes W0 p now wd off err to hm h0 h1 h2 h3 h4 h5 h6 h7 h8 h9
theorem own : ownKnob Try.prog.godebug = none := by kernel_rfl
theorem laidOut : laidOutB Try.prog = true := by kernel_rfl
set_option maxRecDepth 100000 in
theorem lifted (os : Os) (started : os.Started) (H : Type) (enc : TypeId × Value → H) :
    ReturnsInHanded {} Try.checked os 5 .any (Rows.slewStaysSpec.pre6 enc Try.prog Try.f5 Rows.slewStaysRow.domain false) (Rows.slewStaysSpec.post enc Try.prog Try.f5 false true false false) := by
  refine returnsInHanded_of_change (C := Try.checked) own started (by kernel_rfl) Try.func5
    (ChangeSpec.witness6 (enc := enc) (C := Try.checked) false ⟨#[], #[.agg #[.int .i64 0, .int .i64 0, .int .i64 0, .int .i64 0, .int .i64 0, .int .i64 0, .int .i64 0, .int .i64 0, .int .i64 0, .int .i64 0, .int .i64 0, .int .i64 0], .int .i64 0, .int .i64 0, .int .i64 0, .int .i64 0, .int .i64 0], []⟩ 8 (by kernel_rfl) (by kernel_rfl) (by kernel_rfl) (by kernel_rfl)) ?_
  intro W base args ds gs before hval0 hW _ _
  have hval : ∀ (j : Nat) t v, Try.f5.params[j]? = some t → args[j]? = some v → Value.okWide Try.prog W .any base t v := hval0
  have hW' := hW
  obtain ⟨p, q, hA, hV, rfl, _, _⟩ := hW
  obtain ⟨rfl, rfl⟩ := trodVars_none hV
  replace hA : DataW.TrodAll enc Try.prog W 0 (fun _ => true) true Try.f5.params.toList args.toList ds p := hA
  rw [Try.params5] at hA hval
  obtain ⟨v0, vs0, d0, ds0, p0, q0, hargs, rfl, rfl, h0, r0⟩ := trodAll_cons hA
  obtain ⟨v1, vs1, d1, ds1, p1, q1, rfl, rfl, rfl, h1, r1⟩ := trodAll_cons r0
  obtain ⟨v2, vs2, d2, ds2, p2, q2, rfl, rfl, rfl, h2, r2⟩ := trodAll_cons r1
  obtain ⟨v3, vs3, d3, ds3, p3, q3, rfl, rfl, rfl, h3, r3⟩ := trodAll_cons r2
  obtain ⟨v4, vs4, d4, ds4, p4, q4, rfl, rfl, rfl, h4, r4⟩ := trodAll_cons r3
  obtain ⟨v5, vs5, d5, ds5, p5, q5, rfl, rfl, rfl, h5, r5⟩ := trodAll_cons r4
  obtain ⟨rfl, rfl, rfl⟩ := trodAll_nil r5
  obtain rfl : args = #[v0, v1, v2, v3, v4, v5] := by cases args; simp_all
  obtain ⟨p0, rfl, wp0⟩ := open_par Try.underlying23 rfl (by kernel_rfl) (by kernel_rfl) (by kernel_rfl) (hval 0 23 v0 rfl rfl) h0
  obtain ⟨a1, rfl, rfl, rfl, w1⟩ := open_int Try.underlying3 (hval 1 3 v1 rfl rfl) h1
  obtain ⟨a2, rfl, rfl, rfl, w2⟩ := open_int Try.underlying3 (hval 2 3 v2 rfl rfl) h2
  obtain ⟨a3, rfl, rfl, rfl, w3⟩ := open_int Try.underlying3 (hval 3 3 v3 rfl rfl) h3
  obtain ⟨a4, rfl, rfl, rfl, w4⟩ := open_int Try.underlying3 (hval 4 3 v4 rfl rfl) h4
  obtain ⟨a5, rfl, rfl, rfl, w5⟩ := open_int Try.underlying3 (hval 5 3 v5 rfl rfl) h5
  refine (walk W p0 wp0 a1 w1 a2 w2 a3 w3 a4 w4 a5 w5).mono fun e W' ⟨he, hb⟩ => ?_
  subst he
  exact ⟨_, rfl, law_post hW' laidOut (by rw [Try.params5]; exact params_ok (by kernel_rfl)) rfl (by kernel_rfl) Try.underlying4 rfl rfl rfl hb⟩
theorem over : Rows.slewStaysRow.holds Try.pinned (OpenSpec.ofChange Rows.slewStaysSpec) :=
  OpenClaim.holds_of_wide 5 Try.f5 rfl rfl rfl rfl rfl rfl rfl ⟨rfl, rfl, rfl, rfl, rfl⟩ rfl rfl rfl rfl rfl (by kernel_rfl) Try.func5 (by kernel_rfl)
    (of_decide_eq_true (by kernel_rfl)) (by unfold Func.isWrapper; first | (rw [if_pos (by decide +kernel)]; kernel_rfl) | (rw [if_neg (by decide +kernel)]; exact ⟨rfl, rfl⟩))
    (fun os started H enc _ => lifted os started H enc)
theorem proved : Rows.SlewStaysSaid := over
end Go.Proofs.Ytcknnlekkbekmaa.slewStays
