/- SlewSteps: for every fabric's numbers, every clock and all numbers the law answers true: Step and Off are the document's. No condition. -/
import Derived.Test.YtcknnlekkbekmaaC12b
import Derived.Test.YtcknnlekkbekmaaC12c
import Derived.Test.YtcknnlekkbekmaaW06
import Derived.Test.YtcknnlekkbekmaaW32
namespace Go.Proofs.Ytcknnlekkbekmaa.slewSteps
open Go.ChangeShapes Go.WideShapes Go.ChangeAt Go.RowKit
set_option linter.unusedVariables false
set_option maxRecDepth 100000
attribute [local go_sem ↓] Go.wp_at_zero Go.wp_at_succ
theorem wayap (p : Par) (t : Int) (s : Bool) (ticks to : Int) (hd : 0 ≤ Sat.sub t to) (w : World) :
    Calls Try.prog 3 #[parV p, clockV t s, .int .i64 ticks, .int .i64 to, .bool true] w fun e w' => e = .returned (.bool true) ∧ Ok w w' := by
  have KS := Lib.hid fun w => slewJump p t s ticks to w
  have KR := Lib.hid fun w => ref12Step p t ticks to w
  have KC := Lib.hid fun w => refClip to w
  obtain ⟨x, hx⟩ : ∃ x, Sat.clip to = x := ⟨_, rfl⟩
  rw [hx] at KC KS
  obtain ⟨y, hy⟩ : ∃ y, Slew.step p t ticks to = y := ⟨_, rfl⟩
  rw [hy] at KR
  clear hx hy
  have KD := Lib.hid fun w => refSub t to w
  have KO := Lib.hid fun w => slewOff t s to w
  have hdb := Sat.sub_bd t to
  rw [show Sat.abs (Sat.sub t to) = Sat.sub t to from by unfold Sat.abs; rw [Sat.clip_in hdb.1 hdb.2]; rw [if_neg (by omega)]] at KO
  obtain ⟨d, hde⟩ : ∃ d, Sat.sub t to = d := ⟨_, rfl⟩
  rw [hde] at KD KO hd hdb
  clear hde
  have HP := Lib.hid ((Own.new w (parCells p) 23 rfl).alloc (.cells #[.int .i64 t, .bool s] 25))
  have HC := Lib.hid (Own.new (w.alloc (.cells (parCells p) 23)) #[.int .i64 t, .bool s] 25 (g := w.heap.size + 1) (by simp))
  have HK := Lib.hid (((Ok.refl w).alloc (.cells (parCells p) 23)).alloc (.cells #[.int .i64 t, .bool s] 25))
  go_enter Try.func3, Try.ntmps3
  go_wp2_with (first | (go_at_call 8; (with_reducible refine (law12Alive _).mono ?_); rintro e w1 ⟨rfl, hb1⟩; have hP := HP.out.next hb1; have hC := HC.out.next hb1; have hok := HK.out.trans hb1; clear hb1 HP HC HK; obtain ⟨c0, c1, c2, c3, c4, c5, c6, c7, c8, c9, c10, c11⟩ := hP.pars; have d0 := hC.cell 0 rfl; have d1 := hC.cell 1 rfl; have hPl := hP.lt; have hCl := hC.lt) | (go_at_call 9; (with_reducible refine (KR.out _).mono ?_); rintro e w2 ⟨rfl, hb1⟩; clear c0 c1 c2 c3 c4 c5 c6 c7 c8 c9 c10 c11 d0 d1 hPl hCl; replace hP := hP.next hb1; replace hC := hC.next hb1; replace hok := hok.trans hb1; clear hb1; obtain ⟨c0, c1, c2, c3, c4, c5, c6, c7, c8, c9, c10, c11⟩ := hP.pars; have d0 := hC.cell 0 rfl; have d1 := hC.cell 1 rfl; have hPl := hP.lt; have hCl := hC.lt) | (go_at_call 12; (with_reducible refine (KS.out _).mono ?_); rintro e w2 ⟨rfl, hb1⟩; clear c0 c1 c2 c3 c4 c5 c6 c7 c8 c9 c10 c11 d0 d1 hPl hCl; replace hP := hP.next hb1; replace hC := hC.next hb1; replace hok := hok.trans hb1; clear hb1; obtain ⟨c0, c1, c2, c3, c4, c5, c6, c7, c8, c9, c10, c11⟩ := hP.pars; have d0 := hC.cell 0 rfl; have d1 := hC.cell 1 rfl; have hPl := hP.lt; have hCl := hC.lt) | (go_at_call 10; (with_reducible refine (KC.out _).mono ?_); rintro e w2 ⟨rfl, rfl⟩) | (go_at_call 11; (with_reducible refine (KD.out _).mono ?_); rintro e w2 ⟨rfl, rfl⟩) | (go_at_call 13; (with_reducible refine (KO.out _).mono ?_); rintro e w2 ⟨rfl, hb1⟩; clear c0 c1 c2 c3 c4 c5 c6 c7 c8 c9 c10 c11 d0 d1 hPl hCl; replace hP := hP.next hb1; replace hC := hC.next hb1; replace hok := hok.trans hb1; clear hb1; obtain ⟨c0, c1, c2, c3, c4, c5, c6, c7, c8, c9, c10, c11⟩ := hP.pars; have d0 := hC.cell 0 rfl; have d1 := hC.cell 1 rfl; have hPl := hP.lt; have hCl := hC.lt))
  go_ret
  exact ⟨rfl, hok⟩
theorem wayan (p : Par) (t : Int) (s : Bool) (ticks to : Int) (hd : Sat.sub t to < 0) (w : World) :
    Calls Try.prog 3 #[parV p, clockV t s, .int .i64 ticks, .int .i64 to, .bool true] w fun e w' => e = .returned (.bool true) ∧ Ok w w' := by
  have KS := Lib.hid fun w => slewJump p t s ticks to w
  have KR := Lib.hid fun w => ref12Step p t ticks to w
  have KC := Lib.hid fun w => refClip to w
  obtain ⟨x, hx⟩ : ∃ x, Sat.clip to = x := ⟨_, rfl⟩
  rw [hx] at KC KS
  obtain ⟨y, hy⟩ : ∃ y, Slew.step p t ticks to = y := ⟨_, rfl⟩
  rw [hy] at KR
  clear hx hy
  have KD := Lib.hid fun w => refSub t to w
  have KO := Lib.hid fun w => slewOff t s to w
  have hdb := Sat.sub_bd t to
  rw [show Sat.abs (Sat.sub t to) = -Sat.sub t to from by unfold Sat.abs; rw [Sat.clip_in hdb.1 hdb.2]; rw [if_pos hd]] at KO
  obtain ⟨d, hde⟩ : ∃ d, Sat.sub t to = d := ⟨_, rfl⟩
  rw [hde] at KD KO hd hdb
  clear hde
  have hn : IntKind.i64.wrap (-d) = -d := IntWalk.i64_in _ ⟨by omega, by omega⟩
  have hne : ¬ -d = d := by omega
  have hge : 0 ≤ -d := by omega
  have hdec : decide (d ≤ 0) = true := decide_eq_true (by omega)
  have HP := Lib.hid ((Own.new w (parCells p) 23 rfl).alloc (.cells #[.int .i64 t, .bool s] 25))
  have HC := Lib.hid (Own.new (w.alloc (.cells (parCells p) 23)) #[.int .i64 t, .bool s] 25 (g := w.heap.size + 1) (by simp))
  have HK := Lib.hid (((Ok.refl w).alloc (.cells (parCells p) 23)).alloc (.cells #[.int .i64 t, .bool s] 25))
  go_enter Try.func3, Try.ntmps3
  go_wp2_with (first | (go_at_call 8; (with_reducible refine (law12Alive _).mono ?_); rintro e w1 ⟨rfl, hb1⟩; have hP := HP.out.next hb1; have hC := HC.out.next hb1; have hok := HK.out.trans hb1; clear hb1 HP HC HK; obtain ⟨c0, c1, c2, c3, c4, c5, c6, c7, c8, c9, c10, c11⟩ := hP.pars; have d0 := hC.cell 0 rfl; have d1 := hC.cell 1 rfl; have hPl := hP.lt; have hCl := hC.lt) | (go_at_call 9; (with_reducible refine (KR.out _).mono ?_); rintro e w2 ⟨rfl, hb1⟩; clear c0 c1 c2 c3 c4 c5 c6 c7 c8 c9 c10 c11 d0 d1 hPl hCl; replace hP := hP.next hb1; replace hC := hC.next hb1; replace hok := hok.trans hb1; clear hb1; obtain ⟨c0, c1, c2, c3, c4, c5, c6, c7, c8, c9, c10, c11⟩ := hP.pars; have d0 := hC.cell 0 rfl; have d1 := hC.cell 1 rfl; have hPl := hP.lt; have hCl := hC.lt) | (go_at_call 12; (with_reducible refine (KS.out _).mono ?_); rintro e w2 ⟨rfl, hb1⟩; clear c0 c1 c2 c3 c4 c5 c6 c7 c8 c9 c10 c11 d0 d1 hPl hCl; replace hP := hP.next hb1; replace hC := hC.next hb1; replace hok := hok.trans hb1; clear hb1; obtain ⟨c0, c1, c2, c3, c4, c5, c6, c7, c8, c9, c10, c11⟩ := hP.pars; have d0 := hC.cell 0 rfl; have d1 := hC.cell 1 rfl; have hPl := hP.lt; have hCl := hC.lt) | (go_at_call 10; (with_reducible refine (KC.out _).mono ?_); rintro e w2 ⟨rfl, rfl⟩) | (go_at_call 11; (with_reducible refine (KD.out _).mono ?_); rintro e w2 ⟨rfl, rfl⟩) | (go_at_call 13; (with_reducible refine (KO.out _).mono ?_); rintro e w2 ⟨rfl, hb1⟩; clear c0 c1 c2 c3 c4 c5 c6 c7 c8 c9 c10 c11 d0 d1 hPl hCl; replace hP := hP.next hb1; replace hC := hC.next hb1; replace hok := hok.trans hb1; clear hb1; obtain ⟨c0, c1, c2, c3, c4, c5, c6, c7, c8, c9, c10, c11⟩ := hP.pars; have d0 := hC.cell 0 rfl; have d1 := hC.cell 1 rfl; have hPl := hP.lt; have hCl := hC.lt))
  go_ret
  exact ⟨rfl, hok⟩
theorem waybp (p : Par) (t : Int) (ticks to : Int) (hd : 0 ≤ Sat.sub t to) (w : World) :
    Calls Try.prog 3 #[parV p, clockV t false, .int .i64 ticks, .int .i64 to, .bool false] w fun e w' => e = .returned (.bool true) ∧ Ok w w' := by
  have KS := Lib.hid fun w => slewUnset p t ticks to false w
  have KR := Lib.hid fun w => ref12Step p t ticks to w
  have KC := Lib.hid fun w => refClip to w
  obtain ⟨x, hx⟩ : ∃ x, Sat.clip to = x := ⟨_, rfl⟩
  rw [hx] at KC KS
  obtain ⟨y, hy⟩ : ∃ y, Slew.step p t ticks to = y := ⟨_, rfl⟩
  rw [hy] at KR
  clear hx hy
  have KD := Lib.hid fun w => refSub t to w
  have KO := Lib.hid fun w => slewOff t false to w
  have hdb := Sat.sub_bd t to
  rw [show Sat.abs (Sat.sub t to) = Sat.sub t to from by unfold Sat.abs; rw [Sat.clip_in hdb.1 hdb.2]; rw [if_neg (by omega)]] at KO
  obtain ⟨d, hde⟩ : ∃ d, Sat.sub t to = d := ⟨_, rfl⟩
  rw [hde] at KD KO hd hdb
  clear hde
  have HP := Lib.hid ((Own.new w (parCells p) 23 rfl).alloc (.cells #[.int .i64 t, .bool false] 25))
  have HC := Lib.hid (Own.new (w.alloc (.cells (parCells p) 23)) #[.int .i64 t, .bool false] 25 (g := w.heap.size + 1) (by simp))
  have HK := Lib.hid (((Ok.refl w).alloc (.cells (parCells p) 23)).alloc (.cells #[.int .i64 t, .bool false] 25))
  go_enter Try.func3, Try.ntmps3
  go_wp2_with (first | (go_at_call 8; (with_reducible refine (law12Alive _).mono ?_); rintro e w1 ⟨rfl, hb1⟩; have hP := HP.out.next hb1; have hC := HC.out.next hb1; have hok := HK.out.trans hb1; clear hb1 HP HC HK; obtain ⟨c0, c1, c2, c3, c4, c5, c6, c7, c8, c9, c10, c11⟩ := hP.pars; have d0 := hC.cell 0 rfl; have d1 := hC.cell 1 rfl; have hPl := hP.lt; have hCl := hC.lt) | (go_at_call 9; (with_reducible refine (KR.out _).mono ?_); rintro e w2 ⟨rfl, hb1⟩; clear c0 c1 c2 c3 c4 c5 c6 c7 c8 c9 c10 c11 d0 d1 hPl hCl; replace hP := hP.next hb1; replace hC := hC.next hb1; replace hok := hok.trans hb1; clear hb1; obtain ⟨c0, c1, c2, c3, c4, c5, c6, c7, c8, c9, c10, c11⟩ := hP.pars; have d0 := hC.cell 0 rfl; have d1 := hC.cell 1 rfl; have hPl := hP.lt; have hCl := hC.lt) | (go_at_call 12; (with_reducible refine (KS.out _).mono ?_); rintro e w2 ⟨rfl, hb1⟩; clear c0 c1 c2 c3 c4 c5 c6 c7 c8 c9 c10 c11 d0 d1 hPl hCl; replace hP := hP.next hb1; replace hC := hC.next hb1; replace hok := hok.trans hb1; clear hb1; obtain ⟨c0, c1, c2, c3, c4, c5, c6, c7, c8, c9, c10, c11⟩ := hP.pars; have d0 := hC.cell 0 rfl; have d1 := hC.cell 1 rfl; have hPl := hP.lt; have hCl := hC.lt) | (go_at_call 10; (with_reducible refine (KC.out _).mono ?_); rintro e w2 ⟨rfl, rfl⟩) | (go_at_call 11; (with_reducible refine (KD.out _).mono ?_); rintro e w2 ⟨rfl, rfl⟩) | (go_at_call 13; (with_reducible refine (KO.out _).mono ?_); rintro e w2 ⟨rfl, hb1⟩; clear c0 c1 c2 c3 c4 c5 c6 c7 c8 c9 c10 c11 d0 d1 hPl hCl; replace hP := hP.next hb1; replace hC := hC.next hb1; replace hok := hok.trans hb1; clear hb1; obtain ⟨c0, c1, c2, c3, c4, c5, c6, c7, c8, c9, c10, c11⟩ := hP.pars; have d0 := hC.cell 0 rfl; have d1 := hC.cell 1 rfl; have hPl := hP.lt; have hCl := hC.lt))
  go_ret
  exact ⟨rfl, hok⟩
theorem waybn (p : Par) (t : Int) (ticks to : Int) (hd : Sat.sub t to < 0) (w : World) :
    Calls Try.prog 3 #[parV p, clockV t false, .int .i64 ticks, .int .i64 to, .bool false] w fun e w' => e = .returned (.bool true) ∧ Ok w w' := by
  have KS := Lib.hid fun w => slewUnset p t ticks to false w
  have KR := Lib.hid fun w => ref12Step p t ticks to w
  have KC := Lib.hid fun w => refClip to w
  obtain ⟨x, hx⟩ : ∃ x, Sat.clip to = x := ⟨_, rfl⟩
  rw [hx] at KC KS
  obtain ⟨y, hy⟩ : ∃ y, Slew.step p t ticks to = y := ⟨_, rfl⟩
  rw [hy] at KR
  clear hx hy
  have KD := Lib.hid fun w => refSub t to w
  have KO := Lib.hid fun w => slewOff t false to w
  have hdb := Sat.sub_bd t to
  rw [show Sat.abs (Sat.sub t to) = -Sat.sub t to from by unfold Sat.abs; rw [Sat.clip_in hdb.1 hdb.2]; rw [if_pos hd]] at KO
  obtain ⟨d, hde⟩ : ∃ d, Sat.sub t to = d := ⟨_, rfl⟩
  rw [hde] at KD KO hd hdb
  clear hde
  have hn : IntKind.i64.wrap (-d) = -d := IntWalk.i64_in _ ⟨by omega, by omega⟩
  have hne : ¬ -d = d := by omega
  have hge : 0 ≤ -d := by omega
  have hdec : decide (d ≤ 0) = true := decide_eq_true (by omega)
  have HP := Lib.hid ((Own.new w (parCells p) 23 rfl).alloc (.cells #[.int .i64 t, .bool false] 25))
  have HC := Lib.hid (Own.new (w.alloc (.cells (parCells p) 23)) #[.int .i64 t, .bool false] 25 (g := w.heap.size + 1) (by simp))
  have HK := Lib.hid (((Ok.refl w).alloc (.cells (parCells p) 23)).alloc (.cells #[.int .i64 t, .bool false] 25))
  go_enter Try.func3, Try.ntmps3
  go_wp2_with (first | (go_at_call 8; (with_reducible refine (law12Alive _).mono ?_); rintro e w1 ⟨rfl, hb1⟩; have hP := HP.out.next hb1; have hC := HC.out.next hb1; have hok := HK.out.trans hb1; clear hb1 HP HC HK; obtain ⟨c0, c1, c2, c3, c4, c5, c6, c7, c8, c9, c10, c11⟩ := hP.pars; have d0 := hC.cell 0 rfl; have d1 := hC.cell 1 rfl; have hPl := hP.lt; have hCl := hC.lt) | (go_at_call 9; (with_reducible refine (KR.out _).mono ?_); rintro e w2 ⟨rfl, hb1⟩; clear c0 c1 c2 c3 c4 c5 c6 c7 c8 c9 c10 c11 d0 d1 hPl hCl; replace hP := hP.next hb1; replace hC := hC.next hb1; replace hok := hok.trans hb1; clear hb1; obtain ⟨c0, c1, c2, c3, c4, c5, c6, c7, c8, c9, c10, c11⟩ := hP.pars; have d0 := hC.cell 0 rfl; have d1 := hC.cell 1 rfl; have hPl := hP.lt; have hCl := hC.lt) | (go_at_call 12; (with_reducible refine (KS.out _).mono ?_); rintro e w2 ⟨rfl, hb1⟩; clear c0 c1 c2 c3 c4 c5 c6 c7 c8 c9 c10 c11 d0 d1 hPl hCl; replace hP := hP.next hb1; replace hC := hC.next hb1; replace hok := hok.trans hb1; clear hb1; obtain ⟨c0, c1, c2, c3, c4, c5, c6, c7, c8, c9, c10, c11⟩ := hP.pars; have d0 := hC.cell 0 rfl; have d1 := hC.cell 1 rfl; have hPl := hP.lt; have hCl := hC.lt) | (go_at_call 10; (with_reducible refine (KC.out _).mono ?_); rintro e w2 ⟨rfl, rfl⟩) | (go_at_call 11; (with_reducible refine (KD.out _).mono ?_); rintro e w2 ⟨rfl, rfl⟩) | (go_at_call 13; (with_reducible refine (KO.out _).mono ?_); rintro e w2 ⟨rfl, hb1⟩; clear c0 c1 c2 c3 c4 c5 c6 c7 c8 c9 c10 c11 d0 d1 hPl hCl; replace hP := hP.next hb1; replace hC := hC.next hb1; replace hok := hok.trans hb1; clear hb1; obtain ⟨c0, c1, c2, c3, c4, c5, c6, c7, c8, c9, c10, c11⟩ := hP.pars; have d0 := hC.cell 0 rfl; have d1 := hC.cell 1 rfl; have hPl := hP.lt; have hCl := hC.lt))
  go_ret
  exact ⟨rfl, hok⟩
theorem waycp (p : Par) (t : Int) (ticks to : Int) (hd : 0 ≤ Sat.sub t to) (w : World) :
    Calls Try.prog 3 #[parV p, clockV t true, .int .i64 ticks, .int .i64 to, .bool false] w fun e w' => e = .returned (.bool true) ∧ Ok w w' := by
  have KS := Lib.hid fun w => slewStep p t ticks to w
  have KR := Lib.hid fun w => ref12Step p t ticks to w
  obtain ⟨y, hy⟩ : ∃ y, Slew.step p t ticks to = y := ⟨_, rfl⟩
  rw [hy] at KR KS
  clear hy
  have KD := Lib.hid fun w => refSub t to w
  have KO := Lib.hid fun w => slewOff t true to w
  have hdb := Sat.sub_bd t to
  rw [show Sat.abs (Sat.sub t to) = Sat.sub t to from by unfold Sat.abs; rw [Sat.clip_in hdb.1 hdb.2]; rw [if_neg (by omega)]] at KO
  obtain ⟨d, hde⟩ : ∃ d, Sat.sub t to = d := ⟨_, rfl⟩
  rw [hde] at KD KO hd hdb
  clear hde
  have HP := Lib.hid ((Own.new w (parCells p) 23 rfl).alloc (.cells #[.int .i64 t, .bool true] 25))
  have HC := Lib.hid (Own.new (w.alloc (.cells (parCells p) 23)) #[.int .i64 t, .bool true] 25 (g := w.heap.size + 1) (by simp))
  have HK := Lib.hid (((Ok.refl w).alloc (.cells (parCells p) 23)).alloc (.cells #[.int .i64 t, .bool true] 25))
  go_enter Try.func3, Try.ntmps3
  go_wp2_with (first | (go_at_call 8; (with_reducible refine (law12Alive _).mono ?_); rintro e w1 ⟨rfl, hb1⟩; have hP := HP.out.next hb1; have hC := HC.out.next hb1; have hok := HK.out.trans hb1; clear hb1 HP HC HK; obtain ⟨c0, c1, c2, c3, c4, c5, c6, c7, c8, c9, c10, c11⟩ := hP.pars; have d0 := hC.cell 0 rfl; have d1 := hC.cell 1 rfl; have hPl := hP.lt; have hCl := hC.lt) | (go_at_call 9; (with_reducible refine (KR.out _).mono ?_); rintro e w2 ⟨rfl, hb1⟩; clear c0 c1 c2 c3 c4 c5 c6 c7 c8 c9 c10 c11 d0 d1 hPl hCl; replace hP := hP.next hb1; replace hC := hC.next hb1; replace hok := hok.trans hb1; clear hb1; obtain ⟨c0, c1, c2, c3, c4, c5, c6, c7, c8, c9, c10, c11⟩ := hP.pars; have d0 := hC.cell 0 rfl; have d1 := hC.cell 1 rfl; have hPl := hP.lt; have hCl := hC.lt) | (go_at_call 12; (with_reducible refine (KS.out _).mono ?_); rintro e w2 ⟨rfl, hb1⟩; clear c0 c1 c2 c3 c4 c5 c6 c7 c8 c9 c10 c11 d0 d1 hPl hCl; replace hP := hP.next hb1; replace hC := hC.next hb1; replace hok := hok.trans hb1; clear hb1; obtain ⟨c0, c1, c2, c3, c4, c5, c6, c7, c8, c9, c10, c11⟩ := hP.pars; have d0 := hC.cell 0 rfl; have d1 := hC.cell 1 rfl; have hPl := hP.lt; have hCl := hC.lt) | (go_at_call 11; (with_reducible refine (KD.out _).mono ?_); rintro e w2 ⟨rfl, rfl⟩) | (go_at_call 13; (with_reducible refine (KO.out _).mono ?_); rintro e w2 ⟨rfl, hb1⟩; clear c0 c1 c2 c3 c4 c5 c6 c7 c8 c9 c10 c11 d0 d1 hPl hCl; replace hP := hP.next hb1; replace hC := hC.next hb1; replace hok := hok.trans hb1; clear hb1; obtain ⟨c0, c1, c2, c3, c4, c5, c6, c7, c8, c9, c10, c11⟩ := hP.pars; have d0 := hC.cell 0 rfl; have d1 := hC.cell 1 rfl; have hPl := hP.lt; have hCl := hC.lt))
  go_ret
  exact ⟨rfl, hok⟩
theorem waycn (p : Par) (t : Int) (ticks to : Int) (hd : Sat.sub t to < 0) (w : World) :
    Calls Try.prog 3 #[parV p, clockV t true, .int .i64 ticks, .int .i64 to, .bool false] w fun e w' => e = .returned (.bool true) ∧ Ok w w' := by
  have KS := Lib.hid fun w => slewStep p t ticks to w
  have KR := Lib.hid fun w => ref12Step p t ticks to w
  obtain ⟨y, hy⟩ : ∃ y, Slew.step p t ticks to = y := ⟨_, rfl⟩
  rw [hy] at KR KS
  clear hy
  have KD := Lib.hid fun w => refSub t to w
  have KO := Lib.hid fun w => slewOff t true to w
  have hdb := Sat.sub_bd t to
  rw [show Sat.abs (Sat.sub t to) = -Sat.sub t to from by unfold Sat.abs; rw [Sat.clip_in hdb.1 hdb.2]; rw [if_pos hd]] at KO
  obtain ⟨d, hde⟩ : ∃ d, Sat.sub t to = d := ⟨_, rfl⟩
  rw [hde] at KD KO hd hdb
  clear hde
  have hn : IntKind.i64.wrap (-d) = -d := IntWalk.i64_in _ ⟨by omega, by omega⟩
  have hne : ¬ -d = d := by omega
  have hge : 0 ≤ -d := by omega
  have hdec : decide (d ≤ 0) = true := decide_eq_true (by omega)
  have HP := Lib.hid ((Own.new w (parCells p) 23 rfl).alloc (.cells #[.int .i64 t, .bool true] 25))
  have HC := Lib.hid (Own.new (w.alloc (.cells (parCells p) 23)) #[.int .i64 t, .bool true] 25 (g := w.heap.size + 1) (by simp))
  have HK := Lib.hid (((Ok.refl w).alloc (.cells (parCells p) 23)).alloc (.cells #[.int .i64 t, .bool true] 25))
  go_enter Try.func3, Try.ntmps3
  go_wp2_with (first | (go_at_call 8; (with_reducible refine (law12Alive _).mono ?_); rintro e w1 ⟨rfl, hb1⟩; have hP := HP.out.next hb1; have hC := HC.out.next hb1; have hok := HK.out.trans hb1; clear hb1 HP HC HK; obtain ⟨c0, c1, c2, c3, c4, c5, c6, c7, c8, c9, c10, c11⟩ := hP.pars; have d0 := hC.cell 0 rfl; have d1 := hC.cell 1 rfl; have hPl := hP.lt; have hCl := hC.lt) | (go_at_call 9; (with_reducible refine (KR.out _).mono ?_); rintro e w2 ⟨rfl, hb1⟩; clear c0 c1 c2 c3 c4 c5 c6 c7 c8 c9 c10 c11 d0 d1 hPl hCl; replace hP := hP.next hb1; replace hC := hC.next hb1; replace hok := hok.trans hb1; clear hb1; obtain ⟨c0, c1, c2, c3, c4, c5, c6, c7, c8, c9, c10, c11⟩ := hP.pars; have d0 := hC.cell 0 rfl; have d1 := hC.cell 1 rfl; have hPl := hP.lt; have hCl := hC.lt) | (go_at_call 12; (with_reducible refine (KS.out _).mono ?_); rintro e w2 ⟨rfl, hb1⟩; clear c0 c1 c2 c3 c4 c5 c6 c7 c8 c9 c10 c11 d0 d1 hPl hCl; replace hP := hP.next hb1; replace hC := hC.next hb1; replace hok := hok.trans hb1; clear hb1; obtain ⟨c0, c1, c2, c3, c4, c5, c6, c7, c8, c9, c10, c11⟩ := hP.pars; have d0 := hC.cell 0 rfl; have d1 := hC.cell 1 rfl; have hPl := hP.lt; have hCl := hC.lt) | (go_at_call 11; (with_reducible refine (KD.out _).mono ?_); rintro e w2 ⟨rfl, rfl⟩) | (go_at_call 13; (with_reducible refine (KO.out _).mono ?_); rintro e w2 ⟨rfl, hb1⟩; clear c0 c1 c2 c3 c4 c5 c6 c7 c8 c9 c10 c11 d0 d1 hPl hCl; replace hP := hP.next hb1; replace hC := hC.next hb1; replace hok := hok.trans hb1; clear hb1; obtain ⟨c0, c1, c2, c3, c4, c5, c6, c7, c8, c9, c10, c11⟩ := hP.pars; have d0 := hC.cell 0 rfl; have d1 := hC.cell 1 rfl; have hPl := hP.lt; have hCl := hC.lt))
  go_ret
  exact ⟨rfl, hok⟩
theorem walk (w : World) (p : Par) (_wp : ParWf p) (t : Int) (s : Bool) (_wt : (Lit.int .i64 t).wf = true) (ticks : Int) (_w2 : (Lit.int .i64 ticks).wf = true) (to : Int) (_w3 : (Lit.int .i64 to).wf = true) (j : Bool) :
    Calls Try.prog 3 #[parV p, clockV t s, .int .i64 ticks, .int .i64 to, .bool j] w fun e w' => e = .returned (.bool true) ∧ Below w.heap.size w w' := by
  rcases Int.lt_or_le (Sat.sub t to) 0 with hd | hd
  · cases j
    · cases s
      · exact waybn p t ticks to hd w
      · exact waycn p t ticks to hd w
    · exact wayan p t s ticks to hd w
  · cases j
    · cases s
      · exact waybp p t ticks to hd w
      · exact waycp p t ticks to hd w
    · exact wayap p t s ticks to hd w
theorem own : ownKnob Try.prog.godebug = none := by kernel_rfl
theorem laidOut : laidOutB Try.prog = true := by kernel_rfl
set_option maxRecDepth 100000 in
theorem lifted (os : Os) (started : os.Started) (H : Type) (enc : TypeId × Value → H) :
    ReturnsInHanded {} Try.checked os 3 .any (Rows.slewStepsSpec.pre6 enc Try.prog Try.f3 Rows.slewStepsRow.domain false) (Rows.slewStepsSpec.post enc Try.prog Try.f3 false true false false) := by
  refine returnsInHanded_of_change (C := Try.checked) own started (by kernel_rfl) Try.func3
    (ChangeSpec.witness6 (enc := enc) (C := Try.checked) false ⟨#[], #[.agg #[.int .i64 0, .int .i64 0, .int .i64 0, .int .i64 0, .int .i64 0, .int .i64 0, .int .i64 0, .int .i64 0, .int .i64 0, .int .i64 0, .int .i64 0, .int .i64 0], .agg #[.int .i64 0, .bool false], .int .i64 0, .int .i64 0, .bool false], []⟩ 8 (by kernel_rfl) (by kernel_rfl) (by kernel_rfl) (by kernel_rfl)) ?_
  intro W base args ds gs before hval0 hW _ _
  have hval : ∀ (j : Nat) t v, Try.f3.params[j]? = some t → args[j]? = some v → Value.okWide Try.prog W .any base t v := hval0
  have hW' := hW
  obtain ⟨p, q, hA, hV, rfl, _, _⟩ := hW
  obtain ⟨rfl, rfl⟩ := trodVars_none hV
  replace hA : DataW.TrodAll enc Try.prog W 0 (fun _ => true) true Try.f3.params.toList args.toList ds p := hA
  rw [Try.params3] at hA hval
  obtain ⟨v0, vs0, d0, ds0, p0, q0, hargs, rfl, rfl, h0, r0⟩ := trodAll_cons hA
  obtain ⟨v1, vs1, d1, ds1, p1, q1, rfl, rfl, rfl, h1, r1⟩ := trodAll_cons r0
  obtain ⟨v2, vs2, d2, ds2, p2, q2, rfl, rfl, rfl, h2, r2⟩ := trodAll_cons r1
  obtain ⟨v3, vs3, d3, ds3, p3, q3, rfl, rfl, rfl, h3, r3⟩ := trodAll_cons r2
  obtain ⟨v4, vs4, d4, ds4, p4, q4, rfl, rfl, rfl, h4, r4⟩ := trodAll_cons r3
  obtain ⟨rfl, rfl, rfl⟩ := trodAll_nil r4
  obtain rfl : args = #[v0, v1, v2, v3, v4] := by cases args; simp_all
  obtain ⟨p0, rfl, wp0⟩ := open_par Try.underlying23 rfl (by kernel_rfl) (by kernel_rfl) (by kernel_rfl) (hval 0 23 v0 rfl rfl) h0
  obtain ⟨a1, b1, rfl, w1⟩ := open_intbool Try.underlying25 (by kernel_rfl) (by kernel_rfl) (by kernel_rfl) (by kernel_rfl) (hval 1 25 v1 rfl rfl) h1
  obtain ⟨a2, rfl, rfl, rfl, w2⟩ := open_int Try.underlying3 (hval 2 3 v2 rfl rfl) h2
  obtain ⟨a3, rfl, rfl, rfl, w3⟩ := open_int Try.underlying3 (hval 3 3 v3 rfl rfl) h3
  obtain ⟨a4, rfl, rfl, rfl⟩ := Go.RowKit.open_bool Try.underlying4 (hval 4 4 v4 rfl rfl) h4
  refine (walk W p0 wp0 a1 b1 w1 a2 w2 a3 w3 a4).mono fun e W' ⟨he, hb⟩ => ?_
  subst he
  exact ⟨_, rfl, law_post hW' laidOut (by rw [Try.params3]; exact params_ok (by kernel_rfl)) rfl (by kernel_rfl) Try.underlying4 rfl rfl rfl hb⟩
theorem over : Rows.slewStepsRow.holds Try.pinned (OpenSpec.ofChange Rows.slewStepsSpec) :=
  OpenClaim.holds_of_wide 3 Try.f3 rfl rfl rfl rfl rfl rfl rfl ⟨rfl, rfl, rfl, rfl, rfl⟩ rfl rfl rfl rfl rfl (by kernel_rfl) Try.func3 (by kernel_rfl)
    (of_decide_eq_true (by kernel_rfl)) (by unfold Func.isWrapper; first | (rw [if_pos (by decide +kernel)]; kernel_rfl) | (rw [if_neg (by decide +kernel)]; exact ⟨rfl, rfl⟩))
    (fun os started H enc _ => lifted os started H enc)
theorem proved : Rows.SlewStepsSaid := over
end Go.Proofs.Ytcknnlekkbekmaa.slewSteps
