/- CarryWithin: for all numbers the law answers true: what was within a span is within it behind a beat, and behind a way. No condition. -/
import Derived.Test.YteoilfeldehldaaC11c
import Derived.Test.YteoilfeldehldaaW06
import Derived.Test.YteoilfeldehldaaW31
namespace Go.Proofs.Yteoilfeldehldaa.carryWithin
open Go.ChangeShapes Go.WideShapes Go.ChangeAt Go.RowKit
set_option linter.unusedVariables false
set_option maxRecDepth 100000
attribute [local go_sem ↓] Go.wp_at_zero Go.wp_at_succ
theorem sum2_mono {a b : Int} (u : Int) (h : a ≤ b) : Sat.sum [a, u] ≤ Sat.sum [b, u] := by
  rw [Lim.sum2, Lim.sum2]
  have := Sat.clip_mono h
  exact Sat.clip_mono (by omega)
theorem no0 (w : World) (p : Par) (a b less more m : Int) (hm : ¬ Lim.May p) : Calls Try.prog 8 #[parV p, spanV a b, .int .i64 less, .int .i64 more, .int .i64 m] w fun e w' => e = .returned (.bool true) ∧ Ok w w' := by
  have HP := Lib.hid ((Own.new w (parCells p) 23 rfl).alloc (.cells #[.int .i64 a, .int .i64 b] 25))
  have HS := Lib.hid (Slab.new (w.alloc (.cells (parCells p) 23)) a b 25 (g := w.heap.size + 1) (by simp))
  have HK := Lib.hid (((Ok.refl w).alloc (.cells (parCells p) 23)).alloc (.cells #[.int .i64 a, .int .i64 b] 25))
  have KC := Lib.hid fun w => limCheck p w
  rw [show Lim.check p = 1 from if_neg hm] at KC
  clear hm
  go_enter Try.func8, Try.ntmps8
  go_wp2_with (first | (go_at_call 9; (with_reducible refine (law11Alive _).mono ?_); rintro e w1 ⟨rfl, hb1⟩; have hP := HP.out.next hb1; have hS := HS.out.next hb1; have hok := HK.out.trans hb1; clear hb1 HP HS HK; obtain ⟨c0, c1, c2, c3, c4, c5, c6, c7, c8, c9, c10, c11⟩ := hP.pars; have d0 := hS.c0; have d1 := hS.c1) | (go_at_call 18; (with_reducible refine (KC.out _).mono ?_); rintro e w2 ⟨rfl, hb1⟩; clear c0 c1 c2 c3 c4 c5 c6 c7 c8 c9 c10 c11 d0 d1; replace hP := hP.next hb1; replace hS := hS.next hb1; replace hok := hok.trans hb1; clear hb1; obtain ⟨c0, c1, c2, c3, c4, c5, c6, c7, c8, c9, c10, c11⟩ := hP.pars; have d0 := hS.c0; have d1 := hS.c1; have hPl := hP.lt; have hSl := hS.lt))
  go_ret
  exact ⟨rfl, hok⟩
theorem no1 (w : World) (p : Par) (a b less more m : Int) (hm : Lim.May p) (h0 : less < 0) : Calls Try.prog 8 #[parV p, spanV a b, .int .i64 less, .int .i64 more, .int .i64 m] w fun e w' => e = .returned (.bool true) ∧ Ok w w' := by
  have HP := Lib.hid ((Own.new w (parCells p) 23 rfl).alloc (.cells #[.int .i64 a, .int .i64 b] 25))
  have HS := Lib.hid (Slab.new (w.alloc (.cells (parCells p) 23)) a b 25 (g := w.heap.size + 1) (by simp))
  have HK := Lib.hid (((Ok.refl w).alloc (.cells (parCells p) 23)).alloc (.cells #[.int .i64 a, .int .i64 b] 25))
  have KC := Lib.hid fun w => limCheck p w
  rw [show Lim.check p = 0 from if_pos hm] at KC
  obtain ⟨b1, r1, d1, j1, -⟩ := Lim.May.bds hm
  clear hm
  go_enter Try.func8, Try.ntmps8
  go_wp2_with (first | (go_at_call 9; (with_reducible refine (law11Alive _).mono ?_); rintro e w1 ⟨rfl, hb1⟩; have hP := HP.out.next hb1; have hS := HS.out.next hb1; have hok := HK.out.trans hb1; clear hb1 HP HS HK; obtain ⟨c0, c1, c2, c3, c4, c5, c6, c7, c8, c9, c10, c11⟩ := hP.pars; have d0 := hS.c0; have d1 := hS.c1) | (go_at_call 18; (with_reducible refine (KC.out _).mono ?_); rintro e w2 ⟨rfl, hb1⟩; clear c0 c1 c2 c3 c4 c5 c6 c7 c8 c9 c10 c11 d0 d1; replace hP := hP.next hb1; replace hS := hS.next hb1; replace hok := hok.trans hb1; clear hb1; obtain ⟨c0, c1, c2, c3, c4, c5, c6, c7, c8, c9, c10, c11⟩ := hP.pars; have d0 := hS.c0; have d1 := hS.c1; have hPl := hP.lt; have hSl := hS.lt))
  go_ret
  exact ⟨rfl, hok⟩
theorem no2 (w : World) (p : Par) (a b less more m : Int) (hm : Lim.May p) (h0 : 0 ≤ less) (h1 : more < 0) : Calls Try.prog 8 #[parV p, spanV a b, .int .i64 less, .int .i64 more, .int .i64 m] w fun e w' => e = .returned (.bool true) ∧ Ok w w' := by
  have HP := Lib.hid ((Own.new w (parCells p) 23 rfl).alloc (.cells #[.int .i64 a, .int .i64 b] 25))
  have HS := Lib.hid (Slab.new (w.alloc (.cells (parCells p) 23)) a b 25 (g := w.heap.size + 1) (by simp))
  have HK := Lib.hid (((Ok.refl w).alloc (.cells (parCells p) 23)).alloc (.cells #[.int .i64 a, .int .i64 b] 25))
  have KC := Lib.hid fun w => limCheck p w
  rw [show Lim.check p = 0 from if_pos hm] at KC
  obtain ⟨b1, r1, d1, j1, -⟩ := Lim.May.bds hm
  clear hm
  go_enter Try.func8, Try.ntmps8
  go_wp2_with (first | (go_at_call 9; (with_reducible refine (law11Alive _).mono ?_); rintro e w1 ⟨rfl, hb1⟩; have hP := HP.out.next hb1; have hS := HS.out.next hb1; have hok := HK.out.trans hb1; clear hb1 HP HS HK; obtain ⟨c0, c1, c2, c3, c4, c5, c6, c7, c8, c9, c10, c11⟩ := hP.pars; have d0 := hS.c0; have d1 := hS.c1) | (go_at_call 18; (with_reducible refine (KC.out _).mono ?_); rintro e w2 ⟨rfl, hb1⟩; clear c0 c1 c2 c3 c4 c5 c6 c7 c8 c9 c10 c11 d0 d1; replace hP := hP.next hb1; replace hS := hS.next hb1; replace hok := hok.trans hb1; clear hb1; obtain ⟨c0, c1, c2, c3, c4, c5, c6, c7, c8, c9, c10, c11⟩ := hP.pars; have d0 := hS.c0; have d1 := hS.c1; have hPl := hP.lt; have hSl := hS.lt))
  go_ret
  exact ⟨rfl, hok⟩
theorem no3 (w : World) (p : Par) (a b less more m : Int) (hm : Lim.May p) (h0 : 0 ≤ less) (h1 : 0 ≤ more) (h2 : 288230376151711744 < less) : Calls Try.prog 8 #[parV p, spanV a b, .int .i64 less, .int .i64 more, .int .i64 m] w fun e w' => e = .returned (.bool true) ∧ Ok w w' := by
  have HP := Lib.hid ((Own.new w (parCells p) 23 rfl).alloc (.cells #[.int .i64 a, .int .i64 b] 25))
  have HS := Lib.hid (Slab.new (w.alloc (.cells (parCells p) 23)) a b 25 (g := w.heap.size + 1) (by simp))
  have HK := Lib.hid (((Ok.refl w).alloc (.cells (parCells p) 23)).alloc (.cells #[.int .i64 a, .int .i64 b] 25))
  have KC := Lib.hid fun w => limCheck p w
  rw [show Lim.check p = 0 from if_pos hm] at KC
  obtain ⟨b1, r1, d1, j1, -⟩ := Lim.May.bds hm
  clear hm
  go_enter Try.func8, Try.ntmps8
  go_wp2_with (first | (go_at_call 9; (with_reducible refine (law11Alive _).mono ?_); rintro e w1 ⟨rfl, hb1⟩; have hP := HP.out.next hb1; have hS := HS.out.next hb1; have hok := HK.out.trans hb1; clear hb1 HP HS HK; obtain ⟨c0, c1, c2, c3, c4, c5, c6, c7, c8, c9, c10, c11⟩ := hP.pars; have d0 := hS.c0; have d1 := hS.c1) | (go_at_call 18; (with_reducible refine (KC.out _).mono ?_); rintro e w2 ⟨rfl, hb1⟩; clear c0 c1 c2 c3 c4 c5 c6 c7 c8 c9 c10 c11 d0 d1; replace hP := hP.next hb1; replace hS := hS.next hb1; replace hok := hok.trans hb1; clear hb1; obtain ⟨c0, c1, c2, c3, c4, c5, c6, c7, c8, c9, c10, c11⟩ := hP.pars; have d0 := hS.c0; have d1 := hS.c1; have hPl := hP.lt; have hSl := hS.lt))
  go_ret
  exact ⟨rfl, hok⟩
theorem no4 (w : World) (p : Par) (a b less more m : Int) (hm : Lim.May p) (h0 : 0 ≤ less) (h1 : 0 ≤ more) (h2 : less ≤ 288230376151711744) (h3 : 288230376151711744 < more) : Calls Try.prog 8 #[parV p, spanV a b, .int .i64 less, .int .i64 more, .int .i64 m] w fun e w' => e = .returned (.bool true) ∧ Ok w w' := by
  have HP := Lib.hid ((Own.new w (parCells p) 23 rfl).alloc (.cells #[.int .i64 a, .int .i64 b] 25))
  have HS := Lib.hid (Slab.new (w.alloc (.cells (parCells p) 23)) a b 25 (g := w.heap.size + 1) (by simp))
  have HK := Lib.hid (((Ok.refl w).alloc (.cells (parCells p) 23)).alloc (.cells #[.int .i64 a, .int .i64 b] 25))
  have KC := Lib.hid fun w => limCheck p w
  rw [show Lim.check p = 0 from if_pos hm] at KC
  obtain ⟨b1, r1, d1, j1, -⟩ := Lim.May.bds hm
  clear hm
  go_enter Try.func8, Try.ntmps8
  go_wp2_with (first | (go_at_call 9; (with_reducible refine (law11Alive _).mono ?_); rintro e w1 ⟨rfl, hb1⟩; have hP := HP.out.next hb1; have hS := HS.out.next hb1; have hok := HK.out.trans hb1; clear hb1 HP HS HK; obtain ⟨c0, c1, c2, c3, c4, c5, c6, c7, c8, c9, c10, c11⟩ := hP.pars; have d0 := hS.c0; have d1 := hS.c1) | (go_at_call 18; (with_reducible refine (KC.out _).mono ?_); rintro e w2 ⟨rfl, hb1⟩; clear c0 c1 c2 c3 c4 c5 c6 c7 c8 c9 c10 c11 d0 d1; replace hP := hP.next hb1; replace hS := hS.next hb1; replace hok := hok.trans hb1; clear hb1; obtain ⟨c0, c1, c2, c3, c4, c5, c6, c7, c8, c9, c10, c11⟩ := hP.pars; have d0 := hS.c0; have d1 := hS.c1; have hPl := hP.lt; have hSl := hS.lt))
  go_ret
  exact ⟨rfl, hok⟩
theorem far00 (w : World) (p : Par) (a b less more m : Int) (hm : Lim.May p) (h0 : 0 ≤ less) (h1 : 0 ≤ more) (h2 : less ≤ 288230376151711744) (h3 : more ≤ 288230376151711744) (g0 : 288230376151711744 < a) : Calls Try.prog 8 #[parV p, spanV a b, .int .i64 less, .int .i64 more, .int .i64 m] w fun e w' => e = .returned (.bool true) ∧ Ok w w' := by
  have HP := Lib.hid ((Own.new w (parCells p) 23 rfl).alloc (.cells #[.int .i64 a, .int .i64 b] 25))
  have HS := Lib.hid (Slab.new (w.alloc (.cells (parCells p) 23)) a b 25 (g := w.heap.size + 1) (by simp))
  have HK := Lib.hid (((Ok.refl w).alloc (.cells (parCells p) 23)).alloc (.cells #[.int .i64 a, .int .i64 b] 25))
  have KC := Lib.hid fun w => limCheck p w
  rw [show Lim.check p = 0 from if_pos hm] at KC
  obtain ⟨b1, r1, d1, j1, -⟩ := Lim.May.bds hm
  clear hm
  have n0 : ∀ (w : World), (Instr.index 34 (.agg #[.int .i64 a, .int .i64 b, .int .i64 m]) (.int .i64 0)).run Try.prog w = .ok (.int .i64 a) w := fun _ => by kernel_rfl
  have n1 : ∀ (w : World), (Instr.index 34 (.agg #[.int .i64 a, .int .i64 b, .int .i64 m]) (.int .i64 1)).run Try.prog w = .ok (.int .i64 b) w := fun _ => by kernel_rfl
  have n2 : ∀ (w : World), (Instr.index 34 (.agg #[.int .i64 a, .int .i64 b, .int .i64 m]) (.int .i64 2)).run Try.prog w = .ok (.int .i64 m) w := fun _ => by kernel_rfl
  go_enter Try.func8, Try.ntmps8
  go_wp2_with (first | (go_at_call 9; (with_reducible refine (law11Alive _).mono ?_); rintro e w1 ⟨rfl, hb1⟩; have hP := HP.out.next hb1; have hS := HS.out.next hb1; have hok := HK.out.trans hb1; clear hb1 HP HS HK; obtain ⟨c0, c1, c2, c3, c4, c5, c6, c7, c8, c9, c10, c11⟩ := hP.pars; have d0 := hS.c0; have d1 := hS.c1) | (go_at_call 18; (with_reducible refine (KC.out _).mono ?_); rintro e w2 ⟨rfl, hb1⟩; clear c0 c1 c2 c3 c4 c5 c6 c7 c8 c9 c10 c11 d0 d1; replace hP := hP.next hb1; replace hS := hS.next hb1; replace hok := hok.trans hb1; clear hb1; obtain ⟨c0, c1, c2, c3, c4, c5, c6, c7, c8, c9, c10, c11⟩ := hP.pars; have d0 := hS.c0; have d1 := hS.c1; have hPl := hP.lt; have hSl := hS.lt))
  refine wp_loop_rounds 4 ?_
  repeat' (rw [rounds_succ]; go_wp2_with fail)
  go_ret
  exact ⟨rfl, hok⟩
theorem far01 (w : World) (p : Par) (a b less more m : Int) (hm : Lim.May p) (h0 : 0 ≤ less) (h1 : 0 ≤ more) (h2 : less ≤ 288230376151711744) (h3 : more ≤ 288230376151711744) (g0 : a < -288230376151711744) : Calls Try.prog 8 #[parV p, spanV a b, .int .i64 less, .int .i64 more, .int .i64 m] w fun e w' => e = .returned (.bool true) ∧ Ok w w' := by
  have HP := Lib.hid ((Own.new w (parCells p) 23 rfl).alloc (.cells #[.int .i64 a, .int .i64 b] 25))
  have HS := Lib.hid (Slab.new (w.alloc (.cells (parCells p) 23)) a b 25 (g := w.heap.size + 1) (by simp))
  have HK := Lib.hid (((Ok.refl w).alloc (.cells (parCells p) 23)).alloc (.cells #[.int .i64 a, .int .i64 b] 25))
  have KC := Lib.hid fun w => limCheck p w
  rw [show Lim.check p = 0 from if_pos hm] at KC
  obtain ⟨b1, r1, d1, j1, -⟩ := Lim.May.bds hm
  clear hm
  have n0 : ∀ (w : World), (Instr.index 34 (.agg #[.int .i64 a, .int .i64 b, .int .i64 m]) (.int .i64 0)).run Try.prog w = .ok (.int .i64 a) w := fun _ => by kernel_rfl
  have n1 : ∀ (w : World), (Instr.index 34 (.agg #[.int .i64 a, .int .i64 b, .int .i64 m]) (.int .i64 1)).run Try.prog w = .ok (.int .i64 b) w := fun _ => by kernel_rfl
  have n2 : ∀ (w : World), (Instr.index 34 (.agg #[.int .i64 a, .int .i64 b, .int .i64 m]) (.int .i64 2)).run Try.prog w = .ok (.int .i64 m) w := fun _ => by kernel_rfl
  go_enter Try.func8, Try.ntmps8
  go_wp2_with (first | (go_at_call 9; (with_reducible refine (law11Alive _).mono ?_); rintro e w1 ⟨rfl, hb1⟩; have hP := HP.out.next hb1; have hS := HS.out.next hb1; have hok := HK.out.trans hb1; clear hb1 HP HS HK; obtain ⟨c0, c1, c2, c3, c4, c5, c6, c7, c8, c9, c10, c11⟩ := hP.pars; have d0 := hS.c0; have d1 := hS.c1) | (go_at_call 18; (with_reducible refine (KC.out _).mono ?_); rintro e w2 ⟨rfl, hb1⟩; clear c0 c1 c2 c3 c4 c5 c6 c7 c8 c9 c10 c11 d0 d1; replace hP := hP.next hb1; replace hS := hS.next hb1; replace hok := hok.trans hb1; clear hb1; obtain ⟨c0, c1, c2, c3, c4, c5, c6, c7, c8, c9, c10, c11⟩ := hP.pars; have d0 := hS.c0; have d1 := hS.c1; have hPl := hP.lt; have hSl := hS.lt))
  refine wp_loop_rounds 4 ?_
  repeat' (rw [rounds_succ]; go_wp2_with fail)
  go_ret
  exact ⟨rfl, hok⟩
theorem far10 (w : World) (p : Par) (a b less more m : Int) (hm : Lim.May p) (h0 : 0 ≤ less) (h1 : 0 ≤ more) (h2 : less ≤ 288230376151711744) (h3 : more ≤ 288230376151711744) (g0 : a ≤ 288230376151711744 ∧ -288230376151711744 ≤ a) (g1 : 288230376151711744 < b) : Calls Try.prog 8 #[parV p, spanV a b, .int .i64 less, .int .i64 more, .int .i64 m] w fun e w' => e = .returned (.bool true) ∧ Ok w w' := by
  have HP := Lib.hid ((Own.new w (parCells p) 23 rfl).alloc (.cells #[.int .i64 a, .int .i64 b] 25))
  have HS := Lib.hid (Slab.new (w.alloc (.cells (parCells p) 23)) a b 25 (g := w.heap.size + 1) (by simp))
  have HK := Lib.hid (((Ok.refl w).alloc (.cells (parCells p) 23)).alloc (.cells #[.int .i64 a, .int .i64 b] 25))
  have KC := Lib.hid fun w => limCheck p w
  rw [show Lim.check p = 0 from if_pos hm] at KC
  obtain ⟨b1, r1, d1, j1, -⟩ := Lim.May.bds hm
  clear hm
  have n0 : ∀ (w : World), (Instr.index 34 (.agg #[.int .i64 a, .int .i64 b, .int .i64 m]) (.int .i64 0)).run Try.prog w = .ok (.int .i64 a) w := fun _ => by kernel_rfl
  have n1 : ∀ (w : World), (Instr.index 34 (.agg #[.int .i64 a, .int .i64 b, .int .i64 m]) (.int .i64 1)).run Try.prog w = .ok (.int .i64 b) w := fun _ => by kernel_rfl
  have n2 : ∀ (w : World), (Instr.index 34 (.agg #[.int .i64 a, .int .i64 b, .int .i64 m]) (.int .i64 2)).run Try.prog w = .ok (.int .i64 m) w := fun _ => by kernel_rfl
  go_enter Try.func8, Try.ntmps8
  go_wp2_with (first | (go_at_call 9; (with_reducible refine (law11Alive _).mono ?_); rintro e w1 ⟨rfl, hb1⟩; have hP := HP.out.next hb1; have hS := HS.out.next hb1; have hok := HK.out.trans hb1; clear hb1 HP HS HK; obtain ⟨c0, c1, c2, c3, c4, c5, c6, c7, c8, c9, c10, c11⟩ := hP.pars; have d0 := hS.c0; have d1 := hS.c1) | (go_at_call 18; (with_reducible refine (KC.out _).mono ?_); rintro e w2 ⟨rfl, hb1⟩; clear c0 c1 c2 c3 c4 c5 c6 c7 c8 c9 c10 c11 d0 d1; replace hP := hP.next hb1; replace hS := hS.next hb1; replace hok := hok.trans hb1; clear hb1; obtain ⟨c0, c1, c2, c3, c4, c5, c6, c7, c8, c9, c10, c11⟩ := hP.pars; have d0 := hS.c0; have d1 := hS.c1; have hPl := hP.lt; have hSl := hS.lt))
  refine wp_loop_rounds 4 ?_
  repeat' (rw [rounds_succ]; go_wp2_with fail)
  go_ret
  exact ⟨rfl, hok⟩
theorem far11 (w : World) (p : Par) (a b less more m : Int) (hm : Lim.May p) (h0 : 0 ≤ less) (h1 : 0 ≤ more) (h2 : less ≤ 288230376151711744) (h3 : more ≤ 288230376151711744) (g0 : a ≤ 288230376151711744 ∧ -288230376151711744 ≤ a) (g1 : b < -288230376151711744) : Calls Try.prog 8 #[parV p, spanV a b, .int .i64 less, .int .i64 more, .int .i64 m] w fun e w' => e = .returned (.bool true) ∧ Ok w w' := by
  have HP := Lib.hid ((Own.new w (parCells p) 23 rfl).alloc (.cells #[.int .i64 a, .int .i64 b] 25))
  have HS := Lib.hid (Slab.new (w.alloc (.cells (parCells p) 23)) a b 25 (g := w.heap.size + 1) (by simp))
  have HK := Lib.hid (((Ok.refl w).alloc (.cells (parCells p) 23)).alloc (.cells #[.int .i64 a, .int .i64 b] 25))
  have KC := Lib.hid fun w => limCheck p w
  rw [show Lim.check p = 0 from if_pos hm] at KC
  obtain ⟨b1, r1, d1, j1, -⟩ := Lim.May.bds hm
  clear hm
  have n0 : ∀ (w : World), (Instr.index 34 (.agg #[.int .i64 a, .int .i64 b, .int .i64 m]) (.int .i64 0)).run Try.prog w = .ok (.int .i64 a) w := fun _ => by kernel_rfl
  have n1 : ∀ (w : World), (Instr.index 34 (.agg #[.int .i64 a, .int .i64 b, .int .i64 m]) (.int .i64 1)).run Try.prog w = .ok (.int .i64 b) w := fun _ => by kernel_rfl
  have n2 : ∀ (w : World), (Instr.index 34 (.agg #[.int .i64 a, .int .i64 b, .int .i64 m]) (.int .i64 2)).run Try.prog w = .ok (.int .i64 m) w := fun _ => by kernel_rfl
  go_enter Try.func8, Try.ntmps8
  go_wp2_with (first | (go_at_call 9; (with_reducible refine (law11Alive _).mono ?_); rintro e w1 ⟨rfl, hb1⟩; have hP := HP.out.next hb1; have hS := HS.out.next hb1; have hok := HK.out.trans hb1; clear hb1 HP HS HK; obtain ⟨c0, c1, c2, c3, c4, c5, c6, c7, c8, c9, c10, c11⟩ := hP.pars; have d0 := hS.c0; have d1 := hS.c1) | (go_at_call 18; (with_reducible refine (KC.out _).mono ?_); rintro e w2 ⟨rfl, hb1⟩; clear c0 c1 c2 c3 c4 c5 c6 c7 c8 c9 c10 c11 d0 d1; replace hP := hP.next hb1; replace hS := hS.next hb1; replace hok := hok.trans hb1; clear hb1; obtain ⟨c0, c1, c2, c3, c4, c5, c6, c7, c8, c9, c10, c11⟩ := hP.pars; have d0 := hS.c0; have d1 := hS.c1; have hPl := hP.lt; have hSl := hS.lt))
  refine wp_loop_rounds 4 ?_
  repeat' (rw [rounds_succ]; go_wp2_with fail)
  go_ret
  exact ⟨rfl, hok⟩
theorem far20 (w : World) (p : Par) (a b less more m : Int) (hm : Lim.May p) (h0 : 0 ≤ less) (h1 : 0 ≤ more) (h2 : less ≤ 288230376151711744) (h3 : more ≤ 288230376151711744) (g0 : a ≤ 288230376151711744 ∧ -288230376151711744 ≤ a) (g1 : b ≤ 288230376151711744 ∧ -288230376151711744 ≤ b) (g2 : 288230376151711744 < m) : Calls Try.prog 8 #[parV p, spanV a b, .int .i64 less, .int .i64 more, .int .i64 m] w fun e w' => e = .returned (.bool true) ∧ Ok w w' := by
  have HP := Lib.hid ((Own.new w (parCells p) 23 rfl).alloc (.cells #[.int .i64 a, .int .i64 b] 25))
  have HS := Lib.hid (Slab.new (w.alloc (.cells (parCells p) 23)) a b 25 (g := w.heap.size + 1) (by simp))
  have HK := Lib.hid (((Ok.refl w).alloc (.cells (parCells p) 23)).alloc (.cells #[.int .i64 a, .int .i64 b] 25))
  have KC := Lib.hid fun w => limCheck p w
  rw [show Lim.check p = 0 from if_pos hm] at KC
  obtain ⟨b1, r1, d1, j1, -⟩ := Lim.May.bds hm
  clear hm
  have n0 : ∀ (w : World), (Instr.index 34 (.agg #[.int .i64 a, .int .i64 b, .int .i64 m]) (.int .i64 0)).run Try.prog w = .ok (.int .i64 a) w := fun _ => by kernel_rfl
  have n1 : ∀ (w : World), (Instr.index 34 (.agg #[.int .i64 a, .int .i64 b, .int .i64 m]) (.int .i64 1)).run Try.prog w = .ok (.int .i64 b) w := fun _ => by kernel_rfl
  have n2 : ∀ (w : World), (Instr.index 34 (.agg #[.int .i64 a, .int .i64 b, .int .i64 m]) (.int .i64 2)).run Try.prog w = .ok (.int .i64 m) w := fun _ => by kernel_rfl
  go_enter Try.func8, Try.ntmps8
  go_wp2_with (first | (go_at_call 9; (with_reducible refine (law11Alive _).mono ?_); rintro e w1 ⟨rfl, hb1⟩; have hP := HP.out.next hb1; have hS := HS.out.next hb1; have hok := HK.out.trans hb1; clear hb1 HP HS HK; obtain ⟨c0, c1, c2, c3, c4, c5, c6, c7, c8, c9, c10, c11⟩ := hP.pars; have d0 := hS.c0; have d1 := hS.c1) | (go_at_call 18; (with_reducible refine (KC.out _).mono ?_); rintro e w2 ⟨rfl, hb1⟩; clear c0 c1 c2 c3 c4 c5 c6 c7 c8 c9 c10 c11 d0 d1; replace hP := hP.next hb1; replace hS := hS.next hb1; replace hok := hok.trans hb1; clear hb1; obtain ⟨c0, c1, c2, c3, c4, c5, c6, c7, c8, c9, c10, c11⟩ := hP.pars; have d0 := hS.c0; have d1 := hS.c1; have hPl := hP.lt; have hSl := hS.lt))
  refine wp_loop_rounds 4 ?_
  repeat' (rw [rounds_succ]; go_wp2_with fail)
  go_ret
  exact ⟨rfl, hok⟩
theorem far21 (w : World) (p : Par) (a b less more m : Int) (hm : Lim.May p) (h0 : 0 ≤ less) (h1 : 0 ≤ more) (h2 : less ≤ 288230376151711744) (h3 : more ≤ 288230376151711744) (g0 : a ≤ 288230376151711744 ∧ -288230376151711744 ≤ a) (g1 : b ≤ 288230376151711744 ∧ -288230376151711744 ≤ b) (g2 : m < -288230376151711744) : Calls Try.prog 8 #[parV p, spanV a b, .int .i64 less, .int .i64 more, .int .i64 m] w fun e w' => e = .returned (.bool true) ∧ Ok w w' := by
  have HP := Lib.hid ((Own.new w (parCells p) 23 rfl).alloc (.cells #[.int .i64 a, .int .i64 b] 25))
  have HS := Lib.hid (Slab.new (w.alloc (.cells (parCells p) 23)) a b 25 (g := w.heap.size + 1) (by simp))
  have HK := Lib.hid (((Ok.refl w).alloc (.cells (parCells p) 23)).alloc (.cells #[.int .i64 a, .int .i64 b] 25))
  have KC := Lib.hid fun w => limCheck p w
  rw [show Lim.check p = 0 from if_pos hm] at KC
  obtain ⟨b1, r1, d1, j1, -⟩ := Lim.May.bds hm
  clear hm
  have n0 : ∀ (w : World), (Instr.index 34 (.agg #[.int .i64 a, .int .i64 b, .int .i64 m]) (.int .i64 0)).run Try.prog w = .ok (.int .i64 a) w := fun _ => by kernel_rfl
  have n1 : ∀ (w : World), (Instr.index 34 (.agg #[.int .i64 a, .int .i64 b, .int .i64 m]) (.int .i64 1)).run Try.prog w = .ok (.int .i64 b) w := fun _ => by kernel_rfl
  have n2 : ∀ (w : World), (Instr.index 34 (.agg #[.int .i64 a, .int .i64 b, .int .i64 m]) (.int .i64 2)).run Try.prog w = .ok (.int .i64 m) w := fun _ => by kernel_rfl
  go_enter Try.func8, Try.ntmps8
  go_wp2_with (first | (go_at_call 9; (with_reducible refine (law11Alive _).mono ?_); rintro e w1 ⟨rfl, hb1⟩; have hP := HP.out.next hb1; have hS := HS.out.next hb1; have hok := HK.out.trans hb1; clear hb1 HP HS HK; obtain ⟨c0, c1, c2, c3, c4, c5, c6, c7, c8, c9, c10, c11⟩ := hP.pars; have d0 := hS.c0; have d1 := hS.c1) | (go_at_call 18; (with_reducible refine (KC.out _).mono ?_); rintro e w2 ⟨rfl, hb1⟩; clear c0 c1 c2 c3 c4 c5 c6 c7 c8 c9 c10 c11 d0 d1; replace hP := hP.next hb1; replace hS := hS.next hb1; replace hok := hok.trans hb1; clear hb1; obtain ⟨c0, c1, c2, c3, c4, c5, c6, c7, c8, c9, c10, c11⟩ := hP.pars; have d0 := hS.c0; have d1 := hS.c1; have hPl := hP.lt; have hSl := hS.lt))
  refine wp_loop_rounds 4 ?_
  repeat' (rw [rounds_succ]; go_wp2_with fail)
  go_ret
  exact ⟨rfl, hok⟩
/-- What each operation leaves. -/
def VMI1 (B S T K : Nat) (p : Par) (a b c d m x1 y1 x3 y3 : Int) (w : World) (v : Value) : Nat → Prop
  | 0 => v = parV p
  | 1 => v = spanV a b
  | 2 => v = .int .i64 m
  | 3 => v = spanV x1 y1
  | 4 => v = parV p
  | 5 => v = spanV c d
  | 6 => v = .int .i64 m
  | 7 => v = spanV x3 y3
  | 8 => ∃ g : Nat, v = .pointer (some ⟨g, 0, none⟩) ∧ Own w g #[.int .i64 0, .int .i64 0] ∧ K ≤ g
  | 9 => ∃ g : Nat, v = .pointer (some ⟨g, 0, none⟩) ∧ Own w g #[.int .i64 0, .int .i64 0] ∧ K ≤ g
  | _ => v = .bool true
/-- It stays so. -/
def VCI1 (B S T K : Nat) (p : Par) (a b c d m x1 y1 x3 y3 : Int) (i : Nat) (v : Value) (w : World) : Prop := ∀ w', Ok w w' → VMI1 B S T K p a b c d m x1 y1 x3 y3 w' v i
/-- Of the operations 8 and 9 also: they make a block. -/
def UCI1 (B S T K : Nat) (p : Par) (a b c d m x1 y1 x3 y3 : Int) (w : World) (i : Nat) (v : Value) (w' : World) : Prop := VCI1 B S T K p a b c d m x1 y1 x3 y3 i v w' ∧ (i = 8 ∨ i = 9 → v = toBlk w.heap.size ∧ w.heap.size < w'.heap.size)
/-- What each operation leaves. -/
def VMI2 (B S T K : Nat) (p : Par) (a b c d m x2 y2 x4 y4 : Int) (w : World) (v : Value) : Nat → Prop
  | 0 => v = parV p
  | 1 => v = spanV a b
  | 2 => v = .int .i64 m
  | 3 => v = spanV x2 y2
  | 4 => v = parV p
  | 5 => v = spanV c d
  | 6 => v = .int .i64 m
  | 7 => v = spanV x4 y4
  | 8 => ∃ g : Nat, v = .pointer (some ⟨g, 0, none⟩) ∧ Own w g #[.int .i64 0, .int .i64 0] ∧ K ≤ g
  | 9 => ∃ g : Nat, v = .pointer (some ⟨g, 0, none⟩) ∧ Own w g #[.int .i64 0, .int .i64 0] ∧ K ≤ g
  | _ => v = .bool true
/-- It stays so. -/
def VCI2 (B S T K : Nat) (p : Par) (a b c d m x2 y2 x4 y4 : Int) (i : Nat) (v : Value) (w : World) : Prop := ∀ w', Ok w w' → VMI2 B S T K p a b c d m x2 y2 x4 y4 w' v i
/-- Of the operations 8 and 9 also: they make a block. -/
def UCI2 (B S T K : Nat) (p : Par) (a b c d m x2 y2 x4 y4 : Int) (w : World) (i : Nat) (v : Value) (w' : World) : Prop := VCI2 B S T K p a b c d m x2 y2 x4 y4 i v w' ∧ (i = 8 ∨ i = 9 → v = toBlk w.heap.size ∧ w.heap.size < w'.heap.size)
set_option maxHeartbeats 3200000 in
theorem yes (w : World) (p : Par) (a b less more m : Int) (hm : Lim.May p) (h0 : 0 ≤ less) (h1 : 0 ≤ more) (h2 : less ≤ 288230376151711744) (h3 : more ≤ 288230376151711744) (g0 : a ≤ 288230376151711744 ∧ -288230376151711744 ≤ a) (g1 : b ≤ 288230376151711744 ∧ -288230376151711744 ≤ b) (g2 : m ≤ 288230376151711744 ∧ -288230376151711744 ≤ m) : Calls Try.prog 8 #[parV p, spanV a b, .int .i64 less, .int .i64 more, .int .i64 m] w fun e w' => e = .returned (.bool true) ∧ Ok w w' := by
  have k1 : (Carry.hold p (a - less, b + more) m).1 ≤ (Carry.hold p (a, b) m).1 := sum2_mono _ (by omega)
  have k2 : (Carry.hold p (a, b) m).2 ≤ (Carry.hold p (a - less, b + more) m).2 := sum2_mono _ (by omega)
  have k3 : (Carry.way p (a - less, b + more) m).1 ≤ (Carry.way p (a, b) m).1 := sum2_mono _ (by omega)
  have k4 : (Carry.way p (a, b) m).2 ≤ (Carry.way p (a - less, b + more) m).2 := sum2_mono _ (by omega)
  have KA := Lib.hid fun w => carryHold p a b m w
  have KB := Lib.hid fun w => carryWay p a b m w
  have KA2 := Lib.hid fun w => carryHold p (a - less) (b + more) m w
  have KB2 := Lib.hid fun w => carryWay p (a - less) (b + more) m w
  obtain ⟨x1, y1, e1⟩ : ∃ x y, Carry.hold p (a, b) m = (x, y) := ⟨_, _, rfl⟩
  obtain ⟨x2, y2, e2⟩ : ∃ x y, Carry.way p (a, b) m = (x, y) := ⟨_, _, rfl⟩
  obtain ⟨x3, y3, e3⟩ : ∃ x y, Carry.hold p (a - less, b + more) m = (x, y) := ⟨_, _, rfl⟩
  obtain ⟨x4, y4, e4⟩ : ∃ x y, Carry.way p (a - less, b + more) m = (x, y) := ⟨_, _, rfl⟩
  rw [e1] at k1 k2 KA
  rw [e2] at k3 k4 KB
  rw [e3] at k1 k2 KA2
  rw [e4] at k3 k4 KB2
  simp only at k1 k2 k3 k4 KA KB KA2 KB2
  have k1 := Lib.hid k1
  have k2 := Lib.hid k2
  have k3 := Lib.hid k3
  have k4 := Lib.hid k4
  clear e1 e2 e3 e4
  have HP := Lib.hid ((Own.new w (parCells p) 23 rfl).alloc (.cells #[.int .i64 a, .int .i64 b] 25))
  have HS := Lib.hid (Slab.new (w.alloc (.cells (parCells p) 23)) a b 25 (g := w.heap.size + 1) (by simp))
  have HK := Lib.hid (((Ok.refl w).alloc (.cells (parCells p) 23)).alloc (.cells #[.int .i64 a, .int .i64 b] 25))
  have KC := Lib.hid fun w => limCheck p w
  rw [show Lim.check p = 0 from if_pos hm] at KC
  obtain ⟨b1, r1, d1, j1, -⟩ := Lim.May.bds hm
  clear hm
  have n0 : ∀ (w : World), (Instr.index 34 (.agg #[.int .i64 a, .int .i64 b, .int .i64 m]) (.int .i64 0)).run Try.prog w = .ok (.int .i64 a) w := fun _ => by kernel_rfl
  have n1 : ∀ (w : World), (Instr.index 34 (.agg #[.int .i64 a, .int .i64 b, .int .i64 m]) (.int .i64 1)).run Try.prog w = .ok (.int .i64 b) w := fun _ => by kernel_rfl
  have n2 : ∀ (w : World), (Instr.index 34 (.agg #[.int .i64 a, .int .i64 b, .int .i64 m]) (.int .i64 2)).run Try.prog w = .ok (.int .i64 m) w := fun _ => by kernel_rfl
  go_enter Try.func8, Try.ntmps8
  go_wp2_with (first | (go_at_call 9; (with_reducible refine (law11Alive _).mono ?_); rintro e w1 ⟨rfl, hb1⟩; have hP := HP.out.next hb1; have hS := HS.out.next hb1; have hok := HK.out.trans hb1; clear hb1 HP HS HK; obtain ⟨c0, c1, c2, c3, c4, c5, c6, c7, c8, c9, c10, c11⟩ := hP.pars; have d0 := hS.c0; have d1 := hS.c1) | (go_at_call 18; (with_reducible refine (KC.out _).mono ?_); rintro e w2 ⟨rfl, hb1⟩; clear c0 c1 c2 c3 c4 c5 c6 c7 c8 c9 c10 c11 d0 d1; replace hP := hP.next hb1; replace hS := hS.next hb1; replace hok := hok.trans hb1; clear hb1; obtain ⟨c0, c1, c2, c3, c4, c5, c6, c7, c8, c9, c10, c11⟩ := hP.pars; have d0 := hS.c0; have d1 := hS.c1; have hPl := hP.lt; have hSl := hS.lt))
  refine wp_loop_rounds 4 ?_
  repeat' (rw [rounds_succ]; (first | go_upto_region 12 with fail | go_wp2_with fail))
  clear KC n0 n1 n2 c0 c1 c2 c3 c4 c5 c6 c7 c8 c9 c10 c11 d0 d1 hPl hSl
  have hT := Slab.new w2 (a - less) (b + more) 25 rfl
  replace hP := hP.alloc (.cells #[.int .i64 (a - less), .int .i64 (b + more)] 25)
  replace hS := hS.alloc (.cells #[.int .i64 (a - less), .int .i64 (b + more)] 25)
  replace hok := hok.alloc (.cells #[.int .i64 (a - less), .int .i64 (b + more)] 25)
  generalize w2.alloc (.cells #[.int .i64 (a - less), .int .i64 (b + more)] 25) = W at hP hS hT hok ⊢
  obtain ⟨T, hTe⟩ : ∃ b, w2.heap.size = b := ⟨_, rfl⟩
  rw [hTe] at hT ⊢
  clear hTe
  obtain ⟨c, hc⟩ : ∃ x, a - less = x := ⟨_, rfl⟩
  obtain ⟨d, hd⟩ : ∃ x, b + more = x := ⟨_, rfl⟩
  rw [hc] at hT KA2 KB2 ⊢
  rw [hd] at hT KA2 KB2 ⊢
  clear hc hd g0 g1 g2 h0 h1 h2 h3
  have hPl := hP.lt
  have hSl := hS.lt
  have hTl := hT.lt
  have hKw := hok.size
  have hK : W.heap.size ≤ W.drew.heap.size := Nat.le_refl _
  obtain ⟨K, hKe⟩ : ∃ K, W.heap.size = K := ⟨_, rfl⟩
  rw [hKe] at hPl hSl hTl hKw hK
  obtain ⟨S, hSe⟩ : ∃ b, w.heap.size + 1 = b := ⟨_, rfl⟩
  obtain ⟨B, hBe⟩ : ∃ b, w.heap.size = b := ⟨_, rfl⟩
  rw [hSe] at hS hSl ⊢
  rw [hBe] at hP hPl ⊢
  clear hSe hKe
  have HP := Lib.hid fun W' (k : Ok W.drew W') => hP.drew.next k
  have HS := Lib.hid fun W' (k : Ok W.drew W') => hS.drew.next k
  have HT := Lib.hid fun W' (k : Ok W.drew W') => hT.drew.next k
  have HOK := Lib.hid hok
  clear hP hS hT hok
  refine wp_region_facts_two (by kernel_rfl) 106 rfl (VCI1 B S T K p a b c d m x1 y1 x3 y3) (UCI1 B S T K p a b c d m x1 y1 x3 y3) Ok 8 9 14 15 _ 10 rfl rfl (by decide) (by kernel_rfl) (by kernel_rfl) (by kernel_rfl) (by kernel_rfl) (by kernel_rfl) (by decide) (by intro g h; simp [undef] at h) (by intro g h; simp [undef] at h) (fun i v w w' h k w'' k' => h w'' (k.trans k')) (fun _ _ _ _ h => h.1) (fun _ _ _ h => h.2 (.inl rfl)) (fun _ _ _ h => h.2 (.inr rfl)) (fun _ _ h => h.size) (fun a b c => Ok.trans) (Ok.refl _) [some 64, some 65, some 66, some 67, some 68, some 69, some 70, some 71, some 14, some 15] rfl _ rfl ⟨?_, ?_, ?_, ?_, ?_, ?_, ?_, ?_, ?_, ?_, trivial⟩ ?_
  · intro a' w' hF hR
    have e5 : a'.tmps[5]? = some (.pointer (some ⟨B, 0, none⟩)) := hF.slot 5 (by kernel_rfl) rfl
    obtain ⟨c0, c1, c2, c3, c4, c5, c6, c7, c8, c9, c10, c11⟩ := (HP.out _ hR).pars
    refine wpOp_run (v := parV p) rfl rfl ?_ ⟨fun _ _ => rfl, fun h => absurd h (by decide)⟩ (Ok.refl _)
    clear hF
    go_simp
  · intro a' w' hF hR
    have e6 : a'.tmps[6]? = some (.pointer (some ⟨S, 0, none⟩)) := hF.slot 6 (by kernel_rfl) rfl
    have d0 := (HS.out _ hR).c0
    have d1 := (HS.out _ hR).c1
    refine wpOp_run (v := spanV a b) rfl rfl ?_ ⟨fun _ _ => rfl, fun h => absurd h (by decide)⟩ (Ok.refl _)
    clear hF
    go_simp
  · intro a' w' hF hR
    have e4 : a'.tmps[4]? = some (.int .i64 m) := hF.slot 4 (by kernel_rfl) rfl
    refine wpOp_run (v := .int .i64 m) rfl rfl ?_ ⟨fun _ _ => rfl, fun h => absurd h (by decide)⟩ (Ok.refl _)
    clear hF
    go_simp
  · intro a' w' hF hR
    obtain ⟨v0, hv0, e64⟩ := hF.get 0 64 (by kernel_rfl) (by kernel_rfl)
    obtain rfl : v0 = _ := hv0 _ (Ok.refl _)
    obtain ⟨v1, hv1, e65⟩ := hF.get 1 65 (by kernel_rfl) (by kernel_rfl)
    obtain rfl : v1 = _ := hv1 _ (Ok.refl _)
    obtain ⟨v2, hv2, e66⟩ := hF.get 2 66 (by kernel_rfl) (by kernel_rfl)
    obtain rfl : v2 = _ := hv2 _ (Ok.refl _)
    clear hF
    refine wpOp_call (f := 10) (args := #[parV p, spanV a b, .int .i64 m]) rfl rfl ?_ ((KA.out _).mono ?_)
    · go_simp
    · rintro e w2 ⟨rfl, hb2⟩; exact ⟨_, rfl, ⟨fun _ _ => rfl, fun h => absurd h (by decide)⟩, hb2⟩
  · intro a' w' hF hR
    have e5 : a'.tmps[5]? = some (.pointer (some ⟨B, 0, none⟩)) := hF.slot 5 (by kernel_rfl) rfl
    obtain ⟨c0, c1, c2, c3, c4, c5, c6, c7, c8, c9, c10, c11⟩ := (HP.out _ hR).pars
    refine wpOp_run (v := parV p) rfl rfl ?_ ⟨fun _ _ => rfl, fun h => absurd h (by decide)⟩ (Ok.refl _)
    clear hF
    go_simp
  · intro a' w' hF hR
    have e13 : a'.tmps[13]? = some (.pointer (some ⟨T, 0, none⟩)) := hF.slot 13 (by kernel_rfl) rfl
    have d0 := (HT.out _ hR).c0
    have d1 := (HT.out _ hR).c1
    refine wpOp_run (v := spanV c d) rfl rfl ?_ ⟨fun _ _ => rfl, fun h => absurd h (by decide)⟩ (Ok.refl _)
    clear hF
    go_simp
  · intro a' w' hF hR
    have e4 : a'.tmps[4]? = some (.int .i64 m) := hF.slot 4 (by kernel_rfl) rfl
    refine wpOp_run (v := .int .i64 m) rfl rfl ?_ ⟨fun _ _ => rfl, fun h => absurd h (by decide)⟩ (Ok.refl _)
    clear hF
    go_simp
  · intro a' w' hF hR
    obtain ⟨v4, hv4, e68⟩ := hF.get 4 68 (by kernel_rfl) (by kernel_rfl)
    obtain rfl : v4 = _ := hv4 _ (Ok.refl _)
    obtain ⟨v5, hv5, e69⟩ := hF.get 5 69 (by kernel_rfl) (by kernel_rfl)
    obtain rfl : v5 = _ := hv5 _ (Ok.refl _)
    obtain ⟨v6, hv6, e70⟩ := hF.get 6 70 (by kernel_rfl) (by kernel_rfl)
    obtain rfl : v6 = _ := hv6 _ (Ok.refl _)
    clear hF
    refine wpOp_call (f := 10) (args := #[parV p, spanV c d, .int .i64 m]) rfl rfl ?_ ((KA2.out _).mono ?_)
    · go_simp
    · rintro e w2 ⟨rfl, hb2⟩; exact ⟨_, rfl, ⟨fun _ _ => rfl, fun h => absurd h (by decide)⟩, hb2⟩
  · intro a' w' hF hR
    have hzero : Sem.run Try.prog (zeroValue 25) w' = .ok (.agg #[.int .i64 0, .int .i64 0]) w' := by kernel_rfl
    refine wpOp_run (v := .pointer (some ⟨w'.heap.size, 0, none⟩)) (w' := w'.alloc (.cells #[.int .i64 0, .int .i64 0] 25)) rfl rfl ?_ ⟨fun w'' k => ⟨_, rfl, (Own.new _ _ _ rfl).next k, (show K ≤ w'.heap.size from Nat.le_trans hK hR.size)⟩, fun _ => ⟨rfl, by simp⟩⟩ ((Ok.refl _).alloc _)
    clear hF
    go_simp
  · intro a' w' hF hR
    have hzero : Sem.run Try.prog (zeroValue 25) w' = .ok (.agg #[.int .i64 0, .int .i64 0]) w' := by kernel_rfl
    refine wpOp_run (v := .pointer (some ⟨w'.heap.size, 0, none⟩)) (w' := w'.alloc (.cells #[.int .i64 0, .int .i64 0] 25)) rfl rfl ?_ ⟨fun w'' k => ⟨_, rfl, (Own.new _ _ _ rfl).next k, (show K ≤ w'.heap.size from Nat.le_trans hK hR.size)⟩, fun _ => ⟨rfl, by simp⟩⟩ ((Ok.refl _).alloc _)
    clear hF
    go_simp
  intro vs W' hvs hgh hR
  have e3 : vs 3 = spanV x1 y1 := hvs 3 (by decide) _ (Ok.refl _)
  have e7 : vs 7 = spanV x3 y3 := hvs 7 (by decide) _ (Ok.refl _)
  obtain ⟨g, e8, hO1, hK1⟩ := hvs 8 (by decide) _ (Ok.refl _)
  obtain ⟨h, e9, hO2, hK2⟩ := hvs 9 (by decide) _ (Ok.refl _)
  have hne := hgh _ _ e8 e9
  have hG : Slab W' g 0 0 := ⟨hO1.blk⟩
  have hH : Slab W' h 0 0 := ⟨hO2.blk⟩
  have hP2 := HP.out _ hR
  have hS2 := HS.out _ hR
  have hT2 := HT.out _ hR
  have hok1 := HOK.out.trans ((Ok.refl W).drew.trans hR)
  clear hvs hgh hR HOK hO1 hO2 HP HS HT
  simp only [putFrom, e3, e7, e8, e9]
  simp only [Act.put, List.setIfInBounds_toArray, List.set_cons_zero, List.set_cons_succ]
  clear e3 e7 e8 e9
  have f0 := hG.f0
  have f1 := hG.f1
  have c0 := hG.c0
  have c1 := hG.c1
  refine wpOp_store (w' := (W'.setCell ⟨g, 0, none⟩ (.int .i64 x1)).setCell ⟨g, 1, none⟩ (.int .i64 y1)) rfl rfl rfl ?_ ?_
  · go_simp
  replace hG := hG.set x1 y1
  replace hH := (hH.setOther (a := ⟨g, 0, none⟩) (by show h ≠ g; omega) (.int .i64 x1)).setOther (a := ⟨g, 1, none⟩) (by show h ≠ g; omega) (.int .i64 y1)
  replace hP2 := (hP2.setOther (a := ⟨g, 0, none⟩) (by show B ≠ g; omega) (.int .i64 x1)).setOther (a := ⟨g, 1, none⟩) (by show B ≠ g; omega) (.int .i64 y1)
  replace hS2 := (hS2.setOther (a := ⟨g, 0, none⟩) (by show S ≠ g; omega) (.int .i64 x1)).setOther (a := ⟨g, 1, none⟩) (by show S ≠ g; omega) (.int .i64 y1)
  replace hT2 := (hT2.setOther (a := ⟨g, 0, none⟩) (by show T ≠ g; omega) (.int .i64 x1)).setOther (a := ⟨g, 1, none⟩) (by show T ≠ g; omega) (.int .i64 y1)
  replace hok1 := (hok1.setCell (p := ⟨g, 0, none⟩) (by show w.heap.size ≤ g; omega) (.int .i64 x1)).setCell (p := ⟨g, 1, none⟩) (by show w.heap.size ≤ g; omega) (.int .i64 y1)
  clear f0 f1 c0 c1
  generalize (W'.setCell ⟨g, 0, none⟩ (.int .i64 x1)).setCell ⟨g, 1, none⟩ (.int .i64 y1) = W2 at hG hH hok1 hP2 hS2 hT2 ⊢
  have f0 := hH.f0
  have f1 := hH.f1
  have c0 := hH.c0
  have c1 := hH.c1
  refine wpOp_store (w' := (W2.setCell ⟨h, 0, none⟩ (.int .i64 x3)).setCell ⟨h, 1, none⟩ (.int .i64 y3)) rfl rfl rfl ?_ ?_
  · go_simp
  replace hH := hH.set x3 y3
  replace hG := (hG.setOther (a := ⟨h, 0, none⟩) (by show g ≠ h; omega) (.int .i64 x3)).setOther (a := ⟨h, 1, none⟩) (by show g ≠ h; omega) (.int .i64 y3)
  replace hP2 := (hP2.setOther (a := ⟨h, 0, none⟩) (by show B ≠ h; omega) (.int .i64 x3)).setOther (a := ⟨h, 1, none⟩) (by show B ≠ h; omega) (.int .i64 y3)
  replace hS2 := (hS2.setOther (a := ⟨h, 0, none⟩) (by show S ≠ h; omega) (.int .i64 x3)).setOther (a := ⟨h, 1, none⟩) (by show S ≠ h; omega) (.int .i64 y3)
  replace hT2 := (hT2.setOther (a := ⟨h, 0, none⟩) (by show T ≠ h; omega) (.int .i64 x3)).setOther (a := ⟨h, 1, none⟩) (by show T ≠ h; omega) (.int .i64 y3)
  replace hok1 := (hok1.setCell (p := ⟨h, 0, none⟩) (by show w.heap.size ≤ h; omega) (.int .i64 x3)).setCell (p := ⟨h, 1, none⟩) (by show w.heap.size ≤ h; omega) (.int .i64 y3)
  clear f0 f1 c0 c1
  generalize (W2.setCell ⟨h, 0, none⟩ (.int .i64 x3)).setCell ⟨h, 1, none⟩ (.int .i64 y3) = W3 at hH hG hok1 hP2 hS2 hT2 ⊢
  clear KA KA2 hK1 hK2 hne hKw hK hPl hSl hTl
  simp only [TailFrom]
  go_upto_region 13 with fail
  generalize vs (0 + 1 + 1 + 1 + 1 + 1 + 1 + 1) = z7
  generalize vs (0 + 1 + 1 + 1 + 1 + 1 + 1) = z6
  generalize vs (0 + 1 + 1 + 1 + 1 + 1) = z5
  generalize vs (0 + 1 + 1 + 1 + 1) = z4
  generalize vs (0 + 1 + 1 + 1) = z3
  generalize vs (0 + 1 + 1) = z2
  generalize vs (0 + 1) = z1
  generalize vs 0 = z0
  have hGl := hG.lt
  have hHl := hH.lt
  have hKw := hok1.size
  have hK : W3.heap.size ≤ W3.drew.heap.size := Nat.le_refl _
  clear K
  obtain ⟨K, hKe⟩ : ∃ K, W3.heap.size = K := ⟨_, rfl⟩
  rw [hKe] at hGl hHl hKw hK
  clear hKe
  have HP := Lib.hid fun W' (k : Ok W3.drew W') => hP2.drew.next k
  have HS := Lib.hid fun W' (k : Ok W3.drew W') => hS2.drew.next k
  have HT := Lib.hid fun W' (k : Ok W3.drew W') => hT2.drew.next k
  have HG := Lib.hid fun W' (k : Ok W3.drew W') => hG.drew.next k
  have HH := Lib.hid fun W' (k : Ok W3.drew W') => hH.drew.next k
  have HOK := Lib.hid hok1
  clear hP2 hS2 hT2 hG hH hok1
  refine wp_region_facts_two (by kernel_rfl) 106 rfl (VCI2 B S T K p a b c d m x2 y2 x4 y4) (UCI2 B S T K p a b c d m x2 y2 x4 y4) Ok 8 9 16 17 _ 10 rfl rfl (by decide) (by kernel_rfl) (by kernel_rfl) (by kernel_rfl) (by kernel_rfl) (by kernel_rfl) (by decide) (by intro g h; simp [undef] at h) (by intro g h; simp [undef] at h) (fun i v w w' h k w'' k' => h w'' (k.trans k')) (fun _ _ _ _ h => h.1) (fun _ _ _ h => h.2 (.inl rfl)) (fun _ _ _ h => h.2 (.inr rfl)) (fun _ _ h => h.size) (fun a b c => Ok.trans) (Ok.refl _) [some 72, some 73, some 74, some 75, some 76, some 77, some 78, some 79, some 16, some 17] rfl _ rfl ⟨?_, ?_, ?_, ?_, ?_, ?_, ?_, ?_, ?_, ?_, trivial⟩ ?_
  · intro a' w' hF hR
    have e5 : a'.tmps[5]? = some (.pointer (some ⟨B, 0, none⟩)) := hF.slot 5 (by kernel_rfl) rfl
    obtain ⟨c0, c1, c2, c3, c4, c5, c6, c7, c8, c9, c10, c11⟩ := (HP.out _ hR).pars
    refine wpOp_run (v := parV p) rfl rfl ?_ ⟨fun _ _ => rfl, fun h => absurd h (by decide)⟩ (Ok.refl _)
    clear hF
    go_simp
  · intro a' w' hF hR
    have e6 : a'.tmps[6]? = some (.pointer (some ⟨S, 0, none⟩)) := hF.slot 6 (by kernel_rfl) rfl
    have d0 := (HS.out _ hR).c0
    have d1 := (HS.out _ hR).c1
    refine wpOp_run (v := spanV a b) rfl rfl ?_ ⟨fun _ _ => rfl, fun h => absurd h (by decide)⟩ (Ok.refl _)
    clear hF
    go_simp
  · intro a' w' hF hR
    have e4 : a'.tmps[4]? = some (.int .i64 m) := hF.slot 4 (by kernel_rfl) rfl
    refine wpOp_run (v := .int .i64 m) rfl rfl ?_ ⟨fun _ _ => rfl, fun h => absurd h (by decide)⟩ (Ok.refl _)
    clear hF
    go_simp
  · intro a' w' hF hR
    obtain ⟨v0, hv0, e72⟩ := hF.get 0 72 (by kernel_rfl) (by kernel_rfl)
    obtain rfl : v0 = _ := hv0 _ (Ok.refl _)
    obtain ⟨v1, hv1, e73⟩ := hF.get 1 73 (by kernel_rfl) (by kernel_rfl)
    obtain rfl : v1 = _ := hv1 _ (Ok.refl _)
    obtain ⟨v2, hv2, e74⟩ := hF.get 2 74 (by kernel_rfl) (by kernel_rfl)
    obtain rfl : v2 = _ := hv2 _ (Ok.refl _)
    clear hF
    refine wpOp_call (f := 12) (args := #[parV p, spanV a b, .int .i64 m]) rfl rfl ?_ ((KB.out _).mono ?_)
    · go_simp
    · rintro e w2 ⟨rfl, hb2⟩; exact ⟨_, rfl, ⟨fun _ _ => rfl, fun h => absurd h (by decide)⟩, hb2⟩
  · intro a' w' hF hR
    have e5 : a'.tmps[5]? = some (.pointer (some ⟨B, 0, none⟩)) := hF.slot 5 (by kernel_rfl) rfl
    obtain ⟨c0, c1, c2, c3, c4, c5, c6, c7, c8, c9, c10, c11⟩ := (HP.out _ hR).pars
    refine wpOp_run (v := parV p) rfl rfl ?_ ⟨fun _ _ => rfl, fun h => absurd h (by decide)⟩ (Ok.refl _)
    clear hF
    go_simp
  · intro a' w' hF hR
    have e13 : a'.tmps[13]? = some (.pointer (some ⟨T, 0, none⟩)) := hF.slot 13 (by kernel_rfl) rfl
    have d0 := (HT.out _ hR).c0
    have d1 := (HT.out _ hR).c1
    refine wpOp_run (v := spanV c d) rfl rfl ?_ ⟨fun _ _ => rfl, fun h => absurd h (by decide)⟩ (Ok.refl _)
    clear hF
    go_simp
  · intro a' w' hF hR
    have e4 : a'.tmps[4]? = some (.int .i64 m) := hF.slot 4 (by kernel_rfl) rfl
    refine wpOp_run (v := .int .i64 m) rfl rfl ?_ ⟨fun _ _ => rfl, fun h => absurd h (by decide)⟩ (Ok.refl _)
    clear hF
    go_simp
  · intro a' w' hF hR
    obtain ⟨v4, hv4, e76⟩ := hF.get 4 76 (by kernel_rfl) (by kernel_rfl)
    obtain rfl : v4 = _ := hv4 _ (Ok.refl _)
    obtain ⟨v5, hv5, e77⟩ := hF.get 5 77 (by kernel_rfl) (by kernel_rfl)
    obtain rfl : v5 = _ := hv5 _ (Ok.refl _)
    obtain ⟨v6, hv6, e78⟩ := hF.get 6 78 (by kernel_rfl) (by kernel_rfl)
    obtain rfl : v6 = _ := hv6 _ (Ok.refl _)
    clear hF
    refine wpOp_call (f := 12) (args := #[parV p, spanV c d, .int .i64 m]) rfl rfl ?_ ((KB2.out _).mono ?_)
    · go_simp
    · rintro e w2 ⟨rfl, hb2⟩; exact ⟨_, rfl, ⟨fun _ _ => rfl, fun h => absurd h (by decide)⟩, hb2⟩
  · intro a' w' hF hR
    have hzero : Sem.run Try.prog (zeroValue 25) w' = .ok (.agg #[.int .i64 0, .int .i64 0]) w' := by kernel_rfl
    refine wpOp_run (v := .pointer (some ⟨w'.heap.size, 0, none⟩)) (w' := w'.alloc (.cells #[.int .i64 0, .int .i64 0] 25)) rfl rfl ?_ ⟨fun w'' k => ⟨_, rfl, (Own.new _ _ _ rfl).next k, (show K ≤ w'.heap.size from Nat.le_trans hK hR.size)⟩, fun _ => ⟨rfl, by simp⟩⟩ ((Ok.refl _).alloc _)
    clear hF
    go_simp
  · intro a' w' hF hR
    have hzero : Sem.run Try.prog (zeroValue 25) w' = .ok (.agg #[.int .i64 0, .int .i64 0]) w' := by kernel_rfl
    refine wpOp_run (v := .pointer (some ⟨w'.heap.size, 0, none⟩)) (w' := w'.alloc (.cells #[.int .i64 0, .int .i64 0] 25)) rfl rfl ?_ ⟨fun w'' k => ⟨_, rfl, (Own.new _ _ _ rfl).next k, (show K ≤ w'.heap.size from Nat.le_trans hK hR.size)⟩, fun _ => ⟨rfl, by simp⟩⟩ ((Ok.refl _).alloc _)
    clear hF
    go_simp
  intro vs W' hvs hgh hR
  have e3 : vs 3 = spanV x2 y2 := hvs 3 (by decide) _ (Ok.refl _)
  have e7 : vs 7 = spanV x4 y4 := hvs 7 (by decide) _ (Ok.refl _)
  obtain ⟨u, e8, hO1, hK1⟩ := hvs 8 (by decide) _ (Ok.refl _)
  obtain ⟨z, e9, hO2, hK2⟩ := hvs 9 (by decide) _ (Ok.refl _)
  have hne := hgh _ _ e8 e9
  have hU : Slab W' u 0 0 := ⟨hO1.blk⟩
  have hZ : Slab W' z 0 0 := ⟨hO2.blk⟩
  have hG2 := HG.out _ hR
  have hH2 := HH.out _ hR
  have hok1 := HOK.out.trans ((Ok.refl W3).drew.trans hR)
  clear hvs hgh hR HOK HP HS HT hO1 hO2 HG HH
  simp only [putFrom, e3, e7, e8, e9]
  simp only [Act.put, List.setIfInBounds_toArray, List.set_cons_zero, List.set_cons_succ]
  clear e3 e7 e8 e9
  have f0 := hU.f0
  have f1 := hU.f1
  have c0 := hU.c0
  have c1 := hU.c1
  refine wpOp_store (w' := (W'.setCell ⟨u, 0, none⟩ (.int .i64 x2)).setCell ⟨u, 1, none⟩ (.int .i64 y2)) rfl rfl rfl ?_ ?_
  · go_simp
  replace hU := hU.set x2 y2
  replace hZ := (hZ.setOther (a := ⟨u, 0, none⟩) (by show z ≠ u; omega) (.int .i64 x2)).setOther (a := ⟨u, 1, none⟩) (by show z ≠ u; omega) (.int .i64 y2)
  replace hG2 := (hG2.setOther (a := ⟨u, 0, none⟩) (by show g ≠ u; omega) (.int .i64 x2)).setOther (a := ⟨u, 1, none⟩) (by show g ≠ u; omega) (.int .i64 y2)
  replace hH2 := (hH2.setOther (a := ⟨u, 0, none⟩) (by show h ≠ u; omega) (.int .i64 x2)).setOther (a := ⟨u, 1, none⟩) (by show h ≠ u; omega) (.int .i64 y2)
  replace hok1 := (hok1.setCell (p := ⟨u, 0, none⟩) (by show w.heap.size ≤ u; omega) (.int .i64 x2)).setCell (p := ⟨u, 1, none⟩) (by show w.heap.size ≤ u; omega) (.int .i64 y2)
  clear f0 f1 c0 c1
  generalize (W'.setCell ⟨u, 0, none⟩ (.int .i64 x2)).setCell ⟨u, 1, none⟩ (.int .i64 y2) = W4 at hU hZ hok1 hG2 hH2 ⊢
  have f0 := hZ.f0
  have f1 := hZ.f1
  have c0 := hZ.c0
  have c1 := hZ.c1
  refine wpOp_store (w' := (W4.setCell ⟨z, 0, none⟩ (.int .i64 x4)).setCell ⟨z, 1, none⟩ (.int .i64 y4)) rfl rfl rfl ?_ ?_
  · go_simp
  replace hZ := hZ.set x4 y4
  replace hU := (hU.setOther (a := ⟨z, 0, none⟩) (by show u ≠ z; omega) (.int .i64 x4)).setOther (a := ⟨z, 1, none⟩) (by show u ≠ z; omega) (.int .i64 y4)
  replace hG2 := (hG2.setOther (a := ⟨z, 0, none⟩) (by show g ≠ z; omega) (.int .i64 x4)).setOther (a := ⟨z, 1, none⟩) (by show g ≠ z; omega) (.int .i64 y4)
  replace hH2 := (hH2.setOther (a := ⟨z, 0, none⟩) (by show h ≠ z; omega) (.int .i64 x4)).setOther (a := ⟨z, 1, none⟩) (by show h ≠ z; omega) (.int .i64 y4)
  replace hok1 := (hok1.setCell (p := ⟨z, 0, none⟩) (by show w.heap.size ≤ z; omega) (.int .i64 x4)).setCell (p := ⟨z, 1, none⟩) (by show w.heap.size ≤ z; omega) (.int .i64 y4)
  clear f0 f1 c0 c1
  generalize (W4.setCell ⟨z, 0, none⟩ (.int .i64 x4)).setCell ⟨z, 1, none⟩ (.int .i64 y4) = W5 at hZ hU hok1 hG2 hH2 ⊢
  clear KB KB2 hK1 hK2 hne hKw hK hGl hHl
  simp only [TailFrom]
  generalize vs (0 + 1 + 1 + 1 + 1 + 1 + 1 + 1) = y7
  generalize vs (0 + 1 + 1 + 1 + 1 + 1 + 1) = y6
  generalize vs (0 + 1 + 1 + 1 + 1 + 1) = y5
  generalize vs (0 + 1 + 1 + 1 + 1) = y4
  generalize vs (0 + 1 + 1 + 1) = y3
  generalize vs (0 + 1 + 1) = y2
  generalize vs (0 + 1) = y1
  generalize vs 0 = y0
  have c0 := hG2.c0
  have c1 := hG2.c1
  have d0 := hH2.c0
  have d1 := hH2.c1
  have e0 := hU.c0
  have e1 := hU.c1
  have f0 := hZ.c0
  have f1 := hZ.c1
  replace k1 := k1.out
  replace k2 := k2.out
  replace k3 := k3.out
  replace k4 := k4.out
  go_wp2
  go_ret
  exact ⟨rfl, hok1⟩
theorem walk (w : World) (p : Par) (_wp : ParWf p) (a b : Int) (_wa : (Lit.int .i64 a).wf = true) (_wb : (Lit.int .i64 b).wf = true) (less : Int) (_w0 : (Lit.int .i64 less).wf = true) (more : Int) (_w1 : (Lit.int .i64 more).wf = true) (m : Int) (_w2 : (Lit.int .i64 m).wf = true) :
    Calls Try.prog 8 #[parV p, spanV a b, .int .i64 less, .int .i64 more, .int .i64 m] w fun e w' => e = .returned (.bool true) ∧ Below w.heap.size w w' := by
  show Calls Try.prog 8 #[parV p, spanV a b, .int .i64 less, .int .i64 more, .int .i64 m] w fun e w' => e = .returned (.bool true) ∧ Ok w w' 
  by_cases hm : Lim.May p
  rotate_left
  · exact no0 w p a b less more m hm
  by_cases h0 : less < 0
  · exact no1 w p a b less more m hm h0
  replace h0 : 0 ≤ less := by omega
  by_cases h1 : more < 0
  · exact no2 w p a b less more m hm h0 h1
  replace h1 : 0 ≤ more := by omega
  by_cases h2 : 288230376151711744 < less
  · exact no3 w p a b less more m hm h0 h1 h2
  replace h2 : less ≤ 288230376151711744 := by omega
  by_cases h3 : 288230376151711744 < more
  · exact no4 w p a b less more m hm h0 h1 h2 h3
  replace h3 : more ≤ 288230376151711744 := by omega
  by_cases k0 : 288230376151711744 < a
  · exact far00 w p a b less more m hm h0 h1 h2 h3 k0
  by_cases m0 : a < -288230376151711744
  · exact far01 w p a b less more m hm h0 h1 h2 h3 m0
  have g0 : a ≤ 288230376151711744 ∧ -288230376151711744 ≤ a := by omega
  by_cases k1 : 288230376151711744 < b
  · exact far10 w p a b less more m hm h0 h1 h2 h3 g0 k1
  by_cases m1 : b < -288230376151711744
  · exact far11 w p a b less more m hm h0 h1 h2 h3 g0 m1
  have g1 : b ≤ 288230376151711744 ∧ -288230376151711744 ≤ b := by omega
  by_cases k2 : 288230376151711744 < m
  · exact far20 w p a b less more m hm h0 h1 h2 h3 g0 g1 k2
  by_cases m2 : m < -288230376151711744
  · exact far21 w p a b less more m hm h0 h1 h2 h3 g0 g1 m2
  have g2 : m ≤ 288230376151711744 ∧ -288230376151711744 ≤ m := by omega
  exact yes w p a b less more m hm h0 h1 h2 h3 g0 g1 g2
theorem own : ownKnob Try.prog.godebug = none := by kernel_rfl
theorem laidOut : laidOutB Try.prog = true := by kernel_rfl
set_option maxRecDepth 100000 in
theorem lifted (os : Os) (started : os.Started) (H : Type) (enc : TypeId × Value → H) :
    ReturnsInHanded {} Try.checked os 8 .any (Rows.carryWithinSpec.pre6 enc Try.prog Try.f8 Rows.carryWithinRow.domain false) (Rows.carryWithinSpec.post enc Try.prog Try.f8 false true false false) := by
  refine returnsInHanded_of_change (C := Try.checked) own started (by kernel_rfl) Try.func8
    (ChangeSpec.witness6 (enc := enc) (C := Try.checked) false ⟨#[], #[.agg #[.int .i64 0, .int .i64 0, .int .i64 0, .int .i64 0, .int .i64 0, .int .i64 0, .int .i64 0, .int .i64 0, .int .i64 0, .int .i64 0, .int .i64 0, .int .i64 0], .agg #[.int .i64 0, .int .i64 0], .int .i64 0, .int .i64 0, .int .i64 0], []⟩ 8 (by kernel_rfl) (by kernel_rfl) (by kernel_rfl) (by kernel_rfl)) ?_
  intro W base args ds gs before hval0 hW _ _
  have hval : ∀ (j : Nat) t v, Try.f8.params[j]? = some t → args[j]? = some v → Value.okWide Try.prog W .any base t v := hval0
  have hW' := hW
  obtain ⟨p, q, hA, hV, rfl, _, _⟩ := hW
  obtain ⟨rfl, rfl⟩ := trodVars_none hV
  replace hA : DataW.TrodAll enc Try.prog W 0 (fun _ => true) true Try.f8.params.toList args.toList ds p := hA
  rw [Try.params8] at hA hval
  obtain ⟨v0, vs0, d0, ds0, p0, q0, hargs, rfl, rfl, h0, r0⟩ := trodAll_cons hA
  obtain ⟨v1, vs1, d1, ds1, p1, q1, rfl, rfl, rfl, h1, r1⟩ := trodAll_cons r0
  obtain ⟨v2, vs2, d2, ds2, p2, q2, rfl, rfl, rfl, h2, r2⟩ := trodAll_cons r1
  obtain ⟨v3, vs3, d3, ds3, p3, q3, rfl, rfl, rfl, h3, r3⟩ := trodAll_cons r2
  obtain ⟨v4, vs4, d4, ds4, p4, q4, rfl, rfl, rfl, h4, r4⟩ := trodAll_cons r3
  obtain ⟨rfl, rfl, rfl⟩ := trodAll_nil r4
  obtain rfl : args = #[v0, v1, v2, v3, v4] := by cases args; simp_all
  obtain ⟨p0, rfl, wp0⟩ := open_par Try.underlying23 rfl (by kernel_rfl) (by kernel_rfl) (by kernel_rfl) (hval 0 23 v0 rfl rfl) h0
  obtain ⟨s1_0, s1_1, rfl, ws1_0, ws1_1⟩ := open_pair Try.underlying25 (by kernel_rfl) (by kernel_rfl) (by kernel_rfl) (by kernel_rfl) (hval 1 25 v1 rfl rfl) h1
  obtain ⟨a2, rfl, rfl, rfl, w2⟩ := open_int Try.underlying3 (hval 2 3 v2 rfl rfl) h2
  obtain ⟨a3, rfl, rfl, rfl, w3⟩ := open_int Try.underlying3 (hval 3 3 v3 rfl rfl) h3
  obtain ⟨a4, rfl, rfl, rfl, w4⟩ := open_int Try.underlying3 (hval 4 3 v4 rfl rfl) h4
  refine (walk W p0 wp0 s1_0 s1_1 ws1_0 ws1_1 a2 w2 a3 w3 a4 w4).mono fun e W' ⟨he, hb⟩ => ?_
  subst he
  exact ⟨_, rfl, law_post hW' laidOut (by rw [Try.params8]; exact params_ok (by kernel_rfl)) rfl (by kernel_rfl) Try.underlying4 rfl rfl rfl hb⟩
theorem over : Rows.carryWithinRow.holds Try.pinned (OpenSpec.ofChange Rows.carryWithinSpec) :=
  OpenClaim.holds_of_wide 8 Try.f8 rfl rfl rfl rfl rfl rfl rfl ⟨rfl, rfl, rfl, rfl, rfl⟩ rfl rfl rfl rfl rfl (by kernel_rfl) Try.func8 (by kernel_rfl)
    (of_decide_eq_true (by kernel_rfl)) (by unfold Func.isWrapper; first | (rw [if_pos (by decide +kernel)]; kernel_rfl) | (rw [if_neg (by decide +kernel)]; exact ⟨rfl, rfl⟩))
    (fun os started H enc _ => lifted os started H enc)
theorem proved : Rows.CarryWithinSaid := over
end Go.Proofs.Yteoilfeldehldaa.carryWithin
