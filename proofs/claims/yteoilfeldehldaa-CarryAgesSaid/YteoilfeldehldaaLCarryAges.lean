/- CarryAges: for all numbers the law answers true: of every age that may be told the time stays in. No condition. -/
import Derived.Test.YteoilfeldehldaaC11c
import Derived.Test.YteoilfeldehldaaW06
namespace Go.Proofs.Yteoilfeldehldaa.carryAges
open Go.ChangeShapes Go.WideShapes Go.ChangeAt Go.RowKit
set_option linter.unusedVariables false
set_option maxRecDepth 100000
attribute [local go_sem ↓] Go.wp_at_zero Go.wp_at_succ
theorem no0 (w : World) (p : Par) (a b now age g1 g2 : Int) (hg : Carry.ages p = (g1, g2)) (hm : ¬ Lim.May p) : Calls Try.prog 6 #[parV p, spanV a b, .int .i64 now, .int .i64 age] w fun e w' => e = .returned (.bool true) ∧ Ok w w' := by
  have HP := Lib.hid ((Own.new w (parCells p) 23 rfl).alloc (.cells #[.int .i64 a, .int .i64 b] 25))
  have HS := Lib.hid (Slab.new (w.alloc (.cells (parCells p) 23)) a b 25 (g := w.heap.size + 1) (by simp))
  have HK := Lib.hid (((Ok.refl w).alloc (.cells (parCells p) 23)).alloc (.cells #[.int .i64 a, .int .i64 b] 25))
  have KC := Lib.hid fun w => limCheck p w
  have KG := Lib.hid fun w => carryAges p w
  rw [hg] at KG
  simp only at KG
  clear hg
  rw [show Lim.check p = 1 from if_neg hm] at KC
  clear hm
  go_enter Try.func6, Try.ntmps6
  go_wp2_with (first | (go_at_call 9; (with_reducible refine (law11Alive _).mono ?_); rintro e w1 ⟨rfl, hb1⟩; have hP := HP.out.next hb1; have hS := HS.out.next hb1; have hok := HK.out.trans hb1; clear hb1 HP HS HK; obtain ⟨c0, c1, c2, c3, c4, c5, c6, c7, c8, c9, c10, c11⟩ := hP.pars; have d0 := hS.c0; have d1 := hS.c1) | (go_at_call 16; (with_reducible refine (KG.out _).mono ?_); rintro e w2 ⟨rfl, hb1⟩; clear c0 c1 c2 c3 c4 c5 c6 c7 c8 c9 c10 c11 d0 d1; replace hP := hP.next hb1; replace hS := hS.next hb1; replace hok := hok.trans hb1; clear hb1; obtain ⟨c0, c1, c2, c3, c4, c5, c6, c7, c8, c9, c10, c11⟩ := hP.pars; have d0 := hS.c0; have d1 := hS.c1; have hPl := hP.lt; have hSl := hS.lt) | (go_at_call 18; (with_reducible refine (KC.out _).mono ?_); rintro e w3 ⟨rfl, hb1⟩; clear c0 c1 c2 c3 c4 c5 c6 c7 c8 c9 c10 c11 d0 d1; clear hPl hSl; replace hP := (hP.alloc _).next hb1; replace hS := (hS.alloc _).next hb1; replace hok := (hok.alloc _).trans hb1; have hG := (Slab.new w2 g1 g2 25 rfl).next hb1; clear hb1; obtain ⟨c0, c1, c2, c3, c4, c5, c6, c7, c8, c9, c10, c11⟩ := hP.pars; have d0 := hS.c0; have d1 := hS.c1; have hPl := hP.lt; have hSl := hS.lt; have e0 := hG.c0; have e1 := hG.c1; have hGl := hG.lt))
  go_ret
  exact ⟨rfl, hok⟩
theorem no1 (w : World) (p : Par) (a b now age g1 g2 : Int) (hg : Carry.ages p = (g1, g2)) (hm : Lim.May p) (h0 : 1152921504606846976 < now) : Calls Try.prog 6 #[parV p, spanV a b, .int .i64 now, .int .i64 age] w fun e w' => e = .returned (.bool true) ∧ Ok w w' := by
  have HP := Lib.hid ((Own.new w (parCells p) 23 rfl).alloc (.cells #[.int .i64 a, .int .i64 b] 25))
  have HS := Lib.hid (Slab.new (w.alloc (.cells (parCells p) 23)) a b 25 (g := w.heap.size + 1) (by simp))
  have HK := Lib.hid (((Ok.refl w).alloc (.cells (parCells p) 23)).alloc (.cells #[.int .i64 a, .int .i64 b] 25))
  have KC := Lib.hid fun w => limCheck p w
  have KG := Lib.hid fun w => carryAges p w
  rw [hg] at KG
  simp only at KG
  clear hg
  rw [show Lim.check p = 0 from if_pos hm] at KC
  obtain ⟨b1, r1, d1, j1, -⟩ := Lim.May.bds hm
  clear hm
  go_enter Try.func6, Try.ntmps6
  go_wp2_with (first | (go_at_call 9; (with_reducible refine (law11Alive _).mono ?_); rintro e w1 ⟨rfl, hb1⟩; have hP := HP.out.next hb1; have hS := HS.out.next hb1; have hok := HK.out.trans hb1; clear hb1 HP HS HK; obtain ⟨c0, c1, c2, c3, c4, c5, c6, c7, c8, c9, c10, c11⟩ := hP.pars; have d0 := hS.c0; have d1 := hS.c1) | (go_at_call 16; (with_reducible refine (KG.out _).mono ?_); rintro e w2 ⟨rfl, hb1⟩; clear c0 c1 c2 c3 c4 c5 c6 c7 c8 c9 c10 c11 d0 d1; replace hP := hP.next hb1; replace hS := hS.next hb1; replace hok := hok.trans hb1; clear hb1; obtain ⟨c0, c1, c2, c3, c4, c5, c6, c7, c8, c9, c10, c11⟩ := hP.pars; have d0 := hS.c0; have d1 := hS.c1; have hPl := hP.lt; have hSl := hS.lt) | (go_at_call 18; (with_reducible refine (KC.out _).mono ?_); rintro e w3 ⟨rfl, hb1⟩; clear c0 c1 c2 c3 c4 c5 c6 c7 c8 c9 c10 c11 d0 d1; clear hPl hSl; replace hP := (hP.alloc _).next hb1; replace hS := (hS.alloc _).next hb1; replace hok := (hok.alloc _).trans hb1; have hG := (Slab.new w2 g1 g2 25 rfl).next hb1; clear hb1; obtain ⟨c0, c1, c2, c3, c4, c5, c6, c7, c8, c9, c10, c11⟩ := hP.pars; have d0 := hS.c0; have d1 := hS.c1; have hPl := hP.lt; have hSl := hS.lt; have e0 := hG.c0; have e1 := hG.c1; have hGl := hG.lt))
  go_ret
  exact ⟨rfl, hok⟩
theorem no2 (w : World) (p : Par) (a b now age g1 g2 : Int) (hg : Carry.ages p = (g1, g2)) (hm : Lim.May p) (h0 : now ≤ 1152921504606846976) (h1 : now < -1152921504606846976) : Calls Try.prog 6 #[parV p, spanV a b, .int .i64 now, .int .i64 age] w fun e w' => e = .returned (.bool true) ∧ Ok w w' := by
  have HP := Lib.hid ((Own.new w (parCells p) 23 rfl).alloc (.cells #[.int .i64 a, .int .i64 b] 25))
  have HS := Lib.hid (Slab.new (w.alloc (.cells (parCells p) 23)) a b 25 (g := w.heap.size + 1) (by simp))
  have HK := Lib.hid (((Ok.refl w).alloc (.cells (parCells p) 23)).alloc (.cells #[.int .i64 a, .int .i64 b] 25))
  have KC := Lib.hid fun w => limCheck p w
  have KG := Lib.hid fun w => carryAges p w
  rw [hg] at KG
  simp only at KG
  clear hg
  rw [show Lim.check p = 0 from if_pos hm] at KC
  obtain ⟨b1, r1, d1, j1, -⟩ := Lim.May.bds hm
  clear hm
  go_enter Try.func6, Try.ntmps6
  go_wp2_with (first | (go_at_call 9; (with_reducible refine (law11Alive _).mono ?_); rintro e w1 ⟨rfl, hb1⟩; have hP := HP.out.next hb1; have hS := HS.out.next hb1; have hok := HK.out.trans hb1; clear hb1 HP HS HK; obtain ⟨c0, c1, c2, c3, c4, c5, c6, c7, c8, c9, c10, c11⟩ := hP.pars; have d0 := hS.c0; have d1 := hS.c1) | (go_at_call 16; (with_reducible refine (KG.out _).mono ?_); rintro e w2 ⟨rfl, hb1⟩; clear c0 c1 c2 c3 c4 c5 c6 c7 c8 c9 c10 c11 d0 d1; replace hP := hP.next hb1; replace hS := hS.next hb1; replace hok := hok.trans hb1; clear hb1; obtain ⟨c0, c1, c2, c3, c4, c5, c6, c7, c8, c9, c10, c11⟩ := hP.pars; have d0 := hS.c0; have d1 := hS.c1; have hPl := hP.lt; have hSl := hS.lt) | (go_at_call 18; (with_reducible refine (KC.out _).mono ?_); rintro e w3 ⟨rfl, hb1⟩; clear c0 c1 c2 c3 c4 c5 c6 c7 c8 c9 c10 c11 d0 d1; clear hPl hSl; replace hP := (hP.alloc _).next hb1; replace hS := (hS.alloc _).next hb1; replace hok := (hok.alloc _).trans hb1; have hG := (Slab.new w2 g1 g2 25 rfl).next hb1; clear hb1; obtain ⟨c0, c1, c2, c3, c4, c5, c6, c7, c8, c9, c10, c11⟩ := hP.pars; have d0 := hS.c0; have d1 := hS.c1; have hPl := hP.lt; have hSl := hS.lt; have e0 := hG.c0; have e1 := hG.c1; have hGl := hG.lt))
  go_ret
  exact ⟨rfl, hok⟩
theorem no3 (w : World) (p : Par) (a b now age g1 g2 : Int) (hg : Carry.ages p = (g1, g2)) (hm : Lim.May p) (h0 : now ≤ 1152921504606846976) (h1 : -1152921504606846976 ≤ now) (h2 : now < a) : Calls Try.prog 6 #[parV p, spanV a b, .int .i64 now, .int .i64 age] w fun e w' => e = .returned (.bool true) ∧ Ok w w' := by
  have HP := Lib.hid ((Own.new w (parCells p) 23 rfl).alloc (.cells #[.int .i64 a, .int .i64 b] 25))
  have HS := Lib.hid (Slab.new (w.alloc (.cells (parCells p) 23)) a b 25 (g := w.heap.size + 1) (by simp))
  have HK := Lib.hid (((Ok.refl w).alloc (.cells (parCells p) 23)).alloc (.cells #[.int .i64 a, .int .i64 b] 25))
  have KC := Lib.hid fun w => limCheck p w
  have KG := Lib.hid fun w => carryAges p w
  rw [hg] at KG
  simp only at KG
  clear hg
  rw [show Lim.check p = 0 from if_pos hm] at KC
  obtain ⟨b1, r1, d1, j1, -⟩ := Lim.May.bds hm
  clear hm
  go_enter Try.func6, Try.ntmps6
  go_wp2_with (first | (go_at_call 9; (with_reducible refine (law11Alive _).mono ?_); rintro e w1 ⟨rfl, hb1⟩; have hP := HP.out.next hb1; have hS := HS.out.next hb1; have hok := HK.out.trans hb1; clear hb1 HP HS HK; obtain ⟨c0, c1, c2, c3, c4, c5, c6, c7, c8, c9, c10, c11⟩ := hP.pars; have d0 := hS.c0; have d1 := hS.c1) | (go_at_call 16; (with_reducible refine (KG.out _).mono ?_); rintro e w2 ⟨rfl, hb1⟩; clear c0 c1 c2 c3 c4 c5 c6 c7 c8 c9 c10 c11 d0 d1; replace hP := hP.next hb1; replace hS := hS.next hb1; replace hok := hok.trans hb1; clear hb1; obtain ⟨c0, c1, c2, c3, c4, c5, c6, c7, c8, c9, c10, c11⟩ := hP.pars; have d0 := hS.c0; have d1 := hS.c1; have hPl := hP.lt; have hSl := hS.lt) | (go_at_call 18; (with_reducible refine (KC.out _).mono ?_); rintro e w3 ⟨rfl, hb1⟩; clear c0 c1 c2 c3 c4 c5 c6 c7 c8 c9 c10 c11 d0 d1; clear hPl hSl; replace hP := (hP.alloc _).next hb1; replace hS := (hS.alloc _).next hb1; replace hok := (hok.alloc _).trans hb1; have hG := (Slab.new w2 g1 g2 25 rfl).next hb1; clear hb1; obtain ⟨c0, c1, c2, c3, c4, c5, c6, c7, c8, c9, c10, c11⟩ := hP.pars; have d0 := hS.c0; have d1 := hS.c1; have hPl := hP.lt; have hSl := hS.lt; have e0 := hG.c0; have e1 := hG.c1; have hGl := hG.lt))
  go_ret
  exact ⟨rfl, hok⟩
theorem no4 (w : World) (p : Par) (a b now age g1 g2 : Int) (hg : Carry.ages p = (g1, g2)) (hm : Lim.May p) (h0 : now ≤ 1152921504606846976) (h1 : -1152921504606846976 ≤ now) (h2 : a ≤ now) (h3 : b < now) : Calls Try.prog 6 #[parV p, spanV a b, .int .i64 now, .int .i64 age] w fun e w' => e = .returned (.bool true) ∧ Ok w w' := by
  have HP := Lib.hid ((Own.new w (parCells p) 23 rfl).alloc (.cells #[.int .i64 a, .int .i64 b] 25))
  have HS := Lib.hid (Slab.new (w.alloc (.cells (parCells p) 23)) a b 25 (g := w.heap.size + 1) (by simp))
  have HK := Lib.hid (((Ok.refl w).alloc (.cells (parCells p) 23)).alloc (.cells #[.int .i64 a, .int .i64 b] 25))
  have KC := Lib.hid fun w => limCheck p w
  have KG := Lib.hid fun w => carryAges p w
  rw [hg] at KG
  simp only at KG
  clear hg
  rw [show Lim.check p = 0 from if_pos hm] at KC
  obtain ⟨b1, r1, d1, j1, -⟩ := Lim.May.bds hm
  clear hm
  go_enter Try.func6, Try.ntmps6
  go_wp2_with (first | (go_at_call 9; (with_reducible refine (law11Alive _).mono ?_); rintro e w1 ⟨rfl, hb1⟩; have hP := HP.out.next hb1; have hS := HS.out.next hb1; have hok := HK.out.trans hb1; clear hb1 HP HS HK; obtain ⟨c0, c1, c2, c3, c4, c5, c6, c7, c8, c9, c10, c11⟩ := hP.pars; have d0 := hS.c0; have d1 := hS.c1) | (go_at_call 16; (with_reducible refine (KG.out _).mono ?_); rintro e w2 ⟨rfl, hb1⟩; clear c0 c1 c2 c3 c4 c5 c6 c7 c8 c9 c10 c11 d0 d1; replace hP := hP.next hb1; replace hS := hS.next hb1; replace hok := hok.trans hb1; clear hb1; obtain ⟨c0, c1, c2, c3, c4, c5, c6, c7, c8, c9, c10, c11⟩ := hP.pars; have d0 := hS.c0; have d1 := hS.c1; have hPl := hP.lt; have hSl := hS.lt) | (go_at_call 18; (with_reducible refine (KC.out _).mono ?_); rintro e w3 ⟨rfl, hb1⟩; clear c0 c1 c2 c3 c4 c5 c6 c7 c8 c9 c10 c11 d0 d1; clear hPl hSl; replace hP := (hP.alloc _).next hb1; replace hS := (hS.alloc _).next hb1; replace hok := (hok.alloc _).trans hb1; have hG := (Slab.new w2 g1 g2 25 rfl).next hb1; clear hb1; obtain ⟨c0, c1, c2, c3, c4, c5, c6, c7, c8, c9, c10, c11⟩ := hP.pars; have d0 := hS.c0; have d1 := hS.c1; have hPl := hP.lt; have hSl := hS.lt; have e0 := hG.c0; have e1 := hG.c1; have hGl := hG.lt))
  go_ret
  exact ⟨rfl, hok⟩
theorem no5 (w : World) (p : Par) (a b now age g1 g2 : Int) (hg : Carry.ages p = (g1, g2)) (hm : Lim.May p) (h0 : now ≤ 1152921504606846976) (h1 : -1152921504606846976 ≤ now) (h2 : a ≤ now) (h3 : now ≤ b) (h4 : age < g1) : Calls Try.prog 6 #[parV p, spanV a b, .int .i64 now, .int .i64 age] w fun e w' => e = .returned (.bool true) ∧ Ok w w' := by
  have HP := Lib.hid ((Own.new w (parCells p) 23 rfl).alloc (.cells #[.int .i64 a, .int .i64 b] 25))
  have HS := Lib.hid (Slab.new (w.alloc (.cells (parCells p) 23)) a b 25 (g := w.heap.size + 1) (by simp))
  have HK := Lib.hid (((Ok.refl w).alloc (.cells (parCells p) 23)).alloc (.cells #[.int .i64 a, .int .i64 b] 25))
  have KC := Lib.hid fun w => limCheck p w
  have KG := Lib.hid fun w => carryAges p w
  rw [hg] at KG
  simp only at KG
  clear hg
  rw [show Lim.check p = 0 from if_pos hm] at KC
  obtain ⟨b1, r1, d1, j1, -⟩ := Lim.May.bds hm
  clear hm
  go_enter Try.func6, Try.ntmps6
  go_wp2_with (first | (go_at_call 9; (with_reducible refine (law11Alive _).mono ?_); rintro e w1 ⟨rfl, hb1⟩; have hP := HP.out.next hb1; have hS := HS.out.next hb1; have hok := HK.out.trans hb1; clear hb1 HP HS HK; obtain ⟨c0, c1, c2, c3, c4, c5, c6, c7, c8, c9, c10, c11⟩ := hP.pars; have d0 := hS.c0; have d1 := hS.c1) | (go_at_call 16; (with_reducible refine (KG.out _).mono ?_); rintro e w2 ⟨rfl, hb1⟩; clear c0 c1 c2 c3 c4 c5 c6 c7 c8 c9 c10 c11 d0 d1; replace hP := hP.next hb1; replace hS := hS.next hb1; replace hok := hok.trans hb1; clear hb1; obtain ⟨c0, c1, c2, c3, c4, c5, c6, c7, c8, c9, c10, c11⟩ := hP.pars; have d0 := hS.c0; have d1 := hS.c1; have hPl := hP.lt; have hSl := hS.lt) | (go_at_call 18; (with_reducible refine (KC.out _).mono ?_); rintro e w3 ⟨rfl, hb1⟩; clear c0 c1 c2 c3 c4 c5 c6 c7 c8 c9 c10 c11 d0 d1; clear hPl hSl; replace hP := (hP.alloc _).next hb1; replace hS := (hS.alloc _).next hb1; replace hok := (hok.alloc _).trans hb1; have hG := (Slab.new w2 g1 g2 25 rfl).next hb1; clear hb1; obtain ⟨c0, c1, c2, c3, c4, c5, c6, c7, c8, c9, c10, c11⟩ := hP.pars; have d0 := hS.c0; have d1 := hS.c1; have hPl := hP.lt; have hSl := hS.lt; have e0 := hG.c0; have e1 := hG.c1; have hGl := hG.lt))
  go_ret
  exact ⟨rfl, hok⟩
theorem no6 (w : World) (p : Par) (a b now age g1 g2 : Int) (hg : Carry.ages p = (g1, g2)) (hm : Lim.May p) (h0 : now ≤ 1152921504606846976) (h1 : -1152921504606846976 ≤ now) (h2 : a ≤ now) (h3 : now ≤ b) (h4 : g1 ≤ age) (h5 : g2 < age) : Calls Try.prog 6 #[parV p, spanV a b, .int .i64 now, .int .i64 age] w fun e w' => e = .returned (.bool true) ∧ Ok w w' := by
  have HP := Lib.hid ((Own.new w (parCells p) 23 rfl).alloc (.cells #[.int .i64 a, .int .i64 b] 25))
  have HS := Lib.hid (Slab.new (w.alloc (.cells (parCells p) 23)) a b 25 (g := w.heap.size + 1) (by simp))
  have HK := Lib.hid (((Ok.refl w).alloc (.cells (parCells p) 23)).alloc (.cells #[.int .i64 a, .int .i64 b] 25))
  have KC := Lib.hid fun w => limCheck p w
  have KG := Lib.hid fun w => carryAges p w
  rw [hg] at KG
  simp only at KG
  clear hg
  rw [show Lim.check p = 0 from if_pos hm] at KC
  obtain ⟨b1, r1, d1, j1, -⟩ := Lim.May.bds hm
  clear hm
  go_enter Try.func6, Try.ntmps6
  go_wp2_with (first | (go_at_call 9; (with_reducible refine (law11Alive _).mono ?_); rintro e w1 ⟨rfl, hb1⟩; have hP := HP.out.next hb1; have hS := HS.out.next hb1; have hok := HK.out.trans hb1; clear hb1 HP HS HK; obtain ⟨c0, c1, c2, c3, c4, c5, c6, c7, c8, c9, c10, c11⟩ := hP.pars; have d0 := hS.c0; have d1 := hS.c1) | (go_at_call 16; (with_reducible refine (KG.out _).mono ?_); rintro e w2 ⟨rfl, hb1⟩; clear c0 c1 c2 c3 c4 c5 c6 c7 c8 c9 c10 c11 d0 d1; replace hP := hP.next hb1; replace hS := hS.next hb1; replace hok := hok.trans hb1; clear hb1; obtain ⟨c0, c1, c2, c3, c4, c5, c6, c7, c8, c9, c10, c11⟩ := hP.pars; have d0 := hS.c0; have d1 := hS.c1; have hPl := hP.lt; have hSl := hS.lt) | (go_at_call 18; (with_reducible refine (KC.out _).mono ?_); rintro e w3 ⟨rfl, hb1⟩; clear c0 c1 c2 c3 c4 c5 c6 c7 c8 c9 c10 c11 d0 d1; clear hPl hSl; replace hP := (hP.alloc _).next hb1; replace hS := (hS.alloc _).next hb1; replace hok := (hok.alloc _).trans hb1; have hG := (Slab.new w2 g1 g2 25 rfl).next hb1; clear hb1; obtain ⟨c0, c1, c2, c3, c4, c5, c6, c7, c8, c9, c10, c11⟩ := hP.pars; have d0 := hS.c0; have d1 := hS.c1; have hPl := hP.lt; have hSl := hS.lt; have e0 := hG.c0; have e1 := hG.c1; have hGl := hG.lt))
  go_ret
  exact ⟨rfl, hok⟩
set_option maxHeartbeats 3200000 in
theorem yes (w : World) (p : Par) (a b now age g1 g2 : Int) (hg : Carry.ages p = (g1, g2)) (hm : Lim.May p) (h0 : now ≤ 1152921504606846976) (h1 : -1152921504606846976 ≤ now) (h2 : a ≤ now) (h3 : now ≤ b) (h4 : g1 ≤ age) (h5 : age ≤ g2) : Calls Try.prog 6 #[parV p, spanV a b, .int .i64 now, .int .i64 age] w fun e w' => e = .returned (.bool true) ∧ Ok w w' := by
  have hg' := hg
  rw [Carry.ages_in hm] at hg'
  injection hg' with q1 q2
  obtain ⟨k1, k2⟩ := Carry.brings hm (s := (a, b)) (now := now) (age := age) ⟨h1, h0⟩ h2 h3 ⟨by omega, by omega⟩
  have KA := Lib.hid fun w => carryWay p a b age w
  obtain ⟨x, y, hxy⟩ : ∃ x y, Carry.way p (a, b) age = (x, y) := ⟨_, _, rfl⟩
  rw [hxy] at k1 k2 KA
  simp only at k1 k2 KA
  clear hxy q1 q2
  have HP := Lib.hid ((Own.new w (parCells p) 23 rfl).alloc (.cells #[.int .i64 a, .int .i64 b] 25))
  have HS := Lib.hid (Slab.new (w.alloc (.cells (parCells p) 23)) a b 25 (g := w.heap.size + 1) (by simp))
  have HK := Lib.hid (((Ok.refl w).alloc (.cells (parCells p) 23)).alloc (.cells #[.int .i64 a, .int .i64 b] 25))
  have KC := Lib.hid fun w => limCheck p w
  have KG := Lib.hid fun w => carryAges p w
  rw [hg] at KG
  simp only at KG
  clear hg
  rw [show Lim.check p = 0 from if_pos hm] at KC
  obtain ⟨b1, r1, d1, j1, -⟩ := Lim.May.bds hm
  clear hm
  go_enter Try.func6, Try.ntmps6
  go_wp2_with (first | (go_at_call 9; (with_reducible refine (law11Alive _).mono ?_); rintro e w1 ⟨rfl, hb1⟩; have hP := HP.out.next hb1; have hS := HS.out.next hb1; have hok := HK.out.trans hb1; clear hb1 HP HS HK; obtain ⟨c0, c1, c2, c3, c4, c5, c6, c7, c8, c9, c10, c11⟩ := hP.pars; have d0 := hS.c0; have d1 := hS.c1) | (go_at_call 16; (with_reducible refine (KG.out _).mono ?_); rintro e w2 ⟨rfl, hb1⟩; clear c0 c1 c2 c3 c4 c5 c6 c7 c8 c9 c10 c11 d0 d1; replace hP := hP.next hb1; replace hS := hS.next hb1; replace hok := hok.trans hb1; clear hb1; obtain ⟨c0, c1, c2, c3, c4, c5, c6, c7, c8, c9, c10, c11⟩ := hP.pars; have d0 := hS.c0; have d1 := hS.c1; have hPl := hP.lt; have hSl := hS.lt) | (go_at_call 18; (with_reducible refine (KC.out _).mono ?_); rintro e w3 ⟨rfl, hb1⟩; clear c0 c1 c2 c3 c4 c5 c6 c7 c8 c9 c10 c11 d0 d1; clear hPl hSl; replace hP := (hP.alloc _).next hb1; replace hS := (hS.alloc _).next hb1; replace hok := (hok.alloc _).trans hb1; have hG := (Slab.new w2 g1 g2 25 rfl).next hb1; clear hb1; obtain ⟨c0, c1, c2, c3, c4, c5, c6, c7, c8, c9, c10, c11⟩ := hP.pars; have d0 := hS.c0; have d1 := hS.c1; have hPl := hP.lt; have hSl := hS.lt; have e0 := hG.c0; have e1 := hG.c1; have hGl := hG.lt) | (go_at_call 12; (with_reducible refine (KA.out _).mono ?_); rintro e w4 ⟨rfl, hb1⟩; clear c0 c1 c2 c3 c4 c5 c6 c7 c8 c9 c10 c11 d0 d1; clear hPl hSl e0 e1 hGl; replace hP := hP.next hb1; replace hok := hok.trans hb1; clear hb1 hS hG; obtain ⟨c0, c1, c2, c3, c4, c5, c6, c7, c8, c9, c10, c11⟩ := hP.pars; have hPl := hP.lt))
  go_ret
  exact ⟨rfl, hok.alloc _⟩
theorem walk (w : World) (p : Par) (_wp : ParWf p) (a b : Int) (_wa : (Lit.int .i64 a).wf = true) (_wb : (Lit.int .i64 b).wf = true) (now : Int) (_w0 : (Lit.int .i64 now).wf = true) (age : Int) (_w1 : (Lit.int .i64 age).wf = true) :
    Calls Try.prog 6 #[parV p, spanV a b, .int .i64 now, .int .i64 age] w fun e w' => e = .returned (.bool true) ∧ Below w.heap.size w w' := by
  show Calls Try.prog 6 #[parV p, spanV a b, .int .i64 now, .int .i64 age] w fun e w' => e = .returned (.bool true) ∧ Ok w w' 
  obtain ⟨g1, g2, hg⟩ : ∃ x y, Carry.ages p = (x, y) := ⟨_, _, rfl⟩
  by_cases hm : Lim.May p
  rotate_left
  · exact no0 w p a b now age g1 g2 hg hm
  by_cases h0 : 1152921504606846976 < now
  · exact no1 w p a b now age g1 g2 hg hm h0
  replace h0 : now ≤ 1152921504606846976 := by omega
  by_cases h1 : now < -1152921504606846976
  · exact no2 w p a b now age g1 g2 hg hm h0 h1
  replace h1 : -1152921504606846976 ≤ now := by omega
  by_cases h2 : now < a
  · exact no3 w p a b now age g1 g2 hg hm h0 h1 h2
  replace h2 : a ≤ now := by omega
  by_cases h3 : b < now
  · exact no4 w p a b now age g1 g2 hg hm h0 h1 h2 h3
  replace h3 : now ≤ b := by omega
  by_cases h4 : age < g1
  · exact no5 w p a b now age g1 g2 hg hm h0 h1 h2 h3 h4
  replace h4 : g1 ≤ age := by omega
  by_cases h5 : g2 < age
  · exact no6 w p a b now age g1 g2 hg hm h0 h1 h2 h3 h4 h5
  replace h5 : age ≤ g2 := by omega
  exact yes w p a b now age g1 g2 hg hm h0 h1 h2 h3 h4 h5
theorem own : ownKnob Try.prog.godebug = none := by kernel_rfl
theorem laidOut : laidOutB Try.prog = true := by kernel_rfl
set_option maxRecDepth 100000 in
theorem lifted (os : Os) (started : os.Started) (H : Type) (enc : TypeId × Value → H) :
    ReturnsInHanded {} Try.checked os 6 .any (Rows.carryAgesSpec.pre6 enc Try.prog Try.f6 Rows.carryAgesRow.domain false) (Rows.carryAgesSpec.post enc Try.prog Try.f6 false true false false) := by
  refine returnsInHanded_of_change (C := Try.checked) own started (by kernel_rfl) Try.func6
    (ChangeSpec.witness6 (enc := enc) (C := Try.checked) false ⟨#[], #[.agg #[.int .i64 0, .int .i64 0, .int .i64 0, .int .i64 0, .int .i64 0, .int .i64 0, .int .i64 0, .int .i64 0, .int .i64 0, .int .i64 0, .int .i64 0, .int .i64 0], .agg #[.int .i64 0, .int .i64 0], .int .i64 0, .int .i64 0], []⟩ 8 (by kernel_rfl) (by kernel_rfl) (by kernel_rfl) (by kernel_rfl)) ?_
  intro W base args ds gs before hval0 hW _ _
  have hval : ∀ (j : Nat) t v, Try.f6.params[j]? = some t → args[j]? = some v → Value.okWide Try.prog W .any base t v := hval0
  have hW' := hW
  obtain ⟨p, q, hA, hV, rfl, _, _⟩ := hW
  obtain ⟨rfl, rfl⟩ := trodVars_none hV
  replace hA : DataW.TrodAll enc Try.prog W 0 (fun _ => true) true Try.f6.params.toList args.toList ds p := hA
  rw [Try.params6] at hA hval
  obtain ⟨v0, vs0, d0, ds0, p0, q0, hargs, rfl, rfl, h0, r0⟩ := trodAll_cons hA
  obtain ⟨v1, vs1, d1, ds1, p1, q1, rfl, rfl, rfl, h1, r1⟩ := trodAll_cons r0
  obtain ⟨v2, vs2, d2, ds2, p2, q2, rfl, rfl, rfl, h2, r2⟩ := trodAll_cons r1
  obtain ⟨v3, vs3, d3, ds3, p3, q3, rfl, rfl, rfl, h3, r3⟩ := trodAll_cons r2
  obtain ⟨rfl, rfl, rfl⟩ := trodAll_nil r3
  obtain rfl : args = #[v0, v1, v2, v3] := by cases args; simp_all
  obtain ⟨p0, rfl, wp0⟩ := open_par Try.underlying23 rfl (by kernel_rfl) (by kernel_rfl) (by kernel_rfl) (hval 0 23 v0 rfl rfl) h0
  obtain ⟨s1_0, s1_1, rfl, ws1_0, ws1_1⟩ := open_pair Try.underlying25 (by kernel_rfl) (by kernel_rfl) (by kernel_rfl) (by kernel_rfl) (hval 1 25 v1 rfl rfl) h1
  obtain ⟨a2, rfl, rfl, rfl, w2⟩ := open_int Try.underlying3 (hval 2 3 v2 rfl rfl) h2
  obtain ⟨a3, rfl, rfl, rfl, w3⟩ := open_int Try.underlying3 (hval 3 3 v3 rfl rfl) h3
  refine (walk W p0 wp0 s1_0 s1_1 ws1_0 ws1_1 a2 w2 a3 w3).mono fun e W' ⟨he, hb⟩ => ?_
  subst he
  exact ⟨_, rfl, law_post hW' laidOut (by rw [Try.params6]; exact params_ok (by kernel_rfl)) rfl (by kernel_rfl) Try.underlying4 rfl rfl rfl hb⟩
theorem over : Rows.carryAgesRow.holds Try.pinned (OpenSpec.ofChange Rows.carryAgesSpec) :=
  OpenClaim.holds_of_wide 6 Try.f6 rfl rfl rfl rfl rfl rfl rfl ⟨rfl, rfl, rfl, rfl, rfl⟩ rfl rfl rfl rfl rfl (by kernel_rfl) Try.func6 (by kernel_rfl)
    (of_decide_eq_true (by kernel_rfl)) (by unfold Func.isWrapper; first | (rw [if_pos (by decide +kernel)]; kernel_rfl) | (rw [if_neg (by decide +kernel)]; exact ⟨rfl, rfl⟩))
    (fun os started H enc _ => lifted os started H enc)
theorem proved : Rows.CarryAgesSaid := over
end Go.Proofs.Yteoilfeldehldaa.carryAges
