/- LeapSeconds: for every table and every integer the law answers true: around each leap of a good table labels go on as they must. The row lists the table of the months' days (civil.lengths), tied to the program's text. No other condition. -/
import Derived.Test.YtacphjdkobodnaaDoorC18j
namespace Go.Proofs.YtacphjdkobodnaaDoor.leapSeconds
open Go.ChangeShapes Go.WideShapes Go.ChangeAt Go.RowKit
set_option linter.unusedVariables false
set_option maxRecDepth 100000
attribute [local go_sem ↓] Go.wp_at_zero Go.wp_at_succ
theorem big (w : World) (hT : Tab w) (A : Option Addr) (l : List (Int × Int)) (cap : Nat) (hA : PairsAt w A l) (hl : l.length ≤ 9223372036854775807) (hw : ∀ s ∈ l, (Lit.int .i64 s.1).wf = true ∧ (Lit.int .i64 s.2).wf = true) (i : Int) (h : 256 < l.length) : Calls Tryd.prog 7 #[.slice A l.length cap, .int .i64 i] w fun e w' => e = .returned (.bool true) ∧ Ok w w' := by
  have hok := Ok.refl w
  clear hw
  go_enter Tryd.func7, Tryd.ntmps7
  go_wp2_with (go_at_call 10; refine (law18Alive _ hT).mono ?_; rintro e w1 ⟨rfl, hb1⟩; replace hT := hT.next hb1; replace hA := hA.below hb1; replace hok := hok.trans hb1; clear hb1)
  go_ret
  exact ⟨rfl, hok⟩
set_option maxHeartbeats 1600000 in
theorem bad (w : World) (hT : Tab w) (A : Option Addr) (l : List (Int × Int)) (cap : Nat) (hA : PairsAt w A l) (hl : l.length ≤ 9223372036854775807) (hw : ∀ s ∈ l, (Lit.int .i64 s.1).wf = true ∧ (Lit.int .i64 s.2).wf = true) (i : Int) (h : l.length ≤ 256) (hg : Leap.good l = false) : Calls Tryd.prog 7 #[.slice A l.length cap, .int .i64 i] w fun e w' => e = .returned (.bool true) ∧ Ok w w' := by
  have hok := Ok.refl w
  have KR := Lib.hid fun w h => ref18Good A l cap w h hl
  clear hw
  rw [hg] at KR
  clear hg
  go_enter Tryd.func7, Tryd.ntmps7
  go_wp2_with (first | (go_at_call 10; refine (law18Alive _ hT).mono ?_; rintro e w1 ⟨rfl, hb1⟩; replace hT := hT.next hb1; replace hA := hA.below hb1; replace hok := hok.trans hb1; clear hb1) | (go_at_call 11; (with_reducible refine (KR.out _ hA).mono ?_); rintro e w2 ⟨rfl, hb1⟩; replace hT := hT.next hb1; replace hA := hA.below hb1; replace hok := hok.trans hb1; clear hb1))
  go_ret
  exact ⟨rfl, hok⟩
set_option maxHeartbeats 1600000 in
theorem low (w : World) (hT : Tab w) (A : Option Addr) (l : List (Int × Int)) (cap : Nat) (hA : PairsAt w A l) (hl : l.length ≤ 9223372036854775807) (hw : ∀ s ∈ l, (Lit.int .i64 s.1).wf = true ∧ (Lit.int .i64 s.2).wf = true) (i : Int) (h : l.length ≤ 256) (hg : Leap.good l = true) (hi : i < 0) : Calls Tryd.prog 7 #[.slice A l.length cap, .int .i64 i] w fun e w' => e = .returned (.bool true) ∧ Ok w w' := by
  have hok := Ok.refl w
  have KR := Lib.hid fun w h => ref18Good A l cap w h hl
  clear hw
  rw [hg] at KR
  clear hg
  go_enter Tryd.func7, Tryd.ntmps7
  go_wp2_with (first | (go_at_call 10; refine (law18Alive _ hT).mono ?_; rintro e w1 ⟨rfl, hb1⟩; replace hT := hT.next hb1; replace hA := hA.below hb1; replace hok := hok.trans hb1; clear hb1) | (go_at_call 11; (with_reducible refine (KR.out _ hA).mono ?_); rintro e w2 ⟨rfl, hb1⟩; replace hT := hT.next hb1; replace hA := hA.below hb1; replace hok := hok.trans hb1; clear hb1))
  go_ret
  exact ⟨rfl, hok⟩
set_option maxHeartbeats 1600000 in
theorem high (w : World) (hT : Tab w) (A : Option Addr) (l : List (Int × Int)) (cap : Nat) (hA : PairsAt w A l) (hl : l.length ≤ 9223372036854775807) (hw : ∀ s ∈ l, (Lit.int .i64 s.1).wf = true ∧ (Lit.int .i64 s.2).wf = true) (i : Int) (h : l.length ≤ 256) (hg : Leap.good l = true) (hi : 0 ≤ i) (hi2 : (l.length : Int) ≤ i) : Calls Tryd.prog 7 #[.slice A l.length cap, .int .i64 i] w fun e w' => e = .returned (.bool true) ∧ Ok w w' := by
  have hok := Ok.refl w
  have KR := Lib.hid fun w h => ref18Good A l cap w h hl
  clear hw
  rw [hg] at KR
  clear hg
  go_enter Tryd.func7, Tryd.ntmps7
  go_wp2_with (first | (go_at_call 10; refine (law18Alive _ hT).mono ?_; rintro e w1 ⟨rfl, hb1⟩; replace hT := hT.next hb1; replace hA := hA.below hb1; replace hok := hok.trans hb1; clear hb1) | (go_at_call 11; (with_reducible refine (KR.out _ hA).mono ?_); rintro e w2 ⟨rfl, hb1⟩; replace hT := hT.next hb1; replace hA := hA.below hb1; replace hok := hok.trans hb1; clear hb1))
  go_ret
  exact ⟨rfl, hok⟩
set_option maxHeartbeats 1600000 in
theorem early (w : World) (hT : Tab w) (A : Option Addr) (l : List (Int × Int)) (cap : Nat) (hA : PairsAt w A l) (hl : l.length ≤ 9223372036854775807) (hw : ∀ s ∈ l, (Lit.int .i64 s.1).wf = true ∧ (Lit.int .i64 s.2).wf = true) (k : Nat) (hk : k < l.length) (h : l.length ≤ 256) (hg : Leap.good l = true) (h5 : l[k].1 < 5) : Calls Tryd.prog 7 #[.slice A l.length cap, .int .i64 k] w fun e w' => e = .returned (.bool true) ∧ Ok w w' := by
  have hok := Ok.refl w
  have KR := Lib.hid fun w h => ref18Good A l cap w h hl
  clear hw
  rw [hg] at KR
  obtain ⟨a, ea⟩ : ∃ x, l[k].1 = x := ⟨_, rfl⟩
  obtain ⟨o, eo⟩ : ∃ x, l[k].2 = x := ⟨_, rfl⟩
  rw [ea] at h5
  obtain ⟨bb, off, hAe, hbs, c1, c2⟩ := hA k hk
  rw [ea] at c1
  have HP := Lib.hid hA
  subst hAe
  clear hg eo ea c2
  go_enter Tryd.func7, Tryd.ntmps7
  go_wp2_with (first | (go_at_call 10; refine (law18Alive _ hT).mono ?_; rintro e w1 ⟨rfl, hb1⟩; replace c1 := (hb1.cell (p := ⟨bb, off + k * 2, none⟩) hbs).trans c1; replace hbs := Nat.lt_of_lt_of_le hbs hb1.size; replace hT := hT.next hb1; replace hA := hA.below hb1; replace hok := hok.trans hb1; clear hb1) | (go_at_call 11; (with_reducible refine (KR.out _ hA).mono ?_); rintro e w3 ⟨rfl, hb1⟩; replace c1 := (hb1.cell (p := ⟨bb, off + k * 2, none⟩) hbs).trans c1; replace hbs := Nat.lt_of_lt_of_le hbs hb1.size; replace hT := hT.next hb1; replace hA := hA.below hb1; replace hok := hok.trans hb1; clear hb1))
  go_ret
  exact ⟨rfl, hok⟩
set_option maxHeartbeats 6400000 in
theorem more (w : World) (hT : Tab w) (A : Option Addr) (l : List (Int × Int)) (cap : Nat) (hA : PairsAt w A l) (hl : l.length ≤ 9223372036854775807) (hw : ∀ s ∈ l, (Lit.int .i64 s.1).wf = true ∧ (Lit.int .i64 s.2).wf = true) (k : Nat) (hk : k < l.length) (h : l.length ≤ 256) (hg : Leap.good l = true) (h5 : 5 ≤ l[k].1) (hlt : Leap.off 0 (l[k].1 - 1) l < l[k].2) : Calls Tryd.prog 7 #[.slice A l.length cap, .int .i64 k] w fun e w' => e = .returned (.bool true) ∧ Ok w w' := by
  have hok := Ok.refl w
  have KR := Lib.hid fun w h => ref18Good A l cap w h hl
  clear hw
  have hm : l[k] ∈ l := List.getElem_mem hk
  have hbd := (Leap.tab_bd (Leap.good_tab hg)).2 _ hm
  obtain ⟨⟨r1, r2, r3⟩, ⟨s1, s2, s3, s4⟩, s5, s6⟩ := Leap.lbl_leap hg hm
  obtain ⟨a, ea⟩ : ∃ x, l[k].1 = x := ⟨_, rfl⟩
  obtain ⟨o, eo⟩ : ∃ x, l[k].2 = x := ⟨_, rfl⟩
  rw [ea] at h5 hbd hlt r1 r2 r3 s1 s2 s3 s4 s5 s6
  rw [eo] at hbd hlt s5 s6
  obtain ⟨t1, t2⟩ := s5 hlt
  clear s5 s6
  have KO := Lib.hid fun w h => ref18Offset A l cap (a - 1) w h hl
  have K1 := Lib.hid fun w hT h => leapToLabel A l cap (a - 2) w hT h hl
  have K2 := Lib.hid fun w hT h => leapToLabel A l cap (a - 1) w hT h hl
  have K3 := Lib.hid fun w hT h => leapToLabel A l cap a w hT h hl
  rw [show Leap.toL l (a - 2) = (Leap.lbl l (a - 2), 0) by unfold Leap.toL; rw [if_pos hg, if_pos (by unfold Leap.cnt; omega)]] at K1
  rw [show Leap.toL l (a - 1) = (Leap.lbl l (a - 1), 0) by unfold Leap.toL; rw [if_pos hg, if_pos (by unfold Leap.cnt; omega)]] at K2
  rw [show Leap.toL l a = (Leap.lbl l a, 0) by unfold Leap.toL; rw [if_pos hg, if_pos (by unfold Leap.cnt; omega)]] at K3
  rw [hg] at KR
  clear hg
  generalize Leap.off 0 (a - 1) l = O at *
  generalize Leap.lbl l (a - 2) = LA at *
  generalize Leap.lbl l (a - 1) = LB at *
  generalize Leap.lbl l a = LC at *
  obtain ⟨ya, ma, da, ha, ia, sa⟩ := LA
  obtain ⟨yb, mb, db, hb, ib, sb⟩ := LB
  obtain ⟨yc, mc, dc, hc, ic, sc⟩ := LC
  simp only [lbV] at *
  subst r1 r2 r3 s1 s2 s3 s4 t1 t2
  clear hm
  obtain ⟨bb, off, hAe, hbs, c1, c2⟩ := hA k hk
  rw [ea] at c1
  rw [eo] at c2
  subst hAe
  clear ea eo
  go_enter Tryd.func7, Tryd.ntmps7
  go_wp2_with (first
    | (go_at_call 10; refine (law18Alive _ hT).mono ?_; rintro e w1 ⟨rfl, hb1⟩; replace c1 := (hb1.cell (p := ⟨bb, off + k * 2, none⟩) hbs).trans c1; replace c2 := (hb1.cell (p := ⟨bb, off + k * 2 + 1, none⟩) hbs).trans c2; replace hbs := Nat.lt_of_lt_of_le hbs hb1.size; replace hT := hT.next hb1; replace hA := hA.below hb1; replace hok := hok.trans hb1; clear hb1)
    | (go_at_call 11; (with_reducible refine (KR.out _ hA).mono ?_); rintro e w3 ⟨rfl, hb1⟩; replace c1 := (hb1.cell (p := ⟨bb, off + k * 2, none⟩) hbs).trans c1; replace c2 := (hb1.cell (p := ⟨bb, off + k * 2 + 1, none⟩) hbs).trans c2; replace hbs := Nat.lt_of_lt_of_le hbs hb1.size; replace hT := hT.next hb1; replace hA := hA.below hb1; replace hok := hok.trans hb1; clear hb1; obtain ⟨ge, hge⟩ : ∃ g, w3.heap.size = g := ⟨_, rfl⟩; have hE := Own.new w3 #[.int .i64 a, .int .i64 o] 40 (g := ge) hge.symm; replace hok := hok.alloc (.cells #[.int .i64 a, .int .i64 o] 40); replace hA := hA.alloc (.cells #[.int .i64 a, .int .i64 o] 40); replace hT := hT.next ((Ok.refl _).alloc (.cells #[.int .i64 a, .int .i64 o] 40)); have p0 := hE.cell 0 rfl; have p1 := hE.cell 1 rfl; have pl := hE.lt)
    | (go_at_call 18; (with_reducible refine (KO.out _ hA).mono ?_); rintro e w4 ⟨rfl, hb1⟩; replace hE := hE.next hb1; replace hT := hT.next hb1; replace hA := hA.below hb1; replace hok := hok.trans hb1; clear hb1; clear p0 p1 pl; have p0 := hE.cell 0 rfl; have p1 := hE.cell 1 rfl; have pl := hE.lt)
    | (go_at_call 12; (with_reducible refine (K1.out _ hT hA).mono ?_); rintro e w5 ⟨rfl, hb1⟩; obtain ⟨gx, hg2X⟩ : ∃ g, w5.heap.size = g := ⟨_, rfl⟩; have hX := Own.new w5 #[.int .i64 ya, .int .i64 ma, .int .i64 da, .int .i64 ha, .int .i64 59, .int .i64 59] 26 (g := gx) hg2X.symm; replace hb1 := hb1.alloc (.cells #[.int .i64 ya, .int .i64 ma, .int .i64 da, .int .i64 ha, .int .i64 59, .int .i64 59] 26); replace hE := hE.next hb1; replace hT := hT.next hb1; replace hA := hA.below hb1; replace hok := hok.trans hb1; clear hb1; clear p0 p1 pl; have p0 := hE.cell 0 rfl; have p1 := hE.cell 1 rfl; have pl := hE.lt)
    | (go_at_call 12; (with_reducible refine (K2.out _ hT hA).mono ?_); rintro e w6 ⟨rfl, hb1⟩; obtain ⟨gy, hg2Y⟩ : ∃ g, w6.heap.size = g := ⟨_, rfl⟩; have hY := Own.new w6 #[.int .i64 yb, .int .i64 mb, .int .i64 da, .int .i64 23, .int .i64 59, .int .i64 60] 26 (g := gy) hg2Y.symm; replace hb1 := hb1.alloc (.cells #[.int .i64 yb, .int .i64 mb, .int .i64 da, .int .i64 23, .int .i64 59, .int .i64 60] 26); replace hE := hE.next hb1; replace hX := hX.next hb1; replace hT := hT.next hb1; replace hA := hA.below hb1; replace hok := hok.trans hb1; clear hb1; clear p0 p1 pl; have p0 := hE.cell 0 rfl; have p1 := hE.cell 1 rfl; have pl := hE.lt)
    | (go_at_call 12; (with_reducible refine (K3.out _ hT hA).mono ?_); rintro e w7 ⟨rfl, hb1⟩; obtain ⟨gz, hg2Z⟩ : ∃ g, w7.heap.size = g := ⟨_, rfl⟩; have hZ := Own.new w7 #[.int .i64 yc, .int .i64 mc, .int .i64 dc, .int .i64 0, .int .i64 0, .int .i64 0] 26 (g := gz) hg2Z.symm; replace hb1 := hb1.alloc (.cells #[.int .i64 yc, .int .i64 mc, .int .i64 dc, .int .i64 0, .int .i64 0, .int .i64 0] 26); replace hE := hE.next hb1; replace hX := hX.next hb1; replace hY := hY.next hb1; replace hT := hT.next hb1; replace hA := hA.below hb1; replace hok := hok.trans hb1; clear hb1; clear p0 p1 pl; have p0 := hE.cell 0 rfl; have p1 := hE.cell 1 rfl; have pl := hE.lt; have x0 := hX.cell 0 rfl; have x1 := hX.cell 1 rfl; have x2 := hX.cell 2 rfl; have x3 := hX.cell 3 rfl; have x4 := hX.cell 4 rfl; have x5 := hX.cell 5 rfl; have xl := hX.lt; have y0 := hY.cell 0 rfl; have y1 := hY.cell 1 rfl; have y2 := hY.cell 2 rfl; have y3 := hY.cell 3 rfl; have y4 := hY.cell 4 rfl; have y5 := hY.cell 5 rfl; have yl := hY.lt; have z0 := hZ.cell 0 rfl; have z1 := hZ.cell 1 rfl; have z2 := hZ.cell 2 rfl; have z3 := hZ.cell 3 rfl; have z4 := hZ.cell 4 rfl; have z5 := hZ.cell 5 rfl; have zl := hZ.lt))
  go_ret
  exact ⟨rfl, hok⟩
set_option maxHeartbeats 6400000 in
theorem less (w : World) (hT : Tab w) (A : Option Addr) (l : List (Int × Int)) (cap : Nat) (hA : PairsAt w A l) (hl : l.length ≤ 9223372036854775807) (hw : ∀ s ∈ l, (Lit.int .i64 s.1).wf = true ∧ (Lit.int .i64 s.2).wf = true) (k : Nat) (hk : k < l.length) (h : l.length ≤ 256) (hg : Leap.good l = true) (h5 : 5 ≤ l[k].1) (hlt : ¬ Leap.off 0 (l[k].1 - 1) l < l[k].2) : Calls Tryd.prog 7 #[.slice A l.length cap, .int .i64 k] w fun e w' => e = .returned (.bool true) ∧ Ok w w' := by
  have hok := Ok.refl w
  have KR := Lib.hid fun w h => ref18Good A l cap w h hl
  clear hw
  have hm : l[k] ∈ l := List.getElem_mem hk
  have hbd := (Leap.tab_bd (Leap.good_tab hg)).2 _ hm
  obtain ⟨⟨r1, r2, r3⟩, ⟨s1, s2, s3, s4⟩, s5, s6⟩ := Leap.lbl_leap hg hm
  obtain ⟨a, ea⟩ : ∃ x, l[k].1 = x := ⟨_, rfl⟩
  obtain ⟨o, eo⟩ : ∃ x, l[k].2 = x := ⟨_, rfl⟩
  rw [ea] at h5 hbd hlt r1 r2 r3 s1 s2 s3 s4 s5 s6
  rw [eo] at hbd hlt s5 s6
  obtain ⟨t1, t2, s7⟩ := s6 hlt
  clear s5 s6
  have KC := Lib.hid fun w hT h => leapToCount A l cap { Leap.lbl l (a - 1) with s := 59 } w hT h hl
  rw [Leap.toC_none hg fun c _ => s7 c] at KC
  clear s7
  have KO := Lib.hid fun w h => ref18Offset A l cap (a - 1) w h hl
  have K1 := Lib.hid fun w hT h => leapToLabel A l cap (a - 2) w hT h hl
  have K2 := Lib.hid fun w hT h => leapToLabel A l cap (a - 1) w hT h hl
  have K3 := Lib.hid fun w hT h => leapToLabel A l cap a w hT h hl
  rw [show Leap.toL l (a - 2) = (Leap.lbl l (a - 2), 0) by unfold Leap.toL; rw [if_pos hg, if_pos (by unfold Leap.cnt; omega)]] at K1
  rw [show Leap.toL l (a - 1) = (Leap.lbl l (a - 1), 0) by unfold Leap.toL; rw [if_pos hg, if_pos (by unfold Leap.cnt; omega)]] at K2
  rw [show Leap.toL l a = (Leap.lbl l a, 0) by unfold Leap.toL; rw [if_pos hg, if_pos (by unfold Leap.cnt; omega)]] at K3
  rw [hg] at KR
  clear hg
  generalize Leap.off 0 (a - 1) l = O at *
  generalize Leap.lbl l (a - 2) = LA at *
  generalize Leap.lbl l (a - 1) = LB at *
  generalize Leap.lbl l a = LC at *
  obtain ⟨ya, ma, da, ha, ia, sa⟩ := LA
  obtain ⟨yb, mb, db, hb, ib, sb⟩ := LB
  obtain ⟨yc, mc, dc, hc, ic, sc⟩ := LC
  simp only [lbV] at *
  subst r1 r2 r3 s1 s2 s3 s4 t1 t2
  clear hm
  obtain ⟨bb, off, hAe, hbs, c1, c2⟩ := hA k hk
  rw [ea] at c1
  rw [eo] at c2
  subst hAe
  clear ea eo
  go_enter Tryd.func7, Tryd.ntmps7
  go_upto_region 14 with (first
    | (go_at_call 10; refine (law18Alive _ hT).mono ?_; rintro e w1 ⟨rfl, hb1⟩; replace c1 := (hb1.cell (p := ⟨bb, off + k * 2, none⟩) hbs).trans c1; replace c2 := (hb1.cell (p := ⟨bb, off + k * 2 + 1, none⟩) hbs).trans c2; replace hbs := Nat.lt_of_lt_of_le hbs hb1.size; replace hT := hT.next hb1; replace hA := hA.below hb1; replace hok := hok.trans hb1; clear hb1)
    | (go_at_call 11; (with_reducible refine (KR.out _ hA).mono ?_); rintro e w3 ⟨rfl, hb1⟩; replace c1 := (hb1.cell (p := ⟨bb, off + k * 2, none⟩) hbs).trans c1; replace c2 := (hb1.cell (p := ⟨bb, off + k * 2 + 1, none⟩) hbs).trans c2; replace hbs := Nat.lt_of_lt_of_le hbs hb1.size; replace hT := hT.next hb1; replace hA := hA.below hb1; replace hok := hok.trans hb1; clear hb1; obtain ⟨ge, hge⟩ : ∃ g, w3.heap.size = g := ⟨_, rfl⟩; have hE := Own.new w3 #[.int .i64 a, .int .i64 o] 40 (g := ge) hge.symm; replace hok := hok.alloc (.cells #[.int .i64 a, .int .i64 o] 40); replace hA := hA.alloc (.cells #[.int .i64 a, .int .i64 o] 40); replace hT := hT.next ((Ok.refl _).alloc (.cells #[.int .i64 a, .int .i64 o] 40)); have p0 := hE.cell 0 rfl; have p1 := hE.cell 1 rfl; have pl := hE.lt)
    | (go_at_call 18; (with_reducible refine (KO.out _ hA).mono ?_); rintro e w4 ⟨rfl, hb1⟩; replace hE := hE.next hb1; replace hT := hT.next hb1; replace hA := hA.below hb1; replace hok := hok.trans hb1; clear hb1; clear p0 p1 pl; have p0 := hE.cell 0 rfl; have p1 := hE.cell 1 rfl; have pl := hE.lt)
    | (go_at_call 12; (with_reducible refine (K1.out _ hT hA).mono ?_); rintro e w5 ⟨rfl, hb1⟩; obtain ⟨gx, hg2X⟩ : ∃ g, w5.heap.size = g := ⟨_, rfl⟩; have hX := Own.new w5 #[.int .i64 ya, .int .i64 ma, .int .i64 da, .int .i64 ha, .int .i64 59, .int .i64 57] 26 (g := gx) hg2X.symm; replace hb1 := hb1.alloc (.cells #[.int .i64 ya, .int .i64 ma, .int .i64 da, .int .i64 ha, .int .i64 59, .int .i64 57] 26); replace hE := hE.next hb1; replace hT := hT.next hb1; replace hA := hA.below hb1; replace hok := hok.trans hb1; clear hb1; clear p0 p1 pl; have p0 := hE.cell 0 rfl; have p1 := hE.cell 1 rfl; have pl := hE.lt)
    | (go_at_call 12; (with_reducible refine (K2.out _ hT hA).mono ?_); rintro e w6 ⟨rfl, hb1⟩; obtain ⟨gy, hg2Y⟩ : ∃ g, w6.heap.size = g := ⟨_, rfl⟩; have hY := Own.new w6 #[.int .i64 yb, .int .i64 mb, .int .i64 da, .int .i64 23, .int .i64 59, .int .i64 58] 26 (g := gy) hg2Y.symm; replace hb1 := hb1.alloc (.cells #[.int .i64 yb, .int .i64 mb, .int .i64 da, .int .i64 23, .int .i64 59, .int .i64 58] 26); replace hE := hE.next hb1; replace hX := hX.next hb1; replace hT := hT.next hb1; replace hA := hA.below hb1; replace hok := hok.trans hb1; clear hb1; clear p0 p1 pl; have p0 := hE.cell 0 rfl; have p1 := hE.cell 1 rfl; have pl := hE.lt)
    | (go_at_call 12; (with_reducible refine (K3.out _ hT hA).mono ?_); rintro e w7 ⟨rfl, hb1⟩; obtain ⟨gz, hg2Z⟩ : ∃ g, w7.heap.size = g := ⟨_, rfl⟩; have hZ := Own.new w7 #[.int .i64 yc, .int .i64 mc, .int .i64 dc, .int .i64 0, .int .i64 0, .int .i64 0] 26 (g := gz) hg2Z.symm; replace hb1 := hb1.alloc (.cells #[.int .i64 yc, .int .i64 mc, .int .i64 dc, .int .i64 0, .int .i64 0, .int .i64 0] 26); replace hE := hE.next hb1; replace hX := hX.next hb1; replace hY := hY.next hb1; replace hT := hT.next hb1; replace hA := hA.below hb1; replace hok := hok.trans hb1; clear hb1; clear p0 p1 pl; have p0 := hE.cell 0 rfl; have p1 := hE.cell 1 rfl; have pl := hE.lt; have x0 := hX.cell 0 rfl; have x1 := hX.cell 1 rfl; have x2 := hX.cell 2 rfl; have x3 := hX.cell 3 rfl; have x4 := hX.cell 4 rfl; have x5 := hX.cell 5 rfl; have xl := hX.lt; have y0 := hY.cell 0 rfl; have y1 := hY.cell 1 rfl; have y2 := hY.cell 2 rfl; have y3 := hY.cell 3 rfl; have y4 := hY.cell 4 rfl; have y5 := hY.cell 5 rfl; have yl := hY.lt; have z0 := hZ.cell 0 rfl; have z1 := hZ.cell 1 rfl; have z2 := hZ.cell 2 rfl; have z3 := hZ.cell 3 rfl; have z4 := hZ.cell 4 rfl; have z5 := hZ.cell 5 rfl; have zl := hZ.lt))
  obtain ⟨Wc, hWc⟩ : ∃ Wc, w7.alloc (.cells #[.int .i64 yc, .int .i64 mc, .int .i64 dc, .int .i64 0, .int .i64 0, .int .i64 0] 26) = Wc := ⟨_, rfl⟩
  rw [hWc] at hX hY hT hA hok x0 x1 x2 x3 x4 x5 xl y0 y1 y2 y3 y4 y5 yl ⊢
  clear hE p0 p1 pl z0 z1 z2 z3 z4 z5 zl hZ hWc
  obtain ⟨gn, hgn⟩ : ∃ g, Wc.heap.size = g := ⟨_, rfl⟩
  have hN := Own.new Wc #[.int .i64 yb, .int .i64 mb, .int .i64 da, .int .i64 23, .int .i64 59, .int .i64 58] 26 (g := gn) hgn.symm
  have hnx : gx ≠ gn := by omega
  have hny : gy ≠ gn := by omega
  have hge : w.heap.size ≤ gn := by have := hok.size; omega
  have hb1 := (Ok.refl Wc).alloc (.cells #[.int .i64 yb, .int .i64 mb, .int .i64 da, .int .i64 23, .int .i64 59, .int .i64 58] 26)
  go_upto_region 15 with fail
  have n5 := hN.cell 5 rfl
  have nf := hN.frozen 5
  have nl := hN.lt
  have hk9 := (Ok.refl Wc).alloc (.cells #[.int .i64 yb, .int .i64 mb, .int .i64 da, .int .i64 23, .int .i64 59, .int .i64 59] 26)
  have hN9 := Own.new Wc #[.int .i64 yb, .int .i64 mb, .int .i64 da, .int .i64 23, .int .i64 59, .int .i64 59] 26 (g := gn) hgn.symm
  go_upto_region 16 with fail
  clear n5 nf nl hN hb1 x0 x1 x2 x3 x4 x5 xl y0 y1 y2 y3 y4 y5 yl
  generalize Wc.alloc (.cells #[.int .i64 yb, .int .i64 mb, .int .i64 da, .int .i64 23, .int .i64 59, .int .i64 59] 26) = W9 at hk9 hN9 ⊢
  replace hX := hX.next hk9
  replace hY := hY.next hk9
  replace hT := hT.next hk9
  replace hA := hA.below hk9
  replace hok := hok.trans hk9
  have q0 := hN9.cell 0 rfl
  have q1 := hN9.cell 1 rfl
  have q2 := hN9.cell 2 rfl
  have q3 := hN9.cell 3 rfl
  have q4 := hN9.cell 4 rfl
  have q5 := hN9.cell 5 rfl
  have ql := hN9.lt
  go_wp2_with (go_at_call 15; (with_reducible refine (KC.out _ hT hA).mono ?_); rintro e w8 ⟨rfl, hb1⟩; replace hX := hX.next hb1; replace hY := hY.next hb1; replace hok := hok.trans hb1; clear hb1; have x5 := hX.cell 5 rfl; have xl := hX.lt; have y5 := hY.cell 5 rfl; have yl := hY.lt)
  go_ret
  exact ⟨rfl, hok⟩
theorem walk (w : World) (hT : Tab w) (A : Option Addr) (l : List (Int × Int)) (cap : Nat) (hA : PairsAt w A l) (hl : l.length ≤ 9223372036854775807) (hw : ∀ s ∈ l, (Lit.int .i64 s.1).wf = true ∧ (Lit.int .i64 s.2).wf = true) (i : Int) (wi : (Lit.int .i64 i).wf = true) : Calls Tryd.prog 7 #[.slice A l.length cap, .int .i64 i] w fun e w' => e = .returned (.bool true) ∧ Below w.heap.size w w' := by
  show Calls Tryd.prog 7 #[.slice A l.length cap, .int .i64 i] w fun e w' => e = .returned (.bool true) ∧ Ok w w'
  by_cases h : 256 < l.length
  · exact big w hT A l cap hA hl hw i h
  by_cases hg : Leap.good l = true
  rotate_left
  · exact bad w hT A l cap hA hl hw i (by omega) (by simpa using hg)
  by_cases h0 : i < 0
  · exact low w hT A l cap hA hl hw i (by omega) hg h0
  by_cases h1 : (l.length : Int) ≤ i
  · exact high w hT A l cap hA hl hw i (by omega) hg (by omega) h1
  obtain ⟨k, rfl⟩ : ∃ k : Nat, i = k := ⟨i.toNat, by omega⟩
  have hk : k < l.length := by omega
  by_cases h5 : l[k].1 < 5
  · exact early w hT A l cap hA hl hw k hk (by omega) hg h5
  by_cases hlt : Leap.off 0 (l[k].1 - 1) l < l[k].2
  · exact more w hT A l cap hA hl hw k hk (by omega) hg (by omega) hlt
  · exact less w hT A l cap hA hl hw k hk (by omega) hg (by omega) hlt
theorem own : ownKnob Tryd.prog.godebug = none := by kernel_rfl
theorem laidOut : laidOutB Tryd.prog = true := by kernel_rfl
theorem laid_met (os : Os) : laidMet Tryd.prog Rows.leapSecondsRow.laid ((laidWorld os).forCall (fun _ _ => 0) ⟨#[], #[.slice none 0 0, .int .i64 0], []⟩).memory :=
  laidMet_of_run' 8 (by kernel_rfl) (by kernel_rfl)
theorem reads (os : Os) {H : Type} (enc : TypeId × Value → H) : ∃ places, DataW.whole enc Tryd.prog ((laidWorld os).forCall (fun _ _ => 0) ⟨#[], #[.slice none 0 0, .int .i64 0], []⟩).memory Tryd.f7.params.toList Rows.leapSecondsSpec.vars false (#[.slice none 0 0, .int .i64 0] : Array Value).toList 8 = some ([.nil, .lit (.int .i64 0)], [], places) :=
  ⟨[], by kernel_rfl⟩
set_option maxRecDepth 100000 in
theorem lifted (os : Os) (started : os.Started) (H : Type) (enc : TypeId × Value → H) (F : Stop.Interp) :
    ReturnsInHanded {} Tryd.checked os 7 .any ((OpenSpec.ofChange Rows.leapSecondsSpec).preRow enc Tryd.prog Tryd.f7 Rows.leapSecondsRow.domain false Rows.leapSecondsRow.laid) (((OpenSpec.ofChange Rows.leapSecondsSpec).at F).post enc Tryd.prog Tryd.f7 false true false false) := by
  obtain ⟨places, hx⟩ := reads os enc
  refine returnsInHanded_of_row (C := Tryd.checked) (s := OpenSpec.ofChange Rows.leapSecondsSpec) own started (by kernel_rfl) Tryd.func7
    (witness_row_at (enc := enc) (C := Tryd.checked) false (laidWorld os) #[.slice none 0 0, .int .i64 0] rfl (by kernel_rfl) (by kernel_rfl) (by kernel_rfl)
      (OpenSpec.preRow_of_cond 8 hx (by kernel_rfl) (fun k hk => by cases hk) (by kernel_rfl) (laid_met os))) ?_
  intro W base args ds gs before hval0 hW _ _ _ hL _ _
  have hval : ∀ (j : Nat) t v, Tryd.f7.params[j]? = some t → args[j]? = some v → Value.okWide Tryd.prog W .any base t v := hval0
  have hW' := hW
  obtain ⟨p, q, hA, hV, rfl, _, _⟩ := hW
  obtain ⟨rfl, rfl⟩ := trodVars_none hV
  replace hA : DataW.TrodAll enc Tryd.prog W 0 (fun _ => true) true Tryd.f7.params.toList args.toList ds p := hA
  rw [Tryd.params7] at hA hval
  obtain ⟨v0, vs0, d0, ds0, p0, q0, hargs, rfl, rfl, h0, r0⟩ := trodAll_cons hA
  obtain ⟨v1, vs1, d1, ds1, p1, q1, rfl, rfl, rfl, h1, r1⟩ := trodAll_cons r0
  obtain ⟨rfl, rfl, rfl⟩ := trodAll_nil r1
  obtain rfl : args = #[v0, v1] := by cases args; simp_all
  obtain ⟨A0, l0, c0, rfl, hA0, hl0, hw0⟩ := open_slice_pairs Tryd.underlying22 Tryd.underlying40 (by kernel_rfl) (by kernel_rfl) (by kernel_rfl) (by kernel_rfl) (hval 0 22 v0 rfl rfl) h0
  obtain ⟨a1, rfl, rfl, rfl, w1⟩ := open_int Tryd.underlying3 (hval 1 3 v1 rfl rfl) h1
  refine (walk W (tab_of hL) A0 l0 c0 hA0 hl0 hw0 a1 w1).mono fun e W' ⟨he, hb⟩ => ?_
  subst he
  exact ⟨_, rfl, law_post hW' laidOut (by rw [Tryd.params7]; exact params_ok (by kernel_rfl)) rfl (by kernel_rfl) Tryd.underlying4 rfl rfl rfl hb⟩
theorem said : Rows.LeapSecondsSaid :=
  OpenClaim.holds_of_cond 7 Tryd.f7 rfl rfl rfl rfl rfl rfl rfl ⟨rfl, rfl, rfl, rfl, rfl⟩ rfl rfl rfl rfl rfl (by kernel_rfl) Tryd.func7 (by kernel_rfl)
    (of_decide_eq_true (by kernel_rfl)) (by unfold Func.isWrapper; first | (rw [if_pos (by decide +kernel)]; kernel_rfl) | (rw [if_neg (by decide +kernel)]; exact ⟨rfl, rfl⟩))
    (fun os started H enc _ F => by rw [OpenClaim.pre_eq_preRow]; exact lifted os started H enc F)
theorem plain (f : FuncId) (fn : Func) (hf : Tryd.pinned.checked.prog.funcNamed "clepsydra/clepsydralaw18.LeapSeconds" = some f) (hfn : Tryd.pinned.checked.prog.funcs[f]? = some fn) :
    false = Tryd.pinned.checked.prog.looks [] ∧ ∀ (j : Nat) t, fn.params[j]? = some t → Tryd.pinned.checked.prog.wantsStandIn t = false := by
  obtain rfl : f = 7 := Option.some.inj ((show Tryd.prog.funcNamed "clepsydra/clepsydralaw18.LeapSeconds" = some 7 by kernel_rfl).symm.trans hf) |>.symm
  obtain rfl : fn = Tryd.f7 := (Option.some.inj (Tryd.func7.symm.trans hfn)).symm
  refine ⟨by kernel_rfl, fun j t ht => ?_⟩
  have hall : (Tryd.f7.params.toList.all fun u => !Tryd.prog.wantsStandIn u) = true := by kernel_rfl
  have hm : t ∈ Tryd.f7.params.toList := Array.mem_toList_iff.2 (Array.mem_of_getElem? ht)
  exact (show Tryd.prog.wantsStandIn t = false by simpa using List.all_eq_true.1 hall t hm)
theorem proved : Rows.LeapSecondsCardSaid :=
  Claim7.holds_tied_plain_at .later [] _ _ _ _ said (fun _ h => by cases h) (by kernel_rfl) (fun _ h => by cases h) leapSeconds_row_tie rfl ⟨rfl, rfl⟩ (by kernel_rfl) rfl plain (by kernel_rfl)
end Go.Proofs.YtacphjdkobodnaaDoor.leapSeconds
