/- LeapRises: for every table and any two integers the law answers true: a later count has a later label; where no leap is near, the next one is a second later, within its minute. The row lists the table of the months' days (civil.lengths), tied to the program's text. No other condition. -/
import Derived.Test.YtacphjdkobodnaaDoorC18j
namespace Go.Proofs.YtacphjdkobodnaaDoor.leapRises
open Go.ChangeShapes Go.WideShapes Go.ChangeAt Go.RowKit
set_option linter.unusedVariables false
set_option maxRecDepth 100000
attribute [local go_sem ↓] Go.wp_at_zero Go.wp_at_succ
theorem big (w : World) (hT : Tab w) (A : Option Addr) (l : List (Int × Int)) (cap : Nat) (hA : PairsAt w A l) (hl : l.length ≤ 9223372036854775807) (hw : ∀ s ∈ l, (Lit.int .i64 s.1).wf = true ∧ (Lit.int .i64 s.2).wf = true) (a b : Int) (h : 256 < l.length) : Calls Tryd.prog 6 #[.slice A l.length cap, .int .i64 a, .int .i64 b] w fun e w' => e = .returned (.bool true) ∧ Ok w w' := by
  have hok := Ok.refl w
  clear hw
  go_enter Tryd.func6, Tryd.ntmps6
  go_wp2_with (go_at_call 10; refine (law18Alive _ hT).mono ?_; rintro e w1 ⟨rfl, hb1⟩; replace hT := hT.next hb1; replace hA := hA.below hb1; replace hok := hok.trans hb1; clear hb1)
  go_ret
  exact ⟨rfl, hok⟩
theorem notLess (w : World) (hT : Tab w) (A : Option Addr) (l : List (Int × Int)) (cap : Nat) (hA : PairsAt w A l) (hl : l.length ≤ 9223372036854775807) (hw : ∀ s ∈ l, (Lit.int .i64 s.1).wf = true ∧ (Lit.int .i64 s.2).wf = true) (a b : Int) (h : l.length ≤ 256) (hab : b ≤ a) : Calls Tryd.prog 6 #[.slice A l.length cap, .int .i64 a, .int .i64 b] w fun e w' => e = .returned (.bool true) ∧ Ok w w' := by
  have hok := Ok.refl w
  clear hw
  go_enter Tryd.func6, Tryd.ntmps6
  go_wp2_with (go_at_call 10; refine (law18Alive _ hT).mono ?_; rintro e w1 ⟨rfl, hb1⟩; replace hT := hT.next hb1; replace hA := hA.below hb1; replace hok := hok.trans hb1; clear hb1)
  go_ret
  exact ⟨rfl, hok⟩
set_option maxHeartbeats 1600000 in
theorem noLabel (w : World) (hT : Tab w) (A : Option Addr) (l : List (Int × Int)) (cap : Nat) (hA : PairsAt w A l) (hl : l.length ≤ 9223372036854775807) (hw : ∀ s ∈ l, (Lit.int .i64 s.1).wf = true ∧ (Lit.int .i64 s.2).wf = true) (a b : Int) (h : l.length ≤ 256) (hab : a < b) (hb : (Leap.toL l a).2 ≠ 0 ∨ (Leap.toL l b).2 ≠ 0) : Calls Tryd.prog 6 #[.slice A l.length cap, .int .i64 a, .int .i64 b] w fun e w' => e = .returned (.bool true) ∧ Ok w w' := by
  have hok := Ok.refl w
  have K1 := Lib.hid fun w hT h => leapToLabel A l cap a w hT h hl
  have K2 := Lib.hid fun w hT h => leapToLabel A l cap b w hT h hl
  clear hw
  obtain ⟨L, e⟩ : ∃ L, Leap.toL l a = L := ⟨_, rfl⟩
  obtain ⟨M, e'⟩ : ∃ L, Leap.toL l b = L := ⟨_, rfl⟩
  rw [e, e'] at hb
  rw [e] at K1
  rw [e'] at K2
  clear e e'
  obtain ⟨⟨y, mo, d, hh, mi, se⟩, er⟩ := L
  obtain ⟨⟨y2, mo2, d2, hh2, mi2, se2⟩, er2⟩ := M
  simp only [lbV] at hb K1 K2
  by_cases h1 : er = 0
  · have h2 : er2 ≠ 0 := hb.resolve_left (fun g => g h1)
    have g3 : (er2 != 0) = true := bne_iff_ne.2 h2
    clear hb h2
    subst h1
    go_enter Tryd.func6, Tryd.ntmps6
    go_wp2_with (first | (go_at_call 10; refine (law18Alive _ hT).mono ?_; rintro e w1 ⟨rfl, hb1⟩; replace hT := hT.next hb1; replace hA := hA.below hb1; replace hok := hok.trans hb1; clear hb1) | (go_at_call 12; (with_reducible refine (K1.out _ hT hA).mono ?_); rintro e w4 ⟨rfl, hb1⟩; obtain ⟨gx, hg2X⟩ : ∃ g, w4.heap.size = g := ⟨_, rfl⟩; have hX := Own.new w4 #[.int .i64 y, .int .i64 mo, .int .i64 d, .int .i64 hh, .int .i64 mi, .int .i64 se] 26 (g := gx) hg2X.symm; replace hb1 := hb1.alloc (.cells #[.int .i64 y, .int .i64 mo, .int .i64 d, .int .i64 hh, .int .i64 mi, .int .i64 se] 26); skip; replace hT := hT.next hb1; replace hA := hA.below hb1; replace hok := hok.trans hb1; clear hb1) | (go_at_call 12; (with_reducible refine (K2.out _ hT hA).mono ?_); rintro e w5 ⟨rfl, hb1⟩; obtain ⟨gy, hg2Y⟩ : ∃ g, w5.heap.size = g := ⟨_, rfl⟩; have hY := Own.new w5 #[.int .i64 y2, .int .i64 mo2, .int .i64 d2, .int .i64 hh2, .int .i64 mi2, .int .i64 se2] 26 (g := gy) hg2Y.symm; replace hb1 := hb1.alloc (.cells #[.int .i64 y2, .int .i64 mo2, .int .i64 d2, .int .i64 hh2, .int .i64 mi2, .int .i64 se2] 26); skip; replace hT := hT.next hb1; replace hA := hA.below hb1; replace hok := hok.trans hb1; clear hb1))
    go_ret
    exact ⟨rfl, hok⟩
  · have g3 : (er != 0) = true := bne_iff_ne.2 h1
    clear hb h1
    go_enter Tryd.func6, Tryd.ntmps6
    go_wp2_with (first | (go_at_call 10; refine (law18Alive _ hT).mono ?_; rintro e w1 ⟨rfl, hb1⟩; replace hT := hT.next hb1; replace hA := hA.below hb1; replace hok := hok.trans hb1; clear hb1) | (go_at_call 12; (with_reducible refine (K1.out _ hT hA).mono ?_); rintro e w4 ⟨rfl, hb1⟩; obtain ⟨gx, hg2X⟩ : ∃ g, w4.heap.size = g := ⟨_, rfl⟩; have hX := Own.new w4 #[.int .i64 y, .int .i64 mo, .int .i64 d, .int .i64 hh, .int .i64 mi, .int .i64 se] 26 (g := gx) hg2X.symm; replace hb1 := hb1.alloc (.cells #[.int .i64 y, .int .i64 mo, .int .i64 d, .int .i64 hh, .int .i64 mi, .int .i64 se] 26); skip; replace hT := hT.next hb1; replace hA := hA.below hb1; replace hok := hok.trans hb1; clear hb1) | (go_at_call 12; (with_reducible refine (K2.out _ hT hA).mono ?_); rintro e w5 ⟨rfl, hb1⟩; obtain ⟨gy, hg2Y⟩ : ∃ g, w5.heap.size = g := ⟨_, rfl⟩; have hY := Own.new w5 #[.int .i64 y2, .int .i64 mo2, .int .i64 d2, .int .i64 hh2, .int .i64 mi2, .int .i64 se2] 26 (g := gy) hg2Y.symm; replace hb1 := hb1.alloc (.cells #[.int .i64 y2, .int .i64 mo2, .int .i64 d2, .int .i64 hh2, .int .i64 mi2, .int .i64 se2] 26); skip; replace hT := hT.next hb1; replace hA := hA.below hb1; replace hok := hok.trans hb1; clear hb1))
    go_ret
    exact ⟨rfl, hok⟩
set_option maxHeartbeats 3200000 in
theorem late (w : World) (hT : Tab w) (A : Option Addr) (l : List (Int × Int)) (cap : Nat) (hA : PairsAt w A l) (hl : l.length ≤ 9223372036854775807) (hw : ∀ s ∈ l, (Lit.int .i64 s.1).wf = true ∧ (Lit.int .i64 s.2).wf = true) (a b : Int) (h : l.length ≤ 256) (hab : a < b) (hg : Leap.good l = true) (ha : Leap.cnt a) (hb : Leap.cnt b) (hs : 58 ≤ (Leap.lbl l a).s) : Calls Tryd.prog 6 #[.slice A l.length cap, .int .i64 a, .int .i64 b] w fun e w' => e = .returned (.bool true) ∧ Ok w w' := by
  have hok := Ok.refl w
  have K1 := Lib.hid fun w hT h => leapToLabel A l cap a w hT h hl
  have K2 := Lib.hid fun w hT h => leapToLabel A l cap b w hT h hl
  have K3 := Lib.hid fun w hT h => leapToLabel A l cap (a + 1) w hT h hl
  have KB := Lib.hid fun w => ref18Before (Leap.lbl l a) (Leap.lbl l b) w
  rw [(Leap.good_chain hg).lbl_rise hab] at KB
  rw [show Leap.toL l a = (Leap.lbl l a, 0) by unfold Leap.toL; rw [if_pos hg, if_pos ha]] at K1
  rw [show Leap.toL l b = (Leap.lbl l b, 0) by unfold Leap.toL; rw [if_pos hg, if_pos hb]] at K2
  rw [show Leap.toL l (a + 1) = (Leap.lbl l (a + 1), 0) by unfold Leap.toL; rw [if_pos hg, if_pos (by unfold Leap.cnt at *; omega)]] at K3
  obtain ⟨ha1, ha2⟩ := ha
  obtain ⟨L, e⟩ : ∃ L, Leap.lbl l a = L := ⟨_, rfl⟩
  obtain ⟨M, e2⟩ : ∃ L, Leap.lbl l b = L := ⟨_, rfl⟩
  obtain ⟨O, e3⟩ : ∃ L, Leap.lbl l (a + 1) = L := ⟨_, rfl⟩
  rw [e] at K1 KB hs
  rw [e2] at K2 KB
  rw [e3] at K3
  clear hw hg hb e e2 e3
  obtain ⟨y, mo, d, hh, mi, se⟩ := L
  obtain ⟨y2, mo2, d2, hh2, mi2, se2⟩ := M
  obtain ⟨y3, mo3, d3, hh3, mi3, se3⟩ := O
  simp only [lbV] at K1 K2 K3 KB hs
  go_enter Tryd.func6, Tryd.ntmps6
  go_wp2_with (first | (go_at_call 10; refine (law18Alive _ hT).mono ?_; rintro e w1 ⟨rfl, hb1⟩; replace hT := hT.next hb1; replace hA := hA.below hb1; replace hok := hok.trans hb1; clear hb1) | (go_at_call 12; (with_reducible refine (K1.out _ hT hA).mono ?_); rintro e w4 ⟨rfl, hb1⟩; obtain ⟨gx, hg2X⟩ : ∃ g, w4.heap.size = g := ⟨_, rfl⟩; have hX := Own.new w4 #[.int .i64 y, .int .i64 mo, .int .i64 d, .int .i64 hh, .int .i64 mi, .int .i64 se] 26 (g := gx) hg2X.symm; replace hb1 := hb1.alloc (.cells #[.int .i64 y, .int .i64 mo, .int .i64 d, .int .i64 hh, .int .i64 mi, .int .i64 se] 26); skip; replace hT := hT.next hb1; replace hA := hA.below hb1; replace hok := hok.trans hb1; clear hb1) | (go_at_call 12; (with_reducible refine (K2.out _ hT hA).mono ?_); rintro e w5 ⟨rfl, hb1⟩; obtain ⟨gy, hg2Y⟩ : ∃ g, w5.heap.size = g := ⟨_, rfl⟩; have hY := Own.new w5 #[.int .i64 y2, .int .i64 mo2, .int .i64 d2, .int .i64 hh2, .int .i64 mi2, .int .i64 se2] 26 (g := gy) hg2Y.symm; replace hb1 := hb1.alloc (.cells #[.int .i64 y2, .int .i64 mo2, .int .i64 d2, .int .i64 hh2, .int .i64 mi2, .int .i64 se2] 26); replace hX := hX.next hb1; replace hT := hT.next hb1; replace hA := hA.below hb1; replace hok := hok.trans hb1; clear hb1; have x0 := hX.cell 0 rfl; have x1 := hX.cell 1 rfl; have x2 := hX.cell 2 rfl; have x3 := hX.cell 3 rfl; have x4 := hX.cell 4 rfl; have x5 := hX.cell 5 rfl; have xl := hX.lt; have q0 := hY.cell 0 rfl; have q1 := hY.cell 1 rfl; have q2 := hY.cell 2 rfl; have q3 := hY.cell 3 rfl; have q4 := hY.cell 4 rfl; have q5 := hY.cell 5 rfl; have ql := hY.lt) | (go_at_call 17; (with_reducible refine (KB.out _).mono ?_); rintro e w6 ⟨rfl, hb1⟩; replace hX := hX.next hb1; clear x0 x1 x2 x3 x4 x5 xl q0 q1 q2 q3 q4 q5 ql; replace hT := hT.next hb1; replace hA := hA.below hb1; replace hok := hok.trans hb1; clear hb1) | (go_at_call 12; (with_reducible refine (K3.out _ hT hA).mono ?_); rintro e w7 ⟨rfl, hb1⟩; obtain ⟨gz, hg2Z⟩ : ∃ g, w7.heap.size = g := ⟨_, rfl⟩; have hZ := Own.new w7 #[.int .i64 y3, .int .i64 mo3, .int .i64 d3, .int .i64 hh3, .int .i64 mi3, .int .i64 se3] 26 (g := gz) hg2Z.symm; replace hb1 := hb1.alloc (.cells #[.int .i64 y3, .int .i64 mo3, .int .i64 d3, .int .i64 hh3, .int .i64 mi3, .int .i64 se3] 26); replace hX := hX.next hb1; replace hT := hT.next hb1; replace hA := hA.below hb1; replace hok := hok.trans hb1; clear hb1; have x0 := hX.cell 0 rfl; have x1 := hX.cell 1 rfl; have x2 := hX.cell 2 rfl; have x3 := hX.cell 3 rfl; have x4 := hX.cell 4 rfl; have x5 := hX.cell 5 rfl; have xl := hX.lt; have z0 := hZ.cell 0 rfl; have z1 := hZ.cell 1 rfl; have z2 := hZ.cell 2 rfl; have z3 := hZ.cell 3 rfl; have z4 := hZ.cell 4 rfl; have z5 := hZ.cell 5 rfl; have zl := hZ.lt))
  go_ret
  exact ⟨rfl, hok⟩
set_option maxHeartbeats 3200000 in
theorem soon (w : World) (hT : Tab w) (A : Option Addr) (l : List (Int × Int)) (cap : Nat) (hA : PairsAt w A l) (hl : l.length ≤ 9223372036854775807) (hw : ∀ s ∈ l, (Lit.int .i64 s.1).wf = true ∧ (Lit.int .i64 s.2).wf = true) (a b : Int) (h : l.length ≤ 256) (hab : a < b) (hg : Leap.good l = true) (ha : Leap.cnt a) (hb : Leap.cnt b) (hs : (Leap.lbl l a).s < 58) : Calls Tryd.prog 6 #[.slice A l.length cap, .int .i64 a, .int .i64 b] w fun e w' => e = .returned (.bool true) ∧ Ok w w' := by
  have hok := Ok.refl w
  have K1 := Lib.hid fun w hT h => leapToLabel A l cap a w hT h hl
  have K2 := Lib.hid fun w hT h => leapToLabel A l cap b w hT h hl
  have K3 := Lib.hid fun w hT h => leapToLabel A l cap (a + 1) w hT h hl
  have KB := Lib.hid fun w => ref18Before (Leap.lbl l a) (Leap.lbl l b) w
  rw [(Leap.good_chain hg).lbl_rise hab] at KB
  rw [show Leap.toL l a = (Leap.lbl l a, 0) by unfold Leap.toL; rw [if_pos hg, if_pos ha]] at K1
  rw [show Leap.toL l b = (Leap.lbl l b, 0) by unfold Leap.toL; rw [if_pos hg, if_pos hb]] at K2
  rw [show Leap.toL l (a + 1) = (Leap.lbl l (a + 1), 0) by unfold Leap.toL; rw [if_pos hg, if_pos (by unfold Leap.cnt at *; omega)]] at K3
  have hn := Leap.lbl_next hg hs
  have hbd := Leap.lbl_bd hg a
  obtain ⟨ha1, ha2⟩ := ha
  obtain ⟨L, e⟩ : ∃ L, Leap.lbl l a = L := ⟨_, rfl⟩
  obtain ⟨M, e2⟩ : ∃ L, Leap.lbl l b = L := ⟨_, rfl⟩
  obtain ⟨O, e3⟩ : ∃ L, Leap.lbl l (a + 1) = L := ⟨_, rfl⟩
  rw [e] at K1 KB hs
  rw [e2] at K2 KB
  rw [e3] at K3
  rw [e, e3] at hn
  rw [e] at hbd
  clear hw hg hb e e2 e3
  obtain ⟨y, mo, d, hh, mi, se⟩ := L
  obtain ⟨y2, mo2, d2, hh2, mi2, se2⟩ := M
  obtain ⟨y3, mo3, d3, hh3, mi3, se3⟩ := O
  simp only [lbV] at K1 K2 K3 KB hs
  simp only at hn hbd
  obtain ⟨n1, n2, n3⟩ := hn
  obtain ⟨-, -, hbd⟩ := hbd
  replace n2 := n2.symm
  replace n3 := n3.symm
  subst n1
  subst n2
  subst n3
  go_enter Tryd.func6, Tryd.ntmps6
  go_wp2_with (first | (go_at_call 10; refine (law18Alive _ hT).mono ?_; rintro e w1 ⟨rfl, hb1⟩; replace hT := hT.next hb1; replace hA := hA.below hb1; replace hok := hok.trans hb1; clear hb1) | (go_at_call 12; (with_reducible refine (K1.out _ hT hA).mono ?_); rintro e w4 ⟨rfl, hb1⟩; obtain ⟨gx, hg2X⟩ : ∃ g, w4.heap.size = g := ⟨_, rfl⟩; have hX := Own.new w4 #[.int .i64 y, .int .i64 mo, .int .i64 d, .int .i64 hh, .int .i64 mi, .int .i64 se] 26 (g := gx) hg2X.symm; replace hb1 := hb1.alloc (.cells #[.int .i64 y, .int .i64 mo, .int .i64 d, .int .i64 hh, .int .i64 mi, .int .i64 se] 26); skip; replace hT := hT.next hb1; replace hA := hA.below hb1; replace hok := hok.trans hb1; clear hb1) | (go_at_call 12; (with_reducible refine (K2.out _ hT hA).mono ?_); rintro e w5 ⟨rfl, hb1⟩; obtain ⟨gy, hg2Y⟩ : ∃ g, w5.heap.size = g := ⟨_, rfl⟩; have hY := Own.new w5 #[.int .i64 y2, .int .i64 mo2, .int .i64 d2, .int .i64 hh2, .int .i64 mi2, .int .i64 se2] 26 (g := gy) hg2Y.symm; replace hb1 := hb1.alloc (.cells #[.int .i64 y2, .int .i64 mo2, .int .i64 d2, .int .i64 hh2, .int .i64 mi2, .int .i64 se2] 26); replace hX := hX.next hb1; replace hT := hT.next hb1; replace hA := hA.below hb1; replace hok := hok.trans hb1; clear hb1; have x0 := hX.cell 0 rfl; have x1 := hX.cell 1 rfl; have x2 := hX.cell 2 rfl; have x3 := hX.cell 3 rfl; have x4 := hX.cell 4 rfl; have x5 := hX.cell 5 rfl; have xl := hX.lt; have q0 := hY.cell 0 rfl; have q1 := hY.cell 1 rfl; have q2 := hY.cell 2 rfl; have q3 := hY.cell 3 rfl; have q4 := hY.cell 4 rfl; have q5 := hY.cell 5 rfl; have ql := hY.lt) | (go_at_call 17; (with_reducible refine (KB.out _).mono ?_); rintro e w6 ⟨rfl, hb1⟩; replace hX := hX.next hb1; clear x0 x1 x2 x3 x4 x5 xl q0 q1 q2 q3 q4 q5 ql; replace hT := hT.next hb1; replace hA := hA.below hb1; replace hok := hok.trans hb1; clear hb1) | (go_at_call 12; (with_reducible refine (K3.out _ hT hA).mono ?_); rintro e w7 ⟨rfl, hb1⟩; obtain ⟨gz, hg2Z⟩ : ∃ g, w7.heap.size = g := ⟨_, rfl⟩; have hZ := Own.new w7 #[.int .i64 y3, .int .i64 mo3, .int .i64 d, .int .i64 hh3, .int .i64 mi, .int .i64 (se + 1)] 26 (g := gz) hg2Z.symm; replace hb1 := hb1.alloc (.cells #[.int .i64 y3, .int .i64 mo3, .int .i64 d, .int .i64 hh3, .int .i64 mi, .int .i64 (se + 1)] 26); replace hX := hX.next hb1; replace hT := hT.next hb1; replace hA := hA.below hb1; replace hok := hok.trans hb1; clear hb1; have x0 := hX.cell 0 rfl; have x1 := hX.cell 1 rfl; have x2 := hX.cell 2 rfl; have x3 := hX.cell 3 rfl; have x4 := hX.cell 4 rfl; have x5 := hX.cell 5 rfl; have xl := hX.lt; have z0 := hZ.cell 0 rfl; have z1 := hZ.cell 1 rfl; have z2 := hZ.cell 2 rfl; have z3 := hZ.cell 3 rfl; have z4 := hZ.cell 4 rfl; have z5 := hZ.cell 5 rfl; have zl := hZ.lt))
  go_ret
  exact ⟨by simp, hok⟩
theorem walk (w : World) (hT : Tab w) (A : Option Addr) (l : List (Int × Int)) (cap : Nat) (hA : PairsAt w A l) (hl : l.length ≤ 9223372036854775807) (hw : ∀ s ∈ l, (Lit.int .i64 s.1).wf = true ∧ (Lit.int .i64 s.2).wf = true) (a : Int) (wa : (Lit.int .i64 a).wf = true) (b : Int) (wb : (Lit.int .i64 b).wf = true) : Calls Tryd.prog 6 #[.slice A l.length cap, .int .i64 a, .int .i64 b] w fun e w' => e = .returned (.bool true) ∧ Below w.heap.size w w' := by
  show Calls Tryd.prog 6 #[.slice A l.length cap, .int .i64 a, .int .i64 b] w fun e w' => e = .returned (.bool true) ∧ Ok w w'
  by_cases h : 256 < l.length
  · exact big w hT A l cap hA hl hw a b h
  by_cases hab : b ≤ a
  · exact notLess w hT A l cap hA hl hw a b (by omega) hab
  by_cases hg : Leap.good l = true
  · by_cases ha : Leap.cnt a
    · by_cases hb : Leap.cnt b
      · by_cases hs : (Leap.lbl l a).s < 58
        · exact soon w hT A l cap hA hl hw a b (by omega) (by omega) hg ha hb hs
        · exact late w hT A l cap hA hl hw a b (by omega) (by omega) hg ha hb (by omega)
      · exact noLabel w hT A l cap hA hl hw a b (by omega) (by omega) (.inr (by unfold Leap.toL; rw [if_pos hg, if_neg hb]; show (30 : Int) ≠ 0; decide))
    · exact noLabel w hT A l cap hA hl hw a b (by omega) (by omega) (.inl (by unfold Leap.toL; rw [if_pos hg, if_neg ha]; show (30 : Int) ≠ 0; decide))
  · exact noLabel w hT A l cap hA hl hw a b (by omega) (by omega) (.inl (by unfold Leap.toL; rw [if_neg hg]; show (31 : Int) ≠ 0; decide))
theorem own : ownKnob Tryd.prog.godebug = none := by kernel_rfl
theorem laidOut : laidOutB Tryd.prog = true := by kernel_rfl
theorem laid_met (os : Os) : laidMet Tryd.prog Rows.leapRisesRow.laid ((laidWorld os).forCall (fun _ _ => 0) ⟨#[], #[.slice none 0 0, .int .i64 0, .int .i64 0], []⟩).memory :=
  laidMet_of_run' 8 (by kernel_rfl) (by kernel_rfl)
theorem reads (os : Os) {H : Type} (enc : TypeId × Value → H) : ∃ places, DataW.whole enc Tryd.prog ((laidWorld os).forCall (fun _ _ => 0) ⟨#[], #[.slice none 0 0, .int .i64 0, .int .i64 0], []⟩).memory Tryd.f6.params.toList Rows.leapRisesSpec.vars false (#[.slice none 0 0, .int .i64 0, .int .i64 0] : Array Value).toList 8 = some ([.nil, .lit (.int .i64 0), .lit (.int .i64 0)], [], places) :=
  ⟨[], by kernel_rfl⟩
set_option maxRecDepth 100000 in
theorem lifted (os : Os) (started : os.Started) (H : Type) (enc : TypeId × Value → H) (F : Stop.Interp) :
    ReturnsInHanded {} Tryd.checked os 6 .any ((OpenSpec.ofChange Rows.leapRisesSpec).preRow enc Tryd.prog Tryd.f6 Rows.leapRisesRow.domain false Rows.leapRisesRow.laid) (((OpenSpec.ofChange Rows.leapRisesSpec).at F).post enc Tryd.prog Tryd.f6 false true false false) := by
  obtain ⟨places, hx⟩ := reads os enc
  refine returnsInHanded_of_row (C := Tryd.checked) (s := OpenSpec.ofChange Rows.leapRisesSpec) own started (by kernel_rfl) Tryd.func6
    (witness_row_at (enc := enc) (C := Tryd.checked) false (laidWorld os) #[.slice none 0 0, .int .i64 0, .int .i64 0] rfl (by kernel_rfl) (by kernel_rfl) (by kernel_rfl)
      (OpenSpec.preRow_of_cond 8 hx (by kernel_rfl) (fun k hk => by cases hk) (by kernel_rfl) (laid_met os))) ?_
  intro W base args ds gs before hval0 hW _ _ _ hL _ _
  have hval : ∀ (j : Nat) t v, Tryd.f6.params[j]? = some t → args[j]? = some v → Value.okWide Tryd.prog W .any base t v := hval0
  have hW' := hW
  obtain ⟨p, q, hA, hV, rfl, _, _⟩ := hW
  obtain ⟨rfl, rfl⟩ := trodVars_none hV
  replace hA : DataW.TrodAll enc Tryd.prog W 0 (fun _ => true) true Tryd.f6.params.toList args.toList ds p := hA
  rw [Tryd.params6] at hA hval
  obtain ⟨v0, vs0, d0, ds0, p0, q0, hargs, rfl, rfl, h0, r0⟩ := trodAll_cons hA
  obtain ⟨v1, vs1, d1, ds1, p1, q1, rfl, rfl, rfl, h1, r1⟩ := trodAll_cons r0
  obtain ⟨v2, vs2, d2, ds2, p2, q2, rfl, rfl, rfl, h2, r2⟩ := trodAll_cons r1
  obtain ⟨rfl, rfl, rfl⟩ := trodAll_nil r2
  obtain rfl : args = #[v0, v1, v2] := by cases args; simp_all
  obtain ⟨A0, l0, c0, rfl, hA0, hl0, hw0⟩ := open_slice_pairs Tryd.underlying22 Tryd.underlying40 (by kernel_rfl) (by kernel_rfl) (by kernel_rfl) (by kernel_rfl) (hval 0 22 v0 rfl rfl) h0
  obtain ⟨a1, rfl, rfl, rfl, w1⟩ := open_int Tryd.underlying3 (hval 1 3 v1 rfl rfl) h1
  obtain ⟨a2, rfl, rfl, rfl, w2⟩ := open_int Tryd.underlying3 (hval 2 3 v2 rfl rfl) h2
  refine (walk W (tab_of hL) A0 l0 c0 hA0 hl0 hw0 a1 w1 a2 w2).mono fun e W' ⟨he, hb⟩ => ?_
  subst he
  exact ⟨_, rfl, law_post hW' laidOut (by rw [Tryd.params6]; exact params_ok (by kernel_rfl)) rfl (by kernel_rfl) Tryd.underlying4 rfl rfl rfl hb⟩
theorem said : Rows.LeapRisesSaid :=
  OpenClaim.holds_of_cond 6 Tryd.f6 rfl rfl rfl rfl rfl rfl rfl ⟨rfl, rfl, rfl, rfl, rfl⟩ rfl rfl rfl rfl rfl (by kernel_rfl) Tryd.func6 (by kernel_rfl)
    (of_decide_eq_true (by kernel_rfl)) (by unfold Func.isWrapper; first | (rw [if_pos (by decide +kernel)]; kernel_rfl) | (rw [if_neg (by decide +kernel)]; exact ⟨rfl, rfl⟩))
    (fun os started H enc _ F => by rw [OpenClaim.pre_eq_preRow]; exact lifted os started H enc F)
theorem plain (f : FuncId) (fn : Func) (hf : Tryd.pinned.checked.prog.funcNamed "clepsydra/clepsydralaw18.LeapRises" = some f) (hfn : Tryd.pinned.checked.prog.funcs[f]? = some fn) :
    false = Tryd.pinned.checked.prog.looks [] ∧ ∀ (j : Nat) t, fn.params[j]? = some t → Tryd.pinned.checked.prog.wantsStandIn t = false := by
  obtain rfl : f = 6 := Option.some.inj ((show Tryd.prog.funcNamed "clepsydra/clepsydralaw18.LeapRises" = some 6 by kernel_rfl).symm.trans hf) |>.symm
  obtain rfl : fn = Tryd.f6 := (Option.some.inj (Tryd.func6.symm.trans hfn)).symm
  refine ⟨by kernel_rfl, fun j t ht => ?_⟩
  have hall : (Tryd.f6.params.toList.all fun u => !Tryd.prog.wantsStandIn u) = true := by kernel_rfl
  have hm : t ∈ Tryd.f6.params.toList := Array.mem_toList_iff.2 (Array.mem_of_getElem? ht)
  exact (show Tryd.prog.wantsStandIn t = false by simpa using List.all_eq_true.1 hall t hm)
theorem proved : Rows.LeapRisesCardSaid :=
  Claim7.holds_tied_plain_at .later [] _ _ _ _ said (fun _ h => by cases h) (by kernel_rfl) (fun _ h => by cases h) leapRises_row_tie rfl ⟨rfl, rfl⟩ (by kernel_rfl) rfl plain (by kernel_rfl)
end Go.Proofs.YtacphjdkobodnaaDoor.leapRises
