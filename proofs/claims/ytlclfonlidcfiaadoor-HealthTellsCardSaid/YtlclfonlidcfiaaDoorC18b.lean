/- Contracts of layer 18: label, ToLabel: the program's. -/
import Derived.Test.YtlclfonlidcfiaaDoorC18a
namespace Go.Proofs.YtlclfonlidcfiaaDoor
open Go.RowKit
set_option maxRecDepth 100000
attribute [local go_sem ↓] Go.wp_at_zero Go.wp_at_succ
/-- A label, as a value. -/
def lbV (L : Leap.Lb) : Value := .agg #[.int .i64 L.y, .int .i64 L.m, .int .i64 L.d, .int .i64 L.h, .int .i64 L.i, .int .i64 L.s]
def lb0 : Leap.Lb := ⟨0, 0, 0, 0, 0, 0⟩
theorem Own.six {w : World} {g : Nat} {z0 z1 z2 z3 z4 z5 : Value} (h : Own w g #[z0, z1, z2, z3, z4, z5]) (a b c d e f : Value) :
    Own ((((((w.setCell ⟨g, 0, none⟩ a).setCell ⟨g, 1, none⟩ b).setCell ⟨g, 2, none⟩ c).setCell ⟨g, 3, none⟩ d).setCell ⟨g, 4, none⟩ e).setCell ⟨g, 5, none⟩ f) g #[a, b, c, d, e, f] := by
  have k := (((((h.set 0 a).set 1 b).set 2 c).set 3 d).set 4 e).set 5 f
  simpa using k
theorem Ok.six {w0 w : World} {g : Nat} (h : Ok w0 w) (hg : w0.heap.size ≤ g) (a b c d e f : Value) :
    Ok w0 ((((((w.setCell ⟨g, 0, none⟩ a).setCell ⟨g, 1, none⟩ b).setCell ⟨g, 2, none⟩ c).setCell ⟨g, 3, none⟩ d).setCell ⟨g, 4, none⟩ e).setCell ⟨g, 5, none⟩ f) :=
  (((((h.setCell (p := ⟨g, 0, none⟩) hg a).setCell (p := ⟨g, 1, none⟩) hg b).setCell (p := ⟨g, 2, none⟩) hg c).setCell (p := ⟨g, 3, none⟩) hg d).setCell (p := ⟨g, 4, none⟩) hg e).setCell (p := ⟨g, 5, none⟩) hg f
/-- The hour, minute, second by division. -/
theorem Leap.tod_by {r m : Int} (h1 : 0 ≤ r) (h2 : r < 86400) (hm : 0 ≤ m ∧ m ≤ 1) (h3 : m = 1 → r = 86399) :
    r.tdiv 3600 = Leap.hour (r + m) ∧ (r.tmod 3600).tdiv 60 = Leap.minute (r + m) ∧ r.tmod 60 + m = Leap.second (r + m) ∧ 0 ≤ r.tmod 60 ∧ r.tmod 60 ≤ 59 ∧ 0 ≤ r.tmod 3600 ∧ r.tmod 3600 ≤ 3599 := by
  rw [Int.tdiv_eq_ediv_of_nonneg h1, Int.tmod_eq_emod_of_nonneg h1, Int.tmod_eq_emod_of_nonneg h1, Int.tdiv_eq_ediv_of_nonneg (by omega)]
  unfold Leap.hour Leap.minute Leap.second
  by_cases g : r + m = 86400
  · simp only [if_pos g]
    have e1 : m = 1 := by omega
    have e2 : r = 86399 := h3 e1
    subst e1; subst e2
    decide
  · have e1 : m = 0 := by
      rcases Int.lt_or_le m 1 with k | k
      · omega
      · have : m = 1 := by omega
        have := h3 this; omega
    subst e1
    rw [Int.add_zero] at g ⊢
    simp only [if_neg g]
    exact ⟨trivial, trivial, Int.add_zero _, by omega, by omega, by omega, by omega⟩
set_option maxHeartbeats 3200000 in
theorem leapLabel (A : Option Addr) (l : List (Int × Int)) (cap : Nat) (c : Int) (w : World) (hT : Tab w) (h : PairsAt w A l) (hg : Leap.good l = true) (hc : Leap.cnt c) :
    Calls Tryd.prog 41 #[.slice A l.length cap, .int .i64 c] w fun e w' => e = .returned (lbV (Leap.lbl l c)) ∧ Ok w w' := by
  have H := Leap.good_chain hg
  obtain ⟨e1, e2⟩ := H.lab_eq c
  have hmb := Leap.mint_bd c l
  have hob := Leap.good_off hg c
  obtain ⟨hc1, hc2⟩ := hc
  have hn := Leap.lab_inn hg (c := c) (by omega) (by omega)
  have hl : l.length ≤ 32 := (Leap.tab_bd (Leap.good_tab hg)).1
  have hm2 : Leap.mint c l = if Leap.mor c l = true then 1 else 0 := by unfold Leap.mint; rw [H.mor]
  have hL : Leap.lbl l c = ⟨(Leap.date (Leap.lab l c).1).1, (Leap.date (Leap.lab l c).1).2.1, (Leap.date (Leap.lab l c).1).2.2, Leap.hour (Leap.lab l c).2, Leap.minute (Leap.lab l c).2, Leap.second (Leap.lab l c).2⟩ := rfl
  have his := Leap.date_is (Leap.lab l c).1
  have KO := Lib.hid fun w h => leapOffset A l cap c w h (by omega)
  have KN := Lib.hid fun w h => leapNext A l cap c w h (by omega)
  rw [H.ofs] at KO
  rw [hL]
  clear hL
  generalize Leap.date (Leap.lab l c).1 = D at his ⊢
  obtain ⟨y, mo, d⟩ := D
  rw [e1] at his hn ⊢
  simp only at his hn ⊢
  obtain ⟨n, hnn⟩ : ∃ n, (c - Leap.mint c l - Leap.off 0 c l) / 86400 = n := ⟨_, rfl⟩
  obtain ⟨r, hr⟩ : ∃ n, (c - Leap.mint c l - Leap.off 0 c l) % 86400 = n := ⟨_, rfl⟩
  have KD := Lib.hid fun w => wideDiv (c - Leap.mint c l - Leap.off 0 c l) 86400 w
  rw [Sat.clip_in (by omega) (by omega), show Wide.one 86400 = 86400 by decide, hnn, hr] at KD
  rw [hnn] at his hn
  rw [hr] at e2 ⊢
  have KC := Lib.hid fun w hT => civilDate n y mo d w hT hn his
  have hrb : 0 ≤ r ∧ r < 86400 := by omega
  obtain ⟨t1, t2, t3, t4, t5, t6, t7⟩ := Leap.tod_by hrb.1 hrb.2 hmb e2
  have hmor : Leap.mor c l = (Leap.nxIs c l && (decide ((Leap.nx c l).1 = c + 1) && decide (Leap.off 0 c l < (Leap.nx c l).2))) := by
    unfold Leap.mor Leap.nx Leap.nxIs
    rw [H.ofs]
    by_cases g : Leap.gone c l < l.length
    · rw [decide_eq_true g, List.getElem?_eq_getElem g]; rfl
    · rw [decide_eq_false g, List.getElem?_eq_none (by omega)]; rfl
  rw [hmor] at hm2
  clear e1 e2 his hn hnn hr hmor H hg
  generalize Leap.mint c l = M at *
  generalize Leap.off 0 c l = O at *
  generalize Leap.hour (r + M) = hh at *
  generalize Leap.minute (r + M) = mi at *
  generalize Leap.second (r + M) = se at *
  generalize (Leap.nx c l).1 = a at *
  generalize (Leap.nx c l).2 = b at *
  generalize Leap.nxIs c l = q at *
  obtain ⟨v2, hv2⟩ : ∃ v, r.tmod 3600 = v := ⟨_, rfl⟩
  obtain ⟨v4, hv4⟩ : ∃ v, r.tmod 60 = v := ⟨_, rfl⟩
  rw [hv2] at t2 t6 t7
  rw [hv4] at t3 t4 t5
  have HS := Lib.hid t3
  have hhb : 0 ≤ hh ∧ hh ≤ 23 := by rw [← t1, Int.tdiv_eq_ediv_of_nonneg hrb.1]; omega
  have hmi : 0 ≤ mi ∧ mi ≤ 59 := by rw [← t2, Int.tdiv_eq_ediv_of_nonneg t6]; omega
  clear t3
  have hO := Own.new w #[.int .i64 0, .int .i64 0, .int .i64 0, .int .i64 0, .int .i64 0, .int .i64 0] 43 rfl
  have hok := (Ok.refl w).alloc (.cells #[.int .i64 0, .int .i64 0, .int .i64 0, .int .i64 0, .int .i64 0, .int .i64 0] 43)
  replace hT := hT.next hok
  replace h := h.below hok
  cases q
  · simp only [Bool.false_and, reduceCtorEq, if_false] at hm2
    
    subst hm2
    simp only [Int.sub_zero] at KD
    rw [Int.add_zero] at HS
    go_enter Tryd.func41, Tryd.ntmps41
    go_upto_region 1 with fail
    generalize hW : w.alloc (.cells #[.int .i64 0, .int .i64 0, .int .i64 0, .int .i64 0, .int .i64 0, .int .i64 0] 43) = W at *
    obtain ⟨g, hg⟩ : ∃ r, w.heap.size = r := ⟨_, rfl⟩
    have HG := Lib.hid hg
    rw [hg] at hO ⊢
    clear hg hW
    go_wp2_with (first
          | (go_at_call 66; (with_reducible refine (KO.out _ h).mono ?_); rintro e w1 ⟨rfl, hb1⟩; replace hO := hO.next hb1; replace hT := hT.next hb1; replace h := h.below hb1; replace hok := hok.trans hb1; clear hb1)
          | (go_at_call 67; (with_reducible refine (KN.out _ h).mono ?_); rintro e w2 ⟨rfl, hb1⟩; replace hb1 := hb1.alloc (.cells #[.int .i64 a, .int .i64 b] 77); have hX := Own.new w2 #[.int .i64 a, .int .i64 b] 77 rfl; replace hO := hO.next hb1; replace hT := hT.next hb1; replace hok := hok.trans hb1; clear hb1; have x0 := hX.cell 0 rfl; have x1 := hX.cell 1 rfl; have hxl := hX.lt)
          | (go_at_call 20; (with_reducible refine (KD.out _).mono ?_); rintro e w3 ⟨rfl, hb1⟩; replace hO := hO.next hb1; replace hT := hT.next hb1; replace hok := hok.trans hb1; clear hb1)
          | (go_at_call 68; (with_reducible refine (KC.out _ hT).mono ?_); rintro e w4 ⟨rfl, hb1⟩; replace hO := hO.next hb1; replace hok := hok.trans hb1; clear hb1; have o0 := hO.cell 0 rfl; have o1 := hO.cell 1 rfl; have o2 := hO.cell 2 rfl; have o3 := hO.cell 3 rfl; have o4 := hO.cell 4 rfl; have o5 := hO.cell 5 rfl; have f0 := hO.frozen 0; have f1 := hO.frozen 1; have f2 := hO.frozen 2; have f3 := hO.frozen 3; have f4 := hO.frozen 4; have f5 := hO.frozen 5; have hol := hO.lt))
    replace hok := hok.six (g := g) (by rw [← HG.out]; exact Nat.le_refl _) (.int .i64 y) (.int .i64 mo) (.int .i64 d) (.int .i64 hh) (.int .i64 mi) (.int .i64 v4)
    replace hO := hO.six (.int .i64 y) (.int .i64 mo) (.int .i64 d) (.int .i64 hh) (.int .i64 mi) (.int .i64 v4)
    clear o0 o1 o2 o3 o4 o5 f0 f1 f2 f3 f4 f5
    generalize (((((_ : World).setCell ⟨g, 1, none⟩ _).setCell ⟨g, 2, none⟩ _).setCell ⟨g, 3, none⟩ _).setCell ⟨g, 4, none⟩ _).setCell ⟨g, 5, none⟩ _ = W9 at hok hO ⊢
    have o0 := hO.cell 0 rfl
    have o1 := hO.cell 1 rfl
    have o2 := hO.cell 2 rfl
    have o3 := hO.cell 3 rfl
    have o4 := hO.cell 4 rfl
    have o5 := hO.cell 5 rfl
    exact bodyPost_ret (v := lbV ⟨y, mo, d, hh, mi, v4⟩) (by simp [results, Tryd.results41, go_sem, lbV, o0, o1, o2, o3, o4, o5]) rfl ⟨by rw [HS.out], hok⟩
  · simp only [Bool.true_and] at hm2
    by_cases g1 : a = c + 1
    · by_cases g2 : O < b
      · rw [decide_eq_true g1, decide_eq_true g2] at hm2
        simp only [Bool.and_self, if_true] at hm2
        have g3 : (a == c + 1) = true := beq_iff_eq.2 g1
        clear g1
        subst hm2
        go_enter Tryd.func41, Tryd.ntmps41
        go_upto_region 1 with fail
        generalize hW : w.alloc (.cells #[.int .i64 0, .int .i64 0, .int .i64 0, .int .i64 0, .int .i64 0, .int .i64 0] 43) = W at *
        obtain ⟨g, hg⟩ : ∃ r, w.heap.size = r := ⟨_, rfl⟩
        have HG := Lib.hid hg
        rw [hg] at hO ⊢
        clear hg hW
        go_wp2_with (first
              | (go_at_call 66; (with_reducible refine (KO.out _ h).mono ?_); rintro e w1 ⟨rfl, hb1⟩; replace hO := hO.next hb1; replace hT := hT.next hb1; replace h := h.below hb1; replace hok := hok.trans hb1; clear hb1)
              | (go_at_call 67; (with_reducible refine (KN.out _ h).mono ?_); rintro e w2 ⟨rfl, hb1⟩; replace hb1 := hb1.alloc (.cells #[.int .i64 a, .int .i64 b] 77); have hX := Own.new w2 #[.int .i64 a, .int .i64 b] 77 rfl; replace hO := hO.next hb1; replace hT := hT.next hb1; replace hok := hok.trans hb1; clear hb1; have x0 := hX.cell 0 rfl; have x1 := hX.cell 1 rfl; have hxl := hX.lt)
              | (go_at_call 20; (with_reducible refine (KD.out _).mono ?_); rintro e w3 ⟨rfl, hb1⟩; replace hO := hO.next hb1; replace hT := hT.next hb1; replace hok := hok.trans hb1; clear hb1)
              | (go_at_call 68; (with_reducible refine (KC.out _ hT).mono ?_); rintro e w4 ⟨rfl, hb1⟩; replace hO := hO.next hb1; replace hok := hok.trans hb1; clear hb1; have o0 := hO.cell 0 rfl; have o1 := hO.cell 1 rfl; have o2 := hO.cell 2 rfl; have o3 := hO.cell 3 rfl; have o4 := hO.cell 4 rfl; have o5 := hO.cell 5 rfl; have f0 := hO.frozen 0; have f1 := hO.frozen 1; have f2 := hO.frozen 2; have f3 := hO.frozen 3; have f4 := hO.frozen 4; have f5 := hO.frozen 5; have hol := hO.lt))
        replace hok := hok.six (g := g) (by rw [← HG.out]; exact Nat.le_refl _) (.int .i64 y) (.int .i64 mo) (.int .i64 d) (.int .i64 hh) (.int .i64 mi) (.int .i64 (v4 + 1))
        replace hO := hO.six (.int .i64 y) (.int .i64 mo) (.int .i64 d) (.int .i64 hh) (.int .i64 mi) (.int .i64 (v4 + 1))
        clear o0 o1 o2 o3 o4 o5 f0 f1 f2 f3 f4 f5
        generalize (((((_ : World).setCell ⟨g, 1, none⟩ _).setCell ⟨g, 2, none⟩ _).setCell ⟨g, 3, none⟩ _).setCell ⟨g, 4, none⟩ _).setCell ⟨g, 5, none⟩ _ = W9 at hok hO ⊢
        have o0 := hO.cell 0 rfl
        have o1 := hO.cell 1 rfl
        have o2 := hO.cell 2 rfl
        have o3 := hO.cell 3 rfl
        have o4 := hO.cell 4 rfl
        have o5 := hO.cell 5 rfl
        exact bodyPost_ret (v := lbV ⟨y, mo, d, hh, mi, (v4 + 1)⟩) (by simp [results, Tryd.results41, go_sem, lbV, o0, o1, o2, o3, o4, o5]) rfl ⟨by rw [HS.out], hok⟩
      · rw [decide_eq_true g1, decide_eq_false g2] at hm2
        simp only [Bool.and_false, reduceCtorEq, if_false] at hm2
        have g3 : (a == c + 1) = true := beq_iff_eq.2 g1
        clear g1
        subst hm2
        simp only [Int.sub_zero] at KD
        rw [Int.add_zero] at HS
        go_enter Tryd.func41, Tryd.ntmps41
        go_upto_region 1 with fail
        generalize hW : w.alloc (.cells #[.int .i64 0, .int .i64 0, .int .i64 0, .int .i64 0, .int .i64 0, .int .i64 0] 43) = W at *
        obtain ⟨g, hg⟩ : ∃ r, w.heap.size = r := ⟨_, rfl⟩
        have HG := Lib.hid hg
        rw [hg] at hO ⊢
        clear hg hW
        go_wp2_with (first
              | (go_at_call 66; (with_reducible refine (KO.out _ h).mono ?_); rintro e w1 ⟨rfl, hb1⟩; replace hO := hO.next hb1; replace hT := hT.next hb1; replace h := h.below hb1; replace hok := hok.trans hb1; clear hb1)
              | (go_at_call 67; (with_reducible refine (KN.out _ h).mono ?_); rintro e w2 ⟨rfl, hb1⟩; replace hb1 := hb1.alloc (.cells #[.int .i64 a, .int .i64 b] 77); have hX := Own.new w2 #[.int .i64 a, .int .i64 b] 77 rfl; replace hO := hO.next hb1; replace hT := hT.next hb1; replace hok := hok.trans hb1; clear hb1; have x0 := hX.cell 0 rfl; have x1 := hX.cell 1 rfl; have hxl := hX.lt)
              | (go_at_call 20; (with_reducible refine (KD.out _).mono ?_); rintro e w3 ⟨rfl, hb1⟩; replace hO := hO.next hb1; replace hT := hT.next hb1; replace hok := hok.trans hb1; clear hb1)
              | (go_at_call 68; (with_reducible refine (KC.out _ hT).mono ?_); rintro e w4 ⟨rfl, hb1⟩; replace hO := hO.next hb1; replace hok := hok.trans hb1; clear hb1; have o0 := hO.cell 0 rfl; have o1 := hO.cell 1 rfl; have o2 := hO.cell 2 rfl; have o3 := hO.cell 3 rfl; have o4 := hO.cell 4 rfl; have o5 := hO.cell 5 rfl; have f0 := hO.frozen 0; have f1 := hO.frozen 1; have f2 := hO.frozen 2; have f3 := hO.frozen 3; have f4 := hO.frozen 4; have f5 := hO.frozen 5; have hol := hO.lt))
        replace hok := hok.six (g := g) (by rw [← HG.out]; exact Nat.le_refl _) (.int .i64 y) (.int .i64 mo) (.int .i64 d) (.int .i64 hh) (.int .i64 mi) (.int .i64 v4)
        replace hO := hO.six (.int .i64 y) (.int .i64 mo) (.int .i64 d) (.int .i64 hh) (.int .i64 mi) (.int .i64 v4)
        clear o0 o1 o2 o3 o4 o5 f0 f1 f2 f3 f4 f5
        generalize (((((_ : World).setCell ⟨g, 1, none⟩ _).setCell ⟨g, 2, none⟩ _).setCell ⟨g, 3, none⟩ _).setCell ⟨g, 4, none⟩ _).setCell ⟨g, 5, none⟩ _ = W9 at hok hO ⊢
        have o0 := hO.cell 0 rfl
        have o1 := hO.cell 1 rfl
        have o2 := hO.cell 2 rfl
        have o3 := hO.cell 3 rfl
        have o4 := hO.cell 4 rfl
        have o5 := hO.cell 5 rfl
        exact bodyPost_ret (v := lbV ⟨y, mo, d, hh, mi, v4⟩) (by simp [results, Tryd.results41, go_sem, lbV, o0, o1, o2, o3, o4, o5]) rfl ⟨by rw [HS.out], hok⟩
    · rw [decide_eq_false g1] at hm2
      simp only [Bool.false_and, reduceCtorEq, if_false] at hm2
      have g3 : (a == c + 1) = false := by rw [beq_eq_false_iff_ne]; exact g1
      clear g1
      subst hm2
      simp only [Int.sub_zero] at KD
      rw [Int.add_zero] at HS
      go_enter Tryd.func41, Tryd.ntmps41
      go_upto_region 1 with fail
      generalize hW : w.alloc (.cells #[.int .i64 0, .int .i64 0, .int .i64 0, .int .i64 0, .int .i64 0, .int .i64 0] 43) = W at *
      obtain ⟨g, hg⟩ : ∃ r, w.heap.size = r := ⟨_, rfl⟩
      have HG := Lib.hid hg
      rw [hg] at hO ⊢
      clear hg hW
      go_wp2_with (first
            | (go_at_call 66; (with_reducible refine (KO.out _ h).mono ?_); rintro e w1 ⟨rfl, hb1⟩; replace hO := hO.next hb1; replace hT := hT.next hb1; replace h := h.below hb1; replace hok := hok.trans hb1; clear hb1)
            | (go_at_call 67; (with_reducible refine (KN.out _ h).mono ?_); rintro e w2 ⟨rfl, hb1⟩; replace hb1 := hb1.alloc (.cells #[.int .i64 a, .int .i64 b] 77); have hX := Own.new w2 #[.int .i64 a, .int .i64 b] 77 rfl; replace hO := hO.next hb1; replace hT := hT.next hb1; replace hok := hok.trans hb1; clear hb1; have x0 := hX.cell 0 rfl; have x1 := hX.cell 1 rfl; have hxl := hX.lt)
            | (go_at_call 20; (with_reducible refine (KD.out _).mono ?_); rintro e w3 ⟨rfl, hb1⟩; replace hO := hO.next hb1; replace hT := hT.next hb1; replace hok := hok.trans hb1; clear hb1)
            | (go_at_call 68; (with_reducible refine (KC.out _ hT).mono ?_); rintro e w4 ⟨rfl, hb1⟩; replace hO := hO.next hb1; replace hok := hok.trans hb1; clear hb1; have o0 := hO.cell 0 rfl; have o1 := hO.cell 1 rfl; have o2 := hO.cell 2 rfl; have o3 := hO.cell 3 rfl; have o4 := hO.cell 4 rfl; have o5 := hO.cell 5 rfl; have f0 := hO.frozen 0; have f1 := hO.frozen 1; have f2 := hO.frozen 2; have f3 := hO.frozen 3; have f4 := hO.frozen 4; have f5 := hO.frozen 5; have hol := hO.lt))
      replace hok := hok.six (g := g) (by rw [← HG.out]; exact Nat.le_refl _) (.int .i64 y) (.int .i64 mo) (.int .i64 d) (.int .i64 hh) (.int .i64 mi) (.int .i64 v4)
      replace hO := hO.six (.int .i64 y) (.int .i64 mo) (.int .i64 d) (.int .i64 hh) (.int .i64 mi) (.int .i64 v4)
      clear o0 o1 o2 o3 o4 o5 f0 f1 f2 f3 f4 f5
      generalize (((((_ : World).setCell ⟨g, 1, none⟩ _).setCell ⟨g, 2, none⟩ _).setCell ⟨g, 3, none⟩ _).setCell ⟨g, 4, none⟩ _).setCell ⟨g, 5, none⟩ _ = W9 at hok hO ⊢
      have o0 := hO.cell 0 rfl
      have o1 := hO.cell 1 rfl
      have o2 := hO.cell 2 rfl
      have o3 := hO.cell 3 rfl
      have o4 := hO.cell 4 rfl
      have o5 := hO.cell 5 rfl
      exact bodyPost_ret (v := lbV ⟨y, mo, d, hh, mi, v4⟩) (by simp [results, Tryd.results41, go_sem, lbV, o0, o1, o2, o3, o4, o5]) rfl ⟨by rw [HS.out], hok⟩
end Go.Proofs.YtlclfonlidcfiaaDoor
