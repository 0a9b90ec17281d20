/- Contracts of layer 18's document functions: labels that are equal, Label, Before. -/
import Derived.Test.YtlclfonlidcfiaaDoorC18b
import Derived.Test.YtlclfonlidcfiaaDoorC18d
import Derived.Test.YtlclfonlidcfiaaDoorCQ
import Derived.Test.YtlclfonlidcfiaaDoorC02c
import Derived.Laws.StructEq
namespace Go.Proofs.YtlclfonlidcfiaaDoor
open Go.RowKit
set_option maxRecDepth 100000
attribute [local go_sem ↓] Go.wp_at_zero Go.wp_at_succ
/-- Labels that are equal, as the model asks. -/
theorem eqLabel (L K : Leap.Lb) (w : World) : (Op.equalIn 10000 43 (lbV L) (lbV K)).run Tryd.prog w = .ok (decide (L = K)) w := by
  have u3 := Tryd.underlying3
  have ag := Tryd.isAgg3
  have z3 := Tryd.sizeOf3
  have hS : Tryd.prog.underlying 43 = some (.struct (Tryd.prog.fieldsOf 43)) := by kernel_rfl
  have hp : Tryd.prog.stoodInHeld 43 = false := by kernel_rfl
  obtain ⟨a0, a1, a2, a3, a4, a5⟩ := L
  obtain ⟨b0, b1, b2, b3, b4, b5⟩ := K
  have e : decide ((⟨a0, a1, a2, a3, a4, a5⟩ : Leap.Lb) = ⟨b0, b1, b2, b3, b4, b5⟩) = (a0 == b0 && (a1 == b1 && (a2 == b2 && (a3 == b3 && (a4 == b4 && a5 == b5))))) := by
    rw [Bool.eq_iff_iff]; simp [Leap.Lb.ext_iff']
  rw [e]
  clear e
  unfold lbV
  rw [show (10000 : Nat) = 9999 + 1 from rfl, run_equalIn_struct w 9999 43 _ _ hS hp]
  simp only [Program.fieldsOf, Tryd.underlying43]
  go_simp
  by_cases h0 : a0 = b0
  · by_cases h1 : a1 = b1
    · by_cases h2 : a2 = b2
      · by_cases h3 : a3 = b3
        · by_cases h4 : a4 = b4
          · by_cases h5 : a5 = b5
            · simp [h0, h1, h2, h3, h4, h5]
            · simp [h0, h1, h2, h3, h4, h5]
          · simp [h0, h1, h2, h3, h4]
        · simp [h0, h1, h2, h3]
      · simp [h0, h1, h2]
    · simp [h0, h1]
  · simp [h0]
set_option maxHeartbeats 3200000 in
theorem ref18LabelPlain (A : Option Addr) (l : List (Int × Int)) (cap : Nat) (c : Int) (w : World) (h : PairsAt w A l) (hg : Leap.good l = true) (hc1 : -4398046511105 ≤ c) (hc2 : c ≤ 4398046511104) (hm : Leap.more l c = false) :
    Calls Tryd.prog 24 #[.slice A l.length cap, .int .i64 c] w fun e w' => e = .returned (lbV (Leap.lbl l c)) ∧ Ok w w' := by
  obtain ⟨hl, hbd⟩ := Leap.tab_bd (Leap.good_tab hg)
  have hob := Leap.good_off hg c
  have hn := Leap.lab_inn hg (c := c) (by omega) (by omega)
  have e1 := Leap.lab_plain hm
  have KM := Lib.hid fun w h => ref18More A l cap c w h hl hbd
  have KO := Lib.hid fun w h => ref18Offset A l cap c w h (by omega)
  rw [hm] at KM
  have hL : Leap.lbl l c = ⟨(Leap.date (Leap.lab l c).1).1, (Leap.date (Leap.lab l c).1).2.1, (Leap.date (Leap.lab l c).1).2.2, Leap.hour (Leap.lab l c).2, Leap.minute (Leap.lab l c).2, Leap.second (Leap.lab l c).2⟩ := rfl
  have his := Leap.date_is (Leap.lab l c).1
  rw [hL]
  clear hL
  generalize Leap.date (Leap.lab l c).1 = D at his ⊢
  obtain ⟨y, mo, d⟩ := D
  rw [e1] at his hn ⊢
  simp only at his hn ⊢
  obtain ⟨n, hnn⟩ : ∃ n, (c - Leap.off 0 c l) / 86400 = n := ⟨_, rfl⟩
  obtain ⟨r, hr⟩ : ∃ n, (c - Leap.off 0 c l) % 86400 = n := ⟨_, rfl⟩
  have KD := Lib.hid fun w => refDiv (c - Leap.off 0 c l) 86400 w
  rw [Sat.clip_in (by omega) (by omega), show Wide.one 86400 = 86400 by decide, hnn, hr] at KD
  rw [hnn] at his hn
  rw [hr]
  have KC := Lib.hid fun w => ref17Date n y mo d w hn his
  have hrb : 0 ≤ r ∧ r < 86400 := by omega
  obtain ⟨t1, t2, t3, t4, t5, t6, t7⟩ := Leap.tod_by (m := 0) hrb.1 hrb.2 (by omega) (by omega)
  simp only [Int.add_zero] at t1 t2 t3
  clear e1 his hn hnn hr hg hbd hm
  generalize Leap.off 0 c l = O at *
  generalize Leap.hour r = hh at *
  generalize Leap.minute r = mi at *
  generalize Leap.second r = se at *
  obtain ⟨v2, hv2⟩ : ∃ v, r.tmod 3600 = v := ⟨_, rfl⟩
  obtain ⟨v4, hv4⟩ : ∃ v, r.tmod 60 = v := ⟨_, rfl⟩
  rw [hv2] at t2 t6 t7
  rw [hv4] at t3 t4 t5
  have HS := Lib.hid t3
  have hhb : 0 ≤ hh ∧ hh ≤ 23 := by rw [← t1, Int.tdiv_eq_ediv_of_nonneg hrb.1]; omega
  have hmi : 0 ≤ mi ∧ mi ≤ 59 := by rw [← t2, Int.tdiv_eq_ediv_of_nonneg t6]; omega
  clear t3
  have hO := Own.new w #[.int .i64 0, .int .i64 0, .int .i64 0, .int .i64 0, .int .i64 0, .int .i64 0] 43 rfl
  have hok := (Ok.refl w).alloc (.cells #[.int .i64 0, .int .i64 0, .int .i64 0, .int .i64 0, .int .i64 0, .int .i64 0] 43)
  replace h := h.below hok
  go_enter Tryd.func24, Tryd.ntmps24
  go_upto_region 1 with fail
  generalize hW : w.alloc (.cells #[.int .i64 0, .int .i64 0, .int .i64 0, .int .i64 0, .int .i64 0, .int .i64 0] 43) = W at *
  obtain ⟨g, hg⟩ : ∃ r, w.heap.size = r := ⟨_, rfl⟩
  have HG := Lib.hid hg
  rw [hg] at hO ⊢
  clear hg hW
  go_wp2_with (first
    | (go_at_call 45; (with_reducible refine (KM.out _ h).mono ?_); rintro e w1 ⟨rfl, hb1⟩; replace hO := hO.next hb1; replace h := h.below hb1; replace hok := hok.trans hb1; clear hb1)
    | (go_at_call 46; (with_reducible refine (KO.out _ h).mono ?_); rintro e w1 ⟨rfl, hb1⟩; replace hO := hO.next hb1; replace h := h.below hb1; replace hok := hok.trans hb1; clear hb1)
    | (go_at_call 22; (with_reducible refine (KD.out _).mono ?_); rintro e w3 ⟨rfl, rfl⟩)
    | (go_at_call 47; (with_reducible refine (KC.out _).mono ?_); rintro e w4 ⟨rfl, hb1⟩; replace hO := hO.next hb1; replace hok := hok.trans hb1; clear hb1; have o0 := hO.cell 0 rfl; have o1 := hO.cell 1 rfl; have o2 := hO.cell 2 rfl; have o3 := hO.cell 3 rfl; have o4 := hO.cell 4 rfl; have o5 := hO.cell 5 rfl; have f0 := hO.frozen 0; have f1 := hO.frozen 1; have f2 := hO.frozen 2; have f3 := hO.frozen 3; have f4 := hO.frozen 4; have f5 := hO.frozen 5; have hol := hO.lt))
  replace hok := hok.six (g := g) (by rw [← HG.out]; exact Nat.le_refl _) (.int .i64 y) (.int .i64 mo) (.int .i64 d) (.int .i64 hh) (.int .i64 mi) (.int .i64 v4)
  replace hO := hO.six (.int .i64 y) (.int .i64 mo) (.int .i64 d) (.int .i64 hh) (.int .i64 mi) (.int .i64 v4)
  clear o0 o1 o2 o3 o4 o5 f0 f1 f2 f3 f4 f5
  generalize (((((_ : World).setCell ⟨g, 1, none⟩ _).setCell ⟨g, 2, none⟩ _).setCell ⟨g, 3, none⟩ _).setCell ⟨g, 4, none⟩ _).setCell ⟨g, 5, none⟩ _ = W9 at hok hO ⊢
  have o0 := hO.cell 0 rfl
  have o1 := hO.cell 1 rfl
  have o2 := hO.cell 2 rfl
  have o3 := hO.cell 3 rfl
  have o4 := hO.cell 4 rfl
  have o5 := hO.cell 5 rfl
  exact bodyPost_ret (v := lbV ⟨y, mo, d, hh, mi, v4⟩) (by simp [results, Tryd.results24, go_sem, lbV, o0, o1, o2, o3, o4, o5]) rfl ⟨by rw [HS.out], hok⟩
set_option maxHeartbeats 3200000 in
theorem ref18Label (A : Option Addr) (l : List (Int × Int)) (cap : Nat) (c : Int) (w : World) (h : PairsAt w A l) (hg : Leap.good l = true) (hc : Leap.cnt c) :
    Calls Tryd.prog 24 #[.slice A l.length cap, .int .i64 c] w fun e w' => e = .returned (lbV (Leap.lbl l c)) ∧ Ok w w' := by
  obtain ⟨hc1, hc2⟩ := hc
  by_cases hm : Leap.more l c = true
  rotate_left
  · exact ref18LabelPlain A l cap c w h hg (by omega) hc2 (by simpa using hm)
  obtain ⟨hl, hbd⟩ := Leap.tab_bd (Leap.good_tab hg)
  have H := Leap.good_chain hg
  obtain ⟨q, m1, m2, m3, m4, -, -⟩ := H.more_lab hm
  have KM := Lib.hid fun w h => ref18More A l cap c w h hl hbd
  rw [hm] at KM
  have KL := Lib.hid fun w h => ref18LabelPlain A l cap (c - 1) w h hg (by omega) (by omega) m4
  have e0 : Leap.lbl l (c - 1) = ⟨(Leap.date (q - 1)).1, (Leap.date (q - 1)).2.1, (Leap.date (q - 1)).2.2, 23, 59, 59⟩ := by
    unfold Leap.lbl
    rw [Leap.lab_plain m4, m2, show (c - 1 - Leap.off 0 c l) / 86400 = q - 1 by omega, show (c - 1 - Leap.off 0 c l) % 86400 = 86399 by omega]
    rfl
  have e1 : Leap.lbl l c = ⟨(Leap.date (q - 1)).1, (Leap.date (q - 1)).2.1, (Leap.date (q - 1)).2.2, 23, 59, 60⟩ := by
    unfold Leap.lbl
    rw [m3]
    rfl
  rw [e0] at KL
  rw [e1]
  generalize Leap.date (q - 1) = D at KL ⊢
  obtain ⟨y, mo, d⟩ := D
  simp only [lbV] at KL ⊢
  clear e0 e1 m1 m2 m3 m4 hm hg hbd H
  have hO := Own.new w #[.int .i64 0, .int .i64 0, .int .i64 0, .int .i64 0, .int .i64 0, .int .i64 0] 43 rfl
  have hok := (Ok.refl w).alloc (.cells #[.int .i64 0, .int .i64 0, .int .i64 0, .int .i64 0, .int .i64 0, .int .i64 0] 43)
  replace h := h.below hok
  go_enter Tryd.func24, Tryd.ntmps24
  go_upto_region 1 with fail
  generalize hW : w.alloc (.cells #[.int .i64 0, .int .i64 0, .int .i64 0, .int .i64 0, .int .i64 0, .int .i64 0] 43) = W at *
  obtain ⟨g, hg⟩ : ∃ r, w.heap.size = r := ⟨_, rfl⟩
  have HG := Lib.hid hg
  rw [hg] at hO ⊢
  clear hg hW
  go_upto_region 3 with (first
    | (go_at_call 45; (with_reducible refine (KM.out _ h).mono ?_); rintro e w1 ⟨rfl, hb1⟩; replace hO := hO.next hb1; replace h := h.below hb1; replace hok := hok.trans hb1; clear hb1)
    | (go_at_call 24; (with_reducible refine (KL.out _ h).mono ?_); rintro e w2 ⟨rfl, hb1⟩; replace hO := hO.next hb1; replace hok := hok.trans hb1; clear hb1))
  have hX := Own.new w2 #[.int .i64 y, .int .i64 mo, .int .i64 d, .int .i64 23, .int .i64 59, .int .i64 59] 43 rfl
  have hne : g ≠ w2.heap.size := by have := hO.lt; omega
  have hge : w.heap.size ≤ w2.heap.size := hok.size
  replace hO := hO.alloc (.cells #[.int .i64 y, .int .i64 mo, .int .i64 d, .int .i64 23, .int .i64 59, .int .i64 59] 43)
  replace hok := hok.alloc (.cells #[.int .i64 y, .int .i64 mo, .int .i64 d, .int .i64 23, .int .i64 59, .int .i64 59] 43)
  generalize w2.alloc (.cells #[.int .i64 y, .int .i64 mo, .int .i64 d, .int .i64 23, .int .i64 59, .int .i64 59] 43) = W2 at hX hO hok ⊢
  generalize w2.heap.size = g2 at *
  have x5 := hX.cell 5 rfl
  have xf := hX.frozen 5
  have hxl := hX.lt
  go_upto_region 4 with fail
  replace hX := hX.set 5 (.int .i64 60)
  replace hO := hO.setOther (a := ⟨g2, 5, none⟩) hne (.int .i64 60)
  replace hok := hok.setCell (p := ⟨g2, 5, none⟩) hge (.int .i64 60)
  clear x5 xf hxl
  generalize W2.setCell ⟨g2, 5, none⟩ (.int .i64 60) = W3 at *
  have x0 := hX.cell 0 rfl
  have x1 := hX.cell 1 rfl
  have x2 := hX.cell 2 rfl
  have x3 := hX.cell 3 rfl
  have x4 := hX.cell 4 rfl
  have x5 := hX.cell 5 rfl
  have hxl := hX.lt
  have o0 := hO.cell 0 rfl
  have o1 := hO.cell 1 rfl
  have o2 := hO.cell 2 rfl
  have o3 := hO.cell 3 rfl
  have o4 := hO.cell 4 rfl
  have o5 := hO.cell 5 rfl
  have f0 := hO.frozen 0
  have f1 := hO.frozen 1
  have f2 := hO.frozen 2
  have f3 := hO.frozen 3
  have f4 := hO.frozen 4
  have f5 := hO.frozen 5
  have hol := hO.lt
  go_wp2_with fail
  replace hok := hok.six (g := g) (by rw [← HG.out]; exact Nat.le_refl _) (.int .i64 y) (.int .i64 mo) (.int .i64 d) (.int .i64 23) (.int .i64 59) (.int .i64 60)
  replace hO := hO.six (.int .i64 y) (.int .i64 mo) (.int .i64 d) (.int .i64 23) (.int .i64 59) (.int .i64 60)
  clear o0 o1 o2 o3 o4 o5 f0 f1 f2 f3 f4 f5
  generalize (((((_ : World).setCell ⟨g, 1, none⟩ _).setCell ⟨g, 2, none⟩ _).setCell ⟨g, 3, none⟩ _).setCell ⟨g, 4, none⟩ _).setCell ⟨g, 5, none⟩ _ = W9 at hok hO ⊢
  have o0 := hO.cell 0 rfl
  have o1 := hO.cell 1 rfl
  have o2 := hO.cell 2 rfl
  have o3 := hO.cell 3 rfl
  have o4 := hO.cell 4 rfl
  have o5 := hO.cell 5 rfl
  exact bodyPost_ret (v := lbV ⟨y, mo, d, 23, 59, 60⟩) (by simp [results, Tryd.results24, go_sem, lbV, o0, o1, o2, o3, o4, o5]) rfl ⟨rfl, hok⟩
end Go.Proofs.YtlclfonlidcfiaaDoor
