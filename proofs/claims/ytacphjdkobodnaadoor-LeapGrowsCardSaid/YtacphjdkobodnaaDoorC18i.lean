/- Contracts of layer 18: ToCount in one sentence; what the law asks first. -/
import Derived.Test.YtacphjdkobodnaaDoorC18c
import Derived.Test.YtacphjdkobodnaaDoorC18f
import Derived.Test.YtacphjdkobodnaaDoorC18h
namespace Go.Proofs.YtacphjdkobodnaaDoor
open Go.RowKit
set_option maxRecDepth 100000
attribute [local go_sem ↓] Go.wp_at_zero Go.wp_at_succ
namespace Leap
/-- The label is a day's. -/
theorem lbl_day {t : List (Int × Int)} (h : good t = true) {c : Int} (hc : cnt c) : Civil.may (lbl t c).y (lbl t c).m (lbl t c).d ∧ Civil.nr (lbl t c).y (lbl t c).m (lbl t c).d = (lab t c).1 := by
  have hn := lab_inn h (c := c) (by have := hc.1; omega) (by have := hc.2; omega)
  have his := lbl_is t c
  have hm := his.there hn
  refine ⟨hm, ?_⟩
  unfold Civil.nr
  rw [if_pos hm]
  exact his.same
/-- The seconds that a label's numbers make: the count less its offset. -/
theorem lbl_secs {t : List (Int × Int)} (h : good t = true) {c : Int} (hc : cnt c) : secs (lbl t c) = c - off 0 c t := by
  obtain ⟨-, hn⟩ := lbl_day h hc
  have hs := lbl_sum h c
  have hb := lbl_bd h c
  have ho := good_off h c
  have hi := lab_inn h (c := c) (by have := hc.1; omega) (by have := hc.2; omega)
  unfold secs
  rw [hn]
  generalize (lab t c).1 = n at *
  generalize (lbl t c).h = a at *
  generalize (lbl t c).i = b at *
  generalize (lbl t c).s = s at *
  obtain ⟨c1, c2⟩ := hc
  obtain ⟨i1, i2⟩ := hi
  have m1 : Sat.mul n 86400 = 86400 * n := by
    unfold Sat.mul
    rw [Sat.clip_in (x := n) (by omega) (by omega), Sat.clip_in (x := 86400) (by omega) (by omega), Sat.clip_in (by omega) (by omega)]; omega
  have m2 : Sat.mul a 3600 = 3600 * a := by
    unfold Sat.mul
    rw [Sat.clip_in (x := a) (by omega) (by omega), Sat.clip_in (x := 3600) (by omega) (by omega), Sat.clip_in (by omega) (by omega)]; omega
  have m3 : Sat.mul b 60 = 60 * b := by
    unfold Sat.mul
    rw [Sat.clip_in (x := b) (by omega) (by omega), Sat.clip_in (x := 60) (by omega) (by omega), Sat.clip_in (by omega) (by omega)]; omega
  rw [m1, m2, m3]
  show Sat.clip (Sat.clip (Sat.clip (Sat.clip (0 + Sat.clip (86400 * n)) + Sat.clip (3600 * a)) + Sat.clip (60 * b)) + Sat.clip s) = _
  rw [Sat.clip_in (x := 86400 * n) (by omega) (by omega), Sat.clip_in (x := 0 + 86400 * n) (by omega) (by omega), Sat.clip_in (x := 3600 * a) (by omega) (by omega), Sat.clip_in (x := 0 + 86400 * n + 3600 * a) (by omega) (by omega), Sat.clip_in (x := 60 * b) (by omega) (by omega), Sat.clip_in (x := 0 + 86400 * n + 3600 * a + 60 * b) (by omega) (by omega), Sat.clip_in (x := s) (by omega) (by omega), Sat.clip_in (by omega) (by omega)]
  omega
/-- What ToCount answers. -/
noncomputable def toC (t : List (Int × Int)) (L : Lb) : Int × Int :=
  haveI := Classical.propDecidable
  if good t = true then (if h : ∃ c, cnt c ∧ lbl t c = L then (Classical.choose h, 0) else (0, 30)) else (0, 31)
theorem toC_bad {t : List (Int × Int)} (h : good t = false) (L : Lb) : toC t L = (0, 31) := by unfold toC; rw [if_neg (by rw [h]; decide)]
theorem toC_is {t : List (Int × Int)} (h : good t = true) {c : Int} (hc : cnt c) : toC t (lbl t c) = (c, 0) := by
  unfold toC
  rw [if_pos h, dif_pos ⟨c, hc, rfl⟩]
  have hs := Classical.choose_spec (⟨c, hc, rfl⟩ : ∃ d, cnt d ∧ lbl t d = lbl t c)
  exact Prod.ext ((good_chain h).lbl_one hs.2) rfl
theorem toC_none {t : List (Int × Int)} (h : good t = true) {L : Lb} (hn : ∀ c, cnt c → lbl t c ≠ L) : toC t L = (0, 30) := by
  unfold toC
  rw [if_pos h, dif_neg (fun ⟨c, hc, e⟩ => hn c hc e)]
/-- The count, or that there is none, by what halving finds. -/
theorem toC_fnd {t : List (Int × Int)} (h : good t = true) (L : Lb) : toC t L = if lbl t (fnd t L) = L then (fnd t L, 0) else (0, 30) := by
  by_cases g : ∃ c, cnt c ∧ lbl t c = L
  · obtain ⟨c, hc, rfl⟩ := g
    have e : fnd t (lbl t c) = c := find_is h (fun _ => rfl) hc rfl
    rw [e, if_pos rfl]
    exact toC_is h hc
  · have hn : ∀ c, cnt c → lbl t c ≠ L := fun c hc e => g ⟨c, hc, e⟩
    have hi : cnt (fnd t L) := find_in L _ fun x y hxy hy => by
      rcases Int.lt_or_eq_of_le hxy with k | k
      · exact bef_trans ((good_chain h).lbl_rise k) hy
      · rw [k]; exact hy
    rw [if_neg (hn _ hi)]
    exact toC_none h hn
end Leap
theorem CountEnd.is {t : List (Int × Int)} {L : Leap.Lb} {e : Ending} (hg : Leap.good t = true) (h : CountEnd t L e) : e = .returned (.tuple #[.int .i64 (Leap.toC t L).1, .int .i64 (Leap.toC t L).2]) := by
  rcases h with ⟨x, hx, hh, rfl⟩ | ⟨hn, rfl⟩
  · unfold Leap.hit at hh
    rw [Bool.and_eq_true, decide_eq_true_eq, decide_eq_true_eq] at hh
    have := Leap.toC_is hg hh.1
    rw [hh.2] at this
    rw [this]
  · have : Leap.toC t L = (0, 30) := Leap.toC_none hg fun c hc e => by
      have := hn _ (Leap.off_mem c t)
      unfold Leap.hit at this
      rw [← e, Leap.lbl_secs hg hc, show c - Leap.off 0 c t + Leap.off 0 c t = c by omega, decide_eq_true hc, decide_eq_true rfl] at this
      cases this
    rw [this]
set_option maxHeartbeats 3200000 in
theorem leapToCountBad (A : Option Addr) (t : List (Int × Int)) (cap : Nat) (L : Leap.Lb) (w : World) (hT : Tab w) (h : PairsAt w A t) (hl : t.length ≤ 9223372036854775807) (hg : Leap.good t = false) :
    Calls Tryd.prog 15 #[.slice A t.length cap, lbV L] w fun e w' => e = .returned (.tuple #[.int .i64 0, .int .i64 31]) ∧ Ok w w' := by
  have KG := Lib.hid fun w h => leapGood A t cap w h hl
  rw [hg] at KG
  have KD := hg
  clear hg
  obtain ⟨y, mo, d, hh, mi, se⟩ := L
  simp only [lbV]
  obtain ⟨g2, hg2⟩ : ∃ r, w.heap.size = r := ⟨_, rfl⟩
  have hO2 := (((Own.new w #[.slice A t.length cap] 22 rfl).alloc (.cells #[.int .i64 y, .int .i64 mo, .int .i64 d, .int .i64 hh, .int .i64 mi, .int .i64 se] 26)).alloc (.cells #[.int .i64 0] 3)).alloc (.cells #[.int .i64 0] 27)
  have hO3 := ((Own.new (w.alloc (.cells #[.slice A t.length cap] 22)) #[.int .i64 y, .int .i64 mo, .int .i64 d, .int .i64 hh, .int .i64 mi, .int .i64 se] 26 (g := w.heap.size + 1) (by simp)).alloc (.cells #[.int .i64 0] 3)).alloc (.cells #[.int .i64 0] 27)
  have hO4 := (Own.new ((w.alloc (.cells #[.slice A t.length cap] 22)).alloc (.cells #[.int .i64 y, .int .i64 mo, .int .i64 d, .int .i64 hh, .int .i64 mi, .int .i64 se] 26)) #[.int .i64 0] 3 (g := w.heap.size + 1 + 1) (by simp)).alloc (.cells #[.int .i64 0] 27)
  have hO5 := Own.new (((w.alloc (.cells #[.slice A t.length cap] 22)).alloc (.cells #[.int .i64 y, .int .i64 mo, .int .i64 d, .int .i64 hh, .int .i64 mi, .int .i64 se] 26)).alloc (.cells #[.int .i64 0] 3)) #[.int .i64 0] 27 (g := w.heap.size + 1 + 1 + 1) (by simp)
  have hok := ((((Ok.refl w).alloc (.cells #[.slice A t.length cap] 22)).alloc (.cells #[.int .i64 y, .int .i64 mo, .int .i64 d, .int .i64 hh, .int .i64 mi, .int .i64 se] 26)).alloc (.cells #[.int .i64 0] 3)).alloc (.cells #[.int .i64 0] 27)
  replace hT := hT.next hok
  replace h := h.below hok
  go_enter Tryd.func15, Tryd.ntmps15
  go_upto_region 1 with fail
  generalize (((w.alloc (.cells #[.slice A t.length cap] 22)).alloc (.cells #[.int .i64 y, .int .i64 mo, .int .i64 d, .int .i64 hh, .int .i64 mi, .int .i64 se] 26)).alloc (.cells #[.int .i64 0] 3)).alloc (.cells #[.int .i64 0] 27) = W0 at *
  rw [hg2] at hO2 hO3 hO4 hO5
  have hK4 : w.heap.size ≤ g2 + 1 + 1 := by omega
  have hK5 : w.heap.size ≤ g2 + 1 + 1 + 1 := by omega
  have hne : g2 + 1 + 1 ≠ g2 + 1 + 1 + 1 := by omega
  generalize g2 + 1 + 1 + 1 = g5 at *
  generalize g2 + 1 + 1 = g4 at *
  generalize g2 + 1 = g3 at *
  have b2 := hO2.cell 0 rfl
  have hbl := hO2.lt
  clear hg2
  go_wp2_with (go_at_call 13; (with_reducible refine (KG.out _ h).mono ?_); rintro e w1 ⟨rfl, hb1⟩; replace hO2 := hO2.next hb1; replace hO3 := hO3.next hb1; replace hO4 := hO4.next hb1; replace hO5 := hO5.next hb1; replace hT := hT.next hb1; replace h := h.below hb1; replace hok := hok.trans hb1; clear hb1 b2 hbl; have l0 := hO3.cell 0 rfl; have l1 := hO3.cell 1 rfl; have l2 := hO3.cell 2 rfl; have hll := hO3.lt; have r4 := hO4.cell 0 rfl; have r4f := hO4.frozen 0; have r4l := hO4.lt; have r5 := hO5.cell 0 rfl; have r5f := hO5.frozen 0; have r5l := hO5.lt)
  replace hok := (hok.setCell (p := ⟨g4, 0, none⟩) hK4 (.int .i64 0)).setCell (p := ⟨g5, 0, none⟩) hK5 (.int .i64 31)
  have c4 := ((hO4.set 0 (.int .i64 0)).setOther (a := ⟨g5, 0, none⟩) hne (.int .i64 31)).cell 0 rfl
  have c5 := ((hO5.setOther (a := ⟨g4, 0, none⟩) (fun e => hne e.symm) (.int .i64 0)).set 0 (.int .i64 31)).cell 0 rfl
  clear hO4 hO5 r4 r4f r4l r5 r5f r5l
  generalize ((_ : World).setCell ⟨g4, 0, none⟩ (.int .i64 0)).setCell ⟨g5, 0, none⟩ (.int .i64 31) = W6 at *
  exact bodyPost_ret (v := .tuple #[.int .i64 0, .int .i64 31]) (by simp [results, Tryd.results15, go_sem, c4, c5]) rfl ⟨rfl, hok⟩
set_option maxHeartbeats 3200000 in
theorem leapToCountNoDay (A : Option Addr) (t : List (Int × Int)) (cap : Nat) (L : Leap.Lb) (w : World) (hT : Tab w) (h : PairsAt w A t) (hl : t.length ≤ 9223372036854775807) (hg : Leap.good t = true) (hday : ¬ Civil.may L.y L.m L.d) :
    Calls Tryd.prog 15 #[.slice A t.length cap, lbV L] w fun e w' => e = .returned (.tuple #[.int .i64 0, .int .i64 30]) ∧ Ok w w' := by
  have KG := Lib.hid fun w h => leapGood A t cap w h hl
  rw [hg] at KG
  have KD := Lib.hid (civilDay L.y L.m L.d)
  rw [decide_eq_false hday] at KD
  generalize Civil.nr L.y L.m L.d = nd at *
  clear hday hg
  obtain ⟨y, mo, d, hh, mi, se⟩ := L
  simp only [lbV] at KD ⊢
  obtain ⟨g2, hg2⟩ : ∃ r, w.heap.size = r := ⟨_, rfl⟩
  have hO2 := (((Own.new w #[.slice A t.length cap] 22 rfl).alloc (.cells #[.int .i64 y, .int .i64 mo, .int .i64 d, .int .i64 hh, .int .i64 mi, .int .i64 se] 26)).alloc (.cells #[.int .i64 0] 3)).alloc (.cells #[.int .i64 0] 27)
  have hO3 := ((Own.new (w.alloc (.cells #[.slice A t.length cap] 22)) #[.int .i64 y, .int .i64 mo, .int .i64 d, .int .i64 hh, .int .i64 mi, .int .i64 se] 26 (g := w.heap.size + 1) (by simp)).alloc (.cells #[.int .i64 0] 3)).alloc (.cells #[.int .i64 0] 27)
  have hO4 := (Own.new ((w.alloc (.cells #[.slice A t.length cap] 22)).alloc (.cells #[.int .i64 y, .int .i64 mo, .int .i64 d, .int .i64 hh, .int .i64 mi, .int .i64 se] 26)) #[.int .i64 0] 3 (g := w.heap.size + 1 + 1) (by simp)).alloc (.cells #[.int .i64 0] 27)
  have hO5 := Own.new (((w.alloc (.cells #[.slice A t.length cap] 22)).alloc (.cells #[.int .i64 y, .int .i64 mo, .int .i64 d, .int .i64 hh, .int .i64 mi, .int .i64 se] 26)).alloc (.cells #[.int .i64 0] 3)) #[.int .i64 0] 27 (g := w.heap.size + 1 + 1 + 1) (by simp)
  have hok := ((((Ok.refl w).alloc (.cells #[.slice A t.length cap] 22)).alloc (.cells #[.int .i64 y, .int .i64 mo, .int .i64 d, .int .i64 hh, .int .i64 mi, .int .i64 se] 26)).alloc (.cells #[.int .i64 0] 3)).alloc (.cells #[.int .i64 0] 27)
  replace hT := hT.next hok
  replace h := h.below hok
  go_enter Tryd.func15, Tryd.ntmps15
  go_upto_region 1 with fail
  generalize (((w.alloc (.cells #[.slice A t.length cap] 22)).alloc (.cells #[.int .i64 y, .int .i64 mo, .int .i64 d, .int .i64 hh, .int .i64 mi, .int .i64 se] 26)).alloc (.cells #[.int .i64 0] 3)).alloc (.cells #[.int .i64 0] 27) = W0 at *
  rw [hg2] at hO2 hO3 hO4 hO5
  have hK4 : w.heap.size ≤ g2 + 1 + 1 := by omega
  have hK5 : w.heap.size ≤ g2 + 1 + 1 + 1 := by omega
  have hne : g2 + 1 + 1 ≠ g2 + 1 + 1 + 1 := by omega
  generalize g2 + 1 + 1 + 1 = g5 at *
  generalize g2 + 1 + 1 = g4 at *
  generalize g2 + 1 = g3 at *
  have b2 := hO2.cell 0 rfl
  have hbl := hO2.lt
  clear hg2
  go_wp2_with (first
    | (go_at_call 13; (with_reducible refine (KG.out _ h).mono ?_); rintro e w1 ⟨rfl, hb1⟩; replace hO2 := hO2.next hb1; replace hO3 := hO3.next hb1; replace hO4 := hO4.next hb1; replace hO5 := hO5.next hb1; replace hT := hT.next hb1; replace h := h.below hb1; replace hok := hok.trans hb1; clear hb1 b2 hbl; have l0 := hO3.cell 0 rfl; have l1 := hO3.cell 1 rfl; have l2 := hO3.cell 2 rfl; have hll := hO3.lt; skip)
    | (go_at_call 31; (with_reducible refine (KD.out _ hT).mono ?_); rintro e w2 ⟨rfl, hb1⟩; replace hO4 := hO4.next hb1; replace hO5 := hO5.next hb1; replace hok := hok.trans hb1; clear hb1 l0 l1 l2 hll; have r4 := hO4.cell 0 rfl; have r4f := hO4.frozen 0; have r4l := hO4.lt; have r5 := hO5.cell 0 rfl; have r5f := hO5.frozen 0; have r5l := hO5.lt))
  replace hok := (hok.setCell (p := ⟨g4, 0, none⟩) hK4 (.int .i64 0)).setCell (p := ⟨g5, 0, none⟩) hK5 (.int .i64 30)
  have c4 := ((hO4.set 0 (.int .i64 0)).setOther (a := ⟨g5, 0, none⟩) hne (.int .i64 30)).cell 0 rfl
  have c5 := ((hO5.setOther (a := ⟨g4, 0, none⟩) (fun e => hne e.symm) (.int .i64 0)).set 0 (.int .i64 30)).cell 0 rfl
  clear hO4 hO5 r4 r4f r4l r5 r5f r5l
  generalize ((_ : World).setCell ⟨g4, 0, none⟩ (.int .i64 0)).setCell ⟨g5, 0, none⟩ (.int .i64 30) = W6 at *
  exact bodyPost_ret (v := .tuple #[.int .i64 0, .int .i64 30]) (by simp [results, Tryd.results15, go_sem, c4, c5]) rfl ⟨rfl, hok⟩
theorem leapToCount (A : Option Addr) (t : List (Int × Int)) (cap : Nat) (L : Leap.Lb) (w : World) (hT : Tab w) (h : PairsAt w A t) (hl : t.length ≤ 9223372036854775807) :
    Calls Tryd.prog 15 #[.slice A t.length cap, lbV L] w fun e w' => e = .returned (.tuple #[.int .i64 (Leap.toC t L).1, .int .i64 (Leap.toC t L).2]) ∧ Ok w w' := by
  by_cases hg : Leap.good t = true
  · by_cases hday : Civil.may L.y L.m L.d
    · exact (leapToCountDay A t cap L w hT h hg hday).mono fun e w' k => ⟨k.1.is hg, k.2⟩
    · rw [Leap.toC_none hg fun c hc e => hday (by rw [← e]; exact (Leap.lbl_day hg hc).1)]
      exact leapToCountNoDay A t cap L w hT h hl hg hday
  · have hg' : Leap.good t = false := by simpa using hg
    rw [Leap.toC_bad hg']
    exact leapToCountBad A t cap L w hT h hl hg'
end Go.Proofs.YtacphjdkobodnaaDoor
