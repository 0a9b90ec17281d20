/- Layer 18: what the law asks first. -/
import Derived.Test.YtacphjdkobodnaaDoorC18i
namespace Go.Proofs.YtacphjdkobodnaaDoor
open Go.RowKit
set_option maxRecDepth 100000
attribute [local go_sem ↓] Go.wp_at_zero Go.wp_at_succ
theorem eg_lbl0 : Leap.lbl [(86401, 1)] 86400 = ⟨1970, 1, 1, 23, 59, 60⟩ := by
  have e : Leap.lab [(86401, 1)] 86400 = (0, 86400) := by decide
  unfold Leap.lbl
  rw [e]
  unfold Leap.mk
  rw [Leap.date_one Civil.is_one]
  rfl
theorem eg_lbl1 : Leap.lbl [(86401, 1)] 86401 = ⟨1970, 1, 2, 0, 0, 0⟩ := by
  have e : Leap.lab [(86401, 1)] 86401 = (1, 0) := by decide
  unfold Leap.lbl
  rw [e]
  unfold Leap.mk
  rw [Leap.date_one (show Civil.Is 1 1970 1 2 from ⟨by decide, by decide, by decide⟩)]
  rfl
set_option maxHeartbeats 1600000 in
theorem law18Alive (w : World) (hT : Tab w) : Calls Tryd.prog 10 #[] w fun e w' => e = .returned (.bool true) ∧ Ok w w' := by
  have K1 := Lib.hid fun b w hT h => leapToLabel (some ⟨b, 0, none⟩) [(86401, 1)] 1 86400 w hT h (by simp)
  have K2 := Lib.hid fun b w hT h => leapToCount (some ⟨b, 0, none⟩) [(86401, 1)] 1 ⟨1970, 1, 2, 0, 0, 0⟩ w hT h (by simp)
  rw [show Leap.toL [(86401, 1)] 86400 = (⟨1970, 1, 1, 23, 59, 60⟩, 0) by unfold Leap.toL; rw [if_pos (by decide), if_pos (by decide), eg_lbl0]] at K1
  rw [show Leap.toC [(86401, 1)] ⟨1970, 1, 2, 0, 0, 0⟩ = (86401, 0) by rw [← eg_lbl1]; exact Leap.toC_is (by decide) (by decide)] at K2
  have hE := eqLabel ⟨1970, 1, 1, 23, 59, 60⟩ ⟨1970, 1, 1, 23, 59, 60⟩
  rw [decide_eq_true rfl] at hE
  simp only [lbV] at K1 K2 hE
  have hP := pairs_new w [(86401, 1)] 40 #[.int .i64 86401, .int .i64 1] rfl rfl
  have hok := (Ok.refl w).alloc (.cells #[.int .i64 86401, .int .i64 1] 40)
  replace hT := hT.next hok
  go_enter Tryd.func10, Tryd.ntmps10
  go_upto_region 2 with fail
  generalize w.alloc (.cells #[.int .i64 86401, .int .i64 1] 40) = W at *
  generalize w.heap.size = g at *
  go_wp2_with (first
    | (go_at_call 12; refine (K1.out _ _ hT hP).mono ?_; rintro e w2 ⟨rfl, hb1⟩; have hX := Own.new w2 #[.int .i64 1970, .int .i64 1, .int .i64 1, .int .i64 23, .int .i64 59, .int .i64 60] 26 rfl; replace hb1 := hb1.alloc (.cells #[.int .i64 1970, .int .i64 1, .int .i64 1, .int .i64 23, .int .i64 59, .int .i64 60] 26); replace hT := hT.next hb1; replace hP := hP.below hb1; replace hok := hok.trans hb1; clear hb1)
    | (go_at_call 15; refine (K2.out _ _ hT hP).mono ?_; rintro e w3 ⟨rfl, hb1⟩; replace hok := hok.trans hb1; replace hX := hX.next hb1; clear hb1; have x0 := hX.cell 0 rfl; have x1 := hX.cell 1 rfl; have x2 := hX.cell 2 rfl; have x3 := hX.cell 3 rfl; have x4 := hX.cell 4 rfl; have x5 := hX.cell 5 rfl; have hxl := hX.lt))
  go_ret
  exact ⟨rfl, hok⟩
end Go.Proofs.YtacphjdkobodnaaDoor
