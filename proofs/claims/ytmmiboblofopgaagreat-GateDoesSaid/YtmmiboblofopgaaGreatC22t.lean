/- Contracts of layer 22: the beat of a gateway that is nil, and what is told by a Front that is nil. -/
import Derived.Test.YtmmiboblofopgaaGreatC22s
namespace Go.Proofs.YtmmiboblofopgaaGreat
open Go.RowKit
set_option linter.unusedVariables false
set_option maxRecDepth 100000
attribute [local go_sem ↓] Go.wp_at_zero Go.wp_at_succ
set_option maxHeartbeats 3200000 in
theorem gateBeatNil (w : World) : Calls Tryz.prog 16 #[.pointer none, .agg #[.int .i64 0, .slice none 0 0, .bool false, .int .i64 0, .bool false, .slice none 0 0]] w fun e w' => e = .returned (msgV zeroMsg none 0) ∧ Ok w w' := by
  have hM := Own.new (w.alloc (.cells #[.int .i64 0, .slice none 0 0, .bool false, .int .i64 0, .bool false, .slice none 0 0] 44)) #[.int .i64 0, .int .i64 0, .int .i64 0, .int .i64 0, .int .i64 0, .int .i64 0, .bool false, .bool false, .int .i64 0, .int .i64 0, .int .i64 0, .int .i64 0, .int .i64 0, .slice none 0 0] 47 (g := w.heap.size + 1) (by simp)
  have hok := ((Ok.refl w).alloc (.cells #[.int .i64 0, .slice none 0 0, .bool false, .int .i64 0, .bool false, .slice none 0 0] 44)).alloc (.cells #[.int .i64 0, .int .i64 0, .int .i64 0, .int .i64 0, .int .i64 0, .int .i64 0, .bool false, .bool false, .int .i64 0, .int .i64 0, .int .i64 0, .int .i64 0, .int .i64 0, .slice none 0 0] 47)
  go_enter Tryz.func16, Tryz.ntmps16
  go_upto_region 1 with fail
  change Code.wp _ _ _ _ ((w.alloc (.cells #[.int .i64 0, .slice none 0 0, .bool false, .int .i64 0, .bool false, .slice none 0 0] 44)).alloc (.cells #[.int .i64 0, .int .i64 0, .int .i64 0, .int .i64 0, .int .i64 0, .int .i64 0, .bool false, .bool false, .int .i64 0, .int .i64 0, .int .i64 0, .int .i64 0, .int .i64 0, .slice none 0 0] 47))
  generalize (w.alloc (.cells #[.int .i64 0, .slice none 0 0, .bool false, .int .i64 0, .bool false, .slice none 0 0] 44)).alloc (.cells #[.int .i64 0, .int .i64 0, .int .i64 0, .int .i64 0, .int .i64 0, .int .i64 0, .bool false, .bool false, .int .i64 0, .int .i64 0, .int .i64 0, .int .i64 0, .int .i64 0, .slice none 0 0] 47) = W0 at hM hok ⊢
  obtain ⟨M, hMe⟩ : ∃ r, w.heap.size + 1 = r := ⟨_, rfl⟩
  have hwM : w.heap.size ≤ M := by omega
  rw [hMe] at hM
  rw [hMe]
  clear hMe
  have m0 := hM.cell 0 rfl
  have f0 := hM.frozen 0
  have m1 := hM.cell 1 rfl
  have f1 := hM.frozen 1
  have m2 := hM.cell 2 rfl
  have f2 := hM.frozen 2
  have m3 := hM.cell 3 rfl
  have f3 := hM.frozen 3
  have m4 := hM.cell 4 rfl
  have f4 := hM.frozen 4
  have m5 := hM.cell 5 rfl
  have f5 := hM.frozen 5
  have m6 := hM.cell 6 rfl
  have f6 := hM.frozen 6
  have m7 := hM.cell 7 rfl
  have f7 := hM.frozen 7
  have m8 := hM.cell 8 rfl
  have f8 := hM.frozen 8
  have m9 := hM.cell 9 rfl
  have f9 := hM.frozen 9
  have m10 := hM.cell 10 rfl
  have f10 := hM.frozen 10
  have m11 := hM.cell 11 rfl
  have f11 := hM.frozen 11
  have m12 := hM.cell 12 rfl
  have f12 := hM.frozen 12
  have m13 := hM.cell 13 rfl
  have f13 := hM.frozen 13
  have hml := hM.lt
  go_wp2_with fail
  clear m0 f0 m1 f1 m2 f2 m3 f3 m4 f4 m5 f5 m6 f6 m7 f7 m8 f8 m9 f9 m10 f10 m11 f11 m12 f12 m13 f13 hml
  replace hM := own_over14 hM (.int .i64 0) (.int .i64 0) (.int .i64 0) (.int .i64 0) (.int .i64 0) (.int .i64 0) (.bool false) (.bool false) (.int .i64 0) (.int .i64 0) (.int .i64 0) (.int .i64 0) (.int .i64 0) (.slice none 0 0)
  replace hok := ((((((((((((((hok.setCell (p := ⟨M, 0, none⟩) hwM (.int .i64 0)).setCell (p := ⟨M, 1, none⟩) hwM (.int .i64 0)).setCell (p := ⟨M, 2, none⟩) hwM (.int .i64 0)).setCell (p := ⟨M, 3, none⟩) hwM (.int .i64 0)).setCell (p := ⟨M, 4, none⟩) hwM (.int .i64 0)).setCell (p := ⟨M, 5, none⟩) hwM (.int .i64 0)).setCell (p := ⟨M, 6, none⟩) hwM (.bool false)).setCell (p := ⟨M, 7, none⟩) hwM (.bool false)).setCell (p := ⟨M, 8, none⟩) hwM (.int .i64 0)).setCell (p := ⟨M, 9, none⟩) hwM (.int .i64 0)).setCell (p := ⟨M, 10, none⟩) hwM (.int .i64 0)).setCell (p := ⟨M, 11, none⟩) hwM (.int .i64 0)).setCell (p := ⟨M, 12, none⟩) hwM (.int .i64 0)).setCell (p := ⟨M, 13, none⟩) hwM (.slice none 0 0))
  have m0 := hM.cell 0 rfl
  have m1 := hM.cell 1 rfl
  have m2 := hM.cell 2 rfl
  have m3 := hM.cell 3 rfl
  have m4 := hM.cell 4 rfl
  have m5 := hM.cell 5 rfl
  have m6 := hM.cell 6 rfl
  have m7 := hM.cell 7 rfl
  have m8 := hM.cell 8 rfl
  have m9 := hM.cell 9 rfl
  have m10 := hM.cell 10 rfl
  have m11 := hM.cell 11 rfl
  have m12 := hM.cell 12 rfl
  have m13 := hM.cell 13 rfl
  have hml := hM.lt
  exact bodyPost_ret (v := .agg #[.int .i64 0, .int .i64 0, .int .i64 0, .int .i64 0, .int .i64 0, .int .i64 0, .bool false, .bool false, .int .i64 0, .int .i64 0, .int .i64 0, .int .i64 0, .int .i64 0, .slice none 0 0]) (by simp [results, Tryz.results16, go_sem, m0, m1, m2, m3, m4, m5, m6, m7, m8, m9, m10, m11, m12, m13]) rfl ⟨rfl, hok⟩
set_option maxHeartbeats 3200000 in
theorem gateSayNil (w : World) : Calls Tryz.prog 18 #[.pointer none, .int .i64 1, .int .i64 2, .bool true, .agg #[.int .i64 1, .int .i64 0]] w fun e w' => e = .returned (msgV zeroMsg none 0) ∧ Ok w w' := by
  have hM := Own.new (w.alloc (.cells #[.int .i64 1, .int .i64 0] 25)) #[.int .i64 0, .int .i64 0, .int .i64 0, .int .i64 0, .int .i64 0, .int .i64 0, .bool false, .bool false, .int .i64 0, .int .i64 0, .int .i64 0, .int .i64 0, .int .i64 0, .slice none 0 0] 47 (g := w.heap.size + 1) (by simp)
  have hok := ((Ok.refl w).alloc (.cells #[.int .i64 1, .int .i64 0] 25)).alloc (.cells #[.int .i64 0, .int .i64 0, .int .i64 0, .int .i64 0, .int .i64 0, .int .i64 0, .bool false, .bool false, .int .i64 0, .int .i64 0, .int .i64 0, .int .i64 0, .int .i64 0, .slice none 0 0] 47)
  go_enter Tryz.func18, Tryz.ntmps18
  go_upto_region 1 with fail
  change Code.wp _ _ _ _ ((w.alloc (.cells #[.int .i64 1, .int .i64 0] 25)).alloc (.cells #[.int .i64 0, .int .i64 0, .int .i64 0, .int .i64 0, .int .i64 0, .int .i64 0, .bool false, .bool false, .int .i64 0, .int .i64 0, .int .i64 0, .int .i64 0, .int .i64 0, .slice none 0 0] 47))
  generalize (w.alloc (.cells #[.int .i64 1, .int .i64 0] 25)).alloc (.cells #[.int .i64 0, .int .i64 0, .int .i64 0, .int .i64 0, .int .i64 0, .int .i64 0, .bool false, .bool false, .int .i64 0, .int .i64 0, .int .i64 0, .int .i64 0, .int .i64 0, .slice none 0 0] 47) = W0 at hM hok ⊢
  obtain ⟨M, hMe⟩ : ∃ r, w.heap.size + 1 = r := ⟨_, rfl⟩
  have hwM : w.heap.size ≤ M := by omega
  rw [hMe] at hM
  rw [hMe]
  clear hMe
  have m0 := hM.cell 0 rfl
  have f0 := hM.frozen 0
  have m1 := hM.cell 1 rfl
  have f1 := hM.frozen 1
  have m2 := hM.cell 2 rfl
  have f2 := hM.frozen 2
  have m3 := hM.cell 3 rfl
  have f3 := hM.frozen 3
  have m4 := hM.cell 4 rfl
  have f4 := hM.frozen 4
  have m5 := hM.cell 5 rfl
  have f5 := hM.frozen 5
  have m6 := hM.cell 6 rfl
  have f6 := hM.frozen 6
  have m7 := hM.cell 7 rfl
  have f7 := hM.frozen 7
  have m8 := hM.cell 8 rfl
  have f8 := hM.frozen 8
  have m9 := hM.cell 9 rfl
  have f9 := hM.frozen 9
  have m10 := hM.cell 10 rfl
  have f10 := hM.frozen 10
  have m11 := hM.cell 11 rfl
  have f11 := hM.frozen 11
  have m12 := hM.cell 12 rfl
  have f12 := hM.frozen 12
  have m13 := hM.cell 13 rfl
  have f13 := hM.frozen 13
  have hml := hM.lt
  go_wp2_with fail
  clear m0 f0 m1 f1 m2 f2 m3 f3 m4 f4 m5 f5 m6 f6 m7 f7 m8 f8 m9 f9 m10 f10 m11 f11 m12 f12 m13 f13 hml
  replace hM := own_over14 hM (.int .i64 0) (.int .i64 0) (.int .i64 0) (.int .i64 0) (.int .i64 0) (.int .i64 0) (.bool false) (.bool false) (.int .i64 0) (.int .i64 0) (.int .i64 0) (.int .i64 0) (.int .i64 0) (.slice none 0 0)
  replace hok := ((((((((((((((hok.setCell (p := ⟨M, 0, none⟩) hwM (.int .i64 0)).setCell (p := ⟨M, 1, none⟩) hwM (.int .i64 0)).setCell (p := ⟨M, 2, none⟩) hwM (.int .i64 0)).setCell (p := ⟨M, 3, none⟩) hwM (.int .i64 0)).setCell (p := ⟨M, 4, none⟩) hwM (.int .i64 0)).setCell (p := ⟨M, 5, none⟩) hwM (.int .i64 0)).setCell (p := ⟨M, 6, none⟩) hwM (.bool false)).setCell (p := ⟨M, 7, none⟩) hwM (.bool false)).setCell (p := ⟨M, 8, none⟩) hwM (.int .i64 0)).setCell (p := ⟨M, 9, none⟩) hwM (.int .i64 0)).setCell (p := ⟨M, 10, none⟩) hwM (.int .i64 0)).setCell (p := ⟨M, 11, none⟩) hwM (.int .i64 0)).setCell (p := ⟨M, 12, none⟩) hwM (.int .i64 0)).setCell (p := ⟨M, 13, none⟩) hwM (.slice none 0 0))
  have m0 := hM.cell 0 rfl
  have m1 := hM.cell 1 rfl
  have m2 := hM.cell 2 rfl
  have m3 := hM.cell 3 rfl
  have m4 := hM.cell 4 rfl
  have m5 := hM.cell 5 rfl
  have m6 := hM.cell 6 rfl
  have m7 := hM.cell 7 rfl
  have m8 := hM.cell 8 rfl
  have m9 := hM.cell 9 rfl
  have m10 := hM.cell 10 rfl
  have m11 := hM.cell 11 rfl
  have m12 := hM.cell 12 rfl
  have m13 := hM.cell 13 rfl
  have hml := hM.lt
  exact bodyPost_ret (v := .agg #[.int .i64 0, .int .i64 0, .int .i64 0, .int .i64 0, .int .i64 0, .int .i64 0, .bool false, .bool false, .int .i64 0, .int .i64 0, .int .i64 0, .int .i64 0, .int .i64 0, .slice none 0 0]) (by simp [results, Tryz.results18, go_sem, m0, m1, m2, m3, m4, m5, m6, m7, m8, m9, m10, m11, m12, m13]) rfl ⟨rfl, hok⟩
end Go.Proofs.YtmmiboblofopgaaGreat
