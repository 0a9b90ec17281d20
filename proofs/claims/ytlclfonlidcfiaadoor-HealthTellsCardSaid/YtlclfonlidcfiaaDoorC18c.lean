/- Contracts of layer 18: ToLabel: the program's. -/
import Derived.Test.YtlclfonlidcfiaaDoorC18b
namespace Go.Proofs.YtlclfonlidcfiaaDoor
open Go.RowKit
set_option maxRecDepth 100000
attribute [local go_sem ↓] Go.wp_at_zero Go.wp_at_succ
/-- What ToLabel answers. -/
noncomputable def Leap.toL (l : List (Int × Int)) (c : Int) : Leap.Lb × Int := if Leap.good l = true then (if Leap.cnt c then (Leap.lbl l c, 0) else (lb0, 30)) else (lb0, 31)
set_option maxHeartbeats 3200000 in
theorem leapToLabel (A : Option Addr) (l : List (Int × Int)) (cap : Nat) (c : Int) (w : World) (hT : Tab w) (h : PairsAt w A l) (hl : l.length ≤ 9223372036854775807) :
    Calls Tryd.prog 21 #[.slice A l.length cap, .int .i64 c] w fun e w' => e = .returned (.tuple #[lbV (Leap.toL l c).1, .int .i64 (Leap.toL l c).2]) ∧ Ok w w' := by
  have hO := Own.new w #[.int .i64 0, .int .i64 0, .int .i64 0, .int .i64 0, .int .i64 0, .int .i64 0] 43 rfl
  have hok := (Ok.refl w).alloc (.cells #[.int .i64 0, .int .i64 0, .int .i64 0, .int .i64 0, .int .i64 0, .int .i64 0] 43)
  replace hT := hT.next hok
  replace h := h.below hok
  have KG := Lib.hid fun w h => leapGood A l cap w h hl
  have KI := Lib.hid fun w => leapIsCount c w
  unfold Leap.toL
  by_cases hg : Leap.good l = true
  · rw [if_pos hg]
    rw [hg] at KG
    by_cases hc : Leap.cnt c
    · rw [if_pos hc]
      rw [decide_eq_true hc] at KI
      have KL := Lib.hid fun w hT h => leapLabel A l cap c w hT h hg hc
      generalize Leap.lbl l c = L at KL ⊢
      obtain ⟨y, mo, d, hh, mi, se⟩ := L
      simp only [lbV] at KL ⊢
      clear hg hc hl
      go_enter Tryd.func21, Tryd.ntmps21
      go_upto_region 1 with fail
      generalize hW : w.alloc (.cells #[.int .i64 0, .int .i64 0, .int .i64 0, .int .i64 0, .int .i64 0, .int .i64 0] 43) = W at *
      obtain ⟨g, hg⟩ : ∃ r, w.heap.size = r := ⟨_, rfl⟩
      have HG := Lib.hid hg
      rw [hg] at hO ⊢
      clear hg hW
      go_wp2_with (first
        | (go_at_call 39; (with_reducible refine (KG.out _ h).mono ?_); rintro e w1 ⟨rfl, hb1⟩; replace hO := hO.next hb1; replace hT := hT.next hb1; replace h := h.below hb1; replace hok := hok.trans hb1; clear hb1; skip)
        | (go_at_call 40; (with_reducible refine (KI.out _).mono ?_); rintro e w2 ⟨rfl, rfl⟩)
        | (go_at_call 41; (with_reducible refine (KL.out _ hT h).mono ?_); rintro e w3 ⟨rfl, hb1⟩; replace hO := hO.next hb1; replace hok := hok.trans hb1; clear hb1; have o0 := hO.cell 0 rfl; have o1 := hO.cell 1 rfl; have o2 := hO.cell 2 rfl; have o3 := hO.cell 3 rfl; have o4 := hO.cell 4 rfl; have o5 := hO.cell 5 rfl; have f0 := hO.frozen 0; have f1 := hO.frozen 1; have f2 := hO.frozen 2; have f3 := hO.frozen 3; have f4 := hO.frozen 4; have f5 := hO.frozen 5; have hol := hO.lt))
      replace hok := hok.six (g := g) (by rw [← HG.out]; exact Nat.le_refl _) (.int .i64 y) (.int .i64 mo) (.int .i64 d) (.int .i64 hh) (.int .i64 mi) (.int .i64 se)
      replace hO := hO.six (.int .i64 y) (.int .i64 mo) (.int .i64 d) (.int .i64 hh) (.int .i64 mi) (.int .i64 se)
      clear o0 o1 o2 o3 o4 o5 f0 f1 f2 f3 f4 f5
      generalize (((((_ : World).setCell ⟨g, 1, none⟩ _).setCell ⟨g, 2, none⟩ _).setCell ⟨g, 3, none⟩ _).setCell ⟨g, 4, none⟩ _).setCell ⟨g, 5, none⟩ _ = W9 at hok hO ⊢
      have o0 := hO.cell 0 rfl
      have o1 := hO.cell 1 rfl
      have o2 := hO.cell 2 rfl
      have o3 := hO.cell 3 rfl
      have o4 := hO.cell 4 rfl
      have o5 := hO.cell 5 rfl
      exact bodyPost_ret (v := .tuple #[.agg #[.int .i64 y, .int .i64 mo, .int .i64 d, .int .i64 hh, .int .i64 mi, .int .i64 se], .int .i64 0]) (by simp [results, Tryd.results21, go_sem, o0, o1, o2, o3, o4, o5]) rfl ⟨rfl, hok⟩
    · rw [if_neg hc]
      rw [decide_eq_false hc] at KI
      clear hg hc hl
      go_enter Tryd.func21, Tryd.ntmps21
      go_upto_region 1 with fail
      generalize hW : w.alloc (.cells #[.int .i64 0, .int .i64 0, .int .i64 0, .int .i64 0, .int .i64 0, .int .i64 0] 43) = W at *
      obtain ⟨g, hg⟩ : ∃ r, w.heap.size = r := ⟨_, rfl⟩
      have HG := Lib.hid hg
      rw [hg] at hO ⊢
      clear hg hW
      go_wp2_with (first
        | (go_at_call 39; (with_reducible refine (KG.out _ h).mono ?_); rintro e w1 ⟨rfl, hb1⟩; replace hO := hO.next hb1; replace hT := hT.next hb1; replace h := h.below hb1; replace hok := hok.trans hb1; clear hb1; have o0 := hO.cell 0 rfl; have o1 := hO.cell 1 rfl; have o2 := hO.cell 2 rfl; have o3 := hO.cell 3 rfl; have o4 := hO.cell 4 rfl; have o5 := hO.cell 5 rfl; have f0 := hO.frozen 0; have f1 := hO.frozen 1; have f2 := hO.frozen 2; have f3 := hO.frozen 3; have f4 := hO.frozen 4; have f5 := hO.frozen 5; have hol := hO.lt)
        | (go_at_call 40; (with_reducible refine (KI.out _).mono ?_); rintro e w2 ⟨rfl, rfl⟩)
        | fail)
      replace hok := hok.six (g := g) (by rw [← HG.out]; exact Nat.le_refl _) (.int .i64 0) (.int .i64 0) (.int .i64 0) (.int .i64 0) (.int .i64 0) (.int .i64 0)
      replace hO := hO.six (.int .i64 0) (.int .i64 0) (.int .i64 0) (.int .i64 0) (.int .i64 0) (.int .i64 0)
      clear o0 o1 o2 o3 o4 o5 f0 f1 f2 f3 f4 f5
      generalize (((((_ : World).setCell ⟨g, 1, none⟩ _).setCell ⟨g, 2, none⟩ _).setCell ⟨g, 3, none⟩ _).setCell ⟨g, 4, none⟩ _).setCell ⟨g, 5, none⟩ _ = W9 at hok hO ⊢
      have o0 := hO.cell 0 rfl
      have o1 := hO.cell 1 rfl
      have o2 := hO.cell 2 rfl
      have o3 := hO.cell 3 rfl
      have o4 := hO.cell 4 rfl
      have o5 := hO.cell 5 rfl
      exact bodyPost_ret (v := .tuple #[.agg #[.int .i64 0, .int .i64 0, .int .i64 0, .int .i64 0, .int .i64 0, .int .i64 0], .int .i64 30]) (by simp [results, Tryd.results21, go_sem, o0, o1, o2, o3, o4, o5]) rfl ⟨rfl, hok⟩
  · have hg' : Leap.good l = false := by simpa using hg
    rw [if_neg hg]
    rw [hg'] at KG
    clear hg hg' hl
    go_enter Tryd.func21, Tryd.ntmps21
    go_upto_region 1 with fail
    generalize hW : w.alloc (.cells #[.int .i64 0, .int .i64 0, .int .i64 0, .int .i64 0, .int .i64 0, .int .i64 0] 43) = W at *
    obtain ⟨g, hg⟩ : ∃ r, w.heap.size = r := ⟨_, rfl⟩
    have HG := Lib.hid hg
    rw [hg] at hO ⊢
    clear hg hW
    go_wp2_with (first
      | (go_at_call 39; (with_reducible refine (KG.out _ h).mono ?_); rintro e w1 ⟨rfl, hb1⟩; replace hO := hO.next hb1; replace hT := hT.next hb1; replace h := h.below hb1; replace hok := hok.trans hb1; clear hb1; have o0 := hO.cell 0 rfl; have o1 := hO.cell 1 rfl; have o2 := hO.cell 2 rfl; have o3 := hO.cell 3 rfl; have o4 := hO.cell 4 rfl; have o5 := hO.cell 5 rfl; have f0 := hO.frozen 0; have f1 := hO.frozen 1; have f2 := hO.frozen 2; have f3 := hO.frozen 3; have f4 := hO.frozen 4; have f5 := hO.frozen 5; have hol := hO.lt)
      | (go_at_call 40; (with_reducible refine (KI.out _).mono ?_); rintro e w2 ⟨rfl, rfl⟩)
      | fail)
    replace hok := hok.six (g := g) (by rw [← HG.out]; exact Nat.le_refl _) (.int .i64 0) (.int .i64 0) (.int .i64 0) (.int .i64 0) (.int .i64 0) (.int .i64 0)
    replace hO := hO.six (.int .i64 0) (.int .i64 0) (.int .i64 0) (.int .i64 0) (.int .i64 0) (.int .i64 0)
    clear o0 o1 o2 o3 o4 o5 f0 f1 f2 f3 f4 f5
    generalize (((((_ : World).setCell ⟨g, 1, none⟩ _).setCell ⟨g, 2, none⟩ _).setCell ⟨g, 3, none⟩ _).setCell ⟨g, 4, none⟩ _).setCell ⟨g, 5, none⟩ _ = W9 at hok hO ⊢
    have o0 := hO.cell 0 rfl
    have o1 := hO.cell 1 rfl
    have o2 := hO.cell 2 rfl
    have o3 := hO.cell 3 rfl
    have o4 := hO.cell 4 rfl
    have o5 := hO.cell 5 rfl
    exact bodyPost_ret (v := .tuple #[.agg #[.int .i64 0, .int .i64 0, .int .i64 0, .int .i64 0, .int .i64 0, .int .i64 0], .int .i64 31]) (by simp [results, Tryd.results21, go_sem, o0, o1, o2, o3, o4, o5]) rfl ⟨rfl, hok⟩
end Go.Proofs.YtlclfonlidcfiaaDoor
