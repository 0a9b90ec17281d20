/- Contracts of layer 20: Tick, Hear and Mend, the program's and the document's. -/
import Derived.Test.YtlclfonlidcfiaaDoorC20a
import Derived.Deep.CutRange
namespace Go.Proofs.YtlclfonlidcfiaaDoor
open Go.RowKit
set_option maxRecDepth 100000
attribute [local go_sem ↓] Go.wp_at_zero Go.wp_at_succ
theorem hlcBegin (x : Int) (w : World) : Calls Tryd.prog 48 #[.int .i64 x] w fun e w' => e = .returned (stV (Sat.clip x, 0)) ∧ Ok w w' := by
  have hok := Ok.refl w
  go_enter Tryd.func48, Tryd.ntmps48
  go_wp2_with (go_at_call 37; refine (satClip _ _).mono ?_; rintro e w' ⟨rfl, rfl⟩)
  exact bodyPost_ret (v := stV (Sat.clip x, 0)) (by simp [results, Tryd.results48, go_sem]) rfl ⟨rfl, hok.alloc _⟩
theorem hlcMay (s : Int × Int) (most : Int) (w : World) : Calls Tryd.prog 50 #[stV s, .int .i64 most] w fun e w' => e = .returned (.bool (Hlc.right s && decide (s.1 ≤ most))) ∧ Ok w w' := by
  have hok := Ok.refl w
  obtain ⟨t, n⟩ := s
  have KR := Lib.hid fun w => hlcRight (t, n) w
  have HB := Lib.hid (Box.new w t n 28 rfl)
  generalize Hlc.right (t, n) = r at KR ⊢
  show Calls _ _ _ _ fun e w' => e = .returned (.bool (r && decide (t ≤ most))) ∧ Ok w w'
  cases r
  · rw [Bool.false_and]
    go_enter Tryd.func50, Tryd.ntmps50
    go_wp2_with (go_at_call 61; refine (KR.out _).mono ?_; rintro e w1 ⟨rfl, hb1⟩; have hB := HB.out.next hb1; have c0 := hB.c0; have hBl := hB.lt; replace hok := (hok.alloc _).trans hb1; clear hb1)
    go_ret
    exact ⟨rfl, hok⟩
  · rw [Bool.true_and]
    obtain ⟨d, hd⟩ : ∃ d, decide (t ≤ most) = d := ⟨_, rfl⟩
    rw [hd]
    go_enter Tryd.func50, Tryd.ntmps50
    go_wp2_with (go_at_call 61; refine (KR.out _).mono ?_; rintro e w1 ⟨rfl, hb1⟩; have hB := HB.out.next hb1; have c0 := hB.c0; have hBl := hB.lt; replace hok := (hok.alloc _).trans hb1; clear hb1)
    go_ret
    exact ⟨rfl, hok⟩
theorem hlcTick (c0 : Int × Int) (now : Int) (w : World) : Calls Tryd.prog 29 #[stV c0, .int .i64 now] w fun e w' => e = .returned (stV (Hlc.tick c0 now)) ∧ Ok w w' := by
  have hok := Ok.refl w
  obtain ⟨t, n⟩ := c0
  have KB := Lib.hid fun w => hlcBegin now w
  have KN := Lib.hid fun w => hlcNext (t, n) w
  rw [show Hlc.tick (t, n) now = if t < Sat.clip now then (Sat.clip now, 0) else Hlc.next (t, n) from rfl]
  generalize Sat.clip now = c at KB ⊢
  have HS := Lib.hid ((Box.new w t n 63 rfl).next ((Ok.refl _).alloc (.cells #[.int .i64 0, .int .i64 0] 63)))
  have HR := Lib.hid (Slab.new (w.alloc (.cells #[.int .i64 t, .int .i64 n] 63)) 0 0 63 (g := w.heap.size + 1) (by simp))
  have hrw : w.heap.size ≤ w.heap.size + 1 := by omega
  by_cases h : t < c
  · rw [if_pos h]
    go_enter Tryd.func29, Tryd.ntmps29
    go_wp2_with (go_at_call 48; refine (KB.out _).mono ?_; rintro e w1 ⟨rfl, hb1⟩; replace hb1 := hb1.alloc (.cells #[.int .i64 c, .int .i64 0] 63); have hS := HS.out.next hb1; have hR := HR.out.next hb1; replace hok := ((hok.alloc _).alloc _).trans hb1; clear hb1 HS HR; obtain ⟨s0, s1, hSl⟩ := hS; have r0 := hR.c0; have r1 := hR.c1; have f0 := hR.f0; have f1 := hR.f1; have hRl := hR.lt; have hb1 := True.intro)
    have hX := hR.set c 0
    have hok3 := (hok.setCell (p := ⟨w.heap.size + 1, 0, none⟩) hrw (.int .i64 c)).setCell (p := ⟨w.heap.size + 1, 1, none⟩) hrw (.int .i64 0)
    generalize ((w1.alloc (.cells #[.int .i64 c, .int .i64 0] 63)).setCell ⟨w.heap.size + 1, 0, none⟩ (.int .i64 c)).setCell ⟨w.heap.size + 1, 1, none⟩ (.int .i64 0) = W4 at hX hok3 ⊢
    have x0 := hX.c0
    have x1 := hX.c1
    exact bodyPost_ret (v := stV (c, 0)) (by simp [results, Tryd.results29, go_sem, x0, x1]) rfl ⟨rfl, hok3⟩
  · rw [if_neg h]
    generalize Hlc.next (t, n) = z at KN ⊢
    obtain ⟨u, v⟩ := z
    go_enter Tryd.func29, Tryd.ntmps29
    go_wp2_with (first | (go_at_call 48; refine (KB.out _).mono ?_; rintro e w1 ⟨rfl, hb1⟩; replace hb1 := hb1.alloc (.cells #[.int .i64 c, .int .i64 0] 63); have hS := HS.out.next hb1; have hR := HR.out.next hb1; replace hok := ((hok.alloc _).alloc _).trans hb1; clear hb1 HS HR; obtain ⟨s0, s1, hSl⟩ := hS; have r0 := hR.c0; have r1 := hR.c1; have f0 := hR.f0; have f1 := hR.f1; have hRl := hR.lt; have hb1 := True.intro) | (go_at_call 49; refine (KN.out _).mono ?_; rintro e w2 ⟨rfl, hb1⟩; replace hok := hok.trans hb1; replace hR := hR.next hb1; clear hb1 r0 r1 f0 f1 hRl; have r0 := hR.c0; have r1 := hR.c1; have f0 := hR.f0; have f1 := hR.f1; have hRl := hR.lt))
    have hX := hR.set u v
    have hok3 := (hok.setCell (p := ⟨w.heap.size + 1, 0, none⟩) hrw (.int .i64 u)).setCell (p := ⟨w.heap.size + 1, 1, none⟩) hrw (.int .i64 v)
    generalize (w2.setCell ⟨w.heap.size + 1, 0, none⟩ (.int .i64 u)).setCell ⟨w.heap.size + 1, 1, none⟩ (.int .i64 v) = W4 at hX hok3 ⊢
    have x0 := hX.c0
    have x1 := hX.c1
    exact bodyPost_ret (v := stV (u, v)) (by simp [results, Tryd.results29, go_sem, x0, x1]) rfl ⟨rfl, hok3⟩
end Go.Proofs.YtlclfonlidcfiaaDoor
