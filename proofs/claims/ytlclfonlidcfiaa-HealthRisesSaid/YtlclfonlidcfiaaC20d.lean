/- Contracts of layer 20: Tick and Hear, the document's; the law's clock, and what every law asks first, the program's and the document's. -/
import Derived.Test.YtlclfonlidcfiaaC20c
import Derived.Deep.CutRange
import Derived.Laws.StructEq
import Derived.Laws.Tables
namespace Go.Proofs.Ytlclfonlidcfiaa
open Go.RowKit
set_option maxRecDepth 100000
attribute [local go_sem ↓] Go.wp_at_zero Go.wp_at_succ
theorem ref20Tick (c0 : Int × Int) (now : Int) (w : World) : Calls Try.prog 61 #[stV c0, .int .i64 now] w fun e w' => e = .returned (stV (Hlc.tick c0 now)) ∧ Ok w w' := by
  have hok := ((Ok.refl w).alloc (.cells #[.int .i64 c0.1, .int .i64 c0.2] 28)).alloc (.cells #[.int .i64 0, .int .i64 0] 28)
  obtain ⟨t, n⟩ := c0
  have KC := Lib.hid fun w => refClip now w
  have KN := Lib.hid fun w => ref20Next (t, n) w
  rw [show Hlc.tick (t, n) now = if t < Sat.clip now then (Sat.clip now, 0) else Hlc.next (t, n) from rfl]
  generalize Sat.clip now = c at KC ⊢
  have hS := (Box.new w t n 28 rfl).next ((Ok.refl _).alloc (.cells #[.int .i64 0, .int .i64 0] 28))
  have hR := Slab.new (w.alloc (.cells #[.int .i64 t, .int .i64 n] 28)) 0 0 28 (g := w.heap.size + 1) (by simp)
  have hrw : w.heap.size ≤ w.heap.size + 1 := by omega
  by_cases h : t < c
  · rw [if_pos h]
    go_enter Try.func61, Try.ntmps61
    go_upto_region 1 with fail
    generalize (w.alloc (.cells #[.int .i64 t, .int .i64 n] 28)).alloc (.cells #[.int .i64 0, .int .i64 0] 28) = W at hS hR hok ⊢
    obtain ⟨s0, s1, hsl⟩ := hS
    go_quiet ((go_at_call 42; exact Calls.quiet_of_same ((KC.out _).mono fun _ _ h => ⟨h.1, h.2.symm⟩)))
    replace hR := hR.drewN nq
    replace hok := hok.drewN nq
    have r0 := hR.c0; have r1 := hR.c1; have f0 := hR.f0; have f1 := hR.f1; have hRl := hR.lt
    go_wp2_with (go_at_call 42; refine (KC.out _).mono ?_; rintro e w2 ⟨rfl, rfl⟩)
    have hX := hR.set c 0
    have hok3 := (hok.setCell (p := ⟨w.heap.size + 1, 0, none⟩) hrw (.int .i64 c)).setCell (p := ⟨w.heap.size + 1, 1, none⟩) hrw (.int .i64 0)
    generalize ((W.drewN nq).setCell ⟨w.heap.size + 1, 0, none⟩ (.int .i64 c)).setCell ⟨w.heap.size + 1, 1, none⟩ (.int .i64 0) = W4 at hX hok3 ⊢
    have x0 := hX.c0
    have x1 := hX.c1
    exact bodyPost_ret (v := stV (c, 0)) (by simp [results, Try.results61, go_sem, x0, x1]) rfl ⟨rfl, hok3⟩
  · rw [if_neg h]
    generalize Hlc.next (t, n) = z at KN ⊢
    obtain ⟨u, v⟩ := z
    go_enter Try.func61, Try.ntmps61
    go_upto_region 1 with fail
    generalize (w.alloc (.cells #[.int .i64 t, .int .i64 n] 28)).alloc (.cells #[.int .i64 0, .int .i64 0] 28) = W at hS hR hok ⊢
    obtain ⟨s0, s1, hsl⟩ := hS
    go_quiet ((go_at_call 42; exact Calls.quiet_of_same ((KC.out _).mono fun _ _ h => ⟨h.1, h.2.symm⟩)))
    go_wp2_with (go_at_call 86; refine (KN.out _).mono ?_; rintro e w2 ⟨rfl, hb1⟩; replace hok := (hok.drewN _).trans hb1; replace hR := (hR.drewN _).next hb1; clear hb1; have r0 := hR.c0; have r1 := hR.c1; have f0 := hR.f0; have f1 := hR.f1; have hRl := hR.lt)
    have hX := hR.set u v
    have hok3 := (hok.setCell (p := ⟨w.heap.size + 1, 0, none⟩) hrw (.int .i64 u)).setCell (p := ⟨w.heap.size + 1, 1, none⟩) hrw (.int .i64 v)
    generalize (w2.setCell ⟨w.heap.size + 1, 0, none⟩ (.int .i64 u)).setCell ⟨w.heap.size + 1, 1, none⟩ (.int .i64 v) = W4 at hX hok3 ⊢
    have x0 := hX.c0
    have x1 := hX.c1
    exact bodyPost_ret (v := stV (u, v)) (by simp [results, Try.results61, go_sem, x0, x1]) rfl ⟨rfl, hok3⟩
theorem ref20Hear_wrong (t n now a b most : Int) (w : World) (h : Hlc.right (a, b) = false) : Calls Try.prog 63 #[stV (t, n), .int .i64 now, stV (a, b), .int .i64 most] w fun e w' => e = .returned (.tuple #[stV (Hlc.tick (t, n) now), .bool false]) ∧ Ok w w' := by
  have KM := Lib.hid fun w => ref20Right (a, b) w
  have KT := Lib.hid fun w => ref20Tick (t, n) now w
  have HC := Lib.hid ((Box.new w t n 28 rfl).next (((Ok.refl _).alloc (.cells #[.int .i64 a, .int .i64 b] 28)).alloc (.cells #[.int .i64 0, .int .i64 0] 28)))
  have HS := Lib.hid ((Box.new (w.alloc (.cells #[.int .i64 t, .int .i64 n] 28)) a b 28 (g := w.heap.size + 1) (by simp)).next ((Ok.refl _).alloc (.cells #[.int .i64 0, .int .i64 0] 28)))
  have HR := Lib.hid (Slab.new ((w.alloc (.cells #[.int .i64 t, .int .i64 n] 28)).alloc (.cells #[.int .i64 a, .int .i64 b] 28)) 0 0 28 (g := w.heap.size + 1 + 1) (by simp))
  have HK := Lib.hid ((((Ok.refl w).alloc (.cells #[.int .i64 t, .int .i64 n] 28)).alloc (.cells #[.int .i64 a, .int .i64 b] 28)).alloc (.cells #[.int .i64 0, .int .i64 0] 28))
  have hrw : w.heap.size ≤ w.heap.size + 1 + 1 := by omega
  rw [h] at KM
  generalize Hlc.tick (t, n) now = z at KT ⊢
  obtain ⟨u, v⟩ := z
  clear h
  go_enter Try.func63, Try.ntmps63
  go_wp2_with (first | (go_at_call 25; refine (KM.out _).mono ?_; rintro e w1 ⟨rfl, hb1⟩; obtain ⟨c0, c1, hcl⟩ := HC.out.next hb1; obtain ⟨s0, s1, hsl⟩ := HS.out.next hb1; have hR := HR.out.next hb1; have hok := HK.out.trans hb1; clear hb1 HC HS HR HK) | (go_at_call 61; refine (KT.out _).mono ?_; rintro e w4 ⟨rfl, hb1⟩; replace hR := hR.next hb1; replace hok := hok.trans hb1; clear hb1; have r0 := hR.c0; have r1 := hR.c1; have f0 := hR.f0; have f1 := hR.f1; have hRl := hR.lt))
  have hX := hR.set u v
  have hok3 := (hok.setCell (p := ⟨w.heap.size + 1 + 1, 0, none⟩) hrw (.int .i64 u)).setCell (p := ⟨w.heap.size + 1 + 1, 1, none⟩) hrw (.int .i64 v)
  generalize (w4.setCell ⟨w.heap.size + 1 + 1, 0, none⟩ (.int .i64 u)).setCell ⟨w.heap.size + 1 + 1, 1, none⟩ (.int .i64 v) = W4 at hX hok3 ⊢
  have x0 := hX.c0
  have x1 := hX.c1
  exact bodyPost_ret (v := .tuple #[stV (u, v), .bool false]) (by simp [results, Try.results63, go_sem, x0, x1]) rfl ⟨rfl, hok3⟩
theorem ref20Hear_late (t n now a b most : Int) (w : World) (h : Hlc.right (a, b) = true) (h2 : most < a) : Calls Try.prog 63 #[stV (t, n), .int .i64 now, stV (a, b), .int .i64 most] w fun e w' => e = .returned (.tuple #[stV (Hlc.tick (t, n) now), .bool false]) ∧ Ok w w' := by
  have KM := Lib.hid fun w => ref20Right (a, b) w
  have KT := Lib.hid fun w => ref20Tick (t, n) now w
  have HC := Lib.hid ((Box.new w t n 28 rfl).next (((Ok.refl _).alloc (.cells #[.int .i64 a, .int .i64 b] 28)).alloc (.cells #[.int .i64 0, .int .i64 0] 28)))
  have HS := Lib.hid ((Box.new (w.alloc (.cells #[.int .i64 t, .int .i64 n] 28)) a b 28 (g := w.heap.size + 1) (by simp)).next ((Ok.refl _).alloc (.cells #[.int .i64 0, .int .i64 0] 28)))
  have HR := Lib.hid (Slab.new ((w.alloc (.cells #[.int .i64 t, .int .i64 n] 28)).alloc (.cells #[.int .i64 a, .int .i64 b] 28)) 0 0 28 (g := w.heap.size + 1 + 1) (by simp))
  have HK := Lib.hid ((((Ok.refl w).alloc (.cells #[.int .i64 t, .int .i64 n] 28)).alloc (.cells #[.int .i64 a, .int .i64 b] 28)).alloc (.cells #[.int .i64 0, .int .i64 0] 28))
  have hrw : w.heap.size ≤ w.heap.size + 1 + 1 := by omega
  rw [h] at KM
  generalize Hlc.tick (t, n) now = z at KT ⊢
  obtain ⟨u, v⟩ := z
  clear h
  go_enter Try.func63, Try.ntmps63
  go_wp2_with (first | (go_at_call 25; refine (KM.out _).mono ?_; rintro e w1 ⟨rfl, hb1⟩; obtain ⟨c0, c1, hcl⟩ := HC.out.next hb1; obtain ⟨s0, s1, hsl⟩ := HS.out.next hb1; have hR := HR.out.next hb1; have hok := HK.out.trans hb1; clear hb1 HC HS HR HK) | (go_at_call 61; refine (KT.out _).mono ?_; rintro e w4 ⟨rfl, hb1⟩; replace hR := hR.next hb1; replace hok := hok.trans hb1; clear hb1; have r0 := hR.c0; have r1 := hR.c1; have f0 := hR.f0; have f1 := hR.f1; have hRl := hR.lt))
  have hX := hR.set u v
  have hok3 := (hok.setCell (p := ⟨w.heap.size + 1 + 1, 0, none⟩) hrw (.int .i64 u)).setCell (p := ⟨w.heap.size + 1 + 1, 1, none⟩) hrw (.int .i64 v)
  generalize (w4.setCell ⟨w.heap.size + 1 + 1, 0, none⟩ (.int .i64 u)).setCell ⟨w.heap.size + 1 + 1, 1, none⟩ (.int .i64 v) = W4 at hX hok3 ⊢
  have x0 := hX.c0
  have x1 := hX.c1
  exact bodyPost_ret (v := .tuple #[stV (u, v), .bool false]) (by simp [results, Try.results63, go_sem, x0, x1]) rfl ⟨rfl, hok3⟩
set_option maxHeartbeats 800000 in
theorem ref20Hear_11 (t n now a b most : Int) (w : World) (c : Int) (hc : Sat.clip now = c) (h : Hlc.right (a, b) = true) (h2 : a ≤ most) (l1 : Hlc.less (t, n) (a, b) = true) (l2 : Hlc.less (a, b) (c, -1) = true) : Calls Try.prog 63 #[stV (t, n), .int .i64 now, stV (a, b), .int .i64 most] w fun e w' => e = .returned (.tuple #[stV (Hlc.next (c, -1)), .bool true]) ∧ Ok w w' := by
  have KM := Lib.hid fun w => ref20Right (a, b) w
  have KC := Lib.hid fun w => refClip now w
  have KL1 := Lib.hid fun w => ref20Less (t, n) (a, b) w
  have KL2 := Lib.hid fun w => ref20Less (a, b) (c, -1) w
  have KN := Lib.hid fun w => ref20Next (c, -1) w
  rw [h] at KM
  rw [hc] at KC
  rw [l1] at KL1
  rw [l2] at KL2
  have HC := Lib.hid ((Box.new w t n 28 rfl).next (((Ok.refl _).alloc (.cells #[.int .i64 a, .int .i64 b] 28)).alloc (.cells #[.int .i64 0, .int .i64 0] 28)))
  have HS := Lib.hid ((Box.new (w.alloc (.cells #[.int .i64 t, .int .i64 n] 28)) a b 28 (g := w.heap.size + 1) (by simp)).next ((Ok.refl _).alloc (.cells #[.int .i64 0, .int .i64 0] 28)))
  have HR := Lib.hid (Slab.new ((w.alloc (.cells #[.int .i64 t, .int .i64 n] 28)).alloc (.cells #[.int .i64 a, .int .i64 b] 28)) 0 0 28 (g := w.heap.size + 1 + 1) (by simp))
  have HK := Lib.hid ((((Ok.refl w).alloc (.cells #[.int .i64 t, .int .i64 n] 28)).alloc (.cells #[.int .i64 a, .int .i64 b] 28)).alloc (.cells #[.int .i64 0, .int .i64 0] 28))
  have hrw : w.heap.size ≤ w.heap.size + 1 + 1 := by omega
  generalize Hlc.next (c, -1) = z at KN ⊢
  obtain ⟨u, v⟩ := z
  clear h l1 l2 hc
  go_enter Try.func63, Try.ntmps63
  go_wp2_with (first | (go_at_call 25; refine (KM.out _).mono ?_; rintro e w1 ⟨rfl, hb1⟩; have hC := HC.out.next hb1; have hS := HS.out.next hb1; have hR := HR.out.next hb1; have hok := HK.out.trans hb1; clear hb1 HC HS HR HK; obtain ⟨c0, c1, hcl⟩ := hC; obtain ⟨s0, s1, hsl⟩ := hS; have hB := Slab.new w1 t n 28 rfl; obtain ⟨s2, s3, hsl2⟩ := (show Box w1 (w.heap.size + 1) a b from ⟨s0, s1, hsl⟩).next ((Ok.refl _).alloc (.cells #[.int .i64 t, .int .i64 n] 28)); have hx := hR.lt) | (go_at_call 42; refine (KC.out _).mono ?_; rintro e w8 ⟨rfl, rfl⟩) | (go_at_call 26; (with_reducible refine (KL2.out _).mono ?_); rintro e w3 ⟨rfl, hb1⟩; have hT := (Slab.new ((w2.setCell ⟨w1.heap.size, 0, none⟩ (.int .i64 a)).setCell ⟨w1.heap.size, 1, none⟩ (.int .i64 b)) c (-1) 28 (g := w2.heap.size) (by simp)).next hb1; have hY := hR.lt; replace hB := ((hB.set a b).alloc _).next hb1; replace hR := (((hR.setOther (show w.heap.size + 1 + 1 ≠ w1.heap.size by omega) _).setOther (show w.heap.size + 1 + 1 ≠ w1.heap.size by omega) _).alloc _).next hb1; replace hok := (((hok.setCell (show w.heap.size ≤ w1.heap.size by omega) _).setCell (show w.heap.size ≤ w1.heap.size by omega) _).alloc _).trans hb1; clear hb1 b0 b1 g0 g1 hbl; have b0 := hB.c0; have b1 := hB.c1; have g0 := hB.f0; have g1 := hB.f1; have hbl := hB.lt; have q0 := hT.c0; have q1 := hT.c1; have hql := hT.lt) | (go_at_call 26; (with_reducible refine (KL1.out _).mono ?_); rintro e w2 ⟨rfl, hb1⟩; obtain ⟨s4, s5, hsl3⟩ := (show Box (w1.alloc (.cells #[.int .i64 t, .int .i64 n] 28)) (w.heap.size + 1) a b from ⟨s2, s3, hsl2⟩).next hb1; replace hB := hB.next hb1; replace hR := (hR.alloc _).next hb1; replace hok := (hok.alloc _).trans hb1; clear hb1 s0 s1 s2 s3 hsl hsl2 c0 c1; have b0 := hB.c0; have b1 := hB.c1; have g0 := hB.f0; have g1 := hB.f1; have hbl := hB.lt) | (go_at_call 86; refine (KN.out _).mono ?_; rintro e w4 ⟨rfl, hb1⟩; replace hR := ((hR.setOther (show w.heap.size + 1 + 1 ≠ w1.heap.size by omega) _).setOther (show w.heap.size + 1 + 1 ≠ w1.heap.size by omega) _).next hb1; replace hok := ((hok.setCell (show w.heap.size ≤ w1.heap.size by omega) _).setCell (show w.heap.size ≤ w1.heap.size by omega) _).trans hb1; clear hb1 b0 b1 g0 g1 hbl q0 q1 hql hB hT; have r0 := hR.c0; have r1 := hR.c1; have f0 := hR.f0; have f1 := hR.f1; have hRl := hR.lt))
  have hX := hR.set u v
  have hok3 := (hok.setCell (p := ⟨w.heap.size + 1 + 1, 0, none⟩) hrw (.int .i64 u)).setCell (p := ⟨w.heap.size + 1 + 1, 1, none⟩) hrw (.int .i64 v)
  generalize (w4.setCell ⟨w.heap.size + 1 + 1, 0, none⟩ (.int .i64 u)).setCell ⟨w.heap.size + 1 + 1, 1, none⟩ (.int .i64 v) = W4 at hX hok3 ⊢
  have x0 := hX.c0
  have x1 := hX.c1
  exact bodyPost_ret (v := .tuple #[stV (u, v), .bool true]) (by simp [results, Try.results63, go_sem, x0, x1]) rfl ⟨rfl, hok3⟩
set_option maxHeartbeats 800000 in
theorem ref20Hear_10 (t n now a b most : Int) (w : World) (c : Int) (hc : Sat.clip now = c) (h : Hlc.right (a, b) = true) (h2 : a ≤ most) (l1 : Hlc.less (t, n) (a, b) = true) (l2 : Hlc.less (a, b) (c, -1) = false) : Calls Try.prog 63 #[stV (t, n), .int .i64 now, stV (a, b), .int .i64 most] w fun e w' => e = .returned (.tuple #[stV (Hlc.next (a, b)), .bool true]) ∧ Ok w w' := by
  have KM := Lib.hid fun w => ref20Right (a, b) w
  have KC := Lib.hid fun w => refClip now w
  have KL1 := Lib.hid fun w => ref20Less (t, n) (a, b) w
  have KL2 := Lib.hid fun w => ref20Less (a, b) (c, -1) w
  have KN := Lib.hid fun w => ref20Next (a, b) w
  rw [h] at KM
  rw [hc] at KC
  rw [l1] at KL1
  rw [l2] at KL2
  have HC := Lib.hid ((Box.new w t n 28 rfl).next (((Ok.refl _).alloc (.cells #[.int .i64 a, .int .i64 b] 28)).alloc (.cells #[.int .i64 0, .int .i64 0] 28)))
  have HS := Lib.hid ((Box.new (w.alloc (.cells #[.int .i64 t, .int .i64 n] 28)) a b 28 (g := w.heap.size + 1) (by simp)).next ((Ok.refl _).alloc (.cells #[.int .i64 0, .int .i64 0] 28)))
  have HR := Lib.hid (Slab.new ((w.alloc (.cells #[.int .i64 t, .int .i64 n] 28)).alloc (.cells #[.int .i64 a, .int .i64 b] 28)) 0 0 28 (g := w.heap.size + 1 + 1) (by simp))
  have HK := Lib.hid ((((Ok.refl w).alloc (.cells #[.int .i64 t, .int .i64 n] 28)).alloc (.cells #[.int .i64 a, .int .i64 b] 28)).alloc (.cells #[.int .i64 0, .int .i64 0] 28))
  have hrw : w.heap.size ≤ w.heap.size + 1 + 1 := by omega
  generalize Hlc.next (a, b) = z at KN ⊢
  obtain ⟨u, v⟩ := z
  clear h l1 l2 hc
  go_enter Try.func63, Try.ntmps63
  go_wp2_with (first | (go_at_call 25; refine (KM.out _).mono ?_; rintro e w1 ⟨rfl, hb1⟩; have hC := HC.out.next hb1; have hS := HS.out.next hb1; have hR := HR.out.next hb1; have hok := HK.out.trans hb1; clear hb1 HC HS HR HK; obtain ⟨c0, c1, hcl⟩ := hC; obtain ⟨s0, s1, hsl⟩ := hS; have hB := Slab.new w1 t n 28 rfl; obtain ⟨s2, s3, hsl2⟩ := (show Box w1 (w.heap.size + 1) a b from ⟨s0, s1, hsl⟩).next ((Ok.refl _).alloc (.cells #[.int .i64 t, .int .i64 n] 28)); have hx := hR.lt) | (go_at_call 42; refine (KC.out _).mono ?_; rintro e w8 ⟨rfl, rfl⟩) | (go_at_call 26; (with_reducible refine (KL2.out _).mono ?_); rintro e w3 ⟨rfl, hb1⟩; have hT := (Slab.new ((w2.setCell ⟨w1.heap.size, 0, none⟩ (.int .i64 a)).setCell ⟨w1.heap.size, 1, none⟩ (.int .i64 b)) c (-1) 28 (g := w2.heap.size) (by simp)).next hb1; have hY := hR.lt; replace hB := ((hB.set a b).alloc _).next hb1; replace hR := (((hR.setOther (show w.heap.size + 1 + 1 ≠ w1.heap.size by omega) _).setOther (show w.heap.size + 1 + 1 ≠ w1.heap.size by omega) _).alloc _).next hb1; replace hok := (((hok.setCell (show w.heap.size ≤ w1.heap.size by omega) _).setCell (show w.heap.size ≤ w1.heap.size by omega) _).alloc _).trans hb1; clear hb1 b0 b1 g0 g1 hbl; have b0 := hB.c0; have b1 := hB.c1; have g0 := hB.f0; have g1 := hB.f1; have hbl := hB.lt; have q0 := hT.c0; have q1 := hT.c1; have hql := hT.lt) | (go_at_call 26; (with_reducible refine (KL1.out _).mono ?_); rintro e w2 ⟨rfl, hb1⟩; obtain ⟨s4, s5, hsl3⟩ := (show Box (w1.alloc (.cells #[.int .i64 t, .int .i64 n] 28)) (w.heap.size + 1) a b from ⟨s2, s3, hsl2⟩).next hb1; replace hB := hB.next hb1; replace hR := (hR.alloc _).next hb1; replace hok := (hok.alloc _).trans hb1; clear hb1 s0 s1 s2 s3 hsl hsl2 c0 c1; have b0 := hB.c0; have b1 := hB.c1; have g0 := hB.f0; have g1 := hB.f1; have hbl := hB.lt) | (go_at_call 86; refine (KN.out _).mono ?_; rintro e w4 ⟨rfl, hb1⟩; replace hR := hR.next hb1; replace hok := hok.trans hb1; clear hb1 b0 b1 g0 g1 hbl q0 q1 hql hB hT; have r0 := hR.c0; have r1 := hR.c1; have f0 := hR.f0; have f1 := hR.f1; have hRl := hR.lt))
  have hX := hR.set u v
  have hok3 := (hok.setCell (p := ⟨w.heap.size + 1 + 1, 0, none⟩) hrw (.int .i64 u)).setCell (p := ⟨w.heap.size + 1 + 1, 1, none⟩) hrw (.int .i64 v)
  generalize (w4.setCell ⟨w.heap.size + 1 + 1, 0, none⟩ (.int .i64 u)).setCell ⟨w.heap.size + 1 + 1, 1, none⟩ (.int .i64 v) = W4 at hX hok3 ⊢
  have x0 := hX.c0
  have x1 := hX.c1
  exact bodyPost_ret (v := .tuple #[stV (u, v), .bool true]) (by simp [results, Try.results63, go_sem, x0, x1]) rfl ⟨rfl, hok3⟩
set_option maxHeartbeats 800000 in
theorem ref20Hear_01 (t n now a b most : Int) (w : World) (c : Int) (hc : Sat.clip now = c) (h : Hlc.right (a, b) = true) (h2 : a ≤ most) (l1 : Hlc.less (t, n) (a, b) = false) (l2 : Hlc.less (t, n) (c, -1) = true) : Calls Try.prog 63 #[stV (t, n), .int .i64 now, stV (a, b), .int .i64 most] w fun e w' => e = .returned (.tuple #[stV (Hlc.next (c, -1)), .bool true]) ∧ Ok w w' := by
  have KM := Lib.hid fun w => ref20Right (a, b) w
  have KC := Lib.hid fun w => refClip now w
  have KL1 := Lib.hid fun w => ref20Less (t, n) (a, b) w
  have KL2 := Lib.hid fun w => ref20Less (t, n) (c, -1) w
  have KN := Lib.hid fun w => ref20Next (c, -1) w
  rw [h] at KM
  rw [hc] at KC
  rw [l1] at KL1
  rw [l2] at KL2
  have HC := Lib.hid ((Box.new w t n 28 rfl).next (((Ok.refl _).alloc (.cells #[.int .i64 a, .int .i64 b] 28)).alloc (.cells #[.int .i64 0, .int .i64 0] 28)))
  have HS := Lib.hid ((Box.new (w.alloc (.cells #[.int .i64 t, .int .i64 n] 28)) a b 28 (g := w.heap.size + 1) (by simp)).next ((Ok.refl _).alloc (.cells #[.int .i64 0, .int .i64 0] 28)))
  have HR := Lib.hid (Slab.new ((w.alloc (.cells #[.int .i64 t, .int .i64 n] 28)).alloc (.cells #[.int .i64 a, .int .i64 b] 28)) 0 0 28 (g := w.heap.size + 1 + 1) (by simp))
  have HK := Lib.hid ((((Ok.refl w).alloc (.cells #[.int .i64 t, .int .i64 n] 28)).alloc (.cells #[.int .i64 a, .int .i64 b] 28)).alloc (.cells #[.int .i64 0, .int .i64 0] 28))
  have hrw : w.heap.size ≤ w.heap.size + 1 + 1 := by omega
  generalize Hlc.next (c, -1) = z at KN ⊢
  obtain ⟨u, v⟩ := z
  clear h l1 l2 hc
  go_enter Try.func63, Try.ntmps63
  go_wp2_with (first | (go_at_call 25; refine (KM.out _).mono ?_; rintro e w1 ⟨rfl, hb1⟩; have hC := HC.out.next hb1; have hS := HS.out.next hb1; have hR := HR.out.next hb1; have hok := HK.out.trans hb1; clear hb1 HC HS HR HK; obtain ⟨c0, c1, hcl⟩ := hC; obtain ⟨s0, s1, hsl⟩ := hS; have hB := Slab.new w1 t n 28 rfl; obtain ⟨s2, s3, hsl2⟩ := (show Box w1 (w.heap.size + 1) a b from ⟨s0, s1, hsl⟩).next ((Ok.refl _).alloc (.cells #[.int .i64 t, .int .i64 n] 28)); have hx := hR.lt) | (go_at_call 42; refine (KC.out _).mono ?_; rintro e w8 ⟨rfl, rfl⟩) | (go_at_call 26; (with_reducible refine (KL2.out _).mono ?_); rintro e w3 ⟨rfl, hb1⟩; have hT := (Slab.new w2 c (-1) 28 (g := w2.heap.size) (by simp)).next hb1; have hY := hR.lt; replace hB := (hB.alloc _).next hb1; replace hR := (hR.alloc _).next hb1; replace hok := (hok.alloc _).trans hb1; clear hb1 b0 b1 g0 g1 hbl; have b0 := hB.c0; have b1 := hB.c1; have g0 := hB.f0; have g1 := hB.f1; have hbl := hB.lt; have q0 := hT.c0; have q1 := hT.c1; have hql := hT.lt) | (go_at_call 26; (with_reducible refine (KL1.out _).mono ?_); rintro e w2 ⟨rfl, hb1⟩; obtain ⟨s4, s5, hsl3⟩ := (show Box (w1.alloc (.cells #[.int .i64 t, .int .i64 n] 28)) (w.heap.size + 1) a b from ⟨s2, s3, hsl2⟩).next hb1; replace hB := hB.next hb1; replace hR := (hR.alloc _).next hb1; replace hok := (hok.alloc _).trans hb1; clear hb1 s0 s1 s2 s3 hsl hsl2 c0 c1; have b0 := hB.c0; have b1 := hB.c1; have g0 := hB.f0; have g1 := hB.f1; have hbl := hB.lt) | (go_at_call 86; refine (KN.out _).mono ?_; rintro e w4 ⟨rfl, hb1⟩; replace hR := ((hR.setOther (show w.heap.size + 1 + 1 ≠ w1.heap.size by omega) _).setOther (show w.heap.size + 1 + 1 ≠ w1.heap.size by omega) _).next hb1; replace hok := ((hok.setCell (show w.heap.size ≤ w1.heap.size by omega) _).setCell (show w.heap.size ≤ w1.heap.size by omega) _).trans hb1; clear hb1 b0 b1 g0 g1 hbl q0 q1 hql hB hT; have r0 := hR.c0; have r1 := hR.c1; have f0 := hR.f0; have f1 := hR.f1; have hRl := hR.lt))
  have hX := hR.set u v
  have hok3 := (hok.setCell (p := ⟨w.heap.size + 1 + 1, 0, none⟩) hrw (.int .i64 u)).setCell (p := ⟨w.heap.size + 1 + 1, 1, none⟩) hrw (.int .i64 v)
  generalize (w4.setCell ⟨w.heap.size + 1 + 1, 0, none⟩ (.int .i64 u)).setCell ⟨w.heap.size + 1 + 1, 1, none⟩ (.int .i64 v) = W4 at hX hok3 ⊢
  have x0 := hX.c0
  have x1 := hX.c1
  exact bodyPost_ret (v := .tuple #[stV (u, v), .bool true]) (by simp [results, Try.results63, go_sem, x0, x1]) rfl ⟨rfl, hok3⟩
set_option maxHeartbeats 800000 in
theorem ref20Hear_00 (t n now a b most : Int) (w : World) (c : Int) (hc : Sat.clip now = c) (h : Hlc.right (a, b) = true) (h2 : a ≤ most) (l1 : Hlc.less (t, n) (a, b) = false) (l2 : Hlc.less (t, n) (c, -1) = false) : Calls Try.prog 63 #[stV (t, n), .int .i64 now, stV (a, b), .int .i64 most] w fun e w' => e = .returned (.tuple #[stV (Hlc.next (t, n)), .bool true]) ∧ Ok w w' := by
  have KM := Lib.hid fun w => ref20Right (a, b) w
  have KC := Lib.hid fun w => refClip now w
  have KL1 := Lib.hid fun w => ref20Less (t, n) (a, b) w
  have KL2 := Lib.hid fun w => ref20Less (t, n) (c, -1) w
  have KN := Lib.hid fun w => ref20Next (t, n) w
  rw [h] at KM
  rw [hc] at KC
  rw [l1] at KL1
  rw [l2] at KL2
  have HC := Lib.hid ((Box.new w t n 28 rfl).next (((Ok.refl _).alloc (.cells #[.int .i64 a, .int .i64 b] 28)).alloc (.cells #[.int .i64 0, .int .i64 0] 28)))
  have HS := Lib.hid ((Box.new (w.alloc (.cells #[.int .i64 t, .int .i64 n] 28)) a b 28 (g := w.heap.size + 1) (by simp)).next ((Ok.refl _).alloc (.cells #[.int .i64 0, .int .i64 0] 28)))
  have HR := Lib.hid (Slab.new ((w.alloc (.cells #[.int .i64 t, .int .i64 n] 28)).alloc (.cells #[.int .i64 a, .int .i64 b] 28)) 0 0 28 (g := w.heap.size + 1 + 1) (by simp))
  have HK := Lib.hid ((((Ok.refl w).alloc (.cells #[.int .i64 t, .int .i64 n] 28)).alloc (.cells #[.int .i64 a, .int .i64 b] 28)).alloc (.cells #[.int .i64 0, .int .i64 0] 28))
  have hrw : w.heap.size ≤ w.heap.size + 1 + 1 := by omega
  generalize Hlc.next (t, n) = z at KN ⊢
  obtain ⟨u, v⟩ := z
  clear h l1 l2 hc
  go_enter Try.func63, Try.ntmps63
  go_wp2_with (first | (go_at_call 25; refine (KM.out _).mono ?_; rintro e w1 ⟨rfl, hb1⟩; have hC := HC.out.next hb1; have hS := HS.out.next hb1; have hR := HR.out.next hb1; have hok := HK.out.trans hb1; clear hb1 HC HS HR HK; obtain ⟨c0, c1, hcl⟩ := hC; obtain ⟨s0, s1, hsl⟩ := hS; have hB := Slab.new w1 t n 28 rfl; obtain ⟨s2, s3, hsl2⟩ := (show Box w1 (w.heap.size + 1) a b from ⟨s0, s1, hsl⟩).next ((Ok.refl _).alloc (.cells #[.int .i64 t, .int .i64 n] 28)); have hx := hR.lt) | (go_at_call 42; refine (KC.out _).mono ?_; rintro e w8 ⟨rfl, rfl⟩) | (go_at_call 26; (with_reducible refine (KL2.out _).mono ?_); rintro e w3 ⟨rfl, hb1⟩; have hT := (Slab.new w2 c (-1) 28 (g := w2.heap.size) (by simp)).next hb1; have hY := hR.lt; replace hB := (hB.alloc _).next hb1; replace hR := (hR.alloc _).next hb1; replace hok := (hok.alloc _).trans hb1; clear hb1 b0 b1 g0 g1 hbl; have b0 := hB.c0; have b1 := hB.c1; have g0 := hB.f0; have g1 := hB.f1; have hbl := hB.lt; have q0 := hT.c0; have q1 := hT.c1; have hql := hT.lt) | (go_at_call 26; (with_reducible refine (KL1.out _).mono ?_); rintro e w2 ⟨rfl, hb1⟩; obtain ⟨s4, s5, hsl3⟩ := (show Box (w1.alloc (.cells #[.int .i64 t, .int .i64 n] 28)) (w.heap.size + 1) a b from ⟨s2, s3, hsl2⟩).next hb1; replace hB := hB.next hb1; replace hR := (hR.alloc _).next hb1; replace hok := (hok.alloc _).trans hb1; clear hb1 s0 s1 s2 s3 hsl hsl2 c0 c1; have b0 := hB.c0; have b1 := hB.c1; have g0 := hB.f0; have g1 := hB.f1; have hbl := hB.lt) | (go_at_call 86; refine (KN.out _).mono ?_; rintro e w4 ⟨rfl, hb1⟩; replace hR := hR.next hb1; replace hok := hok.trans hb1; clear hb1 b0 b1 g0 g1 hbl q0 q1 hql hB hT; have r0 := hR.c0; have r1 := hR.c1; have f0 := hR.f0; have f1 := hR.f1; have hRl := hR.lt))
  have hX := hR.set u v
  have hok3 := (hok.setCell (p := ⟨w.heap.size + 1 + 1, 0, none⟩) hrw (.int .i64 u)).setCell (p := ⟨w.heap.size + 1 + 1, 1, none⟩) hrw (.int .i64 v)
  generalize (w4.setCell ⟨w.heap.size + 1 + 1, 0, none⟩ (.int .i64 u)).setCell ⟨w.heap.size + 1 + 1, 1, none⟩ (.int .i64 v) = W4 at hX hok3 ⊢
  have x0 := hX.c0
  have x1 := hX.c1
  exact bodyPost_ret (v := .tuple #[stV (u, v), .bool true]) (by simp [results, Try.results63, go_sem, x0, x1]) rfl ⟨rfl, hok3⟩
theorem ref20Hear (c0 : Int × Int) (now : Int) (s : Int × Int) (most : Int) (w : World) : Calls Try.prog 63 #[stV c0, .int .i64 now, stV s, .int .i64 most] w fun e w' => e = .returned (.tuple #[stV (Hlc.hear c0 now s most).1, .bool (Hlc.hear c0 now s most).2]) ∧ Ok w w' := by
  obtain ⟨t, n⟩ := c0
  obtain ⟨a, b⟩ := s
  by_cases h : Hlc.right (a, b) = true
  · by_cases h2 : a ≤ most
    · rw [show Hlc.hear (t, n) now (a, b) most = (Hlc.next (Hlc.best2 (Hlc.best2 (t, n) (a, b)) (Sat.clip now, -1)), true) from if_pos ⟨h, h2⟩]
      by_cases l1 : Hlc.less (t, n) (a, b) = true
      · rw [show Hlc.best2 (t, n) (a, b) = (a, b) from if_pos l1]
        by_cases l2 : Hlc.less (a, b) (Sat.clip now, -1) = true
        · rw [show Hlc.best2 (a, b) (Sat.clip now, -1) = (Sat.clip now, -1) from if_pos l2]
          exact ref20Hear_11 t n now a b most w _ rfl h h2 l1 l2
        · rw [show Hlc.best2 (a, b) (Sat.clip now, -1) = (a, b) from if_neg l2]
          exact ref20Hear_10 t n now a b most w _ rfl h h2 l1 (by simpa using l2)
      · rw [show Hlc.best2 (t, n) (a, b) = (t, n) from if_neg l1]
        by_cases l2 : Hlc.less (t, n) (Sat.clip now, -1) = true
        · rw [show Hlc.best2 (t, n) (Sat.clip now, -1) = (Sat.clip now, -1) from if_pos l2]
          exact ref20Hear_01 t n now a b most w _ rfl h h2 (by simpa using l1) l2
        · rw [show Hlc.best2 (t, n) (Sat.clip now, -1) = (t, n) from if_neg l2]
          exact ref20Hear_00 t n now a b most w _ rfl h h2 (by simpa using l1) (by simpa using l2)
    · rw [show Hlc.hear (t, n) now (a, b) most = (Hlc.tick (t, n) now, false) from if_neg fun g => h2 g.2]
      exact ref20Hear_late t n now a b most w h (by omega)
  · rw [show Hlc.hear (t, n) now (a, b) most = (Hlc.tick (t, n) now, false) from if_neg fun g => h g.1]
    exact ref20Hear_wrong t n now a b most w (by simpa using h)
theorem eqStamp20 (a b c d : Int) (w : World) : (Op.equalIn 10000 28 (.agg #[.int .i64 a, .int .i64 b]) (.agg #[.int .i64 c, .int .i64 d])).run Try.prog w = .ok (a == c && b == d) w := by
  have u3 := Try.underlying3
  have ag := Try.isAgg3
  have z3 := Try.sizeOf3
  have hS : Try.prog.underlying 28 = some (.struct (Try.prog.fieldsOf 28)) := by kernel_rfl
  have hp : Try.prog.stoodInHeld 28 = false := by kernel_rfl
  rw [show (10000 : Nat) = 9999 + 1 from rfl, run_equalIn_struct w 9999 28 _ _ hS hp]
  simp only [Program.fieldsOf, Try.underlying28]
  go_simp
  by_cases h1 : a = c <;> by_cases h2 : b = d <;> simp [h1, h2]
theorem eqStamp20' (a b c d : Int) (w : World) : (Op.equalIn 9999 28 (.agg #[.int .i64 a, .int .i64 b]) (.agg #[.int .i64 c, .int .i64 d])).run Try.prog w = .ok (a == c && b == d) w := by
  have u3 := Try.underlying3
  have ag := Try.isAgg3
  have z3 := Try.sizeOf3
  have hS : Try.prog.underlying 28 = some (.struct (Try.prog.fieldsOf 28)) := by kernel_rfl
  have hp : Try.prog.stoodInHeld 28 = false := by kernel_rfl
  rw [show (9999 : Nat) = 9998 + 1 from rfl, run_equalIn_struct w 9998 28 _ _ hS hp]
  simp only [Program.fieldsOf, Try.underlying28]
  go_simp
  by_cases h1 : a = c <;> by_cases h2 : b = d <;> simp [h1, h2]
theorem eqClock20 (a b c d : Int) (w : World) : (Op.equalIn 10000 80 (.agg #[.int .i64 a, .int .i64 b]) (.agg #[.int .i64 c, .int .i64 d])).run Try.prog w = .ok (a == c && b == d) w := by
  have u3 := Try.underlying28
  have ag := Try.isAgg28
  have z3 := Try.sizeOf28
  have hE := eqStamp20' a b c d
  have hS : Try.prog.underlying 80 = some (.struct (Try.prog.fieldsOf 80)) := by kernel_rfl
  have hp : Try.prog.stoodInHeld 80 = false := by kernel_rfl
  rw [show (10000 : Nat) = 9999 + 1 from rfl, run_equalIn_struct w 9999 80 _ _ hS hp]
  simp only [Program.fieldsOf, Try.underlying80]
  go_simp
  by_cases h1 : a = c <;> by_cases h2 : b = d <;> simp [h1, h2]
/-- A clock's stamp. -/
theorem clockField (s : Int × Int) (w : World) : Sem.run Try.prog (Instr.field 80 (stV s) 0) w = .ok (stV s) w := by kernel_rfl
end Go.Proofs.Ytlclfonlidcfiaa
