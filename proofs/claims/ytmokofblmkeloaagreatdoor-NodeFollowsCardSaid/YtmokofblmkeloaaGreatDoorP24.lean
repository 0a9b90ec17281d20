/- Several texts of mine in one: B14, B22. -/
import Derived.Test.YtmokofblmkeloaaGreatDoorC20a
import Derived.Test.YtmokofblmkeloaaGreatDoorB12
import Derived.Test.YtmokofblmkeloaaGreatDoorP22
import Derived.Deep.CutRange
import Derived.Laws.StructEq
import Derived.Laws.Tables
/- Contracts of layer 20: Tick, Hear and Mend, the program's and the document's. -/
namespace Go.Proofs.YtmokofblmkeloaaGreatDoor
open Go.RowKit
set_option maxRecDepth 100000
attribute [local go_sem ↓] Go.wp_at_zero Go.wp_at_succ
theorem hlcBegin (x : Int) (w : World) : Calls Tryz.prog 118 #[.int .i64 x] w fun e w' => e = .returned (stV (Sat.clip x, 0)) ∧ Ok w w' := by
  have hok := Ok.refl w
  go_enter Tryz.func118, Tryz.ntmps118
  go_wp2_with (go_at_call 54; refine (satClip _ _).mono ?_; rintro e w' ⟨rfl, rfl⟩)
  exact bodyPost_ret (v := stV (Sat.clip x, 0)) (by simp [results, Tryz.results118, go_sem]) rfl ⟨rfl, hok.alloc _⟩
theorem hlcMay (s : Int × Int) (most : Int) (w : World) : Calls Tryz.prog 117 #[stV s, .int .i64 most] w fun e w' => e = .returned (.bool (Hlc.right s && decide (s.1 ≤ most))) ∧ Ok w w' := by
  have hok := Ok.refl w
  obtain ⟨t, n⟩ := s
  have KR := Lib.hid fun w => hlcRight (t, n) w
  have HB := Lib.hid (Box.new w t n 28 rfl)
  generalize Hlc.right (t, n) = r at KR ⊢
  show Calls _ _ _ _ fun e w' => e = .returned (.bool (r && decide (t ≤ most))) ∧ Ok w w'
  cases r
  · rw [Bool.false_and]
    go_enter Tryz.func117, Tryz.ntmps117
    go_wp2_with (go_at_call 57; refine (KR.out _).mono ?_; rintro e w1 ⟨rfl, hb1⟩; have hB := HB.out.next hb1; have c0 := hB.c0; have hBl := hB.lt; replace hok := (hok.alloc _).trans hb1; clear hb1)
    go_ret
    exact ⟨rfl, hok⟩
  · rw [Bool.true_and]
    obtain ⟨d, hd⟩ : ∃ d, decide (t ≤ most) = d := ⟨_, rfl⟩
    rw [hd]
    go_enter Tryz.func117, Tryz.ntmps117
    go_wp2_with (go_at_call 57; refine (KR.out _).mono ?_; rintro e w1 ⟨rfl, hb1⟩; have hB := HB.out.next hb1; have c0 := hB.c0; have hBl := hB.lt; replace hok := (hok.alloc _).trans hb1; clear hb1)
    go_ret
    exact ⟨rfl, hok⟩
theorem hlcTick (c0 : Int × Int) (now : Int) (w : World) : Calls Tryz.prog 76 #[stV c0, .int .i64 now] w fun e w' => e = .returned (stV (Hlc.tick c0 now)) ∧ Ok w w' := by
  have hok := Ok.refl w
  obtain ⟨t, n⟩ := c0
  have KB := Lib.hid fun w => hlcBegin now w
  have KN := Lib.hid fun w => hlcNext (t, n) w
  rw [show Hlc.tick (t, n) now = if t < Sat.clip now then (Sat.clip now, 0) else Hlc.next (t, n) from rfl]
  generalize Sat.clip now = c at KB ⊢
  have HS := Lib.hid ((Box.new w t n 126 rfl).next ((Ok.refl _).alloc (.cells #[.int .i64 0, .int .i64 0] 126)))
  have HR := Lib.hid (Slab.new (w.alloc (.cells #[.int .i64 t, .int .i64 n] 126)) 0 0 126 (g := w.heap.size + 1) (by simp))
  have hrw : w.heap.size ≤ w.heap.size + 1 := by omega
  by_cases h : t < c
  · rw [if_pos h]
    go_enter Tryz.func76, Tryz.ntmps76
    go_wp2_with (go_at_call 118; refine (KB.out _).mono ?_; rintro e w1 ⟨rfl, hb1⟩; replace hb1 := hb1.alloc (.cells #[.int .i64 c, .int .i64 0] 126); have hS := HS.out.next hb1; have hR := HR.out.next hb1; replace hok := ((hok.alloc _).alloc _).trans hb1; clear hb1 HS HR; obtain ⟨s0, s1, hSl⟩ := hS; have r0 := hR.c0; have r1 := hR.c1; have f0 := hR.f0; have f1 := hR.f1; have hRl := hR.lt; have hb1 := True.intro)
    have hX := hR.set c 0
    have hok3 := (hok.setCell (p := ⟨w.heap.size + 1, 0, none⟩) hrw (.int .i64 c)).setCell (p := ⟨w.heap.size + 1, 1, none⟩) hrw (.int .i64 0)
    generalize ((w1.alloc (.cells #[.int .i64 c, .int .i64 0] 126)).setCell ⟨w.heap.size + 1, 0, none⟩ (.int .i64 c)).setCell ⟨w.heap.size + 1, 1, none⟩ (.int .i64 0) = W4 at hX hok3 ⊢
    have x0 := hX.c0
    have x1 := hX.c1
    exact bodyPost_ret (v := stV (c, 0)) (by simp [results, Tryz.results76, go_sem, x0, x1]) rfl ⟨rfl, hok3⟩
  · rw [if_neg h]
    generalize Hlc.next (t, n) = z at KN ⊢
    obtain ⟨u, v⟩ := z
    go_enter Tryz.func76, Tryz.ntmps76
    go_wp2_with (first | (go_at_call 118; refine (KB.out _).mono ?_; rintro e w1 ⟨rfl, hb1⟩; replace hb1 := hb1.alloc (.cells #[.int .i64 c, .int .i64 0] 126); have hS := HS.out.next hb1; have hR := HR.out.next hb1; replace hok := ((hok.alloc _).alloc _).trans hb1; clear hb1 HS HR; obtain ⟨s0, s1, hSl⟩ := hS; have r0 := hR.c0; have r1 := hR.c1; have f0 := hR.f0; have f1 := hR.f1; have hRl := hR.lt; have hb1 := True.intro) | (go_at_call 119; refine (KN.out _).mono ?_; rintro e w2 ⟨rfl, hb1⟩; replace hok := hok.trans hb1; replace hR := hR.next hb1; clear hb1 r0 r1 f0 f1 hRl; have r0 := hR.c0; have r1 := hR.c1; have f0 := hR.f0; have f1 := hR.f1; have hRl := hR.lt))
    have hX := hR.set u v
    have hok3 := (hok.setCell (p := ⟨w.heap.size + 1, 0, none⟩) hrw (.int .i64 u)).setCell (p := ⟨w.heap.size + 1, 1, none⟩) hrw (.int .i64 v)
    generalize (w2.setCell ⟨w.heap.size + 1, 0, none⟩ (.int .i64 u)).setCell ⟨w.heap.size + 1, 1, none⟩ (.int .i64 v) = W4 at hX hok3 ⊢
    have x0 := hX.c0
    have x1 := hX.c1
    exact bodyPost_ret (v := stV (u, v)) (by simp [results, Tryz.results76, go_sem, x0, x1]) rfl ⟨rfl, hok3⟩
end Go.Proofs.YtmokofblmkeloaaGreatDoor

/- Contracts of layer 20: Hear and Mend, the program's and the document's. -/
namespace Go.Proofs.YtmokofblmkeloaaGreatDoor
open Go.RowKit
set_option maxRecDepth 100000
attribute [local go_sem ↓] Go.wp_at_zero Go.wp_at_succ
theorem take_more20 {l : List (Int × Int)} {k : Nat} (h : k < l.length) : l.take (k + 1) = l.take k ++ [l[k]] := List.take_succ_eq_append_getElem h
set_option maxHeartbeats 800000 in
theorem hlcLatest (a : Int × Int) (A : Option Addr) (l : List (Int × Int)) (cap : Nat) (w : World) (h : PairsAt w A l) (hl : l.length ≤ 1000) :
    Calls Tryz.prog 162 #[stV a, .slice A l.length cap] w fun e w' => e = .returned (stV (l.foldl Hlc.best2 a)) ∧ Ok w w' := by
  have hok := Ok.refl w
  obtain ⟨a1, a2⟩ := a
  have KL := Lib.hid hlcLess
  go_enter Tryz.func162, Tryz.ntmps162
  go_upto_region 1 with fail
  have hS0 := (Slab.new w a1 a2 28 rfl).alloc (.cells #[.int .i64 0, .int .i64 0] 28)
  have hR0 := Slab.new (w.alloc (.cells #[.int .i64 a1, .int .i64 a2] 28)) 0 0 28 (g := w.heap.size + 1) (by simp)
  have hok0 := (hok.alloc (.cells #[.int .i64 a1, .int .i64 a2] 28)).alloc (.cells #[.int .i64 0, .int .i64 0] 28)
  obtain ⟨r, hr⟩ : ∃ r, w.heap.size + 1 = r := ⟨_, rfl⟩
  obtain ⟨g, hg⟩ : ∃ r, w.heap.size = r := ⟨_, rfl⟩
  have hgr : g < r := by omega
  have hwg : w.heap.size ≤ g := by omega
  rw [hr] at hR0 ⊢
  rw [hg] at hS0 ⊢
  clear hr hg hok
  generalize (w.alloc (.cells #[.int .i64 a1, .int .i64 a2] 28)).alloc (.cells #[.int .i64 0, .int .i64 0] 28) = W at *
  go_wp2
  go_loopw [9] (fun i wr => ∃ (k : Nat) (x y : Int), k ≤ l.length ∧ i = .int .i64 k ∧ (l.take k).foldl Hlc.best2 (a1, a2) = (x, y) ∧ Slab wr g x y ∧ Slab wr r 0 0 ∧ Ok w wr) (fun i _ => l.length - (intOf i).toNat)
  case atStart => exact ⟨0, a1, a2, Nat.zero_le _, rfl, rfl, hS0, hR0, hok0⟩
  case round =>
    obtain ⟨k, x, y, hk, rfl, he, hS, hR, hok⟩ := hrel
    clear hS0 hR0 hok0
    by_cases hlt : k < l.length
    · obtain ⟨b, off, hA, hb, p0, p1⟩ := h.below hok k hlt
      subst hA
      have e1 := Lib.hid (show (l.take (k + 1)).foldl Hlc.best2 (a1, a2) = Hlc.best2 (x, y) l[k] by rw [take_more20 hlt, List.foldl_append, he]; rfl)
      have hR2 := Lib.hid (hR.alloc (.cells #[.int .i64 l[k].1, .int .i64 l[k].2] 28))
      have hS2 := Lib.hid (hS.alloc (.cells #[.int .i64 l[k].1, .int .i64 l[k].2] 28))
      have hok2 := Lib.hid (hok.alloc (.cells #[.int .i64 l[k].1, .int .i64 l[k].2] 28))
      have hQ := Lib.hid (Box.new wr l[k].1 l[k].2 28 rfl)
      have c0 := hS.c0
      have c1 := hS.c1
      have hgl := hS.lt
      clear hR hS hok he
      by_cases d : Hlc.less (x, y) l[k] = true
      · rw [show Hlc.best2 (x, y) l[k] = l[k] from if_pos d] at e1
        go_wp2_with (go_at_call 192; refine (KL.out (x, y) l[k] _).mono ?_; rw [d]; rintro e w2 ⟨rfl, hb2⟩; have hR3 := hR2.out.next hb2; have hS3 := hS2.out.next hb2; have hok3 := hok2.out.trans hb2; obtain ⟨q0, q1, ql⟩ := hQ.out.next hb2; clear hb2 c0 c1 hgl hQ hR2 hS2 hok2; have f0 := hS3.f0; have f1 := hS3.f1; have c0 := hS3.c0; have c1 := hS3.c1; have hgl := hS3.lt)
        go_roundw
        case rel =>
          refine ⟨k + 1, l[k].1, l[k].2, by omega, by go_num, e1.out, hS3.set _ _, (hR3.setOther (by show r ≠ g; omega) _).setOther (by show r ≠ g; omega) _, (hok3.setCell (by show w.heap.size ≤ g; omega) _).setCell (by show w.heap.size ≤ g; omega) _⟩
        case measure => simp [intOf]; omega
      · rw [show Hlc.best2 (x, y) l[k] = (x, y) from if_neg d] at e1
        rw [Bool.not_eq_true] at d
        go_wp2_with (go_at_call 192; refine (KL.out (x, y) l[k] _).mono ?_; rw [d]; rintro e w2 ⟨rfl, hb2⟩; have hR3 := hR2.out.next hb2; have hS3 := hS2.out.next hb2; have hok3 := hok2.out.trans hb2; clear hb2 c0 c1 hgl hQ hR2 hS2 hok2)
        go_roundw
        case rel => exact ⟨k + 1, x, y, by omega, by go_num, e1.out, hS3, hR3, hok3⟩
        case measure => simp [intOf]; omega
    · have r0 := hR.c0
      have r1 := hR.c1
      have f0 := hR.f0
      have f1 := hR.f1
      have hrl := hR.lt
      have c0 := hS.c0
      have c1 := hS.c1
      have hgl := hS.lt
      have ek : l.take k = l := List.take_of_length_le (by omega)
      rw [ek] at he
      have he2 := Lib.hid he
      clear ek he
      go_wp2
      have hF := hR.set x y
      have hok2 := (hok.setCell (p := ⟨r, 0, none⟩) (by show w.heap.size ≤ r; omega) (.int .i64 x)).setCell (p := ⟨r, 1, none⟩) (by show w.heap.size ≤ r; omega) (.int .i64 y)
      generalize (wr.setCell ⟨r, 0, none⟩ (.int .i64 x)).setCell ⟨r, 1, none⟩ (.int .i64 y) = W3 at hF hok2 ⊢
      have q0 := hF.c0
      have q1 := hF.c1
      rw [he2.out]
      exact bodyPost_ret (v := stV (x, y)) (by simp [results, Tryz.results162, go_sem, q0, q1]) rfl ⟨rfl, hok2⟩
set_option maxHeartbeats 800000 in
theorem hlcHear (c0 : Int × Int) (now : Int) (s : Int × Int) (most : Int) (w : World) : Calls Tryz.prog 129 #[stV c0, .int .i64 now, stV s, .int .i64 most] w fun e w' => e = .returned (.tuple #[stV (Hlc.hear c0 now s most).1, .bool (Hlc.hear c0 now s most).2]) ∧ Ok w w' := by
  obtain ⟨t, n⟩ := c0
  obtain ⟨a, b⟩ := s
  have KM := Lib.hid fun w => hlcMay (a, b) most w
  have HC := Lib.hid ((Box.new w t n 126 rfl).next (((Ok.refl _).alloc (.cells #[.int .i64 a, .int .i64 b] 28)).alloc (.cells #[.int .i64 0, .int .i64 0] 126)))
  have HS := Lib.hid ((Box.new (w.alloc (.cells #[.int .i64 t, .int .i64 n] 126)) a b 28 (g := w.heap.size + 1) (by simp)).next ((Ok.refl _).alloc (.cells #[.int .i64 0, .int .i64 0] 126)))
  have HR := Lib.hid (Slab.new ((w.alloc (.cells #[.int .i64 t, .int .i64 n] 126)).alloc (.cells #[.int .i64 a, .int .i64 b] 28)) 0 0 126 (g := w.heap.size + 1 + 1) (by simp))
  have HK := Lib.hid ((((Ok.refl w).alloc (.cells #[.int .i64 t, .int .i64 n] 126)).alloc (.cells #[.int .i64 a, .int .i64 b] 28)).alloc (.cells #[.int .i64 0, .int .i64 0] 126))
  have hrw : w.heap.size ≤ w.heap.size + 1 + 1 := by omega
  by_cases h : Hlc.right (a, b) = true ∧ a ≤ most
  · have KC := Lib.hid fun w => satClip now w
    rw [show (Hlc.right (a, b) && decide ((a, b).1 ≤ most)) = true by rw [h.1, decide_eq_true h.2]; rfl] at KM
    rw [show Hlc.hear (t, n) now (a, b) most = (Hlc.next (Hlc.best2 (Hlc.best2 (t, n) (a, b)) (Sat.clip now, -1)), true) from if_pos h]
    generalize Sat.clip now = c at KC ⊢
    have KL := Lib.hid fun w A h => hlcLatest (t, n) A [(a, b), (c, -1)] 2 w h (by simp)
    rw [show [(a, b), (c, -1)].foldl Hlc.best2 (t, n) = Hlc.best2 (Hlc.best2 (t, n) (a, b)) (c, -1) from rfl] at KL
    generalize Hlc.best2 (Hlc.best2 (t, n) (a, b)) (c, -1) = d at KL ⊢
    have KN := Lib.hid fun w => hlcNext d w
    generalize Hlc.next d = z at KN ⊢
    obtain ⟨u, v⟩ := z
    obtain ⟨x, y⟩ := d
    clear h
    go_enter Tryz.func129, Tryz.ntmps129
    go_wp2_with (first | (go_at_call 117; refine (KM.out _).mono ?_; rintro e w1 ⟨rfl, hb1⟩; obtain ⟨c0, c1, hcl⟩ := HC.out.next hb1; obtain ⟨s0, s1, hsl⟩ := HS.out.next hb1; have hR := HR.out.next hb1; have hok := HK.out.trans hb1; clear hb1 HC HS HR HK) | (go_at_call 54; refine (KC.out _).mono ?_; rintro e w2 ⟨rfl, rfl⟩) | (go_at_call 162; refine (KL.out _ _ (pairs_new _ [(a, b), (c, -1)] _ _ rfl (by simp))).mono ?_; rintro e w3 ⟨rfl, hb1⟩; replace hR := ((hR.alloc _).alloc _).next hb1; replace hok := ((hok.alloc _).alloc _).trans hb1; clear hb1) | (go_at_call 119; refine (KN.out _).mono ?_; rintro e w4 ⟨rfl, hb1⟩; replace hR := hR.next hb1; replace hok := hok.trans hb1; clear hb1; have r0 := hR.c0; have r1 := hR.c1; have f0 := hR.f0; have f1 := hR.f1; have hRl := hR.lt))
    have hX := hR.set u v
    have hok3 := (hok.setCell (p := ⟨w.heap.size + 1 + 1, 0, none⟩) hrw (.int .i64 u)).setCell (p := ⟨w.heap.size + 1 + 1, 1, none⟩) hrw (.int .i64 v)
    generalize (w4.setCell ⟨w.heap.size + 1 + 1, 0, none⟩ (.int .i64 u)).setCell ⟨w.heap.size + 1 + 1, 1, none⟩ (.int .i64 v) = W4 at hX hok3 ⊢
    have x0 := hX.c0
    have x1 := hX.c1
    exact bodyPost_ret (v := .tuple #[stV (u, v), .bool true]) (by simp [results, Tryz.results129, go_sem, x0, x1]) rfl ⟨rfl, hok3⟩
  · have KT := Lib.hid fun w => hlcTick (t, n) now w
    rw [show (Hlc.right (a, b) && decide ((a, b).1 ≤ most)) = false by rw [Bool.and_eq_false_iff]; by_cases g : Hlc.right (a, b) = true; (exact Or.inr (decide_eq_false fun k => h ⟨g, k⟩)); exact Or.inl (by simpa using g)] at KM
    rw [show Hlc.hear (t, n) now (a, b) most = (Hlc.tick (t, n) now, false) from if_neg h]
    generalize Hlc.tick (t, n) now = z at KT ⊢
    obtain ⟨u, v⟩ := z
    clear h
    go_enter Tryz.func129, Tryz.ntmps129
    go_wp2_with (first | (go_at_call 117; refine (KM.out _).mono ?_; rintro e w1 ⟨rfl, hb1⟩; obtain ⟨c0, c1, hcl⟩ := HC.out.next hb1; obtain ⟨s0, s1, hsl⟩ := HS.out.next hb1; have hR := HR.out.next hb1; have hok := HK.out.trans hb1; clear hb1 HC HS HR HK) | (go_at_call 76; refine (KT.out _).mono ?_; rintro e w4 ⟨rfl, hb1⟩; replace hR := hR.next hb1; replace hok := hok.trans hb1; clear hb1; have r0 := hR.c0; have r1 := hR.c1; have f0 := hR.f0; have f1 := hR.f1; have hRl := hR.lt))
    have hX := hR.set u v
    have hok3 := (hok.setCell (p := ⟨w.heap.size + 1 + 1, 0, none⟩) hrw (.int .i64 u)).setCell (p := ⟨w.heap.size + 1 + 1, 1, none⟩) hrw (.int .i64 v)
    generalize (w4.setCell ⟨w.heap.size + 1 + 1, 0, none⟩ (.int .i64 u)).setCell ⟨w.heap.size + 1 + 1, 1, none⟩ (.int .i64 v) = W4 at hX hok3 ⊢
    have x0 := hX.c0
    have x1 := hX.c1
    exact bodyPost_ret (v := .tuple #[stV (u, v), .bool false]) (by simp [results, Tryz.results129, go_sem, x0, x1]) rfl ⟨rfl, hok3⟩
theorem hlcMend (c0 : Int × Int) (now most : Int) (w : World) : Calls Tryz.prog 74 #[stV c0, .int .i64 now, .int .i64 most] w fun e w' => e = .returned (.tuple #[stV (if Hlc.right c0 = true ∧ c0.1 ≤ most then c0 else (Sat.clip now, 0)), .bool (decide (¬ (Hlc.right c0 = true ∧ c0.1 ≤ most)))]) ∧ Ok w w' := by
  obtain ⟨t, n⟩ := c0
  have KM := Lib.hid fun w => hlcMay (t, n) most w
  have HC := Lib.hid ((Box.new w t n 126 rfl).next ((Ok.refl _).alloc (.cells #[.int .i64 0, .int .i64 0] 126)))
  have HR := Lib.hid (Slab.new (w.alloc (.cells #[.int .i64 t, .int .i64 n] 126)) 0 0 126 (g := w.heap.size + 1) (by simp))
  have HK := Lib.hid (((Ok.refl w).alloc (.cells #[.int .i64 t, .int .i64 n] 126)).alloc (.cells #[.int .i64 0, .int .i64 0] 126))
  have hrw : w.heap.size ≤ w.heap.size + 1 := by omega
  by_cases h : Hlc.right (t, n) = true ∧ t ≤ most
  · rw [show (Hlc.right (t, n) && decide ((t, n).1 ≤ most)) = true by rw [h.1, decide_eq_true h.2]; rfl] at KM
    rw [if_pos h, decide_eq_false (not_not_intro h)]
    clear h
    go_enter Tryz.func74, Tryz.ntmps74
    go_wp2_with (go_at_call 117; refine (KM.out _).mono ?_; rintro e w1 ⟨rfl, hb1⟩; obtain ⟨c0, c1, hcl⟩ := HC.out.next hb1; have hR := HR.out.next hb1; have hok := HK.out.trans hb1; clear hb1 HC HR HK; have r0 := hR.c0; have r1 := hR.c1; have f0 := hR.f0; have f1 := hR.f1; have hRl := hR.lt)
    have hX := hR.set t n
    have hok3 := (hok.setCell (p := ⟨w.heap.size + 1, 0, none⟩) hrw (.int .i64 t)).setCell (p := ⟨w.heap.size + 1, 1, none⟩) hrw (.int .i64 n)
    generalize (w1.setCell ⟨w.heap.size + 1, 0, none⟩ (.int .i64 t)).setCell ⟨w.heap.size + 1, 1, none⟩ (.int .i64 n) = W4 at hX hok3 ⊢
    have x0 := hX.c0
    have x1 := hX.c1
    exact bodyPost_ret (v := .tuple #[stV (t, n), .bool false]) (by simp [results, Tryz.results74, go_sem, x0, x1]) rfl ⟨rfl, hok3⟩
  · have KB := Lib.hid fun w => hlcBegin now w
    rw [show (Hlc.right (t, n) && decide ((t, n).1 ≤ most)) = false by rw [Bool.and_eq_false_iff]; by_cases g : Hlc.right (t, n) = true; (exact Or.inr (decide_eq_false fun k => h ⟨g, k⟩)); exact Or.inl (by simpa using g)] at KM
    rw [if_neg h, decide_eq_true h]
    generalize Sat.clip now = c at KB ⊢
    clear h
    go_enter Tryz.func74, Tryz.ntmps74
    go_wp2_with (first | (go_at_call 117; refine (KM.out _).mono ?_; rintro e w1 ⟨rfl, hb1⟩; obtain ⟨c0, c1, hcl⟩ := HC.out.next hb1; have hR := HR.out.next hb1; have hok := HK.out.trans hb1; clear hb1 HC HR HK; have r0 := hR.c0; have r1 := hR.c1; have f0 := hR.f0; have f1 := hR.f1; have hRl := hR.lt) | (go_at_call 118; refine (KB.out _).mono ?_; rintro e w4 ⟨rfl, hb1⟩; replace hR := hR.next hb1; replace hok := hok.trans hb1; clear hb1 r0 r1 f0 f1 hRl; have r0 := hR.c0; have r1 := hR.c1; have f0 := hR.f0; have f1 := hR.f1; have hRl := hR.lt))
    have hX := hR.set c 0
    have hok3 := (hok.setCell (p := ⟨w.heap.size + 1, 0, none⟩) hrw (.int .i64 c)).setCell (p := ⟨w.heap.size + 1, 1, none⟩) hrw (.int .i64 0)
    generalize (w4.setCell ⟨w.heap.size + 1, 0, none⟩ (.int .i64 c)).setCell ⟨w.heap.size + 1, 1, none⟩ (.int .i64 0) = W4 at hX hok3 ⊢
    have x0 := hX.c0
    have x1 := hX.c1
    exact bodyPost_ret (v := .tuple #[stV (c, 0), .bool true]) (by simp [results, Tryz.results74, go_sem, x0, x1]) rfl ⟨rfl, hok3⟩
end Go.Proofs.YtmokofblmkeloaaGreatDoor

/- Contracts of layer 20: Tick and Hear, the document's; the law's clock, and what every law asks first, the program's and the document's. -/
namespace Go.Proofs.YtmokofblmkeloaaGreatDoor
open Go.RowKit
set_option maxRecDepth 100000
attribute [local go_sem ↓] Go.wp_at_zero Go.wp_at_succ
/-- A clock's stamp. -/
theorem clockField (s : Int × Int) (w : World) : Sem.run Tryz.prog (Instr.field 126 (stV s) 0) w = .ok (stV s) w := by kernel_rfl
end Go.Proofs.YtmokofblmkeloaaGreatDoor
/- Words of my own: a region by facts (W11) whose last operations come one behind the other: the first of them waits for all ahead of it (at N + 1 steps at most), each other one for the one ahead of it. -/
namespace Go.Proofs.YtmokofblmkeloaaGreatDoor
open Go
section
variable {P : Program} {md : Region.Mode} {ops : Array Oper} {Q : Exit → Act → World → Prop} {V : Nat → Value → World → Prop} {R : World → World → Prop} {a0 : Act} {w0 : World}
theorem wpAny_chain (hB : regionB md ops a0.tmps.size = true) : ∀ (l : List Oper) (k : Nat), ops.toList.drop k = l →
    (∀ i, k < i → ∀ o, ops[i]? = some o → ∃ e ∈ o.after, Region.binds md e = true ∧ e.on + 1 = i) →
    ∀ (fuel : Nat) (listed : Array Bool) (a : Act) (w : World), listed.size = ops.size → (∀ j, j < k → j < ops.size → listed.getD j false = true) → (∀ j, k ≤ j → listed.getD j false = false) → l.length ≤ fuel → TailFrom P ops Q k l a w → wpAny P md ops Q fuel listed a w := by
  intro l
  induction l with
  | nil =>
    intro k hd hw fuel listed a w hs h1 h2 hf hT
    have hk : ops.size ≤ k := by simpa using hd
    have hr : Region.ready md ops listed = [] := by
      apply List.eq_nil_iff_forall_not_mem.2
      intro j hj
      obtain ⟨g0, oj, hoj, _⟩ := mem_ready.1 hj
      have hjl : j < ops.size := (Array.getElem?_eq_some_iff.1 hoj).1
      have := h1 j (by omega) hjl
      have hjs : j < listed.size := by omega
      simp [Array.getD, hjs] at this g0
      rw [this] at g0
      cases g0
    cases fuel with
    | zero => exact ⟨hr, hT⟩
    | succ f => exact ⟨fun _ => hT, fun j hj => by rw [hr] at hj; cases hj⟩
  | cons o l ih =>
    intro k hd hw fuel listed a w hs h1 h2 hf hT
    have hk : k < ops.size := by
      rcases Nat.lt_or_ge k ops.size with g | g
      · exact g
      · have : ops.toList.drop k = [] := by simpa using g
        rw [this] at hd
        cases hd
    have hok : ops[k]? = some ops[k] := Array.getElem?_eq_getElem hk
    cases fuel with
    | zero => simp at hf
    | succ f =>
      refine ⟨fun hr => ?_, fun i hi => ?_⟩
      · exfalso
        have hm : k ∈ Region.ready md ops listed := by
          refine mem_ready.2 ⟨?_, ops[k], hok, fun e he hb => ?_⟩
          · have := h2 k (Nat.le_refl _)
            have hks : k < listed.size := by omega
            simp [Array.getD, hks] at this ⊢
            exact this
          · have hlt := regionB_after hB hok e he hb
            exact h1 _ hlt (by omega)
        rw [hr] at hm
        cases hm
      · obtain ⟨g0, oi, hoi, hall⟩ := mem_ready.1 hi
        have hil : i < ops.size := (Array.getElem?_eq_some_iff.1 hoi).1
        have hge : k ≤ i := by
          rcases Nat.lt_or_ge i k with g | g
          · exfalso
            have := h1 i g hil
            have his : i < listed.size := by omega
            simp [Array.getD, his] at this g0
            rw [this] at g0
            cases g0
          · exact g
        have hik : i = k := by
          rcases Nat.lt_or_ge k i with g | g
          · exfalso
            obtain ⟨e, he, hb, hon⟩ := hw i g oi hoi
            have := hall e he hb
            rw [h2 e.on (by omega)] at this
            cases this
          · omega
        subst hik
        refine wpOp_mono (fun a' w' h' => ?_) hT
        refine ih (i + 1) ?_ (fun j hj o ho => hw j (by omega) o ho) f _ a' w' (by simpa using hs) (fun j hj hjl => ?_) (fun j hj => ?_) (by simpa using hf) h'
        · rw [← List.drop_drop, hd]
          rfl
        · by_cases e : j = i
          · subst e
            have hjs : j < listed.size := by omega
            simp [Array.getD_eq_getD_getElem?, hjs]
          · have := h1 j (by omega) hjl
            simpa [Array.getD_eq_getD_getElem?, Array.getElem?_setIfInBounds, Ne.symm e] using this
        · have e : j ≠ i := by omega
          have := h2 j (by omega)
          simpa [Array.getD_eq_getD_getElem?, Array.getElem?_setIfInBounds, Ne.symm e] using this
theorem wpAny_facts_chain {m : Nat} (hm : m ≤ ops.size) (N : Nat) (hw0 : ∀ j, j < m → waitsN md ops N m j = true) (hw : ∀ i, m < i → ∀ o, ops[i]? = some o → ∃ e ∈ o.after, Region.binds md e = true ∧ e.on + 1 = i) (hB : regionB md ops a0.tmps.size = true) (hV : ∀ i v w w', V i v w → R w w' → V i v w') (hT : ∀ a b c, R a b → R b c → R a c)
    (step : ∀ (i : Nat) (o : Oper) (a : Act) (w : World), i < m → ops[i]? = some o → RF ops V a0 (fun j => ∃ e ∈ o.after, Region.binds md e = true ∧ e.on = j) a w → R w0 w → wpOp P ops Q i (fun a' w' => ∃ v, a' = a.put o.dst v ∧ V i v w' ∧ R w w') a w)
    (tail : ∀ a w, RF ops V a0 (fun j => j < m) a w → OldM ops m a0 a → R w0 w → TailFrom P ops Q m (ops.toList.drop m) a w) :
    ∀ (fuel : Nat) (listed : Array Bool) (a : Act) (w : World), listed.size = ops.size → (List.range ops.size).countP (fun j => !listed.getD j false) ≤ fuel → (∀ j, m ≤ j → listed.getD j false = false) →
      (∀ k o, ops[k]? = some o → listed.getD k false = true → ∀ e ∈ o.after, Region.binds md e = true → listed.getD e.on false = true) →
      RF ops V a0 (fun j => listed.getD j false = true) a w → OldM ops m a0 a → R w0 w → wpAny P md ops Q fuel listed a w := by
  intro fuel
  have full : ∀ (fuel : Nat) (listed : Array Bool) (a : Act) (w : World), listed.size = ops.size → (List.range ops.size).countP (fun j => !listed.getD j false) ≤ fuel → (∀ j, m ≤ j → listed.getD j false = false) →
      RF ops V a0 (fun j => listed.getD j false = true) a w → OldM ops m a0 a → R w0 w → (∀ j, j < m → listed.getD j false = true) → wpAny P md ops Q fuel listed a w := by
    intro fuel listed a w hs hc hun hF hO hR hall
    refine wpAny_chain hB _ m rfl hw fuel listed a w hs (fun j hj _ => hall j hj) hun ?_ (tail a w (hF.mono fun j hj => hall j hj) hO hR)
    have h1 : (ops.toList.drop m).length = ops.size - m := by simp
    have h2 : ops.size - m ≤ (List.range ops.size).countP (fun j => !listed.getD j false) := by
      have e : List.range ops.size = List.range m ++ (List.range (ops.size - m)).map (m + ·) := by
        rw [← List.range_add]; congr 1; omega
      rw [e, List.countP_append]
      have : ((List.range (ops.size - m)).map (m + ·)).countP (fun j => !listed.getD j false) = ops.size - m := by
        have hh : ∀ x ∈ (List.range (ops.size - m)).map (m + ·), (fun j => !listed.getD j false) x = true := by
          intro x hx
          obtain ⟨y, _, rfl⟩ := List.mem_map.1 hx
          simp only [hun (m + y) (by omega), Bool.not_false]
        rw [List.countP_eq_length.2 hh]
        simp
      omega
    omega
  induction fuel with
  | zero =>
    intro listed a w hs hc hun hcl0 hF hO hR
    refine full 0 listed a w hs hc hun hF hO hR fun j hj => ?_
    have hz : (List.range ops.size).countP (fun j => !listed.getD j false) = 0 := by omega
    have := List.countP_eq_zero.1 hz j (List.mem_range.2 (by omega))
    simpa using this
  | succ fuel ih =>
    intro listed a w hs hc hun hcl0 hF hO hR
    by_cases hall : ∀ j, j < m → listed.getD j false = true
    · exact full (fuel + 1) listed a w hs hc hun hF hO hR hall
    refine ⟨fun hr => ?_, fun i hi => ?_⟩
    · exact absurd (fun j hj => ready_some hB hs hr j (by omega)) hall
    obtain ⟨h0, o, ho, hrd⟩ := mem_ready.1 hi
    have hlt : i < ops.size := (Array.getElem?_eq_some_iff.1 ho).1
    have hls : i < listed.size := by omega
    have huni : listed.getD i false = false := by simp [Array.getD, hls] at h0 ⊢; exact h0
    have hcl := count_less (listed := listed) (i := i) (n := ops.size) hls huni hlt
    have him : i < m := by
      rcases Nat.lt_or_ge i m with g | g
      · exact g
      · exfalso
        rcases Nat.eq_or_lt_of_le g with g | g
        · subst g
          refine hall fun j hj => ?_
          exact waitsN_listed hcl0 N m j o ho hrd (hw0 j hj)
        · obtain ⟨e, he, hb, hon⟩ := hw i g o ho
          have := hrd e he hb
          rw [hun e.on (by omega)] at this
          cases this
    have hst := step i o a w him ho (hF.mono (by rintro j ⟨e, he, hb, rfl⟩; exact hrd e he hb)) hR
    refine wpOp_mono (fun a' w' h' => ?_) hst
    obtain ⟨v, rfl, hv, hR'⟩ := h'
    refine ih (listed.setIfInBounds i true) _ w' (by simpa using hs) (by omega) (fun j hj => ?_) (fun k ok hok hk e he hb => ?_) ((hF.step hB hV ho hv hR').mono ?_) (fun k hk => by rw [put_other (hk i o him ho)]; exact hO k hk) (hT _ _ _ hR hR')
    · have e : j ≠ i := by omega
      simpa [Array.getD_eq_getD_getElem?, Array.getElem?_setIfInBounds, Ne.symm e] using hun j hj
    · have hset : ∀ j, (listed.setIfInBounds i true).getD j false = true ↔ listed.getD j false = true ∨ j = i := fun j => by
        by_cases e : j = i
        · subst e
          simp [Array.getD_eq_getD_getElem?, hls]
        · simp [Array.getD_eq_getD_getElem?, Ne.symm e, e]
      refine (hset _).2 (.inl ?_)
      rcases (hset k).1 hk with g | rfl
      · exact hcl0 k ok hok g e he hb
      · rw [ho] at hok
        cases hok
        exact hrd e he hb
    · intro j hj
      by_cases e : j = i
      · exact .inr e
      · left
        simpa [Array.getD_eq_getD_getElem?, Array.getElem?_setIfInBounds, Ne.symm e] using hj
/-- **A region that draws its order, by facts; its last operations, of which the first waits for all ahead of it, and each of the others for the one ahead of it, are run one behind the other on the whole frame.** -/
theorem wp_region_facts_chain {id : Nat} {a : Act} {w : World} (hm : P.follows .mixedOrders = true) (N n : Nat) (hn : a.tmps.size = n) (V : Nat → Value → World → Prop) (R : World → World → Prop) (ini : Array Oper) (m : Nat) (hini : ops.extract 0 m = ini) (hmi : ini.size = m) (hsz : m ≤ ops.size)
    (hre0 : ((List.range m).all fun j => waitsN .any ops N m j) = true) (hre : ((List.range ops.size).all fun i => decide (i ≤ m) || (ops[i]?.map fun o => o.after.any fun e => Region.binds .any e && e.on + 1 == i).getD true) = true) (hB : regionB .any ops n = true) (hBi : regionB .any ini n = true)
    (hV : ∀ i v w w', V i v w → R w w' → V i v w') (hT : ∀ a b c, R a b → R b c → R a c) (h0 : R w.drew w.drew) (ds : List (Option Tmp)) (hds : dsts ini = ds) (tl : List Oper) (htl : ops.toList.drop m = tl)
    (steps : StepsFrom P ops Q V R a w.drew 0 ini.toList)
    (last : ∀ (vs : Nat → Value) (w' : World), (∀ i, i < m → V i (vs i) w') → R w.drew w' → TailFrom P ops Q m tl (putFrom vs 0 ds a) w') : (Code.region id ops true).wp P Q a w := by
  subst hn hds htl
  refine wp_region_any hm ?_
  have hex : ∀ i o, i < m → ops[i]? = some o → ini[i]? = some o := fun i o hi ho => by
    rw [← hini, Array.getElem?_extract]
    simp only [Nat.zero_add]
    rw [if_pos (by omega)]
    exact ho
  have hex' : ∀ i o, ini[i]? = some o → ops[i]? = some o ∧ i < m := fun i o ho => by
    have hi : i < ini.size := (Array.getElem?_eq_some_iff.1 ho).1
    rw [hmi] at hi
    rw [← hini, Array.getElem?_extract] at ho
    simp only [Nat.zero_add] at ho
    rw [if_pos (by omega)] at ho
    exact ⟨ho, hi⟩
  have hw : ∀ i, m < i → ∀ o, ops[i]? = some o → ∃ e ∈ o.after, Region.binds .any e = true ∧ e.on + 1 = i := fun i hi o ho => by
    have hil : i < ops.size := (Array.getElem?_eq_some_iff.1 ho).1
    have h1 := List.all_eq_true.1 hre i (List.mem_range.2 hil)
    rw [ho] at h1
    simp only [Option.map_some, Option.getD_some, Bool.or_eq_true, decide_eq_true_eq] at h1
    rcases h1 with h1 | h1
    · omega
    · obtain ⟨e, he, hb⟩ := Array.any_eq_true'.1 h1
      simp only [Bool.and_eq_true, beq_iff_eq] at hb
      exact ⟨e, he, hb.1, hb.2⟩
  refine wpAny_facts_chain (a0 := a) (w0 := w.drew) (m := m) hsz N (fun j hj => List.all_eq_true.1 hre0 j (List.mem_range.2 hj)) hw hB hV hT (fun i o a' w' hi ho hF hR => ?_) (fun a' w' hF hO hR => ?_) _ _ _ _ (by simp) ?_ (fun j _ => ?_) (fun k o _ hk => ?_) ⟨fun j o hj _ => ?_, fun _ _ => rfl, rfl, rfl⟩ (fun _ _ => rfl) h0
  · have := StepsFrom.at_ ini.toList 0 i o steps (by rw [Array.getElem?_toList]; exact hex i o hi ho) a' w' hF hR
    rw [Nat.zero_add] at this
    exact this
  · have hF' : RF ini V a (fun j => j < ini.size) a' w' := by
      refine ⟨fun j o hj hoj => hF.at_ j o (by omega) (hex' j o hoj).1, fun k hk => hO k fun j o hj hoj => hk j o (hex j o hj hoj), hF.size, hF.defers⟩
    obtain ⟨vs, hvs, rfl⟩ := hF'.frame hBi
    exact last vs w' (fun i hi => hvs i (by omega)) hR
  · have := List.countP_le_length (p := fun j => !(Array.replicate ops.size false).getD j false) (l := List.range ops.size)
    simpa using this
  · rw [Array.getD_eq_getD_getElem?, Array.getElem?_replicate]
    split <;> rfl
  · rw [Array.getD_eq_getD_getElem?, Array.getElem?_replicate] at hk
    split at hk <;> cases hk
  · rw [Array.getD_eq_getD_getElem?, Array.getElem?_replicate] at hj
    split at hj <;> cases hj
end
end Go.Proofs.YtmokofblmkeloaaGreatDoor
