/- Contracts of layer 20: Tick, Hear and Mend, the program's and the document's. -/
import Derived.Test.YtnhjdinmakkknaaGreatDoorC20a
import Derived.Deep.CutRange
import Derived.Laws.StructEq
import Derived.Laws.Tables
namespace Go.Proofs.YtnhjdinmakkknaaGreatDoor
open Go.RowKit
set_option maxRecDepth 100000
attribute [local go_sem ↓] Go.wp_at_zero Go.wp_at_succ
theorem hlcBegin (x : Int) (w : World) : Calls Tryz.prog 119 #[.int .i64 x] w fun e w' => e = .returned (stV (Sat.clip x, 0)) ∧ Ok w w' := by
  have hok := Ok.refl w
  go_enter Tryz.func119, Tryz.ntmps119
  go_wp2_with (go_at_call 55; refine (satClip _ _).mono ?_; rintro e w' ⟨rfl, rfl⟩)
  exact bodyPost_ret (v := stV (Sat.clip x, 0)) (by simp [results, Tryz.results119, go_sem]) rfl ⟨rfl, hok.alloc _⟩
theorem hlcMay (s : Int × Int) (most : Int) (w : World) : Calls Tryz.prog 118 #[stV s, .int .i64 most] w fun e w' => e = .returned (.bool (Hlc.right s && decide (s.1 ≤ most))) ∧ Ok w w' := by
  have hok := Ok.refl w
  obtain ⟨t, n⟩ := s
  have KR := Lib.hid fun w => hlcRight (t, n) w
  have HB := Lib.hid (Box.new w t n 28 rfl)
  generalize Hlc.right (t, n) = r at KR ⊢
  show Calls _ _ _ _ fun e w' => e = .returned (.bool (r && decide (t ≤ most))) ∧ Ok w w'
  cases r
  · rw [Bool.false_and]
    go_enter Tryz.func118, Tryz.ntmps118
    go_wp2_with (go_at_call 58; refine (KR.out _).mono ?_; rintro e w1 ⟨rfl, hb1⟩; have hB := HB.out.next hb1; have c0 := hB.c0; have hBl := hB.lt; replace hok := (hok.alloc _).trans hb1; clear hb1)
    go_ret
    exact ⟨rfl, hok⟩
  · rw [Bool.true_and]
    obtain ⟨d, hd⟩ : ∃ d, decide (t ≤ most) = d := ⟨_, rfl⟩
    rw [hd]
    go_enter Tryz.func118, Tryz.ntmps118
    go_wp2_with (go_at_call 58; refine (KR.out _).mono ?_; rintro e w1 ⟨rfl, hb1⟩; have hB := HB.out.next hb1; have c0 := hB.c0; have hBl := hB.lt; replace hok := (hok.alloc _).trans hb1; clear hb1)
    go_ret
    exact ⟨rfl, hok⟩
theorem hlcTick (c0 : Int × Int) (now : Int) (w : World) : Calls Tryz.prog 77 #[stV c0, .int .i64 now] w fun e w' => e = .returned (stV (Hlc.tick c0 now)) ∧ Ok w w' := by
  have hok := Ok.refl w
  obtain ⟨t, n⟩ := c0
  have KB := Lib.hid fun w => hlcBegin now w
  have KN := Lib.hid fun w => hlcNext (t, n) w
  rw [show Hlc.tick (t, n) now = if t < Sat.clip now then (Sat.clip now, 0) else Hlc.next (t, n) from rfl]
  generalize Sat.clip now = c at KB ⊢
  have HS := Lib.hid ((Box.new w t n 127 rfl).next ((Ok.refl _).alloc (.cells #[.int .i64 0, .int .i64 0] 127)))
  have HR := Lib.hid (Slab.new (w.alloc (.cells #[.int .i64 t, .int .i64 n] 127)) 0 0 127 (g := w.heap.size + 1) (by simp))
  have hrw : w.heap.size ≤ w.heap.size + 1 := by omega
  by_cases h : t < c
  · rw [if_pos h]
    go_enter Tryz.func77, Tryz.ntmps77
    go_wp2_with (go_at_call 119; refine (KB.out _).mono ?_; rintro e w1 ⟨rfl, hb1⟩; replace hb1 := hb1.alloc (.cells #[.int .i64 c, .int .i64 0] 127); have hS := HS.out.next hb1; have hR := HR.out.next hb1; replace hok := ((hok.alloc _).alloc _).trans hb1; clear hb1 HS HR; obtain ⟨s0, s1, hSl⟩ := hS; have r0 := hR.c0; have r1 := hR.c1; have f0 := hR.f0; have f1 := hR.f1; have hRl := hR.lt; have hb1 := True.intro)
    have hX := hR.set c 0
    have hok3 := (hok.setCell (p := ⟨w.heap.size + 1, 0, none⟩) hrw (.int .i64 c)).setCell (p := ⟨w.heap.size + 1, 1, none⟩) hrw (.int .i64 0)
    generalize ((w1.alloc (.cells #[.int .i64 c, .int .i64 0] 127)).setCell ⟨w.heap.size + 1, 0, none⟩ (.int .i64 c)).setCell ⟨w.heap.size + 1, 1, none⟩ (.int .i64 0) = W4 at hX hok3 ⊢
    have x0 := hX.c0
    have x1 := hX.c1
    exact bodyPost_ret (v := stV (c, 0)) (by simp [results, Tryz.results77, go_sem, x0, x1]) rfl ⟨rfl, hok3⟩
  · rw [if_neg h]
    generalize Hlc.next (t, n) = z at KN ⊢
    obtain ⟨u, v⟩ := z
    go_enter Tryz.func77, Tryz.ntmps77
    go_wp2_with (first | (go_at_call 119; refine (KB.out _).mono ?_; rintro e w1 ⟨rfl, hb1⟩; replace hb1 := hb1.alloc (.cells #[.int .i64 c, .int .i64 0] 127); have hS := HS.out.next hb1; have hR := HR.out.next hb1; replace hok := ((hok.alloc _).alloc _).trans hb1; clear hb1 HS HR; obtain ⟨s0, s1, hSl⟩ := hS; have r0 := hR.c0; have r1 := hR.c1; have f0 := hR.f0; have f1 := hR.f1; have hRl := hR.lt; have hb1 := True.intro) | (go_at_call 120; refine (KN.out _).mono ?_; rintro e w2 ⟨rfl, hb1⟩; replace hok := hok.trans hb1; replace hR := hR.next hb1; clear hb1 r0 r1 f0 f1 hRl; have r0 := hR.c0; have r1 := hR.c1; have f0 := hR.f0; have f1 := hR.f1; have hRl := hR.lt))
    have hX := hR.set u v
    have hok3 := (hok.setCell (p := ⟨w.heap.size + 1, 0, none⟩) hrw (.int .i64 u)).setCell (p := ⟨w.heap.size + 1, 1, none⟩) hrw (.int .i64 v)
    generalize (w2.setCell ⟨w.heap.size + 1, 0, none⟩ (.int .i64 u)).setCell ⟨w.heap.size + 1, 1, none⟩ (.int .i64 v) = W4 at hX hok3 ⊢
    have x0 := hX.c0
    have x1 := hX.c1
    exact bodyPost_ret (v := stV (u, v)) (by simp [results, Tryz.results77, go_sem, x0, x1]) rfl ⟨rfl, hok3⟩
end Go.Proofs.YtnhjdinmakkknaaGreatDoor

/- Contracts of layer 20: Hear and Mend, the program's and the document's. -/
namespace Go.Proofs.YtnhjdinmakkknaaGreatDoor
open Go.RowKit
set_option maxRecDepth 100000
attribute [local go_sem ↓] Go.wp_at_zero Go.wp_at_succ
theorem take_more20 {l : List (Int × Int)} {k : Nat} (h : k < l.length) : l.take (k + 1) = l.take k ++ [l[k]] := List.take_succ_eq_append_getElem h
set_option maxHeartbeats 800000 in
theorem hlcLatest (a : Int × Int) (A : Option Addr) (l : List (Int × Int)) (cap : Nat) (w : World) (h : PairsAt w A l) (hl : l.length ≤ 1000) :
    Calls Tryz.prog 163 #[stV a, .slice A l.length cap] w fun e w' => e = .returned (stV (l.foldl Hlc.best2 a)) ∧ Ok w w' := by
  have hok := Ok.refl w
  obtain ⟨a1, a2⟩ := a
  have KL := Lib.hid hlcLess
  go_enter Tryz.func163, Tryz.ntmps163
  go_upto_region 1 with fail
  have hS0 := (Slab.new w a1 a2 28 rfl).alloc (.cells #[.int .i64 0, .int .i64 0] 28)
  have hR0 := Slab.new (w.alloc (.cells #[.int .i64 a1, .int .i64 a2] 28)) 0 0 28 (g := w.heap.size + 1) (by simp)
  have hok0 := (hok.alloc (.cells #[.int .i64 a1, .int .i64 a2] 28)).alloc (.cells #[.int .i64 0, .int .i64 0] 28)
  obtain ⟨r, hr⟩ : ∃ r, w.heap.size + 1 = r := ⟨_, rfl⟩
  obtain ⟨g, hg⟩ : ∃ r, w.heap.size = r := ⟨_, rfl⟩
  have hgr : g < r := by omega
  have hwg : w.heap.size ≤ g := by omega
  rw [hr] at hR0 ⊢
  rw [hg] at hS0 ⊢
  clear hr hg hok
  generalize (w.alloc (.cells #[.int .i64 a1, .int .i64 a2] 28)).alloc (.cells #[.int .i64 0, .int .i64 0] 28) = W at *
  go_wp2
  go_loopw [9] (fun i wr => ∃ (k : Nat) (x y : Int), k ≤ l.length ∧ i = .int .i64 k ∧ (l.take k).foldl Hlc.best2 (a1, a2) = (x, y) ∧ Slab wr g x y ∧ Slab wr r 0 0 ∧ Ok w wr) (fun i _ => l.length - (intOf i).toNat)
  case atStart => exact ⟨0, a1, a2, Nat.zero_le _, rfl, rfl, hS0, hR0, hok0⟩
  case round =>
    obtain ⟨k, x, y, hk, rfl, he, hS, hR, hok⟩ := hrel
    clear hS0 hR0 hok0
    by_cases hlt : k < l.length
    · obtain ⟨b, off, hA, hb, p0, p1⟩ := h.below hok k hlt
      subst hA
      have e1 := Lib.hid (show (l.take (k + 1)).foldl Hlc.best2 (a1, a2) = Hlc.best2 (x, y) l[k] by rw [take_more20 hlt, List.foldl_append, he]; rfl)
      have hR2 := Lib.hid (hR.alloc (.cells #[.int .i64 l[k].1, .int .i64 l[k].2] 28))
      have hS2 := Lib.hid (hS.alloc (.cells #[.int .i64 l[k].1, .int .i64 l[k].2] 28))
      have hok2 := Lib.hid (hok.alloc (.cells #[.int .i64 l[k].1, .int .i64 l[k].2] 28))
      have hQ := Lib.hid (Box.new wr l[k].1 l[k].2 28 rfl)
      have c0 := hS.c0
      have c1 := hS.c1
      have hgl := hS.lt
      clear hR hS hok he
      by_cases d : Hlc.less (x, y) l[k] = true
      · rw [show Hlc.best2 (x, y) l[k] = l[k] from if_pos d] at e1
        go_wp2_with (go_at_call 193; refine (KL.out (x, y) l[k] _).mono ?_; rw [d]; rintro e w2 ⟨rfl, hb2⟩; have hR3 := hR2.out.next hb2; have hS3 := hS2.out.next hb2; have hok3 := hok2.out.trans hb2; obtain ⟨q0, q1, ql⟩ := hQ.out.next hb2; clear hb2 c0 c1 hgl hQ hR2 hS2 hok2; have f0 := hS3.f0; have f1 := hS3.f1; have c0 := hS3.c0; have c1 := hS3.c1; have hgl := hS3.lt)
        go_roundw
        case rel =>
          refine ⟨k + 1, l[k].1, l[k].2, by omega, by go_num, e1.out, hS3.set _ _, (hR3.setOther (by show r ≠ g; omega) _).setOther (by show r ≠ g; omega) _, (hok3.setCell (by show w.heap.size ≤ g; omega) _).setCell (by show w.heap.size ≤ g; omega) _⟩
        case measure => simp [intOf]; omega
      · rw [show Hlc.best2 (x, y) l[k] = (x, y) from if_neg d] at e1
        rw [Bool.not_eq_true] at d
        go_wp2_with (go_at_call 193; refine (KL.out (x, y) l[k] _).mono ?_; rw [d]; rintro e w2 ⟨rfl, hb2⟩; have hR3 := hR2.out.next hb2; have hS3 := hS2.out.next hb2; have hok3 := hok2.out.trans hb2; clear hb2 c0 c1 hgl hQ hR2 hS2 hok2)
        go_roundw
        case rel => exact ⟨k + 1, x, y, by omega, by go_num, e1.out, hS3, hR3, hok3⟩
        case measure => simp [intOf]; omega
    · have r0 := hR.c0
      have r1 := hR.c1
      have f0 := hR.f0
      have f1 := hR.f1
      have hrl := hR.lt
      have c0 := hS.c0
      have c1 := hS.c1
      have hgl := hS.lt
      have ek : l.take k = l := List.take_of_length_le (by omega)
      rw [ek] at he
      have he2 := Lib.hid he
      clear ek he
      go_wp2
      have hF := hR.set x y
      have hok2 := (hok.setCell (p := ⟨r, 0, none⟩) (by show w.heap.size ≤ r; omega) (.int .i64 x)).setCell (p := ⟨r, 1, none⟩) (by show w.heap.size ≤ r; omega) (.int .i64 y)
      generalize (wr.setCell ⟨r, 0, none⟩ (.int .i64 x)).setCell ⟨r, 1, none⟩ (.int .i64 y) = W3 at hF hok2 ⊢
      have q0 := hF.c0
      have q1 := hF.c1
      rw [he2.out]
      exact bodyPost_ret (v := stV (x, y)) (by simp [results, Tryz.results163, go_sem, q0, q1]) rfl ⟨rfl, hok2⟩
set_option maxHeartbeats 800000 in
theorem hlcHear (c0 : Int × Int) (now : Int) (s : Int × Int) (most : Int) (w : World) : Calls Tryz.prog 130 #[stV c0, .int .i64 now, stV s, .int .i64 most] w fun e w' => e = .returned (.tuple #[stV (Hlc.hear c0 now s most).1, .bool (Hlc.hear c0 now s most).2]) ∧ Ok w w' := by
  obtain ⟨t, n⟩ := c0
  obtain ⟨a, b⟩ := s
  have KM := Lib.hid fun w => hlcMay (a, b) most w
  have HC := Lib.hid ((Box.new w t n 127 rfl).next (((Ok.refl _).alloc (.cells #[.int .i64 a, .int .i64 b] 28)).alloc (.cells #[.int .i64 0, .int .i64 0] 127)))
  have HS := Lib.hid ((Box.new (w.alloc (.cells #[.int .i64 t, .int .i64 n] 127)) a b 28 (g := w.heap.size + 1) (by simp)).next ((Ok.refl _).alloc (.cells #[.int .i64 0, .int .i64 0] 127)))
  have HR := Lib.hid (Slab.new ((w.alloc (.cells #[.int .i64 t, .int .i64 n] 127)).alloc (.cells #[.int .i64 a, .int .i64 b] 28)) 0 0 127 (g := w.heap.size + 1 + 1) (by simp))
  have HK := Lib.hid ((((Ok.refl w).alloc (.cells #[.int .i64 t, .int .i64 n] 127)).alloc (.cells #[.int .i64 a, .int .i64 b] 28)).alloc (.cells #[.int .i64 0, .int .i64 0] 127))
  have hrw : w.heap.size ≤ w.heap.size + 1 + 1 := by omega
  by_cases h : Hlc.right (a, b) = true ∧ a ≤ most
  · have KC := Lib.hid fun w => satClip now w
    rw [show (Hlc.right (a, b) && decide ((a, b).1 ≤ most)) = true by rw [h.1, decide_eq_true h.2]; rfl] at KM
    rw [show Hlc.hear (t, n) now (a, b) most = (Hlc.next (Hlc.best2 (Hlc.best2 (t, n) (a, b)) (Sat.clip now, -1)), true) from if_pos h]
    generalize Sat.clip now = c at KC ⊢
    have KL := Lib.hid fun w A h => hlcLatest (t, n) A [(a, b), (c, -1)] 2 w h (by simp)
    rw [show [(a, b), (c, -1)].foldl Hlc.best2 (t, n) = Hlc.best2 (Hlc.best2 (t, n) (a, b)) (c, -1) from rfl] at KL
    generalize Hlc.best2 (Hlc.best2 (t, n) (a, b)) (c, -1) = d at KL ⊢
    have KN := Lib.hid fun w => hlcNext d w
    generalize Hlc.next d = z at KN ⊢
    obtain ⟨u, v⟩ := z
    obtain ⟨x, y⟩ := d
    clear h
    go_enter Tryz.func130, Tryz.ntmps130
    go_wp2_with (first | (go_at_call 118; refine (KM.out _).mono ?_; rintro e w1 ⟨rfl, hb1⟩; obtain ⟨c0, c1, hcl⟩ := HC.out.next hb1; obtain ⟨s0, s1, hsl⟩ := HS.out.next hb1; have hR := HR.out.next hb1; have hok := HK.out.trans hb1; clear hb1 HC HS HR HK) | (go_at_call 55; refine (KC.out _).mono ?_; rintro e w2 ⟨rfl, rfl⟩) | (go_at_call 163; refine (KL.out _ _ (pairs_new _ [(a, b), (c, -1)] _ _ rfl (by simp))).mono ?_; rintro e w3 ⟨rfl, hb1⟩; replace hR := ((hR.alloc _).alloc _).next hb1; replace hok := ((hok.alloc _).alloc _).trans hb1; clear hb1) | (go_at_call 120; refine (KN.out _).mono ?_; rintro e w4 ⟨rfl, hb1⟩; replace hR := hR.next hb1; replace hok := hok.trans hb1; clear hb1; have r0 := hR.c0; have r1 := hR.c1; have f0 := hR.f0; have f1 := hR.f1; have hRl := hR.lt))
    have hX := hR.set u v
    have hok3 := (hok.setCell (p := ⟨w.heap.size + 1 + 1, 0, none⟩) hrw (.int .i64 u)).setCell (p := ⟨w.heap.size + 1 + 1, 1, none⟩) hrw (.int .i64 v)
    generalize (w4.setCell ⟨w.heap.size + 1 + 1, 0, none⟩ (.int .i64 u)).setCell ⟨w.heap.size + 1 + 1, 1, none⟩ (.int .i64 v) = W4 at hX hok3 ⊢
    have x0 := hX.c0
    have x1 := hX.c1
    exact bodyPost_ret (v := .tuple #[stV (u, v), .bool true]) (by simp [results, Tryz.results130, go_sem, x0, x1]) rfl ⟨rfl, hok3⟩
  · have KT := Lib.hid fun w => hlcTick (t, n) now w
    rw [show (Hlc.right (a, b) && decide ((a, b).1 ≤ most)) = false by rw [Bool.and_eq_false_iff]; by_cases g : Hlc.right (a, b) = true; (exact Or.inr (decide_eq_false fun k => h ⟨g, k⟩)); exact Or.inl (by simpa using g)] at KM
    rw [show Hlc.hear (t, n) now (a, b) most = (Hlc.tick (t, n) now, false) from if_neg h]
    generalize Hlc.tick (t, n) now = z at KT ⊢
    obtain ⟨u, v⟩ := z
    clear h
    go_enter Tryz.func130, Tryz.ntmps130
    go_wp2_with (first | (go_at_call 118; refine (KM.out _).mono ?_; rintro e w1 ⟨rfl, hb1⟩; obtain ⟨c0, c1, hcl⟩ := HC.out.next hb1; obtain ⟨s0, s1, hsl⟩ := HS.out.next hb1; have hR := HR.out.next hb1; have hok := HK.out.trans hb1; clear hb1 HC HS HR HK) | (go_at_call 77; refine (KT.out _).mono ?_; rintro e w4 ⟨rfl, hb1⟩; replace hR := hR.next hb1; replace hok := hok.trans hb1; clear hb1; have r0 := hR.c0; have r1 := hR.c1; have f0 := hR.f0; have f1 := hR.f1; have hRl := hR.lt))
    have hX := hR.set u v
    have hok3 := (hok.setCell (p := ⟨w.heap.size + 1 + 1, 0, none⟩) hrw (.int .i64 u)).setCell (p := ⟨w.heap.size + 1 + 1, 1, none⟩) hrw (.int .i64 v)
    generalize (w4.setCell ⟨w.heap.size + 1 + 1, 0, none⟩ (.int .i64 u)).setCell ⟨w.heap.size + 1 + 1, 1, none⟩ (.int .i64 v) = W4 at hX hok3 ⊢
    have x0 := hX.c0
    have x1 := hX.c1
    exact bodyPost_ret (v := .tuple #[stV (u, v), .bool false]) (by simp [results, Tryz.results130, go_sem, x0, x1]) rfl ⟨rfl, hok3⟩
theorem hlcMend (c0 : Int × Int) (now most : Int) (w : World) : Calls Tryz.prog 75 #[stV c0, .int .i64 now, .int .i64 most] w fun e w' => e = .returned (.tuple #[stV (if Hlc.right c0 = true ∧ c0.1 ≤ most then c0 else (Sat.clip now, 0)), .bool (decide (¬ (Hlc.right c0 = true ∧ c0.1 ≤ most)))]) ∧ Ok w w' := by
  obtain ⟨t, n⟩ := c0
  have KM := Lib.hid fun w => hlcMay (t, n) most w
  have HC := Lib.hid ((Box.new w t n 127 rfl).next ((Ok.refl _).alloc (.cells #[.int .i64 0, .int .i64 0] 127)))
  have HR := Lib.hid (Slab.new (w.alloc (.cells #[.int .i64 t, .int .i64 n] 127)) 0 0 127 (g := w.heap.size + 1) (by simp))
  have HK := Lib.hid (((Ok.refl w).alloc (.cells #[.int .i64 t, .int .i64 n] 127)).alloc (.cells #[.int .i64 0, .int .i64 0] 127))
  have hrw : w.heap.size ≤ w.heap.size + 1 := by omega
  by_cases h : Hlc.right (t, n) = true ∧ t ≤ most
  · rw [show (Hlc.right (t, n) && decide ((t, n).1 ≤ most)) = true by rw [h.1, decide_eq_true h.2]; rfl] at KM
    rw [if_pos h, decide_eq_false (not_not_intro h)]
    clear h
    go_enter Tryz.func75, Tryz.ntmps75
    go_wp2_with (go_at_call 118; refine (KM.out _).mono ?_; rintro e w1 ⟨rfl, hb1⟩; obtain ⟨c0, c1, hcl⟩ := HC.out.next hb1; have hR := HR.out.next hb1; have hok := HK.out.trans hb1; clear hb1 HC HR HK; have r0 := hR.c0; have r1 := hR.c1; have f0 := hR.f0; have f1 := hR.f1; have hRl := hR.lt)
    have hX := hR.set t n
    have hok3 := (hok.setCell (p := ⟨w.heap.size + 1, 0, none⟩) hrw (.int .i64 t)).setCell (p := ⟨w.heap.size + 1, 1, none⟩) hrw (.int .i64 n)
    generalize (w1.setCell ⟨w.heap.size + 1, 0, none⟩ (.int .i64 t)).setCell ⟨w.heap.size + 1, 1, none⟩ (.int .i64 n) = W4 at hX hok3 ⊢
    have x0 := hX.c0
    have x1 := hX.c1
    exact bodyPost_ret (v := .tuple #[stV (t, n), .bool false]) (by simp [results, Tryz.results75, go_sem, x0, x1]) rfl ⟨rfl, hok3⟩
  · have KB := Lib.hid fun w => hlcBegin now w
    rw [show (Hlc.right (t, n) && decide ((t, n).1 ≤ most)) = false by rw [Bool.and_eq_false_iff]; by_cases g : Hlc.right (t, n) = true; (exact Or.inr (decide_eq_false fun k => h ⟨g, k⟩)); exact Or.inl (by simpa using g)] at KM
    rw [if_neg h, decide_eq_true h]
    generalize Sat.clip now = c at KB ⊢
    clear h
    go_enter Tryz.func75, Tryz.ntmps75
    go_wp2_with (first | (go_at_call 118; refine (KM.out _).mono ?_; rintro e w1 ⟨rfl, hb1⟩; obtain ⟨c0, c1, hcl⟩ := HC.out.next hb1; have hR := HR.out.next hb1; have hok := HK.out.trans hb1; clear hb1 HC HR HK; have r0 := hR.c0; have r1 := hR.c1; have f0 := hR.f0; have f1 := hR.f1; have hRl := hR.lt) | (go_at_call 119; refine (KB.out _).mono ?_; rintro e w4 ⟨rfl, hb1⟩; replace hR := hR.next hb1; replace hok := hok.trans hb1; clear hb1 r0 r1 f0 f1 hRl; have r0 := hR.c0; have r1 := hR.c1; have f0 := hR.f0; have f1 := hR.f1; have hRl := hR.lt))
    have hX := hR.set c 0
    have hok3 := (hok.setCell (p := ⟨w.heap.size + 1, 0, none⟩) hrw (.int .i64 c)).setCell (p := ⟨w.heap.size + 1, 1, none⟩) hrw (.int .i64 0)
    generalize (w4.setCell ⟨w.heap.size + 1, 0, none⟩ (.int .i64 c)).setCell ⟨w.heap.size + 1, 1, none⟩ (.int .i64 0) = W4 at hX hok3 ⊢
    have x0 := hX.c0
    have x1 := hX.c1
    exact bodyPost_ret (v := .tuple #[stV (c, 0), .bool true]) (by simp [results, Tryz.results75, go_sem, x0, x1]) rfl ⟨rfl, hok3⟩
end Go.Proofs.YtnhjdinmakkknaaGreatDoor

/- Contracts of layer 20: Tick and Hear, the document's; the law's clock, and what every law asks first, the program's and the document's. -/
namespace Go.Proofs.YtnhjdinmakkknaaGreatDoor
open Go.RowKit
set_option maxRecDepth 100000
attribute [local go_sem ↓] Go.wp_at_zero Go.wp_at_succ
/-- A clock's stamp. -/
theorem clockField (s : Int × Int) (w : World) : Sem.run Tryz.prog (Instr.field 127 (stV s) 0) w = .ok (stV s) w := by kernel_rfl
end Go.Proofs.YtnhjdinmakkknaaGreatDoor
