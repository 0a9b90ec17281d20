/- HlcTicks: for every stamp, time, message and most the law answers true: Tick, Hear and Mend answer what the document says. No condition. -/
import Derived.Test.YtgfnfjkajahoaaaC20d
import Derived.Test.YtgfnfjkajahoaaaW18
import Derived.Test.YtgfnfjkajahoaaaW28
import Derived.Test.YtgfnfjkajahoaaaC20e
import Derived.Test.YtgfnfjkajahoaaaW38
namespace Go.Proofs.Ytgfnfjkajahoaaa.hlcTicks
open Go.ChangeShapes Go.WideShapes Go.ChangeAt Go.RowKit
set_option linter.unusedVariables false
set_option maxRecDepth 100000
attribute [local go_sem ↓] Go.wp_at_zero Go.wp_at_succ
/-- What each operation leaves. -/
def VMR (N0 g h : Nat) (t n now a b most k1 k2 : Int) (q : Bool) (w : World) (v : Value) : Nat → Prop
  | 0 => v = .agg #[.int .i64 t, .int .i64 n]
  | 1 => v = .agg #[.int .i64 t, .int .i64 n]
  | 2 => v = .int .i64 now
  | 3 => v = .agg #[.int .i64 a, .int .i64 b]
  | 4 => v = .int .i64 most
  | 5 => v = .tuple #[.agg #[.int .i64 k1, .int .i64 k2], .bool q]
  | 6 => v = .tuple #[.agg #[.int .i64 k1, .int .i64 k2], .bool q]
  | 7 => v = .agg #[.int .i64 k1, .int .i64 k2]
  | 8 => v = .bool q
  | 9 => ∃ g : Nat, v = .pointer (some ⟨g, 0, none⟩) ∧ Own w g #[.int .i64 0, .int .i64 0] ∧ N0 ≤ g
  | _ => v = .bool true
/-- It stays so. -/
def VCR (N0 g h : Nat) (t n now a b most k1 k2 : Int) (q : Bool) (i : Nat) (v : Value) (w : World) : Prop := ∀ w', Ok w w' → VMR N0 g h t n now a b most k1 k2 q w' v i
/-- What each operation leaves. -/
def VMSwrong (g h gx g11 g13 g15 : Nat) (t n now k1 k2 x y c : Int) (q : Bool) (w : World) (v : Value) : Nat → Prop
  | 0 => v = .agg #[.int .i64 t, .int .i64 n]
  | 1 => v = .agg #[.int .i64 t, .int .i64 n]
  | 2 => v = .int .i64 now
  | 3 => v = .agg #[.int .i64 x, .int .i64 y]
  | 4 => v = .agg #[.int .i64 x, .int .i64 y]
  | 5 => v = .agg #[.int .i64 t, .int .i64 n]
  | 6 => v = .int .i64 now
  | 7 => v = .agg #[.int .i64 x, .int .i64 y]
  | 8 => v = .bool true
  | 9 => v = .bool true
  | 10 => v = .pointer (some ⟨gx, 0, none⟩)
  | 11 => v = .agg #[.int .i64 k1, .int .i64 k2]
  | 12 => v = .agg #[.int .i64 k1, .int .i64 k2]
  | 13 => v = .bool true
  | 14 => v = .bool true
  | 15 => v = .bool true
  | 16 => v = .bool q
  | 17 => v = .bool q
  | 18 => v = .bool true
  | 19 => v = .bool true
  | 20 => v = .bool true
  | 21 => v = .pointer (some ⟨g13, 0, none⟩)
  | 22 => v = .agg #[.int .i64 c, .int .i64 0]
  | 23 => v = .agg #[.int .i64 c, .int .i64 0]
  | 24 => v = .bool true
  | 25 => v = .bool true
  | 26 => v = .bool true
  | 27 => v = .bool true
  | 28 => v = .bool true
  | 29 => v = .bool true
  | 30 => v = .bool true
  | 31 => v = .bool true
  | _ => v = .bool true
/-- It stays so. -/
def VCSwrong (g h gx g11 g13 g15 : Nat) (t n now k1 k2 x y c : Int) (q : Bool) (i : Nat) (v : Value) (w : World) : Prop := ∀ w', Ok w w' → VMSwrong g h gx g11 g13 g15 t n now k1 k2 x y c q w' v i
set_option maxHeartbeats 3200000 in
theorem wrong (w : World) (t n now a b most : Int) (h : Hlc.right (t, n) = false) : Calls Try.prog 4 #[stV (t, n), .int .i64 now, stV (a, b), .int .i64 most] w fun e w' => e = .returned (.bool true) ∧ Ok w w' := by
  have KC := Lib.hid fun w => law20Clock (t, n) w
  have KH := Lib.hid fun w => hlcHear (t, n) now (a, b) most w
  have KI := Lib.hid fun w => ref20Hear (t, n) now (a, b) most w
  have KM := Lib.hid fun w => hlcMend (t, n) now most w
  have KT := Lib.hid fun w => hlcTick (t, n) now w
  have KU := Lib.hid fun w => ref20Tick (t, n) now w
  have KL := Lib.hid fun w => refClip now w
  have KR := Lib.hid fun w => ref20Right (t, n) w
  rw [h] at KR
  have hm : ¬ (Hlc.right (t, n) = true ∧ (t, n).1 ≤ most) := fun k => by rw [h] at k; cases k.1
  rw [if_neg hm, decide_eq_true hm] at KM
  clear hm
  generalize Sat.clip now = c at KL KM
  generalize Hlc.tick (t, n) now = z at KT KU
  obtain ⟨x, y⟩ := z
  generalize Hlc.hear (t, n) now (a, b) most = z at KH KI
  obtain ⟨⟨k1, k2⟩, q⟩ := z
  clear h
  have HH0 := Lib.hid (Held.two (W := w) t n a b 23 23 rfl rfl)
  have HK := Lib.hid (((Ok.refl w).alloc (.cells #[.int .i64 t, .int .i64 n] 23)).alloc (.cells #[.int .i64 a, .int .i64 b] 23))
  go_enter Try.func4, Try.ntmps4
  go_upto_region 3 with (go_at_call 9; (with_reducible refine (law20Alive _).mono ?_); rintro e w1 ⟨rfl, hb1⟩; have hH := HH0.out.next hb1; have hok := HK.out.trans hb1; clear hb1 HH0 HK)
  obtain ⟨h, hh⟩ : ∃ r, w.heap.size + 1 = r := ⟨_, rfl⟩
  obtain ⟨g, hg⟩ : ∃ r, w.heap.size = r := ⟨_, rfl⟩
  rw [hh, hg] at hH
  rw [hh, hg]
  clear hh hg
  obtain ⟨N0, hN0⟩ : ∃ r, w1.drew.heap.size = r := ⟨_, rfl⟩
  have HN := Lib.hid hN0
  have HN0 := Lib.hid fun gx (hgx : N0 ≤ gx) => And.intro (hH.drew.other (g := gx) (hN0 ▸ hgx)) (Nat.le_trans (hok.trans (Ok.refl w1).drew).size (hN0 ▸ hgx) : w.heap.size ≤ gx)
  have HOK := Lib.hid hok
  have HH := Lib.hid fun W' (k : Ok w1.drew W') => hH.drew.next k
  clear hN0 hH hok
  refine wp_region_facts_float (by kernel_rfl) 89 rfl (VCR N0 g h t n now a b most k1 k2 q) Ok 10 8 rfl (by decide) _ _ rfl rfl (by kernel_rfl) (by kernel_rfl) _ _ rfl rfl rfl (by kernel_rfl) (by kernel_rfl) (fun i v w w' h k w'' k' => h w'' (k.trans k')) (fun a b c => Ok.trans) (Ok.refl _) [some 20, some 21, some 22, some 23, some 24, some 25, some 19, some 26, some 27, some 9] [some 20, some 21, some 22, some 23, some 24, some 25, some 19, some 26, none, some 9] rfl rfl ⟨?_, ?_, ?_, ?_, ?_, ?_, ?_, ?_, ?_, ?_, trivial⟩ ?_ ?_
  · intro a' w' hF hR
    have e4 : a'.tmps[4]? = some (.pointer (some ⟨g, 0, none⟩)) := hF.slot 4 (by kernel_rfl) rfl
    have hZ := (HH.out _ hR).get (g := g) (x := t) (y := n) (by simp)
    have c0 := hZ.c0
    have c1 := hZ.c1
    have hzl := hZ.lt
    refine wpOp_run (v := .agg #[.int .i64 t, .int .i64 n]) rfl rfl ?_ (fun _ _ => rfl) (Ok.refl _)
    clear hF
    go_simp
  · intro a' w' hF hR
    obtain ⟨v0, hv0, e20⟩ := hF.get 0 20 (by kernel_rfl) (by kernel_rfl)
    obtain rfl : v0 = _ := hv0 _ (Ok.refl _)
    clear hF
    refine wpOp_call (f := 16) (args := #[.agg #[.int .i64 t, .int .i64 n]]) rfl rfl ?_ ((KC.out _).mono ?_)
    · go_simp
    · rintro e w2 ⟨rfl, hb2⟩; exact ⟨_, rfl, fun _ _ => rfl, hb2⟩
  · intro a' w' hF hR
    have e1 : a'.tmps[1]? = some (.int .i64 now) := hF.slot 1 (by kernel_rfl) rfl
    refine wpOp_run (v := .int .i64 now) rfl rfl ?_ (fun _ _ => rfl) (Ok.refl _)
    clear hF
    go_simp
  · intro a' w' hF hR
    have e6 : a'.tmps[6]? = some (.pointer (some ⟨h, 0, none⟩)) := hF.slot 6 (by kernel_rfl) rfl
    have hZ := (HH.out _ hR).get (g := h) (x := a) (y := b) (by simp)
    have c0 := hZ.c0
    have c1 := hZ.c1
    have hzl := hZ.lt
    refine wpOp_run (v := .agg #[.int .i64 a, .int .i64 b]) rfl rfl ?_ (fun _ _ => rfl) (Ok.refl _)
    clear hF
    go_simp
  · intro a' w' hF hR
    have e3 : a'.tmps[3]? = some (.int .i64 most) := hF.slot 3 (by kernel_rfl) rfl
    refine wpOp_run (v := .int .i64 most) rfl rfl ?_ (fun _ _ => rfl) (Ok.refl _)
    clear hF
    go_simp
  · intro a' w' hF hR
    obtain ⟨v1, hv1, e21⟩ := hF.get 1 21 (by kernel_rfl) (by kernel_rfl)
    obtain rfl : v1 = _ := hv1 _ (Ok.refl _)
    obtain ⟨v2, hv2, e22⟩ := hF.get 2 22 (by kernel_rfl) (by kernel_rfl)
    obtain rfl : v2 = _ := hv2 _ (Ok.refl _)
    obtain ⟨v3, hv3, e23⟩ := hF.get 3 23 (by kernel_rfl) (by kernel_rfl)
    obtain rfl : v3 = _ := hv3 _ (Ok.refl _)
    obtain ⟨v4, hv4, e24⟩ := hF.get 4 24 (by kernel_rfl) (by kernel_rfl)
    obtain rfl : v4 = _ := hv4 _ (Ok.refl _)
    clear hF
    refine wpOp_call (f := 17) (args := #[.agg #[.int .i64 t, .int .i64 n], .int .i64 now, .agg #[.int .i64 a, .int .i64 b], .int .i64 most]) rfl rfl ?_ ((KH.out _).mono ?_)
    · go_simp
    · rintro e w2 ⟨rfl, hb2⟩; exact ⟨_, rfl, fun _ _ => rfl, hb2⟩
  · intro a' w' hF hR
    obtain ⟨v5, hv5, e25⟩ := hF.get 5 25 (by kernel_rfl) (by kernel_rfl)
    obtain rfl : v5 = _ := hv5 _ (Ok.refl _)
    refine wpOp_run (v := .tuple #[.agg #[.int .i64 k1, .int .i64 k2], .bool q]) rfl rfl ?_ (fun _ _ => rfl) (Ok.refl _)
    clear hF
    go_simp
  · intro a' w' hF hR
    obtain ⟨v6, hv6, e19⟩ := hF.get 6 19 (by kernel_rfl) (by kernel_rfl)
    obtain rfl : v6 = _ := hv6 _ (Ok.refl _)
    refine wpOp_run (v := .agg #[.int .i64 k1, .int .i64 k2]) rfl rfl ?_ (fun _ _ => rfl) (Ok.refl _)
    clear hF
    go_simp
  · intro a' w' hF hR
    obtain ⟨v6, hv6, e19⟩ := hF.get 6 19 (by kernel_rfl) (by kernel_rfl)
    obtain rfl : v6 = _ := hv6 _ (Ok.refl _)
    refine wpOp_run (v := .bool q) rfl rfl ?_ (fun _ _ => rfl) (Ok.refl _)
    clear hF
    go_simp
  · intro a' w' hF hR
    have hzero : Sem.run Try.prog (zeroValue 29) w' = .ok (.agg #[.int .i64 0, .int .i64 0]) w' := by kernel_rfl
    refine wpOp_run (v := .pointer (some ⟨w'.heap.size, 0, none⟩)) (w' := w'.alloc (.cells #[.int .i64 0, .int .i64 0] 29)) rfl rfl ?_ (fun w'' k => ⟨_, rfl, (Own.new _ _ _ rfl).next k, (HN.out ▸ hR.size)⟩) ((Ok.refl _).alloc _)
    clear hF
    go_simp
  · intro vs W' hvs hR
    have e7 : vs 7 = .agg #[.int .i64 k1, .int .i64 k2] := hvs 7 (by decide) _ (Ok.refl _)
    have e8 : vs 8 = .bool q := hvs 8 (by decide) _ (Ok.refl _)
    obtain ⟨gx, e9, hX, hgx⟩ := hvs 9 (by decide) _ (Ok.refl _)
    have hH := HH.out _ hR
    have hok := (HOK.out.trans (Ok.refl w1).drew).trans hR
    have hn := HN0.out _ hgx
    have hxx : Slab W' gx 0 0 := ⟨hX.blk⟩
    have f0 := hxx.f0
    have f1 := hxx.f1
    have c0 := hxx.c0
    have c1 := hxx.c1
    clear hvs HH HOK HN HN0 KH hX hgx
    simp only [putFrom, e7, e8, e9]
    simp only [Act.put, List.setIfInBounds_toArray, List.set_cons_zero, List.set_cons_succ]
    refine wpOp_store (w' := (W'.setCell ⟨gx, 0, none⟩ (.int .i64 k1)).setCell ⟨gx, 1, none⟩ (.int .i64 k2)) rfl rfl rfl ?_ ?_
    · go_simp
    replace hH := hH.setTwo hn.1 hxx k1 k2
    replace hok := hok.two hn.2 k1 k2
    clear f0 f1 c0 c1 hxx hn e7 e8 e9
    generalize (W'.setCell ⟨gx, 0, none⟩ (.int .i64 k1)).setCell ⟨gx, 1, none⟩ (.int .i64 k2) = W2 at hH hok ⊢
    refine wpOp_leaves (v := .bool q) (w' := W2) rfl rfl ?_ ?_
    · go_simp
    simp only [Act.put, List.setIfInBounds_toArray]
    generalize vs 0 = z0
    generalize vs 1 = z1
    generalize vs 2 = z2
    generalize vs 3 = z3
    generalize vs 4 = z4
    generalize vs 5 = z5
    try generalize vs 6 = z6
    clear hR vs
    have p0 := (hH.get (g := g) (x := t) (y := n) (by simp)).c0
    have p1 := (hH.get (g := g) (x := t) (y := n) (by simp)).c1
    have pl := (hH.get (g := g) (x := t) (y := n) (by simp)).lt
    have s0 := (hH.get (g := h) (x := a) (y := b) (by simp)).c0
    have s1 := (hH.get (g := h) (x := a) (y := b) (by simp)).c1
    have sl := (hH.get (g := h) (x := a) (y := b) (by simp)).lt
    go_upto_region 10 with (first | (go_at_call 18; refine (KI.out _).mono ?_; rintro e w3 ⟨rfl, hb1⟩; replace hH := (hH.next hb1).push k1 k2 23 rfl; replace hok := (hok.trans hb1).alloc (.cells #[.int .i64 k1, .int .i64 k2] 23); clear hb1 p0 p1 pl s0 s1 sl; have p0 := (hH.get (g := g) (x := t) (y := n) (by simp)).c0; have p1 := (hH.get (g := g) (x := t) (y := n) (by simp)).c1; have pl := (hH.get (g := g) (x := t) (y := n) (by simp)).lt) | (go_at_call 16; refine (KC.out _).mono ?_; rintro e w4 ⟨rfl, hb1⟩; replace hH := hH.next hb1; replace hok := hok.trans hb1; clear hb1) | (go_at_call 19; refine (KM.out _).mono ?_; rintro e w5 ⟨rfl, hb1⟩; have hQ := (hH.next hb1).push c 0 29 rfl; have hz5 := hok.trans hb1; have NEW := Lib.hid (hQ.other (g := w5.heap.size + 1) (by simp)); have NEWW := Lib.hid (show w.heap.size ≤ w5.heap.size + 1 by have := hz5.size; omega); replace hH := ((hH.next hb1).push c 0 29 rfl).push t n 23 (g := w5.heap.size + 1) (by simp); replace hok := ((hok.trans hb1).alloc (.cells #[.int .i64 c, .int .i64 0] 29)).alloc (.cells #[.int .i64 t, .int .i64 n] 23); clear hb1 hz5 p0 p1 pl; have p0 := (hQ.get (g := g) (x := t) (y := n) (by simp)).c0; have p1 := (hQ.get (g := g) (x := t) (y := n) (by simp)).c1; have pl := (hQ.get (g := g) (x := t) (y := n) (by simp)).lt; have s0 := (hH.get (g := g) (x := t) (y := n) (by simp)).c0; have s1 := (hH.get (g := g) (x := t) (y := n) (by simp)).c1; have sl := (hH.get (g := g) (x := t) (y := n) (by simp)).lt; clear hQ) | (go_at_call 13; refine (KR.out _).mono ?_; rintro e w6 ⟨rfl, hb1⟩; replace hH := hH.next hb1; replace hok := hok.trans hb1; clear hb1 p0 p1 pl s0 s1 sl; have p0 := (hH.get (g := g) (x := t) (y := n) (by simp)).c0; have p1 := (hH.get (g := g) (x := t) (y := n) (by simp)).c1; have pl := (hH.get (g := g) (x := t) (y := n) (by simp)).lt; have r0 := (hH.get (g := w5.heap.size + 1) (x := t) (y := n) (by simp)).c0; have r1 := (hH.get (g := w5.heap.size + 1) (x := t) (y := n) (by simp)).c1; have rl := (hH.get (g := w5.heap.size + 1) (x := t) (y := n) (by simp)).lt; have f0 := (hH.get (g := w5.heap.size + 1) (x := t) (y := n) (by simp)).f0; have f1 := (hH.get (g := w5.heap.size + 1) (x := t) (y := n) (by simp)).f1; have hy := hH.get (g := w5.heap.size + 1) (x := t) (y := n) (by simp)) | (go_at_call 20; refine (KL.out _).mono ?_; rintro e w7 ⟨rfl, rfl⟩))
    replace hH : Held ((w5.heap.size + 1, c, 0) :: [(w5.heap.size, c, 0), (w3.heap.size, k1, k2), (gx, k1, k2), (h, a, b), (g, t, n)]) ((w6.setCell ⟨w5.heap.size + 1, 0, none⟩ (.int .i64 c)).setCell ⟨w5.heap.size + 1, 1, none⟩ (.int .i64 0)) := by
      have hT : Held [(w5.heap.size, c, 0), (w3.heap.size, k1, k2), (gx, k1, k2), (h, a, b), (g, t, n)] w6 := fun z hz => hH z (List.mem_cons_of_mem _ hz)
      exact hT.setTwo NEW.out hy c 0
    replace hok := hok.two NEWW.out c 0
    generalize (w6.setCell ⟨w5.heap.size + 1, 0, none⟩ (.int .i64 c)).setCell ⟨w5.heap.size + 1, 1, none⟩ (.int .i64 0) = W5 at hH hok ⊢
    clear p0 p1 pl r0 r1 rl f0 f1 hy
    obtain ⟨g15, h15⟩ : ∃ r, w5.heap.size + 1 = r := ⟨_, rfl⟩
    rw [h15] at hH
    rw [h15]
    obtain ⟨g13, h13⟩ : ∃ r, w5.heap.size = r := ⟨_, rfl⟩
    rw [h13] at hH
    rw [h13]
    obtain ⟨g11, h11⟩ : ∃ r, w3.heap.size = r := ⟨_, rfl⟩
    rw [h11] at hH
    rw [h11]
    clear h15 h13 h11
    have HOK := Lib.hid hok
    have HH := Lib.hid fun W' (k : Ok W5.drew W') => hH.drew.next k
    clear hH hok
    refine wp_region_facts (by kernel_rfl) 89 rfl (VCSwrong g h gx g11 g13 g15 t n now k1 k2 x y c q) Ok (by kernel_rfl) (fun i v w w' h k w'' k' => h w'' (k.trans k')) (fun a b c => Ok.trans) (Ok.refl _) [some 58, some 59, some 60, some 61, some 62, some 63, some 64, some 65, some 66, some 67, some 68, some 69, some 70, some 71, some 72, some 73, some 74, some 75, some 76, some 77, some 78, some 79, some 80, some 81, some 82, some 83, some 84, some 85, some 86, some 87, some 88, some 8] rfl 32 rfl ⟨?_, ?_, ?_, ?_, ?_, ?_, ?_, ?_, ?_, ?_, ?_, ?_, ?_, ?_, ?_, ?_, ?_, ?_, ?_, ?_, ?_, ?_, ?_, ?_, ?_, ?_, ?_, ?_, ?_, ?_, ?_, ?_, trivial⟩ ?_
    · intro a' w' hF hR
      have e4 : a'.tmps[4]? = some (.pointer (some ⟨g, 0, none⟩)) := hF.slot 4 (by kernel_rfl) rfl
      have hZ := (HH.out _ hR).get (g := g) (x := t) (y := n) (by simp)
      have c0 := hZ.c0
      have c1 := hZ.c1
      have hzl := hZ.lt
      refine wpOp_run (v := .agg #[.int .i64 t, .int .i64 n]) rfl rfl ?_ (fun _ _ => rfl) (Ok.refl _)
      clear hF
      go_simp
    · intro a' w' hF hR
      obtain ⟨v0, hv0, e58⟩ := hF.get 0 58 (by kernel_rfl) (by kernel_rfl)
      obtain rfl : v0 = _ := hv0 _ (Ok.refl _)
      clear hF
      refine wpOp_call (f := 16) (args := #[.agg #[.int .i64 t, .int .i64 n]]) rfl rfl ?_ ((KC.out _).mono ?_)
      · go_simp
      · rintro e w2 ⟨rfl, hb2⟩; exact ⟨_, rfl, fun _ _ => rfl, hb2⟩
    · intro a' w' hF hR
      have e1 : a'.tmps[1]? = some (.int .i64 now) := hF.slot 1 (by kernel_rfl) rfl
      refine wpOp_run (v := .int .i64 now) rfl rfl ?_ (fun _ _ => rfl) (Ok.refl _)
      clear hF
      go_simp
    · intro a' w' hF hR
      obtain ⟨v1, hv1, e59⟩ := hF.get 1 59 (by kernel_rfl) (by kernel_rfl)
      obtain rfl : v1 = _ := hv1 _ (Ok.refl _)
      obtain ⟨v2, hv2, e60⟩ := hF.get 2 60 (by kernel_rfl) (by kernel_rfl)
      obtain rfl : v2 = _ := hv2 _ (Ok.refl _)
      clear hF
      refine wpOp_call (f := 21) (args := #[.agg #[.int .i64 t, .int .i64 n], .int .i64 now]) rfl rfl ?_ ((KT.out _).mono ?_)
      · go_simp
      · rintro e w2 ⟨rfl, hb2⟩; exact ⟨_, rfl, fun _ _ => rfl, hb2⟩
    · intro a' w' hF hR
      obtain ⟨v3, hv3, e61⟩ := hF.get 3 61 (by kernel_rfl) (by kernel_rfl)
      obtain rfl : v3 = _ := hv3 _ (Ok.refl _)
      have hf := clockField (x, y)
      refine wpOp_run (v := .agg #[.int .i64 x, .int .i64 y]) rfl rfl ?_ (fun _ _ => rfl) (Ok.refl _)
      clear hF
      go_simp
    · intro a' w' hF hR
      have e4 : a'.tmps[4]? = some (.pointer (some ⟨g, 0, none⟩)) := hF.slot 4 (by kernel_rfl) rfl
      have hZ := (HH.out _ hR).get (g := g) (x := t) (y := n) (by simp)
      have c0 := hZ.c0
      have c1 := hZ.c1
      have hzl := hZ.lt
      refine wpOp_run (v := .agg #[.int .i64 t, .int .i64 n]) rfl rfl ?_ (fun _ _ => rfl) (Ok.refl _)
      clear hF
      go_simp
    · intro a' w' hF hR
      have e1 : a'.tmps[1]? = some (.int .i64 now) := hF.slot 1 (by kernel_rfl) rfl
      refine wpOp_run (v := .int .i64 now) rfl rfl ?_ (fun _ _ => rfl) (Ok.refl _)
      clear hF
      go_simp
    · intro a' w' hF hR
      obtain ⟨v5, hv5, e63⟩ := hF.get 5 63 (by kernel_rfl) (by kernel_rfl)
      obtain rfl : v5 = _ := hv5 _ (Ok.refl _)
      obtain ⟨v6, hv6, e64⟩ := hF.get 6 64 (by kernel_rfl) (by kernel_rfl)
      obtain rfl : v6 = _ := hv6 _ (Ok.refl _)
      clear hF
      refine wpOp_call (f := 22) (args := #[.agg #[.int .i64 t, .int .i64 n], .int .i64 now]) rfl rfl ?_ ((KU.out _).mono ?_)
      · go_simp
      · rintro e w2 ⟨rfl, hb2⟩; exact ⟨_, rfl, fun _ _ => rfl, hb2⟩
    · intro a' w' hF hR
      obtain ⟨v4, hv4, e62⟩ := hF.get 4 62 (by kernel_rfl) (by kernel_rfl)
      obtain rfl : v4 = _ := hv4 _ (Ok.refl _)
      obtain ⟨v7, hv7, e65⟩ := hF.get 7 65 (by kernel_rfl) (by kernel_rfl)
      obtain rfl : v7 = _ := hv7 _ (Ok.refl _)
      have hE := eqStamp20 x y x y
      simp only [beq_self_eq_true, Bool.and_self] at hE
      refine wpOp_run (v := .bool true) rfl rfl ?_ (fun _ _ => rfl) (Ok.refl _)
      clear hF
      go_simp
    · intro a' w' hF hR
      obtain ⟨v8, hv8, e66⟩ := hF.get 8 66 (by kernel_rfl) (by kernel_rfl)
      obtain rfl : v8 = _ := hv8 _ (Ok.refl _)
      refine wpOp_run (v := .bool true) rfl rfl ?_ (fun _ _ => rfl) (Ok.refl _)
      clear hF
      go_simp
    · intro a' w' hF hR
      have e9 : a'.tmps[9]? = some (.pointer (some ⟨gx, 0, none⟩)) := hF.slot 9 (by kernel_rfl) rfl
      obtain ⟨vg, hvg, eg⟩ := hF.get 9 67 (by kernel_rfl) (by kernel_rfl)
      obtain rfl : vg = _ := hvg _ (Ok.refl _)
      refine wpOp_runG (v := .pointer (some ⟨gx, 0, none⟩)) rfl (wanted_yes rfl (by kernel_rfl) eg) ?_ (fun _ _ => rfl) (Ok.refl _)
      clear hF
      go_simp
    · intro a' w' hF hR
      obtain ⟨v10, hv10, e68⟩ := hF.get 10 68 (by kernel_rfl) (by kernel_rfl)
      obtain rfl : v10 = _ := hv10 _ (Ok.refl _)
      obtain ⟨vg, hvg, eg⟩ := hF.get 9 67 (by kernel_rfl) (by kernel_rfl)
      obtain rfl : vg = _ := hvg _ (Ok.refl _)
      have hZ := (HH.out _ hR).get (g := gx) (x := k1) (y := k2) (by simp)
      have c0 := hZ.c0
      have c1 := hZ.c1
      have hzl := hZ.lt
      refine wpOp_runG (v := .agg #[.int .i64 k1, .int .i64 k2]) rfl (wanted_yes rfl (by kernel_rfl) eg) ?_ (fun _ _ => rfl) (Ok.refl _)
      clear hF
      go_simp
    · intro a' w' hF hR
      have e11 : a'.tmps[11]? = some (.pointer (some ⟨g11, 0, none⟩)) := hF.slot 11 (by kernel_rfl) rfl
      obtain ⟨vg, hvg, eg⟩ := hF.get 9 67 (by kernel_rfl) (by kernel_rfl)
      obtain rfl : vg = _ := hvg _ (Ok.refl _)
      have hZ := (HH.out _ hR).get (g := g11) (x := k1) (y := k2) (by simp)
      have c0 := hZ.c0
      have c1 := hZ.c1
      have hzl := hZ.lt
      refine wpOp_runG (v := .agg #[.int .i64 k1, .int .i64 k2]) rfl (wanted_yes rfl (by kernel_rfl) eg) ?_ (fun _ _ => rfl) (Ok.refl _)
      clear hF
      go_simp
    · intro a' w' hF hR
      obtain ⟨v11, hv11, e69⟩ := hF.get 11 69 (by kernel_rfl) (by kernel_rfl)
      obtain rfl : v11 = _ := hv11 _ (Ok.refl _)
      obtain ⟨v12, hv12, e70⟩ := hF.get 12 70 (by kernel_rfl) (by kernel_rfl)
      obtain rfl : v12 = _ := hv12 _ (Ok.refl _)
      obtain ⟨vg, hvg, eg⟩ := hF.get 9 67 (by kernel_rfl) (by kernel_rfl)
      obtain rfl : vg = _ := hvg _ (Ok.refl _)
      have hE := eqStamp20 k1 k2 k1 k2
      simp only [beq_self_eq_true, Bool.and_self] at hE
      refine wpOp_runG (v := .bool true) rfl (wanted_yes rfl (by kernel_rfl) eg) ?_ (fun _ _ => rfl) (Ok.refl _)
      clear hF
      go_simp
    · intro a' w' hF hR
      obtain ⟨v9, hv9, e67⟩ := hF.get 9 67 (by kernel_rfl) (by kernel_rfl)
      obtain rfl : v9 = _ := hv9 _ (Ok.refl _)
      obtain ⟨v13, hv13, e71⟩ := hF.get 13 71 (by kernel_rfl) (by kernel_rfl)
      obtain rfl : v13 = _ := hv13 _ (Ok.refl _)
      refine wpOp_run (v := .bool true) rfl rfl ?_ (fun _ _ => rfl) (Ok.refl _)
      clear hF
      go_simp
    · intro a' w' hF hR
      obtain ⟨v14, hv14, e72⟩ := hF.get 14 72 (by kernel_rfl) (by kernel_rfl)
      obtain rfl : v14 = _ := hv14 _ (Ok.refl _)
      refine wpOp_run (v := .bool true) rfl rfl ?_ (fun _ _ => rfl) (Ok.refl _)
      clear hF
      go_simp
    · intro a' w' hF hR
      have e10 : a'.tmps[10]? = some (.bool q) := hF.slot 10 (by kernel_rfl) rfl
      obtain ⟨vg, hvg, eg⟩ := hF.get 15 73 (by kernel_rfl) (by kernel_rfl)
      obtain rfl : vg = _ := hvg _ (Ok.refl _)
      refine wpOp_runG (v := .bool q) rfl (wanted_yes rfl (by kernel_rfl) eg) ?_ (fun _ _ => rfl) (Ok.refl _)
      clear hF
      go_simp
    · intro a' w' hF hR
      have e12 : a'.tmps[12]? = some (.bool q) := hF.slot 12 (by kernel_rfl) rfl
      obtain ⟨vg, hvg, eg⟩ := hF.get 15 73 (by kernel_rfl) (by kernel_rfl)
      obtain rfl : vg = _ := hvg _ (Ok.refl _)
      refine wpOp_runG (v := .bool q) rfl (wanted_yes rfl (by kernel_rfl) eg) ?_ (fun _ _ => rfl) (Ok.refl _)
      clear hF
      go_simp
    · intro a' w' hF hR
      obtain ⟨v16, hv16, e74⟩ := hF.get 16 74 (by kernel_rfl) (by kernel_rfl)
      obtain rfl : v16 = _ := hv16 _ (Ok.refl _)
      obtain ⟨v17, hv17, e75⟩ := hF.get 17 75 (by kernel_rfl) (by kernel_rfl)
      obtain rfl : v17 = _ := hv17 _ (Ok.refl _)
      obtain ⟨vg, hvg, eg⟩ := hF.get 15 73 (by kernel_rfl) (by kernel_rfl)
      obtain rfl : vg = _ := hvg _ (Ok.refl _)
      refine wpOp_runG (v := .bool true) rfl (wanted_yes rfl (by kernel_rfl) eg) ?_ (fun _ _ => rfl) (Ok.refl _)
      clear hF
      cases q <;> go_simp
    · intro a' w' hF hR
      obtain ⟨v15, hv15, e73⟩ := hF.get 15 73 (by kernel_rfl) (by kernel_rfl)
      obtain rfl : v15 = _ := hv15 _ (Ok.refl _)
      obtain ⟨v18, hv18, e76⟩ := hF.get 18 76 (by kernel_rfl) (by kernel_rfl)
      obtain rfl : v18 = _ := hv18 _ (Ok.refl _)
      refine wpOp_run (v := .bool true) rfl rfl ?_ (fun _ _ => rfl) (Ok.refl _)
      clear hF
      go_simp
    · intro a' w' hF hR
      obtain ⟨v19, hv19, e77⟩ := hF.get 19 77 (by kernel_rfl) (by kernel_rfl)
      obtain rfl : v19 = _ := hv19 _ (Ok.refl _)
      refine wpOp_run (v := .bool true) rfl rfl ?_ (fun _ _ => rfl) (Ok.refl _)
      clear hF
      go_simp
    · intro a' w' hF hR
      have e13 : a'.tmps[13]? = some (.pointer (some ⟨g13, 0, none⟩)) := hF.slot 13 (by kernel_rfl) rfl
      obtain ⟨vg, hvg, eg⟩ := hF.get 20 78 (by kernel_rfl) (by kernel_rfl)
      obtain rfl : vg = _ := hvg _ (Ok.refl _)
      refine wpOp_runG (v := .pointer (some ⟨g13, 0, none⟩)) rfl (wanted_yes rfl (by kernel_rfl) eg) ?_ (fun _ _ => rfl) (Ok.refl _)
      clear hF
      go_simp
    · intro a' w' hF hR
      obtain ⟨v21, hv21, e79⟩ := hF.get 21 79 (by kernel_rfl) (by kernel_rfl)
      obtain rfl : v21 = _ := hv21 _ (Ok.refl _)
      obtain ⟨vg, hvg, eg⟩ := hF.get 20 78 (by kernel_rfl) (by kernel_rfl)
      obtain rfl : vg = _ := hvg _ (Ok.refl _)
      have hZ := (HH.out _ hR).get (g := g13) (x := c) (y := 0) (by simp)
      have c0 := hZ.c0
      have c1 := hZ.c1
      have hzl := hZ.lt
      refine wpOp_runG (v := .agg #[.int .i64 c, .int .i64 0]) rfl (wanted_yes rfl (by kernel_rfl) eg) ?_ (fun _ _ => rfl) (Ok.refl _)
      clear hF
      go_simp
    · intro a' w' hF hR
      have e15 : a'.tmps[15]? = some (.pointer (some ⟨g15, 0, none⟩)) := hF.slot 15 (by kernel_rfl) rfl
      obtain ⟨vg, hvg, eg⟩ := hF.get 20 78 (by kernel_rfl) (by kernel_rfl)
      obtain rfl : vg = _ := hvg _ (Ok.refl _)
      have hZ := (HH.out _ hR).get (g := g15) (x := c) (y := 0) (by simp)
      have c0 := hZ.c0
      have c1 := hZ.c1
      have hzl := hZ.lt
      refine wpOp_runG (v := .agg #[.int .i64 c, .int .i64 0]) rfl (wanted_yes rfl (by kernel_rfl) eg) ?_ (fun _ _ => rfl) (Ok.refl _)
      clear hF
      go_simp
    · intro a' w' hF hR
      obtain ⟨v22, hv22, e80⟩ := hF.get 22 80 (by kernel_rfl) (by kernel_rfl)
      obtain rfl : v22 = _ := hv22 _ (Ok.refl _)
      obtain ⟨v23, hv23, e81⟩ := hF.get 23 81 (by kernel_rfl) (by kernel_rfl)
      obtain rfl : v23 = _ := hv23 _ (Ok.refl _)
      obtain ⟨vg, hvg, eg⟩ := hF.get 20 78 (by kernel_rfl) (by kernel_rfl)
      obtain rfl : vg = _ := hvg _ (Ok.refl _)
      have hE := eqStamp20 c 0 c 0
      simp only [beq_self_eq_true, Bool.and_self] at hE
      refine wpOp_runG (v := .bool true) rfl (wanted_yes rfl (by kernel_rfl) eg) ?_ (fun _ _ => rfl) (Ok.refl _)
      clear hF
      go_simp
    · intro a' w' hF hR
      obtain ⟨v20, hv20, e78⟩ := hF.get 20 78 (by kernel_rfl) (by kernel_rfl)
      obtain rfl : v20 = _ := hv20 _ (Ok.refl _)
      obtain ⟨v24, hv24, e82⟩ := hF.get 24 82 (by kernel_rfl) (by kernel_rfl)
      obtain rfl : v24 = _ := hv24 _ (Ok.refl _)
      refine wpOp_run (v := .bool true) rfl rfl ?_ (fun _ _ => rfl) (Ok.refl _)
      clear hF
      go_simp
    · intro a' w' hF hR
      obtain ⟨v25, hv25, e83⟩ := hF.get 25 83 (by kernel_rfl) (by kernel_rfl)
      obtain rfl : v25 = _ := hv25 _ (Ok.refl _)
      refine wpOp_run (v := .bool true) rfl rfl ?_ (fun _ _ => rfl) (Ok.refl _)
      clear hF
      go_simp
    · intro a' w' hF hR
      have e14 : a'.tmps[14]? = some (.bool true) := hF.slot 14 (by kernel_rfl) rfl
      obtain ⟨vg, hvg, eg⟩ := hF.get 26 84 (by kernel_rfl) (by kernel_rfl)
      obtain rfl : vg = _ := hvg _ (Ok.refl _)
      refine wpOp_runG (v := .bool true) rfl (wanted_yes rfl (by kernel_rfl) eg) ?_ (fun _ _ => rfl) (Ok.refl _)
      clear hF
      go_simp
    · intro a' w' hF hR
      have e16 : a'.tmps[16]? = some (.bool true) := hF.slot 16 (by kernel_rfl) rfl
      obtain ⟨vg, hvg, eg⟩ := hF.get 26 84 (by kernel_rfl) (by kernel_rfl)
      obtain rfl : vg = _ := hvg _ (Ok.refl _)
      refine wpOp_runG (v := .bool true) rfl (wanted_yes rfl (by kernel_rfl) eg) ?_ (fun _ _ => rfl) (Ok.refl _)
      clear hF
      go_simp
    · intro a' w' hF hR
      obtain ⟨v27, hv27, e85⟩ := hF.get 27 85 (by kernel_rfl) (by kernel_rfl)
      obtain rfl : v27 = _ := hv27 _ (Ok.refl _)
      obtain ⟨v28, hv28, e86⟩ := hF.get 28 86 (by kernel_rfl) (by kernel_rfl)
      obtain rfl : v28 = _ := hv28 _ (Ok.refl _)
      obtain ⟨vg, hvg, eg⟩ := hF.get 26 84 (by kernel_rfl) (by kernel_rfl)
      obtain rfl : vg = _ := hvg _ (Ok.refl _)
      refine wpOp_runG (v := .bool true) rfl (wanted_yes rfl (by kernel_rfl) eg) ?_ (fun _ _ => rfl) (Ok.refl _)
      clear hF
      go_simp
    · intro a' w' hF hR
      obtain ⟨v26, hv26, e84⟩ := hF.get 26 84 (by kernel_rfl) (by kernel_rfl)
      obtain rfl : v26 = _ := hv26 _ (Ok.refl _)
      obtain ⟨v29, hv29, e87⟩ := hF.get 29 87 (by kernel_rfl) (by kernel_rfl)
      obtain rfl : v29 = _ := hv29 _ (Ok.refl _)
      refine wpOp_run (v := .bool true) rfl rfl ?_ (fun _ _ => rfl) (Ok.refl _)
      clear hF
      go_simp
    · intro a' w' hF hR
      obtain ⟨v30, hv30, e88⟩ := hF.get 30 88 (by kernel_rfl) (by kernel_rfl)
      obtain rfl : v30 = _ := hv30 _ (Ok.refl _)
      refine wpOp_run (v := .bool true) rfl rfl ?_ (fun _ _ => rfl) (Ok.refl _)
      clear hF
      go_simp
    intro us W6 hV hR
    have e31 : us 31 = .bool true := hV 31 (by decide) _ (Ok.refl _)
    have hok := (HOK.out.trans (Ok.refl W5).drew).trans hR
    clear hV HH HOK
    simp only [putFrom, e31]
    simp only [Act.put, List.setIfInBounds_toArray, List.set_cons_zero, List.set_cons_succ]
    go_wp2
    go_ret
    exact ⟨rfl, hok⟩
  · intro vs W' hvs hR
    have e7 : vs 7 = .agg #[.int .i64 k1, .int .i64 k2] := hvs 7 (by decide) (by decide) _ (Ok.refl _)
    have e8 : vs 6 = .tuple #[.agg #[.int .i64 k1, .int .i64 k2], .bool q] := hvs 6 (by decide) (by decide) _ (Ok.refl _)
    obtain ⟨gx, e9, hX, hgx⟩ := hvs 9 (by decide) (by decide) _ (Ok.refl _)
    have hH := HH.out _ hR
    have hok := (HOK.out.trans (Ok.refl w1).drew).trans hR
    have hn := HN0.out _ hgx
    have hxx : Slab W' gx 0 0 := ⟨hX.blk⟩
    have f0 := hxx.f0
    have f1 := hxx.f1
    have c0 := hxx.c0
    have c1 := hxx.c1
    clear hvs HH HOK HN HN0 KH hX hgx
    simp only [putFrom, e7, e8, e9]
    simp only [Act.put, List.setIfInBounds_toArray, List.set_cons_zero, List.set_cons_succ]
    refine wpOp_store (w' := (W'.setCell ⟨gx, 0, none⟩ (.int .i64 k1)).setCell ⟨gx, 1, none⟩ (.int .i64 k2)) rfl rfl rfl ?_ ?_
    · go_simp
    replace hH := hH.setTwo hn.1 hxx k1 k2
    replace hok := hok.two hn.2 k1 k2
    clear f0 f1 c0 c1 hxx hn e7 e8 e9
    generalize (W'.setCell ⟨gx, 0, none⟩ (.int .i64 k1)).setCell ⟨gx, 1, none⟩ (.int .i64 k2) = W2 at hH hok ⊢
    refine wpOp_leaves (v := .bool q) (w' := W2) rfl rfl ?_ ?_
    · go_simp
    simp only [Act.put, List.setIfInBounds_toArray]
    refine wpOp_leaves (v := .bool q) (w' := W2) rfl rfl ?_ ?_
    · go_simp
    simp only [Act.put]
    generalize vs 0 = z0
    generalize vs 1 = z1
    generalize vs 2 = z2
    generalize vs 3 = z3
    generalize vs 4 = z4
    generalize vs 5 = z5
    try generalize vs 6 = z6
    clear hR vs
    have p0 := (hH.get (g := g) (x := t) (y := n) (by simp)).c0
    have p1 := (hH.get (g := g) (x := t) (y := n) (by simp)).c1
    have pl := (hH.get (g := g) (x := t) (y := n) (by simp)).lt
    have s0 := (hH.get (g := h) (x := a) (y := b) (by simp)).c0
    have s1 := (hH.get (g := h) (x := a) (y := b) (by simp)).c1
    have sl := (hH.get (g := h) (x := a) (y := b) (by simp)).lt
    go_upto_region 10 with (first | (go_at_call 18; refine (KI.out _).mono ?_; rintro e w3 ⟨rfl, hb1⟩; replace hH := (hH.next hb1).push k1 k2 23 rfl; replace hok := (hok.trans hb1).alloc (.cells #[.int .i64 k1, .int .i64 k2] 23); clear hb1 p0 p1 pl s0 s1 sl; have p0 := (hH.get (g := g) (x := t) (y := n) (by simp)).c0; have p1 := (hH.get (g := g) (x := t) (y := n) (by simp)).c1; have pl := (hH.get (g := g) (x := t) (y := n) (by simp)).lt) | (go_at_call 16; refine (KC.out _).mono ?_; rintro e w4 ⟨rfl, hb1⟩; replace hH := hH.next hb1; replace hok := hok.trans hb1; clear hb1) | (go_at_call 19; refine (KM.out _).mono ?_; rintro e w5 ⟨rfl, hb1⟩; have hQ := (hH.next hb1).push c 0 29 rfl; have hz5 := hok.trans hb1; have NEW := Lib.hid (hQ.other (g := w5.heap.size + 1) (by simp)); have NEWW := Lib.hid (show w.heap.size ≤ w5.heap.size + 1 by have := hz5.size; omega); replace hH := ((hH.next hb1).push c 0 29 rfl).push t n 23 (g := w5.heap.size + 1) (by simp); replace hok := ((hok.trans hb1).alloc (.cells #[.int .i64 c, .int .i64 0] 29)).alloc (.cells #[.int .i64 t, .int .i64 n] 23); clear hb1 hz5 p0 p1 pl; have p0 := (hQ.get (g := g) (x := t) (y := n) (by simp)).c0; have p1 := (hQ.get (g := g) (x := t) (y := n) (by simp)).c1; have pl := (hQ.get (g := g) (x := t) (y := n) (by simp)).lt; have s0 := (hH.get (g := g) (x := t) (y := n) (by simp)).c0; have s1 := (hH.get (g := g) (x := t) (y := n) (by simp)).c1; have sl := (hH.get (g := g) (x := t) (y := n) (by simp)).lt; clear hQ) | (go_at_call 13; refine (KR.out _).mono ?_; rintro e w6 ⟨rfl, hb1⟩; replace hH := hH.next hb1; replace hok := hok.trans hb1; clear hb1 p0 p1 pl s0 s1 sl; have p0 := (hH.get (g := g) (x := t) (y := n) (by simp)).c0; have p1 := (hH.get (g := g) (x := t) (y := n) (by simp)).c1; have pl := (hH.get (g := g) (x := t) (y := n) (by simp)).lt; have r0 := (hH.get (g := w5.heap.size + 1) (x := t) (y := n) (by simp)).c0; have r1 := (hH.get (g := w5.heap.size + 1) (x := t) (y := n) (by simp)).c1; have rl := (hH.get (g := w5.heap.size + 1) (x := t) (y := n) (by simp)).lt; have f0 := (hH.get (g := w5.heap.size + 1) (x := t) (y := n) (by simp)).f0; have f1 := (hH.get (g := w5.heap.size + 1) (x := t) (y := n) (by simp)).f1; have hy := hH.get (g := w5.heap.size + 1) (x := t) (y := n) (by simp)) | (go_at_call 20; refine (KL.out _).mono ?_; rintro e w7 ⟨rfl, rfl⟩))
    replace hH : Held ((w5.heap.size + 1, c, 0) :: [(w5.heap.size, c, 0), (w3.heap.size, k1, k2), (gx, k1, k2), (h, a, b), (g, t, n)]) ((w6.setCell ⟨w5.heap.size + 1, 0, none⟩ (.int .i64 c)).setCell ⟨w5.heap.size + 1, 1, none⟩ (.int .i64 0)) := by
      have hT : Held [(w5.heap.size, c, 0), (w3.heap.size, k1, k2), (gx, k1, k2), (h, a, b), (g, t, n)] w6 := fun z hz => hH z (List.mem_cons_of_mem _ hz)
      exact hT.setTwo NEW.out hy c 0
    replace hok := hok.two NEWW.out c 0
    generalize (w6.setCell ⟨w5.heap.size + 1, 0, none⟩ (.int .i64 c)).setCell ⟨w5.heap.size + 1, 1, none⟩ (.int .i64 0) = W5 at hH hok ⊢
    clear p0 p1 pl r0 r1 rl f0 f1 hy
    obtain ⟨g15, h15⟩ : ∃ r, w5.heap.size + 1 = r := ⟨_, rfl⟩
    rw [h15] at hH
    rw [h15]
    obtain ⟨g13, h13⟩ : ∃ r, w5.heap.size = r := ⟨_, rfl⟩
    rw [h13] at hH
    rw [h13]
    obtain ⟨g11, h11⟩ : ∃ r, w3.heap.size = r := ⟨_, rfl⟩
    rw [h11] at hH
    rw [h11]
    clear h15 h13 h11
    have HOK := Lib.hid hok
    have HH := Lib.hid fun W' (k : Ok W5.drew W') => hH.drew.next k
    clear hH hok
    refine wp_region_facts (by kernel_rfl) 89 rfl (VCSwrong g h gx g11 g13 g15 t n now k1 k2 x y c q) Ok (by kernel_rfl) (fun i v w w' h k w'' k' => h w'' (k.trans k')) (fun a b c => Ok.trans) (Ok.refl _) [some 58, some 59, some 60, some 61, some 62, some 63, some 64, some 65, some 66, some 67, some 68, some 69, some 70, some 71, some 72, some 73, some 74, some 75, some 76, some 77, some 78, some 79, some 80, some 81, some 82, some 83, some 84, some 85, some 86, some 87, some 88, some 8] rfl 32 rfl ⟨?_, ?_, ?_, ?_, ?_, ?_, ?_, ?_, ?_, ?_, ?_, ?_, ?_, ?_, ?_, ?_, ?_, ?_, ?_, ?_, ?_, ?_, ?_, ?_, ?_, ?_, ?_, ?_, ?_, ?_, ?_, ?_, trivial⟩ ?_
    · intro a' w' hF hR
      have e4 : a'.tmps[4]? = some (.pointer (some ⟨g, 0, none⟩)) := hF.slot 4 (by kernel_rfl) rfl
      have hZ := (HH.out _ hR).get (g := g) (x := t) (y := n) (by simp)
      have c0 := hZ.c0
      have c1 := hZ.c1
      have hzl := hZ.lt
      refine wpOp_run (v := .agg #[.int .i64 t, .int .i64 n]) rfl rfl ?_ (fun _ _ => rfl) (Ok.refl _)
      clear hF
      go_simp
    · intro a' w' hF hR
      obtain ⟨v0, hv0, e58⟩ := hF.get 0 58 (by kernel_rfl) (by kernel_rfl)
      obtain rfl : v0 = _ := hv0 _ (Ok.refl _)
      clear hF
      refine wpOp_call (f := 16) (args := #[.agg #[.int .i64 t, .int .i64 n]]) rfl rfl ?_ ((KC.out _).mono ?_)
      · go_simp
      · rintro e w2 ⟨rfl, hb2⟩; exact ⟨_, rfl, fun _ _ => rfl, hb2⟩
    · intro a' w' hF hR
      have e1 : a'.tmps[1]? = some (.int .i64 now) := hF.slot 1 (by kernel_rfl) rfl
      refine wpOp_run (v := .int .i64 now) rfl rfl ?_ (fun _ _ => rfl) (Ok.refl _)
      clear hF
      go_simp
    · intro a' w' hF hR
      obtain ⟨v1, hv1, e59⟩ := hF.get 1 59 (by kernel_rfl) (by kernel_rfl)
      obtain rfl : v1 = _ := hv1 _ (Ok.refl _)
      obtain ⟨v2, hv2, e60⟩ := hF.get 2 60 (by kernel_rfl) (by kernel_rfl)
      obtain rfl : v2 = _ := hv2 _ (Ok.refl _)
      clear hF
      refine wpOp_call (f := 21) (args := #[.agg #[.int .i64 t, .int .i64 n], .int .i64 now]) rfl rfl ?_ ((KT.out _).mono ?_)
      · go_simp
      · rintro e w2 ⟨rfl, hb2⟩; exact ⟨_, rfl, fun _ _ => rfl, hb2⟩
    · intro a' w' hF hR
      obtain ⟨v3, hv3, e61⟩ := hF.get 3 61 (by kernel_rfl) (by kernel_rfl)
      obtain rfl : v3 = _ := hv3 _ (Ok.refl _)
      have hf := clockField (x, y)
      refine wpOp_run (v := .agg #[.int .i64 x, .int .i64 y]) rfl rfl ?_ (fun _ _ => rfl) (Ok.refl _)
      clear hF
      go_simp
    · intro a' w' hF hR
      have e4 : a'.tmps[4]? = some (.pointer (some ⟨g, 0, none⟩)) := hF.slot 4 (by kernel_rfl) rfl
      have hZ := (HH.out _ hR).get (g := g) (x := t) (y := n) (by simp)
      have c0 := hZ.c0
      have c1 := hZ.c1
      have hzl := hZ.lt
      refine wpOp_run (v := .agg #[.int .i64 t, .int .i64 n]) rfl rfl ?_ (fun _ _ => rfl) (Ok.refl _)
      clear hF
      go_simp
    · intro a' w' hF hR
      have e1 : a'.tmps[1]? = some (.int .i64 now) := hF.slot 1 (by kernel_rfl) rfl
      refine wpOp_run (v := .int .i64 now) rfl rfl ?_ (fun _ _ => rfl) (Ok.refl _)
      clear hF
      go_simp
    · intro a' w' hF hR
      obtain ⟨v5, hv5, e63⟩ := hF.get 5 63 (by kernel_rfl) (by kernel_rfl)
      obtain rfl : v5 = _ := hv5 _ (Ok.refl _)
      obtain ⟨v6, hv6, e64⟩ := hF.get 6 64 (by kernel_rfl) (by kernel_rfl)
      obtain rfl : v6 = _ := hv6 _ (Ok.refl _)
      clear hF
      refine wpOp_call (f := 22) (args := #[.agg #[.int .i64 t, .int .i64 n], .int .i64 now]) rfl rfl ?_ ((KU.out _).mono ?_)
      · go_simp
      · rintro e w2 ⟨rfl, hb2⟩; exact ⟨_, rfl, fun _ _ => rfl, hb2⟩
    · intro a' w' hF hR
      obtain ⟨v4, hv4, e62⟩ := hF.get 4 62 (by kernel_rfl) (by kernel_rfl)
      obtain rfl : v4 = _ := hv4 _ (Ok.refl _)
      obtain ⟨v7, hv7, e65⟩ := hF.get 7 65 (by kernel_rfl) (by kernel_rfl)
      obtain rfl : v7 = _ := hv7 _ (Ok.refl _)
      have hE := eqStamp20 x y x y
      simp only [beq_self_eq_true, Bool.and_self] at hE
      refine wpOp_run (v := .bool true) rfl rfl ?_ (fun _ _ => rfl) (Ok.refl _)
      clear hF
      go_simp
    · intro a' w' hF hR
      obtain ⟨v8, hv8, e66⟩ := hF.get 8 66 (by kernel_rfl) (by kernel_rfl)
      obtain rfl : v8 = _ := hv8 _ (Ok.refl _)
      refine wpOp_run (v := .bool true) rfl rfl ?_ (fun _ _ => rfl) (Ok.refl _)
      clear hF
      go_simp
    · intro a' w' hF hR
      have e9 : a'.tmps[9]? = some (.pointer (some ⟨gx, 0, none⟩)) := hF.slot 9 (by kernel_rfl) rfl
      obtain ⟨vg, hvg, eg⟩ := hF.get 9 67 (by kernel_rfl) (by kernel_rfl)
      obtain rfl : vg = _ := hvg _ (Ok.refl _)
      refine wpOp_runG (v := .pointer (some ⟨gx, 0, none⟩)) rfl (wanted_yes rfl (by kernel_rfl) eg) ?_ (fun _ _ => rfl) (Ok.refl _)
      clear hF
      go_simp
    · intro a' w' hF hR
      obtain ⟨v10, hv10, e68⟩ := hF.get 10 68 (by kernel_rfl) (by kernel_rfl)
      obtain rfl : v10 = _ := hv10 _ (Ok.refl _)
      obtain ⟨vg, hvg, eg⟩ := hF.get 9 67 (by kernel_rfl) (by kernel_rfl)
      obtain rfl : vg = _ := hvg _ (Ok.refl _)
      have hZ := (HH.out _ hR).get (g := gx) (x := k1) (y := k2) (by simp)
      have c0 := hZ.c0
      have c1 := hZ.c1
      have hzl := hZ.lt
      refine wpOp_runG (v := .agg #[.int .i64 k1, .int .i64 k2]) rfl (wanted_yes rfl (by kernel_rfl) eg) ?_ (fun _ _ => rfl) (Ok.refl _)
      clear hF
      go_simp
    · intro a' w' hF hR
      have e11 : a'.tmps[11]? = some (.pointer (some ⟨g11, 0, none⟩)) := hF.slot 11 (by kernel_rfl) rfl
      obtain ⟨vg, hvg, eg⟩ := hF.get 9 67 (by kernel_rfl) (by kernel_rfl)
      obtain rfl : vg = _ := hvg _ (Ok.refl _)
      have hZ := (HH.out _ hR).get (g := g11) (x := k1) (y := k2) (by simp)
      have c0 := hZ.c0
      have c1 := hZ.c1
      have hzl := hZ.lt
      refine wpOp_runG (v := .agg #[.int .i64 k1, .int .i64 k2]) rfl (wanted_yes rfl (by kernel_rfl) eg) ?_ (fun _ _ => rfl) (Ok.refl _)
      clear hF
      go_simp
    · intro a' w' hF hR
      obtain ⟨v11, hv11, e69⟩ := hF.get 11 69 (by kernel_rfl) (by kernel_rfl)
      obtain rfl : v11 = _ := hv11 _ (Ok.refl _)
      obtain ⟨v12, hv12, e70⟩ := hF.get 12 70 (by kernel_rfl) (by kernel_rfl)
      obtain rfl : v12 = _ := hv12 _ (Ok.refl _)
      obtain ⟨vg, hvg, eg⟩ := hF.get 9 67 (by kernel_rfl) (by kernel_rfl)
      obtain rfl : vg = _ := hvg _ (Ok.refl _)
      have hE := eqStamp20 k1 k2 k1 k2
      simp only [beq_self_eq_true, Bool.and_self] at hE
      refine wpOp_runG (v := .bool true) rfl (wanted_yes rfl (by kernel_rfl) eg) ?_ (fun _ _ => rfl) (Ok.refl _)
      clear hF
      go_simp
    · intro a' w' hF hR
      obtain ⟨v9, hv9, e67⟩ := hF.get 9 67 (by kernel_rfl) (by kernel_rfl)
      obtain rfl : v9 = _ := hv9 _ (Ok.refl _)
      obtain ⟨v13, hv13, e71⟩ := hF.get 13 71 (by kernel_rfl) (by kernel_rfl)
      obtain rfl : v13 = _ := hv13 _ (Ok.refl _)
      refine wpOp_run (v := .bool true) rfl rfl ?_ (fun _ _ => rfl) (Ok.refl _)
      clear hF
      go_simp
    · intro a' w' hF hR
      obtain ⟨v14, hv14, e72⟩ := hF.get 14 72 (by kernel_rfl) (by kernel_rfl)
      obtain rfl : v14 = _ := hv14 _ (Ok.refl _)
      refine wpOp_run (v := .bool true) rfl rfl ?_ (fun _ _ => rfl) (Ok.refl _)
      clear hF
      go_simp
    · intro a' w' hF hR
      have e10 : a'.tmps[10]? = some (.bool q) := hF.slot 10 (by kernel_rfl) rfl
      obtain ⟨vg, hvg, eg⟩ := hF.get 15 73 (by kernel_rfl) (by kernel_rfl)
      obtain rfl : vg = _ := hvg _ (Ok.refl _)
      refine wpOp_runG (v := .bool q) rfl (wanted_yes rfl (by kernel_rfl) eg) ?_ (fun _ _ => rfl) (Ok.refl _)
      clear hF
      go_simp
    · intro a' w' hF hR
      have e12 : a'.tmps[12]? = some (.bool q) := hF.slot 12 (by kernel_rfl) rfl
      obtain ⟨vg, hvg, eg⟩ := hF.get 15 73 (by kernel_rfl) (by kernel_rfl)
      obtain rfl : vg = _ := hvg _ (Ok.refl _)
      refine wpOp_runG (v := .bool q) rfl (wanted_yes rfl (by kernel_rfl) eg) ?_ (fun _ _ => rfl) (Ok.refl _)
      clear hF
      go_simp
    · intro a' w' hF hR
      obtain ⟨v16, hv16, e74⟩ := hF.get 16 74 (by kernel_rfl) (by kernel_rfl)
      obtain rfl : v16 = _ := hv16 _ (Ok.refl _)
      obtain ⟨v17, hv17, e75⟩ := hF.get 17 75 (by kernel_rfl) (by kernel_rfl)
      obtain rfl : v17 = _ := hv17 _ (Ok.refl _)
      obtain ⟨vg, hvg, eg⟩ := hF.get 15 73 (by kernel_rfl) (by kernel_rfl)
      obtain rfl : vg = _ := hvg _ (Ok.refl _)
      refine wpOp_runG (v := .bool true) rfl (wanted_yes rfl (by kernel_rfl) eg) ?_ (fun _ _ => rfl) (Ok.refl _)
      clear hF
      cases q <;> go_simp
    · intro a' w' hF hR
      obtain ⟨v15, hv15, e73⟩ := hF.get 15 73 (by kernel_rfl) (by kernel_rfl)
      obtain rfl : v15 = _ := hv15 _ (Ok.refl _)
      obtain ⟨v18, hv18, e76⟩ := hF.get 18 76 (by kernel_rfl) (by kernel_rfl)
      obtain rfl : v18 = _ := hv18 _ (Ok.refl _)
      refine wpOp_run (v := .bool true) rfl rfl ?_ (fun _ _ => rfl) (Ok.refl _)
      clear hF
      go_simp
    · intro a' w' hF hR
      obtain ⟨v19, hv19, e77⟩ := hF.get 19 77 (by kernel_rfl) (by kernel_rfl)
      obtain rfl : v19 = _ := hv19 _ (Ok.refl _)
      refine wpOp_run (v := .bool true) rfl rfl ?_ (fun _ _ => rfl) (Ok.refl _)
      clear hF
      go_simp
    · intro a' w' hF hR
      have e13 : a'.tmps[13]? = some (.pointer (some ⟨g13, 0, none⟩)) := hF.slot 13 (by kernel_rfl) rfl
      obtain ⟨vg, hvg, eg⟩ := hF.get 20 78 (by kernel_rfl) (by kernel_rfl)
      obtain rfl : vg = _ := hvg _ (Ok.refl _)
      refine wpOp_runG (v := .pointer (some ⟨g13, 0, none⟩)) rfl (wanted_yes rfl (by kernel_rfl) eg) ?_ (fun _ _ => rfl) (Ok.refl _)
      clear hF
      go_simp
    · intro a' w' hF hR
      obtain ⟨v21, hv21, e79⟩ := hF.get 21 79 (by kernel_rfl) (by kernel_rfl)
      obtain rfl : v21 = _ := hv21 _ (Ok.refl _)
      obtain ⟨vg, hvg, eg⟩ := hF.get 20 78 (by kernel_rfl) (by kernel_rfl)
      obtain rfl : vg = _ := hvg _ (Ok.refl _)
      have hZ := (HH.out _ hR).get (g := g13) (x := c) (y := 0) (by simp)
      have c0 := hZ.c0
      have c1 := hZ.c1
      have hzl := hZ.lt
      refine wpOp_runG (v := .agg #[.int .i64 c, .int .i64 0]) rfl (wanted_yes rfl (by kernel_rfl) eg) ?_ (fun _ _ => rfl) (Ok.refl _)
      clear hF
      go_simp
    · intro a' w' hF hR
      have e15 : a'.tmps[15]? = some (.pointer (some ⟨g15, 0, none⟩)) := hF.slot 15 (by kernel_rfl) rfl
      obtain ⟨vg, hvg, eg⟩ := hF.get 20 78 (by kernel_rfl) (by kernel_rfl)
      obtain rfl : vg = _ := hvg _ (Ok.refl _)
      have hZ := (HH.out _ hR).get (g := g15) (x := c) (y := 0) (by simp)
      have c0 := hZ.c0
      have c1 := hZ.c1
      have hzl := hZ.lt
      refine wpOp_runG (v := .agg #[.int .i64 c, .int .i64 0]) rfl (wanted_yes rfl (by kernel_rfl) eg) ?_ (fun _ _ => rfl) (Ok.refl _)
      clear hF
      go_simp
    · intro a' w' hF hR
      obtain ⟨v22, hv22, e80⟩ := hF.get 22 80 (by kernel_rfl) (by kernel_rfl)
      obtain rfl : v22 = _ := hv22 _ (Ok.refl _)
      obtain ⟨v23, hv23, e81⟩ := hF.get 23 81 (by kernel_rfl) (by kernel_rfl)
      obtain rfl : v23 = _ := hv23 _ (Ok.refl _)
      obtain ⟨vg, hvg, eg⟩ := hF.get 20 78 (by kernel_rfl) (by kernel_rfl)
      obtain rfl : vg = _ := hvg _ (Ok.refl _)
      have hE := eqStamp20 c 0 c 0
      simp only [beq_self_eq_true, Bool.and_self] at hE
      refine wpOp_runG (v := .bool true) rfl (wanted_yes rfl (by kernel_rfl) eg) ?_ (fun _ _ => rfl) (Ok.refl _)
      clear hF
      go_simp
    · intro a' w' hF hR
      obtain ⟨v20, hv20, e78⟩ := hF.get 20 78 (by kernel_rfl) (by kernel_rfl)
      obtain rfl : v20 = _ := hv20 _ (Ok.refl _)
      obtain ⟨v24, hv24, e82⟩ := hF.get 24 82 (by kernel_rfl) (by kernel_rfl)
      obtain rfl : v24 = _ := hv24 _ (Ok.refl _)
      refine wpOp_run (v := .bool true) rfl rfl ?_ (fun _ _ => rfl) (Ok.refl _)
      clear hF
      go_simp
    · intro a' w' hF hR
      obtain ⟨v25, hv25, e83⟩ := hF.get 25 83 (by kernel_rfl) (by kernel_rfl)
      obtain rfl : v25 = _ := hv25 _ (Ok.refl _)
      refine wpOp_run (v := .bool true) rfl rfl ?_ (fun _ _ => rfl) (Ok.refl _)
      clear hF
      go_simp
    · intro a' w' hF hR
      have e14 : a'.tmps[14]? = some (.bool true) := hF.slot 14 (by kernel_rfl) rfl
      obtain ⟨vg, hvg, eg⟩ := hF.get 26 84 (by kernel_rfl) (by kernel_rfl)
      obtain rfl : vg = _ := hvg _ (Ok.refl _)
      refine wpOp_runG (v := .bool true) rfl (wanted_yes rfl (by kernel_rfl) eg) ?_ (fun _ _ => rfl) (Ok.refl _)
      clear hF
      go_simp
    · intro a' w' hF hR
      have e16 : a'.tmps[16]? = some (.bool true) := hF.slot 16 (by kernel_rfl) rfl
      obtain ⟨vg, hvg, eg⟩ := hF.get 26 84 (by kernel_rfl) (by kernel_rfl)
      obtain rfl : vg = _ := hvg _ (Ok.refl _)
      refine wpOp_runG (v := .bool true) rfl (wanted_yes rfl (by kernel_rfl) eg) ?_ (fun _ _ => rfl) (Ok.refl _)
      clear hF
      go_simp
    · intro a' w' hF hR
      obtain ⟨v27, hv27, e85⟩ := hF.get 27 85 (by kernel_rfl) (by kernel_rfl)
      obtain rfl : v27 = _ := hv27 _ (Ok.refl _)
      obtain ⟨v28, hv28, e86⟩ := hF.get 28 86 (by kernel_rfl) (by kernel_rfl)
      obtain rfl : v28 = _ := hv28 _ (Ok.refl _)
      obtain ⟨vg, hvg, eg⟩ := hF.get 26 84 (by kernel_rfl) (by kernel_rfl)
      obtain rfl : vg = _ := hvg _ (Ok.refl _)
      refine wpOp_runG (v := .bool true) rfl (wanted_yes rfl (by kernel_rfl) eg) ?_ (fun _ _ => rfl) (Ok.refl _)
      clear hF
      go_simp
    · intro a' w' hF hR
      obtain ⟨v26, hv26, e84⟩ := hF.get 26 84 (by kernel_rfl) (by kernel_rfl)
      obtain rfl : v26 = _ := hv26 _ (Ok.refl _)
      obtain ⟨v29, hv29, e87⟩ := hF.get 29 87 (by kernel_rfl) (by kernel_rfl)
      obtain rfl : v29 = _ := hv29 _ (Ok.refl _)
      refine wpOp_run (v := .bool true) rfl rfl ?_ (fun _ _ => rfl) (Ok.refl _)
      clear hF
      go_simp
    · intro a' w' hF hR
      obtain ⟨v30, hv30, e88⟩ := hF.get 30 88 (by kernel_rfl) (by kernel_rfl)
      obtain rfl : v30 = _ := hv30 _ (Ok.refl _)
      refine wpOp_run (v := .bool true) rfl rfl ?_ (fun _ _ => rfl) (Ok.refl _)
      clear hF
      go_simp
    intro us W6 hV hR
    have e31 : us 31 = .bool true := hV 31 (by decide) _ (Ok.refl _)
    have hok := (HOK.out.trans (Ok.refl W5).drew).trans hR
    clear hV HH HOK
    simp only [putFrom, e31]
    simp only [Act.put, List.setIfInBounds_toArray, List.set_cons_zero, List.set_cons_succ]
    go_wp2
    go_ret
    exact ⟨rfl, hok⟩
/-- What each operation leaves. -/
def VMSlate (g h gx g11 g13 g15 : Nat) (t n now k1 k2 x y c : Int) (q : Bool) (w : World) (v : Value) : Nat → Prop
  | 0 => v = .agg #[.int .i64 t, .int .i64 n]
  | 1 => v = .agg #[.int .i64 t, .int .i64 n]
  | 2 => v = .int .i64 now
  | 3 => v = .agg #[.int .i64 x, .int .i64 y]
  | 4 => v = .agg #[.int .i64 x, .int .i64 y]
  | 5 => v = .agg #[.int .i64 t, .int .i64 n]
  | 6 => v = .int .i64 now
  | 7 => v = .agg #[.int .i64 x, .int .i64 y]
  | 8 => v = .bool true
  | 9 => v = .bool true
  | 10 => v = .pointer (some ⟨gx, 0, none⟩)
  | 11 => v = .agg #[.int .i64 k1, .int .i64 k2]
  | 12 => v = .agg #[.int .i64 k1, .int .i64 k2]
  | 13 => v = .bool true
  | 14 => v = .bool true
  | 15 => v = .bool true
  | 16 => v = .bool q
  | 17 => v = .bool q
  | 18 => v = .bool true
  | 19 => v = .bool true
  | 20 => v = .bool true
  | 21 => v = .pointer (some ⟨g13, 0, none⟩)
  | 22 => v = .agg #[.int .i64 c, .int .i64 0]
  | 23 => v = .agg #[.int .i64 c, .int .i64 0]
  | 24 => v = .bool true
  | 25 => v = .bool true
  | 26 => v = .bool true
  | 27 => v = .bool true
  | 28 => v = .bool true
  | 29 => v = .bool true
  | 30 => v = .bool true
  | 31 => v = .bool true
  | _ => v = .bool true
/-- It stays so. -/
def VCSlate (g h gx g11 g13 g15 : Nat) (t n now k1 k2 x y c : Int) (q : Bool) (i : Nat) (v : Value) (w : World) : Prop := ∀ w', Ok w w' → VMSlate g h gx g11 g13 g15 t n now k1 k2 x y c q w' v i
set_option maxHeartbeats 3200000 in
theorem late (w : World) (t n now a b most : Int) (h : Hlc.right (t, n) = true) (h2 : most < t) : Calls Try.prog 4 #[stV (t, n), .int .i64 now, stV (a, b), .int .i64 most] w fun e w' => e = .returned (.bool true) ∧ Ok w w' := by
  have KC := Lib.hid fun w => law20Clock (t, n) w
  have KH := Lib.hid fun w => hlcHear (t, n) now (a, b) most w
  have KI := Lib.hid fun w => ref20Hear (t, n) now (a, b) most w
  have KM := Lib.hid fun w => hlcMend (t, n) now most w
  have KT := Lib.hid fun w => hlcTick (t, n) now w
  have KU := Lib.hid fun w => ref20Tick (t, n) now w
  have KL := Lib.hid fun w => refClip now w
  have KR := Lib.hid fun w => ref20Right (t, n) w
  rw [h] at KR
  have hm : ¬ (Hlc.right (t, n) = true ∧ (t, n).1 ≤ most) := fun k => by have := k.2; simp only at this; omega
  rw [if_neg hm, decide_eq_true hm] at KM
  clear hm
  generalize Sat.clip now = c at KL KM
  generalize Hlc.tick (t, n) now = z at KT KU
  obtain ⟨x, y⟩ := z
  generalize Hlc.hear (t, n) now (a, b) most = z at KH KI
  obtain ⟨⟨k1, k2⟩, q⟩ := z
  clear h
  have HH0 := Lib.hid (Held.two (W := w) t n a b 23 23 rfl rfl)
  have HK := Lib.hid (((Ok.refl w).alloc (.cells #[.int .i64 t, .int .i64 n] 23)).alloc (.cells #[.int .i64 a, .int .i64 b] 23))
  go_enter Try.func4, Try.ntmps4
  go_upto_region 3 with (go_at_call 9; (with_reducible refine (law20Alive _).mono ?_); rintro e w1 ⟨rfl, hb1⟩; have hH := HH0.out.next hb1; have hok := HK.out.trans hb1; clear hb1 HH0 HK)
  obtain ⟨h, hh⟩ : ∃ r, w.heap.size + 1 = r := ⟨_, rfl⟩
  obtain ⟨g, hg⟩ : ∃ r, w.heap.size = r := ⟨_, rfl⟩
  rw [hh, hg] at hH
  rw [hh, hg]
  clear hh hg
  obtain ⟨N0, hN0⟩ : ∃ r, w1.drew.heap.size = r := ⟨_, rfl⟩
  have HN := Lib.hid hN0
  have HN0 := Lib.hid fun gx (hgx : N0 ≤ gx) => And.intro (hH.drew.other (g := gx) (hN0 ▸ hgx)) (Nat.le_trans (hok.trans (Ok.refl w1).drew).size (hN0 ▸ hgx) : w.heap.size ≤ gx)
  have HOK := Lib.hid hok
  have HH := Lib.hid fun W' (k : Ok w1.drew W') => hH.drew.next k
  clear hN0 hH hok
  refine wp_region_facts_float (by kernel_rfl) 89 rfl (VCR N0 g h t n now a b most k1 k2 q) Ok 10 8 rfl (by decide) _ _ rfl rfl (by kernel_rfl) (by kernel_rfl) _ _ rfl rfl rfl (by kernel_rfl) (by kernel_rfl) (fun i v w w' h k w'' k' => h w'' (k.trans k')) (fun a b c => Ok.trans) (Ok.refl _) [some 20, some 21, some 22, some 23, some 24, some 25, some 19, some 26, some 27, some 9] [some 20, some 21, some 22, some 23, some 24, some 25, some 19, some 26, none, some 9] rfl rfl ⟨?_, ?_, ?_, ?_, ?_, ?_, ?_, ?_, ?_, ?_, trivial⟩ ?_ ?_
  · intro a' w' hF hR
    have e4 : a'.tmps[4]? = some (.pointer (some ⟨g, 0, none⟩)) := hF.slot 4 (by kernel_rfl) rfl
    have hZ := (HH.out _ hR).get (g := g) (x := t) (y := n) (by simp)
    have c0 := hZ.c0
    have c1 := hZ.c1
    have hzl := hZ.lt
    refine wpOp_run (v := .agg #[.int .i64 t, .int .i64 n]) rfl rfl ?_ (fun _ _ => rfl) (Ok.refl _)
    clear hF
    go_simp
  · intro a' w' hF hR
    obtain ⟨v0, hv0, e20⟩ := hF.get 0 20 (by kernel_rfl) (by kernel_rfl)
    obtain rfl : v0 = _ := hv0 _ (Ok.refl _)
    clear hF
    refine wpOp_call (f := 16) (args := #[.agg #[.int .i64 t, .int .i64 n]]) rfl rfl ?_ ((KC.out _).mono ?_)
    · go_simp
    · rintro e w2 ⟨rfl, hb2⟩; exact ⟨_, rfl, fun _ _ => rfl, hb2⟩
  · intro a' w' hF hR
    have e1 : a'.tmps[1]? = some (.int .i64 now) := hF.slot 1 (by kernel_rfl) rfl
    refine wpOp_run (v := .int .i64 now) rfl rfl ?_ (fun _ _ => rfl) (Ok.refl _)
    clear hF
    go_simp
  · intro a' w' hF hR
    have e6 : a'.tmps[6]? = some (.pointer (some ⟨h, 0, none⟩)) := hF.slot 6 (by kernel_rfl) rfl
    have hZ := (HH.out _ hR).get (g := h) (x := a) (y := b) (by simp)
    have c0 := hZ.c0
    have c1 := hZ.c1
    have hzl := hZ.lt
    refine wpOp_run (v := .agg #[.int .i64 a, .int .i64 b]) rfl rfl ?_ (fun _ _ => rfl) (Ok.refl _)
    clear hF
    go_simp
  · intro a' w' hF hR
    have e3 : a'.tmps[3]? = some (.int .i64 most) := hF.slot 3 (by kernel_rfl) rfl
    refine wpOp_run (v := .int .i64 most) rfl rfl ?_ (fun _ _ => rfl) (Ok.refl _)
    clear hF
    go_simp
  · intro a' w' hF hR
    obtain ⟨v1, hv1, e21⟩ := hF.get 1 21 (by kernel_rfl) (by kernel_rfl)
    obtain rfl : v1 = _ := hv1 _ (Ok.refl _)
    obtain ⟨v2, hv2, e22⟩ := hF.get 2 22 (by kernel_rfl) (by kernel_rfl)
    obtain rfl : v2 = _ := hv2 _ (Ok.refl _)
    obtain ⟨v3, hv3, e23⟩ := hF.get 3 23 (by kernel_rfl) (by kernel_rfl)
    obtain rfl : v3 = _ := hv3 _ (Ok.refl _)
    obtain ⟨v4, hv4, e24⟩ := hF.get 4 24 (by kernel_rfl) (by kernel_rfl)
    obtain rfl : v4 = _ := hv4 _ (Ok.refl _)
    clear hF
    refine wpOp_call (f := 17) (args := #[.agg #[.int .i64 t, .int .i64 n], .int .i64 now, .agg #[.int .i64 a, .int .i64 b], .int .i64 most]) rfl rfl ?_ ((KH.out _).mono ?_)
    · go_simp
    · rintro e w2 ⟨rfl, hb2⟩; exact ⟨_, rfl, fun _ _ => rfl, hb2⟩
  · intro a' w' hF hR
    obtain ⟨v5, hv5, e25⟩ := hF.get 5 25 (by kernel_rfl) (by kernel_rfl)
    obtain rfl : v5 = _ := hv5 _ (Ok.refl _)
    refine wpOp_run (v := .tuple #[.agg #[.int .i64 k1, .int .i64 k2], .bool q]) rfl rfl ?_ (fun _ _ => rfl) (Ok.refl _)
    clear hF
    go_simp
  · intro a' w' hF hR
    obtain ⟨v6, hv6, e19⟩ := hF.get 6 19 (by kernel_rfl) (by kernel_rfl)
    obtain rfl : v6 = _ := hv6 _ (Ok.refl _)
    refine wpOp_run (v := .agg #[.int .i64 k1, .int .i64 k2]) rfl rfl ?_ (fun _ _ => rfl) (Ok.refl _)
    clear hF
    go_simp
  · intro a' w' hF hR
    obtain ⟨v6, hv6, e19⟩ := hF.get 6 19 (by kernel_rfl) (by kernel_rfl)
    obtain rfl : v6 = _ := hv6 _ (Ok.refl _)
    refine wpOp_run (v := .bool q) rfl rfl ?_ (fun _ _ => rfl) (Ok.refl _)
    clear hF
    go_simp
  · intro a' w' hF hR
    have hzero : Sem.run Try.prog (zeroValue 29) w' = .ok (.agg #[.int .i64 0, .int .i64 0]) w' := by kernel_rfl
    refine wpOp_run (v := .pointer (some ⟨w'.heap.size, 0, none⟩)) (w' := w'.alloc (.cells #[.int .i64 0, .int .i64 0] 29)) rfl rfl ?_ (fun w'' k => ⟨_, rfl, (Own.new _ _ _ rfl).next k, (HN.out ▸ hR.size)⟩) ((Ok.refl _).alloc _)
    clear hF
    go_simp
  · intro vs W' hvs hR
    have e7 : vs 7 = .agg #[.int .i64 k1, .int .i64 k2] := hvs 7 (by decide) _ (Ok.refl _)
    have e8 : vs 8 = .bool q := hvs 8 (by decide) _ (Ok.refl _)
    obtain ⟨gx, e9, hX, hgx⟩ := hvs 9 (by decide) _ (Ok.refl _)
    have hH := HH.out _ hR
    have hok := (HOK.out.trans (Ok.refl w1).drew).trans hR
    have hn := HN0.out _ hgx
    have hxx : Slab W' gx 0 0 := ⟨hX.blk⟩
    have f0 := hxx.f0
    have f1 := hxx.f1
    have c0 := hxx.c0
    have c1 := hxx.c1
    clear hvs HH HOK HN HN0 KH hX hgx
    simp only [putFrom, e7, e8, e9]
    simp only [Act.put, List.setIfInBounds_toArray, List.set_cons_zero, List.set_cons_succ]
    refine wpOp_store (w' := (W'.setCell ⟨gx, 0, none⟩ (.int .i64 k1)).setCell ⟨gx, 1, none⟩ (.int .i64 k2)) rfl rfl rfl ?_ ?_
    · go_simp
    replace hH := hH.setTwo hn.1 hxx k1 k2
    replace hok := hok.two hn.2 k1 k2
    clear f0 f1 c0 c1 hxx hn e7 e8 e9
    generalize (W'.setCell ⟨gx, 0, none⟩ (.int .i64 k1)).setCell ⟨gx, 1, none⟩ (.int .i64 k2) = W2 at hH hok ⊢
    refine wpOp_leaves (v := .bool q) (w' := W2) rfl rfl ?_ ?_
    · go_simp
    simp only [Act.put, List.setIfInBounds_toArray]
    generalize vs 0 = z0
    generalize vs 1 = z1
    generalize vs 2 = z2
    generalize vs 3 = z3
    generalize vs 4 = z4
    generalize vs 5 = z5
    try generalize vs 6 = z6
    clear hR vs
    have p0 := (hH.get (g := g) (x := t) (y := n) (by simp)).c0
    have p1 := (hH.get (g := g) (x := t) (y := n) (by simp)).c1
    have pl := (hH.get (g := g) (x := t) (y := n) (by simp)).lt
    have s0 := (hH.get (g := h) (x := a) (y := b) (by simp)).c0
    have s1 := (hH.get (g := h) (x := a) (y := b) (by simp)).c1
    have sl := (hH.get (g := h) (x := a) (y := b) (by simp)).lt
    go_upto_region 10 with (first | (go_at_call 18; refine (KI.out _).mono ?_; rintro e w3 ⟨rfl, hb1⟩; replace hH := (hH.next hb1).push k1 k2 23 rfl; replace hok := (hok.trans hb1).alloc (.cells #[.int .i64 k1, .int .i64 k2] 23); clear hb1 p0 p1 pl s0 s1 sl; have p0 := (hH.get (g := g) (x := t) (y := n) (by simp)).c0; have p1 := (hH.get (g := g) (x := t) (y := n) (by simp)).c1; have pl := (hH.get (g := g) (x := t) (y := n) (by simp)).lt) | (go_at_call 16; refine (KC.out _).mono ?_; rintro e w4 ⟨rfl, hb1⟩; replace hH := hH.next hb1; replace hok := hok.trans hb1; clear hb1) | (go_at_call 19; refine (KM.out _).mono ?_; rintro e w5 ⟨rfl, hb1⟩; have hQ := (hH.next hb1).push c 0 29 rfl; have hz5 := hok.trans hb1; have NEW := Lib.hid (hQ.other (g := w5.heap.size + 1) (by simp)); have NEWW := Lib.hid (show w.heap.size ≤ w5.heap.size + 1 by have := hz5.size; omega); replace hH := ((hH.next hb1).push c 0 29 rfl).push t n 23 (g := w5.heap.size + 1) (by simp); replace hok := ((hok.trans hb1).alloc (.cells #[.int .i64 c, .int .i64 0] 29)).alloc (.cells #[.int .i64 t, .int .i64 n] 23); clear hb1 hz5 p0 p1 pl; have p0 := (hQ.get (g := g) (x := t) (y := n) (by simp)).c0; have p1 := (hQ.get (g := g) (x := t) (y := n) (by simp)).c1; have pl := (hQ.get (g := g) (x := t) (y := n) (by simp)).lt; have s0 := (hH.get (g := g) (x := t) (y := n) (by simp)).c0; have s1 := (hH.get (g := g) (x := t) (y := n) (by simp)).c1; have sl := (hH.get (g := g) (x := t) (y := n) (by simp)).lt; clear hQ) | (go_at_call 13; refine (KR.out _).mono ?_; rintro e w6 ⟨rfl, hb1⟩; replace hH := hH.next hb1; replace hok := hok.trans hb1; clear hb1 p0 p1 pl s0 s1 sl; have p0 := (hH.get (g := g) (x := t) (y := n) (by simp)).c0; have p1 := (hH.get (g := g) (x := t) (y := n) (by simp)).c1; have pl := (hH.get (g := g) (x := t) (y := n) (by simp)).lt; have r0 := (hH.get (g := w5.heap.size + 1) (x := t) (y := n) (by simp)).c0; have r1 := (hH.get (g := w5.heap.size + 1) (x := t) (y := n) (by simp)).c1; have rl := (hH.get (g := w5.heap.size + 1) (x := t) (y := n) (by simp)).lt; have f0 := (hH.get (g := w5.heap.size + 1) (x := t) (y := n) (by simp)).f0; have f1 := (hH.get (g := w5.heap.size + 1) (x := t) (y := n) (by simp)).f1; have hy := hH.get (g := w5.heap.size + 1) (x := t) (y := n) (by simp)) | (go_at_call 20; refine (KL.out _).mono ?_; rintro e w7 ⟨rfl, rfl⟩))
    replace hH : Held ((w5.heap.size + 1, c, 0) :: [(w5.heap.size, c, 0), (w3.heap.size, k1, k2), (gx, k1, k2), (h, a, b), (g, t, n)]) ((w6.setCell ⟨w5.heap.size + 1, 0, none⟩ (.int .i64 c)).setCell ⟨w5.heap.size + 1, 1, none⟩ (.int .i64 0)) := by
      have hT : Held [(w5.heap.size, c, 0), (w3.heap.size, k1, k2), (gx, k1, k2), (h, a, b), (g, t, n)] w6 := fun z hz => hH z (List.mem_cons_of_mem _ hz)
      exact hT.setTwo NEW.out hy c 0
    replace hok := hok.two NEWW.out c 0
    generalize (w6.setCell ⟨w5.heap.size + 1, 0, none⟩ (.int .i64 c)).setCell ⟨w5.heap.size + 1, 1, none⟩ (.int .i64 0) = W5 at hH hok ⊢
    clear p0 p1 pl r0 r1 rl f0 f1 hy
    obtain ⟨g15, h15⟩ : ∃ r, w5.heap.size + 1 = r := ⟨_, rfl⟩
    rw [h15] at hH
    rw [h15]
    obtain ⟨g13, h13⟩ : ∃ r, w5.heap.size = r := ⟨_, rfl⟩
    rw [h13] at hH
    rw [h13]
    obtain ⟨g11, h11⟩ : ∃ r, w3.heap.size = r := ⟨_, rfl⟩
    rw [h11] at hH
    rw [h11]
    clear h15 h13 h11
    have HOK := Lib.hid hok
    have HH := Lib.hid fun W' (k : Ok W5.drew W') => hH.drew.next k
    clear hH hok
    refine wp_region_facts (by kernel_rfl) 89 rfl (VCSlate g h gx g11 g13 g15 t n now k1 k2 x y c q) Ok (by kernel_rfl) (fun i v w w' h k w'' k' => h w'' (k.trans k')) (fun a b c => Ok.trans) (Ok.refl _) [some 58, some 59, some 60, some 61, some 62, some 63, some 64, some 65, some 66, some 67, some 68, some 69, some 70, some 71, some 72, some 73, some 74, some 75, some 76, some 77, some 78, some 79, some 80, some 81, some 82, some 83, some 84, some 85, some 86, some 87, some 88, some 8] rfl 32 rfl ⟨?_, ?_, ?_, ?_, ?_, ?_, ?_, ?_, ?_, ?_, ?_, ?_, ?_, ?_, ?_, ?_, ?_, ?_, ?_, ?_, ?_, ?_, ?_, ?_, ?_, ?_, ?_, ?_, ?_, ?_, ?_, ?_, trivial⟩ ?_
    · intro a' w' hF hR
      have e4 : a'.tmps[4]? = some (.pointer (some ⟨g, 0, none⟩)) := hF.slot 4 (by kernel_rfl) rfl
      have hZ := (HH.out _ hR).get (g := g) (x := t) (y := n) (by simp)
      have c0 := hZ.c0
      have c1 := hZ.c1
      have hzl := hZ.lt
      refine wpOp_run (v := .agg #[.int .i64 t, .int .i64 n]) rfl rfl ?_ (fun _ _ => rfl) (Ok.refl _)
      clear hF
      go_simp
    · intro a' w' hF hR
      obtain ⟨v0, hv0, e58⟩ := hF.get 0 58 (by kernel_rfl) (by kernel_rfl)
      obtain rfl : v0 = _ := hv0 _ (Ok.refl _)
      clear hF
      refine wpOp_call (f := 16) (args := #[.agg #[.int .i64 t, .int .i64 n]]) rfl rfl ?_ ((KC.out _).mono ?_)
      · go_simp
      · rintro e w2 ⟨rfl, hb2⟩; exact ⟨_, rfl, fun _ _ => rfl, hb2⟩
    · intro a' w' hF hR
      have e1 : a'.tmps[1]? = some (.int .i64 now) := hF.slot 1 (by kernel_rfl) rfl
      refine wpOp_run (v := .int .i64 now) rfl rfl ?_ (fun _ _ => rfl) (Ok.refl _)
      clear hF
      go_simp
    · intro a' w' hF hR
      obtain ⟨v1, hv1, e59⟩ := hF.get 1 59 (by kernel_rfl) (by kernel_rfl)
      obtain rfl : v1 = _ := hv1 _ (Ok.refl _)
      obtain ⟨v2, hv2, e60⟩ := hF.get 2 60 (by kernel_rfl) (by kernel_rfl)
      obtain rfl : v2 = _ := hv2 _ (Ok.refl _)
      clear hF
      refine wpOp_call (f := 21) (args := #[.agg #[.int .i64 t, .int .i64 n], .int .i64 now]) rfl rfl ?_ ((KT.out _).mono ?_)
      · go_simp
      · rintro e w2 ⟨rfl, hb2⟩; exact ⟨_, rfl, fun _ _ => rfl, hb2⟩
    · intro a' w' hF hR
      obtain ⟨v3, hv3, e61⟩ := hF.get 3 61 (by kernel_rfl) (by kernel_rfl)
      obtain rfl : v3 = _ := hv3 _ (Ok.refl _)
      have hf := clockField (x, y)
      refine wpOp_run (v := .agg #[.int .i64 x, .int .i64 y]) rfl rfl ?_ (fun _ _ => rfl) (Ok.refl _)
      clear hF
      go_simp
    · intro a' w' hF hR
      have e4 : a'.tmps[4]? = some (.pointer (some ⟨g, 0, none⟩)) := hF.slot 4 (by kernel_rfl) rfl
      have hZ := (HH.out _ hR).get (g := g) (x := t) (y := n) (by simp)
      have c0 := hZ.c0
      have c1 := hZ.c1
      have hzl := hZ.lt
      refine wpOp_run (v := .agg #[.int .i64 t, .int .i64 n]) rfl rfl ?_ (fun _ _ => rfl) (Ok.refl _)
      clear hF
      go_simp
    · intro a' w' hF hR
      have e1 : a'.tmps[1]? = some (.int .i64 now) := hF.slot 1 (by kernel_rfl) rfl
      refine wpOp_run (v := .int .i64 now) rfl rfl ?_ (fun _ _ => rfl) (Ok.refl _)
      clear hF
      go_simp
    · intro a' w' hF hR
      obtain ⟨v5, hv5, e63⟩ := hF.get 5 63 (by kernel_rfl) (by kernel_rfl)
      obtain rfl : v5 = _ := hv5 _ (Ok.refl _)
      obtain ⟨v6, hv6, e64⟩ := hF.get 6 64 (by kernel_rfl) (by kernel_rfl)
      obtain rfl : v6 = _ := hv6 _ (Ok.refl _)
      clear hF
      refine wpOp_call (f := 22) (args := #[.agg #[.int .i64 t, .int .i64 n], .int .i64 now]) rfl rfl ?_ ((KU.out _).mono ?_)
      · go_simp
      · rintro e w2 ⟨rfl, hb2⟩; exact ⟨_, rfl, fun _ _ => rfl, hb2⟩
    · intro a' w' hF hR
      obtain ⟨v4, hv4, e62⟩ := hF.get 4 62 (by kernel_rfl) (by kernel_rfl)
      obtain rfl : v4 = _ := hv4 _ (Ok.refl _)
      obtain ⟨v7, hv7, e65⟩ := hF.get 7 65 (by kernel_rfl) (by kernel_rfl)
      obtain rfl : v7 = _ := hv7 _ (Ok.refl _)
      have hE := eqStamp20 x y x y
      simp only [beq_self_eq_true, Bool.and_self] at hE
      refine wpOp_run (v := .bool true) rfl rfl ?_ (fun _ _ => rfl) (Ok.refl _)
      clear hF
      go_simp
    · intro a' w' hF hR
      obtain ⟨v8, hv8, e66⟩ := hF.get 8 66 (by kernel_rfl) (by kernel_rfl)
      obtain rfl : v8 = _ := hv8 _ (Ok.refl _)
      refine wpOp_run (v := .bool true) rfl rfl ?_ (fun _ _ => rfl) (Ok.refl _)
      clear hF
      go_simp
    · intro a' w' hF hR
      have e9 : a'.tmps[9]? = some (.pointer (some ⟨gx, 0, none⟩)) := hF.slot 9 (by kernel_rfl) rfl
      obtain ⟨vg, hvg, eg⟩ := hF.get 9 67 (by kernel_rfl) (by kernel_rfl)
      obtain rfl : vg = _ := hvg _ (Ok.refl _)
      refine wpOp_runG (v := .pointer (some ⟨gx, 0, none⟩)) rfl (wanted_yes rfl (by kernel_rfl) eg) ?_ (fun _ _ => rfl) (Ok.refl _)
      clear hF
      go_simp
    · intro a' w' hF hR
      obtain ⟨v10, hv10, e68⟩ := hF.get 10 68 (by kernel_rfl) (by kernel_rfl)
      obtain rfl : v10 = _ := hv10 _ (Ok.refl _)
      obtain ⟨vg, hvg, eg⟩ := hF.get 9 67 (by kernel_rfl) (by kernel_rfl)
      obtain rfl : vg = _ := hvg _ (Ok.refl _)
      have hZ := (HH.out _ hR).get (g := gx) (x := k1) (y := k2) (by simp)
      have c0 := hZ.c0
      have c1 := hZ.c1
      have hzl := hZ.lt
      refine wpOp_runG (v := .agg #[.int .i64 k1, .int .i64 k2]) rfl (wanted_yes rfl (by kernel_rfl) eg) ?_ (fun _ _ => rfl) (Ok.refl _)
      clear hF
      go_simp
    · intro a' w' hF hR
      have e11 : a'.tmps[11]? = some (.pointer (some ⟨g11, 0, none⟩)) := hF.slot 11 (by kernel_rfl) rfl
      obtain ⟨vg, hvg, eg⟩ := hF.get 9 67 (by kernel_rfl) (by kernel_rfl)
      obtain rfl : vg = _ := hvg _ (Ok.refl _)
      have hZ := (HH.out _ hR).get (g := g11) (x := k1) (y := k2) (by simp)
      have c0 := hZ.c0
      have c1 := hZ.c1
      have hzl := hZ.lt
      refine wpOp_runG (v := .agg #[.int .i64 k1, .int .i64 k2]) rfl (wanted_yes rfl (by kernel_rfl) eg) ?_ (fun _ _ => rfl) (Ok.refl _)
      clear hF
      go_simp
    · intro a' w' hF hR
      obtain ⟨v11, hv11, e69⟩ := hF.get 11 69 (by kernel_rfl) (by kernel_rfl)
      obtain rfl : v11 = _ := hv11 _ (Ok.refl _)
      obtain ⟨v12, hv12, e70⟩ := hF.get 12 70 (by kernel_rfl) (by kernel_rfl)
      obtain rfl : v12 = _ := hv12 _ (Ok.refl _)
      obtain ⟨vg, hvg, eg⟩ := hF.get 9 67 (by kernel_rfl) (by kernel_rfl)
      obtain rfl : vg = _ := hvg _ (Ok.refl _)
      have hE := eqStamp20 k1 k2 k1 k2
      simp only [beq_self_eq_true, Bool.and_self] at hE
      refine wpOp_runG (v := .bool true) rfl (wanted_yes rfl (by kernel_rfl) eg) ?_ (fun _ _ => rfl) (Ok.refl _)
      clear hF
      go_simp
    · intro a' w' hF hR
      obtain ⟨v9, hv9, e67⟩ := hF.get 9 67 (by kernel_rfl) (by kernel_rfl)
      obtain rfl : v9 = _ := hv9 _ (Ok.refl _)
      obtain ⟨v13, hv13, e71⟩ := hF.get 13 71 (by kernel_rfl) (by kernel_rfl)
      obtain rfl : v13 = _ := hv13 _ (Ok.refl _)
      refine wpOp_run (v := .bool true) rfl rfl ?_ (fun _ _ => rfl) (Ok.refl _)
      clear hF
      go_simp
    · intro a' w' hF hR
      obtain ⟨v14, hv14, e72⟩ := hF.get 14 72 (by kernel_rfl) (by kernel_rfl)
      obtain rfl : v14 = _ := hv14 _ (Ok.refl _)
      refine wpOp_run (v := .bool true) rfl rfl ?_ (fun _ _ => rfl) (Ok.refl _)
      clear hF
      go_simp
    · intro a' w' hF hR
      have e10 : a'.tmps[10]? = some (.bool q) := hF.slot 10 (by kernel_rfl) rfl
      obtain ⟨vg, hvg, eg⟩ := hF.get 15 73 (by kernel_rfl) (by kernel_rfl)
      obtain rfl : vg = _ := hvg _ (Ok.refl _)
      refine wpOp_runG (v := .bool q) rfl (wanted_yes rfl (by kernel_rfl) eg) ?_ (fun _ _ => rfl) (Ok.refl _)
      clear hF
      go_simp
    · intro a' w' hF hR
      have e12 : a'.tmps[12]? = some (.bool q) := hF.slot 12 (by kernel_rfl) rfl
      obtain ⟨vg, hvg, eg⟩ := hF.get 15 73 (by kernel_rfl) (by kernel_rfl)
      obtain rfl : vg = _ := hvg _ (Ok.refl _)
      refine wpOp_runG (v := .bool q) rfl (wanted_yes rfl (by kernel_rfl) eg) ?_ (fun _ _ => rfl) (Ok.refl _)
      clear hF
      go_simp
    · intro a' w' hF hR
      obtain ⟨v16, hv16, e74⟩ := hF.get 16 74 (by kernel_rfl) (by kernel_rfl)
      obtain rfl : v16 = _ := hv16 _ (Ok.refl _)
      obtain ⟨v17, hv17, e75⟩ := hF.get 17 75 (by kernel_rfl) (by kernel_rfl)
      obtain rfl : v17 = _ := hv17 _ (Ok.refl _)
      obtain ⟨vg, hvg, eg⟩ := hF.get 15 73 (by kernel_rfl) (by kernel_rfl)
      obtain rfl : vg = _ := hvg _ (Ok.refl _)
      refine wpOp_runG (v := .bool true) rfl (wanted_yes rfl (by kernel_rfl) eg) ?_ (fun _ _ => rfl) (Ok.refl _)
      clear hF
      cases q <;> go_simp
    · intro a' w' hF hR
      obtain ⟨v15, hv15, e73⟩ := hF.get 15 73 (by kernel_rfl) (by kernel_rfl)
      obtain rfl : v15 = _ := hv15 _ (Ok.refl _)
      obtain ⟨v18, hv18, e76⟩ := hF.get 18 76 (by kernel_rfl) (by kernel_rfl)
      obtain rfl : v18 = _ := hv18 _ (Ok.refl _)
      refine wpOp_run (v := .bool true) rfl rfl ?_ (fun _ _ => rfl) (Ok.refl _)
      clear hF
      go_simp
    · intro a' w' hF hR
      obtain ⟨v19, hv19, e77⟩ := hF.get 19 77 (by kernel_rfl) (by kernel_rfl)
      obtain rfl : v19 = _ := hv19 _ (Ok.refl _)
      refine wpOp_run (v := .bool true) rfl rfl ?_ (fun _ _ => rfl) (Ok.refl _)
      clear hF
      go_simp
    · intro a' w' hF hR
      have e13 : a'.tmps[13]? = some (.pointer (some ⟨g13, 0, none⟩)) := hF.slot 13 (by kernel_rfl) rfl
      obtain ⟨vg, hvg, eg⟩ := hF.get 20 78 (by kernel_rfl) (by kernel_rfl)
      obtain rfl : vg = _ := hvg _ (Ok.refl _)
      refine wpOp_runG (v := .pointer (some ⟨g13, 0, none⟩)) rfl (wanted_yes rfl (by kernel_rfl) eg) ?_ (fun _ _ => rfl) (Ok.refl _)
      clear hF
      go_simp
    · intro a' w' hF hR
      obtain ⟨v21, hv21, e79⟩ := hF.get 21 79 (by kernel_rfl) (by kernel_rfl)
      obtain rfl : v21 = _ := hv21 _ (Ok.refl _)
      obtain ⟨vg, hvg, eg⟩ := hF.get 20 78 (by kernel_rfl) (by kernel_rfl)
      obtain rfl : vg = _ := hvg _ (Ok.refl _)
      have hZ := (HH.out _ hR).get (g := g13) (x := c) (y := 0) (by simp)
      have c0 := hZ.c0
      have c1 := hZ.c1
      have hzl := hZ.lt
      refine wpOp_runG (v := .agg #[.int .i64 c, .int .i64 0]) rfl (wanted_yes rfl (by kernel_rfl) eg) ?_ (fun _ _ => rfl) (Ok.refl _)
      clear hF
      go_simp
    · intro a' w' hF hR
      have e15 : a'.tmps[15]? = some (.pointer (some ⟨g15, 0, none⟩)) := hF.slot 15 (by kernel_rfl) rfl
      obtain ⟨vg, hvg, eg⟩ := hF.get 20 78 (by kernel_rfl) (by kernel_rfl)
      obtain rfl : vg = _ := hvg _ (Ok.refl _)
      have hZ := (HH.out _ hR).get (g := g15) (x := c) (y := 0) (by simp)
      have c0 := hZ.c0
      have c1 := hZ.c1
      have hzl := hZ.lt
      refine wpOp_runG (v := .agg #[.int .i64 c, .int .i64 0]) rfl (wanted_yes rfl (by kernel_rfl) eg) ?_ (fun _ _ => rfl) (Ok.refl _)
      clear hF
      go_simp
    · intro a' w' hF hR
      obtain ⟨v22, hv22, e80⟩ := hF.get 22 80 (by kernel_rfl) (by kernel_rfl)
      obtain rfl : v22 = _ := hv22 _ (Ok.refl _)
      obtain ⟨v23, hv23, e81⟩ := hF.get 23 81 (by kernel_rfl) (by kernel_rfl)
      obtain rfl : v23 = _ := hv23 _ (Ok.refl _)
      obtain ⟨vg, hvg, eg⟩ := hF.get 20 78 (by kernel_rfl) (by kernel_rfl)
      obtain rfl : vg = _ := hvg _ (Ok.refl _)
      have hE := eqStamp20 c 0 c 0
      simp only [beq_self_eq_true, Bool.and_self] at hE
      refine wpOp_runG (v := .bool true) rfl (wanted_yes rfl (by kernel_rfl) eg) ?_ (fun _ _ => rfl) (Ok.refl _)
      clear hF
      go_simp
    · intro a' w' hF hR
      obtain ⟨v20, hv20, e78⟩ := hF.get 20 78 (by kernel_rfl) (by kernel_rfl)
      obtain rfl : v20 = _ := hv20 _ (Ok.refl _)
      obtain ⟨v24, hv24, e82⟩ := hF.get 24 82 (by kernel_rfl) (by kernel_rfl)
      obtain rfl : v24 = _ := hv24 _ (Ok.refl _)
      refine wpOp_run (v := .bool true) rfl rfl ?_ (fun _ _ => rfl) (Ok.refl _)
      clear hF
      go_simp
    · intro a' w' hF hR
      obtain ⟨v25, hv25, e83⟩ := hF.get 25 83 (by kernel_rfl) (by kernel_rfl)
      obtain rfl : v25 = _ := hv25 _ (Ok.refl _)
      refine wpOp_run (v := .bool true) rfl rfl ?_ (fun _ _ => rfl) (Ok.refl _)
      clear hF
      go_simp
    · intro a' w' hF hR
      have e14 : a'.tmps[14]? = some (.bool true) := hF.slot 14 (by kernel_rfl) rfl
      obtain ⟨vg, hvg, eg⟩ := hF.get 26 84 (by kernel_rfl) (by kernel_rfl)
      obtain rfl : vg = _ := hvg _ (Ok.refl _)
      refine wpOp_runG (v := .bool true) rfl (wanted_yes rfl (by kernel_rfl) eg) ?_ (fun _ _ => rfl) (Ok.refl _)
      clear hF
      go_simp
    · intro a' w' hF hR
      have e16 : a'.tmps[16]? = some (.bool true) := hF.slot 16 (by kernel_rfl) rfl
      obtain ⟨vg, hvg, eg⟩ := hF.get 26 84 (by kernel_rfl) (by kernel_rfl)
      obtain rfl : vg = _ := hvg _ (Ok.refl _)
      refine wpOp_runG (v := .bool true) rfl (wanted_yes rfl (by kernel_rfl) eg) ?_ (fun _ _ => rfl) (Ok.refl _)
      clear hF
      go_simp
    · intro a' w' hF hR
      obtain ⟨v27, hv27, e85⟩ := hF.get 27 85 (by kernel_rfl) (by kernel_rfl)
      obtain rfl : v27 = _ := hv27 _ (Ok.refl _)
      obtain ⟨v28, hv28, e86⟩ := hF.get 28 86 (by kernel_rfl) (by kernel_rfl)
      obtain rfl : v28 = _ := hv28 _ (Ok.refl _)
      obtain ⟨vg, hvg, eg⟩ := hF.get 26 84 (by kernel_rfl) (by kernel_rfl)
      obtain rfl : vg = _ := hvg _ (Ok.refl _)
      refine wpOp_runG (v := .bool true) rfl (wanted_yes rfl (by kernel_rfl) eg) ?_ (fun _ _ => rfl) (Ok.refl _)
      clear hF
      go_simp
    · intro a' w' hF hR
      obtain ⟨v26, hv26, e84⟩ := hF.get 26 84 (by kernel_rfl) (by kernel_rfl)
      obtain rfl : v26 = _ := hv26 _ (Ok.refl _)
      obtain ⟨v29, hv29, e87⟩ := hF.get 29 87 (by kernel_rfl) (by kernel_rfl)
      obtain rfl : v29 = _ := hv29 _ (Ok.refl _)
      refine wpOp_run (v := .bool true) rfl rfl ?_ (fun _ _ => rfl) (Ok.refl _)
      clear hF
      go_simp
    · intro a' w' hF hR
      obtain ⟨v30, hv30, e88⟩ := hF.get 30 88 (by kernel_rfl) (by kernel_rfl)
      obtain rfl : v30 = _ := hv30 _ (Ok.refl _)
      refine wpOp_run (v := .bool true) rfl rfl ?_ (fun _ _ => rfl) (Ok.refl _)
      clear hF
      go_simp
    intro us W6 hV hR
    have e31 : us 31 = .bool true := hV 31 (by decide) _ (Ok.refl _)
    have hok := (HOK.out.trans (Ok.refl W5).drew).trans hR
    clear hV HH HOK
    simp only [putFrom, e31]
    simp only [Act.put, List.setIfInBounds_toArray, List.set_cons_zero, List.set_cons_succ]
    go_wp2
    go_ret
    exact ⟨rfl, hok⟩
  · intro vs W' hvs hR
    have e7 : vs 7 = .agg #[.int .i64 k1, .int .i64 k2] := hvs 7 (by decide) (by decide) _ (Ok.refl _)
    have e8 : vs 6 = .tuple #[.agg #[.int .i64 k1, .int .i64 k2], .bool q] := hvs 6 (by decide) (by decide) _ (Ok.refl _)
    obtain ⟨gx, e9, hX, hgx⟩ := hvs 9 (by decide) (by decide) _ (Ok.refl _)
    have hH := HH.out _ hR
    have hok := (HOK.out.trans (Ok.refl w1).drew).trans hR
    have hn := HN0.out _ hgx
    have hxx : Slab W' gx 0 0 := ⟨hX.blk⟩
    have f0 := hxx.f0
    have f1 := hxx.f1
    have c0 := hxx.c0
    have c1 := hxx.c1
    clear hvs HH HOK HN HN0 KH hX hgx
    simp only [putFrom, e7, e8, e9]
    simp only [Act.put, List.setIfInBounds_toArray, List.set_cons_zero, List.set_cons_succ]
    refine wpOp_store (w' := (W'.setCell ⟨gx, 0, none⟩ (.int .i64 k1)).setCell ⟨gx, 1, none⟩ (.int .i64 k2)) rfl rfl rfl ?_ ?_
    · go_simp
    replace hH := hH.setTwo hn.1 hxx k1 k2
    replace hok := hok.two hn.2 k1 k2
    clear f0 f1 c0 c1 hxx hn e7 e8 e9
    generalize (W'.setCell ⟨gx, 0, none⟩ (.int .i64 k1)).setCell ⟨gx, 1, none⟩ (.int .i64 k2) = W2 at hH hok ⊢
    refine wpOp_leaves (v := .bool q) (w' := W2) rfl rfl ?_ ?_
    · go_simp
    simp only [Act.put, List.setIfInBounds_toArray]
    refine wpOp_leaves (v := .bool q) (w' := W2) rfl rfl ?_ ?_
    · go_simp
    simp only [Act.put]
    generalize vs 0 = z0
    generalize vs 1 = z1
    generalize vs 2 = z2
    generalize vs 3 = z3
    generalize vs 4 = z4
    generalize vs 5 = z5
    try generalize vs 6 = z6
    clear hR vs
    have p0 := (hH.get (g := g) (x := t) (y := n) (by simp)).c0
    have p1 := (hH.get (g := g) (x := t) (y := n) (by simp)).c1
    have pl := (hH.get (g := g) (x := t) (y := n) (by simp)).lt
    have s0 := (hH.get (g := h) (x := a) (y := b) (by simp)).c0
    have s1 := (hH.get (g := h) (x := a) (y := b) (by simp)).c1
    have sl := (hH.get (g := h) (x := a) (y := b) (by simp)).lt
    go_upto_region 10 with (first | (go_at_call 18; refine (KI.out _).mono ?_; rintro e w3 ⟨rfl, hb1⟩; replace hH := (hH.next hb1).push k1 k2 23 rfl; replace hok := (hok.trans hb1).alloc (.cells #[.int .i64 k1, .int .i64 k2] 23); clear hb1 p0 p1 pl s0 s1 sl; have p0 := (hH.get (g := g) (x := t) (y := n) (by simp)).c0; have p1 := (hH.get (g := g) (x := t) (y := n) (by simp)).c1; have pl := (hH.get (g := g) (x := t) (y := n) (by simp)).lt) | (go_at_call 16; refine (KC.out _).mono ?_; rintro e w4 ⟨rfl, hb1⟩; replace hH := hH.next hb1; replace hok := hok.trans hb1; clear hb1) | (go_at_call 19; refine (KM.out _).mono ?_; rintro e w5 ⟨rfl, hb1⟩; have hQ := (hH.next hb1).push c 0 29 rfl; have hz5 := hok.trans hb1; have NEW := Lib.hid (hQ.other (g := w5.heap.size + 1) (by simp)); have NEWW := Lib.hid (show w.heap.size ≤ w5.heap.size + 1 by have := hz5.size; omega); replace hH := ((hH.next hb1).push c 0 29 rfl).push t n 23 (g := w5.heap.size + 1) (by simp); replace hok := ((hok.trans hb1).alloc (.cells #[.int .i64 c, .int .i64 0] 29)).alloc (.cells #[.int .i64 t, .int .i64 n] 23); clear hb1 hz5 p0 p1 pl; have p0 := (hQ.get (g := g) (x := t) (y := n) (by simp)).c0; have p1 := (hQ.get (g := g) (x := t) (y := n) (by simp)).c1; have pl := (hQ.get (g := g) (x := t) (y := n) (by simp)).lt; have s0 := (hH.get (g := g) (x := t) (y := n) (by simp)).c0; have s1 := (hH.get (g := g) (x := t) (y := n) (by simp)).c1; have sl := (hH.get (g := g) (x := t) (y := n) (by simp)).lt; clear hQ) | (go_at_call 13; refine (KR.out _).mono ?_; rintro e w6 ⟨rfl, hb1⟩; replace hH := hH.next hb1; replace hok := hok.trans hb1; clear hb1 p0 p1 pl s0 s1 sl; have p0 := (hH.get (g := g) (x := t) (y := n) (by simp)).c0; have p1 := (hH.get (g := g) (x := t) (y := n) (by simp)).c1; have pl := (hH.get (g := g) (x := t) (y := n) (by simp)).lt; have r0 := (hH.get (g := w5.heap.size + 1) (x := t) (y := n) (by simp)).c0; have r1 := (hH.get (g := w5.heap.size + 1) (x := t) (y := n) (by simp)).c1; have rl := (hH.get (g := w5.heap.size + 1) (x := t) (y := n) (by simp)).lt; have f0 := (hH.get (g := w5.heap.size + 1) (x := t) (y := n) (by simp)).f0; have f1 := (hH.get (g := w5.heap.size + 1) (x := t) (y := n) (by simp)).f1; have hy := hH.get (g := w5.heap.size + 1) (x := t) (y := n) (by simp)) | (go_at_call 20; refine (KL.out _).mono ?_; rintro e w7 ⟨rfl, rfl⟩))
    replace hH : Held ((w5.heap.size + 1, c, 0) :: [(w5.heap.size, c, 0), (w3.heap.size, k1, k2), (gx, k1, k2), (h, a, b), (g, t, n)]) ((w6.setCell ⟨w5.heap.size + 1, 0, none⟩ (.int .i64 c)).setCell ⟨w5.heap.size + 1, 1, none⟩ (.int .i64 0)) := by
      have hT : Held [(w5.heap.size, c, 0), (w3.heap.size, k1, k2), (gx, k1, k2), (h, a, b), (g, t, n)] w6 := fun z hz => hH z (List.mem_cons_of_mem _ hz)
      exact hT.setTwo NEW.out hy c 0
    replace hok := hok.two NEWW.out c 0
    generalize (w6.setCell ⟨w5.heap.size + 1, 0, none⟩ (.int .i64 c)).setCell ⟨w5.heap.size + 1, 1, none⟩ (.int .i64 0) = W5 at hH hok ⊢
    clear p0 p1 pl r0 r1 rl f0 f1 hy
    obtain ⟨g15, h15⟩ : ∃ r, w5.heap.size + 1 = r := ⟨_, rfl⟩
    rw [h15] at hH
    rw [h15]
    obtain ⟨g13, h13⟩ : ∃ r, w5.heap.size = r := ⟨_, rfl⟩
    rw [h13] at hH
    rw [h13]
    obtain ⟨g11, h11⟩ : ∃ r, w3.heap.size = r := ⟨_, rfl⟩
    rw [h11] at hH
    rw [h11]
    clear h15 h13 h11
    have HOK := Lib.hid hok
    have HH := Lib.hid fun W' (k : Ok W5.drew W') => hH.drew.next k
    clear hH hok
    refine wp_region_facts (by kernel_rfl) 89 rfl (VCSlate g h gx g11 g13 g15 t n now k1 k2 x y c q) Ok (by kernel_rfl) (fun i v w w' h k w'' k' => h w'' (k.trans k')) (fun a b c => Ok.trans) (Ok.refl _) [some 58, some 59, some 60, some 61, some 62, some 63, some 64, some 65, some 66, some 67, some 68, some 69, some 70, some 71, some 72, some 73, some 74, some 75, some 76, some 77, some 78, some 79, some 80, some 81, some 82, some 83, some 84, some 85, some 86, some 87, some 88, some 8] rfl 32 rfl ⟨?_, ?_, ?_, ?_, ?_, ?_, ?_, ?_, ?_, ?_, ?_, ?_, ?_, ?_, ?_, ?_, ?_, ?_, ?_, ?_, ?_, ?_, ?_, ?_, ?_, ?_, ?_, ?_, ?_, ?_, ?_, ?_, trivial⟩ ?_
    · intro a' w' hF hR
      have e4 : a'.tmps[4]? = some (.pointer (some ⟨g, 0, none⟩)) := hF.slot 4 (by kernel_rfl) rfl
      have hZ := (HH.out _ hR).get (g := g) (x := t) (y := n) (by simp)
      have c0 := hZ.c0
      have c1 := hZ.c1
      have hzl := hZ.lt
      refine wpOp_run (v := .agg #[.int .i64 t, .int .i64 n]) rfl rfl ?_ (fun _ _ => rfl) (Ok.refl _)
      clear hF
      go_simp
    · intro a' w' hF hR
      obtain ⟨v0, hv0, e58⟩ := hF.get 0 58 (by kernel_rfl) (by kernel_rfl)
      obtain rfl : v0 = _ := hv0 _ (Ok.refl _)
      clear hF
      refine wpOp_call (f := 16) (args := #[.agg #[.int .i64 t, .int .i64 n]]) rfl rfl ?_ ((KC.out _).mono ?_)
      · go_simp
      · rintro e w2 ⟨rfl, hb2⟩; exact ⟨_, rfl, fun _ _ => rfl, hb2⟩
    · intro a' w' hF hR
      have e1 : a'.tmps[1]? = some (.int .i64 now) := hF.slot 1 (by kernel_rfl) rfl
      refine wpOp_run (v := .int .i64 now) rfl rfl ?_ (fun _ _ => rfl) (Ok.refl _)
      clear hF
      go_simp
    · intro a' w' hF hR
      obtain ⟨v1, hv1, e59⟩ := hF.get 1 59 (by kernel_rfl) (by kernel_rfl)
      obtain rfl : v1 = _ := hv1 _ (Ok.refl _)
      obtain ⟨v2, hv2, e60⟩ := hF.get 2 60 (by kernel_rfl) (by kernel_rfl)
      obtain rfl : v2 = _ := hv2 _ (Ok.refl _)
      clear hF
      refine wpOp_call (f := 21) (args := #[.agg #[.int .i64 t, .int .i64 n], .int .i64 now]) rfl rfl ?_ ((KT.out _).mono ?_)
      · go_simp
      · rintro e w2 ⟨rfl, hb2⟩; exact ⟨_, rfl, fun _ _ => rfl, hb2⟩
    · intro a' w' hF hR
      obtain ⟨v3, hv3, e61⟩ := hF.get 3 61 (by kernel_rfl) (by kernel_rfl)
      obtain rfl : v3 = _ := hv3 _ (Ok.refl _)
      have hf := clockField (x, y)
      refine wpOp_run (v := .agg #[.int .i64 x, .int .i64 y]) rfl rfl ?_ (fun _ _ => rfl) (Ok.refl _)
      clear hF
      go_simp
    · intro a' w' hF hR
      have e4 : a'.tmps[4]? = some (.pointer (some ⟨g, 0, none⟩)) := hF.slot 4 (by kernel_rfl) rfl
      have hZ := (HH.out _ hR).get (g := g) (x := t) (y := n) (by simp)
      have c0 := hZ.c0
      have c1 := hZ.c1
      have hzl := hZ.lt
      refine wpOp_run (v := .agg #[.int .i64 t, .int .i64 n]) rfl rfl ?_ (fun _ _ => rfl) (Ok.refl _)
      clear hF
      go_simp
    · intro a' w' hF hR
      have e1 : a'.tmps[1]? = some (.int .i64 now) := hF.slot 1 (by kernel_rfl) rfl
      refine wpOp_run (v := .int .i64 now) rfl rfl ?_ (fun _ _ => rfl) (Ok.refl _)
      clear hF
      go_simp
    · intro a' w' hF hR
      obtain ⟨v5, hv5, e63⟩ := hF.get 5 63 (by kernel_rfl) (by kernel_rfl)
      obtain rfl : v5 = _ := hv5 _ (Ok.refl _)
      obtain ⟨v6, hv6, e64⟩ := hF.get 6 64 (by kernel_rfl) (by kernel_rfl)
      obtain rfl : v6 = _ := hv6 _ (Ok.refl _)
      clear hF
      refine wpOp_call (f := 22) (args := #[.agg #[.int .i64 t, .int .i64 n], .int .i64 now]) rfl rfl ?_ ((KU.out _).mono ?_)
      · go_simp
      · rintro e w2 ⟨rfl, hb2⟩; exact ⟨_, rfl, fun _ _ => rfl, hb2⟩
    · intro a' w' hF hR
      obtain ⟨v4, hv4, e62⟩ := hF.get 4 62 (by kernel_rfl) (by kernel_rfl)
      obtain rfl : v4 = _ := hv4 _ (Ok.refl _)
      obtain ⟨v7, hv7, e65⟩ := hF.get 7 65 (by kernel_rfl) (by kernel_rfl)
      obtain rfl : v7 = _ := hv7 _ (Ok.refl _)
      have hE := eqStamp20 x y x y
      simp only [beq_self_eq_true, Bool.and_self] at hE
      refine wpOp_run (v := .bool true) rfl rfl ?_ (fun _ _ => rfl) (Ok.refl _)
      clear hF
      go_simp
    · intro a' w' hF hR
      obtain ⟨v8, hv8, e66⟩ := hF.get 8 66 (by kernel_rfl) (by kernel_rfl)
      obtain rfl : v8 = _ := hv8 _ (Ok.refl _)
      refine wpOp_run (v := .bool true) rfl rfl ?_ (fun _ _ => rfl) (Ok.refl _)
      clear hF
      go_simp
    · intro a' w' hF hR
      have e9 : a'.tmps[9]? = some (.pointer (some ⟨gx, 0, none⟩)) := hF.slot 9 (by kernel_rfl) rfl
      obtain ⟨vg, hvg, eg⟩ := hF.get 9 67 (by kernel_rfl) (by kernel_rfl)
      obtain rfl : vg = _ := hvg _ (Ok.refl _)
      refine wpOp_runG (v := .pointer (some ⟨gx, 0, none⟩)) rfl (wanted_yes rfl (by kernel_rfl) eg) ?_ (fun _ _ => rfl) (Ok.refl _)
      clear hF
      go_simp
    · intro a' w' hF hR
      obtain ⟨v10, hv10, e68⟩ := hF.get 10 68 (by kernel_rfl) (by kernel_rfl)
      obtain rfl : v10 = _ := hv10 _ (Ok.refl _)
      obtain ⟨vg, hvg, eg⟩ := hF.get 9 67 (by kernel_rfl) (by kernel_rfl)
      obtain rfl : vg = _ := hvg _ (Ok.refl _)
      have hZ := (HH.out _ hR).get (g := gx) (x := k1) (y := k2) (by simp)
      have c0 := hZ.c0
      have c1 := hZ.c1
      have hzl := hZ.lt
      refine wpOp_runG (v := .agg #[.int .i64 k1, .int .i64 k2]) rfl (wanted_yes rfl (by kernel_rfl) eg) ?_ (fun _ _ => rfl) (Ok.refl _)
      clear hF
      go_simp
    · intro a' w' hF hR
      have e11 : a'.tmps[11]? = some (.pointer (some ⟨g11, 0, none⟩)) := hF.slot 11 (by kernel_rfl) rfl
      obtain ⟨vg, hvg, eg⟩ := hF.get 9 67 (by kernel_rfl) (by kernel_rfl)
      obtain rfl : vg = _ := hvg _ (Ok.refl _)
      have hZ := (HH.out _ hR).get (g := g11) (x := k1) (y := k2) (by simp)
      have c0 := hZ.c0
      have c1 := hZ.c1
      have hzl := hZ.lt
      refine wpOp_runG (v := .agg #[.int .i64 k1, .int .i64 k2]) rfl (wanted_yes rfl (by kernel_rfl) eg) ?_ (fun _ _ => rfl) (Ok.refl _)
      clear hF
      go_simp
    · intro a' w' hF hR
      obtain ⟨v11, hv11, e69⟩ := hF.get 11 69 (by kernel_rfl) (by kernel_rfl)
      obtain rfl : v11 = _ := hv11 _ (Ok.refl _)
      obtain ⟨v12, hv12, e70⟩ := hF.get 12 70 (by kernel_rfl) (by kernel_rfl)
      obtain rfl : v12 = _ := hv12 _ (Ok.refl _)
      obtain ⟨vg, hvg, eg⟩ := hF.get 9 67 (by kernel_rfl) (by kernel_rfl)
      obtain rfl : vg = _ := hvg _ (Ok.refl _)
      have hE := eqStamp20 k1 k2 k1 k2
      simp only [beq_self_eq_true, Bool.and_self] at hE
      refine wpOp_runG (v := .bool true) rfl (wanted_yes rfl (by kernel_rfl) eg) ?_ (fun _ _ => rfl) (Ok.refl _)
      clear hF
      go_simp
    · intro a' w' hF hR
      obtain ⟨v9, hv9, e67⟩ := hF.get 9 67 (by kernel_rfl) (by kernel_rfl)
      obtain rfl : v9 = _ := hv9 _ (Ok.refl _)
      obtain ⟨v13, hv13, e71⟩ := hF.get 13 71 (by kernel_rfl) (by kernel_rfl)
      obtain rfl : v13 = _ := hv13 _ (Ok.refl _)
      refine wpOp_run (v := .bool true) rfl rfl ?_ (fun _ _ => rfl) (Ok.refl _)
      clear hF
      go_simp
    · intro a' w' hF hR
      obtain ⟨v14, hv14, e72⟩ := hF.get 14 72 (by kernel_rfl) (by kernel_rfl)
      obtain rfl : v14 = _ := hv14 _ (Ok.refl _)
      refine wpOp_run (v := .bool true) rfl rfl ?_ (fun _ _ => rfl) (Ok.refl _)
      clear hF
      go_simp
    · intro a' w' hF hR
      have e10 : a'.tmps[10]? = some (.bool q) := hF.slot 10 (by kernel_rfl) rfl
      obtain ⟨vg, hvg, eg⟩ := hF.get 15 73 (by kernel_rfl) (by kernel_rfl)
      obtain rfl : vg = _ := hvg _ (Ok.refl _)
      refine wpOp_runG (v := .bool q) rfl (wanted_yes rfl (by kernel_rfl) eg) ?_ (fun _ _ => rfl) (Ok.refl _)
      clear hF
      go_simp
    · intro a' w' hF hR
      have e12 : a'.tmps[12]? = some (.bool q) := hF.slot 12 (by kernel_rfl) rfl
      obtain ⟨vg, hvg, eg⟩ := hF.get 15 73 (by kernel_rfl) (by kernel_rfl)
      obtain rfl : vg = _ := hvg _ (Ok.refl _)
      refine wpOp_runG (v := .bool q) rfl (wanted_yes rfl (by kernel_rfl) eg) ?_ (fun _ _ => rfl) (Ok.refl _)
      clear hF
      go_simp
    · intro a' w' hF hR
      obtain ⟨v16, hv16, e74⟩ := hF.get 16 74 (by kernel_rfl) (by kernel_rfl)
      obtain rfl : v16 = _ := hv16 _ (Ok.refl _)
      obtain ⟨v17, hv17, e75⟩ := hF.get 17 75 (by kernel_rfl) (by kernel_rfl)
      obtain rfl : v17 = _ := hv17 _ (Ok.refl _)
      obtain ⟨vg, hvg, eg⟩ := hF.get 15 73 (by kernel_rfl) (by kernel_rfl)
      obtain rfl : vg = _ := hvg _ (Ok.refl _)
      refine wpOp_runG (v := .bool true) rfl (wanted_yes rfl (by kernel_rfl) eg) ?_ (fun _ _ => rfl) (Ok.refl _)
      clear hF
      cases q <;> go_simp
    · intro a' w' hF hR
      obtain ⟨v15, hv15, e73⟩ := hF.get 15 73 (by kernel_rfl) (by kernel_rfl)
      obtain rfl : v15 = _ := hv15 _ (Ok.refl _)
      obtain ⟨v18, hv18, e76⟩ := hF.get 18 76 (by kernel_rfl) (by kernel_rfl)
      obtain rfl : v18 = _ := hv18 _ (Ok.refl _)
      refine wpOp_run (v := .bool true) rfl rfl ?_ (fun _ _ => rfl) (Ok.refl _)
      clear hF
      go_simp
    · intro a' w' hF hR
      obtain ⟨v19, hv19, e77⟩ := hF.get 19 77 (by kernel_rfl) (by kernel_rfl)
      obtain rfl : v19 = _ := hv19 _ (Ok.refl _)
      refine wpOp_run (v := .bool true) rfl rfl ?_ (fun _ _ => rfl) (Ok.refl _)
      clear hF
      go_simp
    · intro a' w' hF hR
      have e13 : a'.tmps[13]? = some (.pointer (some ⟨g13, 0, none⟩)) := hF.slot 13 (by kernel_rfl) rfl
      obtain ⟨vg, hvg, eg⟩ := hF.get 20 78 (by kernel_rfl) (by kernel_rfl)
      obtain rfl : vg = _ := hvg _ (Ok.refl _)
      refine wpOp_runG (v := .pointer (some ⟨g13, 0, none⟩)) rfl (wanted_yes rfl (by kernel_rfl) eg) ?_ (fun _ _ => rfl) (Ok.refl _)
      clear hF
      go_simp
    · intro a' w' hF hR
      obtain ⟨v21, hv21, e79⟩ := hF.get 21 79 (by kernel_rfl) (by kernel_rfl)
      obtain rfl : v21 = _ := hv21 _ (Ok.refl _)
      obtain ⟨vg, hvg, eg⟩ := hF.get 20 78 (by kernel_rfl) (by kernel_rfl)
      obtain rfl : vg = _ := hvg _ (Ok.refl _)
      have hZ := (HH.out _ hR).get (g := g13) (x := c) (y := 0) (by simp)
      have c0 := hZ.c0
      have c1 := hZ.c1
      have hzl := hZ.lt
      refine wpOp_runG (v := .agg #[.int .i64 c, .int .i64 0]) rfl (wanted_yes rfl (by kernel_rfl) eg) ?_ (fun _ _ => rfl) (Ok.refl _)
      clear hF
      go_simp
    · intro a' w' hF hR
      have e15 : a'.tmps[15]? = some (.pointer (some ⟨g15, 0, none⟩)) := hF.slot 15 (by kernel_rfl) rfl
      obtain ⟨vg, hvg, eg⟩ := hF.get 20 78 (by kernel_rfl) (by kernel_rfl)
      obtain rfl : vg = _ := hvg _ (Ok.refl _)
      have hZ := (HH.out _ hR).get (g := g15) (x := c) (y := 0) (by simp)
      have c0 := hZ.c0
      have c1 := hZ.c1
      have hzl := hZ.lt
      refine wpOp_runG (v := .agg #[.int .i64 c, .int .i64 0]) rfl (wanted_yes rfl (by kernel_rfl) eg) ?_ (fun _ _ => rfl) (Ok.refl _)
      clear hF
      go_simp
    · intro a' w' hF hR
      obtain ⟨v22, hv22, e80⟩ := hF.get 22 80 (by kernel_rfl) (by kernel_rfl)
      obtain rfl : v22 = _ := hv22 _ (Ok.refl _)
      obtain ⟨v23, hv23, e81⟩ := hF.get 23 81 (by kernel_rfl) (by kernel_rfl)
      obtain rfl : v23 = _ := hv23 _ (Ok.refl _)
      obtain ⟨vg, hvg, eg⟩ := hF.get 20 78 (by kernel_rfl) (by kernel_rfl)
      obtain rfl : vg = _ := hvg _ (Ok.refl _)
      have hE := eqStamp20 c 0 c 0
      simp only [beq_self_eq_true, Bool.and_self] at hE
      refine wpOp_runG (v := .bool true) rfl (wanted_yes rfl (by kernel_rfl) eg) ?_ (fun _ _ => rfl) (Ok.refl _)
      clear hF
      go_simp
    · intro a' w' hF hR
      obtain ⟨v20, hv20, e78⟩ := hF.get 20 78 (by kernel_rfl) (by kernel_rfl)
      obtain rfl : v20 = _ := hv20 _ (Ok.refl _)
      obtain ⟨v24, hv24, e82⟩ := hF.get 24 82 (by kernel_rfl) (by kernel_rfl)
      obtain rfl : v24 = _ := hv24 _ (Ok.refl _)
      refine wpOp_run (v := .bool true) rfl rfl ?_ (fun _ _ => rfl) (Ok.refl _)
      clear hF
      go_simp
    · intro a' w' hF hR
      obtain ⟨v25, hv25, e83⟩ := hF.get 25 83 (by kernel_rfl) (by kernel_rfl)
      obtain rfl : v25 = _ := hv25 _ (Ok.refl _)
      refine wpOp_run (v := .bool true) rfl rfl ?_ (fun _ _ => rfl) (Ok.refl _)
      clear hF
      go_simp
    · intro a' w' hF hR
      have e14 : a'.tmps[14]? = some (.bool true) := hF.slot 14 (by kernel_rfl) rfl
      obtain ⟨vg, hvg, eg⟩ := hF.get 26 84 (by kernel_rfl) (by kernel_rfl)
      obtain rfl : vg = _ := hvg _ (Ok.refl _)
      refine wpOp_runG (v := .bool true) rfl (wanted_yes rfl (by kernel_rfl) eg) ?_ (fun _ _ => rfl) (Ok.refl _)
      clear hF
      go_simp
    · intro a' w' hF hR
      have e16 : a'.tmps[16]? = some (.bool true) := hF.slot 16 (by kernel_rfl) rfl
      obtain ⟨vg, hvg, eg⟩ := hF.get 26 84 (by kernel_rfl) (by kernel_rfl)
      obtain rfl : vg = _ := hvg _ (Ok.refl _)
      refine wpOp_runG (v := .bool true) rfl (wanted_yes rfl (by kernel_rfl) eg) ?_ (fun _ _ => rfl) (Ok.refl _)
      clear hF
      go_simp
    · intro a' w' hF hR
      obtain ⟨v27, hv27, e85⟩ := hF.get 27 85 (by kernel_rfl) (by kernel_rfl)
      obtain rfl : v27 = _ := hv27 _ (Ok.refl _)
      obtain ⟨v28, hv28, e86⟩ := hF.get 28 86 (by kernel_rfl) (by kernel_rfl)
      obtain rfl : v28 = _ := hv28 _ (Ok.refl _)
      obtain ⟨vg, hvg, eg⟩ := hF.get 26 84 (by kernel_rfl) (by kernel_rfl)
      obtain rfl : vg = _ := hvg _ (Ok.refl _)
      refine wpOp_runG (v := .bool true) rfl (wanted_yes rfl (by kernel_rfl) eg) ?_ (fun _ _ => rfl) (Ok.refl _)
      clear hF
      go_simp
    · intro a' w' hF hR
      obtain ⟨v26, hv26, e84⟩ := hF.get 26 84 (by kernel_rfl) (by kernel_rfl)
      obtain rfl : v26 = _ := hv26 _ (Ok.refl _)
      obtain ⟨v29, hv29, e87⟩ := hF.get 29 87 (by kernel_rfl) (by kernel_rfl)
      obtain rfl : v29 = _ := hv29 _ (Ok.refl _)
      refine wpOp_run (v := .bool true) rfl rfl ?_ (fun _ _ => rfl) (Ok.refl _)
      clear hF
      go_simp
    · intro a' w' hF hR
      obtain ⟨v30, hv30, e88⟩ := hF.get 30 88 (by kernel_rfl) (by kernel_rfl)
      obtain rfl : v30 = _ := hv30 _ (Ok.refl _)
      refine wpOp_run (v := .bool true) rfl rfl ?_ (fun _ _ => rfl) (Ok.refl _)
      clear hF
      go_simp
    intro us W6 hV hR
    have e31 : us 31 = .bool true := hV 31 (by decide) _ (Ok.refl _)
    have hok := (HOK.out.trans (Ok.refl W5).drew).trans hR
    clear hV HH HOK
    simp only [putFrom, e31]
    simp only [Act.put, List.setIfInBounds_toArray, List.set_cons_zero, List.set_cons_succ]
    go_wp2
    go_ret
    exact ⟨rfl, hok⟩
/-- What each operation leaves. -/
def VMSfine (g h gx g11 g13 g15 : Nat) (t n now k1 k2 x y c : Int) (q : Bool) (w : World) (v : Value) : Nat → Prop
  | 0 => v = .agg #[.int .i64 t, .int .i64 n]
  | 1 => v = .agg #[.int .i64 t, .int .i64 n]
  | 2 => v = .int .i64 now
  | 3 => v = .agg #[.int .i64 x, .int .i64 y]
  | 4 => v = .agg #[.int .i64 x, .int .i64 y]
  | 5 => v = .agg #[.int .i64 t, .int .i64 n]
  | 6 => v = .int .i64 now
  | 7 => v = .agg #[.int .i64 x, .int .i64 y]
  | 8 => v = .bool true
  | 9 => v = .bool true
  | 10 => v = .pointer (some ⟨gx, 0, none⟩)
  | 11 => v = .agg #[.int .i64 k1, .int .i64 k2]
  | 12 => v = .agg #[.int .i64 k1, .int .i64 k2]
  | 13 => v = .bool true
  | 14 => v = .bool true
  | 15 => v = .bool true
  | 16 => v = .bool q
  | 17 => v = .bool q
  | 18 => v = .bool true
  | 19 => v = .bool true
  | 20 => v = .bool true
  | 21 => v = .pointer (some ⟨g13, 0, none⟩)
  | 22 => v = .agg #[.int .i64 t, .int .i64 n]
  | 23 => v = .agg #[.int .i64 t, .int .i64 n]
  | 24 => v = .bool true
  | 25 => v = .bool true
  | 26 => v = .bool true
  | 27 => v = .bool false
  | 28 => v = .bool false
  | 29 => v = .bool true
  | 30 => v = .bool true
  | 31 => v = .bool true
  | _ => v = .bool true
/-- It stays so. -/
def VCSfine (g h gx g11 g13 g15 : Nat) (t n now k1 k2 x y c : Int) (q : Bool) (i : Nat) (v : Value) (w : World) : Prop := ∀ w', Ok w w' → VMSfine g h gx g11 g13 g15 t n now k1 k2 x y c q w' v i
set_option maxHeartbeats 3200000 in
theorem fine (w : World) (t n now a b most : Int) (h : Hlc.right (t, n) = true) (h2 : t ≤ most) : Calls Try.prog 4 #[stV (t, n), .int .i64 now, stV (a, b), .int .i64 most] w fun e w' => e = .returned (.bool true) ∧ Ok w w' := by
  have KC := Lib.hid fun w => law20Clock (t, n) w
  have KH := Lib.hid fun w => hlcHear (t, n) now (a, b) most w
  have KI := Lib.hid fun w => ref20Hear (t, n) now (a, b) most w
  have KM := Lib.hid fun w => hlcMend (t, n) now most w
  have KT := Lib.hid fun w => hlcTick (t, n) now w
  have KU := Lib.hid fun w => ref20Tick (t, n) now w
  have KL := Lib.hid fun w => refClip now w
  have KR := Lib.hid fun w => ref20Right (t, n) w
  rw [h] at KR
  have hm : Hlc.right (t, n) = true ∧ (t, n).1 ≤ most := ⟨h, h2⟩
  rw [if_pos hm, decide_eq_false (not_not_intro hm)] at KM
  clear hm
  have d2 : decide (most < t) = false := decide_eq_false (by omega)
  clear h2
  generalize Sat.clip now = c at KL KM
  generalize Hlc.tick (t, n) now = z at KT KU
  obtain ⟨x, y⟩ := z
  generalize Hlc.hear (t, n) now (a, b) most = z at KH KI
  obtain ⟨⟨k1, k2⟩, q⟩ := z
  clear h
  have HH0 := Lib.hid (Held.two (W := w) t n a b 23 23 rfl rfl)
  have HK := Lib.hid (((Ok.refl w).alloc (.cells #[.int .i64 t, .int .i64 n] 23)).alloc (.cells #[.int .i64 a, .int .i64 b] 23))
  go_enter Try.func4, Try.ntmps4
  go_upto_region 3 with (go_at_call 9; (with_reducible refine (law20Alive _).mono ?_); rintro e w1 ⟨rfl, hb1⟩; have hH := HH0.out.next hb1; have hok := HK.out.trans hb1; clear hb1 HH0 HK)
  obtain ⟨h, hh⟩ : ∃ r, w.heap.size + 1 = r := ⟨_, rfl⟩
  obtain ⟨g, hg⟩ : ∃ r, w.heap.size = r := ⟨_, rfl⟩
  rw [hh, hg] at hH
  rw [hh, hg]
  clear hh hg
  obtain ⟨N0, hN0⟩ : ∃ r, w1.drew.heap.size = r := ⟨_, rfl⟩
  have HN := Lib.hid hN0
  have HN0 := Lib.hid fun gx (hgx : N0 ≤ gx) => And.intro (hH.drew.other (g := gx) (hN0 ▸ hgx)) (Nat.le_trans (hok.trans (Ok.refl w1).drew).size (hN0 ▸ hgx) : w.heap.size ≤ gx)
  have HOK := Lib.hid hok
  have HH := Lib.hid fun W' (k : Ok w1.drew W') => hH.drew.next k
  clear hN0 hH hok
  refine wp_region_facts_float (by kernel_rfl) 89 rfl (VCR N0 g h t n now a b most k1 k2 q) Ok 10 8 rfl (by decide) _ _ rfl rfl (by kernel_rfl) (by kernel_rfl) _ _ rfl rfl rfl (by kernel_rfl) (by kernel_rfl) (fun i v w w' h k w'' k' => h w'' (k.trans k')) (fun a b c => Ok.trans) (Ok.refl _) [some 20, some 21, some 22, some 23, some 24, some 25, some 19, some 26, some 27, some 9] [some 20, some 21, some 22, some 23, some 24, some 25, some 19, some 26, none, some 9] rfl rfl ⟨?_, ?_, ?_, ?_, ?_, ?_, ?_, ?_, ?_, ?_, trivial⟩ ?_ ?_
  · intro a' w' hF hR
    have e4 : a'.tmps[4]? = some (.pointer (some ⟨g, 0, none⟩)) := hF.slot 4 (by kernel_rfl) rfl
    have hZ := (HH.out _ hR).get (g := g) (x := t) (y := n) (by simp)
    have c0 := hZ.c0
    have c1 := hZ.c1
    have hzl := hZ.lt
    refine wpOp_run (v := .agg #[.int .i64 t, .int .i64 n]) rfl rfl ?_ (fun _ _ => rfl) (Ok.refl _)
    clear hF
    go_simp
  · intro a' w' hF hR
    obtain ⟨v0, hv0, e20⟩ := hF.get 0 20 (by kernel_rfl) (by kernel_rfl)
    obtain rfl : v0 = _ := hv0 _ (Ok.refl _)
    clear hF
    refine wpOp_call (f := 16) (args := #[.agg #[.int .i64 t, .int .i64 n]]) rfl rfl ?_ ((KC.out _).mono ?_)
    · go_simp
    · rintro e w2 ⟨rfl, hb2⟩; exact ⟨_, rfl, fun _ _ => rfl, hb2⟩
  · intro a' w' hF hR
    have e1 : a'.tmps[1]? = some (.int .i64 now) := hF.slot 1 (by kernel_rfl) rfl
    refine wpOp_run (v := .int .i64 now) rfl rfl ?_ (fun _ _ => rfl) (Ok.refl _)
    clear hF
    go_simp
  · intro a' w' hF hR
    have e6 : a'.tmps[6]? = some (.pointer (some ⟨h, 0, none⟩)) := hF.slot 6 (by kernel_rfl) rfl
    have hZ := (HH.out _ hR).get (g := h) (x := a) (y := b) (by simp)
    have c0 := hZ.c0
    have c1 := hZ.c1
    have hzl := hZ.lt
    refine wpOp_run (v := .agg #[.int .i64 a, .int .i64 b]) rfl rfl ?_ (fun _ _ => rfl) (Ok.refl _)
    clear hF
    go_simp
  · intro a' w' hF hR
    have e3 : a'.tmps[3]? = some (.int .i64 most) := hF.slot 3 (by kernel_rfl) rfl
    refine wpOp_run (v := .int .i64 most) rfl rfl ?_ (fun _ _ => rfl) (Ok.refl _)
    clear hF
    go_simp
  · intro a' w' hF hR
    obtain ⟨v1, hv1, e21⟩ := hF.get 1 21 (by kernel_rfl) (by kernel_rfl)
    obtain rfl : v1 = _ := hv1 _ (Ok.refl _)
    obtain ⟨v2, hv2, e22⟩ := hF.get 2 22 (by kernel_rfl) (by kernel_rfl)
    obtain rfl : v2 = _ := hv2 _ (Ok.refl _)
    obtain ⟨v3, hv3, e23⟩ := hF.get 3 23 (by kernel_rfl) (by kernel_rfl)
    obtain rfl : v3 = _ := hv3 _ (Ok.refl _)
    obtain ⟨v4, hv4, e24⟩ := hF.get 4 24 (by kernel_rfl) (by kernel_rfl)
    obtain rfl : v4 = _ := hv4 _ (Ok.refl _)
    clear hF
    refine wpOp_call (f := 17) (args := #[.agg #[.int .i64 t, .int .i64 n], .int .i64 now, .agg #[.int .i64 a, .int .i64 b], .int .i64 most]) rfl rfl ?_ ((KH.out _).mono ?_)
    · go_simp
    · rintro e w2 ⟨rfl, hb2⟩; exact ⟨_, rfl, fun _ _ => rfl, hb2⟩
  · intro a' w' hF hR
    obtain ⟨v5, hv5, e25⟩ := hF.get 5 25 (by kernel_rfl) (by kernel_rfl)
    obtain rfl : v5 = _ := hv5 _ (Ok.refl _)
    refine wpOp_run (v := .tuple #[.agg #[.int .i64 k1, .int .i64 k2], .bool q]) rfl rfl ?_ (fun _ _ => rfl) (Ok.refl _)
    clear hF
    go_simp
  · intro a' w' hF hR
    obtain ⟨v6, hv6, e19⟩ := hF.get 6 19 (by kernel_rfl) (by kernel_rfl)
    obtain rfl : v6 = _ := hv6 _ (Ok.refl _)
    refine wpOp_run (v := .agg #[.int .i64 k1, .int .i64 k2]) rfl rfl ?_ (fun _ _ => rfl) (Ok.refl _)
    clear hF
    go_simp
  · intro a' w' hF hR
    obtain ⟨v6, hv6, e19⟩ := hF.get 6 19 (by kernel_rfl) (by kernel_rfl)
    obtain rfl : v6 = _ := hv6 _ (Ok.refl _)
    refine wpOp_run (v := .bool q) rfl rfl ?_ (fun _ _ => rfl) (Ok.refl _)
    clear hF
    go_simp
  · intro a' w' hF hR
    have hzero : Sem.run Try.prog (zeroValue 29) w' = .ok (.agg #[.int .i64 0, .int .i64 0]) w' := by kernel_rfl
    refine wpOp_run (v := .pointer (some ⟨w'.heap.size, 0, none⟩)) (w' := w'.alloc (.cells #[.int .i64 0, .int .i64 0] 29)) rfl rfl ?_ (fun w'' k => ⟨_, rfl, (Own.new _ _ _ rfl).next k, (HN.out ▸ hR.size)⟩) ((Ok.refl _).alloc _)
    clear hF
    go_simp
  · intro vs W' hvs hR
    have e7 : vs 7 = .agg #[.int .i64 k1, .int .i64 k2] := hvs 7 (by decide) _ (Ok.refl _)
    have e8 : vs 8 = .bool q := hvs 8 (by decide) _ (Ok.refl _)
    obtain ⟨gx, e9, hX, hgx⟩ := hvs 9 (by decide) _ (Ok.refl _)
    have hH := HH.out _ hR
    have hok := (HOK.out.trans (Ok.refl w1).drew).trans hR
    have hn := HN0.out _ hgx
    have hxx : Slab W' gx 0 0 := ⟨hX.blk⟩
    have f0 := hxx.f0
    have f1 := hxx.f1
    have c0 := hxx.c0
    have c1 := hxx.c1
    clear hvs HH HOK HN HN0 KH hX hgx
    simp only [putFrom, e7, e8, e9]
    simp only [Act.put, List.setIfInBounds_toArray, List.set_cons_zero, List.set_cons_succ]
    refine wpOp_store (w' := (W'.setCell ⟨gx, 0, none⟩ (.int .i64 k1)).setCell ⟨gx, 1, none⟩ (.int .i64 k2)) rfl rfl rfl ?_ ?_
    · go_simp
    replace hH := hH.setTwo hn.1 hxx k1 k2
    replace hok := hok.two hn.2 k1 k2
    clear f0 f1 c0 c1 hxx hn e7 e8 e9
    generalize (W'.setCell ⟨gx, 0, none⟩ (.int .i64 k1)).setCell ⟨gx, 1, none⟩ (.int .i64 k2) = W2 at hH hok ⊢
    refine wpOp_leaves (v := .bool q) (w' := W2) rfl rfl ?_ ?_
    · go_simp
    simp only [Act.put, List.setIfInBounds_toArray]
    generalize vs 0 = z0
    generalize vs 1 = z1
    generalize vs 2 = z2
    generalize vs 3 = z3
    generalize vs 4 = z4
    generalize vs 5 = z5
    try generalize vs 6 = z6
    clear hR vs
    have p0 := (hH.get (g := g) (x := t) (y := n) (by simp)).c0
    have p1 := (hH.get (g := g) (x := t) (y := n) (by simp)).c1
    have pl := (hH.get (g := g) (x := t) (y := n) (by simp)).lt
    have s0 := (hH.get (g := h) (x := a) (y := b) (by simp)).c0
    have s1 := (hH.get (g := h) (x := a) (y := b) (by simp)).c1
    have sl := (hH.get (g := h) (x := a) (y := b) (by simp)).lt
    go_upto_region 10 with (first | (go_at_call 18; refine (KI.out _).mono ?_; rintro e w3 ⟨rfl, hb1⟩; replace hH := (hH.next hb1).push k1 k2 23 rfl; replace hok := (hok.trans hb1).alloc (.cells #[.int .i64 k1, .int .i64 k2] 23); clear hb1 p0 p1 pl s0 s1 sl; have p0 := (hH.get (g := g) (x := t) (y := n) (by simp)).c0; have p1 := (hH.get (g := g) (x := t) (y := n) (by simp)).c1; have pl := (hH.get (g := g) (x := t) (y := n) (by simp)).lt) | (go_at_call 16; refine (KC.out _).mono ?_; rintro e w4 ⟨rfl, hb1⟩; replace hH := hH.next hb1; replace hok := hok.trans hb1; clear hb1) | (go_at_call 19; refine (KM.out _).mono ?_; rintro e w5 ⟨rfl, hb1⟩; have hQ := (hH.next hb1).push t n 29 rfl; have hz5 := hok.trans hb1; replace hH := ((hH.next hb1).push t n 29 rfl).push t n 23 (g := w5.heap.size + 1) (by simp); replace hok := ((hok.trans hb1).alloc (.cells #[.int .i64 t, .int .i64 n] 29)).alloc (.cells #[.int .i64 t, .int .i64 n] 23); clear hb1 hz5 p0 p1 pl; have p0 := (hQ.get (g := g) (x := t) (y := n) (by simp)).c0; have p1 := (hQ.get (g := g) (x := t) (y := n) (by simp)).c1; have pl := (hQ.get (g := g) (x := t) (y := n) (by simp)).lt; have s0 := (hH.get (g := g) (x := t) (y := n) (by simp)).c0; have s1 := (hH.get (g := g) (x := t) (y := n) (by simp)).c1; have sl := (hH.get (g := g) (x := t) (y := n) (by simp)).lt; clear hQ) | (go_at_call 13; refine (KR.out _).mono ?_; rintro e w6 ⟨rfl, hb1⟩; replace hH := hH.next hb1; replace hok := hok.trans hb1; clear hb1 p0 p1 pl s0 s1 sl; have p0 := (hH.get (g := g) (x := t) (y := n) (by simp)).c0; have p1 := (hH.get (g := g) (x := t) (y := n) (by simp)).c1; have pl := (hH.get (g := g) (x := t) (y := n) (by simp)).lt; have r0 := (hH.get (g := w5.heap.size + 1) (x := t) (y := n) (by simp)).c0; have r1 := (hH.get (g := w5.heap.size + 1) (x := t) (y := n) (by simp)).c1; have rl := (hH.get (g := w5.heap.size + 1) (x := t) (y := n) (by simp)).lt; have f0 := (hH.get (g := w5.heap.size + 1) (x := t) (y := n) (by simp)).f0; have f1 := (hH.get (g := w5.heap.size + 1) (x := t) (y := n) (by simp)).f1; have hy := hH.get (g := w5.heap.size + 1) (x := t) (y := n) (by simp)) | (go_at_call 20; refine (KL.out _).mono ?_; rintro e w7 ⟨rfl, rfl⟩))
    obtain ⟨W5, hW5⟩ : ∃ r, w6 = r := ⟨_, rfl⟩
    rw [hW5] at hH hok ⊢
    clear p0 p1 pl r0 r1 rl f0 f1 hy
    obtain ⟨g15, h15⟩ : ∃ r, w5.heap.size + 1 = r := ⟨_, rfl⟩
    rw [h15] at hH
    rw [h15]
    obtain ⟨g13, h13⟩ : ∃ r, w5.heap.size = r := ⟨_, rfl⟩
    rw [h13] at hH
    rw [h13]
    obtain ⟨g11, h11⟩ : ∃ r, w3.heap.size = r := ⟨_, rfl⟩
    rw [h11] at hH
    rw [h11]
    clear h15 h13 h11
    have HOK := Lib.hid hok
    have HH := Lib.hid fun W' (k : Ok W5.drew W') => hH.drew.next k
    clear hH hok
    refine wp_region_facts (by kernel_rfl) 89 rfl (VCSfine g h gx g11 g13 g15 t n now k1 k2 x y c q) Ok (by kernel_rfl) (fun i v w w' h k w'' k' => h w'' (k.trans k')) (fun a b c => Ok.trans) (Ok.refl _) [some 58, some 59, some 60, some 61, some 62, some 63, some 64, some 65, some 66, some 67, some 68, some 69, some 70, some 71, some 72, some 73, some 74, some 75, some 76, some 77, some 78, some 79, some 80, some 81, some 82, some 83, some 84, some 85, some 86, some 87, some 88, some 8] rfl 32 rfl ⟨?_, ?_, ?_, ?_, ?_, ?_, ?_, ?_, ?_, ?_, ?_, ?_, ?_, ?_, ?_, ?_, ?_, ?_, ?_, ?_, ?_, ?_, ?_, ?_, ?_, ?_, ?_, ?_, ?_, ?_, ?_, ?_, trivial⟩ ?_
    · intro a' w' hF hR
      have e4 : a'.tmps[4]? = some (.pointer (some ⟨g, 0, none⟩)) := hF.slot 4 (by kernel_rfl) rfl
      have hZ := (HH.out _ hR).get (g := g) (x := t) (y := n) (by simp)
      have c0 := hZ.c0
      have c1 := hZ.c1
      have hzl := hZ.lt
      refine wpOp_run (v := .agg #[.int .i64 t, .int .i64 n]) rfl rfl ?_ (fun _ _ => rfl) (Ok.refl _)
      clear hF
      go_simp
    · intro a' w' hF hR
      obtain ⟨v0, hv0, e58⟩ := hF.get 0 58 (by kernel_rfl) (by kernel_rfl)
      obtain rfl : v0 = _ := hv0 _ (Ok.refl _)
      clear hF
      refine wpOp_call (f := 16) (args := #[.agg #[.int .i64 t, .int .i64 n]]) rfl rfl ?_ ((KC.out _).mono ?_)
      · go_simp
      · rintro e w2 ⟨rfl, hb2⟩; exact ⟨_, rfl, fun _ _ => rfl, hb2⟩
    · intro a' w' hF hR
      have e1 : a'.tmps[1]? = some (.int .i64 now) := hF.slot 1 (by kernel_rfl) rfl
      refine wpOp_run (v := .int .i64 now) rfl rfl ?_ (fun _ _ => rfl) (Ok.refl _)
      clear hF
      go_simp
    · intro a' w' hF hR
      obtain ⟨v1, hv1, e59⟩ := hF.get 1 59 (by kernel_rfl) (by kernel_rfl)
      obtain rfl : v1 = _ := hv1 _ (Ok.refl _)
      obtain ⟨v2, hv2, e60⟩ := hF.get 2 60 (by kernel_rfl) (by kernel_rfl)
      obtain rfl : v2 = _ := hv2 _ (Ok.refl _)
      clear hF
      refine wpOp_call (f := 21) (args := #[.agg #[.int .i64 t, .int .i64 n], .int .i64 now]) rfl rfl ?_ ((KT.out _).mono ?_)
      · go_simp
      · rintro e w2 ⟨rfl, hb2⟩; exact ⟨_, rfl, fun _ _ => rfl, hb2⟩
    · intro a' w' hF hR
      obtain ⟨v3, hv3, e61⟩ := hF.get 3 61 (by kernel_rfl) (by kernel_rfl)
      obtain rfl : v3 = _ := hv3 _ (Ok.refl _)
      have hf := clockField (x, y)
      refine wpOp_run (v := .agg #[.int .i64 x, .int .i64 y]) rfl rfl ?_ (fun _ _ => rfl) (Ok.refl _)
      clear hF
      go_simp
    · intro a' w' hF hR
      have e4 : a'.tmps[4]? = some (.pointer (some ⟨g, 0, none⟩)) := hF.slot 4 (by kernel_rfl) rfl
      have hZ := (HH.out _ hR).get (g := g) (x := t) (y := n) (by simp)
      have c0 := hZ.c0
      have c1 := hZ.c1
      have hzl := hZ.lt
      refine wpOp_run (v := .agg #[.int .i64 t, .int .i64 n]) rfl rfl ?_ (fun _ _ => rfl) (Ok.refl _)
      clear hF
      go_simp
    · intro a' w' hF hR
      have e1 : a'.tmps[1]? = some (.int .i64 now) := hF.slot 1 (by kernel_rfl) rfl
      refine wpOp_run (v := .int .i64 now) rfl rfl ?_ (fun _ _ => rfl) (Ok.refl _)
      clear hF
      go_simp
    · intro a' w' hF hR
      obtain ⟨v5, hv5, e63⟩ := hF.get 5 63 (by kernel_rfl) (by kernel_rfl)
      obtain rfl : v5 = _ := hv5 _ (Ok.refl _)
      obtain ⟨v6, hv6, e64⟩ := hF.get 6 64 (by kernel_rfl) (by kernel_rfl)
      obtain rfl : v6 = _ := hv6 _ (Ok.refl _)
      clear hF
      refine wpOp_call (f := 22) (args := #[.agg #[.int .i64 t, .int .i64 n], .int .i64 now]) rfl rfl ?_ ((KU.out _).mono ?_)
      · go_simp
      · rintro e w2 ⟨rfl, hb2⟩; exact ⟨_, rfl, fun _ _ => rfl, hb2⟩
    · intro a' w' hF hR
      obtain ⟨v4, hv4, e62⟩ := hF.get 4 62 (by kernel_rfl) (by kernel_rfl)
      obtain rfl : v4 = _ := hv4 _ (Ok.refl _)
      obtain ⟨v7, hv7, e65⟩ := hF.get 7 65 (by kernel_rfl) (by kernel_rfl)
      obtain rfl : v7 = _ := hv7 _ (Ok.refl _)
      have hE := eqStamp20 x y x y
      simp only [beq_self_eq_true, Bool.and_self] at hE
      refine wpOp_run (v := .bool true) rfl rfl ?_ (fun _ _ => rfl) (Ok.refl _)
      clear hF
      go_simp
    · intro a' w' hF hR
      obtain ⟨v8, hv8, e66⟩ := hF.get 8 66 (by kernel_rfl) (by kernel_rfl)
      obtain rfl : v8 = _ := hv8 _ (Ok.refl _)
      refine wpOp_run (v := .bool true) rfl rfl ?_ (fun _ _ => rfl) (Ok.refl _)
      clear hF
      go_simp
    · intro a' w' hF hR
      have e9 : a'.tmps[9]? = some (.pointer (some ⟨gx, 0, none⟩)) := hF.slot 9 (by kernel_rfl) rfl
      obtain ⟨vg, hvg, eg⟩ := hF.get 9 67 (by kernel_rfl) (by kernel_rfl)
      obtain rfl : vg = _ := hvg _ (Ok.refl _)
      refine wpOp_runG (v := .pointer (some ⟨gx, 0, none⟩)) rfl (wanted_yes rfl (by kernel_rfl) eg) ?_ (fun _ _ => rfl) (Ok.refl _)
      clear hF
      go_simp
    · intro a' w' hF hR
      obtain ⟨v10, hv10, e68⟩ := hF.get 10 68 (by kernel_rfl) (by kernel_rfl)
      obtain rfl : v10 = _ := hv10 _ (Ok.refl _)
      obtain ⟨vg, hvg, eg⟩ := hF.get 9 67 (by kernel_rfl) (by kernel_rfl)
      obtain rfl : vg = _ := hvg _ (Ok.refl _)
      have hZ := (HH.out _ hR).get (g := gx) (x := k1) (y := k2) (by simp)
      have c0 := hZ.c0
      have c1 := hZ.c1
      have hzl := hZ.lt
      refine wpOp_runG (v := .agg #[.int .i64 k1, .int .i64 k2]) rfl (wanted_yes rfl (by kernel_rfl) eg) ?_ (fun _ _ => rfl) (Ok.refl _)
      clear hF
      go_simp
    · intro a' w' hF hR
      have e11 : a'.tmps[11]? = some (.pointer (some ⟨g11, 0, none⟩)) := hF.slot 11 (by kernel_rfl) rfl
      obtain ⟨vg, hvg, eg⟩ := hF.get 9 67 (by kernel_rfl) (by kernel_rfl)
      obtain rfl : vg = _ := hvg _ (Ok.refl _)
      have hZ := (HH.out _ hR).get (g := g11) (x := k1) (y := k2) (by simp)
      have c0 := hZ.c0
      have c1 := hZ.c1
      have hzl := hZ.lt
      refine wpOp_runG (v := .agg #[.int .i64 k1, .int .i64 k2]) rfl (wanted_yes rfl (by kernel_rfl) eg) ?_ (fun _ _ => rfl) (Ok.refl _)
      clear hF
      go_simp
    · intro a' w' hF hR
      obtain ⟨v11, hv11, e69⟩ := hF.get 11 69 (by kernel_rfl) (by kernel_rfl)
      obtain rfl : v11 = _ := hv11 _ (Ok.refl _)
      obtain ⟨v12, hv12, e70⟩ := hF.get 12 70 (by kernel_rfl) (by kernel_rfl)
      obtain rfl : v12 = _ := hv12 _ (Ok.refl _)
      obtain ⟨vg, hvg, eg⟩ := hF.get 9 67 (by kernel_rfl) (by kernel_rfl)
      obtain rfl : vg = _ := hvg _ (Ok.refl _)
      have hE := eqStamp20 k1 k2 k1 k2
      simp only [beq_self_eq_true, Bool.and_self] at hE
      refine wpOp_runG (v := .bool true) rfl (wanted_yes rfl (by kernel_rfl) eg) ?_ (fun _ _ => rfl) (Ok.refl _)
      clear hF
      go_simp
    · intro a' w' hF hR
      obtain ⟨v9, hv9, e67⟩ := hF.get 9 67 (by kernel_rfl) (by kernel_rfl)
      obtain rfl : v9 = _ := hv9 _ (Ok.refl _)
      obtain ⟨v13, hv13, e71⟩ := hF.get 13 71 (by kernel_rfl) (by kernel_rfl)
      obtain rfl : v13 = _ := hv13 _ (Ok.refl _)
      refine wpOp_run (v := .bool true) rfl rfl ?_ (fun _ _ => rfl) (Ok.refl _)
      clear hF
      go_simp
    · intro a' w' hF hR
      obtain ⟨v14, hv14, e72⟩ := hF.get 14 72 (by kernel_rfl) (by kernel_rfl)
      obtain rfl : v14 = _ := hv14 _ (Ok.refl _)
      refine wpOp_run (v := .bool true) rfl rfl ?_ (fun _ _ => rfl) (Ok.refl _)
      clear hF
      go_simp
    · intro a' w' hF hR
      have e10 : a'.tmps[10]? = some (.bool q) := hF.slot 10 (by kernel_rfl) rfl
      obtain ⟨vg, hvg, eg⟩ := hF.get 15 73 (by kernel_rfl) (by kernel_rfl)
      obtain rfl : vg = _ := hvg _ (Ok.refl _)
      refine wpOp_runG (v := .bool q) rfl (wanted_yes rfl (by kernel_rfl) eg) ?_ (fun _ _ => rfl) (Ok.refl _)
      clear hF
      go_simp
    · intro a' w' hF hR
      have e12 : a'.tmps[12]? = some (.bool q) := hF.slot 12 (by kernel_rfl) rfl
      obtain ⟨vg, hvg, eg⟩ := hF.get 15 73 (by kernel_rfl) (by kernel_rfl)
      obtain rfl : vg = _ := hvg _ (Ok.refl _)
      refine wpOp_runG (v := .bool q) rfl (wanted_yes rfl (by kernel_rfl) eg) ?_ (fun _ _ => rfl) (Ok.refl _)
      clear hF
      go_simp
    · intro a' w' hF hR
      obtain ⟨v16, hv16, e74⟩ := hF.get 16 74 (by kernel_rfl) (by kernel_rfl)
      obtain rfl : v16 = _ := hv16 _ (Ok.refl _)
      obtain ⟨v17, hv17, e75⟩ := hF.get 17 75 (by kernel_rfl) (by kernel_rfl)
      obtain rfl : v17 = _ := hv17 _ (Ok.refl _)
      obtain ⟨vg, hvg, eg⟩ := hF.get 15 73 (by kernel_rfl) (by kernel_rfl)
      obtain rfl : vg = _ := hvg _ (Ok.refl _)
      refine wpOp_runG (v := .bool true) rfl (wanted_yes rfl (by kernel_rfl) eg) ?_ (fun _ _ => rfl) (Ok.refl _)
      clear hF
      cases q <;> go_simp
    · intro a' w' hF hR
      obtain ⟨v15, hv15, e73⟩ := hF.get 15 73 (by kernel_rfl) (by kernel_rfl)
      obtain rfl : v15 = _ := hv15 _ (Ok.refl _)
      obtain ⟨v18, hv18, e76⟩ := hF.get 18 76 (by kernel_rfl) (by kernel_rfl)
      obtain rfl : v18 = _ := hv18 _ (Ok.refl _)
      refine wpOp_run (v := .bool true) rfl rfl ?_ (fun _ _ => rfl) (Ok.refl _)
      clear hF
      go_simp
    · intro a' w' hF hR
      obtain ⟨v19, hv19, e77⟩ := hF.get 19 77 (by kernel_rfl) (by kernel_rfl)
      obtain rfl : v19 = _ := hv19 _ (Ok.refl _)
      refine wpOp_run (v := .bool true) rfl rfl ?_ (fun _ _ => rfl) (Ok.refl _)
      clear hF
      go_simp
    · intro a' w' hF hR
      have e13 : a'.tmps[13]? = some (.pointer (some ⟨g13, 0, none⟩)) := hF.slot 13 (by kernel_rfl) rfl
      obtain ⟨vg, hvg, eg⟩ := hF.get 20 78 (by kernel_rfl) (by kernel_rfl)
      obtain rfl : vg = _ := hvg _ (Ok.refl _)
      refine wpOp_runG (v := .pointer (some ⟨g13, 0, none⟩)) rfl (wanted_yes rfl (by kernel_rfl) eg) ?_ (fun _ _ => rfl) (Ok.refl _)
      clear hF
      go_simp
    · intro a' w' hF hR
      obtain ⟨v21, hv21, e79⟩ := hF.get 21 79 (by kernel_rfl) (by kernel_rfl)
      obtain rfl : v21 = _ := hv21 _ (Ok.refl _)
      obtain ⟨vg, hvg, eg⟩ := hF.get 20 78 (by kernel_rfl) (by kernel_rfl)
      obtain rfl : vg = _ := hvg _ (Ok.refl _)
      have hZ := (HH.out _ hR).get (g := g13) (x := t) (y := n) (by simp)
      have c0 := hZ.c0
      have c1 := hZ.c1
      have hzl := hZ.lt
      refine wpOp_runG (v := .agg #[.int .i64 t, .int .i64 n]) rfl (wanted_yes rfl (by kernel_rfl) eg) ?_ (fun _ _ => rfl) (Ok.refl _)
      clear hF
      go_simp
    · intro a' w' hF hR
      have e15 : a'.tmps[15]? = some (.pointer (some ⟨g15, 0, none⟩)) := hF.slot 15 (by kernel_rfl) rfl
      obtain ⟨vg, hvg, eg⟩ := hF.get 20 78 (by kernel_rfl) (by kernel_rfl)
      obtain rfl : vg = _ := hvg _ (Ok.refl _)
      have hZ := (HH.out _ hR).get (g := g15) (x := t) (y := n) (by simp)
      have c0 := hZ.c0
      have c1 := hZ.c1
      have hzl := hZ.lt
      refine wpOp_runG (v := .agg #[.int .i64 t, .int .i64 n]) rfl (wanted_yes rfl (by kernel_rfl) eg) ?_ (fun _ _ => rfl) (Ok.refl _)
      clear hF
      go_simp
    · intro a' w' hF hR
      obtain ⟨v22, hv22, e80⟩ := hF.get 22 80 (by kernel_rfl) (by kernel_rfl)
      obtain rfl : v22 = _ := hv22 _ (Ok.refl _)
      obtain ⟨v23, hv23, e81⟩ := hF.get 23 81 (by kernel_rfl) (by kernel_rfl)
      obtain rfl : v23 = _ := hv23 _ (Ok.refl _)
      obtain ⟨vg, hvg, eg⟩ := hF.get 20 78 (by kernel_rfl) (by kernel_rfl)
      obtain rfl : vg = _ := hvg _ (Ok.refl _)
      have hE := eqStamp20 t n t n
      simp only [beq_self_eq_true, Bool.and_self] at hE
      refine wpOp_runG (v := .bool true) rfl (wanted_yes rfl (by kernel_rfl) eg) ?_ (fun _ _ => rfl) (Ok.refl _)
      clear hF
      go_simp
    · intro a' w' hF hR
      obtain ⟨v20, hv20, e78⟩ := hF.get 20 78 (by kernel_rfl) (by kernel_rfl)
      obtain rfl : v20 = _ := hv20 _ (Ok.refl _)
      obtain ⟨v24, hv24, e82⟩ := hF.get 24 82 (by kernel_rfl) (by kernel_rfl)
      obtain rfl : v24 = _ := hv24 _ (Ok.refl _)
      refine wpOp_run (v := .bool true) rfl rfl ?_ (fun _ _ => rfl) (Ok.refl _)
      clear hF
      go_simp
    · intro a' w' hF hR
      obtain ⟨v25, hv25, e83⟩ := hF.get 25 83 (by kernel_rfl) (by kernel_rfl)
      obtain rfl : v25 = _ := hv25 _ (Ok.refl _)
      refine wpOp_run (v := .bool true) rfl rfl ?_ (fun _ _ => rfl) (Ok.refl _)
      clear hF
      go_simp
    · intro a' w' hF hR
      have e14 : a'.tmps[14]? = some (.bool false) := hF.slot 14 (by kernel_rfl) rfl
      obtain ⟨vg, hvg, eg⟩ := hF.get 26 84 (by kernel_rfl) (by kernel_rfl)
      obtain rfl : vg = _ := hvg _ (Ok.refl _)
      refine wpOp_runG (v := .bool false) rfl (wanted_yes rfl (by kernel_rfl) eg) ?_ (fun _ _ => rfl) (Ok.refl _)
      clear hF
      go_simp
    · intro a' w' hF hR
      have e16 : a'.tmps[16]? = some (.bool false) := hF.slot 16 (by kernel_rfl) rfl
      obtain ⟨vg, hvg, eg⟩ := hF.get 26 84 (by kernel_rfl) (by kernel_rfl)
      obtain rfl : vg = _ := hvg _ (Ok.refl _)
      refine wpOp_runG (v := .bool false) rfl (wanted_yes rfl (by kernel_rfl) eg) ?_ (fun _ _ => rfl) (Ok.refl _)
      clear hF
      go_simp
    · intro a' w' hF hR
      obtain ⟨v27, hv27, e85⟩ := hF.get 27 85 (by kernel_rfl) (by kernel_rfl)
      obtain rfl : v27 = _ := hv27 _ (Ok.refl _)
      obtain ⟨v28, hv28, e86⟩ := hF.get 28 86 (by kernel_rfl) (by kernel_rfl)
      obtain rfl : v28 = _ := hv28 _ (Ok.refl _)
      obtain ⟨vg, hvg, eg⟩ := hF.get 26 84 (by kernel_rfl) (by kernel_rfl)
      obtain rfl : vg = _ := hvg _ (Ok.refl _)
      refine wpOp_runG (v := .bool true) rfl (wanted_yes rfl (by kernel_rfl) eg) ?_ (fun _ _ => rfl) (Ok.refl _)
      clear hF
      go_simp
    · intro a' w' hF hR
      obtain ⟨v26, hv26, e84⟩ := hF.get 26 84 (by kernel_rfl) (by kernel_rfl)
      obtain rfl : v26 = _ := hv26 _ (Ok.refl _)
      obtain ⟨v29, hv29, e87⟩ := hF.get 29 87 (by kernel_rfl) (by kernel_rfl)
      obtain rfl : v29 = _ := hv29 _ (Ok.refl _)
      refine wpOp_run (v := .bool true) rfl rfl ?_ (fun _ _ => rfl) (Ok.refl _)
      clear hF
      go_simp
    · intro a' w' hF hR
      obtain ⟨v30, hv30, e88⟩ := hF.get 30 88 (by kernel_rfl) (by kernel_rfl)
      obtain rfl : v30 = _ := hv30 _ (Ok.refl _)
      refine wpOp_run (v := .bool true) rfl rfl ?_ (fun _ _ => rfl) (Ok.refl _)
      clear hF
      go_simp
    intro us W6 hV hR
    have e31 : us 31 = .bool true := hV 31 (by decide) _ (Ok.refl _)
    have hok := (HOK.out.trans (Ok.refl W5).drew).trans hR
    clear hV HH HOK
    simp only [putFrom, e31]
    simp only [Act.put, List.setIfInBounds_toArray, List.set_cons_zero, List.set_cons_succ]
    go_wp2
    go_ret
    exact ⟨rfl, hok⟩
  · intro vs W' hvs hR
    have e7 : vs 7 = .agg #[.int .i64 k1, .int .i64 k2] := hvs 7 (by decide) (by decide) _ (Ok.refl _)
    have e8 : vs 6 = .tuple #[.agg #[.int .i64 k1, .int .i64 k2], .bool q] := hvs 6 (by decide) (by decide) _ (Ok.refl _)
    obtain ⟨gx, e9, hX, hgx⟩ := hvs 9 (by decide) (by decide) _ (Ok.refl _)
    have hH := HH.out _ hR
    have hok := (HOK.out.trans (Ok.refl w1).drew).trans hR
    have hn := HN0.out _ hgx
    have hxx : Slab W' gx 0 0 := ⟨hX.blk⟩
    have f0 := hxx.f0
    have f1 := hxx.f1
    have c0 := hxx.c0
    have c1 := hxx.c1
    clear hvs HH HOK HN HN0 KH hX hgx
    simp only [putFrom, e7, e8, e9]
    simp only [Act.put, List.setIfInBounds_toArray, List.set_cons_zero, List.set_cons_succ]
    refine wpOp_store (w' := (W'.setCell ⟨gx, 0, none⟩ (.int .i64 k1)).setCell ⟨gx, 1, none⟩ (.int .i64 k2)) rfl rfl rfl ?_ ?_
    · go_simp
    replace hH := hH.setTwo hn.1 hxx k1 k2
    replace hok := hok.two hn.2 k1 k2
    clear f0 f1 c0 c1 hxx hn e7 e8 e9
    generalize (W'.setCell ⟨gx, 0, none⟩ (.int .i64 k1)).setCell ⟨gx, 1, none⟩ (.int .i64 k2) = W2 at hH hok ⊢
    refine wpOp_leaves (v := .bool q) (w' := W2) rfl rfl ?_ ?_
    · go_simp
    simp only [Act.put, List.setIfInBounds_toArray]
    refine wpOp_leaves (v := .bool q) (w' := W2) rfl rfl ?_ ?_
    · go_simp
    simp only [Act.put]
    generalize vs 0 = z0
    generalize vs 1 = z1
    generalize vs 2 = z2
    generalize vs 3 = z3
    generalize vs 4 = z4
    generalize vs 5 = z5
    try generalize vs 6 = z6
    clear hR vs
    have p0 := (hH.get (g := g) (x := t) (y := n) (by simp)).c0
    have p1 := (hH.get (g := g) (x := t) (y := n) (by simp)).c1
    have pl := (hH.get (g := g) (x := t) (y := n) (by simp)).lt
    have s0 := (hH.get (g := h) (x := a) (y := b) (by simp)).c0
    have s1 := (hH.get (g := h) (x := a) (y := b) (by simp)).c1
    have sl := (hH.get (g := h) (x := a) (y := b) (by simp)).lt
    go_upto_region 10 with (first | (go_at_call 18; refine (KI.out _).mono ?_; rintro e w3 ⟨rfl, hb1⟩; replace hH := (hH.next hb1).push k1 k2 23 rfl; replace hok := (hok.trans hb1).alloc (.cells #[.int .i64 k1, .int .i64 k2] 23); clear hb1 p0 p1 pl s0 s1 sl; have p0 := (hH.get (g := g) (x := t) (y := n) (by simp)).c0; have p1 := (hH.get (g := g) (x := t) (y := n) (by simp)).c1; have pl := (hH.get (g := g) (x := t) (y := n) (by simp)).lt) | (go_at_call 16; refine (KC.out _).mono ?_; rintro e w4 ⟨rfl, hb1⟩; replace hH := hH.next hb1; replace hok := hok.trans hb1; clear hb1) | (go_at_call 19; refine (KM.out _).mono ?_; rintro e w5 ⟨rfl, hb1⟩; have hQ := (hH.next hb1).push t n 29 rfl; have hz5 := hok.trans hb1; replace hH := ((hH.next hb1).push t n 29 rfl).push t n 23 (g := w5.heap.size + 1) (by simp); replace hok := ((hok.trans hb1).alloc (.cells #[.int .i64 t, .int .i64 n] 29)).alloc (.cells #[.int .i64 t, .int .i64 n] 23); clear hb1 hz5 p0 p1 pl; have p0 := (hQ.get (g := g) (x := t) (y := n) (by simp)).c0; have p1 := (hQ.get (g := g) (x := t) (y := n) (by simp)).c1; have pl := (hQ.get (g := g) (x := t) (y := n) (by simp)).lt; have s0 := (hH.get (g := g) (x := t) (y := n) (by simp)).c0; have s1 := (hH.get (g := g) (x := t) (y := n) (by simp)).c1; have sl := (hH.get (g := g) (x := t) (y := n) (by simp)).lt; clear hQ) | (go_at_call 13; refine (KR.out _).mono ?_; rintro e w6 ⟨rfl, hb1⟩; replace hH := hH.next hb1; replace hok := hok.trans hb1; clear hb1 p0 p1 pl s0 s1 sl; have p0 := (hH.get (g := g) (x := t) (y := n) (by simp)).c0; have p1 := (hH.get (g := g) (x := t) (y := n) (by simp)).c1; have pl := (hH.get (g := g) (x := t) (y := n) (by simp)).lt; have r0 := (hH.get (g := w5.heap.size + 1) (x := t) (y := n) (by simp)).c0; have r1 := (hH.get (g := w5.heap.size + 1) (x := t) (y := n) (by simp)).c1; have rl := (hH.get (g := w5.heap.size + 1) (x := t) (y := n) (by simp)).lt; have f0 := (hH.get (g := w5.heap.size + 1) (x := t) (y := n) (by simp)).f0; have f1 := (hH.get (g := w5.heap.size + 1) (x := t) (y := n) (by simp)).f1; have hy := hH.get (g := w5.heap.size + 1) (x := t) (y := n) (by simp)) | (go_at_call 20; refine (KL.out _).mono ?_; rintro e w7 ⟨rfl, rfl⟩))
    obtain ⟨W5, hW5⟩ : ∃ r, w6 = r := ⟨_, rfl⟩
    rw [hW5] at hH hok ⊢
    clear p0 p1 pl r0 r1 rl f0 f1 hy
    obtain ⟨g15, h15⟩ : ∃ r, w5.heap.size + 1 = r := ⟨_, rfl⟩
    rw [h15] at hH
    rw [h15]
    obtain ⟨g13, h13⟩ : ∃ r, w5.heap.size = r := ⟨_, rfl⟩
    rw [h13] at hH
    rw [h13]
    obtain ⟨g11, h11⟩ : ∃ r, w3.heap.size = r := ⟨_, rfl⟩
    rw [h11] at hH
    rw [h11]
    clear h15 h13 h11
    have HOK := Lib.hid hok
    have HH := Lib.hid fun W' (k : Ok W5.drew W') => hH.drew.next k
    clear hH hok
    refine wp_region_facts (by kernel_rfl) 89 rfl (VCSfine g h gx g11 g13 g15 t n now k1 k2 x y c q) Ok (by kernel_rfl) (fun i v w w' h k w'' k' => h w'' (k.trans k')) (fun a b c => Ok.trans) (Ok.refl _) [some 58, some 59, some 60, some 61, some 62, some 63, some 64, some 65, some 66, some 67, some 68, some 69, some 70, some 71, some 72, some 73, some 74, some 75, some 76, some 77, some 78, some 79, some 80, some 81, some 82, some 83, some 84, some 85, some 86, some 87, some 88, some 8] rfl 32 rfl ⟨?_, ?_, ?_, ?_, ?_, ?_, ?_, ?_, ?_, ?_, ?_, ?_, ?_, ?_, ?_, ?_, ?_, ?_, ?_, ?_, ?_, ?_, ?_, ?_, ?_, ?_, ?_, ?_, ?_, ?_, ?_, ?_, trivial⟩ ?_
    · intro a' w' hF hR
      have e4 : a'.tmps[4]? = some (.pointer (some ⟨g, 0, none⟩)) := hF.slot 4 (by kernel_rfl) rfl
      have hZ := (HH.out _ hR).get (g := g) (x := t) (y := n) (by simp)
      have c0 := hZ.c0
      have c1 := hZ.c1
      have hzl := hZ.lt
      refine wpOp_run (v := .agg #[.int .i64 t, .int .i64 n]) rfl rfl ?_ (fun _ _ => rfl) (Ok.refl _)
      clear hF
      go_simp
    · intro a' w' hF hR
      obtain ⟨v0, hv0, e58⟩ := hF.get 0 58 (by kernel_rfl) (by kernel_rfl)
      obtain rfl : v0 = _ := hv0 _ (Ok.refl _)
      clear hF
      refine wpOp_call (f := 16) (args := #[.agg #[.int .i64 t, .int .i64 n]]) rfl rfl ?_ ((KC.out _).mono ?_)
      · go_simp
      · rintro e w2 ⟨rfl, hb2⟩; exact ⟨_, rfl, fun _ _ => rfl, hb2⟩
    · intro a' w' hF hR
      have e1 : a'.tmps[1]? = some (.int .i64 now) := hF.slot 1 (by kernel_rfl) rfl
      refine wpOp_run (v := .int .i64 now) rfl rfl ?_ (fun _ _ => rfl) (Ok.refl _)
      clear hF
      go_simp
    · intro a' w' hF hR
      obtain ⟨v1, hv1, e59⟩ := hF.get 1 59 (by kernel_rfl) (by kernel_rfl)
      obtain rfl : v1 = _ := hv1 _ (Ok.refl _)
      obtain ⟨v2, hv2, e60⟩ := hF.get 2 60 (by kernel_rfl) (by kernel_rfl)
      obtain rfl : v2 = _ := hv2 _ (Ok.refl _)
      clear hF
      refine wpOp_call (f := 21) (args := #[.agg #[.int .i64 t, .int .i64 n], .int .i64 now]) rfl rfl ?_ ((KT.out _).mono ?_)
      · go_simp
      · rintro e w2 ⟨rfl, hb2⟩; exact ⟨_, rfl, fun _ _ => rfl, hb2⟩
    · intro a' w' hF hR
      obtain ⟨v3, hv3, e61⟩ := hF.get 3 61 (by kernel_rfl) (by kernel_rfl)
      obtain rfl : v3 = _ := hv3 _ (Ok.refl _)
      have hf := clockField (x, y)
      refine wpOp_run (v := .agg #[.int .i64 x, .int .i64 y]) rfl rfl ?_ (fun _ _ => rfl) (Ok.refl _)
      clear hF
      go_simp
    · intro a' w' hF hR
      have e4 : a'.tmps[4]? = some (.pointer (some ⟨g, 0, none⟩)) := hF.slot 4 (by kernel_rfl) rfl
      have hZ := (HH.out _ hR).get (g := g) (x := t) (y := n) (by simp)
      have c0 := hZ.c0
      have c1 := hZ.c1
      have hzl := hZ.lt
      refine wpOp_run (v := .agg #[.int .i64 t, .int .i64 n]) rfl rfl ?_ (fun _ _ => rfl) (Ok.refl _)
      clear hF
      go_simp
    · intro a' w' hF hR
      have e1 : a'.tmps[1]? = some (.int .i64 now) := hF.slot 1 (by kernel_rfl) rfl
      refine wpOp_run (v := .int .i64 now) rfl rfl ?_ (fun _ _ => rfl) (Ok.refl _)
      clear hF
      go_simp
    · intro a' w' hF hR
      obtain ⟨v5, hv5, e63⟩ := hF.get 5 63 (by kernel_rfl) (by kernel_rfl)
      obtain rfl : v5 = _ := hv5 _ (Ok.refl _)
      obtain ⟨v6, hv6, e64⟩ := hF.get 6 64 (by kernel_rfl) (by kernel_rfl)
      obtain rfl : v6 = _ := hv6 _ (Ok.refl _)
      clear hF
      refine wpOp_call (f := 22) (args := #[.agg #[.int .i64 t, .int .i64 n], .int .i64 now]) rfl rfl ?_ ((KU.out _).mono ?_)
      · go_simp
      · rintro e w2 ⟨rfl, hb2⟩; exact ⟨_, rfl, fun _ _ => rfl, hb2⟩
    · intro a' w' hF hR
      obtain ⟨v4, hv4, e62⟩ := hF.get 4 62 (by kernel_rfl) (by kernel_rfl)
      obtain rfl : v4 = _ := hv4 _ (Ok.refl _)
      obtain ⟨v7, hv7, e65⟩ := hF.get 7 65 (by kernel_rfl) (by kernel_rfl)
      obtain rfl : v7 = _ := hv7 _ (Ok.refl _)
      have hE := eqStamp20 x y x y
      simp only [beq_self_eq_true, Bool.and_self] at hE
      refine wpOp_run (v := .bool true) rfl rfl ?_ (fun _ _ => rfl) (Ok.refl _)
      clear hF
      go_simp
    · intro a' w' hF hR
      obtain ⟨v8, hv8, e66⟩ := hF.get 8 66 (by kernel_rfl) (by kernel_rfl)
      obtain rfl : v8 = _ := hv8 _ (Ok.refl _)
      refine wpOp_run (v := .bool true) rfl rfl ?_ (fun _ _ => rfl) (Ok.refl _)
      clear hF
      go_simp
    · intro a' w' hF hR
      have e9 : a'.tmps[9]? = some (.pointer (some ⟨gx, 0, none⟩)) := hF.slot 9 (by kernel_rfl) rfl
      obtain ⟨vg, hvg, eg⟩ := hF.get 9 67 (by kernel_rfl) (by kernel_rfl)
      obtain rfl : vg = _ := hvg _ (Ok.refl _)
      refine wpOp_runG (v := .pointer (some ⟨gx, 0, none⟩)) rfl (wanted_yes rfl (by kernel_rfl) eg) ?_ (fun _ _ => rfl) (Ok.refl _)
      clear hF
      go_simp
    · intro a' w' hF hR
      obtain ⟨v10, hv10, e68⟩ := hF.get 10 68 (by kernel_rfl) (by kernel_rfl)
      obtain rfl : v10 = _ := hv10 _ (Ok.refl _)
      obtain ⟨vg, hvg, eg⟩ := hF.get 9 67 (by kernel_rfl) (by kernel_rfl)
      obtain rfl : vg = _ := hvg _ (Ok.refl _)
      have hZ := (HH.out _ hR).get (g := gx) (x := k1) (y := k2) (by simp)
      have c0 := hZ.c0
      have c1 := hZ.c1
      have hzl := hZ.lt
      refine wpOp_runG (v := .agg #[.int .i64 k1, .int .i64 k2]) rfl (wanted_yes rfl (by kernel_rfl) eg) ?_ (fun _ _ => rfl) (Ok.refl _)
      clear hF
      go_simp
    · intro a' w' hF hR
      have e11 : a'.tmps[11]? = some (.pointer (some ⟨g11, 0, none⟩)) := hF.slot 11 (by kernel_rfl) rfl
      obtain ⟨vg, hvg, eg⟩ := hF.get 9 67 (by kernel_rfl) (by kernel_rfl)
      obtain rfl : vg = _ := hvg _ (Ok.refl _)
      have hZ := (HH.out _ hR).get (g := g11) (x := k1) (y := k2) (by simp)
      have c0 := hZ.c0
      have c1 := hZ.c1
      have hzl := hZ.lt
      refine wpOp_runG (v := .agg #[.int .i64 k1, .int .i64 k2]) rfl (wanted_yes rfl (by kernel_rfl) eg) ?_ (fun _ _ => rfl) (Ok.refl _)
      clear hF
      go_simp
    · intro a' w' hF hR
      obtain ⟨v11, hv11, e69⟩ := hF.get 11 69 (by kernel_rfl) (by kernel_rfl)
      obtain rfl : v11 = _ := hv11 _ (Ok.refl _)
      obtain ⟨v12, hv12, e70⟩ := hF.get 12 70 (by kernel_rfl) (by kernel_rfl)
      obtain rfl : v12 = _ := hv12 _ (Ok.refl _)
      obtain ⟨vg, hvg, eg⟩ := hF.get 9 67 (by kernel_rfl) (by kernel_rfl)
      obtain rfl : vg = _ := hvg _ (Ok.refl _)
      have hE := eqStamp20 k1 k2 k1 k2
      simp only [beq_self_eq_true, Bool.and_self] at hE
      refine wpOp_runG (v := .bool true) rfl (wanted_yes rfl (by kernel_rfl) eg) ?_ (fun _ _ => rfl) (Ok.refl _)
      clear hF
      go_simp
    · intro a' w' hF hR
      obtain ⟨v9, hv9, e67⟩ := hF.get 9 67 (by kernel_rfl) (by kernel_rfl)
      obtain rfl : v9 = _ := hv9 _ (Ok.refl _)
      obtain ⟨v13, hv13, e71⟩ := hF.get 13 71 (by kernel_rfl) (by kernel_rfl)
      obtain rfl : v13 = _ := hv13 _ (Ok.refl _)
      refine wpOp_run (v := .bool true) rfl rfl ?_ (fun _ _ => rfl) (Ok.refl _)
      clear hF
      go_simp
    · intro a' w' hF hR
      obtain ⟨v14, hv14, e72⟩ := hF.get 14 72 (by kernel_rfl) (by kernel_rfl)
      obtain rfl : v14 = _ := hv14 _ (Ok.refl _)
      refine wpOp_run (v := .bool true) rfl rfl ?_ (fun _ _ => rfl) (Ok.refl _)
      clear hF
      go_simp
    · intro a' w' hF hR
      have e10 : a'.tmps[10]? = some (.bool q) := hF.slot 10 (by kernel_rfl) rfl
      obtain ⟨vg, hvg, eg⟩ := hF.get 15 73 (by kernel_rfl) (by kernel_rfl)
      obtain rfl : vg = _ := hvg _ (Ok.refl _)
      refine wpOp_runG (v := .bool q) rfl (wanted_yes rfl (by kernel_rfl) eg) ?_ (fun _ _ => rfl) (Ok.refl _)
      clear hF
      go_simp
    · intro a' w' hF hR
      have e12 : a'.tmps[12]? = some (.bool q) := hF.slot 12 (by kernel_rfl) rfl
      obtain ⟨vg, hvg, eg⟩ := hF.get 15 73 (by kernel_rfl) (by kernel_rfl)
      obtain rfl : vg = _ := hvg _ (Ok.refl _)
      refine wpOp_runG (v := .bool q) rfl (wanted_yes rfl (by kernel_rfl) eg) ?_ (fun _ _ => rfl) (Ok.refl _)
      clear hF
      go_simp
    · intro a' w' hF hR
      obtain ⟨v16, hv16, e74⟩ := hF.get 16 74 (by kernel_rfl) (by kernel_rfl)
      obtain rfl : v16 = _ := hv16 _ (Ok.refl _)
      obtain ⟨v17, hv17, e75⟩ := hF.get 17 75 (by kernel_rfl) (by kernel_rfl)
      obtain rfl : v17 = _ := hv17 _ (Ok.refl _)
      obtain ⟨vg, hvg, eg⟩ := hF.get 15 73 (by kernel_rfl) (by kernel_rfl)
      obtain rfl : vg = _ := hvg _ (Ok.refl _)
      refine wpOp_runG (v := .bool true) rfl (wanted_yes rfl (by kernel_rfl) eg) ?_ (fun _ _ => rfl) (Ok.refl _)
      clear hF
      cases q <;> go_simp
    · intro a' w' hF hR
      obtain ⟨v15, hv15, e73⟩ := hF.get 15 73 (by kernel_rfl) (by kernel_rfl)
      obtain rfl : v15 = _ := hv15 _ (Ok.refl _)
      obtain ⟨v18, hv18, e76⟩ := hF.get 18 76 (by kernel_rfl) (by kernel_rfl)
      obtain rfl : v18 = _ := hv18 _ (Ok.refl _)
      refine wpOp_run (v := .bool true) rfl rfl ?_ (fun _ _ => rfl) (Ok.refl _)
      clear hF
      go_simp
    · intro a' w' hF hR
      obtain ⟨v19, hv19, e77⟩ := hF.get 19 77 (by kernel_rfl) (by kernel_rfl)
      obtain rfl : v19 = _ := hv19 _ (Ok.refl _)
      refine wpOp_run (v := .bool true) rfl rfl ?_ (fun _ _ => rfl) (Ok.refl _)
      clear hF
      go_simp
    · intro a' w' hF hR
      have e13 : a'.tmps[13]? = some (.pointer (some ⟨g13, 0, none⟩)) := hF.slot 13 (by kernel_rfl) rfl
      obtain ⟨vg, hvg, eg⟩ := hF.get 20 78 (by kernel_rfl) (by kernel_rfl)
      obtain rfl : vg = _ := hvg _ (Ok.refl _)
      refine wpOp_runG (v := .pointer (some ⟨g13, 0, none⟩)) rfl (wanted_yes rfl (by kernel_rfl) eg) ?_ (fun _ _ => rfl) (Ok.refl _)
      clear hF
      go_simp
    · intro a' w' hF hR
      obtain ⟨v21, hv21, e79⟩ := hF.get 21 79 (by kernel_rfl) (by kernel_rfl)
      obtain rfl : v21 = _ := hv21 _ (Ok.refl _)
      obtain ⟨vg, hvg, eg⟩ := hF.get 20 78 (by kernel_rfl) (by kernel_rfl)
      obtain rfl : vg = _ := hvg _ (Ok.refl _)
      have hZ := (HH.out _ hR).get (g := g13) (x := t) (y := n) (by simp)
      have c0 := hZ.c0
      have c1 := hZ.c1
      have hzl := hZ.lt
      refine wpOp_runG (v := .agg #[.int .i64 t, .int .i64 n]) rfl (wanted_yes rfl (by kernel_rfl) eg) ?_ (fun _ _ => rfl) (Ok.refl _)
      clear hF
      go_simp
    · intro a' w' hF hR
      have e15 : a'.tmps[15]? = some (.pointer (some ⟨g15, 0, none⟩)) := hF.slot 15 (by kernel_rfl) rfl
      obtain ⟨vg, hvg, eg⟩ := hF.get 20 78 (by kernel_rfl) (by kernel_rfl)
      obtain rfl : vg = _ := hvg _ (Ok.refl _)
      have hZ := (HH.out _ hR).get (g := g15) (x := t) (y := n) (by simp)
      have c0 := hZ.c0
      have c1 := hZ.c1
      have hzl := hZ.lt
      refine wpOp_runG (v := .agg #[.int .i64 t, .int .i64 n]) rfl (wanted_yes rfl (by kernel_rfl) eg) ?_ (fun _ _ => rfl) (Ok.refl _)
      clear hF
      go_simp
    · intro a' w' hF hR
      obtain ⟨v22, hv22, e80⟩ := hF.get 22 80 (by kernel_rfl) (by kernel_rfl)
      obtain rfl : v22 = _ := hv22 _ (Ok.refl _)
      obtain ⟨v23, hv23, e81⟩ := hF.get 23 81 (by kernel_rfl) (by kernel_rfl)
      obtain rfl : v23 = _ := hv23 _ (Ok.refl _)
      obtain ⟨vg, hvg, eg⟩ := hF.get 20 78 (by kernel_rfl) (by kernel_rfl)
      obtain rfl : vg = _ := hvg _ (Ok.refl _)
      have hE := eqStamp20 t n t n
      simp only [beq_self_eq_true, Bool.and_self] at hE
      refine wpOp_runG (v := .bool true) rfl (wanted_yes rfl (by kernel_rfl) eg) ?_ (fun _ _ => rfl) (Ok.refl _)
      clear hF
      go_simp
    · intro a' w' hF hR
      obtain ⟨v20, hv20, e78⟩ := hF.get 20 78 (by kernel_rfl) (by kernel_rfl)
      obtain rfl : v20 = _ := hv20 _ (Ok.refl _)
      obtain ⟨v24, hv24, e82⟩ := hF.get 24 82 (by kernel_rfl) (by kernel_rfl)
      obtain rfl : v24 = _ := hv24 _ (Ok.refl _)
      refine wpOp_run (v := .bool true) rfl rfl ?_ (fun _ _ => rfl) (Ok.refl _)
      clear hF
      go_simp
    · intro a' w' hF hR
      obtain ⟨v25, hv25, e83⟩ := hF.get 25 83 (by kernel_rfl) (by kernel_rfl)
      obtain rfl : v25 = _ := hv25 _ (Ok.refl _)
      refine wpOp_run (v := .bool true) rfl rfl ?_ (fun _ _ => rfl) (Ok.refl _)
      clear hF
      go_simp
    · intro a' w' hF hR
      have e14 : a'.tmps[14]? = some (.bool false) := hF.slot 14 (by kernel_rfl) rfl
      obtain ⟨vg, hvg, eg⟩ := hF.get 26 84 (by kernel_rfl) (by kernel_rfl)
      obtain rfl : vg = _ := hvg _ (Ok.refl _)
      refine wpOp_runG (v := .bool false) rfl (wanted_yes rfl (by kernel_rfl) eg) ?_ (fun _ _ => rfl) (Ok.refl _)
      clear hF
      go_simp
    · intro a' w' hF hR
      have e16 : a'.tmps[16]? = some (.bool false) := hF.slot 16 (by kernel_rfl) rfl
      obtain ⟨vg, hvg, eg⟩ := hF.get 26 84 (by kernel_rfl) (by kernel_rfl)
      obtain rfl : vg = _ := hvg _ (Ok.refl _)
      refine wpOp_runG (v := .bool false) rfl (wanted_yes rfl (by kernel_rfl) eg) ?_ (fun _ _ => rfl) (Ok.refl _)
      clear hF
      go_simp
    · intro a' w' hF hR
      obtain ⟨v27, hv27, e85⟩ := hF.get 27 85 (by kernel_rfl) (by kernel_rfl)
      obtain rfl : v27 = _ := hv27 _ (Ok.refl _)
      obtain ⟨v28, hv28, e86⟩ := hF.get 28 86 (by kernel_rfl) (by kernel_rfl)
      obtain rfl : v28 = _ := hv28 _ (Ok.refl _)
      obtain ⟨vg, hvg, eg⟩ := hF.get 26 84 (by kernel_rfl) (by kernel_rfl)
      obtain rfl : vg = _ := hvg _ (Ok.refl _)
      refine wpOp_runG (v := .bool true) rfl (wanted_yes rfl (by kernel_rfl) eg) ?_ (fun _ _ => rfl) (Ok.refl _)
      clear hF
      go_simp
    · intro a' w' hF hR
      obtain ⟨v26, hv26, e84⟩ := hF.get 26 84 (by kernel_rfl) (by kernel_rfl)
      obtain rfl : v26 = _ := hv26 _ (Ok.refl _)
      obtain ⟨v29, hv29, e87⟩ := hF.get 29 87 (by kernel_rfl) (by kernel_rfl)
      obtain rfl : v29 = _ := hv29 _ (Ok.refl _)
      refine wpOp_run (v := .bool true) rfl rfl ?_ (fun _ _ => rfl) (Ok.refl _)
      clear hF
      go_simp
    · intro a' w' hF hR
      obtain ⟨v30, hv30, e88⟩ := hF.get 30 88 (by kernel_rfl) (by kernel_rfl)
      obtain rfl : v30 = _ := hv30 _ (Ok.refl _)
      refine wpOp_run (v := .bool true) rfl rfl ?_ (fun _ _ => rfl) (Ok.refl _)
      clear hF
      go_simp
    intro us W6 hV hR
    have e31 : us 31 = .bool true := hV 31 (by decide) _ (Ok.refl _)
    have hok := (HOK.out.trans (Ok.refl W5).drew).trans hR
    clear hV HH HOK
    simp only [putFrom, e31]
    simp only [Act.put, List.setIfInBounds_toArray, List.set_cons_zero, List.set_cons_succ]
    go_wp2
    go_ret
    exact ⟨rfl, hok⟩
theorem walk (w : World) (t n : Int) (wt : (Lit.int .i64 t).wf = true) (wn : (Lit.int .i64 n).wf = true) (now : Int) (w0 : (Lit.int .i64 now).wf = true) (a b : Int) (wa : (Lit.int .i64 a).wf = true) (wb : (Lit.int .i64 b).wf = true) (most : Int) (wm : (Lit.int .i64 most).wf = true) :
    Calls Try.prog 4 #[.agg #[.int .i64 t, .int .i64 n], .int .i64 now, .agg #[.int .i64 a, .int .i64 b], .int .i64 most] w fun e w' => e = .returned (.bool true) ∧ Below w.heap.size w w' := by
  show Calls Try.prog 4 #[stV (t, n), .int .i64 now, stV (a, b), .int .i64 most] w fun e w' => e = .returned (.bool true) ∧ Ok w w' 
  by_cases h : Hlc.right (t, n) = true
  · by_cases h2 : t ≤ most
    · exact fine w t n now a b most h h2
    · exact late w t n now a b most h (by omega)
  · exact wrong w t n now a b most (by simpa using h)
theorem own : ownKnob Try.prog.godebug = none := by kernel_rfl
theorem laidOut : laidOutB Try.prog = true := by kernel_rfl
set_option maxRecDepth 100000 in
theorem lifted (os : Os) (started : os.Started) (H : Type) (enc : TypeId × Value → H) :
    ReturnsInHanded {} Try.checked os 4 .any (Rows.hlcTicksSpec.pre6 enc Try.prog Try.f4 Rows.hlcTicksRow.domain false) (Rows.hlcTicksSpec.post enc Try.prog Try.f4 false true false false) := by
  refine returnsInHanded_of_change (C := Try.checked) own started (by kernel_rfl) Try.func4
    (ChangeSpec.witness6 (enc := enc) (C := Try.checked) false ⟨#[], #[.agg #[.int .i64 0, .int .i64 0], .int .i64 0, .agg #[.int .i64 0, .int .i64 0], .int .i64 0], []⟩ 8 (by kernel_rfl) (by kernel_rfl) (by kernel_rfl) (by kernel_rfl)) ?_
  intro W base args ds gs before hval0 hW _ _
  have hval : ∀ (j : Nat) t v, Try.f4.params[j]? = some t → args[j]? = some v → Value.okWide Try.prog W .any base t v := hval0
  have hW' := hW
  obtain ⟨p, q, hA, hV, rfl, _, _⟩ := hW
  obtain ⟨rfl, rfl⟩ := trodVars_none hV
  replace hA : DataW.TrodAll enc Try.prog W 0 (fun _ => true) true Try.f4.params.toList args.toList ds p := hA
  rw [Try.params4] at hA hval
  obtain ⟨v0, vs0, d0, ds0, p0, q0, hargs, rfl, rfl, h0, r0⟩ := trodAll_cons hA
  obtain ⟨v1, vs1, d1, ds1, p1, q1, rfl, rfl, rfl, h1, r1⟩ := trodAll_cons r0
  obtain ⟨v2, vs2, d2, ds2, p2, q2, rfl, rfl, rfl, h2, r2⟩ := trodAll_cons r1
  obtain ⟨v3, vs3, d3, ds3, p3, q3, rfl, rfl, rfl, h3, r3⟩ := trodAll_cons r2
  obtain ⟨rfl, rfl, rfl⟩ := trodAll_nil r3
  obtain rfl : args = #[v0, v1, v2, v3] := by cases args; simp_all
  obtain ⟨s0_0, s0_1, rfl, ws0_0, ws0_1⟩ := open_pair Try.underlying23 (by kernel_rfl) (by kernel_rfl) (by kernel_rfl) (by kernel_rfl) (hval 0 23 v0 rfl rfl) h0
  obtain ⟨a1, rfl, rfl, rfl, w1⟩ := open_int Try.underlying3 (hval 1 3 v1 rfl rfl) h1
  obtain ⟨s2_0, s2_1, rfl, ws2_0, ws2_1⟩ := open_pair Try.underlying23 (by kernel_rfl) (by kernel_rfl) (by kernel_rfl) (by kernel_rfl) (hval 2 23 v2 rfl rfl) h2
  obtain ⟨a3, rfl, rfl, rfl, w3⟩ := open_int Try.underlying3 (hval 3 3 v3 rfl rfl) h3
  refine (walk W s0_0 s0_1 ws0_0 ws0_1 a1 w1 s2_0 s2_1 ws2_0 ws2_1 a3 w3).mono fun e W' ⟨he, hb⟩ => ?_
  subst he
  exact ⟨_, rfl, law_post hW' laidOut (by rw [Try.params4]; exact params_ok (by kernel_rfl)) rfl (by kernel_rfl) Try.underlying4 rfl rfl rfl hb⟩
theorem over : Rows.hlcTicksRow.holds Try.pinned (OpenSpec.ofChange Rows.hlcTicksSpec) :=
  OpenClaim.holds_of_wide 4 Try.f4 rfl rfl rfl rfl rfl rfl rfl ⟨rfl, rfl, rfl, rfl, rfl⟩ rfl rfl rfl rfl rfl (by kernel_rfl) Try.func4 (by kernel_rfl)
    (of_decide_eq_true (by kernel_rfl)) (by unfold Func.isWrapper; first | (rw [if_pos (by decide +kernel)]; kernel_rfl) | (rw [if_neg (by decide +kernel)]; exact ⟨rfl, rfl⟩))
    (fun os started H enc _ => lifted os started H enc)
theorem proved : Rows.HlcTicksSaid := over
end Go.Proofs.Ytgfnfjkajahoaaa.hlcTicks
