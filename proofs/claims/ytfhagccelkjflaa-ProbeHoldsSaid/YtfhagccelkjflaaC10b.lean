/- Contracts of layer 10: the document's Ahead. -/
import Derived.Test.YtfhagccelkjflaaC10a
namespace Go.Proofs.Ytfhagccelkjflaa
open Go.RowKit
set_option maxRecDepth 100000
attribute [local go_sem ↓] Go.wp_at_zero Go.wp_at_succ
/-- What each operation leaves. -/
def VM10r (B K : Nat) (p : Par) (bk le m x2 y2 : Int) (w : World) (v : Value) : Nat → Prop
  | 0 => v = .int .i64 bk
  | 1 => v = .int .i64 le
  | 2 => ∃ n : Addr, v = .slice (some n) 2 2 ∧ IntsAt w (some n) [bk, le]
  | 3 => v = .int .i64 (Sat.sum [bk, le])
  | 4 => v = .int .i64 bk
  | 5 => v = .pointer (some ⟨B, 5, none⟩)
  | 6 => v = .int .i64 p.delay
  | 7 => ∃ n : Addr, v = .slice (some n) 2 2 ∧ IntsAt w (some n) [bk, p.delay]
  | 8 => v = .int .i64 (Sat.sum [bk, p.delay])
  | 9 => v = spanV (Sat.sum [bk, le]) (Sat.sum [bk, p.delay])
  | 10 => v = .int .i64 m
  | 11 => v = .int .i64 (-m)
  | 12 => v = .int .i64 m
  | 13 => v = spanV x2 y2
  | 14 => ∃ g : Nat, v = .pointer (some ⟨g, 0, none⟩) ∧ Own w g #[.int .i64 0, .int .i64 0] ∧ K ≤ g
  | _ => v = .bool true
/-- It stays so. -/
def VC10r (B K : Nat) (p : Par) (bk le m x2 y2 : Int) (i : Nat) (v : Value) (w : World) : Prop := ∀ w', Ok w w' → VM10r B K p bk le m x2 y2 w' v i
set_option maxHeartbeats 3200000 in
theorem ref10Ahead (p : Par) (t : Trp) (w : World) : Calls Try.prog 14 #[parV p, .int .i64 t.asked, .int .i64 t.got, .int .i64 t.said, .int .i64 t.heard] w fun e w' => e = .returned (spanV (Probe.ah p t).1 (Probe.ah p t).2) ∧ Ok w w' := by
  unfold Probe.ah Probe.ahead Probe.way1 Probe.way2
  have L1 := Lib.hid fun w => refSub p.delay p.jit w
  have L2 := Lib.hid fun w => refSub t.got t.asked w
  have L3 := Lib.hid fun w => refSub t.said t.heard w
  have L4 := Lib.hid fun w => refMul 2 p.rho w
  have hmb := Sat.mul_bd 2 p.rho
  obtain ⟨le, hle⟩ : ∃ x, Sat.sub p.delay p.jit = x := ⟨_, rfl⟩
  obtain ⟨th, hth⟩ : ∃ x, Sat.sub t.got t.asked = x := ⟨_, rfl⟩
  obtain ⟨bk, hbk⟩ : ∃ x, Sat.sub t.said t.heard = x := ⟨_, rfl⟩
  obtain ⟨m, hm⟩ : ∃ x, Sat.mul 2 p.rho = x := ⟨_, rfl⟩
  rw [hle] at L1
  rw [hth] at L2
  rw [hbk] at L3
  rw [hm] at L4 hmb
  rw [hle, hth, hbk, hm]
  clear hle hth hbk hm
  have K1 := Lib.hid fun w => refSub th p.delay w
  have K2 := Lib.hid fun w => refSub th le w
  have K4 := Lib.hid fun w => ref3Shift (Sat.sub th p.delay) (Sat.sub th le) (-m) m w
  obtain ⟨a1, ha1⟩ : ∃ x, Sat.sub th p.delay = x := ⟨_, rfl⟩
  obtain ⟨b1, hb1⟩ : ∃ x, Sat.sub th le = x := ⟨_, rfl⟩
  rw [ha1] at K1
  rw [hb1] at K2
  rw [ha1, hb1] at K4
  rw [ha1, hb1]
  clear ha1 hb1
  have K5 := Lib.hid fun w => ref3Shift (Sat.sum [bk, le]) (Sat.sum [bk, p.delay]) (-m) m w
  obtain ⟨x1, hx1⟩ : ∃ x, Sat.sum [a1, -m] = x := ⟨_, rfl⟩
  obtain ⟨y1, hy1⟩ : ∃ x, Sat.sum [b1, m] = x := ⟨_, rfl⟩
  obtain ⟨x2, hx2⟩ : ∃ x, Sat.sum [Sat.sum [bk, le], -m] = x := ⟨_, rfl⟩
  obtain ⟨y2, hy2⟩ : ∃ x, Sat.sum [Sat.sum [bk, p.delay], m] = x := ⟨_, rfl⟩
  rw [hx1, hy1] at K4
  rw [hx2, hy2] at K5
  rw [hx1, hy1, hx2, hy2]
  clear hx1 hx2 hy1 hy2
  have K7 := Lib.hid fun n w (hp : PairsAt w (some n) [(x1, y1), (x2, y2)]) => ref3Meet (some n) [(x1, y1), (x2, y2)] 2 w hp (by simp)
  show Calls _ _ _ _ fun e w' => e = .returned (spanV (Sat.clip (Span.mLo [(x1, y1), (x2, y2)])) (Sat.clip (Span.mHi [(x1, y1), (x2, y2)]))) ∧ Ok w w'
  obtain ⟨x, hx⟩ : ∃ x, Sat.clip (Span.mLo [(x1, y1), (x2, y2)]) = x := ⟨_, rfl⟩
  obtain ⟨y, hy⟩ : ∃ x, Sat.clip (Span.mHi [(x1, y1), (x2, y2)]) = x := ⟨_, rfl⟩
  rw [hx, hy] at K7 ⊢
  clear hx hy
  have hP := Own.new w (parCells p) 23 rfl
  have hZ := Slab.new (w.alloc (.cells (parCells p) 23)) 0 0 28 (g := w.heap.size + 1) (by simp)
  have hok := ((Ok.refl w).alloc (.cells (parCells p) 23)).alloc (.cells #[.int .i64 0, .int .i64 0] 28)
  replace hP := hP.alloc (.cells #[.int .i64 0, .int .i64 0] 28)
  go_enter Try.func14, Try.ntmps14
  go_upto_region 5 with (first | (go_at_call 21; first | ((with_reducible refine (L1.out _).mono ?_); rintro e w' ⟨rfl, rfl⟩) | ((with_reducible refine (L2.out _).mono ?_); rintro e w' ⟨rfl, rfl⟩) | ((with_reducible refine (L3.out _).mono ?_); rintro e w' ⟨rfl, rfl⟩)) | (go_at_call 27; (with_reducible refine (L4.out _).mono ?_); rintro e w' ⟨rfl, rfl⟩))
  clear L1 L2 L3 L4
  generalize (w.alloc (.cells (parCells p) 23)).alloc (.cells #[.int .i64 0, .int .i64 0] 28) = W0 at hP hZ hok ⊢
  have hrw : w.heap.size ≤ w.heap.size + 1 := by omega
  obtain ⟨r, hr⟩ : ∃ r, w.heap.size + 1 = r := ⟨_, rfl⟩
  rw [hr] at hZ hrw ⊢
  clear hr
  obtain ⟨B, hB⟩ : ∃ r, w.heap.size = r := ⟨_, rfl⟩
  have HBw := Lib.hid hB
  rw [hB] at hP ⊢
  clear hB
  obtain ⟨c0, c1, c2, c3, c4, c5, c6, c7, c8, c9, c10, c11⟩ := hP.pars
  have hrl := hZ.lt
  go_upto_region 6 with (first | (go_at_call 21; first | ((with_reducible refine (K1.out _).mono ?_); rintro e w' ⟨rfl, rfl⟩) | ((with_reducible refine (K2.out _).mono ?_); rintro e w' ⟨rfl, rfl⟩)) | (go_at_call 28; (with_reducible refine (K4.out _).mono ?_); rintro e w1 ⟨rfl, hb1⟩))
  have hGn := Slab.new w1 x1 y1 28 rfl
  replace hP := (hP.next hb1).alloc (.cells #[.int .i64 x1, .int .i64 y1] 28)
  replace hZ := (hZ.next hb1).alloc (.cells #[.int .i64 x1, .int .i64 y1] 28)
  replace hok := (hok.trans hb1).alloc (.cells #[.int .i64 x1, .int .i64 y1] 28)
  clear hb1 K1 K2 K4 c0 c1 c2 c3 c4 c5 c6 c7 c8 c9 c10 c11
  obtain ⟨W, hW⟩ : ∃ W, w1.alloc (.cells #[.int .i64 x1, .int .i64 y1] 28) = W := ⟨_, rfl⟩
  rw [hW] at hP hZ hok hGn ⊢
  clear hW
  obtain ⟨g, hg⟩ : ∃ g, w1.heap.size = g := ⟨_, rfl⟩
  rw [hg] at hGn ⊢
  clear hg
  have hgl := hGn.lt
  replace hrl := hZ.lt
  have hKw := hok.size
  have hK : W.heap.size ≤ W.drew.heap.size := Nat.le_refl _
  obtain ⟨K, hKe⟩ : ∃ K, W.heap.size = K := ⟨_, rfl⟩
  rw [hKe] at hgl hrl hKw hK
  have HP := Lib.hid fun W' (k : Ok W.drew W') => hP.drew.next k
  have HR := Lib.hid fun W' (k : Ok W.drew W') => hZ.drew.next k
  have HG := Lib.hid fun W' (k : Ok W.drew W') => hGn.drew.next k
  clear hP hZ hGn hKe
  refine wp_region_facts_last (by kernel_rfl) 61 rfl (VC10r B K p bk le m x2 y2) Ok _ rfl _ 15 rfl rfl rfl rfl (by kernel_rfl) (by kernel_rfl) (by kernel_rfl) (fun i v w w' h k w'' k' => h w'' (k.trans k')) (fun a b c => Ok.trans) (Ok.refl _) [some 43, some 44, some 45, some 46, some 47, some 48, some 49, some 50, some 51, some 52, some 53, some 54, some 55, some 56, some 16] rfl ⟨?_, ?_, ?_, ?_, ?_, ?_, ?_, ?_, ?_, ?_, ?_, ?_, ?_, ?_, ?_, trivial⟩ ?_
  · intro a' w' hF hR
    have e12 : a'.tmps[12]? = some (.int .i64 bk) := hF.slot 12 (by kernel_rfl) rfl
    refine wpOp_run (v := .int .i64 bk) rfl rfl ?_ (fun _ _ => rfl) (Ok.refl _)
    clear hF
    go_simp
  · intro a' w' hF hR
    have e13 : a'.tmps[13]? = some (.int .i64 le) := hF.slot 13 (by kernel_rfl) rfl
    refine wpOp_run (v := .int .i64 le) rfl rfl ?_ (fun _ _ => rfl) (Ok.refl _)
    clear hF
    go_simp
  · intro a' w' hF hR
    obtain ⟨v0, hv0, e43⟩ := hF.get 0 43 (by kernel_rfl) (by kernel_rfl)
    obtain rfl : v0 = _ := hv0 _ (Ok.refl _)
    obtain ⟨v1, hv1, e44⟩ := hF.get 1 44 (by kernel_rfl) (by kernel_rfl)
    obtain rfl : v1 = _ := hv1 _ (Ok.refl _)
    refine wpOp_run (v := .slice (some ⟨w'.heap.size, 0, none⟩) 2 2) (w' := w'.alloc (.cells #[.int .i64 bk, .int .i64 le] 3)) rfl rfl ?_ (fun w'' k => ⟨_, rfl, (ints_new _ [bk, le] _ _ rfl rfl).below k⟩) ((Ok.refl _).alloc _)
    clear hF
    go_simp
  · intro a' w' hF hR
    obtain ⟨v2, hv2, e45⟩ := hF.get 2 45 (by kernel_rfl) (by kernel_rfl)
    obtain ⟨n2, rfl, hp2⟩ := hv2 _ (Ok.refl _)
    clear hF
    refine wpOp_call (f := 29) (args := #[.slice (some n2) 2 2]) rfl rfl ?_ ((refAdd (some n2) [bk, le] 2 _ hp2 (by simp)).mono ?_)
    · go_simp
    · rintro e w2 ⟨rfl, rfl⟩; exact ⟨_, rfl, fun _ _ => rfl, Ok.refl _⟩
  · intro a' w' hF hR
    have e12 : a'.tmps[12]? = some (.int .i64 bk) := hF.slot 12 (by kernel_rfl) rfl
    refine wpOp_run (v := .int .i64 bk) rfl rfl ?_ (fun _ _ => rfl) (Ok.refl _)
    clear hF
    go_simp
  · intro a' w' hF hR
    have e5 : a'.tmps[5]? = some (.pointer (some ⟨B, 0, none⟩)) := hF.slot 5 (by kernel_rfl) rfl
    refine wpOp_run (v := .pointer (some ⟨B, 5, none⟩)) rfl rfl ?_ (fun _ _ => rfl) (Ok.refl _)
    clear hF
    go_simp
  · intro a' w' hF hR
    obtain ⟨v5, hv5, e48⟩ := hF.get 5 48 (by kernel_rfl) (by kernel_rfl)
    obtain rfl : v5 = _ := hv5 _ (Ok.refl _)
    obtain ⟨c0, c1, c2, c3, c4, c5, c6, c7, c8, c9, c10, c11⟩ := (HP.out _ hR).pars
    refine wpOp_run (v := .int .i64 p.delay) rfl rfl ?_ (fun _ _ => rfl) (Ok.refl _)
    clear hF
    go_simp
  · intro a' w' hF hR
    obtain ⟨v4, hv4, e47⟩ := hF.get 4 47 (by kernel_rfl) (by kernel_rfl)
    obtain rfl : v4 = _ := hv4 _ (Ok.refl _)
    obtain ⟨v6, hv6, e49⟩ := hF.get 6 49 (by kernel_rfl) (by kernel_rfl)
    obtain rfl : v6 = _ := hv6 _ (Ok.refl _)
    refine wpOp_run (v := .slice (some ⟨w'.heap.size, 0, none⟩) 2 2) (w' := w'.alloc (.cells #[.int .i64 bk, .int .i64 p.delay] 3)) rfl rfl ?_ (fun w'' k => ⟨_, rfl, (ints_new _ [bk, p.delay] _ _ rfl rfl).below k⟩) ((Ok.refl _).alloc _)
    clear hF
    go_simp
  · intro a' w' hF hR
    obtain ⟨v7, hv7, e50⟩ := hF.get 7 50 (by kernel_rfl) (by kernel_rfl)
    obtain ⟨n7, rfl, hp7⟩ := hv7 _ (Ok.refl _)
    clear hF
    refine wpOp_call (f := 29) (args := #[.slice (some n7) 2 2]) rfl rfl ?_ ((refAdd (some n7) [bk, p.delay] 2 _ hp7 (by simp)).mono ?_)
    · go_simp
    · rintro e w2 ⟨rfl, rfl⟩; exact ⟨_, rfl, fun _ _ => rfl, Ok.refl _⟩
  · intro a' w' hF hR
    obtain ⟨v3, hv3, e46⟩ := hF.get 3 46 (by kernel_rfl) (by kernel_rfl)
    obtain rfl : v3 = _ := hv3 _ (Ok.refl _)
    obtain ⟨v8, hv8, e51⟩ := hF.get 8 51 (by kernel_rfl) (by kernel_rfl)
    obtain rfl : v8 = _ := hv8 _ (Ok.refl _)
    have hzero : Sem.run Try.prog (zeroValue 28) w' = .ok (spanV 0 0) w' := by kernel_rfl
    refine wpOp_run (v := spanV (Sat.sum [bk, le]) (Sat.sum [bk, p.delay])) rfl rfl ?_ (fun _ _ => rfl) (Ok.refl _)
    clear hF
    go_simp
  · intro a' w' hF hR
    have e14 : a'.tmps[14]? = some (.int .i64 m) := hF.slot 14 (by kernel_rfl) rfl
    refine wpOp_run (v := .int .i64 m) rfl rfl ?_ (fun _ _ => rfl) (Ok.refl _)
    clear hF
    go_simp
  · intro a' w' hF hR
    obtain ⟨v10, hv10, e53⟩ := hF.get 10 53 (by kernel_rfl) (by kernel_rfl)
    obtain rfl : v10 = _ := hv10 _ (Ok.refl _)
    refine wpOp_run (v := .int .i64 (-m)) rfl rfl ?_ (fun _ _ => rfl) (Ok.refl _)
    clear hF
    go_simp; exact IntWalk.i64_in _ ⟨by omega, by omega⟩
  · intro a' w' hF hR
    have e14 : a'.tmps[14]? = some (.int .i64 m) := hF.slot 14 (by kernel_rfl) rfl
    refine wpOp_run (v := .int .i64 m) rfl rfl ?_ (fun _ _ => rfl) (Ok.refl _)
    clear hF
    go_simp
  · intro a' w' hF hR
    obtain ⟨v9, hv9, e52⟩ := hF.get 9 52 (by kernel_rfl) (by kernel_rfl)
    obtain rfl : v9 = _ := hv9 _ (Ok.refl _)
    obtain ⟨v11, hv11, e54⟩ := hF.get 11 54 (by kernel_rfl) (by kernel_rfl)
    obtain rfl : v11 = _ := hv11 _ (Ok.refl _)
    obtain ⟨v12, hv12, e55⟩ := hF.get 12 55 (by kernel_rfl) (by kernel_rfl)
    obtain rfl : v12 = _ := hv12 _ (Ok.refl _)
    clear hF
    refine wpOp_call (f := 28) (args := #[spanV (Sat.sum [bk, le]) (Sat.sum [bk, p.delay]), .int .i64 (-m), .int .i64 m]) rfl rfl ?_ ((K5.out _).mono ?_)
    · go_simp
    · rintro e w2 ⟨rfl, hb2⟩; exact ⟨_, rfl, fun _ _ => rfl, hb2⟩
  · intro a' w' hF hR
    have hzero : Sem.run Try.prog (zeroValue 28) w' = .ok (.agg #[.int .i64 0, .int .i64 0]) w' := by kernel_rfl
    refine wpOp_run (v := .pointer (some ⟨w'.heap.size, 0, none⟩)) (w' := w'.alloc (.cells #[.int .i64 0, .int .i64 0] 28)) rfl rfl ?_ (fun w'' k => ⟨_, rfl, (Own.new _ _ _ rfl).next k, (show K ≤ w'.heap.size from Nat.le_trans hK hR.size)⟩) ((Ok.refl _).alloc _)
    clear hF
    go_simp
  intro vs W' hvs hR
  have e13 : vs 13 = spanV x2 y2 := hvs 13 (by decide) _ (Ok.refl _)
  obtain ⟨h, e14, hOh, hKh⟩ := hvs 14 (by decide) _ (Ok.refl _)
  have hH : Slab W' h 0 0 := ⟨hOh.blk⟩
  have f0 := hH.f0
  have f1 := hH.f1
  have c0 := hH.c0
  have c1 := hH.c1
  have hRr := HR.out _ hR
  have hGg := HG.out _ hR
  have hok1 := hok.trans ((Ok.refl W).drew.trans hR)
  clear hvs K5 HP HR HG hR hok
  simp only [putFrom, e13, e14]
  simp only [Act.put, List.setIfInBounds_toArray, List.set_cons_zero, List.set_cons_succ]
  refine wpOp_store (w' := (W'.setCell ⟨h, 0, none⟩ (.int .i64 x2)).setCell ⟨h, 1, none⟩ (.int .i64 y2)) rfl rfl rfl ?_ ?_
  · go_simp
  have hhw : w.heap.size ≤ h := by omega
  have hF := hH.set x2 y2
  have hok2 := (hok1.setCell (p := ⟨h, 0, none⟩) hhw (.int .i64 x2)).setCell (p := ⟨h, 1, none⟩) hhw (.int .i64 y2)
  have hR2 := (hRr.setOther (a := ⟨h, 0, none⟩) (by show r ≠ h; omega) (.int .i64 x2)).setOther (a := ⟨h, 1, none⟩) (by show r ≠ h; omega) (.int .i64 y2)
  have hG2 := (hGg.setOther (a := ⟨h, 0, none⟩) (by show g ≠ h; omega) (.int .i64 x2)).setOther (a := ⟨h, 1, none⟩) (by show g ≠ h; omega) (.int .i64 y2)
  clear c0 c1 f0 f1 hH hRr hGg hok1 hOh
  generalize (W'.setCell ⟨h, 0, none⟩ (.int .i64 x2)).setCell ⟨h, 1, none⟩ (.int .i64 y2) = W2 at hF hok2 hR2 hG2 ⊢
  have q0 := hF.c0
  have q1 := hF.c1
  have p0 := hG2.c0
  have p1 := hG2.c1
  have lq := hF.lt
  have lp := hG2.lt
  clear e13 e14
  generalize vs (0 + 1 + 1 + 1 + 1 + 1 + 1 + 1 + 1 + 1 + 1 + 1 + 1) = z12
  generalize vs (0 + 1 + 1 + 1 + 1 + 1 + 1 + 1 + 1 + 1 + 1 + 1) = z11
  generalize vs (0 + 1 + 1 + 1 + 1 + 1 + 1 + 1 + 1 + 1 + 1) = z10
  generalize vs (0 + 1 + 1 + 1 + 1 + 1 + 1 + 1 + 1 + 1) = z9
  generalize vs (0 + 1 + 1 + 1 + 1 + 1 + 1 + 1 + 1) = z8
  generalize vs (0 + 1 + 1 + 1 + 1 + 1 + 1 + 1) = z7
  generalize vs (0 + 1 + 1 + 1 + 1 + 1 + 1) = z6
  generalize vs (0 + 1 + 1 + 1 + 1 + 1) = z5
  generalize vs (0 + 1 + 1 + 1 + 1) = z4
  generalize vs (0 + 1 + 1 + 1) = z3
  generalize vs (0 + 1 + 1) = z2
  generalize vs (0 + 1) = z1
  generalize vs 0 = z0
  have HM : Hid (∀ n, n = W2.heap.size → Calls Try.prog 30 #[.slice (some ⟨n, 0, none⟩) 2 2] (W2.alloc (.cells #[.int .i64 x1, .int .i64 y1, .int .i64 x2, .int .i64 y2] 28)) fun e w' => e = .returned (spanV x y) ∧ Ok (W2.alloc (.cells #[.int .i64 x1, .int .i64 y1, .int .i64 x2, .int .i64 y2] 28)) w') := Lib.hid fun n (hn : n = W2.heap.size) => K7.out ⟨n, 0, none⟩ _ (pairs_new W2 [(x1, y1), (x2, y2)] 28 #[.int .i64 x1, .int .i64 y1, .int .i64 x2, .int .i64 y2] rfl hn)
  clear K7
  go_wp2_with ((go_at_call 30; (with_reducible refine (HM.out _ rfl).mono ?_); rintro e w3 ⟨rfl, hb3⟩; replace hR2 := (hR2.alloc _).next hb3; replace hok2 := (hok2.alloc _).trans hb3; clear hb3; have r0 := hR2.c0; have r1 := hR2.c1; have f0 := hR2.f0; have f1 := hR2.f1))
  have hX := hR2.set x y
  have hok3 := (hok2.setCell (p := ⟨r, 0, none⟩) hrw (.int .i64 x)).setCell (p := ⟨r, 1, none⟩) hrw (.int .i64 y)
  generalize (w3.setCell ⟨r, 0, none⟩ (.int .i64 x)).setCell ⟨r, 1, none⟩ (.int .i64 y) = W4 at hX hok3 ⊢
  have s0 := hX.c0
  have s1 := hX.c1
  exact bodyPost_ret (v := spanV x y) (by simp [results, Try.results14, go_sem, s0, s1]) rfl ⟨rfl, hok3⟩
end Go.Proofs.Ytfhagccelkjflaa
