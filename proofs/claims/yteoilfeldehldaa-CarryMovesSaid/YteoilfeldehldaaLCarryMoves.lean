/- CarryMoves: for every fabric's numbers, every span and every number the law answers true: Hold, Way, Ticks and Ages are the document's. No condition. -/
import Derived.Test.YteoilfeldehldaaC11c
import Derived.Test.YteoilfeldehldaaW06
import Derived.Test.YteoilfeldehldaaC11b
namespace Go.Proofs.Yteoilfeldehldaa.carryMoves
open Go.ChangeShapes Go.WideShapes Go.ChangeAt Go.RowKit
set_option linter.unusedVariables false
set_option maxRecDepth 100000
attribute [local go_sem ↓] Go.wp_at_zero Go.wp_at_succ
/-- What each operation leaves. -/
def VMM (B S : Nat) (p : Par) (a b m h1 h2 y1 y2 t1 t2 g1 g2 : Int) (w : World) (v : Value) : Nat → Prop
  | 0 => v = parV p
  | 1 => v = spanV a b
  | 2 => v = .int .i64 m
  | 3 => v = spanV h1 h2
  | 4 => v = parV p
  | 5 => v = spanV a b
  | 6 => v = .int .i64 m
  | 7 => v = spanV h1 h2
  | 8 => v = .bool true
  | 9 => v = .bool true
  | 10 => v = parV p
  | 11 => v = spanV a b
  | 12 => v = .int .i64 m
  | 13 => v = spanV y1 y2
  | 14 => v = parV p
  | 15 => v = spanV a b
  | 16 => v = .int .i64 m
  | 17 => v = spanV y1 y2
  | 18 => v = .bool true
  | 19 => v = .bool true
  | 20 => v = .bool true
  | 21 => v = parV p
  | 22 => v = spanV t1 t2
  | 23 => v = parV p
  | 24 => v = spanV t1 t2
  | 25 => v = .bool true
  | 26 => v = .bool true
  | 27 => v = .bool true
  | 28 => v = parV p
  | 29 => v = spanV g1 g2
  | 30 => v = parV p
  | 31 => v = spanV g1 g2
  | 32 => v = .bool true
  | 33 => v = .bool true
  | 34 => v = .bool true
  | _ => v = .bool true
/-- It stays so. -/
def VCM (B S : Nat) (p : Par) (a b m h1 h2 y1 y2 t1 t2 g1 g2 : Int) (i : Nat) (v : Value) (w : World) : Prop := ∀ w', Ok w w' → VMM B S p a b m h1 h2 y1 y2 t1 t2 g1 g2 w' v i
set_option maxHeartbeats 3200000 in
theorem walk (w : World) (p : Par) (wp : ParWf p) (a b : Int) (wa : (Lit.int .i64 a).wf = true) (wb : (Lit.int .i64 b).wf = true) (m : Int) (wm : (Lit.int .i64 m).wf = true) :
    Calls Try.prog 3 #[parV p, .agg #[.int .i64 a, .int .i64 b], .int .i64 m] w fun e w' => e = .returned (.bool true) ∧ Below w.heap.size w w' := by
  clear wp wa wb wm
  have K1 := Lib.hid fun w => carryHold p a b m w
  have R1 := Lib.hid fun w => ref11Hold p a b m w
  have K2 := Lib.hid fun w => carryWay p a b m w
  have R2 := Lib.hid fun w => ref11Way p a b m w
  have K3 := Lib.hid fun w => carryTicks p w
  have R3 := Lib.hid fun w => ref11Ticks p w
  have K4 := Lib.hid fun w => carryAges p w
  have R4 := Lib.hid fun w => ref11Ages p w
  obtain ⟨h1, h2, hh⟩ : ∃ x y, Carry.hold p (a, b) m = (x, y) := ⟨_, _, rfl⟩
  obtain ⟨y1, y2, hy⟩ : ∃ x y, Carry.way p (a, b) m = (x, y) := ⟨_, _, rfl⟩
  obtain ⟨t1, t2, ht⟩ : ∃ x y, Carry.ticks p = (x, y) := ⟨_, _, rfl⟩
  obtain ⟨g1, g2, hg⟩ : ∃ x y, Carry.ages p = (x, y) := ⟨_, _, rfl⟩
  rw [hh] at K1 R1
  rw [hy] at K2 R2
  rw [ht] at K3 R3
  rw [hg] at K4 R4
  simp only at K1 R1 K2 R2 K3 R3 K4 R4
  clear hh hy ht hg
  have hP := (Own.new w (parCells p) 23 rfl).alloc (.cells #[.int .i64 a, .int .i64 b] 25)
  have hS := Slab.new (w.alloc (.cells (parCells p) 23)) a b 25 (g := w.heap.size + 1) (by simp)
  have hok := ((Ok.refl w).alloc (.cells (parCells p) 23)).alloc (.cells #[.int .i64 a, .int .i64 b] 25)
  have HP := Lib.hid hP
  have HS := Lib.hid hS
  have HK := Lib.hid hok
  clear hP hS hok
  go_enter Try.func3, Try.ntmps3
  go_upto_region 3 with (go_at_call 9; (with_reducible refine (law11Alive _).mono ?_); rintro e W ⟨rfl, hb1⟩; have hP := HP.out.next hb1; have hS := HS.out.next hb1; have hok := HK.out.trans hb1; clear hb1 HP HS HK)
  obtain ⟨S, hSe⟩ : ∃ b, w.heap.size + 1 = b := ⟨_, rfl⟩
  obtain ⟨B, hBe⟩ : ∃ b, w.heap.size = b := ⟨_, rfl⟩
  rw [hSe] at hS ⊢
  rw [hBe] at hP ⊢
  clear hSe hBe
  have HP := Lib.hid fun W' (k : Ok W.drew W') => hP.drew.next k
  have HS := Lib.hid fun W' (k : Ok W.drew W') => hS.drew.next k
  have HOK := Lib.hid hok
  clear hP hS hok
  refine wp_region_facts (by kernel_rfl) 43 rfl (VCM B S p a b m h1 h2 y1 y2 t1 t2 g1 g2) Ok (by kernel_rfl) (fun i v w w' h k w'' k' => h w'' (k.trans k')) (fun a b c => Ok.trans) (Ok.refl _) [some 9, some 10, some 11, some 12, some 13, some 14, some 15, some 16, some 17, some 18, some 19, some 20, some 21, some 22, some 23, some 24, some 25, some 26, some 27, some 28, some 29, some 30, some 31, some 32, some 33, some 34, some 35, some 36, some 37, some 38, some 39, some 40, some 41, some 42, some 6] rfl 35 rfl ⟨?_, ?_, ?_, ?_, ?_, ?_, ?_, ?_, ?_, ?_, ?_, ?_, ?_, ?_, ?_, ?_, ?_, ?_, ?_, ?_, ?_, ?_, ?_, ?_, ?_, ?_, ?_, ?_, ?_, ?_, ?_, ?_, ?_, ?_, ?_, trivial⟩ ?_
  · intro a' w' hF hR
    have e3 : a'.tmps[3]? = some (.pointer (some ⟨B, 0, none⟩)) := hF.slot 3 (by kernel_rfl) rfl
    obtain ⟨c0, c1, c2, c3, c4, c5, c6, c7, c8, c9, c10, c11⟩ := (HP.out _ hR).pars
    refine wpOp_run (v := parV p) rfl rfl ?_ (fun _ _ => rfl) (Ok.refl _)
    clear hF
    go_simp
  · intro a' w' hF hR
    have e4 : a'.tmps[4]? = some (.pointer (some ⟨S, 0, none⟩)) := hF.slot 4 (by kernel_rfl) rfl
    have d0 := (HS.out _ hR).c0
    have d1 := (HS.out _ hR).c1
    refine wpOp_run (v := spanV a b) rfl rfl ?_ (fun _ _ => rfl) (Ok.refl _)
    clear hF
    go_simp
  · intro a' w' hF hR
    have e2 : a'.tmps[2]? = some (.int .i64 m) := hF.slot 2 (by kernel_rfl) rfl
    refine wpOp_run (v := .int .i64 m) rfl rfl ?_ (fun _ _ => rfl) (Ok.refl _)
    clear hF
    go_simp
  · intro a' w' hF hR
    obtain ⟨v0, hv0, e9⟩ := hF.get 0 9 (by kernel_rfl) (by kernel_rfl)
    obtain rfl : v0 = _ := hv0 _ (Ok.refl _)
    obtain ⟨v1, hv1, e10⟩ := hF.get 1 10 (by kernel_rfl) (by kernel_rfl)
    obtain rfl : v1 = _ := hv1 _ (Ok.refl _)
    obtain ⟨v2, hv2, e11⟩ := hF.get 2 11 (by kernel_rfl) (by kernel_rfl)
    obtain rfl : v2 = _ := hv2 _ (Ok.refl _)
    clear hF
    refine wpOp_call (f := 10) (args := #[parV p, spanV a b, .int .i64 m]) rfl rfl ?_ ((K1.out _).mono ?_)
    · go_simp
    · rintro e w2 ⟨rfl, hb2⟩; exact ⟨_, rfl, fun _ _ => rfl, hb2⟩
  · intro a' w' hF hR
    have e3 : a'.tmps[3]? = some (.pointer (some ⟨B, 0, none⟩)) := hF.slot 3 (by kernel_rfl) rfl
    obtain ⟨c0, c1, c2, c3, c4, c5, c6, c7, c8, c9, c10, c11⟩ := (HP.out _ hR).pars
    refine wpOp_run (v := parV p) rfl rfl ?_ (fun _ _ => rfl) (Ok.refl _)
    clear hF
    go_simp
  · intro a' w' hF hR
    have e4 : a'.tmps[4]? = some (.pointer (some ⟨S, 0, none⟩)) := hF.slot 4 (by kernel_rfl) rfl
    have d0 := (HS.out _ hR).c0
    have d1 := (HS.out _ hR).c1
    refine wpOp_run (v := spanV a b) rfl rfl ?_ (fun _ _ => rfl) (Ok.refl _)
    clear hF
    go_simp
  · intro a' w' hF hR
    have e2 : a'.tmps[2]? = some (.int .i64 m) := hF.slot 2 (by kernel_rfl) rfl
    refine wpOp_run (v := .int .i64 m) rfl rfl ?_ (fun _ _ => rfl) (Ok.refl _)
    clear hF
    go_simp
  · intro a' w' hF hR
    obtain ⟨v4, hv4, e13⟩ := hF.get 4 13 (by kernel_rfl) (by kernel_rfl)
    obtain rfl : v4 = _ := hv4 _ (Ok.refl _)
    obtain ⟨v5, hv5, e14⟩ := hF.get 5 14 (by kernel_rfl) (by kernel_rfl)
    obtain rfl : v5 = _ := hv5 _ (Ok.refl _)
    obtain ⟨v6, hv6, e15⟩ := hF.get 6 15 (by kernel_rfl) (by kernel_rfl)
    obtain rfl : v6 = _ := hv6 _ (Ok.refl _)
    clear hF
    refine wpOp_call (f := 11) (args := #[parV p, spanV a b, .int .i64 m]) rfl rfl ?_ ((R1.out _).mono ?_)
    · go_simp
    · rintro e w2 ⟨rfl, hb2⟩; exact ⟨_, rfl, fun _ _ => rfl, hb2⟩
  · intro a' w' hF hR
    obtain ⟨v3, hv3, e12⟩ := hF.get 3 12 (by kernel_rfl) (by kernel_rfl)
    obtain rfl : v3 = _ := hv3 _ (Ok.refl _)
    obtain ⟨v7, hv7, e16⟩ := hF.get 7 16 (by kernel_rfl) (by kernel_rfl)
    obtain rfl : v7 = _ := hv7 _ (Ok.refl _)
    refine wpOp_run (v := .bool true) rfl rfl ?_ (fun _ _ => rfl) (Ok.refl _)
    clear hF
    go_simp
  · intro a' w' hF hR
    obtain ⟨v8, hv8, e17⟩ := hF.get 8 17 (by kernel_rfl) (by kernel_rfl)
    obtain rfl : v8 = _ := hv8 _ (Ok.refl _)
    refine wpOp_run (v := .bool true) rfl rfl ?_ (fun _ _ => rfl) (Ok.refl _)
    clear hF
    go_simp
  · intro a' w' hF hR
    have e3 : a'.tmps[3]? = some (.pointer (some ⟨B, 0, none⟩)) := hF.slot 3 (by kernel_rfl) rfl
    obtain ⟨vg, hvg, eg⟩ := hF.get 9 18 (by kernel_rfl) (by kernel_rfl)
    obtain rfl : vg = _ := hvg _ (Ok.refl _)
    obtain ⟨c0, c1, c2, c3, c4, c5, c6, c7, c8, c9, c10, c11⟩ := (HP.out _ hR).pars
    refine wpOp_runG (v := parV p) rfl (wanted_yes rfl (by kernel_rfl) eg) ?_ (fun _ _ => rfl) (Ok.refl _)
    clear hF
    go_simp
  · intro a' w' hF hR
    have e4 : a'.tmps[4]? = some (.pointer (some ⟨S, 0, none⟩)) := hF.slot 4 (by kernel_rfl) rfl
    obtain ⟨vg, hvg, eg⟩ := hF.get 9 18 (by kernel_rfl) (by kernel_rfl)
    obtain rfl : vg = _ := hvg _ (Ok.refl _)
    have d0 := (HS.out _ hR).c0
    have d1 := (HS.out _ hR).c1
    refine wpOp_runG (v := spanV a b) rfl (wanted_yes rfl (by kernel_rfl) eg) ?_ (fun _ _ => rfl) (Ok.refl _)
    clear hF
    go_simp
  · intro a' w' hF hR
    have e2 : a'.tmps[2]? = some (.int .i64 m) := hF.slot 2 (by kernel_rfl) rfl
    obtain ⟨vg, hvg, eg⟩ := hF.get 9 18 (by kernel_rfl) (by kernel_rfl)
    obtain rfl : vg = _ := hvg _ (Ok.refl _)
    refine wpOp_runG (v := .int .i64 m) rfl (wanted_yes rfl (by kernel_rfl) eg) ?_ (fun _ _ => rfl) (Ok.refl _)
    clear hF
    go_simp
  · intro a' w' hF hR
    obtain ⟨v10, hv10, e19⟩ := hF.get 10 19 (by kernel_rfl) (by kernel_rfl)
    obtain rfl : v10 = _ := hv10 _ (Ok.refl _)
    obtain ⟨v11, hv11, e20⟩ := hF.get 11 20 (by kernel_rfl) (by kernel_rfl)
    obtain rfl : v11 = _ := hv11 _ (Ok.refl _)
    obtain ⟨v12, hv12, e21⟩ := hF.get 12 21 (by kernel_rfl) (by kernel_rfl)
    obtain rfl : v12 = _ := hv12 _ (Ok.refl _)
    obtain ⟨vg, hvg, eg⟩ := hF.get 9 18 (by kernel_rfl) (by kernel_rfl)
    obtain rfl : vg = _ := hvg _ (Ok.refl _)
    refine wpOp_callG (f := 12) (args := #[parV p, spanV a b, .int .i64 m]) rfl (wanted_yes rfl (by kernel_rfl) eg) ?_ ((K2.out _).mono ?_)
    · go_simp
    · rintro e w2 ⟨rfl, hb2⟩; exact ⟨_, rfl, fun _ _ => rfl, hb2⟩
  · intro a' w' hF hR
    have e3 : a'.tmps[3]? = some (.pointer (some ⟨B, 0, none⟩)) := hF.slot 3 (by kernel_rfl) rfl
    obtain ⟨vg, hvg, eg⟩ := hF.get 9 18 (by kernel_rfl) (by kernel_rfl)
    obtain rfl : vg = _ := hvg _ (Ok.refl _)
    obtain ⟨c0, c1, c2, c3, c4, c5, c6, c7, c8, c9, c10, c11⟩ := (HP.out _ hR).pars
    refine wpOp_runG (v := parV p) rfl (wanted_yes rfl (by kernel_rfl) eg) ?_ (fun _ _ => rfl) (Ok.refl _)
    clear hF
    go_simp
  · intro a' w' hF hR
    have e4 : a'.tmps[4]? = some (.pointer (some ⟨S, 0, none⟩)) := hF.slot 4 (by kernel_rfl) rfl
    obtain ⟨vg, hvg, eg⟩ := hF.get 9 18 (by kernel_rfl) (by kernel_rfl)
    obtain rfl : vg = _ := hvg _ (Ok.refl _)
    have d0 := (HS.out _ hR).c0
    have d1 := (HS.out _ hR).c1
    refine wpOp_runG (v := spanV a b) rfl (wanted_yes rfl (by kernel_rfl) eg) ?_ (fun _ _ => rfl) (Ok.refl _)
    clear hF
    go_simp
  · intro a' w' hF hR
    have e2 : a'.tmps[2]? = some (.int .i64 m) := hF.slot 2 (by kernel_rfl) rfl
    obtain ⟨vg, hvg, eg⟩ := hF.get 9 18 (by kernel_rfl) (by kernel_rfl)
    obtain rfl : vg = _ := hvg _ (Ok.refl _)
    refine wpOp_runG (v := .int .i64 m) rfl (wanted_yes rfl (by kernel_rfl) eg) ?_ (fun _ _ => rfl) (Ok.refl _)
    clear hF
    go_simp
  · intro a' w' hF hR
    obtain ⟨v14, hv14, e23⟩ := hF.get 14 23 (by kernel_rfl) (by kernel_rfl)
    obtain rfl : v14 = _ := hv14 _ (Ok.refl _)
    obtain ⟨v15, hv15, e24⟩ := hF.get 15 24 (by kernel_rfl) (by kernel_rfl)
    obtain rfl : v15 = _ := hv15 _ (Ok.refl _)
    obtain ⟨v16, hv16, e25⟩ := hF.get 16 25 (by kernel_rfl) (by kernel_rfl)
    obtain rfl : v16 = _ := hv16 _ (Ok.refl _)
    obtain ⟨vg, hvg, eg⟩ := hF.get 9 18 (by kernel_rfl) (by kernel_rfl)
    obtain rfl : vg = _ := hvg _ (Ok.refl _)
    refine wpOp_callG (f := 13) (args := #[parV p, spanV a b, .int .i64 m]) rfl (wanted_yes rfl (by kernel_rfl) eg) ?_ ((R2.out _).mono ?_)
    · go_simp
    · rintro e w2 ⟨rfl, hb2⟩; exact ⟨_, rfl, fun _ _ => rfl, hb2⟩
  · intro a' w' hF hR
    obtain ⟨v13, hv13, e22⟩ := hF.get 13 22 (by kernel_rfl) (by kernel_rfl)
    obtain rfl : v13 = _ := hv13 _ (Ok.refl _)
    obtain ⟨v17, hv17, e26⟩ := hF.get 17 26 (by kernel_rfl) (by kernel_rfl)
    obtain rfl : v17 = _ := hv17 _ (Ok.refl _)
    obtain ⟨vg, hvg, eg⟩ := hF.get 9 18 (by kernel_rfl) (by kernel_rfl)
    obtain rfl : vg = _ := hvg _ (Ok.refl _)
    refine wpOp_runG (v := .bool true) rfl (wanted_yes rfl (by kernel_rfl) eg) ?_ (fun _ _ => rfl) (Ok.refl _)
    clear hF
    go_simp
  · intro a' w' hF hR
    obtain ⟨v9, hv9, e18⟩ := hF.get 9 18 (by kernel_rfl) (by kernel_rfl)
    obtain rfl : v9 = _ := hv9 _ (Ok.refl _)
    obtain ⟨v18, hv18, e27⟩ := hF.get 18 27 (by kernel_rfl) (by kernel_rfl)
    obtain rfl : v18 = _ := hv18 _ (Ok.refl _)
    refine wpOp_run (v := .bool true) rfl rfl ?_ (fun _ _ => rfl) (Ok.refl _)
    clear hF
    go_simp
  · intro a' w' hF hR
    obtain ⟨v19, hv19, e28⟩ := hF.get 19 28 (by kernel_rfl) (by kernel_rfl)
    obtain rfl : v19 = _ := hv19 _ (Ok.refl _)
    refine wpOp_run (v := .bool true) rfl rfl ?_ (fun _ _ => rfl) (Ok.refl _)
    clear hF
    go_simp
  · intro a' w' hF hR
    have e3 : a'.tmps[3]? = some (.pointer (some ⟨B, 0, none⟩)) := hF.slot 3 (by kernel_rfl) rfl
    obtain ⟨vg, hvg, eg⟩ := hF.get 20 29 (by kernel_rfl) (by kernel_rfl)
    obtain rfl : vg = _ := hvg _ (Ok.refl _)
    obtain ⟨c0, c1, c2, c3, c4, c5, c6, c7, c8, c9, c10, c11⟩ := (HP.out _ hR).pars
    refine wpOp_runG (v := parV p) rfl (wanted_yes rfl (by kernel_rfl) eg) ?_ (fun _ _ => rfl) (Ok.refl _)
    clear hF
    go_simp
  · intro a' w' hF hR
    obtain ⟨v21, hv21, e30⟩ := hF.get 21 30 (by kernel_rfl) (by kernel_rfl)
    obtain rfl : v21 = _ := hv21 _ (Ok.refl _)
    obtain ⟨vg, hvg, eg⟩ := hF.get 20 29 (by kernel_rfl) (by kernel_rfl)
    obtain rfl : vg = _ := hvg _ (Ok.refl _)
    refine wpOp_callG (f := 14) (args := #[parV p]) rfl (wanted_yes rfl (by kernel_rfl) eg) ?_ ((K3.out _).mono ?_)
    · go_simp
    · rintro e w2 ⟨rfl, hb2⟩; exact ⟨_, rfl, fun _ _ => rfl, hb2⟩
  · intro a' w' hF hR
    have e3 : a'.tmps[3]? = some (.pointer (some ⟨B, 0, none⟩)) := hF.slot 3 (by kernel_rfl) rfl
    obtain ⟨vg, hvg, eg⟩ := hF.get 20 29 (by kernel_rfl) (by kernel_rfl)
    obtain rfl : vg = _ := hvg _ (Ok.refl _)
    obtain ⟨c0, c1, c2, c3, c4, c5, c6, c7, c8, c9, c10, c11⟩ := (HP.out _ hR).pars
    refine wpOp_runG (v := parV p) rfl (wanted_yes rfl (by kernel_rfl) eg) ?_ (fun _ _ => rfl) (Ok.refl _)
    clear hF
    go_simp
  · intro a' w' hF hR
    obtain ⟨v23, hv23, e32⟩ := hF.get 23 32 (by kernel_rfl) (by kernel_rfl)
    obtain rfl : v23 = _ := hv23 _ (Ok.refl _)
    obtain ⟨vg, hvg, eg⟩ := hF.get 20 29 (by kernel_rfl) (by kernel_rfl)
    obtain rfl : vg = _ := hvg _ (Ok.refl _)
    refine wpOp_callG (f := 15) (args := #[parV p]) rfl (wanted_yes rfl (by kernel_rfl) eg) ?_ ((R3.out _).mono ?_)
    · go_simp
    · rintro e w2 ⟨rfl, hb2⟩; exact ⟨_, rfl, fun _ _ => rfl, hb2⟩
  · intro a' w' hF hR
    obtain ⟨v22, hv22, e31⟩ := hF.get 22 31 (by kernel_rfl) (by kernel_rfl)
    obtain rfl : v22 = _ := hv22 _ (Ok.refl _)
    obtain ⟨v24, hv24, e33⟩ := hF.get 24 33 (by kernel_rfl) (by kernel_rfl)
    obtain rfl : v24 = _ := hv24 _ (Ok.refl _)
    obtain ⟨vg, hvg, eg⟩ := hF.get 20 29 (by kernel_rfl) (by kernel_rfl)
    obtain rfl : vg = _ := hvg _ (Ok.refl _)
    refine wpOp_runG (v := .bool true) rfl (wanted_yes rfl (by kernel_rfl) eg) ?_ (fun _ _ => rfl) (Ok.refl _)
    clear hF
    go_simp
  · intro a' w' hF hR
    obtain ⟨v20, hv20, e29⟩ := hF.get 20 29 (by kernel_rfl) (by kernel_rfl)
    obtain rfl : v20 = _ := hv20 _ (Ok.refl _)
    obtain ⟨v25, hv25, e34⟩ := hF.get 25 34 (by kernel_rfl) (by kernel_rfl)
    obtain rfl : v25 = _ := hv25 _ (Ok.refl _)
    refine wpOp_run (v := .bool true) rfl rfl ?_ (fun _ _ => rfl) (Ok.refl _)
    clear hF
    go_simp
  · intro a' w' hF hR
    obtain ⟨v26, hv26, e35⟩ := hF.get 26 35 (by kernel_rfl) (by kernel_rfl)
    obtain rfl : v26 = _ := hv26 _ (Ok.refl _)
    refine wpOp_run (v := .bool true) rfl rfl ?_ (fun _ _ => rfl) (Ok.refl _)
    clear hF
    go_simp
  · intro a' w' hF hR
    have e3 : a'.tmps[3]? = some (.pointer (some ⟨B, 0, none⟩)) := hF.slot 3 (by kernel_rfl) rfl
    obtain ⟨vg, hvg, eg⟩ := hF.get 27 36 (by kernel_rfl) (by kernel_rfl)
    obtain rfl : vg = _ := hvg _ (Ok.refl _)
    obtain ⟨c0, c1, c2, c3, c4, c5, c6, c7, c8, c9, c10, c11⟩ := (HP.out _ hR).pars
    refine wpOp_runG (v := parV p) rfl (wanted_yes rfl (by kernel_rfl) eg) ?_ (fun _ _ => rfl) (Ok.refl _)
    clear hF
    go_simp
  · intro a' w' hF hR
    obtain ⟨v28, hv28, e37⟩ := hF.get 28 37 (by kernel_rfl) (by kernel_rfl)
    obtain rfl : v28 = _ := hv28 _ (Ok.refl _)
    obtain ⟨vg, hvg, eg⟩ := hF.get 27 36 (by kernel_rfl) (by kernel_rfl)
    obtain rfl : vg = _ := hvg _ (Ok.refl _)
    refine wpOp_callG (f := 16) (args := #[parV p]) rfl (wanted_yes rfl (by kernel_rfl) eg) ?_ ((K4.out _).mono ?_)
    · go_simp
    · rintro e w2 ⟨rfl, hb2⟩; exact ⟨_, rfl, fun _ _ => rfl, hb2⟩
  · intro a' w' hF hR
    have e3 : a'.tmps[3]? = some (.pointer (some ⟨B, 0, none⟩)) := hF.slot 3 (by kernel_rfl) rfl
    obtain ⟨vg, hvg, eg⟩ := hF.get 27 36 (by kernel_rfl) (by kernel_rfl)
    obtain rfl : vg = _ := hvg _ (Ok.refl _)
    obtain ⟨c0, c1, c2, c3, c4, c5, c6, c7, c8, c9, c10, c11⟩ := (HP.out _ hR).pars
    refine wpOp_runG (v := parV p) rfl (wanted_yes rfl (by kernel_rfl) eg) ?_ (fun _ _ => rfl) (Ok.refl _)
    clear hF
    go_simp
  · intro a' w' hF hR
    obtain ⟨v30, hv30, e39⟩ := hF.get 30 39 (by kernel_rfl) (by kernel_rfl)
    obtain rfl : v30 = _ := hv30 _ (Ok.refl _)
    obtain ⟨vg, hvg, eg⟩ := hF.get 27 36 (by kernel_rfl) (by kernel_rfl)
    obtain rfl : vg = _ := hvg _ (Ok.refl _)
    refine wpOp_callG (f := 17) (args := #[parV p]) rfl (wanted_yes rfl (by kernel_rfl) eg) ?_ ((R4.out _).mono ?_)
    · go_simp
    · rintro e w2 ⟨rfl, hb2⟩; exact ⟨_, rfl, fun _ _ => rfl, hb2⟩
  · intro a' w' hF hR
    obtain ⟨v29, hv29, e38⟩ := hF.get 29 38 (by kernel_rfl) (by kernel_rfl)
    obtain rfl : v29 = _ := hv29 _ (Ok.refl _)
    obtain ⟨v31, hv31, e40⟩ := hF.get 31 40 (by kernel_rfl) (by kernel_rfl)
    obtain rfl : v31 = _ := hv31 _ (Ok.refl _)
    obtain ⟨vg, hvg, eg⟩ := hF.get 27 36 (by kernel_rfl) (by kernel_rfl)
    obtain rfl : vg = _ := hvg _ (Ok.refl _)
    refine wpOp_runG (v := .bool true) rfl (wanted_yes rfl (by kernel_rfl) eg) ?_ (fun _ _ => rfl) (Ok.refl _)
    clear hF
    go_simp
  · intro a' w' hF hR
    obtain ⟨v27, hv27, e36⟩ := hF.get 27 36 (by kernel_rfl) (by kernel_rfl)
    obtain rfl : v27 = _ := hv27 _ (Ok.refl _)
    obtain ⟨v32, hv32, e41⟩ := hF.get 32 41 (by kernel_rfl) (by kernel_rfl)
    obtain rfl : v32 = _ := hv32 _ (Ok.refl _)
    refine wpOp_run (v := .bool true) rfl rfl ?_ (fun _ _ => rfl) (Ok.refl _)
    clear hF
    go_simp
  · intro a' w' hF hR
    obtain ⟨v33, hv33, e42⟩ := hF.get 33 42 (by kernel_rfl) (by kernel_rfl)
    obtain rfl : v33 = _ := hv33 _ (Ok.refl _)
    refine wpOp_run (v := .bool true) rfl rfl ?_ (fun _ _ => rfl) (Ok.refl _)
    clear hF
    go_simp
  intro vs w' hV hR
  have e34 : vs 34 = .bool true := hV 34 (by decide) _ (Ok.refl _)
  have hok2 := HOK.out.trans ((Ok.refl W).drew.trans hR)
  clear hV HP HS K1 K2 K3 K4 R1 R2 R3 R4
  simp only [putFrom, e34]
  simp only [Act.put, List.setIfInBounds_toArray, List.set_cons_zero, List.set_cons_succ]
  go_wp2
  go_ret
  exact ⟨rfl, hok2⟩
theorem own : ownKnob Try.prog.godebug = none := by kernel_rfl
theorem laidOut : laidOutB Try.prog = true := by kernel_rfl
set_option maxRecDepth 100000 in
theorem lifted (os : Os) (started : os.Started) (H : Type) (enc : TypeId × Value → H) :
    ReturnsInHanded {} Try.checked os 3 .any (Rows.carryMovesSpec.pre6 enc Try.prog Try.f3 Rows.carryMovesRow.domain false) (Rows.carryMovesSpec.post enc Try.prog Try.f3 false true false false) := by
  refine returnsInHanded_of_change (C := Try.checked) own started (by kernel_rfl) Try.func3
    (ChangeSpec.witness6 (enc := enc) (C := Try.checked) false ⟨#[], #[.agg #[.int .i64 0, .int .i64 0, .int .i64 0, .int .i64 0, .int .i64 0, .int .i64 0, .int .i64 0, .int .i64 0, .int .i64 0, .int .i64 0, .int .i64 0, .int .i64 0], .agg #[.int .i64 0, .int .i64 0], .int .i64 0], []⟩ 8 (by kernel_rfl) (by kernel_rfl) (by kernel_rfl) (by kernel_rfl)) ?_
  intro W base args ds gs before hval0 hW _ _
  have hval : ∀ (j : Nat) t v, Try.f3.params[j]? = some t → args[j]? = some v → Value.okWide Try.prog W .any base t v := hval0
  have hW' := hW
  obtain ⟨p, q, hA, hV, rfl, _, _⟩ := hW
  obtain ⟨rfl, rfl⟩ := trodVars_none hV
  replace hA : DataW.TrodAll enc Try.prog W 0 (fun _ => true) true Try.f3.params.toList args.toList ds p := hA
  rw [Try.params3] at hA hval
  obtain ⟨v0, vs0, d0, ds0, p0, q0, hargs, rfl, rfl, h0, r0⟩ := trodAll_cons hA
  obtain ⟨v1, vs1, d1, ds1, p1, q1, rfl, rfl, rfl, h1, r1⟩ := trodAll_cons r0
  obtain ⟨v2, vs2, d2, ds2, p2, q2, rfl, rfl, rfl, h2, r2⟩ := trodAll_cons r1
  obtain ⟨rfl, rfl, rfl⟩ := trodAll_nil r2
  obtain rfl : args = #[v0, v1, v2] := by cases args; simp_all
  obtain ⟨p0, rfl, wp0⟩ := open_par Try.underlying23 rfl (by kernel_rfl) (by kernel_rfl) (by kernel_rfl) (hval 0 23 v0 rfl rfl) h0
  obtain ⟨s1_0, s1_1, rfl, ws1_0, ws1_1⟩ := open_pair Try.underlying25 (by kernel_rfl) (by kernel_rfl) (by kernel_rfl) (by kernel_rfl) (hval 1 25 v1 rfl rfl) h1
  obtain ⟨a2, rfl, rfl, rfl, w2⟩ := open_int Try.underlying3 (hval 2 3 v2 rfl rfl) h2
  refine (walk W p0 wp0 s1_0 s1_1 ws1_0 ws1_1 a2 w2).mono fun e W' ⟨he, hb⟩ => ?_
  subst he
  exact ⟨_, rfl, law_post hW' laidOut (by rw [Try.params3]; exact params_ok (by kernel_rfl)) rfl (by kernel_rfl) Try.underlying4 rfl rfl rfl hb⟩
theorem over : Rows.carryMovesRow.holds Try.pinned (OpenSpec.ofChange Rows.carryMovesSpec) :=
  OpenClaim.holds_of_wide 3 Try.f3 rfl rfl rfl rfl rfl rfl rfl ⟨rfl, rfl, rfl, rfl, rfl⟩ rfl rfl rfl rfl rfl (by kernel_rfl) Try.func3 (by kernel_rfl)
    (of_decide_eq_true (by kernel_rfl)) (by unfold Func.isWrapper; first | (rw [if_pos (by decide +kernel)]; kernel_rfl) | (rw [if_neg (by decide +kernel)]; exact ⟨rfl, rfl⟩))
    (fun os started H enc _ => lifted os started H enc)
theorem proved : Rows.CarryMovesSaid := over
end Go.Proofs.Yteoilfeldehldaa.carryMoves
