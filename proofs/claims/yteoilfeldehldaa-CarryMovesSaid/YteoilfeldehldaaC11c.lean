/- Layer 11: what every law asks first. -/
import Derived.Test.YteoilfeldehldaaC11a
namespace Go.Proofs.Yteoilfeldehldaa
open Go.RowKit
set_option linter.unusedVariables false
set_option maxRecDepth 100000
attribute [local go_sem ↓] Go.wp_at_zero Go.wp_at_succ
/-- The document's example. -/
def par11 : Par := ⟨0, 0, 0, 1000, 1, 100, 10, 0, 0, 0, 0, 0⟩
theorem law11Some (w : World) : Calls Try.prog 20 #[] w fun e w' => e = .returned (parV par11) ∧ Ok w w' := by
  have hok := Ok.refl w
  have hz : ∀ w, Sem.run Try.prog (zeroValue 23) w = .ok (.agg #[.int .i64 0, .int .i64 0, .int .i64 0, .int .i64 0, .int .i64 0, .int .i64 0, .int .i64 0, .int .i64 0, .int .i64 0, .int .i64 0, .int .i64 0, .int .i64 0]) w := fun w => by kernel_rfl
  go_enter Try.func20, Try.ntmps20
  go_wp2
  exact bodyPost_ret (v := parV par11) (by simp [results, Try.results20, go_sem, par11]) rfl ⟨rfl, hok.alloc _⟩
/-- What each operation leaves. -/
def VMA (g : Nat) (w : World) (v : Value) : Nat → Prop
  | 0 => v = parV par11
  | 1 => v = spanV 0 5
  | 2 => v = spanV 999 1006
  | 3 => v = spanV 999 1006
  | 4 => v = .bool true
  | 5 => v = .bool true
  | 6 => v = parV par11
  | 7 => v = spanV 0 5
  | 8 => v = spanV 994 1011
  | 9 => v = spanV 994 1011
  | 10 => v = .bool true
  | 11 => v = .bool true
  | 12 => v = .bool true
  | 13 => v = parV par11
  | 14 => v = spanV 899 911
  | 15 => v = spanV 899 911
  | 16 => v = .bool true
  | 17 => v = .bool true
  | 18 => v = .bool true
  | _ => v = .bool true
/-- It stays so. -/
def VCA (g : Nat) (i : Nat) (v : Value) (w : World) : Prop := ∀ w', Ok w w' → VMA g w' v i
set_option maxHeartbeats 1600000 in
theorem law11Alive (w : World) : Calls Try.prog 9 #[] w fun e w' => e = .returned (.bool true) ∧ Ok w w' := by
  have KH := Lib.hid fun w => carryHold par11 0 5 1000 w
  have KW := Lib.hid fun w => carryWay par11 0 5 905 w
  have KA := Lib.hid fun w => carryAges par11 w
  rw [show Carry.hold par11 (0, 5) 1000 = (999, 1006) by decide +kernel] at KH
  rw [show Carry.way par11 (0, 5) 905 = (994, 1011) by decide +kernel] at KW
  rw [show Carry.ages par11 = (899, 911) by decide +kernel] at KA
  simp only at KH KW KA
  have hS := Slab.new w 0 5 25 (g := w.heap.size) rfl
  have hok := (Ok.refl w).alloc (.cells #[.int .i64 0, .int .i64 5] 25)
  go_enter Try.func9, Try.ntmps9
  go_upto_region 2 with fail
  generalize w.alloc (.cells #[.int .i64 0, .int .i64 5] 25) = W at hS hok ⊢
  generalize w.heap.size = g at hS ⊢
  have HS := Lib.hid fun W' (k : Ok W.drew W') => hS.drew.next k
  clear hS
  refine wp_region_facts (by kernel_rfl) 21 rfl (VCA g) Ok (by kernel_rfl) (fun i v w w' h k w'' k' => h w'' (k.trans k')) (fun a b c => Ok.trans) (Ok.refl _) [some 3, some 4, some 5, some 6, some 7, some 8, some 9, some 10, some 11, some 12, some 13, some 14, some 15, some 16, some 17, some 18, some 19, some 20, some 0] rfl 19 rfl ⟨?_, ?_, ?_, ?_, ?_, ?_, ?_, ?_, ?_, ?_, ?_, ?_, ?_, ?_, ?_, ?_, ?_, ?_, ?_, trivial⟩ ?_
  · intro a' w' hF hR
    clear hF
    refine wpOp_call (f := 20) (args := #[]) rfl rfl ?_ ((law11Some _).mono ?_)
    · go_simp
    · rintro e w2 ⟨rfl, hb2⟩; exact ⟨_, rfl, fun _ _ => rfl, hb2⟩
  · intro a' w' hF hR
    have e1 : a'.tmps[1]? = some (.pointer (some ⟨g, 0, none⟩)) := hF.slot 1 (by kernel_rfl) rfl
    have c0 := (HS.out _ hR).c0
    have c1 := (HS.out _ hR).c1
    refine wpOp_run (v := spanV 0 5) rfl rfl ?_ (fun _ _ => rfl) (Ok.refl _)
    clear hF
    go_simp
  · intro a' w' hF hR
    obtain ⟨v0, hv0, e3⟩ := hF.get 0 3 (by kernel_rfl) (by kernel_rfl)
    obtain rfl : v0 = _ := hv0 _ (Ok.refl _)
    obtain ⟨v1, hv1, e4⟩ := hF.get 1 4 (by kernel_rfl) (by kernel_rfl)
    obtain rfl : v1 = _ := hv1 _ (Ok.refl _)
    clear hF
    refine wpOp_call (f := 10) (args := #[parV par11, spanV 0 5, .int .i64 1000]) rfl rfl ?_ ((KH.out _).mono ?_)
    · go_simp
    · rintro e w2 ⟨rfl, hb2⟩; exact ⟨_, rfl, fun _ _ => rfl, hb2⟩
  · intro a' w' hF hR
    have hzero : Sem.run Try.prog (zeroValue 25) w' = .ok (spanV 0 0) w' := by kernel_rfl
    refine wpOp_run (v := spanV 999 1006) rfl rfl ?_ (fun _ _ => rfl) (Ok.refl _)
    clear hF
    go_simp
  · intro a' w' hF hR
    obtain ⟨v2, hv2, e5⟩ := hF.get 2 5 (by kernel_rfl) (by kernel_rfl)
    obtain rfl : v2 = _ := hv2 _ (Ok.refl _)
    obtain ⟨v3, hv3, e6⟩ := hF.get 3 6 (by kernel_rfl) (by kernel_rfl)
    obtain rfl : v3 = _ := hv3 _ (Ok.refl _)
    refine wpOp_run (v := .bool true) rfl rfl ?_ (fun _ _ => rfl) (Ok.refl _)
    clear hF
    go_simp
  · intro a' w' hF hR
    obtain ⟨v4, hv4, e7⟩ := hF.get 4 7 (by kernel_rfl) (by kernel_rfl)
    obtain rfl : v4 = _ := hv4 _ (Ok.refl _)
    refine wpOp_run (v := .bool true) rfl rfl ?_ (fun _ _ => rfl) (Ok.refl _)
    clear hF
    go_simp
  · intro a' w' hF hR
    obtain ⟨vg, hvg, eg⟩ := hF.get 5 8 (by kernel_rfl) (by kernel_rfl)
    obtain rfl : vg = _ := hvg _ (Ok.refl _)
    refine wpOp_callG (f := 20) (args := #[]) rfl (wanted_yes rfl (by kernel_rfl) eg) ?_ ((law11Some _).mono ?_)
    · go_simp
    · rintro e w2 ⟨rfl, hb2⟩; exact ⟨_, rfl, fun _ _ => rfl, hb2⟩
  · intro a' w' hF hR
    have e1 : a'.tmps[1]? = some (.pointer (some ⟨g, 0, none⟩)) := hF.slot 1 (by kernel_rfl) rfl
    obtain ⟨vg, hvg, eg⟩ := hF.get 5 8 (by kernel_rfl) (by kernel_rfl)
    obtain rfl : vg = _ := hvg _ (Ok.refl _)
    have c0 := (HS.out _ hR).c0
    have c1 := (HS.out _ hR).c1
    refine wpOp_runG (v := spanV 0 5) rfl (wanted_yes rfl (by kernel_rfl) eg) ?_ (fun _ _ => rfl) (Ok.refl _)
    clear hF
    go_simp
  · intro a' w' hF hR
    obtain ⟨v6, hv6, e9⟩ := hF.get 6 9 (by kernel_rfl) (by kernel_rfl)
    obtain rfl : v6 = _ := hv6 _ (Ok.refl _)
    obtain ⟨v7, hv7, e10⟩ := hF.get 7 10 (by kernel_rfl) (by kernel_rfl)
    obtain rfl : v7 = _ := hv7 _ (Ok.refl _)
    obtain ⟨vg, hvg, eg⟩ := hF.get 5 8 (by kernel_rfl) (by kernel_rfl)
    obtain rfl : vg = _ := hvg _ (Ok.refl _)
    refine wpOp_callG (f := 12) (args := #[parV par11, spanV 0 5, .int .i64 905]) rfl (wanted_yes rfl (by kernel_rfl) eg) ?_ ((KW.out _).mono ?_)
    · go_simp
    · rintro e w2 ⟨rfl, hb2⟩; exact ⟨_, rfl, fun _ _ => rfl, hb2⟩
  · intro a' w' hF hR
    obtain ⟨vg, hvg, eg⟩ := hF.get 5 8 (by kernel_rfl) (by kernel_rfl)
    obtain rfl : vg = _ := hvg _ (Ok.refl _)
    have hzero : Sem.run Try.prog (zeroValue 25) w' = .ok (spanV 0 0) w' := by kernel_rfl
    refine wpOp_runG (v := spanV 994 1011) rfl (wanted_yes rfl (by kernel_rfl) eg) ?_ (fun _ _ => rfl) (Ok.refl _)
    clear hF
    go_simp
  · intro a' w' hF hR
    obtain ⟨v8, hv8, e11⟩ := hF.get 8 11 (by kernel_rfl) (by kernel_rfl)
    obtain rfl : v8 = _ := hv8 _ (Ok.refl _)
    obtain ⟨v9, hv9, e12⟩ := hF.get 9 12 (by kernel_rfl) (by kernel_rfl)
    obtain rfl : v9 = _ := hv9 _ (Ok.refl _)
    obtain ⟨vg, hvg, eg⟩ := hF.get 5 8 (by kernel_rfl) (by kernel_rfl)
    obtain rfl : vg = _ := hvg _ (Ok.refl _)
    refine wpOp_runG (v := .bool true) rfl (wanted_yes rfl (by kernel_rfl) eg) ?_ (fun _ _ => rfl) (Ok.refl _)
    clear hF
    go_simp
  · intro a' w' hF hR
    obtain ⟨v5, hv5, e8⟩ := hF.get 5 8 (by kernel_rfl) (by kernel_rfl)
    obtain rfl : v5 = _ := hv5 _ (Ok.refl _)
    obtain ⟨v10, hv10, e13⟩ := hF.get 10 13 (by kernel_rfl) (by kernel_rfl)
    obtain rfl : v10 = _ := hv10 _ (Ok.refl _)
    refine wpOp_run (v := .bool true) rfl rfl ?_ (fun _ _ => rfl) (Ok.refl _)
    clear hF
    go_simp
  · intro a' w' hF hR
    obtain ⟨v11, hv11, e14⟩ := hF.get 11 14 (by kernel_rfl) (by kernel_rfl)
    obtain rfl : v11 = _ := hv11 _ (Ok.refl _)
    refine wpOp_run (v := .bool true) rfl rfl ?_ (fun _ _ => rfl) (Ok.refl _)
    clear hF
    go_simp
  · intro a' w' hF hR
    obtain ⟨vg, hvg, eg⟩ := hF.get 12 15 (by kernel_rfl) (by kernel_rfl)
    obtain rfl : vg = _ := hvg _ (Ok.refl _)
    refine wpOp_callG (f := 20) (args := #[]) rfl (wanted_yes rfl (by kernel_rfl) eg) ?_ ((law11Some _).mono ?_)
    · go_simp
    · rintro e w2 ⟨rfl, hb2⟩; exact ⟨_, rfl, fun _ _ => rfl, hb2⟩
  · intro a' w' hF hR
    obtain ⟨v13, hv13, e16⟩ := hF.get 13 16 (by kernel_rfl) (by kernel_rfl)
    obtain rfl : v13 = _ := hv13 _ (Ok.refl _)
    obtain ⟨vg, hvg, eg⟩ := hF.get 12 15 (by kernel_rfl) (by kernel_rfl)
    obtain rfl : vg = _ := hvg _ (Ok.refl _)
    refine wpOp_callG (f := 16) (args := #[parV par11]) rfl (wanted_yes rfl (by kernel_rfl) eg) ?_ ((KA.out _).mono ?_)
    · go_simp
    · rintro e w2 ⟨rfl, hb2⟩; exact ⟨_, rfl, fun _ _ => rfl, hb2⟩
  · intro a' w' hF hR
    obtain ⟨vg, hvg, eg⟩ := hF.get 12 15 (by kernel_rfl) (by kernel_rfl)
    obtain rfl : vg = _ := hvg _ (Ok.refl _)
    have hzero : Sem.run Try.prog (zeroValue 25) w' = .ok (spanV 0 0) w' := by kernel_rfl
    refine wpOp_runG (v := spanV 899 911) rfl (wanted_yes rfl (by kernel_rfl) eg) ?_ (fun _ _ => rfl) (Ok.refl _)
    clear hF
    go_simp
  · intro a' w' hF hR
    obtain ⟨v14, hv14, e17⟩ := hF.get 14 17 (by kernel_rfl) (by kernel_rfl)
    obtain rfl : v14 = _ := hv14 _ (Ok.refl _)
    obtain ⟨v15, hv15, e18⟩ := hF.get 15 18 (by kernel_rfl) (by kernel_rfl)
    obtain rfl : v15 = _ := hv15 _ (Ok.refl _)
    obtain ⟨vg, hvg, eg⟩ := hF.get 12 15 (by kernel_rfl) (by kernel_rfl)
    obtain rfl : vg = _ := hvg _ (Ok.refl _)
    refine wpOp_runG (v := .bool true) rfl (wanted_yes rfl (by kernel_rfl) eg) ?_ (fun _ _ => rfl) (Ok.refl _)
    clear hF
    go_simp
  · intro a' w' hF hR
    obtain ⟨v12, hv12, e15⟩ := hF.get 12 15 (by kernel_rfl) (by kernel_rfl)
    obtain rfl : v12 = _ := hv12 _ (Ok.refl _)
    obtain ⟨v16, hv16, e19⟩ := hF.get 16 19 (by kernel_rfl) (by kernel_rfl)
    obtain rfl : v16 = _ := hv16 _ (Ok.refl _)
    refine wpOp_run (v := .bool true) rfl rfl ?_ (fun _ _ => rfl) (Ok.refl _)
    clear hF
    go_simp
  · intro a' w' hF hR
    obtain ⟨v17, hv17, e20⟩ := hF.get 17 20 (by kernel_rfl) (by kernel_rfl)
    obtain rfl : v17 = _ := hv17 _ (Ok.refl _)
    refine wpOp_run (v := .bool true) rfl rfl ?_ (fun _ _ => rfl) (Ok.refl _)
    clear hF
    go_simp
  intro vs w' hV hR
  have e18 : vs 18 = .bool true := hV 18 (by decide) _ (Ok.refl _)
  have hok2 := hok.trans ((Ok.refl W).drew.trans hR)
  clear hV HS KH KW KA
  simp only [putFrom, e18]
  simp only [Act.put, List.setIfInBounds_toArray, List.set_cons_zero, List.set_cons_succ]
  go_wp2
  go_ret
  exact ⟨rfl, hok2⟩
end Go.Proofs.Yteoilfeldehldaa
