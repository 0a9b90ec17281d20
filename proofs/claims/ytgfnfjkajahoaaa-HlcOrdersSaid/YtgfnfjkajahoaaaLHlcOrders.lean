/- HlcOrders: for every two stamps the law answers true: Less, Right and Next answer what the document says, and the next one is later. No condition. -/
import Derived.Test.YtgfnfjkajahoaaaC20d
import Derived.Test.YtgfnfjkajahoaaaW18
import Derived.Test.YtgfnfjkajahoaaaW28
namespace Go.Proofs.Ytgfnfjkajahoaaa.hlcOrders
open Go.ChangeShapes Go.WideShapes Go.ChangeAt Go.RowKit
set_option linter.unusedVariables false
set_option maxRecDepth 100000
attribute [local go_sem ↓] Go.wp_at_zero Go.wp_at_succ
/-- What each operation leaves. -/
def VMQ (g h : Nat) (a1 a2 b1 b2 x y : Int) (q s : Bool) (w : World) (v : Value) : Nat → Prop
  | 0 => v = .agg #[.int .i64 a1, .int .i64 a2]
  | 1 => v = .agg #[.int .i64 b1, .int .i64 b2]
  | 2 => v = .bool q
  | 3 => v = .agg #[.int .i64 a1, .int .i64 a2]
  | 4 => v = .agg #[.int .i64 b1, .int .i64 b2]
  | 5 => v = .bool q
  | 6 => v = .bool false
  | 7 => v = .bool false
  | 8 => v = .agg #[.int .i64 a1, .int .i64 a2]
  | 9 => v = .bool s
  | 10 => v = .agg #[.int .i64 a1, .int .i64 a2]
  | 11 => v = .bool s
  | 12 => v = .bool false
  | 13 => v = .bool false
  | 14 => v = .bool false
  | 15 => v = .agg #[.int .i64 a1, .int .i64 a2]
  | 16 => v = .agg #[.int .i64 x, .int .i64 y]
  | 17 => v = .agg #[.int .i64 a1, .int .i64 a2]
  | 18 => v = .agg #[.int .i64 x, .int .i64 y]
  | 19 => v = .bool false
  | 20 => v = .bool false
  | _ => v = .bool true
/-- It stays so. -/
def VCQ (g h : Nat) (a1 a2 b1 b2 x y : Int) (q s : Bool) (i : Nat) (v : Value) (w : World) : Prop := ∀ w', Ok w w' → VMQ g h a1 a2 b1 b2 x y q s w' v i
/-- What each operation leaves. -/
def VMPwrong (g h : Nat) (a1 a2 b1 b2 x y : Int) (w : World) (v : Value) : Nat → Prop
  | 0 => v = .agg #[.int .i64 a1, .int .i64 a2]
  | 1 => v = .bool false
  | 2 => v = .bool true
  | 3 => v = .bool true
  | 4 => v = undef
  | 5 => v = undef
  | 6 => v = undef
  | 7 => v = .bool true
  | 8 => v = .bool true
  | 9 => v = undef
  | 10 => v = undef
  | 11 => v = undef
  | 12 => v = undef
  | 13 => v = undef
  | 14 => v = undef
  | 15 => v = undef
  | 16 => v = undef
  | 17 => v = undef
  | 18 => v = .bool true
  | 19 => v = .bool true
  | _ => v = .bool true
/-- It stays so. -/
def VCPwrong (g h : Nat) (a1 a2 b1 b2 x y : Int) (i : Nat) (v : Value) (w : World) : Prop := ∀ w', Ok w w' → VMPwrong g h a1 a2 b1 b2 x y w' v i
set_option maxHeartbeats 3200000 in
theorem wrong (w : World) (a1 a2 b1 b2 : Int) (h : Hlc.right (a1, a2) = false) : Calls Try.prog 3 #[stV (a1, a2), stV (b1, b2)] w fun e w' => e = .returned (.bool true) ∧ Ok w w' := by
  have KL := Lib.hid fun w => hlcLess (a1, a2) (b1, b2) w
  have KM := Lib.hid fun w => ref20Less (a1, a2) (b1, b2) w
  have KR := Lib.hid fun w => hlcRight (a1, a2) w
  have KS := Lib.hid fun w => ref20Right (a1, a2) w
  have KN := Lib.hid fun w => hlcNext (a1, a2) w
  have KO := Lib.hid fun w => ref20Next (a1, a2) w

  rw [h] at KR KS
  generalize Hlc.less (a1, a2) (b1, b2) = q at KL KM
  generalize Hlc.next (a1, a2) = z at KN KO
  obtain ⟨x, y⟩ := z
  clear h
  have HA := Lib.hid ((Box.new w a1 a2 23 rfl).next ((Ok.refl _).alloc (.cells #[.int .i64 b1, .int .i64 b2] 23)))
  have HB := Lib.hid (Box.new (w.alloc (.cells #[.int .i64 a1, .int .i64 a2] 23)) b1 b2 23 (g := w.heap.size + 1) (by simp))
  have HK := Lib.hid (((Ok.refl w).alloc (.cells #[.int .i64 a1, .int .i64 a2] 23)).alloc (.cells #[.int .i64 b1, .int .i64 b2] 23))
  go_enter Try.func3, Try.ntmps3
  go_upto_region 3 with (go_at_call 9; (with_reducible refine (law20Alive _).mono ?_); rintro e w1 ⟨rfl, hb1⟩; have hA := HA.out.next hb1; have hB := HB.out.next hb1; have hok := HK.out.trans hb1; clear hb1 HA HB HK)
  obtain ⟨h, hh⟩ : ∃ r, w.heap.size + 1 = r := ⟨_, rfl⟩
  rw [hh] at hB ⊢
  clear hh
  obtain ⟨g, hg⟩ : ∃ r, w.heap.size = r := ⟨_, rfl⟩
  rw [hg] at hA ⊢
  clear hg
  have HOK := Lib.hid hok
  have HA0 := Lib.hid hA
  have HA := Lib.hid fun W' (k : Ok w1.drew W') => hA.next ((Ok.refl w1).drew.trans k)
  have HB := Lib.hid fun W' (k : Ok w1.drew W') => hB.next ((Ok.refl w1).drew.trans k)
  clear hA hB hok
  refine wp_region_facts (by kernel_rfl) 47 rfl (VCQ g h a1 a2 b1 b2 x y q false) Ok (by kernel_rfl) (fun i v w w' h k w'' k' => h w'' (k.trans k')) (fun a b c => Ok.trans) (Ok.refl _) [some 7, some 8, some 9, some 10, some 11, some 12, some 13, some 14, some 15, some 16, some 17, some 18, some 19, some 20, some 21, some 22, some 23, some 24, some 25, some 26, some 27] rfl 21 rfl ⟨?_, ?_, ?_, ?_, ?_, ?_, ?_, ?_, ?_, ?_, ?_, ?_, ?_, ?_, ?_, ?_, ?_, ?_, ?_, ?_, ?_, trivial⟩ ?_
  · intro a' w' hF hR
    have e2 : a'.tmps[2]? = some (.pointer (some ⟨g, 0, none⟩)) := hF.slot 2 (by kernel_rfl) rfl
    obtain ⟨c0, c1, hcl⟩ := HA.out _ hR
    refine wpOp_run (v := .agg #[.int .i64 a1, .int .i64 a2]) rfl rfl ?_ (fun _ _ => rfl) (Ok.refl _)
    clear hF
    go_simp
  · intro a' w' hF hR
    have e3 : a'.tmps[3]? = some (.pointer (some ⟨h, 0, none⟩)) := hF.slot 3 (by kernel_rfl) rfl
    obtain ⟨d0, d1, hdl⟩ := HB.out _ hR
    refine wpOp_run (v := .agg #[.int .i64 b1, .int .i64 b2]) rfl rfl ?_ (fun _ _ => rfl) (Ok.refl _)
    clear hF
    go_simp
  · intro a' w' hF hR
    obtain ⟨v0, hv0, e7⟩ := hF.get 0 7 (by kernel_rfl) (by kernel_rfl)
    obtain rfl : v0 = _ := hv0 _ (Ok.refl _)
    obtain ⟨v1, hv1, e8⟩ := hF.get 1 8 (by kernel_rfl) (by kernel_rfl)
    obtain rfl : v1 = _ := hv1 _ (Ok.refl _)
    clear hF
    refine wpOp_call (f := 10) (args := #[.agg #[.int .i64 a1, .int .i64 a2], .agg #[.int .i64 b1, .int .i64 b2]]) rfl rfl ?_ ((KL.out _).mono ?_)
    · go_simp
    · rintro e w2 ⟨rfl, hb2⟩; exact ⟨_, rfl, fun _ _ => rfl, hb2⟩
  · intro a' w' hF hR
    have e2 : a'.tmps[2]? = some (.pointer (some ⟨g, 0, none⟩)) := hF.slot 2 (by kernel_rfl) rfl
    obtain ⟨c0, c1, hcl⟩ := HA.out _ hR
    refine wpOp_run (v := .agg #[.int .i64 a1, .int .i64 a2]) rfl rfl ?_ (fun _ _ => rfl) (Ok.refl _)
    clear hF
    go_simp
  · intro a' w' hF hR
    have e3 : a'.tmps[3]? = some (.pointer (some ⟨h, 0, none⟩)) := hF.slot 3 (by kernel_rfl) rfl
    obtain ⟨d0, d1, hdl⟩ := HB.out _ hR
    refine wpOp_run (v := .agg #[.int .i64 b1, .int .i64 b2]) rfl rfl ?_ (fun _ _ => rfl) (Ok.refl _)
    clear hF
    go_simp
  · intro a' w' hF hR
    obtain ⟨v3, hv3, e10⟩ := hF.get 3 10 (by kernel_rfl) (by kernel_rfl)
    obtain rfl : v3 = _ := hv3 _ (Ok.refl _)
    obtain ⟨v4, hv4, e11⟩ := hF.get 4 11 (by kernel_rfl) (by kernel_rfl)
    obtain rfl : v4 = _ := hv4 _ (Ok.refl _)
    clear hF
    refine wpOp_call (f := 11) (args := #[.agg #[.int .i64 a1, .int .i64 a2], .agg #[.int .i64 b1, .int .i64 b2]]) rfl rfl ?_ ((KM.out _).mono ?_)
    · go_simp
    · rintro e w2 ⟨rfl, hb2⟩; exact ⟨_, rfl, fun _ _ => rfl, hb2⟩
  · intro a' w' hF hR
    obtain ⟨v2, hv2, e9⟩ := hF.get 2 9 (by kernel_rfl) (by kernel_rfl)
    obtain rfl : v2 = _ := hv2 _ (Ok.refl _)
    obtain ⟨v5, hv5, e12⟩ := hF.get 5 12 (by kernel_rfl) (by kernel_rfl)
    obtain rfl : v5 = _ := hv5 _ (Ok.refl _)
    refine wpOp_run (v := .bool false) rfl rfl ?_ (fun _ _ => rfl) (Ok.refl _)
    clear hF
    cases q <;> go_simp
  · intro a' w' hF hR
    obtain ⟨v6, hv6, e13⟩ := hF.get 6 13 (by kernel_rfl) (by kernel_rfl)
    obtain rfl : v6 = _ := hv6 _ (Ok.refl _)
    refine wpOp_run (v := .bool false) rfl rfl ?_ (fun _ _ => rfl) (Ok.refl _)
    clear hF
    go_simp
  · intro a' w' hF hR
    have e2 : a'.tmps[2]? = some (.pointer (some ⟨g, 0, none⟩)) := hF.slot 2 (by kernel_rfl) rfl
    obtain ⟨vg, hvg, eg⟩ := hF.get 7 14 (by kernel_rfl) (by kernel_rfl)
    obtain rfl : vg = _ := hvg _ (Ok.refl _)
    obtain ⟨c0, c1, hcl⟩ := HA.out _ hR
    refine wpOp_runG (v := .agg #[.int .i64 a1, .int .i64 a2]) rfl (wanted_yes rfl (by kernel_rfl) eg) ?_ (fun _ _ => rfl) (Ok.refl _)
    clear hF
    go_simp
  · intro a' w' hF hR
    obtain ⟨v8, hv8, e15⟩ := hF.get 8 15 (by kernel_rfl) (by kernel_rfl)
    obtain rfl : v8 = _ := hv8 _ (Ok.refl _)
    obtain ⟨vg, hvg, eg⟩ := hF.get 7 14 (by kernel_rfl) (by kernel_rfl)
    obtain rfl : vg = _ := hvg _ (Ok.refl _)
    refine wpOp_callG (f := 12) (args := #[.agg #[.int .i64 a1, .int .i64 a2]]) rfl (wanted_yes rfl (by kernel_rfl) eg) ?_ ((KR.out _).mono ?_)
    · go_simp
    · rintro e w2 ⟨rfl, hb2⟩; exact ⟨_, rfl, fun _ _ => rfl, hb2⟩
  · intro a' w' hF hR
    have e2 : a'.tmps[2]? = some (.pointer (some ⟨g, 0, none⟩)) := hF.slot 2 (by kernel_rfl) rfl
    obtain ⟨vg, hvg, eg⟩ := hF.get 7 14 (by kernel_rfl) (by kernel_rfl)
    obtain rfl : vg = _ := hvg _ (Ok.refl _)
    obtain ⟨c0, c1, hcl⟩ := HA.out _ hR
    refine wpOp_runG (v := .agg #[.int .i64 a1, .int .i64 a2]) rfl (wanted_yes rfl (by kernel_rfl) eg) ?_ (fun _ _ => rfl) (Ok.refl _)
    clear hF
    go_simp
  · intro a' w' hF hR
    obtain ⟨v10, hv10, e17⟩ := hF.get 10 17 (by kernel_rfl) (by kernel_rfl)
    obtain rfl : v10 = _ := hv10 _ (Ok.refl _)
    obtain ⟨vg, hvg, eg⟩ := hF.get 7 14 (by kernel_rfl) (by kernel_rfl)
    obtain rfl : vg = _ := hvg _ (Ok.refl _)
    refine wpOp_callG (f := 13) (args := #[.agg #[.int .i64 a1, .int .i64 a2]]) rfl (wanted_yes rfl (by kernel_rfl) eg) ?_ ((KS.out _).mono ?_)
    · go_simp
    · rintro e w2 ⟨rfl, hb2⟩; exact ⟨_, rfl, fun _ _ => rfl, hb2⟩
  · intro a' w' hF hR
    obtain ⟨v9, hv9, e16⟩ := hF.get 9 16 (by kernel_rfl) (by kernel_rfl)
    obtain rfl : v9 = _ := hv9 _ (Ok.refl _)
    obtain ⟨v11, hv11, e18⟩ := hF.get 11 18 (by kernel_rfl) (by kernel_rfl)
    obtain rfl : v11 = _ := hv11 _ (Ok.refl _)
    obtain ⟨vg, hvg, eg⟩ := hF.get 7 14 (by kernel_rfl) (by kernel_rfl)
    obtain rfl : vg = _ := hvg _ (Ok.refl _)
    refine wpOp_runG (v := .bool false) rfl (wanted_yes rfl (by kernel_rfl) eg) ?_ (fun _ _ => rfl) (Ok.refl _)
    clear hF
    go_simp
  · intro a' w' hF hR
    obtain ⟨v7, hv7, e14⟩ := hF.get 7 14 (by kernel_rfl) (by kernel_rfl)
    obtain rfl : v7 = _ := hv7 _ (Ok.refl _)
    obtain ⟨v12, hv12, e19⟩ := hF.get 12 19 (by kernel_rfl) (by kernel_rfl)
    obtain rfl : v12 = _ := hv12 _ (Ok.refl _)
    refine wpOp_run (v := .bool false) rfl rfl ?_ (fun _ _ => rfl) (Ok.refl _)
    clear hF
    go_simp
  · intro a' w' hF hR
    obtain ⟨v13, hv13, e20⟩ := hF.get 13 20 (by kernel_rfl) (by kernel_rfl)
    obtain rfl : v13 = _ := hv13 _ (Ok.refl _)
    refine wpOp_run (v := .bool false) rfl rfl ?_ (fun _ _ => rfl) (Ok.refl _)
    clear hF
    go_simp
  · intro a' w' hF hR
    have e2 : a'.tmps[2]? = some (.pointer (some ⟨g, 0, none⟩)) := hF.slot 2 (by kernel_rfl) rfl
    obtain ⟨vg, hvg, eg⟩ := hF.get 14 21 (by kernel_rfl) (by kernel_rfl)
    obtain rfl : vg = _ := hvg _ (Ok.refl _)
    obtain ⟨c0, c1, hcl⟩ := HA.out _ hR
    refine wpOp_runG (v := .agg #[.int .i64 a1, .int .i64 a2]) rfl (wanted_yes rfl (by kernel_rfl) eg) ?_ (fun _ _ => rfl) (Ok.refl _)
    clear hF
    go_simp
  · intro a' w' hF hR
    obtain ⟨v15, hv15, e22⟩ := hF.get 15 22 (by kernel_rfl) (by kernel_rfl)
    obtain rfl : v15 = _ := hv15 _ (Ok.refl _)
    obtain ⟨vg, hvg, eg⟩ := hF.get 14 21 (by kernel_rfl) (by kernel_rfl)
    obtain rfl : vg = _ := hvg _ (Ok.refl _)
    refine wpOp_callG (f := 14) (args := #[.agg #[.int .i64 a1, .int .i64 a2]]) rfl (wanted_yes rfl (by kernel_rfl) eg) ?_ ((KN.out _).mono ?_)
    · go_simp
    · rintro e w2 ⟨rfl, hb2⟩; exact ⟨_, rfl, fun _ _ => rfl, hb2⟩
  · intro a' w' hF hR
    have e2 : a'.tmps[2]? = some (.pointer (some ⟨g, 0, none⟩)) := hF.slot 2 (by kernel_rfl) rfl
    obtain ⟨vg, hvg, eg⟩ := hF.get 14 21 (by kernel_rfl) (by kernel_rfl)
    obtain rfl : vg = _ := hvg _ (Ok.refl _)
    obtain ⟨c0, c1, hcl⟩ := HA.out _ hR
    refine wpOp_runG (v := .agg #[.int .i64 a1, .int .i64 a2]) rfl (wanted_yes rfl (by kernel_rfl) eg) ?_ (fun _ _ => rfl) (Ok.refl _)
    clear hF
    go_simp
  · intro a' w' hF hR
    obtain ⟨v17, hv17, e24⟩ := hF.get 17 24 (by kernel_rfl) (by kernel_rfl)
    obtain rfl : v17 = _ := hv17 _ (Ok.refl _)
    obtain ⟨vg, hvg, eg⟩ := hF.get 14 21 (by kernel_rfl) (by kernel_rfl)
    obtain rfl : vg = _ := hvg _ (Ok.refl _)
    refine wpOp_callG (f := 15) (args := #[.agg #[.int .i64 a1, .int .i64 a2]]) rfl (wanted_yes rfl (by kernel_rfl) eg) ?_ ((KO.out _).mono ?_)
    · go_simp
    · rintro e w2 ⟨rfl, hb2⟩; exact ⟨_, rfl, fun _ _ => rfl, hb2⟩
  · intro a' w' hF hR
    obtain ⟨v16, hv16, e23⟩ := hF.get 16 23 (by kernel_rfl) (by kernel_rfl)
    obtain rfl : v16 = _ := hv16 _ (Ok.refl _)
    obtain ⟨v18, hv18, e25⟩ := hF.get 18 25 (by kernel_rfl) (by kernel_rfl)
    obtain rfl : v18 = _ := hv18 _ (Ok.refl _)
    obtain ⟨vg, hvg, eg⟩ := hF.get 14 21 (by kernel_rfl) (by kernel_rfl)
    obtain rfl : vg = _ := hvg _ (Ok.refl _)
    have hE := eqStamp20 x y x y
    have hq : (x == x && y == y) = true := by simp
    rw [hq] at hE
    refine wpOp_runG (v := .bool false) rfl (wanted_yes rfl (by kernel_rfl) eg) ?_ (fun _ _ => rfl) (Ok.refl _)
    clear hF
    go_simp
  · intro a' w' hF hR
    obtain ⟨v14, hv14, e21⟩ := hF.get 14 21 (by kernel_rfl) (by kernel_rfl)
    obtain rfl : v14 = _ := hv14 _ (Ok.refl _)
    obtain ⟨v19, hv19, e26⟩ := hF.get 19 26 (by kernel_rfl) (by kernel_rfl)
    obtain rfl : v19 = _ := hv19 _ (Ok.refl _)
    refine wpOp_run (v := .bool false) rfl rfl ?_ (fun _ _ => rfl) (Ok.refl _)
    clear hF
    go_simp
  intro vs w2 hV hR
  have e20 : vs 20 = .bool false := hV 20 (by decide) _ (Ok.refl _)
  have hA := HA0.out.next ((Ok.refl w1).drew.trans hR)
  have hok := HOK.out.trans ((Ok.refl w1).drew.trans hR)
  clear hV HA HB HA0 HOK KL KM KS KO
  simp only [putFrom, e20]
  simp only [Act.put, List.setIfInBounds_toArray, List.set_cons_zero, List.set_cons_succ]
  go_upto_region 5 with fail
  have HOK := Lib.hid hok
  have HA := Lib.hid fun W' (k : Ok w2.drew W') => hA.next ((Ok.refl w2).drew.trans k)
  clear hA hok e20
  refine wp_region_facts (by kernel_rfl) 47 rfl (VCPwrong g h a1 a2 b1 b2 x y) Ok (by kernel_rfl) (fun i v w w' h k w'' k' => h w'' (k.trans k')) (fun a b c => Ok.trans) (Ok.refl _) [some 28, some 29, some 30, some 31, some 32, some 33, some 34, some 35, some 36, some 37, some 38, some 39, some 40, some 41, some 42, some 43, some 44, some 45, some 46, some 4] rfl 20 rfl ⟨?_, ?_, ?_, ?_, ?_, ?_, ?_, ?_, ?_, ?_, ?_, ?_, ?_, ?_, ?_, ?_, ?_, ?_, ?_, ?_, trivial⟩ ?_
  · intro a' w' hF hR
    have e2 : a'.tmps[2]? = some (.pointer (some ⟨g, 0, none⟩)) := hF.slot 2 (by kernel_rfl) rfl
    obtain ⟨c0, c1, hcl⟩ := HA.out _ hR
    refine wpOp_run (v := .agg #[.int .i64 a1, .int .i64 a2]) rfl rfl ?_ (fun _ _ => rfl) (Ok.refl _)
    clear hF
    go_simp
  · intro a' w' hF hR
    obtain ⟨v0, hv0, e28⟩ := hF.get 0 28 (by kernel_rfl) (by kernel_rfl)
    obtain rfl : v0 = _ := hv0 _ (Ok.refl _)
    clear hF
    refine wpOp_call (f := 12) (args := #[.agg #[.int .i64 a1, .int .i64 a2]]) rfl rfl ?_ ((KR.out _).mono ?_)
    · go_simp
    · rintro e w2 ⟨rfl, hb2⟩; exact ⟨_, rfl, fun _ _ => rfl, hb2⟩
  · intro a' w' hF hR
    obtain ⟨v1, hv1, e29⟩ := hF.get 1 29 (by kernel_rfl) (by kernel_rfl)
    obtain rfl : v1 = _ := hv1 _ (Ok.refl _)
    refine wpOp_run (v := .bool true) rfl rfl ?_ (fun _ _ => rfl) (Ok.refl _)
    clear hF
    go_simp
  · intro a' w' hF hR
    obtain ⟨v2, hv2, e30⟩ := hF.get 2 30 (by kernel_rfl) (by kernel_rfl)
    obtain rfl : v2 = _ := hv2 _ (Ok.refl _)
    refine wpOp_run (v := .bool true) rfl rfl ?_ (fun _ _ => rfl) (Ok.refl _)
    clear hF
    go_simp
  · intro a' w' hF hR
    obtain ⟨vg, hvg, eg⟩ := hF.get 3 31 (by kernel_rfl) (by kernel_rfl)
    obtain rfl : vg = _ := hvg _ (Ok.refl _)
    exact wpOp_skip rfl (wanted_not rfl (by kernel_rfl) eg (by simp)) (fun _ _ => rfl) (Ok.refl _)
  · intro a' w' hF hR
    obtain ⟨vg, hvg, eg⟩ := hF.get 3 31 (by kernel_rfl) (by kernel_rfl)
    obtain rfl : vg = _ := hvg _ (Ok.refl _)
    exact wpOp_skip rfl (wanted_not rfl (by kernel_rfl) eg (by simp)) (fun _ _ => rfl) (Ok.refl _)
  · intro a' w' hF hR
    obtain ⟨vg, hvg, eg⟩ := hF.get 3 31 (by kernel_rfl) (by kernel_rfl)
    obtain rfl : vg = _ := hvg _ (Ok.refl _)
    exact wpOp_skip rfl (wanted_not rfl (by kernel_rfl) eg (by simp)) (fun _ _ => rfl) (Ok.refl _)
  · intro a' w' hF hR
    obtain ⟨v3, hv3, e31⟩ := hF.get 3 31 (by kernel_rfl) (by kernel_rfl)
    obtain rfl : v3 = _ := hv3 _ (Ok.refl _)
    obtain ⟨v6, hv6, e34⟩ := hF.get 6 34 (by kernel_rfl) (by kernel_rfl)
    obtain rfl : v6 = _ := hv6 _ (Ok.refl _)
    refine wpOp_run (v := .bool true) rfl rfl ?_ (fun _ _ => rfl) (Ok.refl _)
    clear hF
    go_simp
  · intro a' w' hF hR
    obtain ⟨v7, hv7, e35⟩ := hF.get 7 35 (by kernel_rfl) (by kernel_rfl)
    obtain rfl : v7 = _ := hv7 _ (Ok.refl _)
    refine wpOp_run (v := .bool true) rfl rfl ?_ (fun _ _ => rfl) (Ok.refl _)
    clear hF
    go_simp
  · intro a' w' hF hR
    obtain ⟨vg, hvg, eg⟩ := hF.get 8 36 (by kernel_rfl) (by kernel_rfl)
    obtain rfl : vg = _ := hvg _ (Ok.refl _)
    exact wpOp_skip rfl (wanted_not rfl (by kernel_rfl) eg (by simp)) (fun _ _ => rfl) (Ok.refl _)
  · intro a' w' hF hR
    obtain ⟨vg, hvg, eg⟩ := hF.get 8 36 (by kernel_rfl) (by kernel_rfl)
    obtain rfl : vg = _ := hvg _ (Ok.refl _)
    exact wpOp_skip rfl (wanted_not rfl (by kernel_rfl) eg (by simp)) (fun _ _ => rfl) (Ok.refl _)
  · intro a' w' hF hR
    obtain ⟨vg, hvg, eg⟩ := hF.get 8 36 (by kernel_rfl) (by kernel_rfl)
    obtain rfl : vg = _ := hvg _ (Ok.refl _)
    exact wpOp_skip rfl (wanted_not rfl (by kernel_rfl) eg (by simp)) (fun _ _ => rfl) (Ok.refl _)
  · intro a' w' hF hR
    obtain ⟨vg, hvg, eg⟩ := hF.get 8 36 (by kernel_rfl) (by kernel_rfl)
    obtain rfl : vg = _ := hvg _ (Ok.refl _)
    exact wpOp_skip rfl (wanted_not rfl (by kernel_rfl) eg (by simp)) (fun _ _ => rfl) (Ok.refl _)
  · intro a' w' hF hR
    obtain ⟨vg, hvg, eg⟩ := hF.get 8 36 (by kernel_rfl) (by kernel_rfl)
    obtain rfl : vg = _ := hvg _ (Ok.refl _)
    exact wpOp_skip rfl (wanted_not rfl (by kernel_rfl) eg (by simp)) (fun _ _ => rfl) (Ok.refl _)
  · intro a' w' hF hR
    obtain ⟨vg, hvg, eg⟩ := hF.get 13 41 (by kernel_rfl) (by kernel_rfl)
    obtain rfl : vg = _ := hvg _ (Ok.refl _)
    exact wpOp_skip rfl (wanted_not rfl (by kernel_rfl) eg (by simp [undef])) (fun _ _ => rfl) (Ok.refl _)
  · intro a' w' hF hR
    obtain ⟨vg, hvg, eg⟩ := hF.get 13 41 (by kernel_rfl) (by kernel_rfl)
    obtain rfl : vg = _ := hvg _ (Ok.refl _)
    exact wpOp_skip rfl (wanted_not rfl (by kernel_rfl) eg (by simp [undef])) (fun _ _ => rfl) (Ok.refl _)
  · intro a' w' hF hR
    obtain ⟨vg, hvg, eg⟩ := hF.get 13 41 (by kernel_rfl) (by kernel_rfl)
    obtain rfl : vg = _ := hvg _ (Ok.refl _)
    exact wpOp_skip rfl (wanted_not rfl (by kernel_rfl) eg (by simp [undef])) (fun _ _ => rfl) (Ok.refl _)
  · intro a' w' hF hR
    obtain ⟨vg, hvg, eg⟩ := hF.get 8 36 (by kernel_rfl) (by kernel_rfl)
    obtain rfl : vg = _ := hvg _ (Ok.refl _)
    exact wpOp_skip rfl (wanted_not rfl (by kernel_rfl) eg (by simp)) (fun _ _ => rfl) (Ok.refl _)
  · intro a' w' hF hR
    obtain ⟨v8, hv8, e36⟩ := hF.get 8 36 (by kernel_rfl) (by kernel_rfl)
    obtain rfl : v8 = _ := hv8 _ (Ok.refl _)
    obtain ⟨v17, hv17, e45⟩ := hF.get 17 45 (by kernel_rfl) (by kernel_rfl)
    obtain rfl : v17 = _ := hv17 _ (Ok.refl _)
    refine wpOp_run (v := .bool true) rfl rfl ?_ (fun _ _ => rfl) (Ok.refl _)
    clear hF
    go_simp
  · intro a' w' hF hR
    obtain ⟨v18, hv18, e46⟩ := hF.get 18 46 (by kernel_rfl) (by kernel_rfl)
    obtain rfl : v18 = _ := hv18 _ (Ok.refl _)
    refine wpOp_run (v := .bool true) rfl rfl ?_ (fun _ _ => rfl) (Ok.refl _)
    clear hF
    go_simp
  intro us w3 hV hR
  have e19 : us 19 = .bool true := hV 19 (by decide) _ (Ok.refl _)
  have hok := HOK.out.trans ((Ok.refl w2).drew.trans hR)
  clear hV HA HOK KR KN
  simp only [putFrom, e19]
  simp only [Act.put, List.setIfInBounds_toArray, List.set_cons_zero, List.set_cons_succ]
  go_wp2
  go_ret
  exact ⟨rfl, hok⟩
/-- What each operation leaves. -/
def VMPmost (g h : Nat) (a1 a2 b1 b2 x y : Int) (w : World) (v : Value) : Nat → Prop
  | 0 => v = .agg #[.int .i64 a1, .int .i64 a2]
  | 1 => v = .bool true
  | 2 => v = .bool false
  | 3 => v = .bool false
  | 4 => v = .pointer (some ⟨g, 0, none⟩)
  | 5 => v = .int .i64 a1
  | 6 => v = .bool true
  | 7 => v = .bool true
  | 8 => v = .bool true
  | 9 => v = undef
  | 10 => v = undef
  | 11 => v = undef
  | 12 => v = undef
  | 13 => v = undef
  | 14 => v = undef
  | 15 => v = undef
  | 16 => v = undef
  | 17 => v = undef
  | 18 => v = .bool true
  | 19 => v = .bool true
  | _ => v = .bool true
/-- It stays so. -/
def VCPmost (g h : Nat) (a1 a2 b1 b2 x y : Int) (i : Nat) (v : Value) (w : World) : Prop := ∀ w', Ok w w' → VMPmost g h a1 a2 b1 b2 x y w' v i
set_option maxHeartbeats 3200000 in
theorem most (w : World) (a1 a2 b1 b2 : Int) (h : Hlc.right (a1, a2) = true) (h1 : a1 = 2305843009213693952) : Calls Try.prog 3 #[stV (a1, a2), stV (b1, b2)] w fun e w' => e = .returned (.bool true) ∧ Ok w w' := by
  have KL := Lib.hid fun w => hlcLess (a1, a2) (b1, b2) w
  have KM := Lib.hid fun w => ref20Less (a1, a2) (b1, b2) w
  have KR := Lib.hid fun w => hlcRight (a1, a2) w
  have KS := Lib.hid fun w => ref20Right (a1, a2) w
  have KN := Lib.hid fun w => hlcNext (a1, a2) w
  have KO := Lib.hid fun w => ref20Next (a1, a2) w

  have HE := Lib.hid (show (a1 == 2305843009213693952) = true from beq_iff_eq.2 h1)
  rw [h] at KR KS
  generalize Hlc.less (a1, a2) (b1, b2) = q at KL KM
  generalize Hlc.next (a1, a2) = z at KN KO
  obtain ⟨x, y⟩ := z
  clear h h1
  have HA := Lib.hid ((Box.new w a1 a2 23 rfl).next ((Ok.refl _).alloc (.cells #[.int .i64 b1, .int .i64 b2] 23)))
  have HB := Lib.hid (Box.new (w.alloc (.cells #[.int .i64 a1, .int .i64 a2] 23)) b1 b2 23 (g := w.heap.size + 1) (by simp))
  have HK := Lib.hid (((Ok.refl w).alloc (.cells #[.int .i64 a1, .int .i64 a2] 23)).alloc (.cells #[.int .i64 b1, .int .i64 b2] 23))
  go_enter Try.func3, Try.ntmps3
  go_upto_region 3 with (go_at_call 9; (with_reducible refine (law20Alive _).mono ?_); rintro e w1 ⟨rfl, hb1⟩; have hA := HA.out.next hb1; have hB := HB.out.next hb1; have hok := HK.out.trans hb1; clear hb1 HA HB HK)
  obtain ⟨h, hh⟩ : ∃ r, w.heap.size + 1 = r := ⟨_, rfl⟩
  rw [hh] at hB ⊢
  clear hh
  obtain ⟨g, hg⟩ : ∃ r, w.heap.size = r := ⟨_, rfl⟩
  rw [hg] at hA ⊢
  clear hg
  have HOK := Lib.hid hok
  have HA0 := Lib.hid hA
  have HA := Lib.hid fun W' (k : Ok w1.drew W') => hA.next ((Ok.refl w1).drew.trans k)
  have HB := Lib.hid fun W' (k : Ok w1.drew W') => hB.next ((Ok.refl w1).drew.trans k)
  clear hA hB hok
  refine wp_region_facts (by kernel_rfl) 47 rfl (VCQ g h a1 a2 b1 b2 x y q true) Ok (by kernel_rfl) (fun i v w w' h k w'' k' => h w'' (k.trans k')) (fun a b c => Ok.trans) (Ok.refl _) [some 7, some 8, some 9, some 10, some 11, some 12, some 13, some 14, some 15, some 16, some 17, some 18, some 19, some 20, some 21, some 22, some 23, some 24, some 25, some 26, some 27] rfl 21 rfl ⟨?_, ?_, ?_, ?_, ?_, ?_, ?_, ?_, ?_, ?_, ?_, ?_, ?_, ?_, ?_, ?_, ?_, ?_, ?_, ?_, ?_, trivial⟩ ?_
  · intro a' w' hF hR
    have e2 : a'.tmps[2]? = some (.pointer (some ⟨g, 0, none⟩)) := hF.slot 2 (by kernel_rfl) rfl
    obtain ⟨c0, c1, hcl⟩ := HA.out _ hR
    refine wpOp_run (v := .agg #[.int .i64 a1, .int .i64 a2]) rfl rfl ?_ (fun _ _ => rfl) (Ok.refl _)
    clear hF
    go_simp
  · intro a' w' hF hR
    have e3 : a'.tmps[3]? = some (.pointer (some ⟨h, 0, none⟩)) := hF.slot 3 (by kernel_rfl) rfl
    obtain ⟨d0, d1, hdl⟩ := HB.out _ hR
    refine wpOp_run (v := .agg #[.int .i64 b1, .int .i64 b2]) rfl rfl ?_ (fun _ _ => rfl) (Ok.refl _)
    clear hF
    go_simp
  · intro a' w' hF hR
    obtain ⟨v0, hv0, e7⟩ := hF.get 0 7 (by kernel_rfl) (by kernel_rfl)
    obtain rfl : v0 = _ := hv0 _ (Ok.refl _)
    obtain ⟨v1, hv1, e8⟩ := hF.get 1 8 (by kernel_rfl) (by kernel_rfl)
    obtain rfl : v1 = _ := hv1 _ (Ok.refl _)
    clear hF
    refine wpOp_call (f := 10) (args := #[.agg #[.int .i64 a1, .int .i64 a2], .agg #[.int .i64 b1, .int .i64 b2]]) rfl rfl ?_ ((KL.out _).mono ?_)
    · go_simp
    · rintro e w2 ⟨rfl, hb2⟩; exact ⟨_, rfl, fun _ _ => rfl, hb2⟩
  · intro a' w' hF hR
    have e2 : a'.tmps[2]? = some (.pointer (some ⟨g, 0, none⟩)) := hF.slot 2 (by kernel_rfl) rfl
    obtain ⟨c0, c1, hcl⟩ := HA.out _ hR
    refine wpOp_run (v := .agg #[.int .i64 a1, .int .i64 a2]) rfl rfl ?_ (fun _ _ => rfl) (Ok.refl _)
    clear hF
    go_simp
  · intro a' w' hF hR
    have e3 : a'.tmps[3]? = some (.pointer (some ⟨h, 0, none⟩)) := hF.slot 3 (by kernel_rfl) rfl
    obtain ⟨d0, d1, hdl⟩ := HB.out _ hR
    refine wpOp_run (v := .agg #[.int .i64 b1, .int .i64 b2]) rfl rfl ?_ (fun _ _ => rfl) (Ok.refl _)
    clear hF
    go_simp
  · intro a' w' hF hR
    obtain ⟨v3, hv3, e10⟩ := hF.get 3 10 (by kernel_rfl) (by kernel_rfl)
    obtain rfl : v3 = _ := hv3 _ (Ok.refl _)
    obtain ⟨v4, hv4, e11⟩ := hF.get 4 11 (by kernel_rfl) (by kernel_rfl)
    obtain rfl : v4 = _ := hv4 _ (Ok.refl _)
    clear hF
    refine wpOp_call (f := 11) (args := #[.agg #[.int .i64 a1, .int .i64 a2], .agg #[.int .i64 b1, .int .i64 b2]]) rfl rfl ?_ ((KM.out _).mono ?_)
    · go_simp
    · rintro e w2 ⟨rfl, hb2⟩; exact ⟨_, rfl, fun _ _ => rfl, hb2⟩
  · intro a' w' hF hR
    obtain ⟨v2, hv2, e9⟩ := hF.get 2 9 (by kernel_rfl) (by kernel_rfl)
    obtain rfl : v2 = _ := hv2 _ (Ok.refl _)
    obtain ⟨v5, hv5, e12⟩ := hF.get 5 12 (by kernel_rfl) (by kernel_rfl)
    obtain rfl : v5 = _ := hv5 _ (Ok.refl _)
    refine wpOp_run (v := .bool false) rfl rfl ?_ (fun _ _ => rfl) (Ok.refl _)
    clear hF
    cases q <;> go_simp
  · intro a' w' hF hR
    obtain ⟨v6, hv6, e13⟩ := hF.get 6 13 (by kernel_rfl) (by kernel_rfl)
    obtain rfl : v6 = _ := hv6 _ (Ok.refl _)
    refine wpOp_run (v := .bool false) rfl rfl ?_ (fun _ _ => rfl) (Ok.refl _)
    clear hF
    go_simp
  · intro a' w' hF hR
    have e2 : a'.tmps[2]? = some (.pointer (some ⟨g, 0, none⟩)) := hF.slot 2 (by kernel_rfl) rfl
    obtain ⟨vg, hvg, eg⟩ := hF.get 7 14 (by kernel_rfl) (by kernel_rfl)
    obtain rfl : vg = _ := hvg _ (Ok.refl _)
    obtain ⟨c0, c1, hcl⟩ := HA.out _ hR
    refine wpOp_runG (v := .agg #[.int .i64 a1, .int .i64 a2]) rfl (wanted_yes rfl (by kernel_rfl) eg) ?_ (fun _ _ => rfl) (Ok.refl _)
    clear hF
    go_simp
  · intro a' w' hF hR
    obtain ⟨v8, hv8, e15⟩ := hF.get 8 15 (by kernel_rfl) (by kernel_rfl)
    obtain rfl : v8 = _ := hv8 _ (Ok.refl _)
    obtain ⟨vg, hvg, eg⟩ := hF.get 7 14 (by kernel_rfl) (by kernel_rfl)
    obtain rfl : vg = _ := hvg _ (Ok.refl _)
    refine wpOp_callG (f := 12) (args := #[.agg #[.int .i64 a1, .int .i64 a2]]) rfl (wanted_yes rfl (by kernel_rfl) eg) ?_ ((KR.out _).mono ?_)
    · go_simp
    · rintro e w2 ⟨rfl, hb2⟩; exact ⟨_, rfl, fun _ _ => rfl, hb2⟩
  · intro a' w' hF hR
    have e2 : a'.tmps[2]? = some (.pointer (some ⟨g, 0, none⟩)) := hF.slot 2 (by kernel_rfl) rfl
    obtain ⟨vg, hvg, eg⟩ := hF.get 7 14 (by kernel_rfl) (by kernel_rfl)
    obtain rfl : vg = _ := hvg _ (Ok.refl _)
    obtain ⟨c0, c1, hcl⟩ := HA.out _ hR
    refine wpOp_runG (v := .agg #[.int .i64 a1, .int .i64 a2]) rfl (wanted_yes rfl (by kernel_rfl) eg) ?_ (fun _ _ => rfl) (Ok.refl _)
    clear hF
    go_simp
  · intro a' w' hF hR
    obtain ⟨v10, hv10, e17⟩ := hF.get 10 17 (by kernel_rfl) (by kernel_rfl)
    obtain rfl : v10 = _ := hv10 _ (Ok.refl _)
    obtain ⟨vg, hvg, eg⟩ := hF.get 7 14 (by kernel_rfl) (by kernel_rfl)
    obtain rfl : vg = _ := hvg _ (Ok.refl _)
    refine wpOp_callG (f := 13) (args := #[.agg #[.int .i64 a1, .int .i64 a2]]) rfl (wanted_yes rfl (by kernel_rfl) eg) ?_ ((KS.out _).mono ?_)
    · go_simp
    · rintro e w2 ⟨rfl, hb2⟩; exact ⟨_, rfl, fun _ _ => rfl, hb2⟩
  · intro a' w' hF hR
    obtain ⟨v9, hv9, e16⟩ := hF.get 9 16 (by kernel_rfl) (by kernel_rfl)
    obtain rfl : v9 = _ := hv9 _ (Ok.refl _)
    obtain ⟨v11, hv11, e18⟩ := hF.get 11 18 (by kernel_rfl) (by kernel_rfl)
    obtain rfl : v11 = _ := hv11 _ (Ok.refl _)
    obtain ⟨vg, hvg, eg⟩ := hF.get 7 14 (by kernel_rfl) (by kernel_rfl)
    obtain rfl : vg = _ := hvg _ (Ok.refl _)
    refine wpOp_runG (v := .bool false) rfl (wanted_yes rfl (by kernel_rfl) eg) ?_ (fun _ _ => rfl) (Ok.refl _)
    clear hF
    go_simp
  · intro a' w' hF hR
    obtain ⟨v7, hv7, e14⟩ := hF.get 7 14 (by kernel_rfl) (by kernel_rfl)
    obtain rfl : v7 = _ := hv7 _ (Ok.refl _)
    obtain ⟨v12, hv12, e19⟩ := hF.get 12 19 (by kernel_rfl) (by kernel_rfl)
    obtain rfl : v12 = _ := hv12 _ (Ok.refl _)
    refine wpOp_run (v := .bool false) rfl rfl ?_ (fun _ _ => rfl) (Ok.refl _)
    clear hF
    go_simp
  · intro a' w' hF hR
    obtain ⟨v13, hv13, e20⟩ := hF.get 13 20 (by kernel_rfl) (by kernel_rfl)
    obtain rfl : v13 = _ := hv13 _ (Ok.refl _)
    refine wpOp_run (v := .bool false) rfl rfl ?_ (fun _ _ => rfl) (Ok.refl _)
    clear hF
    go_simp
  · intro a' w' hF hR
    have e2 : a'.tmps[2]? = some (.pointer (some ⟨g, 0, none⟩)) := hF.slot 2 (by kernel_rfl) rfl
    obtain ⟨vg, hvg, eg⟩ := hF.get 14 21 (by kernel_rfl) (by kernel_rfl)
    obtain rfl : vg = _ := hvg _ (Ok.refl _)
    obtain ⟨c0, c1, hcl⟩ := HA.out _ hR
    refine wpOp_runG (v := .agg #[.int .i64 a1, .int .i64 a2]) rfl (wanted_yes rfl (by kernel_rfl) eg) ?_ (fun _ _ => rfl) (Ok.refl _)
    clear hF
    go_simp
  · intro a' w' hF hR
    obtain ⟨v15, hv15, e22⟩ := hF.get 15 22 (by kernel_rfl) (by kernel_rfl)
    obtain rfl : v15 = _ := hv15 _ (Ok.refl _)
    obtain ⟨vg, hvg, eg⟩ := hF.get 14 21 (by kernel_rfl) (by kernel_rfl)
    obtain rfl : vg = _ := hvg _ (Ok.refl _)
    refine wpOp_callG (f := 14) (args := #[.agg #[.int .i64 a1, .int .i64 a2]]) rfl (wanted_yes rfl (by kernel_rfl) eg) ?_ ((KN.out _).mono ?_)
    · go_simp
    · rintro e w2 ⟨rfl, hb2⟩; exact ⟨_, rfl, fun _ _ => rfl, hb2⟩
  · intro a' w' hF hR
    have e2 : a'.tmps[2]? = some (.pointer (some ⟨g, 0, none⟩)) := hF.slot 2 (by kernel_rfl) rfl
    obtain ⟨vg, hvg, eg⟩ := hF.get 14 21 (by kernel_rfl) (by kernel_rfl)
    obtain rfl : vg = _ := hvg _ (Ok.refl _)
    obtain ⟨c0, c1, hcl⟩ := HA.out _ hR
    refine wpOp_runG (v := .agg #[.int .i64 a1, .int .i64 a2]) rfl (wanted_yes rfl (by kernel_rfl) eg) ?_ (fun _ _ => rfl) (Ok.refl _)
    clear hF
    go_simp
  · intro a' w' hF hR
    obtain ⟨v17, hv17, e24⟩ := hF.get 17 24 (by kernel_rfl) (by kernel_rfl)
    obtain rfl : v17 = _ := hv17 _ (Ok.refl _)
    obtain ⟨vg, hvg, eg⟩ := hF.get 14 21 (by kernel_rfl) (by kernel_rfl)
    obtain rfl : vg = _ := hvg _ (Ok.refl _)
    refine wpOp_callG (f := 15) (args := #[.agg #[.int .i64 a1, .int .i64 a2]]) rfl (wanted_yes rfl (by kernel_rfl) eg) ?_ ((KO.out _).mono ?_)
    · go_simp
    · rintro e w2 ⟨rfl, hb2⟩; exact ⟨_, rfl, fun _ _ => rfl, hb2⟩
  · intro a' w' hF hR
    obtain ⟨v16, hv16, e23⟩ := hF.get 16 23 (by kernel_rfl) (by kernel_rfl)
    obtain rfl : v16 = _ := hv16 _ (Ok.refl _)
    obtain ⟨v18, hv18, e25⟩ := hF.get 18 25 (by kernel_rfl) (by kernel_rfl)
    obtain rfl : v18 = _ := hv18 _ (Ok.refl _)
    obtain ⟨vg, hvg, eg⟩ := hF.get 14 21 (by kernel_rfl) (by kernel_rfl)
    obtain rfl : vg = _ := hvg _ (Ok.refl _)
    have hE := eqStamp20 x y x y
    have hq : (x == x && y == y) = true := by simp
    rw [hq] at hE
    refine wpOp_runG (v := .bool false) rfl (wanted_yes rfl (by kernel_rfl) eg) ?_ (fun _ _ => rfl) (Ok.refl _)
    clear hF
    go_simp
  · intro a' w' hF hR
    obtain ⟨v14, hv14, e21⟩ := hF.get 14 21 (by kernel_rfl) (by kernel_rfl)
    obtain rfl : v14 = _ := hv14 _ (Ok.refl _)
    obtain ⟨v19, hv19, e26⟩ := hF.get 19 26 (by kernel_rfl) (by kernel_rfl)
    obtain rfl : v19 = _ := hv19 _ (Ok.refl _)
    refine wpOp_run (v := .bool false) rfl rfl ?_ (fun _ _ => rfl) (Ok.refl _)
    clear hF
    go_simp
  intro vs w2 hV hR
  have e20 : vs 20 = .bool false := hV 20 (by decide) _ (Ok.refl _)
  have hA := HA0.out.next ((Ok.refl w1).drew.trans hR)
  have hok := HOK.out.trans ((Ok.refl w1).drew.trans hR)
  clear hV HA HB HA0 HOK KL KM KS KO
  simp only [putFrom, e20]
  simp only [Act.put, List.setIfInBounds_toArray, List.set_cons_zero, List.set_cons_succ]
  go_upto_region 5 with fail
  have HOK := Lib.hid hok
  have HA := Lib.hid fun W' (k : Ok w2.drew W') => hA.next ((Ok.refl w2).drew.trans k)
  clear hA hok e20
  refine wp_region_facts (by kernel_rfl) 47 rfl (VCPmost g h a1 a2 b1 b2 x y) Ok (by kernel_rfl) (fun i v w w' h k w'' k' => h w'' (k.trans k')) (fun a b c => Ok.trans) (Ok.refl _) [some 28, some 29, some 30, some 31, some 32, some 33, some 34, some 35, some 36, some 37, some 38, some 39, some 40, some 41, some 42, some 43, some 44, some 45, some 46, some 4] rfl 20 rfl ⟨?_, ?_, ?_, ?_, ?_, ?_, ?_, ?_, ?_, ?_, ?_, ?_, ?_, ?_, ?_, ?_, ?_, ?_, ?_, ?_, trivial⟩ ?_
  · intro a' w' hF hR
    have e2 : a'.tmps[2]? = some (.pointer (some ⟨g, 0, none⟩)) := hF.slot 2 (by kernel_rfl) rfl
    obtain ⟨c0, c1, hcl⟩ := HA.out _ hR
    refine wpOp_run (v := .agg #[.int .i64 a1, .int .i64 a2]) rfl rfl ?_ (fun _ _ => rfl) (Ok.refl _)
    clear hF
    go_simp
  · intro a' w' hF hR
    obtain ⟨v0, hv0, e28⟩ := hF.get 0 28 (by kernel_rfl) (by kernel_rfl)
    obtain rfl : v0 = _ := hv0 _ (Ok.refl _)
    clear hF
    refine wpOp_call (f := 12) (args := #[.agg #[.int .i64 a1, .int .i64 a2]]) rfl rfl ?_ ((KR.out _).mono ?_)
    · go_simp
    · rintro e w2 ⟨rfl, hb2⟩; exact ⟨_, rfl, fun _ _ => rfl, hb2⟩
  · intro a' w' hF hR
    obtain ⟨v1, hv1, e29⟩ := hF.get 1 29 (by kernel_rfl) (by kernel_rfl)
    obtain rfl : v1 = _ := hv1 _ (Ok.refl _)
    refine wpOp_run (v := .bool false) rfl rfl ?_ (fun _ _ => rfl) (Ok.refl _)
    clear hF
    go_simp
  · intro a' w' hF hR
    obtain ⟨v2, hv2, e30⟩ := hF.get 2 30 (by kernel_rfl) (by kernel_rfl)
    obtain rfl : v2 = _ := hv2 _ (Ok.refl _)
    refine wpOp_run (v := .bool false) rfl rfl ?_ (fun _ _ => rfl) (Ok.refl _)
    clear hF
    go_simp
  · intro a' w' hF hR
    have e2 : a'.tmps[2]? = some (.pointer (some ⟨g, 0, none⟩)) := hF.slot 2 (by kernel_rfl) rfl
    obtain ⟨vg, hvg, eg⟩ := hF.get 3 31 (by kernel_rfl) (by kernel_rfl)
    obtain rfl : vg = _ := hvg _ (Ok.refl _)
    refine wpOp_runG (v := .pointer (some ⟨g, 0, none⟩)) rfl (wanted_yes rfl (by kernel_rfl) eg) ?_ (fun _ _ => rfl) (Ok.refl _)
    clear hF
    go_simp
  · intro a' w' hF hR
    obtain ⟨v4, hv4, e32⟩ := hF.get 4 32 (by kernel_rfl) (by kernel_rfl)
    obtain rfl : v4 = _ := hv4 _ (Ok.refl _)
    obtain ⟨vg, hvg, eg⟩ := hF.get 3 31 (by kernel_rfl) (by kernel_rfl)
    obtain rfl : vg = _ := hvg _ (Ok.refl _)
    obtain ⟨c0, c1, hcl⟩ := HA.out _ hR
    refine wpOp_runG (v := .int .i64 a1) rfl (wanted_yes rfl (by kernel_rfl) eg) ?_ (fun _ _ => rfl) (Ok.refl _)
    clear hF
    go_simp
  · intro a' w' hF hR
    obtain ⟨v5, hv5, e33⟩ := hF.get 5 33 (by kernel_rfl) (by kernel_rfl)
    obtain rfl : v5 = _ := hv5 _ (Ok.refl _)
    obtain ⟨vg, hvg, eg⟩ := hF.get 3 31 (by kernel_rfl) (by kernel_rfl)
    obtain rfl : vg = _ := hvg _ (Ok.refl _)
    have he := HE.out
    refine wpOp_runG (v := .bool true) rfl (wanted_yes rfl (by kernel_rfl) eg) ?_ (fun _ _ => rfl) (Ok.refl _)
    clear hF
    go_simp
  · intro a' w' hF hR
    obtain ⟨v3, hv3, e31⟩ := hF.get 3 31 (by kernel_rfl) (by kernel_rfl)
    obtain rfl : v3 = _ := hv3 _ (Ok.refl _)
    obtain ⟨v6, hv6, e34⟩ := hF.get 6 34 (by kernel_rfl) (by kernel_rfl)
    obtain rfl : v6 = _ := hv6 _ (Ok.refl _)
    refine wpOp_run (v := .bool true) rfl rfl ?_ (fun _ _ => rfl) (Ok.refl _)
    clear hF
    go_simp
  · intro a' w' hF hR
    obtain ⟨v7, hv7, e35⟩ := hF.get 7 35 (by kernel_rfl) (by kernel_rfl)
    obtain rfl : v7 = _ := hv7 _ (Ok.refl _)
    refine wpOp_run (v := .bool true) rfl rfl ?_ (fun _ _ => rfl) (Ok.refl _)
    clear hF
    go_simp
  · intro a' w' hF hR
    obtain ⟨vg, hvg, eg⟩ := hF.get 8 36 (by kernel_rfl) (by kernel_rfl)
    obtain rfl : vg = _ := hvg _ (Ok.refl _)
    exact wpOp_skip rfl (wanted_not rfl (by kernel_rfl) eg (by simp)) (fun _ _ => rfl) (Ok.refl _)
  · intro a' w' hF hR
    obtain ⟨vg, hvg, eg⟩ := hF.get 8 36 (by kernel_rfl) (by kernel_rfl)
    obtain rfl : vg = _ := hvg _ (Ok.refl _)
    exact wpOp_skip rfl (wanted_not rfl (by kernel_rfl) eg (by simp)) (fun _ _ => rfl) (Ok.refl _)
  · intro a' w' hF hR
    obtain ⟨vg, hvg, eg⟩ := hF.get 8 36 (by kernel_rfl) (by kernel_rfl)
    obtain rfl : vg = _ := hvg _ (Ok.refl _)
    exact wpOp_skip rfl (wanted_not rfl (by kernel_rfl) eg (by simp)) (fun _ _ => rfl) (Ok.refl _)
  · intro a' w' hF hR
    obtain ⟨vg, hvg, eg⟩ := hF.get 8 36 (by kernel_rfl) (by kernel_rfl)
    obtain rfl : vg = _ := hvg _ (Ok.refl _)
    exact wpOp_skip rfl (wanted_not rfl (by kernel_rfl) eg (by simp)) (fun _ _ => rfl) (Ok.refl _)
  · intro a' w' hF hR
    obtain ⟨vg, hvg, eg⟩ := hF.get 8 36 (by kernel_rfl) (by kernel_rfl)
    obtain rfl : vg = _ := hvg _ (Ok.refl _)
    exact wpOp_skip rfl (wanted_not rfl (by kernel_rfl) eg (by simp)) (fun _ _ => rfl) (Ok.refl _)
  · intro a' w' hF hR
    obtain ⟨vg, hvg, eg⟩ := hF.get 13 41 (by kernel_rfl) (by kernel_rfl)
    obtain rfl : vg = _ := hvg _ (Ok.refl _)
    exact wpOp_skip rfl (wanted_not rfl (by kernel_rfl) eg (by simp [undef])) (fun _ _ => rfl) (Ok.refl _)
  · intro a' w' hF hR
    obtain ⟨vg, hvg, eg⟩ := hF.get 13 41 (by kernel_rfl) (by kernel_rfl)
    obtain rfl : vg = _ := hvg _ (Ok.refl _)
    exact wpOp_skip rfl (wanted_not rfl (by kernel_rfl) eg (by simp [undef])) (fun _ _ => rfl) (Ok.refl _)
  · intro a' w' hF hR
    obtain ⟨vg, hvg, eg⟩ := hF.get 13 41 (by kernel_rfl) (by kernel_rfl)
    obtain rfl : vg = _ := hvg _ (Ok.refl _)
    exact wpOp_skip rfl (wanted_not rfl (by kernel_rfl) eg (by simp [undef])) (fun _ _ => rfl) (Ok.refl _)
  · intro a' w' hF hR
    obtain ⟨vg, hvg, eg⟩ := hF.get 8 36 (by kernel_rfl) (by kernel_rfl)
    obtain rfl : vg = _ := hvg _ (Ok.refl _)
    exact wpOp_skip rfl (wanted_not rfl (by kernel_rfl) eg (by simp)) (fun _ _ => rfl) (Ok.refl _)
  · intro a' w' hF hR
    obtain ⟨v8, hv8, e36⟩ := hF.get 8 36 (by kernel_rfl) (by kernel_rfl)
    obtain rfl : v8 = _ := hv8 _ (Ok.refl _)
    obtain ⟨v17, hv17, e45⟩ := hF.get 17 45 (by kernel_rfl) (by kernel_rfl)
    obtain rfl : v17 = _ := hv17 _ (Ok.refl _)
    refine wpOp_run (v := .bool true) rfl rfl ?_ (fun _ _ => rfl) (Ok.refl _)
    clear hF
    go_simp
  · intro a' w' hF hR
    obtain ⟨v18, hv18, e46⟩ := hF.get 18 46 (by kernel_rfl) (by kernel_rfl)
    obtain rfl : v18 = _ := hv18 _ (Ok.refl _)
    refine wpOp_run (v := .bool true) rfl rfl ?_ (fun _ _ => rfl) (Ok.refl _)
    clear hF
    go_simp
  intro us w3 hV hR
  have e19 : us 19 = .bool true := hV 19 (by decide) _ (Ok.refl _)
  have hok := HOK.out.trans ((Ok.refl w2).drew.trans hR)
  clear hV HA HOK KR KN
  simp only [putFrom, e19]
  simp only [Act.put, List.setIfInBounds_toArray, List.set_cons_zero, List.set_cons_succ]
  go_wp2
  go_ret
  exact ⟨rfl, hok⟩
/-- What each operation leaves. -/
def VMPyes (g h : Nat) (a1 a2 b1 b2 x y : Int) (w : World) (v : Value) : Nat → Prop
  | 0 => v = .agg #[.int .i64 a1, .int .i64 a2]
  | 1 => v = .bool true
  | 2 => v = .bool false
  | 3 => v = .bool false
  | 4 => v = .pointer (some ⟨g, 0, none⟩)
  | 5 => v = .int .i64 a1
  | 6 => v = .bool false
  | 7 => v = .bool false
  | 8 => v = .bool false
  | 9 => v = .agg #[.int .i64 a1, .int .i64 a2]
  | 10 => v = .agg #[.int .i64 a1, .int .i64 a2]
  | 11 => v = .agg #[.int .i64 x, .int .i64 y]
  | 12 => v = .bool true
  | 13 => v = .bool true
  | 14 => v = .agg #[.int .i64 a1, .int .i64 a2]
  | 15 => v = .agg #[.int .i64 x, .int .i64 y]
  | 16 => v = .bool true
  | 17 => v = .bool true
  | 18 => v = .bool true
  | 19 => v = .bool true
  | _ => v = .bool true
/-- It stays so. -/
def VCPyes (g h : Nat) (a1 a2 b1 b2 x y : Int) (i : Nat) (v : Value) (w : World) : Prop := ∀ w', Ok w w' → VMPyes g h a1 a2 b1 b2 x y w' v i
set_option maxHeartbeats 3200000 in
theorem yes (w : World) (a1 a2 b1 b2 : Int) (h : Hlc.right (a1, a2) = true) (h1 : a1 ≠ 2305843009213693952) : Calls Try.prog 3 #[stV (a1, a2), stV (b1, b2)] w fun e w' => e = .returned (.bool true) ∧ Ok w w' := by
  have KL := Lib.hid fun w => hlcLess (a1, a2) (b1, b2) w
  have KM := Lib.hid fun w => ref20Less (a1, a2) (b1, b2) w
  have KR := Lib.hid fun w => hlcRight (a1, a2) w
  have KS := Lib.hid fun w => ref20Right (a1, a2) w
  have KN := Lib.hid fun w => hlcNext (a1, a2) w
  have KO := Lib.hid fun w => ref20Next (a1, a2) w

  have hr := (Hlc.right_iff (a1, a2)).1 h
  obtain ⟨l1, l2, -⟩ := Hlc.next_less (s := (a1, a2)) ⟨hr.1.1, by have := hr.1.2; simp only at this ⊢; omega⟩ ⟨by have := hr.2.1; omega, hr.2.2⟩
  have KX := Lib.hid fun w => hlcLess (a1, a2) (Hlc.next (a1, a2)) w
  have KY := Lib.hid fun w => hlcRight (Hlc.next (a1, a2)) w
  rw [l1] at KX
  rw [l2] at KY
  clear hr l1 l2
  have HE := Lib.hid (show (a1 == 2305843009213693952) = false from beq_eq_false_iff_ne.2 h1)
  rw [h] at KR KS
  generalize Hlc.less (a1, a2) (b1, b2) = q at KL KM
  generalize Hlc.next (a1, a2) = z at KN KO KX KY
  obtain ⟨x, y⟩ := z
  clear h h1
  have HA := Lib.hid ((Box.new w a1 a2 23 rfl).next ((Ok.refl _).alloc (.cells #[.int .i64 b1, .int .i64 b2] 23)))
  have HB := Lib.hid (Box.new (w.alloc (.cells #[.int .i64 a1, .int .i64 a2] 23)) b1 b2 23 (g := w.heap.size + 1) (by simp))
  have HK := Lib.hid (((Ok.refl w).alloc (.cells #[.int .i64 a1, .int .i64 a2] 23)).alloc (.cells #[.int .i64 b1, .int .i64 b2] 23))
  go_enter Try.func3, Try.ntmps3
  go_upto_region 3 with (go_at_call 9; (with_reducible refine (law20Alive _).mono ?_); rintro e w1 ⟨rfl, hb1⟩; have hA := HA.out.next hb1; have hB := HB.out.next hb1; have hok := HK.out.trans hb1; clear hb1 HA HB HK)
  obtain ⟨h, hh⟩ : ∃ r, w.heap.size + 1 = r := ⟨_, rfl⟩
  rw [hh] at hB ⊢
  clear hh
  obtain ⟨g, hg⟩ : ∃ r, w.heap.size = r := ⟨_, rfl⟩
  rw [hg] at hA ⊢
  clear hg
  have HOK := Lib.hid hok
  have HA0 := Lib.hid hA
  have HA := Lib.hid fun W' (k : Ok w1.drew W') => hA.next ((Ok.refl w1).drew.trans k)
  have HB := Lib.hid fun W' (k : Ok w1.drew W') => hB.next ((Ok.refl w1).drew.trans k)
  clear hA hB hok
  refine wp_region_facts (by kernel_rfl) 47 rfl (VCQ g h a1 a2 b1 b2 x y q true) Ok (by kernel_rfl) (fun i v w w' h k w'' k' => h w'' (k.trans k')) (fun a b c => Ok.trans) (Ok.refl _) [some 7, some 8, some 9, some 10, some 11, some 12, some 13, some 14, some 15, some 16, some 17, some 18, some 19, some 20, some 21, some 22, some 23, some 24, some 25, some 26, some 27] rfl 21 rfl ⟨?_, ?_, ?_, ?_, ?_, ?_, ?_, ?_, ?_, ?_, ?_, ?_, ?_, ?_, ?_, ?_, ?_, ?_, ?_, ?_, ?_, trivial⟩ ?_
  · intro a' w' hF hR
    have e2 : a'.tmps[2]? = some (.pointer (some ⟨g, 0, none⟩)) := hF.slot 2 (by kernel_rfl) rfl
    obtain ⟨c0, c1, hcl⟩ := HA.out _ hR
    refine wpOp_run (v := .agg #[.int .i64 a1, .int .i64 a2]) rfl rfl ?_ (fun _ _ => rfl) (Ok.refl _)
    clear hF
    go_simp
  · intro a' w' hF hR
    have e3 : a'.tmps[3]? = some (.pointer (some ⟨h, 0, none⟩)) := hF.slot 3 (by kernel_rfl) rfl
    obtain ⟨d0, d1, hdl⟩ := HB.out _ hR
    refine wpOp_run (v := .agg #[.int .i64 b1, .int .i64 b2]) rfl rfl ?_ (fun _ _ => rfl) (Ok.refl _)
    clear hF
    go_simp
  · intro a' w' hF hR
    obtain ⟨v0, hv0, e7⟩ := hF.get 0 7 (by kernel_rfl) (by kernel_rfl)
    obtain rfl : v0 = _ := hv0 _ (Ok.refl _)
    obtain ⟨v1, hv1, e8⟩ := hF.get 1 8 (by kernel_rfl) (by kernel_rfl)
    obtain rfl : v1 = _ := hv1 _ (Ok.refl _)
    clear hF
    refine wpOp_call (f := 10) (args := #[.agg #[.int .i64 a1, .int .i64 a2], .agg #[.int .i64 b1, .int .i64 b2]]) rfl rfl ?_ ((KL.out _).mono ?_)
    · go_simp
    · rintro e w2 ⟨rfl, hb2⟩; exact ⟨_, rfl, fun _ _ => rfl, hb2⟩
  · intro a' w' hF hR
    have e2 : a'.tmps[2]? = some (.pointer (some ⟨g, 0, none⟩)) := hF.slot 2 (by kernel_rfl) rfl
    obtain ⟨c0, c1, hcl⟩ := HA.out _ hR
    refine wpOp_run (v := .agg #[.int .i64 a1, .int .i64 a2]) rfl rfl ?_ (fun _ _ => rfl) (Ok.refl _)
    clear hF
    go_simp
  · intro a' w' hF hR
    have e3 : a'.tmps[3]? = some (.pointer (some ⟨h, 0, none⟩)) := hF.slot 3 (by kernel_rfl) rfl
    obtain ⟨d0, d1, hdl⟩ := HB.out _ hR
    refine wpOp_run (v := .agg #[.int .i64 b1, .int .i64 b2]) rfl rfl ?_ (fun _ _ => rfl) (Ok.refl _)
    clear hF
    go_simp
  · intro a' w' hF hR
    obtain ⟨v3, hv3, e10⟩ := hF.get 3 10 (by kernel_rfl) (by kernel_rfl)
    obtain rfl : v3 = _ := hv3 _ (Ok.refl _)
    obtain ⟨v4, hv4, e11⟩ := hF.get 4 11 (by kernel_rfl) (by kernel_rfl)
    obtain rfl : v4 = _ := hv4 _ (Ok.refl _)
    clear hF
    refine wpOp_call (f := 11) (args := #[.agg #[.int .i64 a1, .int .i64 a2], .agg #[.int .i64 b1, .int .i64 b2]]) rfl rfl ?_ ((KM.out _).mono ?_)
    · go_simp
    · rintro e w2 ⟨rfl, hb2⟩; exact ⟨_, rfl, fun _ _ => rfl, hb2⟩
  · intro a' w' hF hR
    obtain ⟨v2, hv2, e9⟩ := hF.get 2 9 (by kernel_rfl) (by kernel_rfl)
    obtain rfl : v2 = _ := hv2 _ (Ok.refl _)
    obtain ⟨v5, hv5, e12⟩ := hF.get 5 12 (by kernel_rfl) (by kernel_rfl)
    obtain rfl : v5 = _ := hv5 _ (Ok.refl _)
    refine wpOp_run (v := .bool false) rfl rfl ?_ (fun _ _ => rfl) (Ok.refl _)
    clear hF
    cases q <;> go_simp
  · intro a' w' hF hR
    obtain ⟨v6, hv6, e13⟩ := hF.get 6 13 (by kernel_rfl) (by kernel_rfl)
    obtain rfl : v6 = _ := hv6 _ (Ok.refl _)
    refine wpOp_run (v := .bool false) rfl rfl ?_ (fun _ _ => rfl) (Ok.refl _)
    clear hF
    go_simp
  · intro a' w' hF hR
    have e2 : a'.tmps[2]? = some (.pointer (some ⟨g, 0, none⟩)) := hF.slot 2 (by kernel_rfl) rfl
    obtain ⟨vg, hvg, eg⟩ := hF.get 7 14 (by kernel_rfl) (by kernel_rfl)
    obtain rfl : vg = _ := hvg _ (Ok.refl _)
    obtain ⟨c0, c1, hcl⟩ := HA.out _ hR
    refine wpOp_runG (v := .agg #[.int .i64 a1, .int .i64 a2]) rfl (wanted_yes rfl (by kernel_rfl) eg) ?_ (fun _ _ => rfl) (Ok.refl _)
    clear hF
    go_simp
  · intro a' w' hF hR
    obtain ⟨v8, hv8, e15⟩ := hF.get 8 15 (by kernel_rfl) (by kernel_rfl)
    obtain rfl : v8 = _ := hv8 _ (Ok.refl _)
    obtain ⟨vg, hvg, eg⟩ := hF.get 7 14 (by kernel_rfl) (by kernel_rfl)
    obtain rfl : vg = _ := hvg _ (Ok.refl _)
    refine wpOp_callG (f := 12) (args := #[.agg #[.int .i64 a1, .int .i64 a2]]) rfl (wanted_yes rfl (by kernel_rfl) eg) ?_ ((KR.out _).mono ?_)
    · go_simp
    · rintro e w2 ⟨rfl, hb2⟩; exact ⟨_, rfl, fun _ _ => rfl, hb2⟩
  · intro a' w' hF hR
    have e2 : a'.tmps[2]? = some (.pointer (some ⟨g, 0, none⟩)) := hF.slot 2 (by kernel_rfl) rfl
    obtain ⟨vg, hvg, eg⟩ := hF.get 7 14 (by kernel_rfl) (by kernel_rfl)
    obtain rfl : vg = _ := hvg _ (Ok.refl _)
    obtain ⟨c0, c1, hcl⟩ := HA.out _ hR
    refine wpOp_runG (v := .agg #[.int .i64 a1, .int .i64 a2]) rfl (wanted_yes rfl (by kernel_rfl) eg) ?_ (fun _ _ => rfl) (Ok.refl _)
    clear hF
    go_simp
  · intro a' w' hF hR
    obtain ⟨v10, hv10, e17⟩ := hF.get 10 17 (by kernel_rfl) (by kernel_rfl)
    obtain rfl : v10 = _ := hv10 _ (Ok.refl _)
    obtain ⟨vg, hvg, eg⟩ := hF.get 7 14 (by kernel_rfl) (by kernel_rfl)
    obtain rfl : vg = _ := hvg _ (Ok.refl _)
    refine wpOp_callG (f := 13) (args := #[.agg #[.int .i64 a1, .int .i64 a2]]) rfl (wanted_yes rfl (by kernel_rfl) eg) ?_ ((KS.out _).mono ?_)
    · go_simp
    · rintro e w2 ⟨rfl, hb2⟩; exact ⟨_, rfl, fun _ _ => rfl, hb2⟩
  · intro a' w' hF hR
    obtain ⟨v9, hv9, e16⟩ := hF.get 9 16 (by kernel_rfl) (by kernel_rfl)
    obtain rfl : v9 = _ := hv9 _ (Ok.refl _)
    obtain ⟨v11, hv11, e18⟩ := hF.get 11 18 (by kernel_rfl) (by kernel_rfl)
    obtain rfl : v11 = _ := hv11 _ (Ok.refl _)
    obtain ⟨vg, hvg, eg⟩ := hF.get 7 14 (by kernel_rfl) (by kernel_rfl)
    obtain rfl : vg = _ := hvg _ (Ok.refl _)
    refine wpOp_runG (v := .bool false) rfl (wanted_yes rfl (by kernel_rfl) eg) ?_ (fun _ _ => rfl) (Ok.refl _)
    clear hF
    go_simp
  · intro a' w' hF hR
    obtain ⟨v7, hv7, e14⟩ := hF.get 7 14 (by kernel_rfl) (by kernel_rfl)
    obtain rfl : v7 = _ := hv7 _ (Ok.refl _)
    obtain ⟨v12, hv12, e19⟩ := hF.get 12 19 (by kernel_rfl) (by kernel_rfl)
    obtain rfl : v12 = _ := hv12 _ (Ok.refl _)
    refine wpOp_run (v := .bool false) rfl rfl ?_ (fun _ _ => rfl) (Ok.refl _)
    clear hF
    go_simp
  · intro a' w' hF hR
    obtain ⟨v13, hv13, e20⟩ := hF.get 13 20 (by kernel_rfl) (by kernel_rfl)
    obtain rfl : v13 = _ := hv13 _ (Ok.refl _)
    refine wpOp_run (v := .bool false) rfl rfl ?_ (fun _ _ => rfl) (Ok.refl _)
    clear hF
    go_simp
  · intro a' w' hF hR
    have e2 : a'.tmps[2]? = some (.pointer (some ⟨g, 0, none⟩)) := hF.slot 2 (by kernel_rfl) rfl
    obtain ⟨vg, hvg, eg⟩ := hF.get 14 21 (by kernel_rfl) (by kernel_rfl)
    obtain rfl : vg = _ := hvg _ (Ok.refl _)
    obtain ⟨c0, c1, hcl⟩ := HA.out _ hR
    refine wpOp_runG (v := .agg #[.int .i64 a1, .int .i64 a2]) rfl (wanted_yes rfl (by kernel_rfl) eg) ?_ (fun _ _ => rfl) (Ok.refl _)
    clear hF
    go_simp
  · intro a' w' hF hR
    obtain ⟨v15, hv15, e22⟩ := hF.get 15 22 (by kernel_rfl) (by kernel_rfl)
    obtain rfl : v15 = _ := hv15 _ (Ok.refl _)
    obtain ⟨vg, hvg, eg⟩ := hF.get 14 21 (by kernel_rfl) (by kernel_rfl)
    obtain rfl : vg = _ := hvg _ (Ok.refl _)
    refine wpOp_callG (f := 14) (args := #[.agg #[.int .i64 a1, .int .i64 a2]]) rfl (wanted_yes rfl (by kernel_rfl) eg) ?_ ((KN.out _).mono ?_)
    · go_simp
    · rintro e w2 ⟨rfl, hb2⟩; exact ⟨_, rfl, fun _ _ => rfl, hb2⟩
  · intro a' w' hF hR
    have e2 : a'.tmps[2]? = some (.pointer (some ⟨g, 0, none⟩)) := hF.slot 2 (by kernel_rfl) rfl
    obtain ⟨vg, hvg, eg⟩ := hF.get 14 21 (by kernel_rfl) (by kernel_rfl)
    obtain rfl : vg = _ := hvg _ (Ok.refl _)
    obtain ⟨c0, c1, hcl⟩ := HA.out _ hR
    refine wpOp_runG (v := .agg #[.int .i64 a1, .int .i64 a2]) rfl (wanted_yes rfl (by kernel_rfl) eg) ?_ (fun _ _ => rfl) (Ok.refl _)
    clear hF
    go_simp
  · intro a' w' hF hR
    obtain ⟨v17, hv17, e24⟩ := hF.get 17 24 (by kernel_rfl) (by kernel_rfl)
    obtain rfl : v17 = _ := hv17 _ (Ok.refl _)
    obtain ⟨vg, hvg, eg⟩ := hF.get 14 21 (by kernel_rfl) (by kernel_rfl)
    obtain rfl : vg = _ := hvg _ (Ok.refl _)
    refine wpOp_callG (f := 15) (args := #[.agg #[.int .i64 a1, .int .i64 a2]]) rfl (wanted_yes rfl (by kernel_rfl) eg) ?_ ((KO.out _).mono ?_)
    · go_simp
    · rintro e w2 ⟨rfl, hb2⟩; exact ⟨_, rfl, fun _ _ => rfl, hb2⟩
  · intro a' w' hF hR
    obtain ⟨v16, hv16, e23⟩ := hF.get 16 23 (by kernel_rfl) (by kernel_rfl)
    obtain rfl : v16 = _ := hv16 _ (Ok.refl _)
    obtain ⟨v18, hv18, e25⟩ := hF.get 18 25 (by kernel_rfl) (by kernel_rfl)
    obtain rfl : v18 = _ := hv18 _ (Ok.refl _)
    obtain ⟨vg, hvg, eg⟩ := hF.get 14 21 (by kernel_rfl) (by kernel_rfl)
    obtain rfl : vg = _ := hvg _ (Ok.refl _)
    have hE := eqStamp20 x y x y
    have hq : (x == x && y == y) = true := by simp
    rw [hq] at hE
    refine wpOp_runG (v := .bool false) rfl (wanted_yes rfl (by kernel_rfl) eg) ?_ (fun _ _ => rfl) (Ok.refl _)
    clear hF
    go_simp
  · intro a' w' hF hR
    obtain ⟨v14, hv14, e21⟩ := hF.get 14 21 (by kernel_rfl) (by kernel_rfl)
    obtain rfl : v14 = _ := hv14 _ (Ok.refl _)
    obtain ⟨v19, hv19, e26⟩ := hF.get 19 26 (by kernel_rfl) (by kernel_rfl)
    obtain rfl : v19 = _ := hv19 _ (Ok.refl _)
    refine wpOp_run (v := .bool false) rfl rfl ?_ (fun _ _ => rfl) (Ok.refl _)
    clear hF
    go_simp
  intro vs w2 hV hR
  have e20 : vs 20 = .bool false := hV 20 (by decide) _ (Ok.refl _)
  have hA := HA0.out.next ((Ok.refl w1).drew.trans hR)
  have hok := HOK.out.trans ((Ok.refl w1).drew.trans hR)
  clear hV HA HB HA0 HOK KL KM KS KO
  simp only [putFrom, e20]
  simp only [Act.put, List.setIfInBounds_toArray, List.set_cons_zero, List.set_cons_succ]
  go_upto_region 5 with fail
  have HOK := Lib.hid hok
  have HA := Lib.hid fun W' (k : Ok w2.drew W') => hA.next ((Ok.refl w2).drew.trans k)
  clear hA hok e20
  refine wp_region_facts (by kernel_rfl) 47 rfl (VCPyes g h a1 a2 b1 b2 x y) Ok (by kernel_rfl) (fun i v w w' h k w'' k' => h w'' (k.trans k')) (fun a b c => Ok.trans) (Ok.refl _) [some 28, some 29, some 30, some 31, some 32, some 33, some 34, some 35, some 36, some 37, some 38, some 39, some 40, some 41, some 42, some 43, some 44, some 45, some 46, some 4] rfl 20 rfl ⟨?_, ?_, ?_, ?_, ?_, ?_, ?_, ?_, ?_, ?_, ?_, ?_, ?_, ?_, ?_, ?_, ?_, ?_, ?_, ?_, trivial⟩ ?_
  · intro a' w' hF hR
    have e2 : a'.tmps[2]? = some (.pointer (some ⟨g, 0, none⟩)) := hF.slot 2 (by kernel_rfl) rfl
    obtain ⟨c0, c1, hcl⟩ := HA.out _ hR
    refine wpOp_run (v := .agg #[.int .i64 a1, .int .i64 a2]) rfl rfl ?_ (fun _ _ => rfl) (Ok.refl _)
    clear hF
    go_simp
  · intro a' w' hF hR
    obtain ⟨v0, hv0, e28⟩ := hF.get 0 28 (by kernel_rfl) (by kernel_rfl)
    obtain rfl : v0 = _ := hv0 _ (Ok.refl _)
    clear hF
    refine wpOp_call (f := 12) (args := #[.agg #[.int .i64 a1, .int .i64 a2]]) rfl rfl ?_ ((KR.out _).mono ?_)
    · go_simp
    · rintro e w2 ⟨rfl, hb2⟩; exact ⟨_, rfl, fun _ _ => rfl, hb2⟩
  · intro a' w' hF hR
    obtain ⟨v1, hv1, e29⟩ := hF.get 1 29 (by kernel_rfl) (by kernel_rfl)
    obtain rfl : v1 = _ := hv1 _ (Ok.refl _)
    refine wpOp_run (v := .bool false) rfl rfl ?_ (fun _ _ => rfl) (Ok.refl _)
    clear hF
    go_simp
  · intro a' w' hF hR
    obtain ⟨v2, hv2, e30⟩ := hF.get 2 30 (by kernel_rfl) (by kernel_rfl)
    obtain rfl : v2 = _ := hv2 _ (Ok.refl _)
    refine wpOp_run (v := .bool false) rfl rfl ?_ (fun _ _ => rfl) (Ok.refl _)
    clear hF
    go_simp
  · intro a' w' hF hR
    have e2 : a'.tmps[2]? = some (.pointer (some ⟨g, 0, none⟩)) := hF.slot 2 (by kernel_rfl) rfl
    obtain ⟨vg, hvg, eg⟩ := hF.get 3 31 (by kernel_rfl) (by kernel_rfl)
    obtain rfl : vg = _ := hvg _ (Ok.refl _)
    refine wpOp_runG (v := .pointer (some ⟨g, 0, none⟩)) rfl (wanted_yes rfl (by kernel_rfl) eg) ?_ (fun _ _ => rfl) (Ok.refl _)
    clear hF
    go_simp
  · intro a' w' hF hR
    obtain ⟨v4, hv4, e32⟩ := hF.get 4 32 (by kernel_rfl) (by kernel_rfl)
    obtain rfl : v4 = _ := hv4 _ (Ok.refl _)
    obtain ⟨vg, hvg, eg⟩ := hF.get 3 31 (by kernel_rfl) (by kernel_rfl)
    obtain rfl : vg = _ := hvg _ (Ok.refl _)
    obtain ⟨c0, c1, hcl⟩ := HA.out _ hR
    refine wpOp_runG (v := .int .i64 a1) rfl (wanted_yes rfl (by kernel_rfl) eg) ?_ (fun _ _ => rfl) (Ok.refl _)
    clear hF
    go_simp
  · intro a' w' hF hR
    obtain ⟨v5, hv5, e33⟩ := hF.get 5 33 (by kernel_rfl) (by kernel_rfl)
    obtain rfl : v5 = _ := hv5 _ (Ok.refl _)
    obtain ⟨vg, hvg, eg⟩ := hF.get 3 31 (by kernel_rfl) (by kernel_rfl)
    obtain rfl : vg = _ := hvg _ (Ok.refl _)
    have he := HE.out
    refine wpOp_runG (v := .bool false) rfl (wanted_yes rfl (by kernel_rfl) eg) ?_ (fun _ _ => rfl) (Ok.refl _)
    clear hF
    go_simp
  · intro a' w' hF hR
    obtain ⟨v3, hv3, e31⟩ := hF.get 3 31 (by kernel_rfl) (by kernel_rfl)
    obtain rfl : v3 = _ := hv3 _ (Ok.refl _)
    obtain ⟨v6, hv6, e34⟩ := hF.get 6 34 (by kernel_rfl) (by kernel_rfl)
    obtain rfl : v6 = _ := hv6 _ (Ok.refl _)
    refine wpOp_run (v := .bool false) rfl rfl ?_ (fun _ _ => rfl) (Ok.refl _)
    clear hF
    go_simp
  · intro a' w' hF hR
    obtain ⟨v7, hv7, e35⟩ := hF.get 7 35 (by kernel_rfl) (by kernel_rfl)
    obtain rfl : v7 = _ := hv7 _ (Ok.refl _)
    refine wpOp_run (v := .bool false) rfl rfl ?_ (fun _ _ => rfl) (Ok.refl _)
    clear hF
    go_simp
  · intro a' w' hF hR
    have e2 : a'.tmps[2]? = some (.pointer (some ⟨g, 0, none⟩)) := hF.slot 2 (by kernel_rfl) rfl
    obtain ⟨vg, hvg, eg⟩ := hF.get 8 36 (by kernel_rfl) (by kernel_rfl)
    obtain rfl : vg = _ := hvg _ (Ok.refl _)
    obtain ⟨c0, c1, hcl⟩ := HA.out _ hR
    refine wpOp_runG (v := .agg #[.int .i64 a1, .int .i64 a2]) rfl (wanted_yes rfl (by kernel_rfl) eg) ?_ (fun _ _ => rfl) (Ok.refl _)
    clear hF
    go_simp
  · intro a' w' hF hR
    have e2 : a'.tmps[2]? = some (.pointer (some ⟨g, 0, none⟩)) := hF.slot 2 (by kernel_rfl) rfl
    obtain ⟨vg, hvg, eg⟩ := hF.get 8 36 (by kernel_rfl) (by kernel_rfl)
    obtain rfl : vg = _ := hvg _ (Ok.refl _)
    obtain ⟨c0, c1, hcl⟩ := HA.out _ hR
    refine wpOp_runG (v := .agg #[.int .i64 a1, .int .i64 a2]) rfl (wanted_yes rfl (by kernel_rfl) eg) ?_ (fun _ _ => rfl) (Ok.refl _)
    clear hF
    go_simp
  · intro a' w' hF hR
    obtain ⟨v10, hv10, e38⟩ := hF.get 10 38 (by kernel_rfl) (by kernel_rfl)
    obtain rfl : v10 = _ := hv10 _ (Ok.refl _)
    obtain ⟨vg, hvg, eg⟩ := hF.get 8 36 (by kernel_rfl) (by kernel_rfl)
    obtain rfl : vg = _ := hvg _ (Ok.refl _)
    refine wpOp_callG (f := 14) (args := #[.agg #[.int .i64 a1, .int .i64 a2]]) rfl (wanted_yes rfl (by kernel_rfl) eg) ?_ ((KN.out _).mono ?_)
    · go_simp
    · rintro e w2 ⟨rfl, hb2⟩; exact ⟨_, rfl, fun _ _ => rfl, hb2⟩
  · intro a' w' hF hR
    obtain ⟨v9, hv9, e37⟩ := hF.get 9 37 (by kernel_rfl) (by kernel_rfl)
    obtain rfl : v9 = _ := hv9 _ (Ok.refl _)
    obtain ⟨v11, hv11, e39⟩ := hF.get 11 39 (by kernel_rfl) (by kernel_rfl)
    obtain rfl : v11 = _ := hv11 _ (Ok.refl _)
    obtain ⟨vg, hvg, eg⟩ := hF.get 8 36 (by kernel_rfl) (by kernel_rfl)
    obtain rfl : vg = _ := hvg _ (Ok.refl _)
    refine wpOp_callG (f := 10) (args := #[.agg #[.int .i64 a1, .int .i64 a2], .agg #[.int .i64 x, .int .i64 y]]) rfl (wanted_yes rfl (by kernel_rfl) eg) ?_ ((KX.out _).mono ?_)
    · go_simp
    · rintro e w2 ⟨rfl, hb2⟩; exact ⟨_, rfl, fun _ _ => rfl, hb2⟩
  · intro a' w' hF hR
    obtain ⟨v12, hv12, e40⟩ := hF.get 12 40 (by kernel_rfl) (by kernel_rfl)
    obtain rfl : v12 = _ := hv12 _ (Ok.refl _)
    obtain ⟨vg, hvg, eg⟩ := hF.get 8 36 (by kernel_rfl) (by kernel_rfl)
    obtain rfl : vg = _ := hvg _ (Ok.refl _)
    refine wpOp_runG (v := .bool true) rfl (wanted_yes rfl (by kernel_rfl) eg) ?_ (fun _ _ => rfl) (Ok.refl _)
    clear hF
    go_simp
  · intro a' w' hF hR
    have e2 : a'.tmps[2]? = some (.pointer (some ⟨g, 0, none⟩)) := hF.slot 2 (by kernel_rfl) rfl
    obtain ⟨vg, hvg, eg⟩ := hF.get 13 41 (by kernel_rfl) (by kernel_rfl)
    obtain rfl : vg = _ := hvg _ (Ok.refl _)
    obtain ⟨c0, c1, hcl⟩ := HA.out _ hR
    refine wpOp_runG (v := .agg #[.int .i64 a1, .int .i64 a2]) rfl (wanted_yes rfl (by kernel_rfl) eg) ?_ (fun _ _ => rfl) (Ok.refl _)
    clear hF
    go_simp
  · intro a' w' hF hR
    obtain ⟨v14, hv14, e42⟩ := hF.get 14 42 (by kernel_rfl) (by kernel_rfl)
    obtain rfl : v14 = _ := hv14 _ (Ok.refl _)
    obtain ⟨vg, hvg, eg⟩ := hF.get 13 41 (by kernel_rfl) (by kernel_rfl)
    obtain rfl : vg = _ := hvg _ (Ok.refl _)
    refine wpOp_callG (f := 14) (args := #[.agg #[.int .i64 a1, .int .i64 a2]]) rfl (wanted_yes rfl (by kernel_rfl) eg) ?_ ((KN.out _).mono ?_)
    · go_simp
    · rintro e w2 ⟨rfl, hb2⟩; exact ⟨_, rfl, fun _ _ => rfl, hb2⟩
  · intro a' w' hF hR
    obtain ⟨v15, hv15, e43⟩ := hF.get 15 43 (by kernel_rfl) (by kernel_rfl)
    obtain rfl : v15 = _ := hv15 _ (Ok.refl _)
    obtain ⟨vg, hvg, eg⟩ := hF.get 13 41 (by kernel_rfl) (by kernel_rfl)
    obtain rfl : vg = _ := hvg _ (Ok.refl _)
    refine wpOp_callG (f := 12) (args := #[.agg #[.int .i64 x, .int .i64 y]]) rfl (wanted_yes rfl (by kernel_rfl) eg) ?_ ((KY.out _).mono ?_)
    · go_simp
    · rintro e w2 ⟨rfl, hb2⟩; exact ⟨_, rfl, fun _ _ => rfl, hb2⟩
  · intro a' w' hF hR
    obtain ⟨v13, hv13, e41⟩ := hF.get 13 41 (by kernel_rfl) (by kernel_rfl)
    obtain rfl : v13 = _ := hv13 _ (Ok.refl _)
    obtain ⟨v16, hv16, e44⟩ := hF.get 16 44 (by kernel_rfl) (by kernel_rfl)
    obtain rfl : v16 = _ := hv16 _ (Ok.refl _)
    obtain ⟨vg, hvg, eg⟩ := hF.get 8 36 (by kernel_rfl) (by kernel_rfl)
    obtain rfl : vg = _ := hvg _ (Ok.refl _)
    refine wpOp_runG (v := .bool true) rfl (wanted_yes rfl (by kernel_rfl) eg) ?_ (fun _ _ => rfl) (Ok.refl _)
    clear hF
    go_simp
  · intro a' w' hF hR
    obtain ⟨v8, hv8, e36⟩ := hF.get 8 36 (by kernel_rfl) (by kernel_rfl)
    obtain rfl : v8 = _ := hv8 _ (Ok.refl _)
    obtain ⟨v17, hv17, e45⟩ := hF.get 17 45 (by kernel_rfl) (by kernel_rfl)
    obtain rfl : v17 = _ := hv17 _ (Ok.refl _)
    refine wpOp_run (v := .bool true) rfl rfl ?_ (fun _ _ => rfl) (Ok.refl _)
    clear hF
    go_simp
  · intro a' w' hF hR
    obtain ⟨v18, hv18, e46⟩ := hF.get 18 46 (by kernel_rfl) (by kernel_rfl)
    obtain rfl : v18 = _ := hv18 _ (Ok.refl _)
    refine wpOp_run (v := .bool true) rfl rfl ?_ (fun _ _ => rfl) (Ok.refl _)
    clear hF
    go_simp
  intro us w3 hV hR
  have e19 : us 19 = .bool true := hV 19 (by decide) _ (Ok.refl _)
  have hok := HOK.out.trans ((Ok.refl w2).drew.trans hR)
  clear hV HA HOK KR KN KX KY
  simp only [putFrom, e19]
  simp only [Act.put, List.setIfInBounds_toArray, List.set_cons_zero, List.set_cons_succ]
  go_wp2
  go_ret
  exact ⟨rfl, hok⟩
theorem walk (w : World) (a1 a2 : Int) (wa1 : (Lit.int .i64 a1).wf = true) (wa2 : (Lit.int .i64 a2).wf = true) (b1 b2 : Int) (wb1 : (Lit.int .i64 b1).wf = true) (wb2 : (Lit.int .i64 b2).wf = true) :
    Calls Try.prog 3 #[.agg #[.int .i64 a1, .int .i64 a2], .agg #[.int .i64 b1, .int .i64 b2]] w fun e w' => e = .returned (.bool true) ∧ Below w.heap.size w w' := by
  show Calls Try.prog 3 #[stV (a1, a2), stV (b1, b2)] w fun e w' => e = .returned (.bool true) ∧ Ok w w' 
  by_cases h : Hlc.right (a1, a2) = true
  · by_cases h1 : a1 = 2305843009213693952
    · exact most w a1 a2 b1 b2 h h1
    · exact yes w a1 a2 b1 b2 h h1
  · exact wrong w a1 a2 b1 b2 (by simpa using h)
theorem own : ownKnob Try.prog.godebug = none := by kernel_rfl
theorem laidOut : laidOutB Try.prog = true := by kernel_rfl
set_option maxRecDepth 100000 in
theorem lifted (os : Os) (started : os.Started) (H : Type) (enc : TypeId × Value → H) :
    ReturnsInHanded {} Try.checked os 3 .any (Rows.hlcOrdersSpec.pre6 enc Try.prog Try.f3 Rows.hlcOrdersRow.domain false) (Rows.hlcOrdersSpec.post enc Try.prog Try.f3 false true false false) := by
  refine returnsInHanded_of_change (C := Try.checked) own started (by kernel_rfl) Try.func3
    (ChangeSpec.witness6 (enc := enc) (C := Try.checked) false ⟨#[], #[.agg #[.int .i64 0, .int .i64 0], .agg #[.int .i64 0, .int .i64 0]], []⟩ 8 (by kernel_rfl) (by kernel_rfl) (by kernel_rfl) (by kernel_rfl)) ?_
  intro W base args ds gs before hval0 hW _ _
  have hval : ∀ (j : Nat) t v, Try.f3.params[j]? = some t → args[j]? = some v → Value.okWide Try.prog W .any base t v := hval0
  have hW' := hW
  obtain ⟨p, q, hA, hV, rfl, _, _⟩ := hW
  obtain ⟨rfl, rfl⟩ := trodVars_none hV
  replace hA : DataW.TrodAll enc Try.prog W 0 (fun _ => true) true Try.f3.params.toList args.toList ds p := hA
  rw [Try.params3] at hA hval
  obtain ⟨v0, vs0, d0, ds0, p0, q0, hargs, rfl, rfl, h0, r0⟩ := trodAll_cons hA
  obtain ⟨v1, vs1, d1, ds1, p1, q1, rfl, rfl, rfl, h1, r1⟩ := trodAll_cons r0
  obtain ⟨rfl, rfl, rfl⟩ := trodAll_nil r1
  obtain rfl : args = #[v0, v1] := by cases args; simp_all
  obtain ⟨s0_0, s0_1, rfl, ws0_0, ws0_1⟩ := open_pair Try.underlying23 (by kernel_rfl) (by kernel_rfl) (by kernel_rfl) (by kernel_rfl) (hval 0 23 v0 rfl rfl) h0
  obtain ⟨s1_0, s1_1, rfl, ws1_0, ws1_1⟩ := open_pair Try.underlying23 (by kernel_rfl) (by kernel_rfl) (by kernel_rfl) (by kernel_rfl) (hval 1 23 v1 rfl rfl) h1
  refine (walk W s0_0 s0_1 ws0_0 ws0_1 s1_0 s1_1 ws1_0 ws1_1).mono fun e W' ⟨he, hb⟩ => ?_
  subst he
  exact ⟨_, rfl, law_post hW' laidOut (by rw [Try.params3]; exact params_ok (by kernel_rfl)) rfl (by kernel_rfl) Try.underlying4 rfl rfl rfl hb⟩
theorem over : Rows.hlcOrdersRow.holds Try.pinned (OpenSpec.ofChange Rows.hlcOrdersSpec) :=
  OpenClaim.holds_of_wide 3 Try.f3 rfl rfl rfl rfl rfl rfl rfl ⟨rfl, rfl, rfl, rfl, rfl⟩ rfl rfl rfl rfl rfl (by kernel_rfl) Try.func3 (by kernel_rfl)
    (of_decide_eq_true (by kernel_rfl)) (by unfold Func.isWrapper; first | (rw [if_pos (by decide +kernel)]; kernel_rfl) | (rw [if_neg (by decide +kernel)]; exact ⟨rfl, rfl⟩))
    (fun os started H enc _ => lifted os started H enc)
theorem proved : Rows.HlcOrdersSaid := over
end Go.Proofs.Ytgfnfjkajahoaaa.hlcOrders
