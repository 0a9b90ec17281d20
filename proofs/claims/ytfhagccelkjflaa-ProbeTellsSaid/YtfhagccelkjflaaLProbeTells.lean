/- ProbeTells: for every fabric's numbers and every trip the law answers true: Ahead and Right are the document's. No condition. -/
import Derived.Test.YtfhagccelkjflaaC10c
import Derived.Test.YtfhagccelkjflaaW06
namespace Go.Proofs.Ytfhagccelkjflaa.probeTells
open Go.ChangeShapes Go.WideShapes Go.ChangeAt Go.RowKit
set_option linter.unusedVariables false
set_option maxRecDepth 100000
attribute [local go_sem ↓] Go.wp_at_zero Go.wp_at_succ
/-- What each operation leaves. -/
def VMT (B T g : Nat) (p : Par) (t : Trp) (x y : Int) (d : Bool) (w : World) (v : Value) : Nat → Prop
  | 0 => v = parV p
  | 1 => v = tripV t
  | 2 => v = spanV x y
  | 3 => v = spanV x y
  | 4 => v = .bool true
  | 5 => v = .bool true
  | 6 => v = parV p
  | 7 => v = tripV t
  | 8 => v = .bool d
  | 9 => v = .pointer (some ⟨g, 0, none⟩)
  | 10 => v = .int .i64 x
  | 11 => v = .pointer (some ⟨g, 1, none⟩)
  | 12 => v = .int .i64 y
  | 13 => v = .bool d
  | 14 => v = .bool true
  | 15 => v = .bool true
  | 16 => v = .bool true
  | _ => v = .bool true
/-- It stays so. -/
def VCT (B T g : Nat) (p : Par) (t : Trp) (x y : Int) (d : Bool) (i : Nat) (v : Value) (w : World) : Prop := ∀ w', Ok w w' → VMT B T g p t x y d w' v i
set_option maxHeartbeats 3200000 in
theorem walk (w : World) (p : Par) (wp : ParWf p) (s0 s1 s2 s3 : Int) (ws0 : (Lit.int .i64 s0).wf = true) (ws1 : (Lit.int .i64 s1).wf = true) (ws2 : (Lit.int .i64 s2).wf = true) (ws3 : (Lit.int .i64 s3).wf = true) :
    Calls Try.prog 3 #[parV p, .agg #[.int .i64 s0, .int .i64 s1, .int .i64 s2, .int .i64 s3]] w fun e w' => e = .returned (.bool true) ∧ Below w.heap.size w w' := by
  clear wp ws0 ws1 ws2 ws3
  obtain ⟨t, ht⟩ : ∃ t : Trp, t = ⟨s0, s1, s2, s3⟩ := ⟨_, rfl⟩
  show Calls Try.prog _ #[parV p, tripV ⟨s0, s1, s2, s3⟩] w _
  rw [← ht]
  clear ht
  have KL := Lib.hid fun w => law10Ahead p t w
  have KA := Lib.hid fun w => probeAhead p t w
  have KR := Lib.hid fun w => probeRight p t w
  obtain ⟨x, hx⟩ : ∃ a, (Probe.ah p t).1 = a := ⟨_, rfl⟩
  obtain ⟨y, hy⟩ : ∃ a, (Probe.ah p t).2 = a := ⟨_, rfl⟩
  rw [hx, hy] at KL KA KR
  clear hx hy
  obtain ⟨d, hd⟩ : ∃ d, decide (x ≤ y) = d := ⟨_, rfl⟩
  rw [hd] at KR
  have HD := Lib.hid hd
  clear hd
  have hP := (Own.new w (parCells p) 23 rfl).alloc (.cells (tripCells t) 25)
  have hT := Own.new (w.alloc (.cells (parCells p) 23)) (tripCells t) 25 (g := w.heap.size + 1) (by simp)
  have hok := ((Ok.refl w).alloc (.cells (parCells p) 23)).alloc (.cells (tripCells t) 25)
  have HP := Lib.hid hP
  have HT := Lib.hid hT
  have HK := Lib.hid hok
  clear hP hT hok
  go_enter Try.func3, Try.ntmps3
  go_upto_region 4 with (first | (go_at_call 7; (with_reducible refine (law10Alive _).mono ?_); rintro e w1 ⟨rfl, hb1⟩; have hP := HP.out.next hb1; have hT := HT.out.next hb1; have hok := HK.out.trans hb1; clear hb1 HP HT HK; obtain ⟨c0, c1, c2, c3, c4, c5, c6, c7, c8, c9, c10, c11⟩ := hP.pars; have d0 := hT.cell 0 (v := .int .i64 t.asked) rfl; have d1 := hT.cell 1 (v := .int .i64 t.got) rfl; have d2 := hT.cell 2 (v := .int .i64 t.said) rfl; have d3 := hT.cell 3 (v := .int .i64 t.heard) rfl) | (go_at_call 8; (with_reducible refine (KL.out _).mono ?_); rintro e w2 ⟨rfl, hb2⟩; clear c0 c1 c2 c3 c4 c5 c6 c7 c8 c9 c10 c11 d0 d1 d2 d3; replace hP := hP.next hb2; replace hT := hT.next hb2; replace hok := hok.trans hb2; clear hb2))
  have hX := Slab.new w2 x y 28 rfl
  replace hP := hP.alloc (.cells #[.int .i64 x, .int .i64 y] 28)
  replace hT := hT.alloc (.cells #[.int .i64 x, .int .i64 y] 28)
  replace hok := hok.alloc (.cells #[.int .i64 x, .int .i64 y] 28)
  generalize w2.alloc (.cells #[.int .i64 x, .int .i64 y] 28) = W at hP hT hX hok ⊢
  have HOK := Lib.hid hok
  clear hok KL
  generalize w2.heap.size = g at hX ⊢
  generalize w.heap.size + 1 = T at hT ⊢
  generalize w.heap.size = B at hP ⊢
  have HP := Lib.hid fun W' (k : Ok W.drew W') => hP.drew.next k
  have HT := Lib.hid fun W' (k : Ok W.drew W') => hT.drew.next k
  have HX := Lib.hid fun W' (k : Ok W.drew W') => hX.drew.next k
  clear hP hT hX
  refine wp_region_facts (by kernel_rfl) 27 rfl (VCT B T g p t x y d) Ok (by kernel_rfl) (fun i v w w' h k w'' k' => h w'' (k.trans k')) (fun a b c => Ok.trans) (Ok.refl _) [some 11, some 12, some 13, some 14, some 15, some 16, some 17, some 18, some 19, some 20, some 21, some 22, some 23, some 24, some 25, some 26, some 4] rfl 17 rfl ⟨?_, ?_, ?_, ?_, ?_, ?_, ?_, ?_, ?_, ?_, ?_, ?_, ?_, ?_, ?_, ?_, ?_, trivial⟩ ?_
  · intro a' w' hF hR
    have e2 : a'.tmps[2]? = some (.pointer (some ⟨B, 0, none⟩)) := hF.slot 2 (by kernel_rfl) rfl
    obtain ⟨c0, c1, c2, c3, c4, c5, c6, c7, c8, c9, c10, c11⟩ := (HP.out _ hR).pars
    refine wpOp_run (v := parV p) rfl rfl ?_ (fun _ _ => rfl) (Ok.refl _)
    clear hF
    go_simp
  · intro a' w' hF hR
    have e3 : a'.tmps[3]? = some (.pointer (some ⟨T, 0, none⟩)) := hF.slot 3 (by kernel_rfl) rfl
    have d0 := (HT.out _ hR).cell 0 (v := .int .i64 t.asked) rfl
    have d1 := (HT.out _ hR).cell 1 (v := .int .i64 t.got) rfl
    have d2 := (HT.out _ hR).cell 2 (v := .int .i64 t.said) rfl
    have d3 := (HT.out _ hR).cell 3 (v := .int .i64 t.heard) rfl
    refine wpOp_run (v := tripV t) rfl rfl ?_ (fun _ _ => rfl) (Ok.refl _)
    clear hF
    go_simp
  · intro a' w' hF hR
    obtain ⟨v0, hv0, e11⟩ := hF.get 0 11 (by kernel_rfl) (by kernel_rfl)
    obtain rfl : v0 = _ := hv0 _ (Ok.refl _)
    obtain ⟨v1, hv1, e12⟩ := hF.get 1 12 (by kernel_rfl) (by kernel_rfl)
    obtain rfl : v1 = _ := hv1 _ (Ok.refl _)
    clear hF
    refine wpOp_call (f := 9) (args := #[parV p, tripV t]) rfl rfl ?_ ((KA.out _).mono ?_)
    · go_simp
    · rintro e w2 ⟨rfl, hb2⟩; exact ⟨_, rfl, fun _ _ => rfl, hb2⟩
  · intro a' w' hF hR
    have e5 : a'.tmps[5]? = some (.pointer (some ⟨g, 0, none⟩)) := hF.slot 5 (by kernel_rfl) rfl
    have e0 := (HX.out _ hR).c0
    have e1 := (HX.out _ hR).c1
    refine wpOp_run (v := spanV x y) rfl rfl ?_ (fun _ _ => rfl) (Ok.refl _)
    clear hF
    go_simp
  · intro a' w' hF hR
    obtain ⟨v2, hv2, e13⟩ := hF.get 2 13 (by kernel_rfl) (by kernel_rfl)
    obtain rfl : v2 = _ := hv2 _ (Ok.refl _)
    obtain ⟨v3, hv3, e14⟩ := hF.get 3 14 (by kernel_rfl) (by kernel_rfl)
    obtain rfl : v3 = _ := hv3 _ (Ok.refl _)
    refine wpOp_run (v := .bool true) rfl rfl ?_ (fun _ _ => rfl) (Ok.refl _)
    clear hF
    go_simp
  · intro a' w' hF hR
    obtain ⟨v4, hv4, e15⟩ := hF.get 4 15 (by kernel_rfl) (by kernel_rfl)
    obtain rfl : v4 = _ := hv4 _ (Ok.refl _)
    refine wpOp_run (v := .bool true) rfl rfl ?_ (fun _ _ => rfl) (Ok.refl _)
    clear hF
    go_simp
  · intro a' w' hF hR
    have e2 : a'.tmps[2]? = some (.pointer (some ⟨B, 0, none⟩)) := hF.slot 2 (by kernel_rfl) rfl
    obtain ⟨vg, hvg, eg⟩ := hF.get 5 16 (by kernel_rfl) (by kernel_rfl)
    obtain rfl : vg = _ := hvg _ (Ok.refl _)
    obtain ⟨c0, c1, c2, c3, c4, c5, c6, c7, c8, c9, c10, c11⟩ := (HP.out _ hR).pars
    refine wpOp_runG (v := parV p) rfl (wanted_yes rfl (by kernel_rfl) eg) ?_ (fun _ _ => rfl) (Ok.refl _)
    clear hF
    go_simp
  · intro a' w' hF hR
    have e3 : a'.tmps[3]? = some (.pointer (some ⟨T, 0, none⟩)) := hF.slot 3 (by kernel_rfl) rfl
    obtain ⟨vg, hvg, eg⟩ := hF.get 5 16 (by kernel_rfl) (by kernel_rfl)
    obtain rfl : vg = _ := hvg _ (Ok.refl _)
    have d0 := (HT.out _ hR).cell 0 (v := .int .i64 t.asked) rfl
    have d1 := (HT.out _ hR).cell 1 (v := .int .i64 t.got) rfl
    have d2 := (HT.out _ hR).cell 2 (v := .int .i64 t.said) rfl
    have d3 := (HT.out _ hR).cell 3 (v := .int .i64 t.heard) rfl
    refine wpOp_runG (v := tripV t) rfl (wanted_yes rfl (by kernel_rfl) eg) ?_ (fun _ _ => rfl) (Ok.refl _)
    clear hF
    go_simp
  · intro a' w' hF hR
    obtain ⟨v6, hv6, e17⟩ := hF.get 6 17 (by kernel_rfl) (by kernel_rfl)
    obtain rfl : v6 = _ := hv6 _ (Ok.refl _)
    obtain ⟨v7, hv7, e18⟩ := hF.get 7 18 (by kernel_rfl) (by kernel_rfl)
    obtain rfl : v7 = _ := hv7 _ (Ok.refl _)
    obtain ⟨vg, hvg, eg⟩ := hF.get 5 16 (by kernel_rfl) (by kernel_rfl)
    obtain rfl : vg = _ := hvg _ (Ok.refl _)
    refine wpOp_callG (f := 10) (args := #[parV p, tripV t]) rfl (wanted_yes rfl (by kernel_rfl) eg) ?_ ((KR.out _).mono ?_)
    · go_simp
    · rintro e w2 ⟨rfl, hb2⟩; exact ⟨_, rfl, fun _ _ => rfl, hb2⟩
  · intro a' w' hF hR
    have e5 : a'.tmps[5]? = some (.pointer (some ⟨g, 0, none⟩)) := hF.slot 5 (by kernel_rfl) rfl
    obtain ⟨vg, hvg, eg⟩ := hF.get 5 16 (by kernel_rfl) (by kernel_rfl)
    obtain rfl : vg = _ := hvg _ (Ok.refl _)
    refine wpOp_runG (v := .pointer (some ⟨g, 0, none⟩)) rfl (wanted_yes rfl (by kernel_rfl) eg) ?_ (fun _ _ => rfl) (Ok.refl _)
    clear hF
    go_simp
  · intro a' w' hF hR
    obtain ⟨v9, hv9, e20⟩ := hF.get 9 20 (by kernel_rfl) (by kernel_rfl)
    obtain rfl : v9 = _ := hv9 _ (Ok.refl _)
    obtain ⟨vg, hvg, eg⟩ := hF.get 5 16 (by kernel_rfl) (by kernel_rfl)
    obtain rfl : vg = _ := hvg _ (Ok.refl _)
    have e0 := (HX.out _ hR).c0
    have e1 := (HX.out _ hR).c1
    refine wpOp_runG (v := .int .i64 x) rfl (wanted_yes rfl (by kernel_rfl) eg) ?_ (fun _ _ => rfl) (Ok.refl _)
    clear hF
    go_simp
  · intro a' w' hF hR
    have e5 : a'.tmps[5]? = some (.pointer (some ⟨g, 0, none⟩)) := hF.slot 5 (by kernel_rfl) rfl
    obtain ⟨vg, hvg, eg⟩ := hF.get 5 16 (by kernel_rfl) (by kernel_rfl)
    obtain rfl : vg = _ := hvg _ (Ok.refl _)
    refine wpOp_runG (v := .pointer (some ⟨g, 1, none⟩)) rfl (wanted_yes rfl (by kernel_rfl) eg) ?_ (fun _ _ => rfl) (Ok.refl _)
    clear hF
    go_simp
  · intro a' w' hF hR
    obtain ⟨v11, hv11, e22⟩ := hF.get 11 22 (by kernel_rfl) (by kernel_rfl)
    obtain rfl : v11 = _ := hv11 _ (Ok.refl _)
    obtain ⟨vg, hvg, eg⟩ := hF.get 5 16 (by kernel_rfl) (by kernel_rfl)
    obtain rfl : vg = _ := hvg _ (Ok.refl _)
    have e0 := (HX.out _ hR).c0
    have e1 := (HX.out _ hR).c1
    refine wpOp_runG (v := .int .i64 y) rfl (wanted_yes rfl (by kernel_rfl) eg) ?_ (fun _ _ => rfl) (Ok.refl _)
    clear hF
    go_simp
  · intro a' w' hF hR
    obtain ⟨v10, hv10, e21⟩ := hF.get 10 21 (by kernel_rfl) (by kernel_rfl)
    obtain rfl : v10 = _ := hv10 _ (Ok.refl _)
    obtain ⟨v12, hv12, e23⟩ := hF.get 12 23 (by kernel_rfl) (by kernel_rfl)
    obtain rfl : v12 = _ := hv12 _ (Ok.refl _)
    obtain ⟨vg, hvg, eg⟩ := hF.get 5 16 (by kernel_rfl) (by kernel_rfl)
    obtain rfl : vg = _ := hvg _ (Ok.refl _)
    have hd := HD.out
    refine wpOp_runG (v := .bool d) rfl (wanted_yes rfl (by kernel_rfl) eg) ?_ (fun _ _ => rfl) (Ok.refl _)
    clear hF
    go_simp
  · intro a' w' hF hR
    obtain ⟨v8, hv8, e19⟩ := hF.get 8 19 (by kernel_rfl) (by kernel_rfl)
    obtain rfl : v8 = _ := hv8 _ (Ok.refl _)
    obtain ⟨v13, hv13, e24⟩ := hF.get 13 24 (by kernel_rfl) (by kernel_rfl)
    obtain rfl : v13 = _ := hv13 _ (Ok.refl _)
    obtain ⟨vg, hvg, eg⟩ := hF.get 5 16 (by kernel_rfl) (by kernel_rfl)
    obtain rfl : vg = _ := hvg _ (Ok.refl _)
    refine wpOp_runG (v := .bool true) rfl (wanted_yes rfl (by kernel_rfl) eg) ?_ (fun _ _ => rfl) (Ok.refl _)
    clear hF
    go_simp
  · intro a' w' hF hR
    obtain ⟨v5, hv5, e16⟩ := hF.get 5 16 (by kernel_rfl) (by kernel_rfl)
    obtain rfl : v5 = _ := hv5 _ (Ok.refl _)
    obtain ⟨v14, hv14, e25⟩ := hF.get 14 25 (by kernel_rfl) (by kernel_rfl)
    obtain rfl : v14 = _ := hv14 _ (Ok.refl _)
    refine wpOp_run (v := .bool true) rfl rfl ?_ (fun _ _ => rfl) (Ok.refl _)
    clear hF
    go_simp
  · intro a' w' hF hR
    obtain ⟨v15, hv15, e26⟩ := hF.get 15 26 (by kernel_rfl) (by kernel_rfl)
    obtain rfl : v15 = _ := hv15 _ (Ok.refl _)
    refine wpOp_run (v := .bool true) rfl rfl ?_ (fun _ _ => rfl) (Ok.refl _)
    clear hF
    go_simp
  intro vs w' hV hR
  have e16 : vs 16 = .bool true := hV 16 (by decide) _ (Ok.refl _)
  have hok2 := HOK.out.trans ((Ok.refl W).drew.trans hR)
  clear hV HP HT HX KA KR HD
  simp only [putFrom, e16]
  simp only [Act.put, List.setIfInBounds_toArray, List.set_cons_zero, List.set_cons_succ]
  go_wp2
  go_ret
  exact ⟨rfl, hok2⟩
theorem own : ownKnob Try.prog.godebug = none := by kernel_rfl
theorem laidOut : laidOutB Try.prog = true := by kernel_rfl
set_option maxRecDepth 100000 in
theorem lifted (os : Os) (started : os.Started) (H : Type) (enc : TypeId × Value → H) :
    ReturnsInHanded {} Try.checked os 3 .any (Rows.probeTellsSpec.pre6 enc Try.prog Try.f3 Rows.probeTellsRow.domain false) (Rows.probeTellsSpec.post enc Try.prog Try.f3 false true false false) := by
  refine returnsInHanded_of_change (C := Try.checked) own started (by kernel_rfl) Try.func3
    (ChangeSpec.witness6 (enc := enc) (C := Try.checked) false ⟨#[], #[.agg #[.int .i64 0, .int .i64 0, .int .i64 0, .int .i64 0, .int .i64 0, .int .i64 0, .int .i64 0, .int .i64 0, .int .i64 0, .int .i64 0, .int .i64 0, .int .i64 0], .agg #[.int .i64 0, .int .i64 0, .int .i64 0, .int .i64 0]], []⟩ 8 (by kernel_rfl) (by kernel_rfl) (by kernel_rfl) (by kernel_rfl)) ?_
  intro W base args ds gs before hval0 hW _ _
  have hval : ∀ (j : Nat) t v, Try.f3.params[j]? = some t → args[j]? = some v → Value.okWide Try.prog W .any base t v := hval0
  have hW' := hW
  obtain ⟨p, q, hA, hV, rfl, _, _⟩ := hW
  obtain ⟨rfl, rfl⟩ := trodVars_none hV
  replace hA : DataW.TrodAll enc Try.prog W 0 (fun _ => true) true Try.f3.params.toList args.toList ds p := hA
  rw [Try.params3] at hA hval
  obtain ⟨v0, vs0, d0, ds0, p0, q0, hargs, rfl, rfl, h0, r0⟩ := trodAll_cons hA
  obtain ⟨v1, vs1, d1, ds1, p1, q1, rfl, rfl, rfl, h1, r1⟩ := trodAll_cons r0
  obtain ⟨rfl, rfl, rfl⟩ := trodAll_nil r1
  obtain rfl : args = #[v0, v1] := by cases args; simp_all
  obtain ⟨p0, rfl, wp0⟩ := open_par Try.underlying23 rfl (by kernel_rfl) (by kernel_rfl) (by kernel_rfl) (hval 0 23 v0 rfl rfl) h0
  obtain ⟨s1_0, s1_1, s1_2, s1_3, rfl, ws1_0, ws1_1, ws1_2, ws1_3⟩ := open_four Try.underlying25 (by kernel_rfl) (by kernel_rfl) (by kernel_rfl) (by kernel_rfl) (by kernel_rfl) (by kernel_rfl) (hval 1 25 v1 rfl rfl) h1
  refine (walk W p0 wp0 s1_0 s1_1 s1_2 s1_3 ws1_0 ws1_1 ws1_2 ws1_3).mono fun e W' ⟨he, hb⟩ => ?_
  subst he
  exact ⟨_, rfl, law_post hW' laidOut (by rw [Try.params3]; exact params_ok (by kernel_rfl)) rfl (by kernel_rfl) Try.underlying4 rfl rfl rfl hb⟩
theorem over : Rows.probeTellsRow.holds Try.pinned (OpenSpec.ofChange Rows.probeTellsSpec) :=
  OpenClaim.holds_of_wide 3 Try.f3 rfl rfl rfl rfl rfl rfl rfl ⟨rfl, rfl, rfl, rfl, rfl⟩ rfl rfl rfl rfl rfl (by kernel_rfl) Try.func3 (by kernel_rfl)
    (of_decide_eq_true (by kernel_rfl)) (by unfold Func.isWrapper; first | (rw [if_pos (by decide +kernel)]; kernel_rfl) | (rw [if_neg (by decide +kernel)]; exact ⟨rfl, rfl⟩))
    (fun os started H enc _ => lifted os started H enc)
theorem proved : Rows.ProbeTellsSaid := over
end Go.Proofs.Ytfhagccelkjflaa.probeTells
