/- WideCompares: for every two rates the law answers true: how they stand is the document's, and turned round it is the opposite. No condition. -/
import Derived.Test.YtpikbcdghmmocaaC02e
import Derived.Test.YtpikbcdghmmocaaC02f
import Derived.Test.YtpikbcdghmmocaaW03
namespace Go.Proofs.Ytpikbcdghmmocaa.wideCompares
open Go.ChangeShapes Go.WideShapes Go.ChangeAt Go.RowKit
set_option linter.unusedVariables false
set_option maxRecDepth 100000

theorem rates_bd (an ad bn bd : Int) : -1 ≤ Wide.rates an ad bn bd ∧ Wide.rates an ad bn bd ≤ 1 := Wide.cmp_bd _ _
set_option maxHeartbeats 800000 in
theorem walk (w : World) (a0 b0 : Int) (w0 : (Lit.int .i64 a0).wf = true) (v0 : (Lit.int .i64 b0).wf = true) (a1 b1 : Int) (w1 : (Lit.int .i64 a1).wf = true) (v1 : (Lit.int .i64 b1).wf = true) :
    Calls Try.prog 5 #[.agg #[.int .i64 a0, .int .i64 b0], .agg #[.int .i64 a1, .int .i64 b1]] w fun e w' => e = .returned (.bool true) ∧ Below w.heap.size w w' := by
  clear w0 w1 v0 v1
  have hok := Ok.refl w
  have K0 := Lib.hid fun w => wideCompare 1 2 2 3 w
  have K1 := Lib.hid fun w => wideCompare a1 b1 a0 b0 w
  have K2 := Lib.hid fun w => wideCompare a0 b0 a0 b0 w
  have K3 := Lib.hid fun w => wideCompare a0 b0 a1 b1 w
  have K4 := Lib.hid fun w => refCompare a0 b0 a1 b1 w
  rw [show Wide.rates 1 2 2 3 = -1 by decide] at K0
  rw [show Wide.rates a0 b0 a0 b0 = 0 from Wide.cmp_self _] at K2
  rw [show Wide.rates a1 b1 a0 b0 = -Wide.rates a0 b0 a1 b1 from Wide.cmp_swap _ _] at K1
  have hb := rates_bd a0 b0 a1 b1
  obtain ⟨R, hR⟩ : ∃ R, Wide.rates a0 b0 a1 b1 = R := ⟨_, rfl⟩
  rw [hR] at K1 K3 K4 hb
  clear hR
  go_enter Try.func5, Try.ntmps5
  go_wp2_with fail
  have hB := Box2.start w a0 b0 a1 b1 29
  obtain ⟨W, hW⟩ : ∃ W, (w.alloc (.cells #[.int .i64 a0, .int .i64 b0] 29)).alloc (.cells #[.int .i64 a1, .int .i64 b1] 29) = W := ⟨_, rfl⟩
  rw [hW] at hB ⊢
  clear hW
  obtain ⟨g, hg⟩ : ∃ g, w.heap.size = g := ⟨_, rfl⟩
  rw [hg] at hB ⊢
  refine (K0.out _).mono ?_
  rintro e w1 ⟨rfl, hb1⟩
  have hB1 := hB.next hb1
  clear hB hb1
  obtain ⟨c0, c1, c2, c3, hs, ho⟩ := hB1
  go_wp2_with fail
  refine (K3.out _).mono ?_
  rintro e w2 ⟨rfl, hb1⟩
  have hB2 : Box2 g w a0 b0 a1 b1 w2 := Box2.next ⟨c0, c1, c2, c3, hs, ho⟩ hb1
  clear hb1 c0 c1 c2 c3 hs ho
  obtain ⟨c0, c1, c2, c3, hs, ho⟩ := hB2
  go_wp2_with fail
  refine (K4.out _).mono ?_
  rintro e w3 ⟨rfl, hb1⟩
  have hB3 : Box2 g w a0 b0 a1 b1 w3 := Box2.next ⟨c0, c1, c2, c3, hs, ho⟩ hb1
  clear hb1 c0 c1 c2 c3 hs ho
  obtain ⟨c0, c1, c2, c3, hs, ho⟩ := hB3
  go_wp2_with fail
  refine (K1.out _).mono ?_
  rintro e w4 ⟨rfl, hb1⟩
  have hB4 : Box2 g w a0 b0 a1 b1 w4 := Box2.next ⟨c0, c1, c2, c3, hs, ho⟩ hb1
  clear hb1 c0 c1 c2 c3 hs ho
  obtain ⟨c0, c1, c2, c3, hs, ho⟩ := hB4
  go_wp2_with fail
  refine (K2.out _).mono ?_
  rintro e w5 ⟨rfl, hb1⟩
  have hB5 : Box2 g w a0 b0 a1 b1 w5 := Box2.next ⟨c0, c1, c2, c3, hs, ho⟩ hb1
  clear hb1 c0 c1 c2 c3 hs ho
  obtain ⟨c0, c1, c2, c3, hs, ho⟩ := hB5
  go_wp2_with fail
  go_ret
  exact ⟨rfl, ho.below⟩
theorem own : ownKnob Try.prog.godebug = none := by kernel_rfl
theorem laidOut : laidOutB Try.prog = true := by kernel_rfl
set_option maxRecDepth 100000 in
theorem lifted (os : Os) (started : os.Started) (H : Type) (enc : TypeId × Value → H) :
    ReturnsInHanded {} Try.checked os 5 .any (Rows.wideComparesSpec.pre6 enc Try.prog Try.f5 Rows.wideComparesRow.domain false) (Rows.wideComparesSpec.post enc Try.prog Try.f5 false true false false) := by
  refine returnsInHanded_of_change (C := Try.checked) own started (by kernel_rfl) Try.func5
    (ChangeSpec.witness6 (enc := enc) (C := Try.checked) false ⟨#[], #[.agg #[.int .i64 0, .int .i64 0], .agg #[.int .i64 0, .int .i64 0]], []⟩ 8 (by kernel_rfl) (by kernel_rfl) (by kernel_rfl) (by kernel_rfl)) ?_
  intro W base args ds gs before hval0 hW _ _
  have hval : ∀ (j : Nat) t v, Try.f5.params[j]? = some t → args[j]? = some v → Value.okWide Try.prog W .any base t v := hval0
  have hW' := hW
  obtain ⟨p, q, hA, hV, rfl, _, _⟩ := hW
  obtain ⟨rfl, rfl⟩ := trodVars_none hV
  replace hA : DataW.TrodAll enc Try.prog W 0 (fun _ => true) true Try.f5.params.toList args.toList ds p := hA
  rw [Try.params5] at hA hval
  obtain ⟨v0, vs0, d0, ds0, p0, q0, hargs, rfl, rfl, h0, r0⟩ := trodAll_cons hA
  obtain ⟨v1, vs1, d1, ds1, p1, q1, rfl, rfl, rfl, h1, r1⟩ := trodAll_cons r0
  obtain ⟨rfl, rfl, rfl⟩ := trodAll_nil r1
  obtain rfl : args = #[v0, v1] := by cases args; simp_all
  obtain ⟨s0_0, s0_1, rfl, ws0_0, ws0_1⟩ := open_pair Try.underlying29 (by kernel_rfl) (by kernel_rfl) (by kernel_rfl) (by kernel_rfl) (hval 0 29 v0 rfl rfl) h0
  obtain ⟨s1_0, s1_1, rfl, ws1_0, ws1_1⟩ := open_pair Try.underlying29 (by kernel_rfl) (by kernel_rfl) (by kernel_rfl) (by kernel_rfl) (hval 1 29 v1 rfl rfl) h1
  refine (walk W s0_0 s0_1 ws0_0 ws0_1 s1_0 s1_1 ws1_0 ws1_1).mono fun e W' ⟨he, hb⟩ => ?_
  subst he
  exact ⟨_, rfl, law_post hW' laidOut (by rw [Try.params5]; exact params_ok (by kernel_rfl)) rfl (by kernel_rfl) Try.underlying4 rfl rfl rfl hb⟩
theorem over : Rows.wideComparesRow.holds Try.pinned (OpenSpec.ofChange Rows.wideComparesSpec) :=
  OpenClaim.holds_of_wide 5 Try.f5 rfl rfl rfl rfl rfl rfl rfl ⟨rfl, rfl, rfl, rfl, rfl⟩ rfl rfl rfl rfl rfl (by kernel_rfl) Try.func5 (by kernel_rfl)
    (of_decide_eq_true (by kernel_rfl)) (by unfold Func.isWrapper; first | (rw [if_pos (by decide +kernel)]; kernel_rfl) | (rw [if_neg (by decide +kernel)]; exact ⟨rfl, rfl⟩))
    (fun os started H enc _ => lifted os started H enc)
theorem proved : Rows.WideComparesSaid := over
end Go.Proofs.Ytpikbcdghmmocaa.wideCompares
