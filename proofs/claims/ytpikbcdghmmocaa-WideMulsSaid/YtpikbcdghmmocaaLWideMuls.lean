/- WideMuls: for every three integers the law answers true: the ratios of MulDiv, MulUp and Scale are the document's. No condition. -/
import Derived.Test.YtpikbcdghmmocaaC02b
import Derived.Test.YtpikbcdghmmocaaC02d
namespace Go.Proofs.Ytpikbcdghmmocaa.wideMuls
open Go.ChangeShapes Go.WideShapes Go.ChangeAt Go.RowKit
set_option linter.unusedVariables false
set_option maxRecDepth 100000

theorem up_neg (a b c : Int) : Wide.up a b c = -Wide.down (Sat.neg a) b c := by
  unfold Wide.up Wide.down
  have e : Sat.clip (Sat.neg a) = -Sat.clip a := by unfold Sat.neg; rw [Sat.clip_neg, Sat.clip_clip]
  rw [e, Int.neg_mul, Wide.fdiv_neg, Int.neg_neg]
set_option maxHeartbeats 400000 in
theorem walk (w : World) (a0 : Int) (w0 : (Lit.int .i64 a0).wf = true) (a1 : Int) (w1 : (Lit.int .i64 a1).wf = true) (a2 : Int) (w2 : (Lit.int .i64 a2).wf = true) :
    Calls Try.prog 4 #[.int .i64 a0, .int .i64 a1, .int .i64 a2] w fun e w' => e = .returned (.bool true) ∧ Below w.heap.size w w' := by
  clear w0 w1 w2
  have hok := Ok.refl w
  have D0 := Lib.hid fun w => wideMulDiv 7 5 3 w
  have U0 := Lib.hid fun w => wideMulUp 7 5 3 w
  rw [show Wide.down 7 5 3 = 11 by decide] at D0
  rw [show Wide.up 7 5 3 = 12 by decide] at U0
  have bd := Wide.down_bd (Sat.neg a0) a1 a2
  have U1 := Lib.hid fun w => wideMulUp a0 a1 a2 w
  rw [up_neg] at U1
  go_enter Try.func4, Try.ntmps4
  go_wp2_with (first
    | (go_at_call 12; ((with_reducible refine (D0.out _).mono ?_); rintro e wx ⟨rfl, hb1⟩; replace hok := hok.trans hb1; clear hb1))
    | (go_at_call 13; ((with_reducible refine (U0.out _).mono ?_); rintro e wx ⟨rfl, hb1⟩; replace hok := hok.trans hb1; clear hb1))
    | (go_at_call 13; ((with_reducible refine (U1.out _).mono ?_); rintro e wx ⟨rfl, hb1⟩; replace hok := hok.trans hb1; clear hb1))
    | (go_at_call 12; refine (wideMulDiv _ _ _ _).mono ?_; rintro e wx ⟨rfl, hb1⟩; replace hok := hok.trans hb1; clear hb1)
    | (go_at_call 15; refine (wideScale _ _ _ _).mono ?_; rintro e wx ⟨rfl, hb1⟩; replace hok := hok.trans hb1; clear hb1)
    | (go_at_call 14; refine (refMulDiv _ _ _ _).mono ?_; rintro e wx ⟨rfl, hb1⟩; replace hok := hok.trans hb1; clear hb1)
    | (go_at_call 16; refine (satNeg _ _).mono ?_; rintro e w' ⟨rfl, rfl⟩))
  go_ret
  exact ⟨rfl, hok.below⟩
theorem own : ownKnob Try.prog.godebug = none := by kernel_rfl
theorem laidOut : laidOutB Try.prog = true := by kernel_rfl
set_option maxRecDepth 100000 in
theorem lifted (os : Os) (started : os.Started) (H : Type) (enc : TypeId × Value → H) :
    ReturnsInHanded {} Try.checked os 4 .any (Rows.wideMulsSpec.pre6 enc Try.prog Try.f4 Rows.wideMulsRow.domain false) (Rows.wideMulsSpec.post enc Try.prog Try.f4 false true false false) := by
  refine returnsInHanded_of_change (C := Try.checked) own started (by kernel_rfl) Try.func4
    (ChangeSpec.witness6 (enc := enc) (C := Try.checked) false ⟨#[], #[.int .i64 0, .int .i64 0, .int .i64 0], []⟩ 8 (by kernel_rfl) (by kernel_rfl) (by kernel_rfl) (by kernel_rfl)) ?_
  intro W base args ds gs before hval0 hW _ _
  have hval : ∀ (j : Nat) t v, Try.f4.params[j]? = some t → args[j]? = some v → Value.okWide Try.prog W .any base t v := hval0
  have hW' := hW
  obtain ⟨p, q, hA, hV, rfl, _, _⟩ := hW
  obtain ⟨rfl, rfl⟩ := trodVars_none hV
  replace hA : DataW.TrodAll enc Try.prog W 0 (fun _ => true) true Try.f4.params.toList args.toList ds p := hA
  rw [Try.params4] at hA hval
  obtain ⟨v0, vs0, d0, ds0, p0, q0, hargs, rfl, rfl, h0, r0⟩ := trodAll_cons hA
  obtain ⟨v1, vs1, d1, ds1, p1, q1, rfl, rfl, rfl, h1, r1⟩ := trodAll_cons r0
  obtain ⟨v2, vs2, d2, ds2, p2, q2, rfl, rfl, rfl, h2, r2⟩ := trodAll_cons r1
  obtain ⟨rfl, rfl, rfl⟩ := trodAll_nil r2
  obtain rfl : args = #[v0, v1, v2] := by cases args; simp_all
  obtain ⟨a0, rfl, rfl, rfl, w0⟩ := open_int Try.underlying3 (hval 0 3 v0 rfl rfl) h0
  obtain ⟨a1, rfl, rfl, rfl, w1⟩ := open_int Try.underlying3 (hval 1 3 v1 rfl rfl) h1
  obtain ⟨a2, rfl, rfl, rfl, w2⟩ := open_int Try.underlying3 (hval 2 3 v2 rfl rfl) h2
  refine (walk W a0 w0 a1 w1 a2 w2).mono fun e W' ⟨he, hb⟩ => ?_
  subst he
  exact ⟨_, rfl, law_post hW' laidOut (by rw [Try.params4]; exact params_ok (by kernel_rfl)) rfl (by kernel_rfl) Try.underlying4 rfl rfl rfl hb⟩
theorem over : Rows.wideMulsRow.holds Try.pinned (OpenSpec.ofChange Rows.wideMulsSpec) :=
  OpenClaim.holds_of_wide 4 Try.f4 rfl rfl rfl rfl rfl rfl rfl ⟨rfl, rfl, rfl, rfl, rfl⟩ rfl rfl rfl rfl rfl (by kernel_rfl) Try.func4 (by kernel_rfl)
    (of_decide_eq_true (by kernel_rfl)) (by unfold Func.isWrapper; first | (rw [if_pos (by decide +kernel)]; kernel_rfl) | (rw [if_neg (by decide +kernel)]; exact ⟨rfl, rfl⟩))
    (fun os started H enc _ => lifted os started H enc)
theorem proved : Rows.WideMulsSaid := over
end Go.Proofs.Ytpikbcdghmmocaa.wideMuls
