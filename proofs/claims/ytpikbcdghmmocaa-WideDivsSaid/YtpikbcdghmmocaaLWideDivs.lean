/- WideDivs: for every two integers the law answers true: what Div takes apart is the document's, and can be put together again. No condition. -/
import Derived.Test.YtpikbcdghmmocaaC02b
import Derived.Test.YtpikbcdghmmocaaC02c
namespace Go.Proofs.Ytpikbcdghmmocaa.wideDivs
open Go.ChangeShapes Go.WideShapes Go.ChangeAt Go.RowKit
set_option linter.unusedVariables false
set_option maxRecDepth 100000

set_option maxHeartbeats 400000 in
theorem walk (w : World) (a0 : Int) (w0 : (Lit.int .i64 a0).wf = true) (a1 : Int) (w1 : (Lit.int .i64 a1).wf = true) :
    Calls Try.prog 3 #[.int .i64 a0, .int .i64 a1] w fun e w' => e = .returned (.bool true) ∧ Below w.heap.size w w' := by
  clear w0 w1
  have hok := Ok.refl w
  have D0 := Lib.hid fun w => wideDiv (-7) 3 w
  rw [show Sat.clip (-7) / Wide.one 3 = -3 by decide, show Sat.clip (-7) % Wide.one 3 = 2 by decide] at D0
  have D1 := Lib.hid fun w => wideDiv a0 a1 w
  have D2 := Lib.hid fun w => refDiv a0 a1 w
  have ha := Sat.clip_bd a0
  have hc := Wide.one_bd a1
  have e1 := Int.mul_ediv_add_emod (Sat.clip a0) (Wide.one a1)
  have e2 := Int.emod_nonneg (Sat.clip a0) (show Wide.one a1 ≠ 0 by omega)
  have e3 := Int.emod_lt_of_pos (Sat.clip a0) (show 0 < Wide.one a1 by omega)
  obtain ⟨q, hq⟩ : ∃ q, Sat.clip a0 / Wide.one a1 = q := ⟨_, rfl⟩
  obtain ⟨r, hr⟩ : ∃ r, Sat.clip a0 % Wide.one a1 = r := ⟨_, rfl⟩
  rw [hq, hr] at e1 D1 D2
  rw [hr] at e2 e3
  obtain ⟨p, hp⟩ : ∃ p, q * Wide.one a1 = p := ⟨_, rfl⟩
  rw [Int.mul_comm, hp] at e1
  have g1 : -4611686018427387904 ≤ p ∧ p ≤ 2305843009213693952 := by omega
  clear hq hr
  by_cases h : Sat.clip a1 < 1
  · have h1 : Wide.one a1 = 1 := by unfold Wide.one; rw [if_pos h]
    rw [h1] at hp e3
    go_enter Try.func3, Try.ntmps3
    go_wp2_with (first
      | (go_at_call 9; ((with_reducible refine (D0.out _).mono ?_); rintro e wx ⟨rfl, hb1⟩; replace hok := hok.trans hb1; clear hb1))
      | (go_at_call 9; ((with_reducible refine (D1.out _).mono ?_); rintro e wx ⟨rfl, hb1⟩; replace hok := hok.trans hb1; clear hb1))
      | (go_at_call 10; ((with_reducible refine (D2.out _).mono ?_); rintro e wx ⟨rfl, rfl⟩))
      | (go_at_call 11; refine (satClip _ _).mono ?_; rintro e w' ⟨rfl, rfl⟩))
    go_ret
    exact ⟨rfl, hok.below⟩
  · have h1 : Wide.one a1 = Sat.clip a1 := by unfold Wide.one; rw [if_neg h]
    rw [h1] at hp e3
    go_enter Try.func3, Try.ntmps3
    go_wp2_with (first
      | (go_at_call 9; ((with_reducible refine (D0.out _).mono ?_); rintro e wx ⟨rfl, hb1⟩; replace hok := hok.trans hb1; clear hb1))
      | (go_at_call 9; ((with_reducible refine (D1.out _).mono ?_); rintro e wx ⟨rfl, hb1⟩; replace hok := hok.trans hb1; clear hb1))
      | (go_at_call 10; ((with_reducible refine (D2.out _).mono ?_); rintro e wx ⟨rfl, rfl⟩))
      | (go_at_call 11; refine (satClip _ _).mono ?_; rintro e w' ⟨rfl, rfl⟩))
    go_ret
    exact ⟨rfl, hok.below⟩
theorem own : ownKnob Try.prog.godebug = none := by kernel_rfl
theorem laidOut : laidOutB Try.prog = true := by kernel_rfl
set_option maxRecDepth 100000 in
theorem lifted (os : Os) (started : os.Started) (H : Type) (enc : TypeId × Value → H) :
    ReturnsInHanded {} Try.checked os 3 .any (Rows.wideDivsSpec.pre6 enc Try.prog Try.f3 Rows.wideDivsRow.domain false) (Rows.wideDivsSpec.post enc Try.prog Try.f3 false true false false) := by
  refine returnsInHanded_of_change (C := Try.checked) own started (by kernel_rfl) Try.func3
    (ChangeSpec.witness6 (enc := enc) (C := Try.checked) false ⟨#[], #[.int .i64 0, .int .i64 0], []⟩ 8 (by kernel_rfl) (by kernel_rfl) (by kernel_rfl) (by kernel_rfl)) ?_
  intro W base args ds gs before hval0 hW _ _
  have hval : ∀ (j : Nat) t v, Try.f3.params[j]? = some t → args[j]? = some v → Value.okWide Try.prog W .any base t v := hval0
  have hW' := hW
  obtain ⟨p, q, hA, hV, rfl, _, _⟩ := hW
  obtain ⟨rfl, rfl⟩ := trodVars_none hV
  replace hA : DataW.TrodAll enc Try.prog W 0 (fun _ => true) true Try.f3.params.toList args.toList ds p := hA
  rw [Try.params3] at hA hval
  obtain ⟨v0, vs0, d0, ds0, p0, q0, hargs, rfl, rfl, h0, r0⟩ := trodAll_cons hA
  obtain ⟨v1, vs1, d1, ds1, p1, q1, rfl, rfl, rfl, h1, r1⟩ := trodAll_cons r0
  obtain ⟨rfl, rfl, rfl⟩ := trodAll_nil r1
  obtain rfl : args = #[v0, v1] := by cases args; simp_all
  obtain ⟨a0, rfl, rfl, rfl, w0⟩ := open_int Try.underlying3 (hval 0 3 v0 rfl rfl) h0
  obtain ⟨a1, rfl, rfl, rfl, w1⟩ := open_int Try.underlying3 (hval 1 3 v1 rfl rfl) h1
  refine (walk W a0 w0 a1 w1).mono fun e W' ⟨he, hb⟩ => ?_
  subst he
  exact ⟨_, rfl, law_post hW' laidOut (by rw [Try.params3]; exact params_ok (by kernel_rfl)) rfl (by kernel_rfl) Try.underlying4 rfl rfl rfl hb⟩
theorem over : Rows.wideDivsRow.holds Try.pinned (OpenSpec.ofChange Rows.wideDivsSpec) :=
  OpenClaim.holds_of_wide 3 Try.f3 rfl rfl rfl rfl rfl rfl rfl ⟨rfl, rfl, rfl, rfl, rfl⟩ rfl rfl rfl rfl rfl (by kernel_rfl) Try.func3 (by kernel_rfl)
    (of_decide_eq_true (by kernel_rfl)) (by unfold Func.isWrapper; first | (rw [if_pos (by decide +kernel)]; kernel_rfl) | (rw [if_neg (by decide +kernel)]; exact ⟨rfl, rfl⟩))
    (fun os started H enc _ => lifted os started H enc)
theorem proved : Rows.WideDivsSaid := over
end Go.Proofs.Ytpikbcdghmmocaa.wideDivs
