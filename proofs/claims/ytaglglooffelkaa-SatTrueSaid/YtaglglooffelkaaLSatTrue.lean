/- SatTrue: for every two int32 the law answers true: where nothing is clipped sums, differences and products are those of numbers. No condition. -/
import Derived.Test.YtaglglooffelkaaC01b
import Derived.Test.YtaglglooffelkaaC01c
namespace Go.Proofs.Ytaglglooffelkaa.satTrue
open Go.ChangeShapes Go.WideShapes Go.ChangeAt Go.RowKit
set_option linter.unusedVariables false

set_option maxHeartbeats 800000 in
theorem walk (w : World) (a0 : Int) (w0 : (Lit.int .i32 a0).wf = true) (a1 : Int) (w1 : (Lit.int .i32 a1).wf = true) :
    Calls Try.prog 7 #[.int .i32 a0, .int .i32 a1] w fun e w' => e = .returned (.bool true) ∧ Below w.heap.size w w' := by
  have b0 : -2147483648 ≤ a0 ∧ a0 ≤ 2147483647 := by simpa [Lit.wf, IntKind.min, IntKind.max, IntKind.signed, IntKind.bits] using w0
  have b1 : -2147483648 ≤ a1 ∧ a1 ≤ 2147483647 := by simpa [Lit.wf, IntKind.min, IntKind.max, IntKind.signed, IntKind.bits] using w1
  have hp : -4611686018427387904 ≤ a0 * a1 ∧ a0 * a1 ≤ 4611686018427387904 := by
    have h1 : (a0 * a1).natAbs ≤ 2147483648 * 2147483648 := by rw [Int.natAbs_mul]; exact Nat.mul_le_mul (by omega) (by omega)
    omega
  have s0 := Lib.hid (Sat.clip_in (x := a0) (by omega) (by omega))
  have s1 := Lib.hid (Sat.clip_in (x := a1) (by omega) (by omega))
  have eadd : Sat.sum [a0, a1] = a0 + a1 := by
    show Sat.clip (Sat.clip (0 + Sat.clip a0) + Sat.clip a1) = _
    rw [s0.out, s1.out, Int.zero_add, s0.out]; exact Sat.clip_in (by omega) (by omega)
  have esub : Sat.sub a0 a1 = a0 - a1 := by unfold Sat.sub; rw [s0.out, s1.out]; exact Sat.clip_in (by omega) (by omega)
  have s7 : (Sat.sum [3, 4] == 7) = true := by decide
  have emul0 : Hid (Sat.mul a0 a1 = Sat.clip (a0 * a1)) := by show Sat.clip (Sat.clip a0 * Sat.clip a1) = _; rw [s0.out, s1.out]
  by_cases h1 : 2305843009213693952 < a0 * a1
  · have em : Sat.mul a0 a1 = 2305843009213693952 := by rw [emul0.out]; exact Sat.clip_hi (by omega)
    have ea : (Sat.abs 2305843009213693952 == 2305843009213693952) = true := by decide
    clear eadd esub
    go_enter Try.func7, Try.ntmps7
    go_wp2_with fail
    refine (satAdd _ [3, 4] 2 _ (ints_new _ [3, 4] _ _ rfl (by simp)) (by decide)).mono ?_
    rintro e w' ⟨rfl, rfl⟩
    go_wp2_with (first
      | (go_at_call 20; refine (satMul _ _ _).mono ?_; rintro e w' ⟨rfl, rfl⟩)
      | (go_at_call 13; refine (satAbs _ _).mono ?_; rintro e w' ⟨rfl, rfl⟩))
    go_ret
    exact ⟨rfl, below_alloc _ _⟩
  · by_cases h2 : a0 * a1 < -2305843009213693952
    · have em : Sat.mul a0 a1 = -2305843009213693952 := by rw [emul0.out]; exact Sat.clip_lo (by omega)
      have ea : (Sat.abs (-2305843009213693952) == 2305843009213693952) = true := by decide
      clear eadd esub
      go_enter Try.func7, Try.ntmps7
      go_wp2_with fail
      refine (satAdd _ [3, 4] 2 _ (ints_new _ [3, 4] _ _ rfl (by simp)) (by decide)).mono ?_
      rintro e w' ⟨rfl, rfl⟩
      go_wp2_with (first
        | (go_at_call 20; refine (satMul _ _ _).mono ?_; rintro e w' ⟨rfl, rfl⟩)
        | (go_at_call 13; refine (satAbs _ _).mono ?_; rintro e w' ⟨rfl, rfl⟩))
      go_ret
      exact ⟨rfl, below_alloc _ _⟩
    · have em : Sat.mul a0 a1 = a0 * a1 := by rw [emul0.out]; exact Sat.clip_in (by omega) (by omega)
      go_enter Try.func7, Try.ntmps7
      go_wp2_with fail
      refine (satAdd _ [3, 4] 2 _ (ints_new _ [3, 4] _ _ rfl (by simp)) (by decide)).mono ?_
      rintro e w' ⟨rfl, rfl⟩
      go_wp2_with fail
      refine (satAdd _ [a0, a1] 2 _ (ints_new _ [a0, a1] _ _ rfl (by simp)) (by simp)).mono ?_
      rintro e w' ⟨rfl, rfl⟩
      go_wp2_with (first
        | (go_at_call 18; refine (satSub _ _ _).mono ?_; rintro e w' ⟨rfl, rfl⟩)
        | (go_at_call 20; refine (satMul _ _ _).mono ?_; rintro e w' ⟨rfl, rfl⟩))
      go_ret
      exact ⟨rfl, (below_alloc _ _).alloc (by simp) _⟩
theorem own : ownKnob Try.prog.godebug = none := by kernel_rfl
theorem laidOut : laidOutB Try.prog = true := by kernel_rfl
set_option maxRecDepth 100000 in
theorem lifted (os : Os) (started : os.Started) (H : Type) (enc : TypeId × Value → H) :
    ReturnsInHanded {} Try.checked os 7 .any (Rows.satTrueSpec.pre6 enc Try.prog Try.f7 Rows.satTrueRow.domain false) (Rows.satTrueSpec.post enc Try.prog Try.f7 false true false false) := by
  refine returnsInHanded_of_change (C := Try.checked) own started (by kernel_rfl) Try.func7
    (ChangeSpec.witness6 (enc := enc) (C := Try.checked) false ⟨#[], #[.int .i32 0, .int .i32 0], []⟩ 8 (by kernel_rfl) (by kernel_rfl) (by kernel_rfl) (by kernel_rfl)) ?_
  intro W base args ds gs before hval0 hW _ _
  have hval : ∀ (j : Nat) t v, Try.f7.params[j]? = some t → args[j]? = some v → Value.okWide Try.prog W .any base t v := hval0
  have hW' := hW
  obtain ⟨p, q, hA, hV, rfl, _, _⟩ := hW
  obtain ⟨rfl, rfl⟩ := trodVars_none hV
  replace hA : DataW.TrodAll enc Try.prog W 0 (fun _ => true) true Try.f7.params.toList args.toList ds p := hA
  rw [Try.params7] at hA hval
  obtain ⟨v0, vs0, d0, ds0, p0, q0, hargs, rfl, rfl, h0, r0⟩ := trodAll_cons hA
  obtain ⟨v1, vs1, d1, ds1, p1, q1, rfl, rfl, rfl, h1, r1⟩ := trodAll_cons r0
  obtain ⟨rfl, rfl, rfl⟩ := trodAll_nil r1
  obtain rfl : args = #[v0, v1] := by cases args; simp_all
  obtain ⟨a0, rfl, rfl, rfl, w0⟩ := open_int Try.underlying21 (hval 0 21 v0 rfl rfl) h0
  obtain ⟨a1, rfl, rfl, rfl, w1⟩ := open_int Try.underlying21 (hval 1 21 v1 rfl rfl) h1
  refine (walk W a0 w0 a1 w1).mono fun e W' ⟨he, hb⟩ => ?_
  subst he
  exact ⟨_, rfl, law_post hW' laidOut (by rw [Try.params7]; exact params_ok (by kernel_rfl)) rfl (by kernel_rfl) Try.underlying4 rfl rfl rfl hb⟩
theorem over : Rows.satTrueRow.holds Try.pinned (OpenSpec.ofChange Rows.satTrueSpec) :=
  OpenClaim.holds_of_wide 7 Try.f7 rfl rfl rfl rfl rfl rfl rfl ⟨rfl, rfl, rfl, rfl, rfl⟩ rfl rfl rfl rfl rfl (by kernel_rfl) Try.func7 (by kernel_rfl)
    (of_decide_eq_true (by kernel_rfl)) (by unfold Func.isWrapper; first | (rw [if_pos (by decide +kernel)]; kernel_rfl) | (rw [if_neg (by decide +kernel)]; exact ⟨rfl, rfl⟩))
    (fun os started H enc _ => lifted os started H enc)
theorem proved : Rows.SatTrueSaid := over
end Go.Proofs.Ytaglglooffelkaa.satTrue
