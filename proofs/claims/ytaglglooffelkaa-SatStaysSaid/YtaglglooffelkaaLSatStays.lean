/- SatStays: for every three integers the law answers true: no answer is beyond the greatest number, order does not matter, and more never makes less. No condition. -/
import Derived.Test.YtaglglooffelkaaC01b
import Derived.Test.YtaglglooffelkaaC01c
namespace Go.Proofs.Ytaglglooffelkaa.satStays
open Go.ChangeShapes Go.WideShapes Go.ChangeAt Go.RowKit
set_option linter.unusedVariables false

theorem sum2 (a b : Int) : Sat.sum [a, b] = Sat.clip (Sat.clip a + Sat.clip b) := by
  show Sat.clip (Sat.clip (0 + Sat.clip a) + Sat.clip b) = _
  rw [Int.zero_add, Sat.clip_clip]
theorem sum2_comm (a b : Int) : Sat.sum [a, b] = Sat.sum [b, a] := by rw [sum2, sum2, Int.add_comm]
theorem mul_comm (a b : Int) : Sat.mul a b = Sat.mul b a := by unfold Sat.mul; rw [Int.mul_comm]
theorem sum2_mono (a : Int) {b c : Int} (h : b ≤ c) : Sat.sum [a, b] ≤ Sat.sum [a, c] := by
  rw [sum2, sum2]; exact Sat.clip_mono (by have := Sat.clip_mono h; omega)
theorem sub_mono (a : Int) {b c : Int} (h : b ≤ c) : Sat.sub a c ≤ Sat.sub a b := by
  unfold Sat.sub; exact Sat.clip_mono (by have := Sat.clip_mono h; omega)
set_option maxHeartbeats 800000 in
theorem walk (w : World) (a0 : Int) (w0 : (Lit.int .i64 a0).wf = true) (a1 : Int) (w1 : (Lit.int .i64 a1).wf = true) (a2 : Int) (w2 : (Lit.int .i64 a2).wf = true) :
    Calls Try.prog 8 #[.int .i64 a0, .int .i64 a1, .int .i64 a2] w fun e w' => e = .returned (.bool true) ∧ Below w.heap.size w w' := by
  have s7 : (Sat.sum [3, 4] == 7) = true := by decide
  have k0 := Sat.sum_bd [a0, a1]
  have k1 := Sat.sub_bd a0 a1
  have k2 := Sat.mul_bd a0 a1
  have k3 := Sat.sum_bd [a0, a1, a2]
  have k4 := Sat.abs_bd a0
  have k5 := Sat.most_bd [a0, a1]
  have c1 : (Sat.sum [a0, a1] == Sat.sum [a1, a0]) = true := by rw [beq_iff_eq]; exact sum2_comm _ _
  have c2 : (Sat.mul a0 a1 == Sat.mul a1 a0) = true := by rw [beq_iff_eq]; exact mul_comm _ _
  have n0 : ∀ (w : World), (Instr.index 33 (.agg #[.int .i64 (Sat.sum [a0, a1]), .int .i64 (Sat.sub a0 a1), .int .i64 (Sat.mul a0 a1), .int .i64 (Sat.sum [a0, a1, a2]), .int .i64 (Sat.abs a0), .int .i64 (Sat.most [a0, a1])]) (.int .i64 0)).run Try.prog w = .ok (.int .i64 (Sat.sum [a0, a1])) w := fun _ => by kernel_rfl
  have n1 : ∀ (w : World), (Instr.index 33 (.agg #[.int .i64 (Sat.sum [a0, a1]), .int .i64 (Sat.sub a0 a1), .int .i64 (Sat.mul a0 a1), .int .i64 (Sat.sum [a0, a1, a2]), .int .i64 (Sat.abs a0), .int .i64 (Sat.most [a0, a1])]) (.int .i64 1)).run Try.prog w = .ok (.int .i64 (Sat.sub a0 a1)) w := fun _ => by kernel_rfl
  have n2 : ∀ (w : World), (Instr.index 33 (.agg #[.int .i64 (Sat.sum [a0, a1]), .int .i64 (Sat.sub a0 a1), .int .i64 (Sat.mul a0 a1), .int .i64 (Sat.sum [a0, a1, a2]), .int .i64 (Sat.abs a0), .int .i64 (Sat.most [a0, a1])]) (.int .i64 2)).run Try.prog w = .ok (.int .i64 (Sat.mul a0 a1)) w := fun _ => by kernel_rfl
  have n3 : ∀ (w : World), (Instr.index 33 (.agg #[.int .i64 (Sat.sum [a0, a1]), .int .i64 (Sat.sub a0 a1), .int .i64 (Sat.mul a0 a1), .int .i64 (Sat.sum [a0, a1, a2]), .int .i64 (Sat.abs a0), .int .i64 (Sat.most [a0, a1])]) (.int .i64 3)).run Try.prog w = .ok (.int .i64 (Sat.sum [a0, a1, a2])) w := fun _ => by kernel_rfl
  have n4 : ∀ (w : World), (Instr.index 33 (.agg #[.int .i64 (Sat.sum [a0, a1]), .int .i64 (Sat.sub a0 a1), .int .i64 (Sat.mul a0 a1), .int .i64 (Sat.sum [a0, a1, a2]), .int .i64 (Sat.abs a0), .int .i64 (Sat.most [a0, a1])]) (.int .i64 4)).run Try.prog w = .ok (.int .i64 (Sat.abs a0)) w := fun _ => by kernel_rfl
  have n5 : ∀ (w : World), (Instr.index 33 (.agg #[.int .i64 (Sat.sum [a0, a1]), .int .i64 (Sat.sub a0 a1), .int .i64 (Sat.mul a0 a1), .int .i64 (Sat.sum [a0, a1, a2]), .int .i64 (Sat.abs a0), .int .i64 (Sat.most [a0, a1])]) (.int .i64 5)).run Try.prog w = .ok (.int .i64 (Sat.most [a0, a1])) w := fun _ => by kernel_rfl
  go_enter Try.func8, Try.ntmps8
  go_wp2_with (first
      | (go_at_call 16; first | ((with_reducible refine (satAdd2 _ _ _ _ _ (by simp)).mono ?_); rintro e w' ⟨rfl, rfl⟩) | ((with_reducible refine (satAdd3 _ _ _ _ _ _ (by simp)).mono ?_); rintro e w' ⟨rfl, rfl⟩))
      | (go_at_call 18; refine (satSub _ _ _).mono ?_; rintro e w' ⟨rfl, rfl⟩)
      | (go_at_call 20; refine (satMul _ _ _).mono ?_; rintro e w' ⟨rfl, rfl⟩)
      | (go_at_call 13; refine (satAbs _ _).mono ?_; rintro e w' ⟨rfl, rfl⟩)
      | (go_at_call 22; (with_reducible refine (satMax2 _ _ _ _ _ (by simp)).mono ?_); rintro e w' ⟨rfl, rfl⟩))
  go_loop [6, 8, 36] (fun r x i => ∃ k : Nat, k ≤ 6 ∧ i = .int .i64 k ∧ r = .bool false) (fun _ _ i => 6 - (intOf i).toNat)
  case atStart => exact ⟨0, by omega, rfl, rfl⟩
  case round =>
    obtain ⟨k, hk, rfl, rfl⟩ := hrel
    rcases (show k = 0 ∨ k = 1 ∨ k = 2 ∨ k = 3 ∨ k = 4 ∨ k = 5 ∨ k = 6 by omega) with rfl | rfl | rfl | rfl | rfl | rfl | rfl
    · go_wp2
      go_round
      case rel => exact ⟨1, by omega, rfl, rfl⟩
      case measure => simp [intOf]
    · go_wp2
      go_round
      case rel => exact ⟨2, by omega, rfl, rfl⟩
      case measure => simp [intOf]
    · go_wp2
      go_round
      case rel => exact ⟨3, by omega, rfl, rfl⟩
      case measure => simp [intOf]
    · go_wp2
      go_round
      case rel => exact ⟨4, by omega, rfl, rfl⟩
      case measure => simp [intOf]
    · go_wp2
      go_round
      case rel => exact ⟨5, by omega, rfl, rfl⟩
      case measure => simp [intOf]
    · go_wp2
      go_round
      case rel => exact ⟨6, by omega, rfl, rfl⟩
      case measure => simp [intOf]
    · clear n0 n1 n2 n3 n4 n5
      by_cases h : a2 < a1
      · have m1 := sum2_mono a0 (Int.le_of_lt h)
        have m2 := sub_mono a0 (Int.le_of_lt h)
        go_wp2_with (first
          | (go_at_call 16; (with_reducible refine (satAdd2 _ _ _ _ _ (by simp)).mono ?_); rintro e w' ⟨rfl, rfl⟩)
          | (go_at_call 18; refine (satSub _ _ _).mono ?_; rintro e w' ⟨rfl, rfl⟩)
          | (go_at_call 20; refine (satMul _ _ _).mono ?_; rintro e w' ⟨rfl, rfl⟩))
        go_ret
        refine ⟨rfl, ?_⟩
        repeat (refine Below.alloc ?_ (by simp; try omega) _)
        exact Below.refl _ _
      · have m1 := sum2_mono a0 (show a1 ≤ a2 by omega)
        have m2 := sub_mono a0 (show a1 ≤ a2 by omega)
        go_wp2_with (first
          | (go_at_call 16; (with_reducible refine (satAdd2 _ _ _ _ _ (by simp)).mono ?_); rintro e w' ⟨rfl, rfl⟩)
          | (go_at_call 18; refine (satSub _ _ _).mono ?_; rintro e w' ⟨rfl, rfl⟩)
          | (go_at_call 20; refine (satMul _ _ _).mono ?_; rintro e w' ⟨rfl, rfl⟩))
        go_ret
        refine ⟨rfl, ?_⟩
        repeat (refine Below.alloc ?_ (by simp; try omega) _)
        exact Below.refl _ _
theorem own : ownKnob Try.prog.godebug = none := by kernel_rfl
theorem laidOut : laidOutB Try.prog = true := by kernel_rfl
set_option maxRecDepth 100000 in
theorem lifted (os : Os) (started : os.Started) (H : Type) (enc : TypeId × Value → H) :
    ReturnsInHanded {} Try.checked os 8 .any (Rows.satStaysSpec.pre6 enc Try.prog Try.f8 Rows.satStaysRow.domain false) (Rows.satStaysSpec.post enc Try.prog Try.f8 false true false false) := by
  refine returnsInHanded_of_change (C := Try.checked) own started (by kernel_rfl) Try.func8
    (ChangeSpec.witness6 (enc := enc) (C := Try.checked) false ⟨#[], #[.int .i64 0, .int .i64 0, .int .i64 0], []⟩ 8 (by kernel_rfl) (by kernel_rfl) (by kernel_rfl) (by kernel_rfl)) ?_
  intro W base args ds gs before hval0 hW _ _
  have hval : ∀ (j : Nat) t v, Try.f8.params[j]? = some t → args[j]? = some v → Value.okWide Try.prog W .any base t v := hval0
  have hW' := hW
  obtain ⟨p, q, hA, hV, rfl, _, _⟩ := hW
  obtain ⟨rfl, rfl⟩ := trodVars_none hV
  replace hA : DataW.TrodAll enc Try.prog W 0 (fun _ => true) true Try.f8.params.toList args.toList ds p := hA
  rw [Try.params8] at hA hval
  obtain ⟨v0, vs0, d0, ds0, p0, q0, hargs, rfl, rfl, h0, r0⟩ := trodAll_cons hA
  obtain ⟨v1, vs1, d1, ds1, p1, q1, rfl, rfl, rfl, h1, r1⟩ := trodAll_cons r0
  obtain ⟨v2, vs2, d2, ds2, p2, q2, rfl, rfl, rfl, h2, r2⟩ := trodAll_cons r1
  obtain ⟨rfl, rfl, rfl⟩ := trodAll_nil r2
  obtain rfl : args = #[v0, v1, v2] := by cases args; simp_all
  obtain ⟨a0, rfl, rfl, rfl, w0⟩ := open_int Try.underlying3 (hval 0 3 v0 rfl rfl) h0
  obtain ⟨a1, rfl, rfl, rfl, w1⟩ := open_int Try.underlying3 (hval 1 3 v1 rfl rfl) h1
  obtain ⟨a2, rfl, rfl, rfl, w2⟩ := open_int Try.underlying3 (hval 2 3 v2 rfl rfl) h2
  refine (walk W a0 w0 a1 w1 a2 w2).mono fun e W' ⟨he, hb⟩ => ?_
  subst he
  exact ⟨_, rfl, law_post hW' laidOut (by rw [Try.params8]; exact params_ok (by kernel_rfl)) rfl (by kernel_rfl) Try.underlying4 rfl rfl rfl hb⟩
theorem over : Rows.satStaysRow.holds Try.pinned (OpenSpec.ofChange Rows.satStaysSpec) :=
  OpenClaim.holds_of_wide 8 Try.f8 rfl rfl rfl rfl rfl rfl rfl ⟨rfl, rfl, rfl, rfl, rfl⟩ rfl rfl rfl rfl rfl (by kernel_rfl) Try.func8 (by kernel_rfl)
    (of_decide_eq_true (by kernel_rfl)) (by unfold Func.isWrapper; first | (rw [if_pos (by decide +kernel)]; kernel_rfl) | (rw [if_neg (by decide +kernel)]; exact ⟨rfl, rfl⟩))
    (fun os started H enc _ => lifted os started H enc)
theorem proved : Rows.SatStaysSaid := over
end Go.Proofs.Ytaglglooffelkaa.satStays
