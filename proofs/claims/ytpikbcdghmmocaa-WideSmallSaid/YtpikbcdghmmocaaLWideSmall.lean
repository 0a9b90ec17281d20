/- WideSmall: for every three integers of the given kinds the law answers true: of small numbers the ratio is the greatest whole number that is not above it. No condition. -/
import Derived.Test.YtpikbcdghmmocaaC02b
namespace Go.Proofs.Ytpikbcdghmmocaa.wideSmall
open Go.ChangeShapes Go.WideShapes Go.ChangeAt Go.RowKit
set_option linter.unusedVariables false
set_option maxRecDepth 100000

theorem quarter {a : Int} (h1 : -2147483648 ≤ a) (h2 : a ≤ 2147483647) : -536870912 ≤ a.tdiv 4 ∧ a.tdiv 4 ≤ 536870912 := by
  rcases Int.lt_or_le a 0 with h | h
  · obtain ⟨n, rfl⟩ : ∃ n : Int, a = -n := ⟨-a, by omega⟩
    rw [Int.neg_tdiv, Int.tdiv_eq_ediv_of_nonneg (by omega)]
    omega
  · rw [Int.tdiv_eq_ediv_of_nonneg h]
    omega
set_option maxHeartbeats 400000 in
theorem walk (w : World) (a0 : Int) (w0 : (Lit.int .i32 a0).wf = true) (a1 : Int) (w1 : (Lit.int .i32 a1).wf = true) (a2 : Int) (w2 : (Lit.int .u16 a2).wf = true) :
    Calls Try.prog 8 #[.int .i32 a0, .int .i32 a1, .int .u16 a2] w fun e w' => e = .returned (.bool true) ∧ Below w.heap.size w w' := by
  have hok := Ok.refl w
  have b0 : -2147483648 ≤ a0 ∧ a0 ≤ 2147483647 := by simp [Lit.wf] at w0; exact w0
  have b1 : -2147483648 ≤ a1 ∧ a1 ≤ 2147483647 := by simp [Lit.wf] at w1; exact w1
  have b2 : 0 ≤ a2 ∧ a2 ≤ 65535 := by simp [Lit.wf] at w2; exact w2
  clear w0 w1 w2
  have c0 := quarter b0.1 b0.2
  have c1 := quarter b1.1 b1.2
  obtain ⟨x, hx⟩ : ∃ x, a0.tdiv 4 = x := ⟨_, rfl⟩
  obtain ⟨y, hy⟩ : ∃ y, a1.tdiv 4 = y := ⟨_, rfl⟩
  obtain ⟨p, hp⟩ : ∃ p, x * y = p := ⟨_, rfl⟩
  rw [hx] at c0
  rw [hy] at c1
  obtain ⟨bp, k1, k2⟩ := Wide.small_down c0.1 c0.2 c1.1 c1.2 hp b2.2
  have K := Lib.hid fun w => wideMulDiv x y a2 w
  have s1 : (Wide.down 7 5 3 == 11) = true := by decide
  have s1' : (Wide.down 7 5 3 != 11) = false := by decide
  by_cases h : a2 < 1
  · rw [k1 h] at K
    clear k1 k2
    go_enter Try.func8, Try.ntmps8
    go_wp2_with (first
      | (go_at_call 12; ((with_reducible refine (K.out _).mono ?_); rintro e wx ⟨rfl, hb1⟩; replace hok := hok.trans hb1; clear hb1))
      | (go_at_call 12; refine (wideMulDiv _ _ _ _).mono ?_; rintro e wx ⟨rfl, hb1⟩; replace hok := hok.trans hb1; clear hb1))
    go_ret
    exact ⟨rfl, hok.below⟩
  · rw [k2 (by omega)] at K
    clear k1 k2
    have e1 := Int.mul_ediv_add_emod p a2
    have e2 := Int.emod_nonneg p (show a2 ≠ 0 by omega)
    have e3 := Int.emod_lt_of_pos p (show 0 < a2 by omega)
    obtain ⟨n, hn⟩ : ∃ n, p / a2 = n := ⟨_, rfl⟩
    obtain ⟨m, hm⟩ : ∃ m, n * a2 = m := ⟨_, rfl⟩
    rw [hn, Int.mul_comm, hm] at e1
    rw [hn] at K
    have g1 : m ≤ p := by omega
    have g2 : p < m + a2 := by omega
    clear e1 e2 e3 hn
    go_enter Try.func8, Try.ntmps8
    go_wp2_with (first
      | (go_at_call 12; ((with_reducible refine (K.out _).mono ?_); rintro e wx ⟨rfl, hb1⟩; replace hok := hok.trans hb1; clear hb1))
      | (go_at_call 12; refine (wideMulDiv _ _ _ _).mono ?_; rintro e wx ⟨rfl, hb1⟩; replace hok := hok.trans hb1; clear hb1))
    go_ret
    exact ⟨rfl, hok.below⟩
theorem own : ownKnob Try.prog.godebug = none := by kernel_rfl
theorem laidOut : laidOutB Try.prog = true := by kernel_rfl
set_option maxRecDepth 100000 in
theorem lifted (os : Os) (started : os.Started) (H : Type) (enc : TypeId × Value → H) :
    ReturnsInHanded {} Try.checked os 8 .any (Rows.wideSmallSpec.pre6 enc Try.prog Try.f8 Rows.wideSmallRow.domain false) (Rows.wideSmallSpec.post enc Try.prog Try.f8 false true false false) := by
  refine returnsInHanded_of_change (C := Try.checked) own started (by kernel_rfl) Try.func8
    (ChangeSpec.witness6 (enc := enc) (C := Try.checked) false ⟨#[], #[.int .i32 0, .int .i32 0, .int .u16 0], []⟩ 8 (by kernel_rfl) (by kernel_rfl) (by kernel_rfl) (by kernel_rfl)) ?_
  intro W base args ds gs before hval0 hW _ _
  have hval : ∀ (j : Nat) t v, Try.f8.params[j]? = some t → args[j]? = some v → Value.okWide Try.prog W .any base t v := hval0
  have hW' := hW
  obtain ⟨p, q, hA, hV, rfl, _, _⟩ := hW
  obtain ⟨rfl, rfl⟩ := trodVars_none hV
  replace hA : DataW.TrodAll enc Try.prog W 0 (fun _ => true) true Try.f8.params.toList args.toList ds p := hA
  rw [Try.params8] at hA hval
  obtain ⟨v0, vs0, d0, ds0, p0, q0, hargs, rfl, rfl, h0, r0⟩ := trodAll_cons hA
  obtain ⟨v1, vs1, d1, ds1, p1, q1, rfl, rfl, rfl, h1, r1⟩ := trodAll_cons r0
  obtain ⟨v2, vs2, d2, ds2, p2, q2, rfl, rfl, rfl, h2, r2⟩ := trodAll_cons r1
  obtain ⟨rfl, rfl, rfl⟩ := trodAll_nil r2
  obtain rfl : args = #[v0, v1, v2] := by cases args; simp_all
  obtain ⟨a0, rfl, rfl, rfl, w0⟩ := open_int Try.underlying21 (hval 0 21 v0 rfl rfl) h0
  obtain ⟨a1, rfl, rfl, rfl, w1⟩ := open_int Try.underlying21 (hval 1 21 v1 rfl rfl) h1
  obtain ⟨a2, rfl, rfl, rfl, w2⟩ := open_int Try.underlying36 (hval 2 36 v2 rfl rfl) h2
  refine (walk W a0 w0 a1 w1 a2 w2).mono fun e W' ⟨he, hb⟩ => ?_
  subst he
  exact ⟨_, rfl, law_post hW' laidOut (by rw [Try.params8]; exact params_ok (by kernel_rfl)) rfl (by kernel_rfl) Try.underlying4 rfl rfl rfl hb⟩
theorem over : Rows.wideSmallRow.holds Try.pinned (OpenSpec.ofChange Rows.wideSmallSpec) :=
  OpenClaim.holds_of_wide 8 Try.f8 rfl rfl rfl rfl rfl rfl rfl ⟨rfl, rfl, rfl, rfl, rfl⟩ rfl rfl rfl rfl rfl (by kernel_rfl) Try.func8 (by kernel_rfl)
    (of_decide_eq_true (by kernel_rfl)) (by unfold Func.isWrapper; first | (rw [if_pos (by decide +kernel)]; kernel_rfl) | (rw [if_neg (by decide +kernel)]; exact ⟨rfl, rfl⟩))
    (fun os started H enc _ => lifted os started H enc)
theorem proved : Rows.WideSmallSaid := over
end Go.Proofs.Ytpikbcdghmmocaa.wideSmall
