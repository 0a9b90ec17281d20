/- SpanMiddle: for every span the law answers true: its middle is in it, and not further from either end than half its width, up. No condition. -/
import Derived.Test.YtpbgfjfodojlaaaC03d
namespace Go.Proofs.Ytpbgfjfodojlaaa.spanMiddle
open Go.ChangeShapes Go.WideShapes Go.ChangeAt Go.RowKit
set_option linter.unusedVariables false
set_option maxRecDepth 100000

set_option maxHeartbeats 1600000 in
theorem walk (w : World) (a b : Int) (wa : (Lit.int .i64 a).wf = true) (wb : (Lit.int .i64 b).wf = true) :
    Calls Try.prog 6 #[.agg #[.int .i64 a, .int .i64 b]] w fun e w' => e = .returned (.bool true) ∧ Below w.heap.size w w' := by
  clear wa wb
  have hok := Ok.refl w
  by_cases hc : (b < a ∨ a < -2305843009213693952) ∨ 2305843009213693952 < b
  · go_enter Try.func6, Try.ntmps6
    go_wp2_with (go_at_call 21; refine (law3Alive _).mono ?_; rintro e w1 ⟨rfl, hb1⟩; have hS := (Slab.new _ _ _ _ rfl).next hb1; replace hok := (hok.alloc _).trans hb1; clear hb1; have c0 := hS.c0; have c1 := hS.c1)
    all_goals first
      | (exfalso; omega)
      | (go_ret; exact ⟨rfl, hok⟩)
  · have h1 : a ≤ b := by omega
    have h2 : -2305843009213693952 ≤ a := by omega
    have h3 : b ≤ 2305843009213693952 := by omega
    clear hc
    have KM := Lib.hid fun w => spanMid a b w
    rw [Sat.clip_in h2 (by omega), Sat.clip_in (by omega) h3] at KM
    obtain ⟨m, hm⟩ : ∃ m, (a + b) / 2 = m := ⟨_, rfl⟩
    rw [hm] at KM
    have m1 : 2 * m ≤ a + b := by omega
    have m2 : a + b ≤ 2 * m + 1 := by omega
    have m3 : a ≤ m := by omega
    have m4 : m ≤ b := by omega
    clear hm
    have KH := Lib.hid fun w => spanHas a b m w
    rw [decide_eq_true ⟨m3, m4⟩] at KH
    obtain ⟨q, hq⟩ : ∃ q, (b - a).tdiv 2 = q := ⟨_, rfl⟩
    obtain ⟨r, hr⟩ : ∃ r, (b - a).tmod 2 = r := ⟨_, rfl⟩
    have hq' : (b - a) / 2 = q := by rw [← hq, Int.tdiv_eq_ediv_of_nonneg (by omega)]
    have hr' : (b - a) % 2 = r := by rw [← hr, Int.tmod_eq_emod_of_nonneg (by omega)]
    have q1 : 2 * q + r ≤ b - a := by omega
    have q2 : b - a ≤ 2 * q + r := by omega
    have q3 : 0 ≤ r := by omega
    have q4 : r ≤ 1 := by omega
    clear hq' hr'
    have f1 : m - a ≤ q + r := by omega
    have f2 : b - m ≤ q + r := by omega
    go_enter Try.func6, Try.ntmps6
    go_wp2_with (first
      | (go_at_call 21; refine (law3Alive _).mono ?_; rintro e w1 ⟨rfl, hb1⟩; have hS := (Slab.new _ _ _ _ rfl).next hb1; replace hok := (hok.alloc _).trans hb1; clear hb1; have c0 := hS.c0; have c1 := hS.c1)
      | (go_at_call 9; refine (KM.out _).mono ?_; rintro e w1 ⟨rfl, hb1⟩; replace hS := hS.next hb1; replace hok := hok.trans hb1; clear hb1 c0 c1; have c0 := hS.c0; have c1 := hS.c1)
      | (go_at_call 14; refine (KH.out _).mono ?_; rintro e w1 ⟨rfl, hb1⟩; replace hS := hS.next hb1; replace hok := hok.trans hb1; clear hb1 c0 c1; have c0 := hS.c0; have c1 := hS.c1))
    go_ret
    exact ⟨rfl, hok⟩
theorem own : ownKnob Try.prog.godebug = none := by kernel_rfl
theorem laidOut : laidOutB Try.prog = true := by kernel_rfl
set_option maxRecDepth 100000 in
theorem lifted (os : Os) (started : os.Started) (H : Type) (enc : TypeId × Value → H) :
    ReturnsInHanded {} Try.checked os 6 .any (Rows.spanMiddleSpec.pre6 enc Try.prog Try.f6 Rows.spanMiddleRow.domain false) (Rows.spanMiddleSpec.post enc Try.prog Try.f6 false true false false) := by
  refine returnsInHanded_of_change (C := Try.checked) own started (by kernel_rfl) Try.func6
    (ChangeSpec.witness6 (enc := enc) (C := Try.checked) false ⟨#[], #[.agg #[.int .i64 0, .int .i64 0]], []⟩ 8 (by kernel_rfl) (by kernel_rfl) (by kernel_rfl) (by kernel_rfl)) ?_
  intro W base args ds gs before hval0 hW _ _
  have hval : ∀ (j : Nat) t v, Try.f6.params[j]? = some t → args[j]? = some v → Value.okWide Try.prog W .any base t v := hval0
  have hW' := hW
  obtain ⟨p, q, hA, hV, rfl, _, _⟩ := hW
  obtain ⟨rfl, rfl⟩ := trodVars_none hV
  replace hA : DataW.TrodAll enc Try.prog W 0 (fun _ => true) true Try.f6.params.toList args.toList ds p := hA
  rw [Try.params6] at hA hval
  obtain ⟨v0, vs0, d0, ds0, p0, q0, hargs, rfl, rfl, h0, r0⟩ := trodAll_cons hA
  obtain ⟨rfl, rfl, rfl⟩ := trodAll_nil r0
  obtain rfl : args = #[v0] := by cases args; simp_all
  obtain ⟨s0_0, s0_1, rfl, ws0_0, ws0_1⟩ := open_pair Try.underlying23 (by kernel_rfl) (by kernel_rfl) (by kernel_rfl) (by kernel_rfl) (hval 0 23 v0 rfl rfl) h0
  refine (walk W s0_0 s0_1 ws0_0 ws0_1).mono fun e W' ⟨he, hb⟩ => ?_
  subst he
  exact ⟨_, rfl, law_post hW' laidOut (by rw [Try.params6]; exact params_ok (by kernel_rfl)) rfl (by kernel_rfl) Try.underlying4 rfl rfl rfl hb⟩
theorem over : Rows.spanMiddleRow.holds Try.pinned (OpenSpec.ofChange Rows.spanMiddleSpec) :=
  OpenClaim.holds_of_wide 6 Try.f6 rfl rfl rfl rfl rfl rfl rfl ⟨rfl, rfl, rfl, rfl, rfl⟩ rfl rfl rfl rfl rfl (by kernel_rfl) Try.func6 (by kernel_rfl)
    (of_decide_eq_true (by kernel_rfl)) (by unfold Func.isWrapper; first | (rw [if_pos (by decide +kernel)]; kernel_rfl) | (rw [if_neg (by decide +kernel)]; exact ⟨rfl, rfl⟩))
    (fun os started H enc _ => lifted os started H enc)
theorem proved : Rows.SpanMiddleSaid := over
end Go.Proofs.Ytpbgfjfodojlaaa.spanMiddle
