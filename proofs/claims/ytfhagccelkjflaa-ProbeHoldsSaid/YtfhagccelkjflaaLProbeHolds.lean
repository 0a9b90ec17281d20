/- ProbeHolds: for all numbers the law answers true: by how much the other clock is ahead is in what a trip tells. No condition. -/
import Derived.Test.YtfhagccelkjflaaC10c
import Derived.Test.YtfhagccelkjflaaW06
import Derived.Test.YtfhagccelkjflaaC10d
namespace Go.Proofs.Ytfhagccelkjflaa.probeHolds
open Go.ChangeShapes Go.WideShapes Go.ChangeAt Go.RowKit
set_option linter.unusedVariables false
set_option maxRecDepth 100000
attribute [local go_sem ↓] Go.wp_at_zero Go.wp_at_succ
set_option maxHeartbeats 3200000 in
theorem yes (w : World) (p : Par) (asked ad there rest back drift : Int) (hm : Lim.May p) (h0 : p.delay - p.jit ≤ there) (h1 : there ≤ p.delay) (h2 : p.delay - p.jit ≤ back) (h3 : back ≤ p.delay) (h4 : drift ≤ 2 * p.rho) (h5 : -2 * p.rho ≤ drift) (g0 : asked ≤ 1125899906842624 ∧ -1125899906842624 ≤ asked) (g1 : ad ≤ 1125899906842624 ∧ -1125899906842624 ≤ ad) (g2 : rest ≤ 1125899906842624 ∧ -1125899906842624 ≤ rest) : Calls Try.prog 5 #[parV p, .int .i64 asked, .int .i64 ad, .int .i64 there, .int .i64 rest, .int .i64 back, .int .i64 drift] w fun e w' => e = .returned (.bool true) ∧ Ok w w' := by
  have hh := Probe.holds hm (asked := asked) (ad := ad) (there := there) (rest := rest) (back := back) (dr := drift) (by omega) (by omega) (by omega) (by omega) (by omega) (by omega)
  have KA := Lib.hid fun w => probeAhead p ⟨asked, asked + there + ad, asked + there + rest + ad + drift, asked + there + rest + back⟩ w
  have KR := Lib.hid fun w => probeRight p ⟨asked, asked + there + ad, asked + there + rest + ad + drift, asked + there + rest + back⟩ w
  change let s := Probe.ah p ⟨asked, asked + there + ad, asked + there + rest + ad + drift, asked + there + rest + back⟩; s.1 ≤ ad ∧ ad ≤ s.2 ∧ s.2 - s.1 ≤ p.jit + 4 * p.rho ∧ -2305843009213693952 ≤ s.1 ∧ s.2 ≤ 2305843009213693952 at hh
  obtain ⟨x, y, hxy⟩ : ∃ x y, Probe.ah p ⟨asked, asked + there + ad, asked + there + rest + ad + drift, asked + there + rest + back⟩ = (x, y) := ⟨_, _, rfl⟩
  rw [hxy] at hh KA KR
  clear hxy
  simp only at hh KA KR
  obtain ⟨x1, x2, x3, x4, x5⟩ := hh
  rw [decide_eq_true (show x ≤ y by omega)] at KR
  have HP := Lib.hid (Own.new w (parCells p) 23 rfl)
  have HK := Lib.hid ((Ok.refl w).alloc (.cells (parCells p) 23))
  have KC := Lib.hid fun w => limCheck p w
  rw [show Lim.check p = 0 from if_pos hm] at KC
  obtain ⟨b1, r1, d1, j1, -⟩ := Lim.May.bds hm
  clear hm
  have n0 : ∀ (w : World), (Instr.index 38 (.agg #[.int .i64 asked, .int .i64 ad, .int .i64 rest]) (.int .i64 0)).run Try.prog w = .ok (.int .i64 asked) w := fun _ => by kernel_rfl
  have n1 : ∀ (w : World), (Instr.index 38 (.agg #[.int .i64 asked, .int .i64 ad, .int .i64 rest]) (.int .i64 1)).run Try.prog w = .ok (.int .i64 ad) w := fun _ => by kernel_rfl
  have n2 : ∀ (w : World), (Instr.index 38 (.agg #[.int .i64 asked, .int .i64 ad, .int .i64 rest]) (.int .i64 2)).run Try.prog w = .ok (.int .i64 rest) w := fun _ => by kernel_rfl
  go_enter Try.func5, Try.ntmps5
  go_wp2_with (first | (go_at_call 7; (with_reducible refine (law10Alive _).mono ?_); rintro e w1 ⟨rfl, hb1⟩; have hP := HP.out.next hb1; have hok := HK.out.trans hb1; clear hb1 HP HK; obtain ⟨c0, c1, c2, c3, c4, c5, c6, c7, c8, c9, c10, c11⟩ := hP.pars) | (go_at_call 13; (with_reducible refine (KC.out _).mono ?_); rintro e w2 ⟨rfl, hb1⟩; clear c0 c1 c2 c3 c4 c5 c6 c7 c8 c9 c10 c11; replace hP := hP.next hb1; replace hok := hok.trans hb1; clear hb1; obtain ⟨c0, c1, c2, c3, c4, c5, c6, c7, c8, c9, c10, c11⟩ := hP.pars; have hPl := hP.lt))
  refine wp_loop_rounds 4 ?_
  repeat' (rw [rounds_succ]; go_wp2_with (first | (go_at_call 9; (with_reducible refine (KA.out _).mono ?_); rintro e w3 ⟨rfl, hb1⟩; clear c0 c1 c2 c3 c4 c5 c6 c7 c8 c9 c10 c11; replace hP := (hP.alloc _).next hb1; replace hok := (hok.alloc _).trans hb1; have hT := (Own.new w2 (tripCells ⟨asked, asked + there + ad, asked + there + rest + ad + drift, asked + there + rest + back⟩) 25 rfl).next hb1; clear hb1; obtain ⟨c0, c1, c2, c3, c4, c5, c6, c7, c8, c9, c10, c11⟩ := hP.pars; have t0 := hT.cell 0 (v := .int .i64 asked) rfl; have t1 := hT.cell 1 (v := .int .i64 (asked + there + ad)) rfl; have t2 := hT.cell 2 (v := .int .i64 (asked + there + rest + ad + drift)) rfl; have t3 := hT.cell 3 (v := .int .i64 (asked + there + rest + back)) rfl; have hPl := hP.lt; have hTl := hT.lt) | (go_at_call 10; (with_reducible refine (KR.out _).mono ?_); rintro e w4 ⟨rfl, hb1⟩; replace hok := (hok.alloc _).trans hb1)))
  go_ret
  exact ⟨rfl, hok⟩
theorem walk (w : World) (p : Par) (_wp : ParWf p) (asked : Int) (_w1 : (Lit.int .i64 asked).wf = true) (ad : Int) (_w2 : (Lit.int .i64 ad).wf = true) (there : Int) (_w3 : (Lit.int .i64 there).wf = true) (rest : Int) (_w4 : (Lit.int .i64 rest).wf = true) (back : Int) (_w5 : (Lit.int .i64 back).wf = true) (drift : Int) (_w6 : (Lit.int .i64 drift).wf = true) :
    Calls Try.prog 5 #[parV p, .int .i64 asked, .int .i64 ad, .int .i64 there, .int .i64 rest, .int .i64 back, .int .i64 drift] w fun e w' => e = .returned (.bool true) ∧ Below w.heap.size w w' := by
  show Calls Try.prog 5 #[parV p, .int .i64 asked, .int .i64 ad, .int .i64 there, .int .i64 rest, .int .i64 back, .int .i64 drift] w fun e w' => e = .returned (.bool true) ∧ Ok w w' 
  by_cases hm : Lim.May p
  rotate_left
  · exact no0 w p asked ad there rest back drift hm
  by_cases h0 : there < p.delay - p.jit
  · exact no1 w p asked ad there rest back drift hm h0
  replace h0 : p.delay - p.jit ≤ there := by omega
  by_cases h1 : p.delay < there
  · exact no2 w p asked ad there rest back drift hm h0 h1
  replace h1 : there ≤ p.delay := by omega
  by_cases h2 : back < p.delay - p.jit
  · exact no3 w p asked ad there rest back drift hm h0 h1 h2
  replace h2 : p.delay - p.jit ≤ back := by omega
  by_cases h3 : p.delay < back
  · exact no4 w p asked ad there rest back drift hm h0 h1 h2 h3
  replace h3 : back ≤ p.delay := by omega
  by_cases h4 : 2 * p.rho < drift
  · exact no5 w p asked ad there rest back drift hm h0 h1 h2 h3 h4
  replace h4 : drift ≤ 2 * p.rho := by omega
  by_cases h5 : drift < -2 * p.rho
  · exact no6 w p asked ad there rest back drift hm h0 h1 h2 h3 h4 h5
  replace h5 : -2 * p.rho ≤ drift := by omega
  by_cases k0 : 1125899906842624 < asked
  · exact far00 w p asked ad there rest back drift hm h0 h1 h2 h3 h4 h5 k0
  by_cases m0 : asked < -1125899906842624
  · exact far01 w p asked ad there rest back drift hm h0 h1 h2 h3 h4 h5 m0
  have g0 : asked ≤ 1125899906842624 ∧ -1125899906842624 ≤ asked := by omega
  by_cases k1 : 1125899906842624 < ad
  · exact far10 w p asked ad there rest back drift hm h0 h1 h2 h3 h4 h5 g0 k1
  by_cases m1 : ad < -1125899906842624
  · exact far11 w p asked ad there rest back drift hm h0 h1 h2 h3 h4 h5 g0 m1
  have g1 : ad ≤ 1125899906842624 ∧ -1125899906842624 ≤ ad := by omega
  by_cases k2 : 1125899906842624 < rest
  · exact far20 w p asked ad there rest back drift hm h0 h1 h2 h3 h4 h5 g0 g1 k2
  by_cases m2 : rest < -1125899906842624
  · exact far21 w p asked ad there rest back drift hm h0 h1 h2 h3 h4 h5 g0 g1 m2
  have g2 : rest ≤ 1125899906842624 ∧ -1125899906842624 ≤ rest := by omega
  exact yes w p asked ad there rest back drift hm h0 h1 h2 h3 h4 h5 g0 g1 g2
theorem own : ownKnob Try.prog.godebug = none := by kernel_rfl
theorem laidOut : laidOutB Try.prog = true := by kernel_rfl
set_option maxRecDepth 100000 in
theorem lifted (os : Os) (started : os.Started) (H : Type) (enc : TypeId × Value → H) :
    ReturnsInHanded {} Try.checked os 5 .any (Rows.probeHoldsSpec.pre6 enc Try.prog Try.f5 Rows.probeHoldsRow.domain false) (Rows.probeHoldsSpec.post enc Try.prog Try.f5 false true false false) := by
  refine returnsInHanded_of_change (C := Try.checked) own started (by kernel_rfl) Try.func5
    (ChangeSpec.witness6 (enc := enc) (C := Try.checked) false ⟨#[], #[.agg #[.int .i64 0, .int .i64 0, .int .i64 0, .int .i64 0, .int .i64 0, .int .i64 0, .int .i64 0, .int .i64 0, .int .i64 0, .int .i64 0, .int .i64 0, .int .i64 0], .int .i64 0, .int .i64 0, .int .i64 0, .int .i64 0, .int .i64 0, .int .i64 0], []⟩ 8 (by kernel_rfl) (by kernel_rfl) (by kernel_rfl) (by kernel_rfl)) ?_
  intro W base args ds gs before hval0 hW _ _
  have hval : ∀ (j : Nat) t v, Try.f5.params[j]? = some t → args[j]? = some v → Value.okWide Try.prog W .any base t v := hval0
  have hW' := hW
  obtain ⟨p, q, hA, hV, rfl, _, _⟩ := hW
  obtain ⟨rfl, rfl⟩ := trodVars_none hV
  replace hA : DataW.TrodAll enc Try.prog W 0 (fun _ => true) true Try.f5.params.toList args.toList ds p := hA
  rw [Try.params5] at hA hval
  obtain ⟨v0, vs0, d0, ds0, p0, q0, hargs, rfl, rfl, h0, r0⟩ := trodAll_cons hA
  obtain ⟨v1, vs1, d1, ds1, p1, q1, rfl, rfl, rfl, h1, r1⟩ := trodAll_cons r0
  obtain ⟨v2, vs2, d2, ds2, p2, q2, rfl, rfl, rfl, h2, r2⟩ := trodAll_cons r1
  obtain ⟨v3, vs3, d3, ds3, p3, q3, rfl, rfl, rfl, h3, r3⟩ := trodAll_cons r2
  obtain ⟨v4, vs4, d4, ds4, p4, q4, rfl, rfl, rfl, h4, r4⟩ := trodAll_cons r3
  obtain ⟨v5, vs5, d5, ds5, p5, q5, rfl, rfl, rfl, h5, r5⟩ := trodAll_cons r4
  obtain ⟨v6, vs6, d6, ds6, p6, q6, rfl, rfl, rfl, h6, r6⟩ := trodAll_cons r5
  obtain ⟨rfl, rfl, rfl⟩ := trodAll_nil r6
  obtain rfl : args = #[v0, v1, v2, v3, v4, v5, v6] := by cases args; simp_all
  obtain ⟨p0, rfl, wp0⟩ := open_par Try.underlying23 rfl (by kernel_rfl) (by kernel_rfl) (by kernel_rfl) (hval 0 23 v0 rfl rfl) h0
  obtain ⟨a1, rfl, rfl, rfl, w1⟩ := open_int Try.underlying3 (hval 1 3 v1 rfl rfl) h1
  obtain ⟨a2, rfl, rfl, rfl, w2⟩ := open_int Try.underlying3 (hval 2 3 v2 rfl rfl) h2
  obtain ⟨a3, rfl, rfl, rfl, w3⟩ := open_int Try.underlying3 (hval 3 3 v3 rfl rfl) h3
  obtain ⟨a4, rfl, rfl, rfl, w4⟩ := open_int Try.underlying3 (hval 4 3 v4 rfl rfl) h4
  obtain ⟨a5, rfl, rfl, rfl, w5⟩ := open_int Try.underlying3 (hval 5 3 v5 rfl rfl) h5
  obtain ⟨a6, rfl, rfl, rfl, w6⟩ := open_int Try.underlying3 (hval 6 3 v6 rfl rfl) h6
  refine (walk W p0 wp0 a1 w1 a2 w2 a3 w3 a4 w4 a5 w5 a6 w6).mono fun e W' ⟨he, hb⟩ => ?_
  subst he
  exact ⟨_, rfl, law_post hW' laidOut (by rw [Try.params5]; exact params_ok (by kernel_rfl)) rfl (by kernel_rfl) Try.underlying4 rfl rfl rfl hb⟩
theorem over : Rows.probeHoldsRow.holds Try.pinned (OpenSpec.ofChange Rows.probeHoldsSpec) :=
  OpenClaim.holds_of_wide 5 Try.f5 rfl rfl rfl rfl rfl rfl rfl ⟨rfl, rfl, rfl, rfl, rfl⟩ rfl rfl rfl rfl rfl (by kernel_rfl) Try.func5 (by kernel_rfl)
    (of_decide_eq_true (by kernel_rfl)) (by unfold Func.isWrapper; first | (rw [if_pos (by decide +kernel)]; kernel_rfl) | (rw [if_neg (by decide +kernel)]; exact ⟨rfl, rfl⟩))
    (fun os started H enc _ => lifted os started H enc)
theorem proved : Rows.ProbeHoldsSaid := over
end Go.Proofs.Ytfhagccelkjflaa.probeHolds
