/- LimitNeeds: for every fabric's numbers the law answers true: where they may be so, they and their bounds stand to one another as the promise says. No condition. -/
import Derived.Test.YtcelhpocegmpgaaC04f
import Derived.Test.YtcelhpocegmpgaaW06
import Derived.Test.YtcelhpocegmpgaaM06
namespace Go.Proofs.Ytcelhpocegmpgaa.limitNeeds
open Go.ChangeShapes Go.WideShapes Go.ChangeAt Go.RowKit
set_option linter.unusedVariables false
set_option maxRecDepth 100000
set_option maxHeartbeats 6400000 in
theorem walk (w : World) (p : Par) (wp : ParWf p) :
    Calls Try.prog 7 #[parV p] w fun e w' => e = .returned (.bool true) ∧ Below w.heap.size w w' := by
  clear wp
  by_cases hm : Lim.May p
  · have KC := Lib.hid fun w => limCheck p w
    rw [show Lim.check p = 0 from if_pos hm] at KC
    have hsm := hm.small
    have n1 := Lim.settle_more hm
    have n2 := Lim.hop_in hsm
    have n3 := Lim.gate_in hsm
    have n4 : Lim.settle p ≤ 2305843009213693952 := (Sat.sum_bd _).2
    clear hsm
    have KH := Lib.hid fun w => limHop p w
    obtain ⟨h, hh⟩ : ∃ xx, Lim.hop p = xx := ⟨_, rfl⟩
    rw [hh] at KH n2
    clear hh
    have KG := Lib.hid fun w => limGate p w
    obtain ⟨q, hq⟩ : ∃ xx, Lim.gate p = xx := ⟨_, rfl⟩
    rw [hq] at KG n3
    clear hq
    have KU := Lib.hid fun w => limSettle p w
    obtain ⟨u, hu⟩ : ∃ xx, Lim.settle p = xx := ⟨_, rfl⟩
    rw [hu] at KU n1 n4
    clear hu
    obtain ⟨⟨⟨a1, a2⟩, f1, f2⟩, ⟨⟨b1, b2⟩, ⟨r1, r2⟩, ⟨y1, y2⟩, ⟨j1, j2⟩, ⟨e1, e2⟩, m1, m2⟩, ⟨⟨d1, d2⟩, o1, o2⟩, -⟩ := hm
    have n5 : 2 * p.rho ≤ h := by omega
    have n6 : 2 * h ≤ q := by omega
    have n7 : 0 ≤ h ∧ h ≤ 1099511627776 := by omega
    have n8 : 0 ≤ q ∧ q ≤ 17592186044416 := by omega
    clear n2 n3 e1 e2 y1 y2 j1 j2
    go_enter Try.func7, Try.ntmps7
    go_upto_region 1 with fail
    have hB : BoxP w.heap.size w p (w.alloc (.cells (parCells p) 23)) := BoxP.new w p _ rfl
    obtain ⟨g, hg⟩ : ∃ g, w.heap.size = g := ⟨_, rfl⟩
    rw [hg] at hB ⊢
    generalize w.alloc (.cells (parCells p) 23) = W at hB ⊢
    clear hg
    obtain ⟨c0, c1, c2, c3, c4, c5, c6, c7, c8, c9, c10, c11, -, -⟩ := id hB
    go_wp2_with (first | (go_at_call 11; (with_reducible refine (law4Alive _).mono ?_); rintro e w1 ⟨rfl, hb1⟩; replace hB := BoxP.next hb1 hB; clear hb1 c0 c1 c2 c3 c4 c5 c6 c7 c8 c9 c10 c11; obtain ⟨c0, c1, c2, c3, c4, c5, c6, c7, c8, c9, c10, c11, -, -⟩ := id hB) | (go_at_call 8; (with_reducible refine (KC.out _).mono ?_); rintro e w1 ⟨rfl, hb1⟩; replace hB := BoxP.next hb1 hB; clear hb1 c0 c1 c2 c3 c4 c5 c6 c7 c8 c9 c10 c11; obtain ⟨c0, c1, c2, c3, c4, c5, c6, c7, c8, c9, c10, c11, -, -⟩ := id hB))
    clear c0 c1 c2 c3 c4 c5 c6 c7 c8 c9 c10 c11
    have w0 : IntKind.i64.wrap (3 * p.f) = 3 * p.f := IntWalk.i64_in _ ⟨by omega, by omega⟩
    have w1 : IntKind.i64.wrap (4 * p.mu) = 4 * p.mu := IntWalk.i64_in _ ⟨by omega, by omega⟩
    have w2 : IntKind.i64.wrap (2 * p.rho) = 2 * p.rho := IntWalk.i64_in _ ⟨by omega, by omega⟩
    have w3 : IntKind.i64.wrap (2 * h) = 2 * h := IntWalk.i64_in _ ⟨by omega, by omega⟩
    have w4 : IntKind.i64.wrap (2 * p.d) = 2 * p.d := IntWalk.i64_in _ ⟨by omega, by omega⟩
    have w5 : IntKind.i64.wrap (2 * p.d + 6) = 2 * p.d + 6 := IntWalk.i64_in _ ⟨by omega, by omega⟩
    have w6 : IntKind.i64.wrap (p.d + 1) = p.d + 1 := IntWalk.i64_in _ ⟨by omega, by omega⟩
    have k0 : 3 * p.f < p.n := by omega
    have k1 : p.rho < p.mu := by omega
    have k2 : 4 * p.mu ≤ p.beat := by omega
    have k3 : 2 * p.rho ≤ h := by omega
    have k4 : 2 * h ≤ q := by omega
    have k5 : 2 * p.d + 6 ≤ u := by omega
    have k6 : p.d + 1 < p.hold := by omega
    clear a1 a2 f1 f2 b1 b2 r1 r2 m1 m2 d1 d2 o1 o2 n1 n4 n5 n6 n7 n8
    go_region_held3 (fun w' => w'.cell? ⟨g, 0, none⟩ = some (.int .i64 p.n) ∧ w'.cell? ⟨g, 1, none⟩ = some (.int .i64 p.f) ∧ w'.cell? ⟨g, 2, none⟩ = some (.int .i64 p.d) ∧ w'.cell? ⟨g, 3, none⟩ = some (.int .i64 p.beat) ∧ w'.cell? ⟨g, 4, none⟩ = some (.int .i64 p.rho) ∧ w'.cell? ⟨g, 5, none⟩ = some (.int .i64 p.delay) ∧ w'.cell? ⟨g, 6, none⟩ = some (.int .i64 p.jit) ∧ w'.cell? ⟨g, 7, none⟩ = some (.int .i64 p.eps) ∧ w'.cell? ⟨g, 8, none⟩ = some (.int .i64 p.mu) ∧ w'.cell? ⟨g, 9, none⟩ = some (.int .i64 p.hold) ∧ w'.cell? ⟨g, 10, none⟩ = some (.int .i64 p.pulse) ∧ w'.cell? ⟨g, 11, none⟩ = some (.int .i64 p.sec) ∧ g < w'.heap.size ∧ Ok w w')
      (first | assumption | exact BoxP.drew (by assumption) | exact BoxP.alloc (by assumption) _ | exact BoxP.next (by assumption) (by assumption) | exact BoxP.next (by assumption) (BoxP.drew (by assumption)) | exact BoxP.next (by assumption) (BoxP.alloc (by assumption) _)) (first | (go_at_call 12; (with_reducible refine (KH.out _).mono ?_); rintro e w2 ⟨rfl, hb2⟩) | (go_at_call 14; (with_reducible refine (KG.out _).mono ?_); rintro e w2 ⟨rfl, hb2⟩) | (go_at_call 20; (with_reducible refine (KU.out _).mono ?_); rintro e w2 ⟨rfl, hb2⟩))
    all_goals
      rename_i hS
      have hok := BoxP.ok hS
      clear hS
      go_wp2
      go_ret
      exact ⟨rfl, hok⟩
  · have KC := Lib.hid fun w => limCheck p w
    rw [show Lim.check p = 1 from if_neg hm] at KC
    clear hm
    go_enter Try.func7, Try.ntmps7
    go_upto_region 1 with fail
    have hB : BoxP w.heap.size w p (w.alloc (.cells (parCells p) 23)) := BoxP.new w p _ rfl
    obtain ⟨g, hg⟩ : ∃ g, w.heap.size = g := ⟨_, rfl⟩
    rw [hg] at hB ⊢
    generalize w.alloc (.cells (parCells p) 23) = W at hB ⊢
    clear hg
    obtain ⟨c0, c1, c2, c3, c4, c5, c6, c7, c8, c9, c10, c11, -, -⟩ := id hB
    go_wp2_with (first | (go_at_call 11; (with_reducible refine (law4Alive _).mono ?_); rintro e w1 ⟨rfl, hb1⟩; replace hB := BoxP.next hb1 hB; clear hb1 c0 c1 c2 c3 c4 c5 c6 c7 c8 c9 c10 c11; obtain ⟨c0, c1, c2, c3, c4, c5, c6, c7, c8, c9, c10, c11, -, -⟩ := id hB) | (go_at_call 8; (with_reducible refine (KC.out _).mono ?_); rintro e w1 ⟨rfl, hb1⟩; replace hB := BoxP.next hb1 hB; clear hb1 c0 c1 c2 c3 c4 c5 c6 c7 c8 c9 c10 c11; obtain ⟨c0, c1, c2, c3, c4, c5, c6, c7, c8, c9, c10, c11, -, -⟩ := id hB))
    go_ret
    exact ⟨rfl, BoxP.ok hB⟩
theorem own : ownKnob Try.prog.godebug = none := by kernel_rfl
theorem laidOut : laidOutB Try.prog = true := by kernel_rfl
set_option maxRecDepth 100000 in
theorem lifted (os : Os) (started : os.Started) (H : Type) (enc : TypeId × Value → H) :
    ReturnsInHanded {} Try.checked os 7 .any (Rows.limitNeedsSpec.pre6 enc Try.prog Try.f7 Rows.limitNeedsRow.domain false) (Rows.limitNeedsSpec.post enc Try.prog Try.f7 false true false false) := by
  refine returnsInHanded_of_change (C := Try.checked) own started (by kernel_rfl) Try.func7
    (ChangeSpec.witness6 (enc := enc) (C := Try.checked) false ⟨#[], #[.agg #[.int .i64 0, .int .i64 0, .int .i64 0, .int .i64 0, .int .i64 0, .int .i64 0, .int .i64 0, .int .i64 0, .int .i64 0, .int .i64 0, .int .i64 0, .int .i64 0]], []⟩ 8 (by kernel_rfl) (by kernel_rfl) (by kernel_rfl) (by kernel_rfl)) ?_
  intro W base args ds gs before hval0 hW _ _
  have hval : ∀ (j : Nat) t v, Try.f7.params[j]? = some t → args[j]? = some v → Value.okWide Try.prog W .any base t v := hval0
  have hW' := hW
  obtain ⟨p, q, hA, hV, rfl, _, _⟩ := hW
  obtain ⟨rfl, rfl⟩ := trodVars_none hV
  replace hA : DataW.TrodAll enc Try.prog W 0 (fun _ => true) true Try.f7.params.toList args.toList ds p := hA
  rw [Try.params7] at hA hval
  obtain ⟨v0, vs0, d0, ds0, p0, q0, hargs, rfl, rfl, h0, r0⟩ := trodAll_cons hA
  obtain ⟨rfl, rfl, rfl⟩ := trodAll_nil r0
  obtain rfl : args = #[v0] := by cases args; simp_all
  obtain ⟨p0, rfl, wp0⟩ := open_par Try.underlying23 rfl (by kernel_rfl) (by kernel_rfl) (by kernel_rfl) (hval 0 23 v0 rfl rfl) h0
  refine (walk W p0 wp0).mono fun e W' ⟨he, hb⟩ => ?_
  subst he
  exact ⟨_, rfl, law_post hW' laidOut (by rw [Try.params7]; exact params_ok (by kernel_rfl)) rfl (by kernel_rfl) Try.underlying4 rfl rfl rfl hb⟩
theorem over : Rows.limitNeedsRow.holds Try.pinned (OpenSpec.ofChange Rows.limitNeedsSpec) :=
  OpenClaim.holds_of_wide 7 Try.f7 rfl rfl rfl rfl rfl rfl rfl ⟨rfl, rfl, rfl, rfl, rfl⟩ rfl rfl rfl rfl rfl (by kernel_rfl) Try.func7 (by kernel_rfl)
    (of_decide_eq_true (by kernel_rfl)) (by unfold Func.isWrapper; first | (rw [if_pos (by decide +kernel)]; kernel_rfl) | (rw [if_neg (by decide +kernel)]; exact ⟨rfl, rfl⟩))
    (fun os started H enc _ => lifted os started H enc)
theorem proved : Rows.LimitNeedsSaid := over
end Go.Proofs.Ytcelhpocegmpgaa.limitNeeds
