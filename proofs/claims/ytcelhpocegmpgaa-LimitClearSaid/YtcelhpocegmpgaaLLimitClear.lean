/- LimitClear: for every fabric's numbers, held beats and hops the law answers true: where they may be so, the bounds are those that are reckoned without bounds. No condition. -/
import Derived.Test.YtcelhpocegmpgaaC04f
import Derived.Test.YtcelhpocegmpgaaW06
import Derived.Test.YtcelhpocegmpgaaM06
import Derived.BigGuardPart
namespace Go.Proofs.Ytcelhpocegmpgaa.limitClear
open Go.ChangeShapes Go.WideShapes Go.ChangeAt Go.RowKit
set_option linter.unusedVariables false
set_option maxRecDepth 100000
set_option maxHeartbeats 6400000 in
theorem walk (w : World) (p : Par) (wp : ParWf p) (held : Int) (wh : (Lit.int .i64 held).wf = true) (hops : Int) (wo : (Lit.int .i64 hops).wf = true) :
    Calls Try.prog 5 #[parV p, .int .i64 held, .int .i64 hops] w fun e w' => e = .returned (.bool true) ∧ Below w.heap.size w w' := by
  clear wp wh wo
  by_cases hm : Lim.May p
  rotate_left
  · have KC := Lib.hid fun w => limCheck p w
    rw [show Lim.check p = 1 from if_neg hm] at KC
    clear hm
    go_enter Try.func5, Try.ntmps5
    go_upto_region 1 with fail
    have hB : BoxP w.heap.size w p (w.alloc (.cells (parCells p) 23)) := BoxP.new w p _ rfl
    obtain ⟨g, hg⟩ : ∃ g, w.heap.size = g := ⟨_, rfl⟩
    rw [hg] at hB ⊢
    generalize w.alloc (.cells (parCells p) 23) = W at hB ⊢
    clear hg
    obtain ⟨c0, c1, c2, c3, c4, c5, c6, c7, c8, c9, c10, c11, -, -⟩ := id hB
    go_wp2_with (first | (go_at_call 11; (with_reducible refine (law4Alive _).mono ?_); rintro e w1 ⟨rfl, hb1⟩; replace hB := BoxP.next hb1 hB; clear hb1 c0 c1 c2 c3 c4 c5 c6 c7 c8 c9 c10 c11; obtain ⟨c0, c1, c2, c3, c4, c5, c6, c7, c8, c9, c10, c11, -, -⟩ := id hB) | (go_at_call 8; (with_reducible refine (KC.out _).mono ?_); rintro e w1 ⟨rfl, hb1⟩; replace hB := BoxP.next hb1 hB; clear hb1 c0 c1 c2 c3 c4 c5 c6 c7 c8 c9 c10 c11; obtain ⟨c0, c1, c2, c3, c4, c5, c6, c7, c8, c9, c10, c11, -, -⟩ := id hB))
    go_ret
    exact ⟨rfl, BoxP.ok hB⟩
  have KC := Lib.hid fun w => limCheck p w
  rw [show Lim.check p = 0 from if_pos hm] at KC
  by_cases hr : (0 ≤ held ∧ held ≤ 1048576) ∧ (0 ≤ hops ∧ hops ≤ 1048576)
  rotate_left
  · clear hm
    go_enter Try.func5, Try.ntmps5
    go_upto_region 1 with fail
    have hB : BoxP w.heap.size w p (w.alloc (.cells (parCells p) 23)) := BoxP.new w p _ rfl
    obtain ⟨g, hg⟩ : ∃ g, w.heap.size = g := ⟨_, rfl⟩
    rw [hg] at hB ⊢
    generalize w.alloc (.cells (parCells p) 23) = W at hB ⊢
    clear hg
    obtain ⟨c0, c1, c2, c3, c4, c5, c6, c7, c8, c9, c10, c11, -, -⟩ := id hB
    go_wp2_with (first | (go_at_call 11; (with_reducible refine (law4Alive _).mono ?_); rintro e w1 ⟨rfl, hb1⟩; replace hB := BoxP.next hb1 hB; clear hb1 c0 c1 c2 c3 c4 c5 c6 c7 c8 c9 c10 c11; obtain ⟨c0, c1, c2, c3, c4, c5, c6, c7, c8, c9, c10, c11, -, -⟩ := id hB) | (go_at_call 8; (with_reducible refine (KC.out _).mono ?_); rintro e w1 ⟨rfl, hb1⟩; replace hB := BoxP.next hb1 hB; clear hb1 c0 c1 c2 c3 c4 c5 c6 c7 c8 c9 c10 c11; obtain ⟨c0, c1, c2, c3, c4, c5, c6, c7, c8, c9, c10, c11, -, -⟩ := id hB))
    all_goals
      go_ret
      exact ⟨rfl, BoxP.ok hB⟩
  have hsm := hm.small
  obtain ⟨⟨g1, g2⟩, o1, o2⟩ := hr
  obtain ⟨⟨A1, A2⟩, B1, B2⟩ := Lim.wide_bd hsm (held := held) (hops := hops) (by omega) (by omega)
  have KH := Lib.hid fun w => limHop p w
  have KG := Lib.hid fun w => limGate p w
  have KW := Lib.hid fun w => limWidth p held hops w
  rw [Lim.hop_in hsm] at KH
  rw [Lim.gate_in hsm] at KG
  rw [Lim.width_in hsm (by omega) (by omega), Lim.wide] at KW
  obtain ⟨⟨r1, r2⟩, ⟨j1, j2⟩, e1, e2⟩ := hsm
  clear hm
  have KD := Lib.hid fun w => satClip (2 * (2 * p.eps + (p.jit + 2 * p.rho)) + 2 * p.rho * held + (hops + 1) * (p.jit + 2 * p.rho)) w
  rw [Sat.clip_in (x := 2 * (2 * p.eps + (p.jit + 2 * p.rho)) + 2 * p.rho * held + (hops + 1) * (p.jit + 2 * p.rho)) (by omega) (by omega)] at KD
  obtain ⟨A, hA⟩ : ∃ xx, 2 * p.rho * held = xx := ⟨_, rfl⟩
  obtain ⟨B, hB'⟩ : ∃ xx, (hops + 1) * (p.jit + 2 * p.rho) = xx := ⟨_, rfl⟩
  rw [hA] at A1 A2 KW KD
  rw [hB'] at B1 B2 KW KD
  go_enter Try.func5, Try.ntmps5
  go_upto_region 1 with fail
  have hB : BoxP w.heap.size w p (w.alloc (.cells (parCells p) 23)) := BoxP.new w p _ rfl
  obtain ⟨g, hg⟩ : ∃ g, w.heap.size = g := ⟨_, rfl⟩
  rw [hg] at hB ⊢
  generalize w.alloc (.cells (parCells p) 23) = W at hB ⊢
  clear hg
  obtain ⟨c0, c1, c2, c3, c4, c5, c6, c7, c8, c9, c10, c11, -, -⟩ := id hB
  go_wp2_with (first | (go_at_call 11; (with_reducible refine (law4Alive _).mono ?_); rintro e w1 ⟨rfl, hb1⟩; replace hB := BoxP.next hb1 hB; clear hb1 c0 c1 c2 c3 c4 c5 c6 c7 c8 c9 c10 c11; obtain ⟨c0, c1, c2, c3, c4, c5, c6, c7, c8, c9, c10, c11, -, -⟩ := id hB) | (go_at_call 8; (with_reducible refine (KC.out _).mono ?_); rintro e w1 ⟨rfl, hb1⟩; replace hB := BoxP.next hb1 hB; clear hb1 c0 c1 c2 c3 c4 c5 c6 c7 c8 c9 c10 c11; obtain ⟨c0, c1, c2, c3, c4, c5, c6, c7, c8, c9, c10, c11, -, -⟩ := id hB))
  clear c0 c1 c2 c3 c4 c5 c6 c7 c8 c9 c10 c11
  clear hA hB'
  have w0 : IntKind.i64.wrap (2 * p.eps) = 2 * p.eps := IntWalk.i64_in _ ⟨by omega, by omega⟩
  have w1 : IntKind.i64.wrap (2 * p.eps + (p.jit + 2 * p.rho)) = 2 * p.eps + (p.jit + 2 * p.rho) := IntWalk.i64_in _ ⟨by omega, by omega⟩
  have w2 : IntKind.i64.wrap (2 * (2 * p.eps + (p.jit + 2 * p.rho))) = 2 * (2 * p.eps + (p.jit + 2 * p.rho)) := IntWalk.i64_in _ ⟨by omega, by omega⟩
  have k0 : 2 * (2 * p.eps + (p.jit + 2 * p.rho)) + A + B ≤ 2305843009213693952 := by omega
  have k1 : 0 ≤ 2 * (2 * p.eps + (p.jit + 2 * p.rho)) + A + B := by omega
  clear A1 A2 B1 B2 r1 r2 j1 j2 e1 e2 g1 g2 o1 o2
  go_region_held3 (fun w' => w'.cell? ⟨g, 0, none⟩ = some (.int .i64 p.n) ∧ w'.cell? ⟨g, 1, none⟩ = some (.int .i64 p.f) ∧ w'.cell? ⟨g, 2, none⟩ = some (.int .i64 p.d) ∧ w'.cell? ⟨g, 3, none⟩ = some (.int .i64 p.beat) ∧ w'.cell? ⟨g, 4, none⟩ = some (.int .i64 p.rho) ∧ w'.cell? ⟨g, 5, none⟩ = some (.int .i64 p.delay) ∧ w'.cell? ⟨g, 6, none⟩ = some (.int .i64 p.jit) ∧ w'.cell? ⟨g, 7, none⟩ = some (.int .i64 p.eps) ∧ w'.cell? ⟨g, 8, none⟩ = some (.int .i64 p.mu) ∧ w'.cell? ⟨g, 9, none⟩ = some (.int .i64 p.hold) ∧ w'.cell? ⟨g, 10, none⟩ = some (.int .i64 p.pulse) ∧ w'.cell? ⟨g, 11, none⟩ = some (.int .i64 p.sec) ∧ g < w'.heap.size ∧ Ok w w')
    (first | assumption | exact BoxP.drew (by assumption) | exact BoxP.alloc (by assumption) _ | exact BoxP.next (by assumption) (by assumption) | exact BoxP.next (by assumption) (BoxP.drew (by assumption)) | exact BoxP.next (by assumption) (BoxP.alloc (by assumption) _)) (first | (go_at_call 12; (with_reducible refine (KH.out _).mono ?_); rintro e w2 ⟨rfl, hb2⟩) | (go_at_call 14; (with_reducible refine (KG.out _).mono ?_); rintro e w2 ⟨rfl, hb2⟩) | (go_at_call 16; (with_reducible refine (KW.out _).mono ?_); rintro e w2 ⟨rfl, hb2⟩) | (go_at_call 22; (with_reducible refine (KD.out _).mono ?_); rintro e w2 ⟨rfl, rfl⟩))
  all_goals
    rename_i hS
    have hok := BoxP.ok hS
    clear hS
    go_wp2
    go_ret
    exact ⟨rfl, hok⟩
theorem own : ownKnob Try.prog.godebug = none := by kernel_rfl
theorem laidOut : laidOutB Try.prog = true := by kernel_rfl
set_option maxRecDepth 100000 in
theorem lifted (os : Os) (started : os.Started) (H : Type) (enc : TypeId × Value → H) :
    ReturnsInHanded {} Try.checked os 5 .any (Rows.limitClearSpec.pre6 enc Try.prog Try.f5 Rows.limitClearRow.domain false) (Rows.limitClearSpec.post enc Try.prog Try.f5 false true false false) := by
  refine returnsInHanded_of_change (C := Try.checked) own started (by kernel_rfl) Try.func5
    (ChangeSpec.witness6 (enc := enc) (C := Try.checked) false ⟨#[], #[.agg #[.int .i64 0, .int .i64 0, .int .i64 0, .int .i64 0, .int .i64 0, .int .i64 0, .int .i64 0, .int .i64 0, .int .i64 0, .int .i64 0, .int .i64 0, .int .i64 0], .int .i64 0, .int .i64 0], []⟩ 8 (by kernel_rfl) (by kernel_rfl) (by kernel_rfl) (by kernel_rfl)) ?_
  intro W base args ds gs before hval0 hW _ _
  have hval : ∀ (j : Nat) t v, Try.f5.params[j]? = some t → args[j]? = some v → Value.okWide Try.prog W .any base t v := hval0
  have hW' := hW
  obtain ⟨p, q, hA, hV, rfl, _, _⟩ := hW
  obtain ⟨rfl, rfl⟩ := trodVars_none hV
  replace hA : DataW.TrodAll enc Try.prog W 0 (fun _ => true) true Try.f5.params.toList args.toList ds p := hA
  rw [Try.params5] at hA hval
  obtain ⟨v0, vs0, d0, ds0, p0, q0, hargs, rfl, rfl, h0, r0⟩ := trodAll_cons hA
  obtain ⟨v1, vs1, d1, ds1, p1, q1, rfl, rfl, rfl, h1, r1⟩ := trodAll_cons r0
  obtain ⟨v2, vs2, d2, ds2, p2, q2, rfl, rfl, rfl, h2, r2⟩ := trodAll_cons r1
  obtain ⟨rfl, rfl, rfl⟩ := trodAll_nil r2
  obtain rfl : args = #[v0, v1, v2] := by cases args; simp_all
  obtain ⟨p0, rfl, wp0⟩ := open_par Try.underlying23 rfl (by kernel_rfl) (by kernel_rfl) (by kernel_rfl) (hval 0 23 v0 rfl rfl) h0
  obtain ⟨a1, rfl, rfl, rfl, w1⟩ := open_int Try.underlying3 (hval 1 3 v1 rfl rfl) h1
  obtain ⟨a2, rfl, rfl, rfl, w2⟩ := open_int Try.underlying3 (hval 2 3 v2 rfl rfl) h2
  refine (walk W p0 wp0 a1 w1 a2 w2).mono fun e W' ⟨he, hb⟩ => ?_
  subst he
  exact ⟨_, rfl, law_post hW' laidOut (by rw [Try.params5]; exact params_ok (by kernel_rfl)) rfl (by kernel_rfl) Try.underlying4 rfl rfl rfl hb⟩
theorem over : Rows.limitClearRow.holds Try.pinned (OpenSpec.ofChange Rows.limitClearSpec) :=
  OpenClaim.holds_of_wide 5 Try.f5 rfl rfl rfl rfl rfl rfl rfl ⟨rfl, rfl, rfl, rfl, rfl⟩ rfl rfl rfl rfl rfl (by kernel_rfl) Try.func5 (by kernel_rfl)
    (of_decide_eq_true (by kernel_rfl)) (by unfold Func.isWrapper; first | (rw [if_pos (by decide +kernel)]; kernel_rfl) | (rw [if_neg (by decide +kernel)]; exact ⟨rfl, rfl⟩))
    (fun os started H enc _ => lifted os started H enc)
theorem proved : Rows.LimitClearSaid := over
end Go.Proofs.Ytcelhpocegmpgaa.limitClear
