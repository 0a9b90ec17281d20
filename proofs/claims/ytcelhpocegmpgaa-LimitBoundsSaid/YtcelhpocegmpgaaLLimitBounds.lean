/- LimitBounds: for every fabric's numbers, held beats and hops the law answers true: the program's Hop, Gate, Width, Skew and Settle are the document's. No condition. -/
import Derived.Test.YtcelhpocegmpgaaC04f
import Derived.Test.YtcelhpocegmpgaaW06
namespace Go.Proofs.Ytcelhpocegmpgaa.limitBounds
open Go.ChangeShapes Go.WideShapes Go.ChangeAt Go.RowKit
set_option linter.unusedVariables false
set_option maxRecDepth 100000
set_option maxHeartbeats 6400000 in
theorem walk (w : World) (p : Par) (wp : ParWf p) (held : Int) (wh : (Lit.int .i64 held).wf = true) (hops : Int) (wo : (Lit.int .i64 hops).wf = true) :
    Calls Try.prog 4 #[parV p, .int .i64 held, .int .i64 hops] w fun e w' => e = .returned (.bool true) ∧ Below w.heap.size w w' := by
  clear wp wh wo
  have KH := Lib.hid fun w => limHop p w
  have RH := Lib.hid fun w => ref4Hop p w
  obtain ⟨h, hh⟩ : ∃ xx, Lim.hop p = xx := ⟨_, rfl⟩
  rw [hh] at KH RH
  clear hh
  have KG := Lib.hid fun w => limGate p w
  have RG := Lib.hid fun w => ref4Gate p w
  obtain ⟨q, hq⟩ : ∃ xx, Lim.gate p = xx := ⟨_, rfl⟩
  rw [hq] at KG RG
  clear hq
  have KW := Lib.hid fun w => limWidth p held hops w
  have RW := Lib.hid fun w => ref4Width p held hops w
  obtain ⟨x, hx⟩ : ∃ xx, Lim.width p held hops = xx := ⟨_, rfl⟩
  rw [hx] at KW RW
  clear hx
  have KS := Lib.hid fun w => limSkew p held w
  have RS := Lib.hid fun w => ref4Skew p held w
  obtain ⟨s, hs⟩ : ∃ xx, Lim.skew p held = xx := ⟨_, rfl⟩
  rw [hs] at KS RS
  clear hs
  have KU := Lib.hid fun w => limSettle p w
  have RU := Lib.hid fun w => ref4Settle p w
  obtain ⟨u, hu⟩ : ∃ xx, Lim.settle p = xx := ⟨_, rfl⟩
  rw [hu] at KU RU
  clear hu
  go_enter Try.func4, Try.ntmps4
  go_upto_region 1 with fail
  have hB : BoxP w.heap.size w p (w.alloc (.cells (parCells p) 23)) := BoxP.new w p _ rfl
  obtain ⟨g, hg⟩ : ∃ g, w.heap.size = g := ⟨_, rfl⟩
  rw [hg] at hB ⊢
  generalize w.alloc (.cells (parCells p) 23) = W at hB ⊢
  clear hg
  obtain ⟨c0, c1, c2, c3, c4, c5, c6, c7, c8, c9, c10, c11, -, -⟩ := id hB
  go_wp2_with (first | (go_at_call 11; (with_reducible refine (law4Alive _).mono ?_); rintro e w1 ⟨rfl, hb1⟩; replace hB := BoxP.next hb1 hB; clear hb1 c0 c1 c2 c3 c4 c5 c6 c7 c8 c9 c10 c11; obtain ⟨c0, c1, c2, c3, c4, c5, c6, c7, c8, c9, c10, c11, -, -⟩ := id hB))
  clear c0 c1 c2 c3 c4 c5 c6 c7 c8 c9 c10 c11
  go_region_held3 (fun w' => w'.cell? ⟨g, 0, none⟩ = some (.int .i64 p.n) ∧ w'.cell? ⟨g, 1, none⟩ = some (.int .i64 p.f) ∧ w'.cell? ⟨g, 2, none⟩ = some (.int .i64 p.d) ∧ w'.cell? ⟨g, 3, none⟩ = some (.int .i64 p.beat) ∧ w'.cell? ⟨g, 4, none⟩ = some (.int .i64 p.rho) ∧ w'.cell? ⟨g, 5, none⟩ = some (.int .i64 p.delay) ∧ w'.cell? ⟨g, 6, none⟩ = some (.int .i64 p.jit) ∧ w'.cell? ⟨g, 7, none⟩ = some (.int .i64 p.eps) ∧ w'.cell? ⟨g, 8, none⟩ = some (.int .i64 p.mu) ∧ w'.cell? ⟨g, 9, none⟩ = some (.int .i64 p.hold) ∧ w'.cell? ⟨g, 10, none⟩ = some (.int .i64 p.pulse) ∧ w'.cell? ⟨g, 11, none⟩ = some (.int .i64 p.sec) ∧ g < w'.heap.size ∧ Ok w w')
    (first | assumption | exact BoxP.drew (by assumption) | exact BoxP.alloc (by assumption) _ | exact BoxP.next (by assumption) (by assumption) | exact BoxP.next (by assumption) (BoxP.drew (by assumption)) | exact BoxP.next (by assumption) (BoxP.alloc (by assumption) _)) (first | (go_at_call 12; (with_reducible refine (KH.out _).mono ?_); rintro e w2 ⟨rfl, hb2⟩) | (go_at_call 14; (with_reducible refine (KG.out _).mono ?_); rintro e w2 ⟨rfl, hb2⟩) | (go_at_call 16; (with_reducible refine (KW.out _).mono ?_); rintro e w2 ⟨rfl, hb2⟩) | (go_at_call 18; (with_reducible refine (KS.out _).mono ?_); rintro e w2 ⟨rfl, hb2⟩) | (go_at_call 20; (with_reducible refine (KU.out _).mono ?_); rintro e w2 ⟨rfl, hb2⟩) | (go_at_call 13; (with_reducible refine (RH.out _).mono ?_); rintro e w2 ⟨rfl, hb2⟩) | (go_at_call 15; (with_reducible refine (RG.out _).mono ?_); rintro e w2 ⟨rfl, hb2⟩) | (go_at_call 17; (with_reducible refine (RW.out _).mono ?_); rintro e w2 ⟨rfl, hb2⟩) | (go_at_call 19; (with_reducible refine (RS.out _).mono ?_); rintro e w2 ⟨rfl, hb2⟩) | (go_at_call 21; (with_reducible refine (RU.out _).mono ?_); rintro e w2 ⟨rfl, hb2⟩))
  all_goals
    rename_i hS
    have hok := BoxP.ok hS
    clear hS
    go_wp2
    go_ret
    exact ⟨rfl, hok⟩
theorem own : ownKnob Try.prog.godebug = none := by kernel_rfl
theorem laidOut : laidOutB Try.prog = true := by kernel_rfl
set_option maxRecDepth 100000 in
theorem lifted (os : Os) (started : os.Started) (H : Type) (enc : TypeId × Value → H) :
    ReturnsInHanded {} Try.checked os 4 .any (Rows.limitBoundsSpec.pre6 enc Try.prog Try.f4 Rows.limitBoundsRow.domain false) (Rows.limitBoundsSpec.post enc Try.prog Try.f4 false true false false) := by
  refine returnsInHanded_of_change (C := Try.checked) own started (by kernel_rfl) Try.func4
    (ChangeSpec.witness6 (enc := enc) (C := Try.checked) false ⟨#[], #[.agg #[.int .i64 0, .int .i64 0, .int .i64 0, .int .i64 0, .int .i64 0, .int .i64 0, .int .i64 0, .int .i64 0, .int .i64 0, .int .i64 0, .int .i64 0, .int .i64 0], .int .i64 0, .int .i64 0], []⟩ 8 (by kernel_rfl) (by kernel_rfl) (by kernel_rfl) (by kernel_rfl)) ?_
  intro W base args ds gs before hval0 hW _ _
  have hval : ∀ (j : Nat) t v, Try.f4.params[j]? = some t → args[j]? = some v → Value.okWide Try.prog W .any base t v := hval0
  have hW' := hW
  obtain ⟨p, q, hA, hV, rfl, _, _⟩ := hW
  obtain ⟨rfl, rfl⟩ := trodVars_none hV
  replace hA : DataW.TrodAll enc Try.prog W 0 (fun _ => true) true Try.f4.params.toList args.toList ds p := hA
  rw [Try.params4] at hA hval
  obtain ⟨v0, vs0, d0, ds0, p0, q0, hargs, rfl, rfl, h0, r0⟩ := trodAll_cons hA
  obtain ⟨v1, vs1, d1, ds1, p1, q1, rfl, rfl, rfl, h1, r1⟩ := trodAll_cons r0
  obtain ⟨v2, vs2, d2, ds2, p2, q2, rfl, rfl, rfl, h2, r2⟩ := trodAll_cons r1
  obtain ⟨rfl, rfl, rfl⟩ := trodAll_nil r2
  obtain rfl : args = #[v0, v1, v2] := by cases args; simp_all
  obtain ⟨p0, rfl, wp0⟩ := open_par Try.underlying23 rfl (by kernel_rfl) (by kernel_rfl) (by kernel_rfl) (hval 0 23 v0 rfl rfl) h0
  obtain ⟨a1, rfl, rfl, rfl, w1⟩ := open_int Try.underlying3 (hval 1 3 v1 rfl rfl) h1
  obtain ⟨a2, rfl, rfl, rfl, w2⟩ := open_int Try.underlying3 (hval 2 3 v2 rfl rfl) h2
  refine (walk W p0 wp0 a1 w1 a2 w2).mono fun e W' ⟨he, hb⟩ => ?_
  subst he
  exact ⟨_, rfl, law_post hW' laidOut (by rw [Try.params4]; exact params_ok (by kernel_rfl)) rfl (by kernel_rfl) Try.underlying4 rfl rfl rfl hb⟩
theorem over : Rows.limitBoundsRow.holds Try.pinned (OpenSpec.ofChange Rows.limitBoundsSpec) :=
  OpenClaim.holds_of_wide 4 Try.f4 rfl rfl rfl rfl rfl rfl rfl ⟨rfl, rfl, rfl, rfl, rfl⟩ rfl rfl rfl rfl rfl (by kernel_rfl) Try.func4 (by kernel_rfl)
    (of_decide_eq_true (by kernel_rfl)) (by unfold Func.isWrapper; first | (rw [if_pos (by decide +kernel)]; kernel_rfl) | (rw [if_neg (by decide +kernel)]; exact ⟨rfl, rfl⟩))
    (fun os started H enc _ => lifted os started H enc)
theorem proved : Rows.LimitBoundsSaid := over
end Go.Proofs.Ytcelhpocegmpgaa.limitBounds
