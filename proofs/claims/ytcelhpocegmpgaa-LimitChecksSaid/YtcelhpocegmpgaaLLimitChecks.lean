/- LimitChecks: for every fabric's numbers the law answers true: the program's Check is the document's. No condition. -/
import Derived.Test.YtcelhpocegmpgaaC04f
import Derived.Test.YtcelhpocegmpgaaW06
namespace Go.Proofs.Ytcelhpocegmpgaa.limitChecks
open Go.ChangeShapes Go.WideShapes Go.ChangeAt Go.RowKit
set_option linter.unusedVariables false
set_option maxRecDepth 100000

def noP : Par := ⟨0, 0, 0, 0, 0, 0, 0, 0, 0, 0, 0, 0⟩
theorem no_check : Lim.check noP = 1 := by decide
theorem noCheck (w : World) : Calls Try.prog 8 #[.agg #[.int .i64 0, .int .i64 0, .int .i64 0, .int .i64 0, .int .i64 0, .int .i64 0, .int .i64 0, .int .i64 0, .int .i64 0, .int .i64 0, .int .i64 0, .int .i64 0]] w fun e w' => e = .returned (.int .i64 1) ∧ Ok w w' := by
  have h := limCheck noP w; rw [no_check] at h; exact h
set_option maxHeartbeats 1600000 in
theorem walk (w : World) (p : Par) (wp : ParWf p) :
    Calls Try.prog 3 #[parV p] w fun e w' => e = .returned (.bool true) ∧ Below w.heap.size w w' := by
  clear wp
  have KC := Lib.hid fun w => limCheck p w
  have RC := Lib.hid fun w => ref4Check p w
  obtain ⟨c, hc⟩ : ∃ c, Lim.check p = c := ⟨_, rfl⟩
  rw [hc] at KC RC
  clear hc
  go_enter Try.func3, Try.ntmps3
  go_upto_region 1 with fail
  have hB : BoxP w.heap.size w p (w.alloc (.cells (parCells p) 23)) := BoxP.new w p _ rfl
  obtain ⟨g, hg⟩ : ∃ g, w.heap.size = g := ⟨_, rfl⟩
  rw [hg] at hB ⊢
  generalize w.alloc (.cells (parCells p) 23) = W at hB ⊢
  clear hg
  obtain ⟨c0, c1, c2, c3, c4, c5, c6, c7, c8, c9, c10, c11, -, -⟩ := id hB
  go_wp2_with (first
    | (go_at_call 9; (with_reducible refine (law4Some _).mono ?_); rintro e w1 ⟨rfl, hb1⟩; replace hB := BoxP.next hb1 hB; clear hb1 c0 c1 c2 c3 c4 c5 c6 c7 c8 c9 c10 c11; obtain ⟨c0, c1, c2, c3, c4, c5, c6, c7, c8, c9, c10, c11, -, -⟩ := id hB)
    | (go_at_call 8; (with_reducible refine (exCheck _).mono ?_); rintro e w1 ⟨rfl, hb1⟩; replace hB := BoxP.next hb1 hB; clear hb1 c0 c1 c2 c3 c4 c5 c6 c7 c8 c9 c10 c11; obtain ⟨c0, c1, c2, c3, c4, c5, c6, c7, c8, c9, c10, c11, -, -⟩ := id hB)
    | (go_at_call 8; (with_reducible refine (noCheck _).mono ?_); rintro e w1 ⟨rfl, hb1⟩; replace hB := BoxP.next hb1 hB; clear hb1 c0 c1 c2 c3 c4 c5 c6 c7 c8 c9 c10 c11; obtain ⟨c0, c1, c2, c3, c4, c5, c6, c7, c8, c9, c10, c11, -, -⟩ := id hB))
  clear c0 c1 c2 c3 c4 c5 c6 c7 c8 c9 c10 c11
  go_region_held3 (fun w' => w'.cell? ⟨g, 0, none⟩ = some (.int .i64 p.n) ∧ w'.cell? ⟨g, 1, none⟩ = some (.int .i64 p.f) ∧ w'.cell? ⟨g, 2, none⟩ = some (.int .i64 p.d) ∧ w'.cell? ⟨g, 3, none⟩ = some (.int .i64 p.beat) ∧ w'.cell? ⟨g, 4, none⟩ = some (.int .i64 p.rho) ∧ w'.cell? ⟨g, 5, none⟩ = some (.int .i64 p.delay) ∧ w'.cell? ⟨g, 6, none⟩ = some (.int .i64 p.jit) ∧ w'.cell? ⟨g, 7, none⟩ = some (.int .i64 p.eps) ∧ w'.cell? ⟨g, 8, none⟩ = some (.int .i64 p.mu) ∧ w'.cell? ⟨g, 9, none⟩ = some (.int .i64 p.hold) ∧ w'.cell? ⟨g, 10, none⟩ = some (.int .i64 p.pulse) ∧ w'.cell? ⟨g, 11, none⟩ = some (.int .i64 p.sec) ∧ g < w'.heap.size ∧ Ok w w')
    (first | assumption | exact BoxP.drew (by assumption) | exact BoxP.alloc (by assumption) _ | exact BoxP.next (by assumption) (by assumption) | exact BoxP.next (by assumption) (BoxP.drew (by assumption)) | exact BoxP.next (by assumption) (BoxP.alloc (by assumption) _)) (first | (go_at_call 8; (with_reducible refine (KC.out _).mono ?_); rintro e w2 ⟨rfl, hb2⟩) | (go_at_call 10; (with_reducible refine (RC.out _).mono ?_); rintro e w2 ⟨rfl, hb2⟩))
  rename_i hS
  have hok := BoxP.ok hS
  clear hS
  go_wp2
  go_ret
  exact ⟨rfl, hok⟩
theorem own : ownKnob Try.prog.godebug = none := by kernel_rfl
theorem laidOut : laidOutB Try.prog = true := by kernel_rfl
set_option maxRecDepth 100000 in
theorem lifted (os : Os) (started : os.Started) (H : Type) (enc : TypeId × Value → H) :
    ReturnsInHanded {} Try.checked os 3 .any (Rows.limitChecksSpec.pre6 enc Try.prog Try.f3 Rows.limitChecksRow.domain false) (Rows.limitChecksSpec.post enc Try.prog Try.f3 false true false false) := by
  refine returnsInHanded_of_change (C := Try.checked) own started (by kernel_rfl) Try.func3
    (ChangeSpec.witness6 (enc := enc) (C := Try.checked) false ⟨#[], #[.agg #[.int .i64 0, .int .i64 0, .int .i64 0, .int .i64 0, .int .i64 0, .int .i64 0, .int .i64 0, .int .i64 0, .int .i64 0, .int .i64 0, .int .i64 0, .int .i64 0]], []⟩ 8 (by kernel_rfl) (by kernel_rfl) (by kernel_rfl) (by kernel_rfl)) ?_
  intro W base args ds gs before hval0 hW _ _
  have hval : ∀ (j : Nat) t v, Try.f3.params[j]? = some t → args[j]? = some v → Value.okWide Try.prog W .any base t v := hval0
  have hW' := hW
  obtain ⟨p, q, hA, hV, rfl, _, _⟩ := hW
  obtain ⟨rfl, rfl⟩ := trodVars_none hV
  replace hA : DataW.TrodAll enc Try.prog W 0 (fun _ => true) true Try.f3.params.toList args.toList ds p := hA
  rw [Try.params3] at hA hval
  obtain ⟨v0, vs0, d0, ds0, p0, q0, hargs, rfl, rfl, h0, r0⟩ := trodAll_cons hA
  obtain ⟨rfl, rfl, rfl⟩ := trodAll_nil r0
  obtain rfl : args = #[v0] := by cases args; simp_all
  obtain ⟨p0, rfl, wp0⟩ := open_par Try.underlying23 rfl (by kernel_rfl) (by kernel_rfl) (by kernel_rfl) (hval 0 23 v0 rfl rfl) h0
  refine (walk W p0 wp0).mono fun e W' ⟨he, hb⟩ => ?_
  subst he
  exact ⟨_, rfl, law_post hW' laidOut (by rw [Try.params3]; exact params_ok (by kernel_rfl)) rfl (by kernel_rfl) Try.underlying4 rfl rfl rfl hb⟩
theorem over : Rows.limitChecksRow.holds Try.pinned (OpenSpec.ofChange Rows.limitChecksSpec) :=
  OpenClaim.holds_of_wide 3 Try.f3 rfl rfl rfl rfl rfl rfl rfl ⟨rfl, rfl, rfl, rfl, rfl⟩ rfl rfl rfl rfl rfl (by kernel_rfl) Try.func3 (by kernel_rfl)
    (of_decide_eq_true (by kernel_rfl)) (by unfold Func.isWrapper; first | (rw [if_pos (by decide +kernel)]; kernel_rfl) | (rw [if_neg (by decide +kernel)]; exact ⟨rfl, rfl⟩))
    (fun os started H enc _ => lifted os started H enc)
theorem proved : Rows.LimitChecksSaid := over
end Go.Proofs.Ytcelhpocegmpgaa.limitChecks
