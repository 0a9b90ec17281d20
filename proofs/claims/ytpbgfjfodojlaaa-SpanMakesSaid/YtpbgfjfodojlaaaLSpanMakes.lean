/- SpanMakes: for every span and every three integers the law answers true: the program's All, Of, Empty, Has, Shift, Wide and Mid are the document's. No condition. -/
import Derived.Test.YtpbgfjfodojlaaaC03d
import Derived.Deep.RegionHeld3
import Derived.Deep.DrawnRows
namespace Go.Proofs.Ytpbgfjfodojlaaa.spanMakes
open Go.ChangeShapes Go.WideShapes Go.ChangeAt Go.RowKit
set_option linter.unusedVariables false
set_option maxRecDepth 100000
attribute [local go_sem ↓] Go.wp_at_zero Go.wp_at_succ

set_option maxHeartbeats 6400000 in
theorem walk (w : World) (a b : Int) (wa : (Lit.int .i64 a).wf = true) (wb : (Lit.int .i64 b).wf = true) (x : Int) (wx : (Lit.int .i64 x).wf = true) (lo : Int) (wlo : (Lit.int .i64 lo).wf = true) (hi : Int) (whi : (Lit.int .i64 hi).wf = true) :
    Calls Try.prog 3 #[.agg #[.int .i64 a, .int .i64 b], .int .i64 x, .int .i64 lo, .int .i64 hi] w fun e w' => e = .returned (.bool true) ∧ Below w.heap.size w w' := by
  clear wa wb wx wlo whi
  have hok := Ok.refl w
  have K0 := Lib.hid fun w => spanMid 3 6 w
  have o1 : (Sat.clip 3 + Sat.clip 6) / 2 = 4 := by decide
  rw [o1] at K0
  clear o1
  have KW := Lib.hid fun w => spanWide a b w
  have RW := Lib.hid fun w => ref3Wide a b w
  have KM := Lib.hid fun w => spanMid a b w
  have RM := Lib.hid fun w => ref3Mid a b w
  obtain ⟨v, hv⟩ : ∃ v, (if b < a then -1 else Sat.sub b a) = v := ⟨_, rfl⟩
  obtain ⟨m, hm⟩ : ∃ m, (Sat.clip a + Sat.clip b) / 2 = m := ⟨_, rfl⟩
  rw [hv] at KW RW
  rw [hm] at KM RM
  clear hv hm
  go_enter Try.func3, Try.ntmps3
  go_wp2_with fail
  have hS := Slab.new w a b 23 rfl
  replace hok := hok.alloc (.cells #[.int .i64 a, .int .i64 b] 23)
  generalize w.alloc (.cells #[.int .i64 a, .int .i64 b] 23) = W at hS hok ⊢
  have c0 := hS.c0
  have c1 := hS.c1
  obtain ⟨g, hg⟩ : ∃ g, w.heap.size = g := ⟨_, rfl⟩
  rw [hg] at hS c0 c1 ⊢
  refine (K0.out _).mono ?_
  rintro e w1 ⟨rfl, hb1⟩
  replace hS := hS.next hb1
  replace hok := hok.trans hb1
  clear hb1 c0 c1
  have c0 := hS.c0
  have c1 := hS.c1
  go_wp2_with (go_at_call 10; refine (spanAll _).mono ?_; rintro e w1 ⟨rfl, hb1⟩; replace hS := hS.next hb1; replace hok := hok.trans hb1; clear hb1 c0 c1; have c0 := hS.c0; have c1 := hS.c1)
  have hB : Box1 g w a b w1 := ⟨c0, c1, hS.lt, hok⟩
  clear hS hok c0 c1 K0
  go_region_held3 (fun w' => w'.cell? ⟨g, 0, none⟩ = some (.int .i64 a) ∧ w'.cell? ⟨g, 1, none⟩ = some (.int .i64 b) ∧ g < w'.heap.size ∧ Ok w w')
    (first | assumption | exact hB.drew | exact Box1.next (by assumption) hB.drew | exact Box1.next (by assumption) (by assumption))
    (first
    | (go_at_call 9; refine (KM.out _).mono ?_; rintro e w2 ⟨rfl, hb2⟩)
    | (go_at_call 20; refine (RM.out _).mono ?_; rintro e w2 ⟨rfl, hb2⟩)
    | (go_at_call 11; refine (spanOf _ _ _).mono ?_; rintro e w2 ⟨rfl, hb2⟩)
    | (go_at_call 12; refine (ref3Of _ _ _).mono ?_; rintro e w2 ⟨rfl, hb2⟩)
    | (go_at_call 13; refine (spanEmpty _ _ _).mono ?_; rintro e w2 ⟨rfl, hb2⟩)
    | (go_at_call 14; refine (spanHas _ _ _ _).mono ?_; rintro e w2 ⟨rfl, hb2⟩)
    | (go_at_call 15; refine (ref3Has _ _ _ _).mono ?_; rintro e w2 ⟨rfl, hb2⟩)
    | (go_at_call 16; refine (spanShift _ _ _ _ _).mono ?_; rintro e w2 ⟨rfl, hb2⟩)
    | (go_at_call 17; refine (ref3Shift _ _ _ _ _).mono ?_; rintro e w2 ⟨rfl, hb2⟩)
    | (go_at_call 18; refine (KW.out _).mono ?_; rintro e w2 ⟨rfl, hb2⟩)
    | (go_at_call 19; refine (RW.out _).mono ?_; rintro e w2 ⟨rfl, hb2⟩))
  rename_i hS
  have hok := hS.2.2.2
  clear hS
  go_wp2
  go_ret
  exact ⟨rfl, hok⟩
theorem own : ownKnob Try.prog.godebug = none := by kernel_rfl
theorem laidOut : laidOutB Try.prog = true := by kernel_rfl
set_option maxRecDepth 100000 in
theorem lifted (os : Os) (started : os.Started) (H : Type) (enc : TypeId × Value → H) :
    ReturnsInHanded {} Try.checked os 3 .any (Rows.spanMakesSpec.pre6 enc Try.prog Try.f3 Rows.spanMakesRow.domain false) (Rows.spanMakesSpec.post enc Try.prog Try.f3 false true false false) := by
  refine returnsInHanded_of_change (C := Try.checked) own started (by kernel_rfl) Try.func3
    (ChangeSpec.witness6 (enc := enc) (C := Try.checked) false ⟨#[], #[.agg #[.int .i64 0, .int .i64 0], .int .i64 0, .int .i64 0, .int .i64 0], []⟩ 8 (by kernel_rfl) (by kernel_rfl) (by kernel_rfl) (by kernel_rfl)) ?_
  intro W base args ds gs before hval0 hW _ _
  have hval : ∀ (j : Nat) t v, Try.f3.params[j]? = some t → args[j]? = some v → Value.okWide Try.prog W .any base t v := hval0
  have hW' := hW
  obtain ⟨p, q, hA, hV, rfl, _, _⟩ := hW
  obtain ⟨rfl, rfl⟩ := trodVars_none hV
  replace hA : DataW.TrodAll enc Try.prog W 0 (fun _ => true) true Try.f3.params.toList args.toList ds p := hA
  rw [Try.params3] at hA hval
  obtain ⟨v0, vs0, d0, ds0, p0, q0, hargs, rfl, rfl, h0, r0⟩ := trodAll_cons hA
  obtain ⟨v1, vs1, d1, ds1, p1, q1, rfl, rfl, rfl, h1, r1⟩ := trodAll_cons r0
  obtain ⟨v2, vs2, d2, ds2, p2, q2, rfl, rfl, rfl, h2, r2⟩ := trodAll_cons r1
  obtain ⟨v3, vs3, d3, ds3, p3, q3, rfl, rfl, rfl, h3, r3⟩ := trodAll_cons r2
  obtain ⟨rfl, rfl, rfl⟩ := trodAll_nil r3
  obtain rfl : args = #[v0, v1, v2, v3] := by cases args; simp_all
  obtain ⟨s0_0, s0_1, rfl, ws0_0, ws0_1⟩ := open_pair Try.underlying23 (by kernel_rfl) (by kernel_rfl) (by kernel_rfl) (by kernel_rfl) (hval 0 23 v0 rfl rfl) h0
  obtain ⟨a1, rfl, rfl, rfl, w1⟩ := open_int Try.underlying3 (hval 1 3 v1 rfl rfl) h1
  obtain ⟨a2, rfl, rfl, rfl, w2⟩ := open_int Try.underlying3 (hval 2 3 v2 rfl rfl) h2
  obtain ⟨a3, rfl, rfl, rfl, w3⟩ := open_int Try.underlying3 (hval 3 3 v3 rfl rfl) h3
  refine (walk W s0_0 s0_1 ws0_0 ws0_1 a1 w1 a2 w2 a3 w3).mono fun e W' ⟨he, hb⟩ => ?_
  subst he
  exact ⟨_, rfl, law_post hW' laidOut (by rw [Try.params3]; exact params_ok (by kernel_rfl)) rfl (by kernel_rfl) Try.underlying4 rfl rfl rfl hb⟩
theorem over : Rows.spanMakesRow.holds Try.pinned (OpenSpec.ofChange Rows.spanMakesSpec) :=
  OpenClaim.holds_of_wide 3 Try.f3 rfl rfl rfl rfl rfl rfl rfl ⟨rfl, rfl, rfl, rfl, rfl⟩ rfl rfl rfl rfl rfl (by kernel_rfl) Try.func3 (by kernel_rfl)
    (of_decide_eq_true (by kernel_rfl)) (by unfold Func.isWrapper; first | (rw [if_pos (by decide +kernel)]; kernel_rfl) | (rw [if_neg (by decide +kernel)]; exact ⟨rfl, rfl⟩))
    (fun os started H enc _ => lifted os started H enc)
theorem proved : Rows.SpanMakesSaid := over
end Go.Proofs.Ytpbgfjfodojlaaa.spanMakes
