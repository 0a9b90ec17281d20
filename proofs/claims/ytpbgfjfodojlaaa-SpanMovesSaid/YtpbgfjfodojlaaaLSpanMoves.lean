/- SpanMoves: for every span and every four integers the law answers true: what is in a span is in the span moved as far, or further out. No condition. -/
import Derived.Test.YtpbgfjfodojlaaaC03d
namespace Go.Proofs.Ytpbgfjfodojlaaa.spanMoves
open Go.ChangeShapes Go.WideShapes Go.ChangeAt Go.RowKit
set_option linter.unusedVariables false
set_option maxRecDepth 100000

theorem shift_lo {a x lo m : Int} (h1 : a ≤ x) (h2 : lo ≤ m) (h3 : -1152921504606846976 ≤ x) (h4 : x ≤ 1152921504606846976) (h5 : -1152921504606846976 ≤ m) (h6 : m ≤ 1152921504606846976) (h7 : -1152921504606846976 ≤ lo) : Sat.sum [a, lo] ≤ x + m := by
  have e : Sat.sum [a, lo] = Sat.clip (Sat.sum [a] + Sat.clip lo) := Sat.sum_snoc [a] lo
  have e2 : Sat.sum [a] = Sat.clip (Sat.sum [] + Sat.clip a) := Sat.sum_snoc [] a
  have e3 : Sat.sum [] = 0 := rfl
  rw [e, e2, e3, Int.zero_add, Sat.clip_clip]
  unfold Sat.clip
  repeat' split
  all_goals omega
theorem shift_hi {b x hi m : Int} (h1 : x ≤ b) (h2 : m ≤ hi) (h3 : -1152921504606846976 ≤ x) (h4 : x ≤ 1152921504606846976) (h5 : -1152921504606846976 ≤ m) (h6 : m ≤ 1152921504606846976) (h7 : hi ≤ 1152921504606846976) : x + m ≤ Sat.sum [b, hi] := by
  have e : Sat.sum [b, hi] = Sat.clip (Sat.sum [b] + Sat.clip hi) := Sat.sum_snoc [b] hi
  have e2 : Sat.sum [b] = Sat.clip (Sat.sum [] + Sat.clip b) := Sat.sum_snoc [] b
  have e3 : Sat.sum [] = 0 := rfl
  rw [e, e2, e3, Int.zero_add, Sat.clip_clip]
  unfold Sat.clip
  repeat' split
  all_goals omega
set_option maxHeartbeats 1600000 in
theorem walk (w : World) (a b : Int) (wa : (Lit.int .i64 a).wf = true) (wb : (Lit.int .i64 b).wf = true) (x : Int) (wx : (Lit.int .i64 x).wf = true) (m : Int) (wm : (Lit.int .i64 m).wf = true) (lo : Int) (wlo : (Lit.int .i64 lo).wf = true) (hi : Int) (whi : (Lit.int .i64 hi).wf = true) :
    Calls Try.prog 7 #[.agg #[.int .i64 a, .int .i64 b], .int .i64 x, .int .i64 m, .int .i64 lo, .int .i64 hi] w fun e w' => e = .returned (.bool true) ∧ Below w.heap.size w w' := by
  clear wa wb wx wlo whi wm
  have hok := Ok.refl w
  have n0 : ∀ (w : World), (Instr.index 37 (.agg #[.int .i64 x, .int .i64 m, .int .i64 lo, .int .i64 hi]) (.int .i64 0)).run Try.prog w = .ok (.int .i64 x) w := fun _ => by kernel_rfl
  have n1 : ∀ (w : World), (Instr.index 37 (.agg #[.int .i64 x, .int .i64 m, .int .i64 lo, .int .i64 hi]) (.int .i64 1)).run Try.prog w = .ok (.int .i64 m) w := fun _ => by kernel_rfl
  have n2 : ∀ (w : World), (Instr.index 37 (.agg #[.int .i64 x, .int .i64 m, .int .i64 lo, .int .i64 hi]) (.int .i64 2)).run Try.prog w = .ok (.int .i64 lo) w := fun _ => by kernel_rfl
  have n3 : ∀ (w : World), (Instr.index 37 (.agg #[.int .i64 x, .int .i64 m, .int .i64 lo, .int .i64 hi]) (.int .i64 3)).run Try.prog w = .ok (.int .i64 hi) w := fun _ => by kernel_rfl
  by_cases hr : ((-1152921504606846976 ≤ x ∧ x ≤ 1152921504606846976) ∧ (-1152921504606846976 ≤ m ∧ m ≤ 1152921504606846976)) ∧ ((-1152921504606846976 ≤ lo ∧ lo ≤ 1152921504606846976) ∧ (-1152921504606846976 ≤ hi ∧ hi ≤ 1152921504606846976))
  · obtain ⟨⟨⟨x1, x2⟩, m1, m2⟩, ⟨l1, l2⟩, r1, r2⟩ := hr
    have KS := Lib.hid fun w => spanShift a b lo hi w
    have KH := Lib.hid fun w => spanHas a b x w
    have S1 := Lib.hid fun h1 h2 => shift_lo (a := a) (x := x) (lo := lo) (m := m) h1 h2 x1 x2 m1 m2 l1
    have S2 := Lib.hid fun h1 h2 => shift_hi (b := b) (x := x) (hi := hi) (m := m) h1 h2 x1 x2 m1 m2 r2
    obtain ⟨u, hu⟩ : ∃ u, Sat.sum [a, lo] = u := ⟨_, rfl⟩
    obtain ⟨v, hv⟩ : ∃ v, Sat.sum [b, hi] = v := ⟨_, rfl⟩
    rw [hu] at KS S1
    rw [hv] at KS S2
    clear hu hv
    have KU := Lib.hid fun (h1 : u ≤ x + m) (h2 : x + m ≤ v) w => (decide_eq_true (And.intro h1 h2)) ▸ spanHas u v (x + m) w
    go_enter Try.func7, Try.ntmps7
    go_wp2_with (go_at_call 21; refine (law3Alive _).mono ?_; rintro e w1 ⟨rfl, hb1⟩; have hS := (Slab.new _ _ _ _ rfl).next hb1; replace hok := (hok.alloc _).trans hb1; clear hb1; have c0 := hS.c0; have c1 := hS.c1)
    refine wp_loop_rounds 5 ?_
    repeat' (rw [rounds_succ]; go_wp2_with fail)
    clear n0 n1 n2 n3
    by_cases d0 : a ≤ x ∧ x ≤ b
    · rw [decide_eq_true d0] at KH
      by_cases d1 : lo ≤ m
      · by_cases d2 : m ≤ hi
        · replace KU := Lib.hid (KU.out (S1.out d0.1 d1) (S2.out d0.2 d2))
          clear S1 S2 d0
          go_wp2_with (first
            | (go_at_call 16; refine (KS.out _).mono ?_; rintro e w1 ⟨rfl, hb1⟩; replace hS := hS.next hb1; replace hok := hok.trans hb1; clear hb1 c0 c1; have c0 := hS.c0; have c1 := hS.c1)
            | (go_at_call 14; (with_reducible refine (KH.out _).mono ?_); rintro e w1 ⟨rfl, hb1⟩; replace hS := hS.next hb1; replace hok := hok.trans hb1; clear hb1 c0 c1; have c0 := hS.c0; have c1 := hS.c1)
            | (go_at_call 14; (with_reducible refine (KU.out _).mono ?_); rintro e w1 ⟨rfl, hb1⟩; replace hS := hS.next hb1; replace hok := hok.trans hb1; clear hb1 c0 c1; have c0 := hS.c0; have c1 := hS.c1))
          go_ret
          exact ⟨rfl, hok⟩
        · clear S1 S2 d0 KU KS
          go_wp2_with ((go_at_call 14; (with_reducible refine (KH.out _).mono ?_); rintro e w1 ⟨rfl, hb1⟩; replace hS := hS.next hb1; replace hok := hok.trans hb1; clear hb1 c0 c1; have c0 := hS.c0; have c1 := hS.c1))
          go_ret
          exact ⟨rfl, hok⟩
      · clear S1 S2 d0 KU KS
        go_wp2_with ((go_at_call 14; (with_reducible refine (KH.out _).mono ?_); rintro e w1 ⟨rfl, hb1⟩; replace hS := hS.next hb1; replace hok := hok.trans hb1; clear hb1 c0 c1; have c0 := hS.c0; have c1 := hS.c1))
        go_ret
        exact ⟨rfl, hok⟩
    · rw [decide_eq_false d0] at KH
      clear S1 S2 d0 KU KS
      go_wp2_with ((go_at_call 14; (with_reducible refine (KH.out _).mono ?_); rintro e w1 ⟨rfl, hb1⟩; replace hS := hS.next hb1; replace hok := hok.trans hb1; clear hb1 c0 c1; have c0 := hS.c0; have c1 := hS.c1))
      go_ret
      exact ⟨rfl, hok⟩
  · go_enter Try.func7, Try.ntmps7
    go_wp2_with (go_at_call 21; refine (law3Alive _).mono ?_; rintro e w1 ⟨rfl, hb1⟩; have hS := (Slab.new _ _ _ _ rfl).next hb1; replace hok := (hok.alloc _).trans hb1; clear hb1; have c0 := hS.c0; have c1 := hS.c1)
    refine wp_loop_rounds 5 ?_
    repeat' (rw [rounds_succ]; go_wp2_with fail)
    all_goals first
      | (go_ret; exact ⟨rfl, hok⟩)
      | (exfalso; omega)
theorem own : ownKnob Try.prog.godebug = none := by kernel_rfl
theorem laidOut : laidOutB Try.prog = true := by kernel_rfl
set_option maxRecDepth 100000 in
theorem lifted (os : Os) (started : os.Started) (H : Type) (enc : TypeId × Value → H) :
    ReturnsInHanded {} Try.checked os 7 .any (Rows.spanMovesSpec.pre6 enc Try.prog Try.f7 Rows.spanMovesRow.domain false) (Rows.spanMovesSpec.post enc Try.prog Try.f7 false true false false) := by
  refine returnsInHanded_of_change (C := Try.checked) own started (by kernel_rfl) Try.func7
    (ChangeSpec.witness6 (enc := enc) (C := Try.checked) false ⟨#[], #[.agg #[.int .i64 0, .int .i64 0], .int .i64 0, .int .i64 0, .int .i64 0, .int .i64 0], []⟩ 8 (by kernel_rfl) (by kernel_rfl) (by kernel_rfl) (by kernel_rfl)) ?_
  intro W base args ds gs before hval0 hW _ _
  have hval : ∀ (j : Nat) t v, Try.f7.params[j]? = some t → args[j]? = some v → Value.okWide Try.prog W .any base t v := hval0
  have hW' := hW
  obtain ⟨p, q, hA, hV, rfl, _, _⟩ := hW
  obtain ⟨rfl, rfl⟩ := trodVars_none hV
  replace hA : DataW.TrodAll enc Try.prog W 0 (fun _ => true) true Try.f7.params.toList args.toList ds p := hA
  rw [Try.params7] at hA hval
  obtain ⟨v0, vs0, d0, ds0, p0, q0, hargs, rfl, rfl, h0, r0⟩ := trodAll_cons hA
  obtain ⟨v1, vs1, d1, ds1, p1, q1, rfl, rfl, rfl, h1, r1⟩ := trodAll_cons r0
  obtain ⟨v2, vs2, d2, ds2, p2, q2, rfl, rfl, rfl, h2, r2⟩ := trodAll_cons r1
  obtain ⟨v3, vs3, d3, ds3, p3, q3, rfl, rfl, rfl, h3, r3⟩ := trodAll_cons r2
  obtain ⟨v4, vs4, d4, ds4, p4, q4, rfl, rfl, rfl, h4, r4⟩ := trodAll_cons r3
  obtain ⟨rfl, rfl, rfl⟩ := trodAll_nil r4
  obtain rfl : args = #[v0, v1, v2, v3, v4] := by cases args; simp_all
  obtain ⟨s0_0, s0_1, rfl, ws0_0, ws0_1⟩ := open_pair Try.underlying23 (by kernel_rfl) (by kernel_rfl) (by kernel_rfl) (by kernel_rfl) (hval 0 23 v0 rfl rfl) h0
  obtain ⟨a1, rfl, rfl, rfl, w1⟩ := open_int Try.underlying3 (hval 1 3 v1 rfl rfl) h1
  obtain ⟨a2, rfl, rfl, rfl, w2⟩ := open_int Try.underlying3 (hval 2 3 v2 rfl rfl) h2
  obtain ⟨a3, rfl, rfl, rfl, w3⟩ := open_int Try.underlying3 (hval 3 3 v3 rfl rfl) h3
  obtain ⟨a4, rfl, rfl, rfl, w4⟩ := open_int Try.underlying3 (hval 4 3 v4 rfl rfl) h4
  refine (walk W s0_0 s0_1 ws0_0 ws0_1 a1 w1 a2 w2 a3 w3 a4 w4).mono fun e W' ⟨he, hb⟩ => ?_
  subst he
  exact ⟨_, rfl, law_post hW' laidOut (by rw [Try.params7]; exact params_ok (by kernel_rfl)) rfl (by kernel_rfl) Try.underlying4 rfl rfl rfl hb⟩
theorem over : Rows.spanMovesRow.holds Try.pinned (OpenSpec.ofChange Rows.spanMovesSpec) :=
  OpenClaim.holds_of_wide 7 Try.f7 rfl rfl rfl rfl rfl rfl rfl ⟨rfl, rfl, rfl, rfl, rfl⟩ rfl rfl rfl rfl rfl (by kernel_rfl) Try.func7 (by kernel_rfl)
    (of_decide_eq_true (by kernel_rfl)) (by unfold Func.isWrapper; first | (rw [if_pos (by decide +kernel)]; kernel_rfl) | (rw [if_neg (by decide +kernel)]; exact ⟨rfl, rfl⟩))
    (fun os started H enc _ => lifted os started H enc)
theorem proved : Rows.SpanMovesSaid := over
end Go.Proofs.Ytpbgfjfodojlaaa.spanMoves
