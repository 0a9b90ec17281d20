/- AnchorSees: for all numbers of a fabric, every integer, every slice of integers and every slice of spans the law answers true: Seen, More, Held and Fuse answer what the document says. No condition. -/
import Derived.Test.YtlbijepejihjgaaC16c
import Derived.Test.YtlbijepejihjgaaW18
namespace Go.Proofs.Ytlbijepejihjgaa.anchorSees
open Go.ChangeShapes Go.WideShapes Go.ChangeAt Go.RowKit
set_option linter.unusedVariables false
set_option maxRecDepth 100000
set_option maxHeartbeats 3200000 in
theorem walk (w : World) (p : Par) (wp : ParWf p) (x : Int) (wx : (Lit.int .i64 x).wf = true) (A : Option Addr) (l : List Int) (c : Nat) (hA : IntsAt w A l) (hl : l.length ≤ 9223372036854775807) (hw : ∀ x ∈ l, (Lit.int .i64 x).wf = true) (B : Option Addr) (q : List (Int × Int)) (c2 : Nat) (hB : PairsAt w B q) (hl2 : q.length ≤ 9223372036854775807) (hw2 : ∀ s ∈ q, (Lit.int .i64 s.1).wf = true ∧ (Lit.int .i64 s.2).wf = true) :
    Calls Try.prog 3 #[parV p, .int .i64 x, .slice A l.length c, .slice B q.length c2] w fun e w' => e = .returned (.bool true) ∧ Below w.heap.size w w' := by
  show Calls Try.prog 3 #[parV p, .int .i64 x, .slice A l.length c, .slice B q.length c2] w fun e w' => e = .returned (.bool true) ∧ Ok w w'
  have hf := wf_bd wp.2.1
  clear hw hw2 wx wp
  have hok := (Ok.refl w).alloc (.cells (parCells p) 23)
  have hP := Own.new w (parCells p) 23 rfl
  by_cases hbig : 256 < l.length ∨ 256 < q.length
  · clear hf
    rcases Nat.lt_or_ge 256 l.length with h1 | h1
    · clear hbig
      go_enter Try.func3, Try.ntmps3
      go_wp2_with (go_at_call 7; refine (law16Alive _).mono ?_; rintro e w1 ⟨rfl, hb1⟩; replace hok := hok.trans hb1; clear hb1)
      go_ret
      exact ⟨rfl, hok⟩
    · have h2 : 256 < q.length := by omega
      clear hbig
      go_enter Try.func3, Try.ntmps3
      go_wp2_with (go_at_call 7; refine (law16Alive _).mono ?_; rintro e w1 ⟨rfl, hb1⟩; replace hok := hok.trans hb1; clear hb1)
      go_ret
      exact ⟨rfl, hok⟩
  · have h1 : l.length ≤ 256 := by omega
    have h2 : q.length ≤ 256 := by omega
    clear hbig hl hl2
    have KS := Lib.hid fun w => anchorSeen p x w
    have RS := Lib.hid fun w => ref16Seen p x w
    have KH := Lib.hid fun w h => anchorHeld p A l c w h (by omega)
    have RH := Lib.hid fun w h => ref16Held p A l c w h (by omega)
    have KF := Lib.hid fun w h => anchorFuse p B q c2 w h (by omega) hf
    have RF := Lib.hid fun w h => ref7Fuse p.f B q c2 w h (by omega)
    have KM := Lib.hid fun w => anchorMore x w
    have RM := Lib.hid fun w => ref16More x w
    generalize (Anchor.seen p x).1 = x1 at KS RS
    generalize (Anchor.seen p x).2 = y1 at KS RS
    generalize Anchor.is p x = q1 at KS RS
    generalize Anchor.held p.f l = m2 at KH RH
    generalize Trim.is p.f l.length = q2 at KH RH
    generalize (fz p.f q).1 = x3 at KF RF
    generalize (fz p.f q).2 = y3 at KF RF
    generalize fLeft p.f q = q3 at KF RF
    generalize Anchor.more x = m4 at KM RM
    clear hf
    replace hA := hA.below hok
    replace hB := hB.below hok
    go_enter Try.func3, Try.ntmps3
    go_upto_region 1 with fail
    generalize w.alloc (.cells (parCells p) 23) = W at hP hok hA hB ⊢
    obtain ⟨g, hg⟩ : ∃ r, w.heap.size = r := ⟨_, rfl⟩
    rw [hg] at hP ⊢
    clear hg
    go_wp2_with (first
      | (go_at_call 7; refine (law16Alive _).mono ?_; rintro e w1 ⟨rfl, hb1⟩; replace hP := hP.next hb1; replace hA := hA.below hb1; replace hB := hB.below hb1; replace hok := hok.trans hb1; clear hb1; obtain ⟨c0, c1, c2, c3, c4, c5, c6, c7, c8, c9, c10, c11⟩ := hP.pars; have hPl := hP.lt)
      | (go_at_call 8; refine (KS.out _).mono ?_; rintro e w2 ⟨rfl, hb1⟩; replace hb1 := hb1.alloc (.cells #[.int .i64 x1, .int .i64 y1] 28); have S1 := Own.new w2 #[.int .i64 x1, .int .i64 y1] 28 rfl; replace hP := hP.next hb1; replace hA := hA.below hb1; replace hB := hB.below hb1; replace hok := hok.trans hb1; clear hb1 c0 c1 c2 c3 c4 c5 c6 c7 c8 c9 c10 c11 hPl; obtain ⟨c0, c1, c2, c3, c4, c5, c6, c7, c8, c9, c10, c11⟩ := hP.pars; have hPl := hP.lt)
      | (go_at_call 9; refine (RS.out _).mono ?_; rintro e w3 ⟨rfl, hb1⟩; replace hb1 := hb1.alloc (.cells #[.int .i64 x1, .int .i64 y1] 28); have S2 := Own.new w3 #[.int .i64 x1, .int .i64 y1] 28 rfl; replace S1 := S1.next hb1; replace hP := hP.next hb1; replace hA := hA.below hb1; replace hB := hB.below hb1; replace hok := hok.trans hb1; clear hb1 c0 c1 c2 c3 c4 c5 c6 c7 c8 c9 c10 c11 hPl; obtain ⟨c0, c1, c2, c3, c4, c5, c6, c7, c8, c9, c10, c11⟩ := hP.pars; have hPl := hP.lt)
      | (go_at_call 10; refine (KH.out _ hA).mono ?_; rintro e w4 ⟨rfl, hb1⟩; replace S1 := S1.next hb1; replace S2 := S2.next hb1; replace hP := hP.next hb1; replace hA := hA.below hb1; replace hB := hB.below hb1; replace hok := hok.trans hb1; clear hb1 c0 c1 c2 c3 c4 c5 c6 c7 c8 c9 c10 c11 hPl; obtain ⟨c0, c1, c2, c3, c4, c5, c6, c7, c8, c9, c10, c11⟩ := hP.pars; have hPl := hP.lt)
      | (go_at_call 11; refine (RH.out _ hA).mono ?_; rintro e w5 ⟨rfl, hb1⟩; replace S1 := S1.next hb1; replace S2 := S2.next hb1; replace hP := hP.next hb1; replace hB := hB.below hb1; replace hok := hok.trans hb1; clear hb1 c0 c1 c2 c3 c4 c5 c6 c7 c8 c9 c10 c11 hPl; obtain ⟨c0, c1, c2, c3, c4, c5, c6, c7, c8, c9, c10, c11⟩ := hP.pars; have hPl := hP.lt)
      | (go_at_call 12; refine (KF.out _ hB).mono ?_; rintro e w6 ⟨rfl, hb1⟩; replace hb1 := hb1.alloc (.cells #[.int .i64 x3, .int .i64 y3] 28); have S3 := Own.new w6 #[.int .i64 x3, .int .i64 y3] 28 rfl; replace S1 := S1.next hb1; replace S2 := S2.next hb1; replace hP := hP.next hb1; replace hB := hB.below hb1; replace hok := hok.trans hb1; clear hb1 c0 c1 c2 c3 c4 c5 c6 c7 c8 c9 c10 c11 hPl; obtain ⟨c0, c1, c2, c3, c4, c5, c6, c7, c8, c9, c10, c11⟩ := hP.pars; have hPl := hP.lt)
      | (go_at_call 13; refine (RF.out _ hB).mono ?_; rintro e w7 ⟨rfl, hb1⟩; replace hb1 := hb1.alloc (.cells #[.int .i64 x3, .int .i64 y3] 28); have S4 := Own.new w7 #[.int .i64 x3, .int .i64 y3] 28 rfl; replace S1 := S1.next hb1; replace S2 := S2.next hb1; replace S3 := S3.next hb1; replace hok := hok.trans hb1; clear hb1 hP hB c0 c1 c2 c3 c4 c5 c6 c7 c8 c9 c10 c11 hPl; have s0 := S1.cell 0 rfl; have s1 := S1.cell 1 rfl; have s2 := S2.cell 0 rfl; have s3 := S2.cell 1 rfl; have s4 := S3.cell 0 rfl; have s5 := S3.cell 1 rfl; have s6 := S4.cell 0 rfl; have s7 := S4.cell 1 rfl)
      | (go_at_call 14; refine (KM.out _).mono ?_; rintro e w8 ⟨rfl, hb1⟩; replace hok := hok.trans hb1; clear hb1)
      | (go_at_call 15; refine (RM.out _).mono ?_; rintro e w9 ⟨rfl, hb1⟩; replace hok := hok.trans hb1; clear hb1))
    go_ret
    exact ⟨rfl, hok⟩
theorem own : ownKnob Try.prog.godebug = none := by kernel_rfl
theorem laidOut : laidOutB Try.prog = true := by kernel_rfl
set_option maxRecDepth 100000 in
theorem lifted (os : Os) (started : os.Started) (H : Type) (enc : TypeId × Value → H) :
    ReturnsInHanded {} Try.checked os 3 .any (Rows.anchorSeesSpec.pre6 enc Try.prog Try.f3 Rows.anchorSeesRow.domain false) (Rows.anchorSeesSpec.post enc Try.prog Try.f3 false true false false) := by
  refine returnsInHanded_of_change (C := Try.checked) own started (by kernel_rfl) Try.func3
    (ChangeSpec.witness6 (enc := enc) (C := Try.checked) false ⟨#[], #[.agg #[.int .i64 0, .int .i64 0, .int .i64 0, .int .i64 0, .int .i64 0, .int .i64 0, .int .i64 0, .int .i64 0, .int .i64 0, .int .i64 0, .int .i64 0, .int .i64 0], .int .i64 0, .slice none 0 0, .slice none 0 0], []⟩ 8 (by kernel_rfl) (by kernel_rfl) (by kernel_rfl) (by kernel_rfl)) ?_
  intro W base args ds gs before hval0 hW _ _
  have hval : ∀ (j : Nat) t v, Try.f3.params[j]? = some t → args[j]? = some v → Value.okWide Try.prog W .any base t v := hval0
  have hW' := hW
  obtain ⟨p, q, hA, hV, rfl, _, _⟩ := hW
  obtain ⟨rfl, rfl⟩ := trodVars_none hV
  replace hA : DataW.TrodAll enc Try.prog W 0 (fun _ => true) true Try.f3.params.toList args.toList ds p := hA
  rw [Try.params3] at hA hval
  obtain ⟨v0, vs0, d0, ds0, p0, q0, hargs, rfl, rfl, h0, r0⟩ := trodAll_cons hA
  obtain ⟨v1, vs1, d1, ds1, p1, q1, rfl, rfl, rfl, h1, r1⟩ := trodAll_cons r0
  obtain ⟨v2, vs2, d2, ds2, p2, q2, rfl, rfl, rfl, h2, r2⟩ := trodAll_cons r1
  obtain ⟨v3, vs3, d3, ds3, p3, q3, rfl, rfl, rfl, h3, r3⟩ := trodAll_cons r2
  obtain ⟨rfl, rfl, rfl⟩ := trodAll_nil r3
  obtain rfl : args = #[v0, v1, v2, v3] := by cases args; simp_all
  obtain ⟨p0, rfl, wp0⟩ := open_par Try.underlying23 rfl (by kernel_rfl) (by kernel_rfl) (by kernel_rfl) (hval 0 23 v0 rfl rfl) h0
  obtain ⟨a1, rfl, rfl, rfl, w1⟩ := open_int Try.underlying3 (hval 1 3 v1 rfl rfl) h1
  obtain ⟨A2, l2, c2, rfl, hA2, hl2, hw2⟩ := open_sliceK Try.underlying24 Try.underlying3 (by kernel_rfl) (hval 2 24 v2 rfl rfl) h2
  obtain ⟨A3, l3, c3, rfl, hA3, hl3, hw3⟩ := open_slice_pairs Try.underlying25 Try.underlying28 (by kernel_rfl) (by kernel_rfl) (by kernel_rfl) (by kernel_rfl) (hval 3 25 v3 rfl rfl) h3
  refine (walk W p0 wp0 a1 w1 A2 l2 c2 hA2 hl2 hw2 A3 l3 c3 hA3 hl3 hw3).mono fun e W' ⟨he, hb⟩ => ?_
  subst he
  exact ⟨_, rfl, law_post hW' laidOut (by rw [Try.params3]; exact params_ok (by kernel_rfl)) rfl (by kernel_rfl) Try.underlying4 rfl rfl rfl hb⟩
theorem over : Rows.anchorSeesRow.holds Try.pinned (OpenSpec.ofChange Rows.anchorSeesSpec) :=
  OpenClaim.holds_of_wide 3 Try.f3 rfl rfl rfl rfl rfl rfl rfl ⟨rfl, rfl, rfl, rfl, rfl⟩ rfl rfl rfl rfl rfl (by kernel_rfl) Try.func3 (by kernel_rfl)
    (of_decide_eq_true (by kernel_rfl)) (by unfold Func.isWrapper; first | (rw [if_pos (by decide +kernel)]; kernel_rfl) | (rw [if_neg (by decide +kernel)]; exact ⟨rfl, rfl⟩))
    (fun os started H enc _ => lifted os started H enc)
theorem proved : Rows.AnchorSeesSaid := over
end Go.Proofs.Ytlbijepejihjgaa.anchorSees
