/- TrimFuses: for every integer and every slice of spans the law answers true: Fuse answers the document's span, and whether there is one. No condition. -/
import Derived.Test.YtolaipclndhkkaaC07h
import Derived.Test.YtolaipclndhkkaaC07e
import Derived.Test.YtolaipclndhkkaaW18
namespace Go.Proofs.Ytolaipclndhkkaa.trimFuses
open Go.ChangeShapes Go.WideShapes Go.ChangeAt Go.RowKit
set_option linter.unusedVariables false
set_option maxRecDepth 100000

/-- The document's Fuse, in one sentence. -/
theorem ref7Fuse (f : Int) (A : Option Addr) (l : List (Int × Int)) (cap : Nat) (w : World) (hA : PairsAt w A l) (hl : l.length ≤ 1099511627776) :
    Calls Try.prog 19 #[.int .i64 f, .slice A l.length cap] w fun e w' => e = .returned (.tuple #[spanV (fz f l).1 (fz f l).2, .bool (fLeft f l)]) ∧ Ok w w' := by
  cases hm : Trim.many f l.length
  · have h1 : fLeft f l = false := by unfold fLeft; rw [hm]; rfl
    have h2 : fz f l = (0, 0) := by unfold fz; rw [h1]; rfl
    rw [h1, h2]
    exact ref7FuseFew f A l cap w hl hm
  · by_cases h : fHi f l < fLo f l
    · have h1 : fLeft f l = false := by unfold fLeft; rw [hm, decide_eq_true h]; rfl
      have h2 : fz f l = (0, 0) := by unfold fz; rw [h1]; rfl
      rw [h1, h2]
      refine (ref7FuseMany f A l cap w hA hl hm).mono fun e w' ⟨h3, h4⟩ => ⟨?_, h4⟩
      rw [h3, if_pos h, decide_eq_true h]
      rfl
    · have h1 : fLeft f l = true := by unfold fLeft; rw [hm, decide_eq_false h]; rfl
      have h2 : fz f l = (Sat.clip (fLo f l), Sat.clip (fHi f l)) := by unfold fz; rw [h1]; rfl
      rw [h1, h2]
      refine (ref7FuseMany f A l cap w hA hl hm).mono fun e w' ⟨h3, h4⟩ => ⟨?_, h4⟩
      rw [h3, if_neg h, decide_eq_false h]
      rfl
set_option maxHeartbeats 1600000 in
theorem walk (w : World) (f : Int) (wf : (Lit.int .i64 f).wf = true) (B : Option Addr) (p : List (Int × Int)) (c2 : Nat) (hB : PairsAt w B p) (hl2 : p.length ≤ 9223372036854775807) (hw2 : ∀ s ∈ p, (Lit.int .i64 s.1).wf = true ∧ (Lit.int .i64 s.2).wf = true) :
    Calls Try.prog 4 #[.int .i64 f, .slice B p.length c2] w fun e w' => e = .returned (.bool true) ∧ Below w.heap.size w w' := by
  clear hw2
  have hok := Ok.refl w
  by_cases hbig : 256 < p.length
  · clear wf
    go_enter Try.func4, Try.ntmps4
    go_wp2_with (go_at_call 17; refine (law7Alive _).mono ?_; rintro e w1 ⟨rfl, hb1⟩; replace hok := hok.trans hb1; clear hb1)
    go_ret
    exact ⟨rfl, hok⟩
  · have hf := wf_bd wf
    have KF := Lib.hid fun w h => trimFuse f B p c2 w h (by omega) hf
    have RF := Lib.hid fun w h => ref7Fuse f B p c2 w h (by omega)
    generalize (fz f p).1 = v3 at KF RF
    generalize (fz f p).2 = v4 at KF RF
    generalize fLeft f p = q3 at KF RF
    clear wf hf
    go_enter Try.func4, Try.ntmps4
    go_wp2_with (first
      | (go_at_call 17; refine (law7Alive _).mono ?_; rintro e w1 ⟨rfl, hb1⟩; replace hok := hok.trans hb1; clear hb1)
      | (go_at_call 18; refine (KF.out _ (hB.below hok)).mono ?_; rintro e w9 ⟨rfl, hb1⟩; replace hok := (hok.trans hb1).alloc (.cells #[.int .i64 v3, .int .i64 v4] 30); clear hb1 KF)
      | (go_at_call 19; refine (RF.out _ (hB.below hok)).mono ?_; rintro e w10 ⟨rfl, hb1⟩; obtain ⟨s0, s1, s2⟩ := (Box.new w9 v3 v4 30 rfl).next hb1; replace hok := hok.trans hb1; clear hb1))
    go_ret
    exact ⟨rfl, hok.alloc _⟩
theorem own : ownKnob Try.prog.godebug = none := by kernel_rfl
theorem laidOut : laidOutB Try.prog = true := by kernel_rfl
set_option maxRecDepth 100000 in
theorem lifted (os : Os) (started : os.Started) (H : Type) (enc : TypeId × Value → H) :
    ReturnsInHanded {} Try.checked os 4 .any (Rows.trimFusesSpec.pre6 enc Try.prog Try.f4 Rows.trimFusesRow.domain false) (Rows.trimFusesSpec.post enc Try.prog Try.f4 false true false false) := by
  refine returnsInHanded_of_change (C := Try.checked) own started (by kernel_rfl) Try.func4
    (ChangeSpec.witness6 (enc := enc) (C := Try.checked) false ⟨#[], #[.int .i64 0, .slice none 0 0], []⟩ 8 (by kernel_rfl) (by kernel_rfl) (by kernel_rfl) (by kernel_rfl)) ?_
  intro W base args ds gs before hval0 hW _ _
  have hval : ∀ (j : Nat) t v, Try.f4.params[j]? = some t → args[j]? = some v → Value.okWide Try.prog W .any base t v := hval0
  have hW' := hW
  obtain ⟨p, q, hA, hV, rfl, _, _⟩ := hW
  obtain ⟨rfl, rfl⟩ := trodVars_none hV
  replace hA : DataW.TrodAll enc Try.prog W 0 (fun _ => true) true Try.f4.params.toList args.toList ds p := hA
  rw [Try.params4] at hA hval
  obtain ⟨v0, vs0, d0, ds0, p0, q0, hargs, rfl, rfl, h0, r0⟩ := trodAll_cons hA
  obtain ⟨v1, vs1, d1, ds1, p1, q1, rfl, rfl, rfl, h1, r1⟩ := trodAll_cons r0
  obtain ⟨rfl, rfl, rfl⟩ := trodAll_nil r1
  obtain rfl : args = #[v0, v1] := by cases args; simp_all
  obtain ⟨a0, rfl, rfl, rfl, w0⟩ := open_int Try.underlying3 (hval 0 3 v0 rfl rfl) h0
  obtain ⟨A1, l1, c1, rfl, hA1, hl1, hw1⟩ := open_slice_pairs Try.underlying27 Try.underlying30 (by kernel_rfl) (by kernel_rfl) (by kernel_rfl) (by kernel_rfl) (hval 1 27 v1 rfl rfl) h1
  refine (walk W a0 w0 A1 l1 c1 hA1 hl1 hw1).mono fun e W' ⟨he, hb⟩ => ?_
  subst he
  exact ⟨_, rfl, law_post hW' laidOut (by rw [Try.params4]; exact params_ok (by kernel_rfl)) rfl (by kernel_rfl) Try.underlying4 rfl rfl rfl hb⟩
theorem over : Rows.trimFusesRow.holds Try.pinned (OpenSpec.ofChange Rows.trimFusesSpec) :=
  OpenClaim.holds_of_wide 4 Try.f4 rfl rfl rfl rfl rfl rfl rfl ⟨rfl, rfl, rfl, rfl, rfl⟩ rfl rfl rfl rfl rfl (by kernel_rfl) Try.func4 (by kernel_rfl)
    (of_decide_eq_true (by kernel_rfl)) (by unfold Func.isWrapper; first | (rw [if_pos (by decide +kernel)]; kernel_rfl) | (rw [if_neg (by decide +kernel)]; exact ⟨rfl, rfl⟩))
    (fun os started H enc _ => lifted os started H enc)
theorem proved : Rows.TrimFusesSaid := over
end Go.Proofs.Ytolaipclndhkkaa.trimFuses
