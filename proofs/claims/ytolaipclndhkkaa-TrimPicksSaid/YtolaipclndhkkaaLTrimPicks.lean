/- TrimPicks: for every integer and every slice of integers the law answers true: Least, Most and Middle are the document's. No condition. -/
import Derived.Test.YtolaipclndhkkaaC07c
import Derived.Test.YtolaipclndhkkaaW18
namespace Go.Proofs.Ytolaipclndhkkaa.trimPicks
open Go.ChangeShapes Go.WideShapes Go.ChangeAt Go.RowKit
set_option linter.unusedVariables false
set_option maxRecDepth 100000

theorem first_least (w : World) (t : TypeId) {b : Nat} (hb : b = w.heap.size) :
    Calls Try.prog 11 #[.int .i64 1, .slice (some ⟨b, 0, none⟩) 3 3] (w.alloc (.cells #[.int .i64 5, .int .i64 3, .int .i64 9] t)) fun e w' => e = .returned (.tuple #[.int .i64 5, .bool true]) ∧ Ok (w.alloc (.cells #[.int .i64 5, .int .i64 3, .int .i64 9] t)) w' := by
  have h := trimLeast 1 (some ⟨b, 0, none⟩) [5, 3, 9] 3 _ (ints_new w [5, 3, 9] t #[.int .i64 5, .int .i64 3, .int .i64 9] rfl hb) (by decide)
  rw [show Trim.val 1 [5, 3, 9] = 5 from Trim.val_of_pick (by decide) ⟨by decide, by decide, by decide⟩] at h
  exact h
set_option maxHeartbeats 1600000 in
theorem walk (w : World) (k : Int) (wk : (Lit.int .i64 k).wf = true) (A : Option Addr) (l : List Int) (c : Nat) (hA : IntsAt w A l) (hl : l.length ≤ 9223372036854775807) (hw : ∀ x ∈ l, (Lit.int .i64 x).wf = true) :
    Calls Try.prog 3 #[.int .i64 k, .slice A l.length c] w fun e w' => e = .returned (.bool true) ∧ Below w.heap.size w w' := by
  clear hw
  have hok := Ok.refl w
  by_cases hbig : 256 < l.length
  · go_enter Try.func3, Try.ntmps3
    go_wp2_with (go_at_call 11; (with_reducible refine (first_least _ _ (by simp)).mono ?_); rintro e w1 ⟨rfl, hb1⟩; replace hok := (hok.alloc _).trans hb1; clear hb1)
    go_ret
    exact ⟨rfl, hok⟩
  · have hl2 : l.length ≤ 1099511627776 := by omega
    have hk := wf_bd wk
    have K1 := Lib.hid fun w h => trimLeast k A l c w h hl2
    have K2 := Lib.hid fun w h => trimMost k A l c w h hl2
    have K3 := Lib.hid fun w h => trimMiddle k A l c w h hl2 hk
    have R1 := Lib.hid fun w h => ref7Least k A l c w h hl2
    have R2 := Lib.hid fun w h => ref7Most k A l c w h hl2
    have R3 := Lib.hid fun w h => ref7Middle k A l c w h hl2
    generalize Trim.val k l = x1 at K1 R1
    generalize Trim.val ((l.length : Int) - 1 - k) l = x2 at K2 R2
    generalize Trim.mid k l Sat.clip = x3 at K3 R3
    generalize Trim.is k l.length = q1 at K1 R1 K2 R2
    generalize Trim.many k l.length = q2 at K3 R3
    clear hl2 hk wk
    cases q1 <;> cases q2
    all_goals
      go_enter Try.func3, Try.ntmps3
      go_wp2_with (first
        | (go_at_call 11; (with_reducible refine (first_least _ _ (by simp)).mono ?_); rintro e w1 ⟨rfl, hb1⟩; replace hok := (hok.alloc _).trans hb1; clear hb1)
        | (go_at_call 11; refine (K1.out _ (hA.below hok)).mono ?_; rintro e w2 ⟨rfl, hb1⟩; replace hok := hok.trans hb1; clear hb1)
        | (go_at_call 12; refine (K2.out _ (hA.below hok)).mono ?_; rintro e w3 ⟨rfl, hb1⟩; replace hok := hok.trans hb1; clear hb1)
        | (go_at_call 13; refine (K3.out _ (hA.below hok)).mono ?_; rintro e w4 ⟨rfl, hb1⟩; replace hok := hok.trans hb1; clear hb1)
        | (go_at_call 14; refine (R1.out _ (hA.below hok)).mono ?_; rintro e w5 ⟨rfl, rfl⟩)
        | (go_at_call 15; refine (R2.out _ (hA.below hok)).mono ?_; rintro e w6 ⟨rfl, rfl⟩)
        | (go_at_call 16; refine (R3.out _ (hA.below hok)).mono ?_; rintro e w7 ⟨rfl, hb1⟩; replace hok := hok.trans hb1; clear hb1))
      go_ret
      exact ⟨rfl, hok⟩
theorem own : ownKnob Try.prog.godebug = none := by kernel_rfl
theorem laidOut : laidOutB Try.prog = true := by kernel_rfl
set_option maxRecDepth 100000 in
theorem lifted (os : Os) (started : os.Started) (H : Type) (enc : TypeId × Value → H) :
    ReturnsInHanded {} Try.checked os 3 .any (Rows.trimPicksSpec.pre6 enc Try.prog Try.f3 Rows.trimPicksRow.domain false) (Rows.trimPicksSpec.post enc Try.prog Try.f3 false true false false) := by
  refine returnsInHanded_of_change (C := Try.checked) own started (by kernel_rfl) Try.func3
    (ChangeSpec.witness6 (enc := enc) (C := Try.checked) false ⟨#[], #[.int .i64 0, .slice none 0 0], []⟩ 8 (by kernel_rfl) (by kernel_rfl) (by kernel_rfl) (by kernel_rfl)) ?_
  intro W base args ds gs before hval0 hW _ _
  have hval : ∀ (j : Nat) t v, Try.f3.params[j]? = some t → args[j]? = some v → Value.okWide Try.prog W .any base t v := hval0
  have hW' := hW
  obtain ⟨p, q, hA, hV, rfl, _, _⟩ := hW
  obtain ⟨rfl, rfl⟩ := trodVars_none hV
  replace hA : DataW.TrodAll enc Try.prog W 0 (fun _ => true) true Try.f3.params.toList args.toList ds p := hA
  rw [Try.params3] at hA hval
  obtain ⟨v0, vs0, d0, ds0, p0, q0, hargs, rfl, rfl, h0, r0⟩ := trodAll_cons hA
  obtain ⟨v1, vs1, d1, ds1, p1, q1, rfl, rfl, rfl, h1, r1⟩ := trodAll_cons r0
  obtain ⟨rfl, rfl, rfl⟩ := trodAll_nil r1
  obtain rfl : args = #[v0, v1] := by cases args; simp_all
  obtain ⟨a0, rfl, rfl, rfl, w0⟩ := open_int Try.underlying3 (hval 0 3 v0 rfl rfl) h0
  obtain ⟨A1, l1, c1, rfl, hA1, hl1, hw1⟩ := open_sliceK Try.underlying22 Try.underlying3 (by kernel_rfl) (hval 1 22 v1 rfl rfl) h1
  refine (walk W a0 w0 A1 l1 c1 hA1 hl1 hw1).mono fun e W' ⟨he, hb⟩ => ?_
  subst he
  exact ⟨_, rfl, law_post hW' laidOut (by rw [Try.params3]; exact params_ok (by kernel_rfl)) rfl (by kernel_rfl) Try.underlying4 rfl rfl rfl hb⟩
theorem over : Rows.trimPicksRow.holds Try.pinned (OpenSpec.ofChange Rows.trimPicksSpec) :=
  OpenClaim.holds_of_wide 3 Try.f3 rfl rfl rfl rfl rfl rfl rfl ⟨rfl, rfl, rfl, rfl, rfl⟩ rfl rfl rfl rfl rfl (by kernel_rfl) Try.func3 (by kernel_rfl)
    (of_decide_eq_true (by kernel_rfl)) (by unfold Func.isWrapper; first | (rw [if_pos (by decide +kernel)]; kernel_rfl) | (rw [if_neg (by decide +kernel)]; exact ⟨rfl, rfl⟩))
    (fun os started H enc _ => lifted os started H enc)
theorem proved : Rows.TrimPicksSaid := over
end Go.Proofs.Ytolaipclndhkkaa.trimPicks
