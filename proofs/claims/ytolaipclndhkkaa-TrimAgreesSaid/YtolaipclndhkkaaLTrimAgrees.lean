/- TrimAgrees: for every integer and every slice of integers the law answers true: Agreed is the document's. No condition. -/
import Derived.Test.YtolaipclndhkkaaC07g
namespace Go.Proofs.Ytolaipclndhkkaa.trimAgrees
open Go.ChangeShapes Go.WideShapes Go.ChangeAt Go.RowKit
set_option linter.unusedVariables false
set_option maxRecDepth 100000

theorem first_agreed (w : World) (t : TypeId) {b : Nat} (hb : b = w.heap.size) :
    Calls Try.prog 20 #[.int .i64 1, .slice (some ⟨b, 0, none⟩) 3 3] (w.alloc (.cells #[.int .i64 7, .int .i64 8, .int .i64 7] t)) fun e w' => e = .returned (.tuple #[.int .i64 7, .bool true]) ∧ Ok (w.alloc (.cells #[.int .i64 7, .int .i64 8, .int .i64 7] t)) w' := by
  have h := trimAgreed 1 (some ⟨b, 0, none⟩) [7, 8, 7] 3 _ (ints_new w [7, 8, 7] t #[.int .i64 7, .int .i64 8, .int .i64 7] rfl hb) (by decide) (by decide)
  rw [show Trim.bestTo [7, 8, 7] 1 ([7, 8, 7] : List Int).length = (0, 2) from by decide] at h
  exact h
theorem best_range (l : List Int) (f : Int) : ∀ k, k ≤ l.length → (Trim.bestTo l f k).1 = -1 ∨ ∃ j : Nat, j < k ∧ (Trim.bestTo l f k).1 = j := by
  intro k
  induction k with
  | zero => intro _; exact .inl rfl
  | succ k ih =>
    intro h
    rw [Trim.bestTo_snoc (by omega)]
    split
    · exact .inr ⟨k, by omega, rfl⟩
    · rcases ih (by omega) with e | ⟨j, hj, e⟩
      · exact .inl e
      · exact .inr ⟨j, by omega, e⟩
set_option maxHeartbeats 1600000 in
theorem walk (w : World) (f : Int) (wf : (Lit.int .i64 f).wf = true) (A : Option Addr) (l : List Int) (c : Nat) (hA : IntsAt w A l) (hl : l.length ≤ 9223372036854775807) (hw : ∀ x ∈ l, (Lit.int .i64 x).wf = true) :
    Calls Try.prog 5 #[.int .i64 f, .slice A l.length c] w fun e w' => e = .returned (.bool true) ∧ Below w.heap.size w w' := by
  have hok := Ok.refl w
  clear wf
  by_cases hbig : 256 < l.length ∨ f < 0
  · clear hw
    go_enter Try.func5, Try.ntmps5
    go_wp2_with (go_at_call 20; (with_reducible refine (first_agreed _ _ (by simp)).mono ?_); rintro e w1 ⟨rfl, hb1⟩; replace hok := (hok.alloc _).trans hb1; clear hb1)
    all_goals first
      | (exfalso; omega)
      | (go_ret; exact ⟨rfl, hok⟩)
  · have h1 : l.length ≤ 256 := by omega
    have h2 : 0 ≤ f := by omega
    have hl2 : l.length ≤ 1099511627776 := by omega
    have K1 := Lib.hid fun w h => trimAgreed f A l c w h hl2 hw
    have R1 := Lib.hid fun w h => ref7Agreed f A l c w h hl2
    have hr := best_range l f l.length (Nat.le_refl _)
    clear hbig hl2 hw
    rcases hr with e | ⟨j, hj, e⟩
    · rw [e] at K1 R1
      clear e
      go_enter Try.func5, Try.ntmps5
      go_wp2_with (first
        | (go_at_call 20; (with_reducible refine (first_agreed _ _ (by simp)).mono ?_); rintro e w1 ⟨rfl, hb1⟩; replace hok := (hok.alloc _).trans hb1; clear hb1)
        | (go_at_call 20; refine (K1.out _ (hA.below hok)).mono ?_; rintro e w2 ⟨rfl, hb1⟩; replace hok := hok.trans hb1; clear hb1)
        | (go_at_call 21; refine (R1.out _ (hA.below hok)).mono ?_; rintro e w5 ⟨rfl, rfl⟩))
      go_ret
      exact ⟨rfl, hok⟩
    · rw [e] at K1 R1
      rw [Trim.bestVal_at hj, decide_eq_true (show (0 : Int) ≤ (j : Int) by omega)] at K1
      clear e
      obtain ⟨b, off, hA2, -, -⟩ := hA j hj
      subst hA2
      obtain ⟨x, hx⟩ : ∃ x, l[j] = x := ⟨_, rfl⟩
      have HC := Lib.hid fun W (k : Ok w W) => (by obtain ⟨b', off', e, hb, hc⟩ := (hA.below k) j hj; cases e; rw [hx] at hc; exact ⟨hb, hc⟩ : b < W.heap.size ∧ W.cell? ⟨b, off + j, none⟩ = some (.int .i64 x))
      rw [hx] at K1
      clear hx
      go_enter Try.func5, Try.ntmps5
      go_wp2_with (first
        | (go_at_call 20; (with_reducible refine (first_agreed _ _ (by simp)).mono ?_); rintro e w1 ⟨rfl, hb1⟩; replace hok := (hok.alloc _).trans hb1; clear hb1)
        | (go_at_call 20; refine (K1.out _ (hA.below hok)).mono ?_; rintro e w2 ⟨rfl, hb1⟩; replace hok := hok.trans hb1; clear hb1)
        | (go_at_call 21; refine (R1.out _ (hA.below hok)).mono ?_; rintro e w5 ⟨rfl, rfl⟩; obtain ⟨hb, hc⟩ := HC.out _ hok))
      go_ret
      exact ⟨rfl, hok⟩
theorem own : ownKnob Try.prog.godebug = none := by kernel_rfl
theorem laidOut : laidOutB Try.prog = true := by kernel_rfl
set_option maxRecDepth 100000 in
theorem lifted (os : Os) (started : os.Started) (H : Type) (enc : TypeId × Value → H) :
    ReturnsInHanded {} Try.checked os 5 .any (Rows.trimAgreesSpec.pre6 enc Try.prog Try.f5 Rows.trimAgreesRow.domain false) (Rows.trimAgreesSpec.post enc Try.prog Try.f5 false true false false) := by
  refine returnsInHanded_of_change (C := Try.checked) own started (by kernel_rfl) Try.func5
    (ChangeSpec.witness6 (enc := enc) (C := Try.checked) false ⟨#[], #[.int .i64 0, .slice none 0 0], []⟩ 8 (by kernel_rfl) (by kernel_rfl) (by kernel_rfl) (by kernel_rfl)) ?_
  intro W base args ds gs before hval0 hW _ _
  have hval : ∀ (j : Nat) t v, Try.f5.params[j]? = some t → args[j]? = some v → Value.okWide Try.prog W .any base t v := hval0
  have hW' := hW
  obtain ⟨p, q, hA, hV, rfl, _, _⟩ := hW
  obtain ⟨rfl, rfl⟩ := trodVars_none hV
  replace hA : DataW.TrodAll enc Try.prog W 0 (fun _ => true) true Try.f5.params.toList args.toList ds p := hA
  rw [Try.params5] at hA hval
  obtain ⟨v0, vs0, d0, ds0, p0, q0, hargs, rfl, rfl, h0, r0⟩ := trodAll_cons hA
  obtain ⟨v1, vs1, d1, ds1, p1, q1, rfl, rfl, rfl, h1, r1⟩ := trodAll_cons r0
  obtain ⟨rfl, rfl, rfl⟩ := trodAll_nil r1
  obtain rfl : args = #[v0, v1] := by cases args; simp_all
  obtain ⟨a0, rfl, rfl, rfl, w0⟩ := open_int Try.underlying3 (hval 0 3 v0 rfl rfl) h0
  obtain ⟨A1, l1, c1, rfl, hA1, hl1, hw1⟩ := open_sliceK Try.underlying22 Try.underlying3 (by kernel_rfl) (hval 1 22 v1 rfl rfl) h1
  refine (walk W a0 w0 A1 l1 c1 hA1 hl1 hw1).mono fun e W' ⟨he, hb⟩ => ?_
  subst he
  exact ⟨_, rfl, law_post hW' laidOut (by rw [Try.params5]; exact params_ok (by kernel_rfl)) rfl (by kernel_rfl) Try.underlying4 rfl rfl rfl hb⟩
theorem over : Rows.trimAgreesRow.holds Try.pinned (OpenSpec.ofChange Rows.trimAgreesSpec) :=
  OpenClaim.holds_of_wide 5 Try.f5 rfl rfl rfl rfl rfl rfl rfl ⟨rfl, rfl, rfl, rfl, rfl⟩ rfl rfl rfl rfl rfl (by kernel_rfl) Try.func5 (by kernel_rfl)
    (of_decide_eq_true (by kernel_rfl)) (by unfold Func.isWrapper; first | (rw [if_pos (by decide +kernel)]; kernel_rfl) | (rw [if_neg (by decide +kernel)]; exact ⟨rfl, rfl⟩))
    (fun os started H enc _ => lifted os started H enc)
theorem proved : Rows.TrimAgreesSaid := over
end Go.Proofs.Ytolaipclndhkkaa.trimAgrees
