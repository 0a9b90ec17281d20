/- TrimKeeps: for every integer and every slice of integers the law answers true: what is handed in stays. No condition. -/
import Derived.Test.YtolaipclndhkkaaC07h
import Derived.Test.YtolaipclndhkkaaC07f
import Derived.Test.YtolaipclndhkkaaW18
import Derived.Test.YtolaipclndhkkaaW19
namespace Go.Proofs.Ytolaipclndhkkaa.trimKeeps
open Go.ChangeShapes Go.WideShapes Go.ChangeAt Go.RowKit
set_option linter.unusedVariables false
set_option maxRecDepth 100000

set_option maxHeartbeats 3200000 in
theorem walk (w : World) (f : Int) (wf : (Lit.int .i64 f).wf = true) (A : Option Addr) (l : List Int) (c : Nat) (hA : IntsAt w A l) (hl : l.length ≤ 9223372036854775807) (hw : ∀ x ∈ l, (Lit.int .i64 x).wf = true) :
    Calls Try.prog 9 #[.int .i64 f, .slice A l.length c] w fun e w' => e = .returned (.bool true) ∧ Below w.heap.size w w' := by
  have hok := Ok.refl w
  by_cases hbig : 256 < l.length
  · clear hw wf
    go_enter Try.func9, Try.ntmps9
    go_wp2_with (go_at_call 17; refine (law7Alive _).mono ?_; rintro e w1 ⟨rfl, hb1⟩; replace hok := hok.trans hb1; clear hb1)
    go_ret
    exact ⟨rfl, hok⟩
  · have hf := wf_bd wf
    have h1 : l.length ≤ 256 := by omega
    have KL := Lib.hid fun B c w h => trimLeast f B l c w h (by omega)
    have KM := Lib.hid fun B c w h => trimMiddle f B l c w h (by omega) hf
    have KA := Lib.hid fun B c w h => trimAgreed f B l c w h (by omega) hw
    clear hw wf hf
    go_enter Try.func9, Try.ntmps9
    go_upto_region 6 with (first
      | (go_at_call 17; refine (law7Alive _).mono ?_; rintro e w1 ⟨rfl, hb1⟩; replace hok := hok.trans hb1; clear hb1)
      | (at_builtin; refine wpList_append_ints rfl _ _ 22 rfl w1.heap.size 3 Try.underlying22 infoInt _ [] 0 rfl rfl (World.ownsRow_made w1 #[] 0 (Nat.le_refl _) (Nat.zero_le _) rfl) A l l.length c rfl rfl ((hA.below hok).alloc _) (by simp; omega) (by simp) ?_; intro v' w2 hown hgrow))
    rw [List.nil_append] at hown
    obtain ⟨A2, c2, rfl, I2⟩ := IntsAt.of_own hown
    have hs1 := hok.size
    replace hok := Below.grown (hok.alloc _) hgrow (by simp; omega) (fun g hg => by cases hg; exact hs1)
    clear hown hgrow hs1
    go_wp2_with (first
      | (go_at_call 11; refine (KL.out _ _ _ I2).mono ?_; rintro e w3 ⟨rfl, hb1⟩; replace hok := Ok.trans hok hb1; replace I2 := I2.below hb1; clear hb1)
      | (go_at_call 13; refine (KM.out _ _ _ I2).mono ?_; rintro e w4 ⟨rfl, hb1⟩; replace hok := Ok.trans hok hb1; replace I2 := I2.below hb1; clear hb1)
      | (go_at_call 20; refine (KA.out _ _ _ I2).mono ?_; rintro e w5 ⟨rfl, hb1⟩; replace hok := Ok.trans hok hb1; replace I2 := I2.below hb1; clear hb1))
    go_loopw [26] (fun i wr => ∃ k : Nat, k ≤ l.length ∧ i = .int .i64 k ∧ Ok w wr ∧ IntsAt wr A2 l) (fun i _ => l.length - (intOf i).toNat)
    case atStart => exact ⟨0, Nat.zero_le _, rfl, hok, I2⟩
    case round =>
      obtain ⟨k, hk, rfl, hok2, J2⟩ := hrel
      clear hok I2
      by_cases hlt : k < l.length
      · obtain ⟨b, off, hA2, hb, p0⟩ := (hA.below hok2) k hlt
        subst hA2
        have J := Lib.hid J2
        obtain ⟨b2, off2, hB2, hb2, p1⟩ := J2 k hlt
        subst hB2
        generalize l[k] = y at p0 p1
        go_wp2
        go_quiet (fail)
        go_wp2
        go_roundw
        case rel => exact ⟨k + 1, by omega, by go_num, hok2.drewN _, J.out.drewN _⟩
        case measure => simp [intOf]; omega
      · go_wp2
        go_ret
        exact ⟨rfl, hok2⟩
theorem own : ownKnob Try.prog.godebug = none := by kernel_rfl
theorem laidOut : laidOutB Try.prog = true := by kernel_rfl
set_option maxRecDepth 100000 in
theorem lifted (os : Os) (started : os.Started) (H : Type) (enc : TypeId × Value → H) :
    ReturnsInHanded {} Try.checked os 9 .any (Rows.trimKeepsSpec.pre6 enc Try.prog Try.f9 Rows.trimKeepsRow.domain false) (Rows.trimKeepsSpec.post enc Try.prog Try.f9 false true false false) := by
  refine returnsInHanded_of_change (C := Try.checked) own started (by kernel_rfl) Try.func9
    (ChangeSpec.witness6 (enc := enc) (C := Try.checked) false ⟨#[], #[.int .i64 0, .slice none 0 0], []⟩ 8 (by kernel_rfl) (by kernel_rfl) (by kernel_rfl) (by kernel_rfl)) ?_
  intro W base args ds gs before hval0 hW _ _
  have hval : ∀ (j : Nat) t v, Try.f9.params[j]? = some t → args[j]? = some v → Value.okWide Try.prog W .any base t v := hval0
  have hW' := hW
  obtain ⟨p, q, hA, hV, rfl, _, _⟩ := hW
  obtain ⟨rfl, rfl⟩ := trodVars_none hV
  replace hA : DataW.TrodAll enc Try.prog W 0 (fun _ => true) true Try.f9.params.toList args.toList ds p := hA
  rw [Try.params9] at hA hval
  obtain ⟨v0, vs0, d0, ds0, p0, q0, hargs, rfl, rfl, h0, r0⟩ := trodAll_cons hA
  obtain ⟨v1, vs1, d1, ds1, p1, q1, rfl, rfl, rfl, h1, r1⟩ := trodAll_cons r0
  obtain ⟨rfl, rfl, rfl⟩ := trodAll_nil r1
  obtain rfl : args = #[v0, v1] := by cases args; simp_all
  obtain ⟨a0, rfl, rfl, rfl, w0⟩ := open_int Try.underlying3 (hval 0 3 v0 rfl rfl) h0
  obtain ⟨A1, l1, c1, rfl, hA1, hl1, hw1⟩ := open_sliceK Try.underlying22 Try.underlying3 (by kernel_rfl) (hval 1 22 v1 rfl rfl) h1
  refine (walk W a0 w0 A1 l1 c1 hA1 hl1 hw1).mono fun e W' ⟨he, hb⟩ => ?_
  subst he
  exact ⟨_, rfl, law_post hW' laidOut (by rw [Try.params9]; exact params_ok (by kernel_rfl)) rfl (by kernel_rfl) Try.underlying4 rfl rfl rfl hb⟩
theorem over : Rows.trimKeepsRow.holds Try.pinned (OpenSpec.ofChange Rows.trimKeepsSpec) :=
  OpenClaim.holds_of_wide 9 Try.f9 rfl rfl rfl rfl rfl rfl rfl ⟨rfl, rfl, rfl, rfl, rfl⟩ rfl rfl rfl rfl rfl (by kernel_rfl) Try.func9 (by kernel_rfl)
    (of_decide_eq_true (by kernel_rfl)) (by unfold Func.isWrapper; first | (rw [if_pos (by decide +kernel)]; kernel_rfl) | (rw [if_neg (by decide +kernel)]; exact ⟨rfl, rfl⟩))
    (fun os started H enc _ => lifted os started H enc)
theorem proved : Rows.TrimKeepsSaid := over
end Go.Proofs.Ytolaipclndhkkaa.trimKeeps
