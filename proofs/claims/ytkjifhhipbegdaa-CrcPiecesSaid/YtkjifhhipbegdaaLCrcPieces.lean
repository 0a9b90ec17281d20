/- CrcPieces: for every three slices of bytes the law answers true: the check of pieces is that of all at once, and More goes on where a check ends. No condition. -/
import Derived.Test.YtkjifhhipbegdaaC05d
import Derived.BigGuardPart
import Derived.Deep.CutRange
namespace Go.Proofs.Ytkjifhhipbegdaa.crcPieces
open Go.ChangeShapes Go.WideShapes Go.ChangeAt Go.RowKit
set_option linter.unusedVariables false
set_option maxRecDepth 100000

theorem conv {w : World} {A : Option Addr} {l : List Nat} (hA : BytesAt w A l) (hw : ∀ x ∈ l, x < 256) (cap : Nat) : Sem.run Try.prog (convert 22 9 (.slice A l.length cap)) w = .ok (.string (strOf l)) w :=
  run_bytes_string Try.underlying22 Try.underlying5 Try.underlying9 hA hw rfl cap
set_option maxHeartbeats 1600000 in
theorem walk (w : World) (A : Option Addr) (a : List Nat) (ca : Nat) (hA : BytesAt w A a) (la : a.length ≤ 9223372036854775807) (wa : ∀ x ∈ a, x < 256) (B : Option Addr) (b : List Nat) (cb : Nat) (hB : BytesAt w B b) (lb : b.length ≤ 9223372036854775807) (wb : ∀ x ∈ b, x < 256)
    (C : Option Addr) (c : List Nat) (cc : Nat) (hC : BytesAt w C c) (lc : c.length ≤ 9223372036854775807) (wc : ∀ x ∈ c, x < 256) :
    Calls Try.prog 4 #[.slice A a.length ca, .slice B b.length cb, .slice C c.length cc] w fun e w' => e = .returned (.bool true) ∧ Below w.heap.size w w' := by
  have hok := Ok.refl w
  by_cases h : a.length ≤ 8192 ∧ b.length ≤ 8192 ∧ c.length ≤ 8192
  rotate_left
  · clear hA wa hB wb hC wc
    go_enter Try.func4, Try.ntmps4
    go_wp2_with (go_at_call 9; refine (law5Alive _).mono ?_; rintro e w1 ⟨rfl, hb1⟩; replace hok := hok.trans hb1; clear hb1)
    all_goals
      go_ret
      exact ⟨rfl, hok⟩
  obtain ⟨ha, hb, hc⟩ := h
  have KR := Lib.hid fun w => ref5Sum (strOf a ++ strOf b ++ strOf c) w (by unfold maxLen; rw [strOf_append, strOf_append, strOf_size]; simp; omega)
  have hwabc : ∀ x ∈ a ++ b ++ c, x < 256 := fun x hx => by simp only [List.mem_append] at hx; rcases hx with (hx | hx) | hx; exact wa x hx; exact wb x hx; exact wc x hx
  rw [strOf_append, strOf_append, strL_strOf hwabc] at KR
  have KS := Lib.hid fun W hA hB hC p hp => crcSum3 W A a ca hA wa la B b cb hB wb lb C c cc hC wc lc p hp
  have KA := Lib.hid fun W hA p hp => crcSum1 W A a ca hA wa la p hp
  have KB := Lib.hid fun W hA hB p hp => crcSum2 W A a ca hA wa la B b cb hB wb lb p hp
  have KM := Lib.hid fun (W : World) (h : BytesAt W B b) => crcMore (Crc.check a) B b cb W (Crc.check_lt wa) h wb lb
  rw [← Crc.check_append] at KM
  obtain ⟨x, hx⟩ : ∃ x, Crc.check (a ++ b ++ c) = x := ⟨_, rfl⟩
  obtain ⟨y, hy⟩ : ∃ x, Crc.check (a ++ b) = x := ⟨_, rfl⟩
  obtain ⟨z, hz⟩ : ∃ x, Crc.check a = x := ⟨_, rfl⟩
  rw [hx] at KS KR
  rw [hy] at KB KM
  rw [hz] at KA KM
  clear hx hy hz hwabc
  rw [← strOf_append, ← strOf_append] at KR
  have za := strOf_size a
  have zb := strOf_size b
  have zc := strOf_size c
  go_enter Try.func4, Try.ntmps4
  go_upto_region 5 with (go_at_call 9; refine (law5Alive _).mono ?_; rintro e w1 ⟨rfl, hb1⟩; replace hA := hA.below hb1; replace hB := hB.below hb1; replace hC := hC.below hb1; replace hok := hok.trans hb1; clear hb1)
  have va := conv hA wa ca
  have vb := conv hB wb cb
  have vc := conv hC wc cc
  go_upto_region 6 with fail
  clear va vb vc za zb zc
  have HA := Lib.hid hA
  have HB := Lib.hid hB
  have HC := Lib.hid hC
  clear hA hB hC wa wb wc la lb lc
  go_wp2_with (first
    | (go_at_call 10; (with_reducible refine (KS.out _ HA.out HB.out HC.out _ (by simp)).mono ?_); rintro e w2 ⟨rfl, hb2⟩; replace HA := Lib.hid ((HA.out.alloc _).below hb2); replace HB := Lib.hid ((HB.out.alloc _).below hb2); replace hok := (hok.alloc _).trans hb2; clear hb2)
    | (go_at_call 10; (with_reducible refine (KA.out _ HA.out _ (by simp)).mono ?_); rintro e w2 ⟨rfl, hb2⟩; replace HA := Lib.hid ((HA.out.alloc _).below hb2); replace HB := Lib.hid ((HB.out.alloc _).below hb2); replace hok := (hok.alloc _).trans hb2; clear hb2)
    | (go_at_call 10; (with_reducible refine (KB.out _ HA.out HB.out _ (by simp)).mono ?_); rintro e w2 ⟨rfl, hb2⟩; replace hok := (hok.alloc _).trans hb2; clear hb2)
    | (go_at_call 12; (with_reducible refine (KM.out _ HB.out).mono ?_); rintro e w2 ⟨rfl, hb2⟩; replace HA := Lib.hid (HA.out.below hb2); replace HB := Lib.hid (HB.out.below hb2); replace hok := hok.trans hb2; clear hb2)
    | (go_at_call 11; (with_reducible refine (KR.out _).mono ?_); rintro e w2 ⟨rfl, rfl⟩))
  go_ret
  exact ⟨rfl, hok⟩
theorem own : ownKnob Try.prog.godebug = none := by kernel_rfl
theorem laidOut : laidOutB Try.prog = true := by kernel_rfl
set_option maxRecDepth 100000 in
theorem lifted (os : Os) (started : os.Started) (H : Type) (enc : TypeId × Value → H) :
    ReturnsInHanded {} Try.checked os 4 .any (Rows.crcPiecesSpec.pre6 enc Try.prog Try.f4 Rows.crcPiecesRow.domain false) (Rows.crcPiecesSpec.post enc Try.prog Try.f4 false true false false) := by
  refine returnsInHanded_of_change (C := Try.checked) own started (by kernel_rfl) Try.func4
    (ChangeSpec.witness6 (enc := enc) (C := Try.checked) false ⟨#[], #[.slice none 0 0, .slice none 0 0, .slice none 0 0], []⟩ 8 (by kernel_rfl) (by kernel_rfl) (by kernel_rfl) (by kernel_rfl)) ?_
  intro W base args ds gs before hval0 hW _ _
  have hval : ∀ (j : Nat) t v, Try.f4.params[j]? = some t → args[j]? = some v → Value.okWide Try.prog W .any base t v := hval0
  have hW' := hW
  obtain ⟨p, q, hA, hV, rfl, _, _⟩ := hW
  obtain ⟨rfl, rfl⟩ := trodVars_none hV
  replace hA : DataW.TrodAll enc Try.prog W 0 (fun _ => true) true Try.f4.params.toList args.toList ds p := hA
  rw [Try.params4] at hA hval
  obtain ⟨v0, vs0, d0, ds0, p0, q0, hargs, rfl, rfl, h0, r0⟩ := trodAll_cons hA
  obtain ⟨v1, vs1, d1, ds1, p1, q1, rfl, rfl, rfl, h1, r1⟩ := trodAll_cons r0
  obtain ⟨v2, vs2, d2, ds2, p2, q2, rfl, rfl, rfl, h2, r2⟩ := trodAll_cons r1
  obtain ⟨rfl, rfl, rfl⟩ := trodAll_nil r2
  obtain rfl : args = #[v0, v1, v2] := by cases args; simp_all
  obtain ⟨A0, l0, c0, rfl, hA0, hl0, hw0⟩ := open_bytes Try.underlying22 Try.underlying5 (by kernel_rfl) (hval 0 22 v0 rfl rfl) h0
  obtain ⟨A1, l1, c1, rfl, hA1, hl1, hw1⟩ := open_bytes Try.underlying22 Try.underlying5 (by kernel_rfl) (hval 1 22 v1 rfl rfl) h1
  obtain ⟨A2, l2, c2, rfl, hA2, hl2, hw2⟩ := open_bytes Try.underlying22 Try.underlying5 (by kernel_rfl) (hval 2 22 v2 rfl rfl) h2
  refine (walk W A0 l0 c0 hA0 hl0 hw0 A1 l1 c1 hA1 hl1 hw1 A2 l2 c2 hA2 hl2 hw2).mono fun e W' ⟨he, hb⟩ => ?_
  subst he
  exact ⟨_, rfl, law_post hW' laidOut (by rw [Try.params4]; exact params_ok (by kernel_rfl)) rfl (by kernel_rfl) Try.underlying4 rfl rfl rfl hb⟩
theorem over : Rows.crcPiecesRow.holds Try.pinned (OpenSpec.ofChange Rows.crcPiecesSpec) :=
  OpenClaim.holds_of_wide 4 Try.f4 rfl rfl rfl rfl rfl rfl rfl ⟨rfl, rfl, rfl, rfl, rfl⟩ rfl rfl rfl rfl rfl (by kernel_rfl) Try.func4 (by kernel_rfl)
    (of_decide_eq_true (by kernel_rfl)) (by unfold Func.isWrapper; first | (rw [if_pos (by decide +kernel)]; kernel_rfl) | (rw [if_neg (by decide +kernel)]; exact ⟨rfl, rfl⟩))
    (fun os started H enc _ => lifted os started H enc)
theorem proved : Rows.CrcPiecesSaid := over
end Go.Proofs.Ytkjifhhipbegdaa.crcPieces
