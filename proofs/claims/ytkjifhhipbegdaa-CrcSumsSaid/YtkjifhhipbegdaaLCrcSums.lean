/- CrcSums: for every slice of bytes the law answers true: the program's check is the document's. No condition. -/
import Derived.Test.YtkjifhhipbegdaaC05d
import Derived.Deep.RegionHeld3
import Derived.Deep.DrawnRows
import Derived.Deep.QuietTactic
import Derived.BigQuiet
namespace Go.Proofs.Ytkjifhhipbegdaa.crcSums
open Go.ChangeShapes Go.WideShapes Go.ChangeAt Go.RowKit
set_option linter.unusedVariables false
set_option maxRecDepth 100000
attribute [local go_sem ↓] Go.wp_at_zero Go.wp_at_succ

/-- Nothing turned since w, so the bytes make the same string. -/
def Conv (w : World) (A : Option Addr) (l : List Nat) (cap : Nat) (w' : World) : Prop := Ok w w' ∧ Sem.run Try.prog (convert 22 9 (.slice A l.length cap)) w' = .ok (.string (strOf l)) w'
theorem Conv.mk {w : World} {A : Option Addr} {l : List Nat} (hA : BytesAt w A l) (hw : ∀ x ∈ l, x < 256) (cap : Nat) {w' : World} (h : Ok w w') : Conv w A l cap w' :=
  ⟨h, run_bytes_string Try.underlying22 Try.underlying5 Try.underlying9 (hA.below h) hw rfl cap⟩
theorem Conv.next {w w' w2 : World} {A : Option Addr} {l : List Nat} {cap : Nat} (k : Ok w' w2) (hK : ∀ w', Ok w w' → Conv w A l cap w') (h : Conv w A l cap w') : Conv w A l cap w2 := hK _ (h.1.trans k)
theorem Conv.drew {w w' : World} {A : Option Addr} {l : List Nat} {cap : Nat} (hK : ∀ w', Ok w w' → Conv w A l cap w') (h : Conv w A l cap w') : Conv w A l cap w'.drew := hK _ h.1.drew
theorem Conv.alloc {w w' : World} {A : Option Addr} {l : List Nat} {cap : Nat} (hK : ∀ w', Ok w w' → Conv w A l cap w') (h : Conv w A l cap w') (o : Obj) : Conv w A l cap (w'.alloc o) := hK _ (h.1.alloc o)
theorem Conv.ok {w w' : World} {A : Option Addr} {l : List Nat} {cap : Nat} (h : Conv w A l cap w') : Ok w w' := h.1
set_option maxHeartbeats 1600000 in
theorem walk (w : World) (A : Option Addr) (l : List Nat) (cap : Nat) (hA : BytesAt w A l) (hl : l.length ≤ 9223372036854775807) (hw : ∀ x ∈ l, x < 256) :
    Calls Try.prog 3 #[.slice A l.length cap] w fun e w' => e = .returned (.bool true) ∧ Below w.heap.size w w' := by
  have hok := Ok.refl w
  by_cases h : 16384 < l.length
  · clear hA hw
    have hd : decide ((16384 : Int) < (l.length : Int)) = true := decide_eq_true (by omega)
    go_enter Try.func3, Try.ntmps3
    go_wp2_with (go_at_call 9; refine (law5Alive _).mono ?_; rintro e w1 ⟨rfl, hb1⟩; replace hok := hok.trans hb1; clear hb1)
    go_quiet (fail)
    go_wp2
    go_ret
    exact ⟨rfl, hok.drewN _⟩
  · have KR := Lib.hid fun w => ref5Sum (strOf l) w (by unfold maxLen; rw [strOf_size]; omega)
    rw [strL_strOf hw] at KR
    have KS := Lib.hid fun (W : World) (b : Addr) (h : PiecesAt W (some b) [l]) => crcSum (some b) [l] 1 W h (by simpa using hw) (by simpa using hl) (by simp)
    simp only [List.flatten_cons, List.flatten_nil, List.append_nil] at KS
    obtain ⟨c, hc⟩ : ∃ c, Crc.check l = c := ⟨_, rfl⟩
    rw [hc] at KR KS
    clear hc
    go_enter Try.func3, Try.ntmps3
    go_wp2_with (go_at_call 9; refine (law5Alive _).mono ?_; rintro e w1 ⟨rfl, hb1⟩; replace hA := hA.below hb1; replace hok := hok.trans hb1; clear hb1)
    have HK := Lib.hid fun w' => Conv.mk (w' := w') hA hw cap
    have HA := Lib.hid fun w' (h : Ok w1 w') => hA.below h
    have hS : Conv w1 A l cap w1 := HK.out _ (Ok.refl _)
    have hd : decide ((16384 : Int) < (l.length : Int)) = false := decide_eq_false (by omega)
    clear hA hw
    go_region_held3 (fun w' => Ok w1 w' ∧ Sem.run Try.prog (convert 22 9 (.slice A l.length cap)) w' = .ok (.string (strOf l)) w')
      (first | assumption | exact Conv.drew HK.out (by assumption) | exact Conv.alloc HK.out (by assumption) _ | exact Conv.next (by assumption) HK.out (by assumption) | exact Conv.next (by assumption) HK.out (Conv.drew HK.out (by assumption)) | exact Conv.next (by assumption) HK.out (Conv.alloc HK.out (by assumption) _) | exact Conv.next (by assumption) HK.out (Conv.drew HK.out (Conv.alloc HK.out (by assumption) _)))
      (first | (go_at_call 10; refine (KS.out _ _ ?_).mono ?_; (focus ((repeat (first | (with_reducible refine PiecesAt.drew ?_) | (with_reducible refine PiecesAt.below ?_ (by assumption)) | (refine PiecesAt.new1 ?_ _ _ (by simp)) | (with_reducible refine PiecesAt.alloc ?_ _))); (refine HA.out _ ?_); (first | exact Conv.ok (by assumption) | exact (Conv.ok (w' := _) (by assumption)).drew); done)); rintro e w2 ⟨rfl, hb2⟩) | (go_at_call 11; refine (KR.out _).mono ?_; rintro e w2 ⟨rfl, rfl⟩))
    all_goals
      rename_i hH
      replace hok := hok.trans hH.1
      clear hH hS HK HA KS KR
      go_wp2
      go_ret
      exact ⟨rfl, hok⟩
theorem own : ownKnob Try.prog.godebug = none := by kernel_rfl
theorem laidOut : laidOutB Try.prog = true := by kernel_rfl
set_option maxRecDepth 100000 in
theorem lifted (os : Os) (started : os.Started) (H : Type) (enc : TypeId × Value → H) :
    ReturnsInHanded {} Try.checked os 3 .any (Rows.crcSumsSpec.pre6 enc Try.prog Try.f3 Rows.crcSumsRow.domain false) (Rows.crcSumsSpec.post enc Try.prog Try.f3 false true false false) := by
  refine returnsInHanded_of_change (C := Try.checked) own started (by kernel_rfl) Try.func3
    (ChangeSpec.witness6 (enc := enc) (C := Try.checked) false ⟨#[], #[.slice none 0 0], []⟩ 8 (by kernel_rfl) (by kernel_rfl) (by kernel_rfl) (by kernel_rfl)) ?_
  intro W base args ds gs before hval0 hW _ _
  have hval : ∀ (j : Nat) t v, Try.f3.params[j]? = some t → args[j]? = some v → Value.okWide Try.prog W .any base t v := hval0
  have hW' := hW
  obtain ⟨p, q, hA, hV, rfl, _, _⟩ := hW
  obtain ⟨rfl, rfl⟩ := trodVars_none hV
  replace hA : DataW.TrodAll enc Try.prog W 0 (fun _ => true) true Try.f3.params.toList args.toList ds p := hA
  rw [Try.params3] at hA hval
  obtain ⟨v0, vs0, d0, ds0, p0, q0, hargs, rfl, rfl, h0, r0⟩ := trodAll_cons hA
  obtain ⟨rfl, rfl, rfl⟩ := trodAll_nil r0
  obtain rfl : args = #[v0] := by cases args; simp_all
  obtain ⟨A0, l0, c0, rfl, hA0, hl0, hw0⟩ := open_bytes Try.underlying22 Try.underlying5 (by kernel_rfl) (hval 0 22 v0 rfl rfl) h0
  refine (walk W A0 l0 c0 hA0 hl0 hw0).mono fun e W' ⟨he, hb⟩ => ?_
  subst he
  exact ⟨_, rfl, law_post hW' laidOut (by rw [Try.params3]; exact params_ok (by kernel_rfl)) rfl (by kernel_rfl) Try.underlying4 rfl rfl rfl hb⟩
theorem over : Rows.crcSumsRow.holds Try.pinned (OpenSpec.ofChange Rows.crcSumsSpec) :=
  OpenClaim.holds_of_wide 3 Try.f3 rfl rfl rfl rfl rfl rfl rfl ⟨rfl, rfl, rfl, rfl, rfl⟩ rfl rfl rfl rfl rfl (by kernel_rfl) Try.func3 (by kernel_rfl)
    (of_decide_eq_true (by kernel_rfl)) (by unfold Func.isWrapper; first | (rw [if_pos (by decide +kernel)]; kernel_rfl) | (rw [if_neg (by decide +kernel)]; exact ⟨rfl, rfl⟩))
    (fun os started H enc _ => lifted os started H enc)
theorem proved : Rows.CrcSumsSaid := over
end Go.Proofs.Ytkjifhhipbegdaa.crcSums
