/- CrcSeals: for every slice of bytes the law answers true: Seal and Open answer what the document says; what is sealed opens. No condition. -/
import Derived.Test.YtkjifhhipbegdaaC05h
namespace Go.Proofs.Ytkjifhhipbegdaa.crcSeals
open Go.ChangeShapes Go.WideShapes Go.ChangeAt Go.RowKit
set_option linter.unusedVariables false
set_option maxRecDepth 100000
attribute [local go_sem ↓] Go.wp_at_zero Go.wp_at_succ
theorem conv {w : World} {A : Option Addr} {l : List Nat} (hA : BytesAt w A l) (hw : ∀ x ∈ l, x < 256) (n : Nat) (hn : n = l.length) (cap : Nat) : Sem.run Try.prog (convert 22 9 (.slice A n cap)) w = .ok (.string (strOf l)) w :=
  run_bytes_string Try.underlying22 Try.underlying5 Try.underlying9 hA hw hn cap
/-- Nothing turned since w, so the four slices make the same strings. -/
def Conv4 (w : World) (v1 v2 v3 v4 : Value) (s1 s2 s3 s4 : ByteArray) (w' : World) : Prop := Ok w w' ∧ Sem.run Try.prog (convert 22 9 v1) w' = .ok (.string s1) w' ∧ Sem.run Try.prog (convert 22 9 v2) w' = .ok (.string s2) w' ∧ Sem.run Try.prog (convert 22 9 v3) w' = .ok (.string s3) w' ∧ Sem.run Try.prog (convert 22 9 v4) w' = .ok (.string s4) w'
namespace Conv4
variable {w w' w2 : World} {v1 v2 v3 v4 : Value} {s1 s2 s3 s4 : ByteArray}
theorem step (hK : ∀ w', Ok w w' → Conv4 w v1 v2 v3 v4 s1 s2 s3 s4 w') (h : Conv4 w v1 v2 v3 v4 s1 s2 s3 s4 w') (k : Ok w' w2) : Conv4 w v1 v2 v3 v4 s1 s2 s3 s4 w2 := hK _ (h.1.trans k)
theorem drew (hK : ∀ w', Ok w w' → Conv4 w v1 v2 v3 v4 s1 s2 s3 s4 w') (h : Conv4 w v1 v2 v3 v4 s1 s2 s3 s4 w') : Conv4 w v1 v2 v3 v4 s1 s2 s3 s4 w'.drew := hK _ h.1.drew
theorem alloc (hK : ∀ w', Ok w w' → Conv4 w v1 v2 v3 v4 s1 s2 s3 s4 w') (h : Conv4 w v1 v2 v3 v4 s1 s2 s3 s4 w') (x : Obj) : Conv4 w v1 v2 v3 v4 s1 s2 s3 s4 (w'.alloc x) := hK _ (h.1.alloc x)
end Conv4
set_option maxHeartbeats 1600000 in
theorem walk (w : World) (A : Option Addr) (l : List Nat) (cap : Nat) (hA : BytesAt w A l) (hl : l.length ≤ 9223372036854775807) (hw : ∀ x ∈ l, x < 256) (hcap : l.length ≤ cap) :
    Calls Try.prog 5 #[.slice A l.length cap] w fun e w' => e = .returned (.bool true) ∧ Below w.heap.size w w' := by
  have hok := Ok.refl w
  by_cases h : 16384 < l.length
  · clear hA hw
    have hd : decide ((16384 : Int) < (l.length : Int)) = true := decide_eq_true (by omega)
    go_enter Try.func5, Try.ntmps5
    go_wp2_with (go_at_call 9; refine (law5Alive _).mono ?_; rintro e w1 ⟨rfl, hb1⟩; replace hok := hok.trans hb1; clear hb1)
    go_ret
    exact ⟨rfl, hok⟩
  · have KS := Lib.hid fun (W : World) (h : BytesAt W A l) => crcSeal A l cap W h hw (by omega)
    have KO := Lib.hid fun (W : World) (h : BytesAt W A l) => crcOpenAt A l _ rfl cap W h hw (by omega) hcap
    have KT := Lib.hid fun (W : World) (g : Nat) (h : BytesAt W (some ⟨g, 0, none⟩) (sealL l)) => crcOpenAt (some ⟨g, 0, none⟩) (sealL l) (l.length + 4) (sealL_length l).symm (l.length + 4) W h (sealL_lt hw) (by rw [sealL_length]; omega) (by rw [sealL_length]; omega)
    have KR := Lib.hid fun W => ref5Open (strOf l) W (by unfold maxLen; rw [strOf_size]; omega)
    have KP := Lib.hid fun W => ref5Seal (strOf l) W (by unfold maxLen; rw [strOf_size]; omega)
    rw [isSealed_sealL, opened_sealL] at KT
    rw [strL_strOf hw, strOf_size, show (if isSealed l = true then strOf (l.take (l.length - 4)) else ⟨#[]⟩) = strOf (opened l) by unfold opened; split <;> rfl] at KR
    rw [strL_strOf hw] at KP
    have WS := Lib.hid (sealL_lt hw)
    have WO := Lib.hid (show ∀ x ∈ opened l, x < 256 by unfold opened; split; exact fun x hx => hw x (List.mem_of_mem_take hx); simp)
    have WL := Lib.hid hw
    have ZS := Lib.hid (sealL_length l)
    obtain ⟨o, ho⟩ : ∃ o, opened l = o := ⟨_, rfl⟩
    rw [ho] at KO KR WO
    obtain ⟨t, ht⟩ : ∃ t, isSealed l = t := ⟨_, rfl⟩
    rw [ht] at KO KR
    obtain ⟨s, hs⟩ : ∃ s, sealL l = s := ⟨_, rfl⟩
    rw [hs] at KS KT KP WS ZS
    clear ho ht hs hw
    have hd : decide ((16384 : Int) < (l.length : Int)) = false := decide_eq_false (by omega)
    go_enter Try.func5, Try.ntmps5
    go_upto_region 8 with (first
      | (go_at_call 9; refine (law5Alive _).mono ?_; rintro e w1 ⟨rfl, hb1⟩; replace hA := hA.below hb1; replace hok := hok.trans hb1; clear hb1)
      | (go_at_call 13; (with_reducible refine (KS.out _ hA).mono ?_); rintro e w1 ⟨g, rfl, hg, hO, hb1⟩; have hB := hO.bytes; clear hO hg; replace hA := hA.below hb1; replace hok := hok.trans hb1; clear hb1)
      | (go_at_call 14; (with_reducible refine (KT.out _ _ hB).mono ?_); rintro e w1 ⟨A1, c1, rfl, hX, hb1⟩; replace hA := hA.below hb1; replace hB := hB.below hb1; replace hok := hok.trans hb1; clear hb1 KT)
      | (go_at_call 14; (with_reducible refine (KO.out _ hA).mono ?_); rintro e w1 ⟨A2, c2, rfl, hY, hb1⟩; replace hA := hA.below hb1; replace hB := hB.below hb1; replace hX := hX.below hb1; replace hok := hok.trans hb1; clear hb1))
    have va := conv hA WL.out _ rfl cap
    go_upto_region 9 with ((go_at_call 15; (with_reducible refine (KR.out _).mono ?_); rintro e w2 ⟨rfl, hb1⟩; replace hA := hA.below hb1; replace hB := hB.below hb1; replace hX := hX.below hb1; replace hY := hY.below hb1; replace hok := hok.trans hb1; clear hb1))
    clear va KR KS KO
    have HK := Lib.hid fun w' (k : Ok w2 w') => (⟨k, conv (hB.below k) WS.out (l.length + 4) ZS.out.symm (l.length + 4), conv (hA.below k) WL.out _ rfl cap, conv (hX.below k) WL.out _ rfl c1, conv (hY.below k) WO.out _ rfl c2⟩ : Conv4 w2 (.slice (some ⟨g, 0, none⟩) (l.length + 4) (l.length + 4)) (.slice A l.length cap) (.slice A1 l.length c1) (.slice A2 o.length c2) (strOf s) (strOf l) (strOf l) (strOf o) w')
    have hS := HK.out _ (Ok.refl w2)
    clear hA hB hX hY WS ZS WL WO
    obtain ⟨rs, hrs⟩ : ∃ r, strOf s = r := ⟨_, rfl⟩
    obtain ⟨rl, hrl⟩ : ∃ r, strOf l = r := ⟨_, rfl⟩
    obtain ⟨ro, hro⟩ : ∃ r, strOf o = r := ⟨_, rfl⟩
    rw [hrs, hrl, hro] at HK hS
    rw [hrs, hrl] at KP
    rw [hro, hrl]
    clear hrs hrl hro hcap hd h hl
    go_region_held3 (fun w' => Ok w2 w' ∧ Sem.run Try.prog (convert 22 9 (.slice (some ⟨g, 0, none⟩) (l.length + 4) (l.length + 4))) w' = .ok (.string rs) w' ∧ Sem.run Try.prog (convert 22 9 (.slice A l.length cap)) w' = .ok (.string rl) w' ∧ Sem.run Try.prog (convert 22 9 (.slice A1 l.length c1)) w' = .ok (.string rl) w' ∧ Sem.run Try.prog (convert 22 9 (.slice A2 o.length c2)) w' = .ok (.string ro) w')
      (first | assumption | exact Conv4.drew HK.out (by assumption) | exact Conv4.alloc HK.out (by assumption) _ | exact Conv4.step HK.out (by assumption) (by assumption) | exact Conv4.step HK.out (Conv4.drew HK.out (by assumption)) (by assumption) | exact Conv4.step HK.out (Conv4.alloc HK.out (by assumption) _) (by assumption) | exact Conv4.step HK.out (Conv4.drew HK.out (Conv4.alloc HK.out (by assumption) _)) (by assumption))
      (first | (go_at_call 16; (with_reducible refine (KP.out _).mono ?_); rintro e w3 ⟨rfl, hb2⟩))
    all_goals
      rename_i hH
      replace hok := hok.trans hH.1
      clear hH hS HK KP
      go_wp2
      go_ret
      exact ⟨rfl, hok⟩
theorem own : ownKnob Try.prog.godebug = none := by kernel_rfl
theorem laidOut : laidOutB Try.prog = true := by kernel_rfl
set_option maxRecDepth 100000 in
theorem lifted (os : Os) (started : os.Started) (H : Type) (enc : TypeId × Value → H) :
    ReturnsInHanded {} Try.checked os 5 .any (Rows.crcSealsSpec.pre6 enc Try.prog Try.f5 Rows.crcSealsRow.domain false) (Rows.crcSealsSpec.post enc Try.prog Try.f5 false true false false) := by
  refine returnsInHanded_of_change (C := Try.checked) own started (by kernel_rfl) Try.func5
    (ChangeSpec.witness6 (enc := enc) (C := Try.checked) false ⟨#[], #[.slice none 0 0], []⟩ 8 (by kernel_rfl) (by kernel_rfl) (by kernel_rfl) (by kernel_rfl)) ?_
  intro W base args ds gs before hval0 hW _ _
  have hval : ∀ (j : Nat) t v, Try.f5.params[j]? = some t → args[j]? = some v → Value.okWide Try.prog W .any base t v := hval0
  have hW' := hW
  obtain ⟨p, q, hA, hV, rfl, _, _⟩ := hW
  obtain ⟨rfl, rfl⟩ := trodVars_none hV
  replace hA : DataW.TrodAll enc Try.prog W 0 (fun _ => true) true Try.f5.params.toList args.toList ds p := hA
  rw [Try.params5] at hA hval
  obtain ⟨v0, vs0, d0, ds0, p0, q0, hargs, rfl, rfl, h0, r0⟩ := trodAll_cons hA
  obtain ⟨rfl, rfl, rfl⟩ := trodAll_nil r0
  obtain rfl : args = #[v0] := by cases args; simp_all
  obtain ⟨A0, l0, c0, rfl, hA0, hl0, hw0, hc0⟩ := open_bytesC Try.underlying22 Try.underlying5 (by kernel_rfl) (hval 0 22 v0 rfl rfl) h0
  refine (walk W A0 l0 c0 hA0 hl0 hw0 hc0).mono fun e W' ⟨he, hb⟩ => ?_
  subst he
  exact ⟨_, rfl, law_post hW' laidOut (by rw [Try.params5]; exact params_ok (by kernel_rfl)) rfl (by kernel_rfl) Try.underlying4 rfl rfl rfl hb⟩
theorem over : Rows.crcSealsRow.holds Try.pinned (OpenSpec.ofChange Rows.crcSealsSpec) :=
  OpenClaim.holds_of_wide 5 Try.f5 rfl rfl rfl rfl rfl rfl rfl ⟨rfl, rfl, rfl, rfl, rfl⟩ rfl rfl rfl rfl rfl (by kernel_rfl) Try.func5 (by kernel_rfl)
    (of_decide_eq_true (by kernel_rfl)) (by unfold Func.isWrapper; first | (rw [if_pos (by decide +kernel)]; kernel_rfl) | (rw [if_neg (by decide +kernel)]; exact ⟨rfl, rfl⟩))
    (fun os started H enc _ => lifted os started H enc)
theorem proved : Rows.CrcSealsSaid := over
end Go.Proofs.Ytkjifhhipbegdaa.crcSeals
