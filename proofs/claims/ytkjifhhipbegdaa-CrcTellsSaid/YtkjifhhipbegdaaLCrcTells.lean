/- CrcTells: for every slice of bytes, every place and every 32 bits the law answers true: sealed bytes in which bits were turned, within 32 that stand together, don't open. No condition. -/
import Derived.Test.YtkjifhhipbegdaaC05i
import Derived.Deep.CutRange
import Derived.BigGuardPart
namespace Go.Proofs.Ytkjifhhipbegdaa.crcTells
open Go.ChangeShapes Go.WideShapes Go.ChangeAt Go.RowKit
set_option linter.unusedVariables false
set_option maxRecDepth 100000
theorem pow_xor {y r : Nat} (hy : y < 256) (hr : r < 8) : bits .xor .u8 (y : Int) ((2 : Int) ^ r % 256) = ((y ^^^ 2 ^ r : Nat) : Int) := by
  have hp : (2 : Int) ^ r % 256 = ((2 ^ r : Nat) : Int) ∧ 2 ^ r < 256 := by
    match r, hr with
    | 0, _ => decide
    | 1, _ => decide
    | 2, _ => decide
    | 3, _ => decide
    | 4, _ => decide
    | 5, _ => decide
    | 6, _ => decide
    | 7, _ => decide
    | r + 8, hr => omega
  rw [hp.1, xor_u8 hy hp.2]
set_option maxHeartbeats 1600000 in
theorem walk (w : World) (A : Option Addr) (l : List Nat) (cap : Nat) (hA : BytesAt w A l) (hl : l.length ≤ 9223372036854775807) (hw : ∀ x ∈ l, x < 256) (hcap : l.length ≤ cap)
    (a1 : Int) (w1 : (Lit.int .i64 a1).wf = true) (a2 : Int) (w2 : (Lit.int .u32 a2).wf = true) :
    Calls Try.prog 6 #[.slice A l.length cap, .int .i64 a1, .int .u32 a2] w fun e w' => e = .returned (.bool true) ∧ Below w.heap.size w w' := by
  have hok := Ok.refl w
  have b2 : 0 ≤ a2 ∧ a2 ≤ 4294967295 := by simp [Lit.wf] at w2; exact w2
  clear w2
  by_cases h : l.length ≤ 8192 ∧ a2 ≠ 0 ∧ 0 ≤ a1
  rotate_left
  · clear hA hw hcap
    go_enter Try.func6, Try.ntmps6
    go_wp2_with (go_at_call 9; refine (law5Alive _).mono ?_; rintro e w1 ⟨rfl, hb1⟩; replace hok := hok.trans hb1; clear hb1)
    all_goals
      go_ret
      exact ⟨rfl, hok⟩
  obtain ⟨h1, h2, h3⟩ := h
  obtain ⟨a, rfl⟩ : ∃ a : Nat, a1 = (a : Int) := ⟨a1.toNat, by omega⟩
  obtain ⟨B, rfl⟩ : ∃ a : Nat, a2 = (a : Int) := ⟨a2.toNat, by omega⟩
  have hB0 : 0 < B := by omega
  have hB1 : B < 4294967296 := by omega
  have d1 : decide ((8192 : Int) < (l.length : Int)) = false := decide_eq_false (by omega)
  have d2 : ((B : Int) == 0) = false := by rw [beq_eq_false_iff_ne]; omega
  have d3 : decide ((a : Int) < 0) = false := decide_eq_false (by omega)
  have ha63 : a ≤ 9223372036854775807 := by simp [Lit.wf] at w1; omega
  clear w1 h2 h3 b2
  have KS := Lib.hid fun (W : World) (h : BytesAt W A l) => crcSeal A l cap W h hw (by omega)
  by_cases hat : a + 32 ≤ 8 * (l.length + 4)
  rotate_left
  · have hg : decide (8 * ((l.length : Int) + 4) - 32 < (a : Int)) = true := decide_eq_true (by omega)
    clear ha63
    go_enter Try.func6, Try.ntmps6
    go_wp2_with (first
      | (go_at_call 9; refine (law5Alive _).mono ?_; rintro e w1 ⟨rfl, hb1⟩; replace hA := hA.below hb1; replace hok := hok.trans hb1; clear hb1)
      | (go_at_call 13; (with_reducible refine (KS.out _ hA).mono ?_); rintro e w1 ⟨g, rfl, hg, hO, hb1⟩; clear hO hg; replace hok := hok.trans hb1; clear hb1))
    go_ret
    exact ⟨rfl, hok⟩
  have hg : decide (8 * ((l.length : Int) + 4) - 32 < (a : Int)) = false := decide_eq_false (by omega)
  have ha62 : a ≤ 4611686018427387904 := by omega
  clear ha63
  go_enter Try.func6, Try.ntmps6
  go_wp2_with (first
    | (go_at_call 9; refine (law5Alive _).mono ?_; rintro e w1 ⟨rfl, hb1⟩; replace hA := hA.below hb1; replace hok := hok.trans hb1; clear hb1)
    | (go_at_call 13; (with_reducible refine (KS.out _ hA).mono ?_); rintro e w1 ⟨g, rfl, hgg, hO, hb1⟩; have hgw := Nat.le_trans hok.size hgg; replace hok := hok.trans hb1; clear hb1 hgg))
  have HS := Lib.hid hO
  have HW := Lib.hid hw
  clear hO hA KS d1 d2 d3 hg hw hcap
  go_loopw [8] (fun i wx => ∃ k : Nat, k ≤ 32 ∧ i = .int .i64 k ∧ Own wx g (u8s (flipL l a B k)).toArray ∧ Ok w wx) (fun i _ => 32 - (intOf i).toNat)
  case atStart => exact ⟨0, by omega, rfl, by rw [flipL_zero]; exact HS.out, hok⟩
  case round =>
    clear hok
    obtain ⟨k, hk, rfl, hO, hok⟩ := hrel
    by_cases hlt : k < 32
    · have ht := bit_test (i := k) hB1
      cases hbit : B.testBit k with
      | false =>
        rw [hbit] at ht
        have ht' : (bits .and .u32 ((B : Int) / 2 ^ k) 1 == 1) = false := by rw [ht]; rfl
        have HE := Lib.hid (flipL_same l a B k hbit)
        clear hbit ht
        go_wp2
        go_roundw
        case rel => exact ⟨k + 1, by omega, by go_num, by rw [HE.out]; exact hO, hok⟩
        case measure => simp [intOf]; omega
      | true =>
        rw [hbit] at ht
        have ht' : (bits .and .u32 ((B : Int) / 2 ^ k) 1 == 1) = true := by rw [ht]; rfl
        have hj : (a + k) / 8 < l.length + 4 := by omega
        have HE := Lib.hid (flipL_turn l a B k hbit hj)
        have hc := hO.cell ((a + k) / 8) (v := .int .u8 ((flipL l a B k)[(a + k) / 8]'(by rw [flipL_length]; exact hj) : Nat)) (by rw [List.getElem?_toArray]; exact u8s_at _ _ _)
        have hf := hO.frozen ((a + k) / 8)
        have hy := flipL_lt l HW.out a B k _ (List.getElem_mem (by rw [flipL_length]; exact hj))
        obtain ⟨y, hye⟩ : ∃ y, (flipL l a B k)[(a + k) / 8]'(by rw [flipL_length]; exact hj) = y := ⟨_, rfl⟩
        rw [hye] at hc hy HE
        have HSet := Lib.hid fun v => hO.setByte ((a + k) / 8) v
        have hr : (a + k) % 8 < 8 := Nat.mod_lt _ (by decide)
        clear hbit ht hye hO
        have HV := Lib.hid (pow_xor hy hr)
        go_wp2_with fail
        go_roundw
        case rel => exact ⟨k + 1, by omega, by go_num, by rw [HE.out, HV.out]; exact HSet.out _, hok.setCell hgw _⟩
        case measure => simp [intOf]; omega
    · obtain rfl : k = 32 := by omega
      have hs := flipL_told l HW.out a B hB0 hB1 hat
      have KT := Lib.hid (crcOpenAt (some ⟨g, 0, none⟩) (flipL l a B 32) (l.length + 4) (flipL_length l a B 32).symm (l.length + 4) wr hO.bytes (flipL_lt l HW.out a B 32) (by rw [flipL_length]; omega) (by rw [flipL_length]; omega))
      unfold opened at KT
      rw [hs, if_neg (by simp)] at KT
      clear hs hO HS HW hat hB0 hB1 ha62
      go_wp2_with ((go_at_call 14; (with_reducible refine KT.out.mono ?_); rintro e w2 ⟨A', c', rfl, _, hb1⟩; replace hok := hok.trans hb1; clear hb1))
      go_ret
      exact ⟨rfl, hok⟩
theorem own : ownKnob Try.prog.godebug = none := by kernel_rfl
theorem laidOut : laidOutB Try.prog = true := by kernel_rfl
set_option maxRecDepth 100000 in
theorem lifted (os : Os) (started : os.Started) (H : Type) (enc : TypeId × Value → H) :
    ReturnsInHanded {} Try.checked os 6 .any (Rows.crcTellsSpec.pre6 enc Try.prog Try.f6 Rows.crcTellsRow.domain false) (Rows.crcTellsSpec.post enc Try.prog Try.f6 false true false false) := by
  refine returnsInHanded_of_change (C := Try.checked) own started (by kernel_rfl) Try.func6
    (ChangeSpec.witness6 (enc := enc) (C := Try.checked) false ⟨#[], #[.slice none 0 0, .int .i64 0, .int .u32 0], []⟩ 8 (by kernel_rfl) (by kernel_rfl) (by kernel_rfl) (by kernel_rfl)) ?_
  intro W base args ds gs before hval0 hW _ _
  have hval : ∀ (j : Nat) t v, Try.f6.params[j]? = some t → args[j]? = some v → Value.okWide Try.prog W .any base t v := hval0
  have hW' := hW
  obtain ⟨p, q, hA, hV, rfl, _, _⟩ := hW
  obtain ⟨rfl, rfl⟩ := trodVars_none hV
  replace hA : DataW.TrodAll enc Try.prog W 0 (fun _ => true) true Try.f6.params.toList args.toList ds p := hA
  rw [Try.params6] at hA hval
  obtain ⟨v0, vs0, d0, ds0, p0, q0, hargs, rfl, rfl, h0, r0⟩ := trodAll_cons hA
  obtain ⟨v1, vs1, d1, ds1, p1, q1, rfl, rfl, rfl, h1, r1⟩ := trodAll_cons r0
  obtain ⟨v2, vs2, d2, ds2, p2, q2, rfl, rfl, rfl, h2, r2⟩ := trodAll_cons r1
  obtain ⟨rfl, rfl, rfl⟩ := trodAll_nil r2
  obtain rfl : args = #[v0, v1, v2] := by cases args; simp_all
  obtain ⟨A0, l0, c0, rfl, hA0, hl0, hw0, hc0⟩ := open_bytesC Try.underlying22 Try.underlying5 (by kernel_rfl) (hval 0 22 v0 rfl rfl) h0
  obtain ⟨a1, rfl, rfl, rfl, w1⟩ := open_int Try.underlying3 (hval 1 3 v1 rfl rfl) h1
  obtain ⟨a2, rfl, rfl, rfl, w2⟩ := open_int Try.underlying24 (hval 2 24 v2 rfl rfl) h2
  refine (walk W A0 l0 c0 hA0 hl0 hw0 hc0 a1 w1 a2 w2).mono fun e W' ⟨he, hb⟩ => ?_
  subst he
  exact ⟨_, rfl, law_post hW' laidOut (by rw [Try.params6]; exact params_ok (by kernel_rfl)) rfl (by kernel_rfl) Try.underlying4 rfl rfl rfl hb⟩
theorem over : Rows.crcTellsRow.holds Try.pinned (OpenSpec.ofChange Rows.crcTellsSpec) :=
  OpenClaim.holds_of_wide 6 Try.f6 rfl rfl rfl rfl rfl rfl rfl ⟨rfl, rfl, rfl, rfl, rfl⟩ rfl rfl rfl rfl rfl (by kernel_rfl) Try.func6 (by kernel_rfl)
    (of_decide_eq_true (by kernel_rfl)) (by unfold Func.isWrapper; first | (rw [if_pos (by decide +kernel)]; kernel_rfl) | (rw [if_neg (by decide +kernel)]; exact ⟨rfl, rfl⟩))
    (fun os started H enc _ => lifted os started H enc)
theorem proved : Rows.CrcTellsSaid := over
end Go.Proofs.Ytkjifhhipbegdaa.crcTells
