/- WireSizes: for every two messages the law answers true: a frame has 80 bytes and 16 for each entry, and two messages have one frame just if they are the same. No condition. -/
import Derived.Test.YthhdhoaicoaokaaC06r
import Derived.Test.YthhdhoaicoaokaaC06f
import Derived.BigGuardPart
namespace Go.Proofs.Ythhdhoaicoaokaa.wireSizes
open Go.ChangeShapes Go.WideShapes Go.ChangeAt Go.RowKit
set_option linter.unusedVariables false
set_option maxRecDepth 100000
attribute [local go_sem ↓] Go.wp_at_zero Go.wp_at_succ
/-- One frame, one message. -/
theorem enc_inj {a b : Msg} (ha : Wire.good a = true) (hb : Wire.good b = true) : ((encS a).toList == (encS b).toList) = decide (a = b) := by
  by_cases h : a = b
  · subst h
    rw [decide_eq_true rfl, beq_self_eq_true]
  · rw [decide_eq_false h]
    refine toList_ne fun e1 => h ?_
    unfold encS at e1
    rw [if_pos ha, if_pos hb] at e1
    have e2 := strOf_inj (sealL_lt (Wire.frame_lt ha)) (sealL_lt (Wire.frame_lt hb)) e1
    have e3 := congrArg opened e2
    rw [opened_sealL, opened_sealL] at e3
    exact Wire.frame_inj ha hb e3
set_option maxHeartbeats 3200000 in
theorem walkLa (w : World) (a : Msg) (A : Option Addr) (ca : Nat) (hA : PairsAt w A a.table) (hla : a.table.length ≤ maxLen) (b : Msg) (B : Option Addr) (cb : Nat) (hB : PairsAt w B b.table) (hlb : b.table.length ≤ maxLen) (h : 256 < a.table.length) :
    Calls Try.prog 9 #[msgV a A ca, msgV b B cb] w fun e w' => e = .returned (.bool true) ∧ Ok w w' := by
  have hna : a.table.length ≤ 9223372036854775807 := by unfold maxLen at hla; omega
  have hnb : b.table.length ≤ 9223372036854775807 := by unfold maxLen at hlb; omega
  have KA := Lib.hid fun W (k : Ok w W) => wireEncode a A ca W (hA.below k) hna
  have KB := Lib.hid fun W (k : Ok w W) => wireEncode b B cb W (hB.below k) hnb
  have HOa := Lib.hid ((Own.new w (msgCells a A ca) 28 rfl).alloc (.cells (msgCells b B cb) 28))
  have HOb := Lib.hid (show Own ((w.alloc (.cells (msgCells a A ca) 28)).alloc (.cells (msgCells b B cb) 28)) (w.heap.size + 1) (msgCells b B cb) from Own.new _ _ _ (by simp))
  have HW := Lib.hid (((Ok.refl w).alloc (.cells (msgCells a A ca) 28)).alloc (.cells (msgCells b B cb) 28))
  unfold encE at KA KB
  have d1 : decide ((256 : Int) < (a.table.length : Int)) = true := decide_eq_true (by omega)
  clear h KA KB
  clear hA hB hla hlb hna hnb
  unfold msgV msgCells at *
  go_enter Try.func9, Try.ntmps9
  go_wp2_with (first | (go_at_call 15; (with_reducible refine (law6Alive _).mono ?_); rintro e w1 ⟨rfl, hok⟩; obtain ⟨p0, p1, p2, p3, p4, p5, p6, p7, p8, p9, p10, p11, p12, p13⟩ := cells14 (HOa.out.next hok); obtain ⟨q0, q1, q2, q3, q4, q5, q6, q7, q8, q9, q10, q11, q12, q13⟩ := cells14 (HOb.out.next hok)))
  go_ret
  exact ⟨rfl, HW.out.trans hok⟩
set_option maxHeartbeats 3200000 in
theorem walkLb (w : World) (a : Msg) (A : Option Addr) (ca : Nat) (hA : PairsAt w A a.table) (hla : a.table.length ≤ maxLen) (b : Msg) (B : Option Addr) (cb : Nat) (hB : PairsAt w B b.table) (hlb : b.table.length ≤ maxLen) (h1 : ¬ 256 < a.table.length) (h : 256 < b.table.length) :
    Calls Try.prog 9 #[msgV a A ca, msgV b B cb] w fun e w' => e = .returned (.bool true) ∧ Ok w w' := by
  have hna : a.table.length ≤ 9223372036854775807 := by unfold maxLen at hla; omega
  have hnb : b.table.length ≤ 9223372036854775807 := by unfold maxLen at hlb; omega
  have KA := Lib.hid fun W (k : Ok w W) => wireEncode a A ca W (hA.below k) hna
  have KB := Lib.hid fun W (k : Ok w W) => wireEncode b B cb W (hB.below k) hnb
  have HOa := Lib.hid ((Own.new w (msgCells a A ca) 28 rfl).alloc (.cells (msgCells b B cb) 28))
  have HOb := Lib.hid (show Own ((w.alloc (.cells (msgCells a A ca) 28)).alloc (.cells (msgCells b B cb) 28)) (w.heap.size + 1) (msgCells b B cb) from Own.new _ _ _ (by simp))
  have HW := Lib.hid (((Ok.refl w).alloc (.cells (msgCells a A ca) 28)).alloc (.cells (msgCells b B cb) 28))
  unfold encE at KA KB
  have d1 : decide ((256 : Int) < (a.table.length : Int)) = false := decide_eq_false (by omega)
  have d2 : decide ((256 : Int) < (b.table.length : Int)) = true := decide_eq_true (by omega)
  clear h1 h KA KB
  clear hA hB hla hlb hna hnb
  unfold msgV msgCells at *
  go_enter Try.func9, Try.ntmps9
  go_wp2_with (first | (go_at_call 15; (with_reducible refine (law6Alive _).mono ?_); rintro e w1 ⟨rfl, hok⟩; obtain ⟨p0, p1, p2, p3, p4, p5, p6, p7, p8, p9, p10, p11, p12, p13⟩ := cells14 (HOa.out.next hok); obtain ⟨q0, q1, q2, q3, q4, q5, q6, q7, q8, q9, q10, q11, q12, q13⟩ := cells14 (HOb.out.next hok)))
  go_ret
  exact ⟨rfl, HW.out.trans hok⟩
set_option maxHeartbeats 3200000 in
theorem walkBa (w : World) (a : Msg) (A : Option Addr) (ca : Nat) (hA : PairsAt w A a.table) (hla : a.table.length ≤ maxLen) (b : Msg) (B : Option Addr) (cb : Nat) (hB : PairsAt w B b.table) (hlb : b.table.length ≤ maxLen) (h1 : ¬ 256 < a.table.length) (h2 : ¬ 256 < b.table.length) (hg : Wire.good a = false) :
    Calls Try.prog 9 #[msgV a A ca, msgV b B cb] w fun e w' => e = .returned (.bool true) ∧ Ok w w' := by
  have hna : a.table.length ≤ 9223372036854775807 := by unfold maxLen at hla; omega
  have hnb : b.table.length ≤ 9223372036854775807 := by unfold maxLen at hlb; omega
  have KA := Lib.hid fun W (k : Ok w W) => wireEncode a A ca W (hA.below k) hna
  have KB := Lib.hid fun W (k : Ok w W) => wireEncode b B cb W (hB.below k) hnb
  have HOa := Lib.hid ((Own.new w (msgCells a A ca) 28 rfl).alloc (.cells (msgCells b B cb) 28))
  have HOb := Lib.hid (show Own ((w.alloc (.cells (msgCells a A ca) 28)).alloc (.cells (msgCells b B cb) 28)) (w.heap.size + 1) (msgCells b B cb) from Own.new _ _ _ (by simp))
  have HW := Lib.hid (((Ok.refl w).alloc (.cells (msgCells a A ca) 28)).alloc (.cells (msgCells b B cb) 28))
  unfold encE at KA KB
  have d1 : decide ((256 : Int) < (a.table.length : Int)) = false := decide_eq_false (by omega)
  have d2 : decide ((256 : Int) < (b.table.length : Int)) = false := decide_eq_false (by omega)
  rw [hg, if_neg (by simp)] at KA
  obtain ⟨n, hn⟩ : ∃ n, (if Wire.good b = true then (0 : Int) else 1) = n := ⟨_, rfl⟩
  rw [hn] at KB
  clear h1 h2 hg hn
  clear hA hB hla hlb hna hnb
  unfold msgV msgCells at *
  go_enter Try.func9, Try.ntmps9
  go_wp2_with (first | (go_at_call 15; (with_reducible refine (law6Alive _).mono ?_); rintro e w1 ⟨rfl, hok⟩; obtain ⟨p0, p1, p2, p3, p4, p5, p6, p7, p8, p9, p10, p11, p12, p13⟩ := cells14 (HOa.out.next hok); obtain ⟨q0, q1, q2, q3, q4, q5, q6, q7, q8, q9, q10, q11, q12, q13⟩ := cells14 (HOb.out.next hok)) | (go_at_call 16; (with_reducible refine (KA.out _ (HW.out.trans hok)).mono ?_); rintro e w2 ⟨rfl, hb⟩; replace hok := hok.trans hb; clear hb; obtain ⟨p0, p1, p2, p3, p4, p5, p6, p7, p8, p9, p10, p11, p12, p13⟩ := cells14 (HOa.out.next hok); obtain ⟨q0, q1, q2, q3, q4, q5, q6, q7, q8, q9, q10, q11, q12, q13⟩ := cells14 (HOb.out.next hok)) | (go_at_call 16; (with_reducible refine (KB.out _ (HW.out.trans hok)).mono ?_); rintro e w3 ⟨rfl, hb⟩; replace hok := hok.trans hb; clear hb))
  go_ret
  exact ⟨rfl, HW.out.trans hok⟩
set_option maxHeartbeats 3200000 in
theorem walkBb (w : World) (a : Msg) (A : Option Addr) (ca : Nat) (hA : PairsAt w A a.table) (hla : a.table.length ≤ maxLen) (b : Msg) (B : Option Addr) (cb : Nat) (hB : PairsAt w B b.table) (hlb : b.table.length ≤ maxLen) (h1 : ¬ 256 < a.table.length) (h2 : ¬ 256 < b.table.length) (hg : Wire.good a = true) (hh : Wire.good b = false) :
    Calls Try.prog 9 #[msgV a A ca, msgV b B cb] w fun e w' => e = .returned (.bool true) ∧ Ok w w' := by
  have hna : a.table.length ≤ 9223372036854775807 := by unfold maxLen at hla; omega
  have hnb : b.table.length ≤ 9223372036854775807 := by unfold maxLen at hlb; omega
  have KA := Lib.hid fun W (k : Ok w W) => wireEncode a A ca W (hA.below k) hna
  have KB := Lib.hid fun W (k : Ok w W) => wireEncode b B cb W (hB.below k) hnb
  have HOa := Lib.hid ((Own.new w (msgCells a A ca) 28 rfl).alloc (.cells (msgCells b B cb) 28))
  have HOb := Lib.hid (show Own ((w.alloc (.cells (msgCells a A ca) 28)).alloc (.cells (msgCells b B cb) 28)) (w.heap.size + 1) (msgCells b B cb) from Own.new _ _ _ (by simp))
  have HW := Lib.hid (((Ok.refl w).alloc (.cells (msgCells a A ca) 28)).alloc (.cells (msgCells b B cb) 28))
  unfold encE at KA KB
  have d1 : decide ((256 : Int) < (a.table.length : Int)) = false := decide_eq_false (by omega)
  have d2 : decide ((256 : Int) < (b.table.length : Int)) = false := decide_eq_false (by omega)
  rw [hg, if_pos rfl] at KA
  rw [hh, if_neg (by simp)] at KB
  clear h1 h2 hg hh
  clear hA hB hla hlb hna hnb
  unfold msgV msgCells at *
  go_enter Try.func9, Try.ntmps9
  go_wp2_with (first | (go_at_call 15; (with_reducible refine (law6Alive _).mono ?_); rintro e w1 ⟨rfl, hok⟩; obtain ⟨p0, p1, p2, p3, p4, p5, p6, p7, p8, p9, p10, p11, p12, p13⟩ := cells14 (HOa.out.next hok); obtain ⟨q0, q1, q2, q3, q4, q5, q6, q7, q8, q9, q10, q11, q12, q13⟩ := cells14 (HOb.out.next hok)) | (go_at_call 16; (with_reducible refine (KA.out _ (HW.out.trans hok)).mono ?_); rintro e w2 ⟨rfl, hb⟩; replace hok := hok.trans hb; clear hb; obtain ⟨p0, p1, p2, p3, p4, p5, p6, p7, p8, p9, p10, p11, p12, p13⟩ := cells14 (HOa.out.next hok); obtain ⟨q0, q1, q2, q3, q4, q5, q6, q7, q8, q9, q10, q11, q12, q13⟩ := cells14 (HOb.out.next hok)) | (go_at_call 16; (with_reducible refine (KB.out _ (HW.out.trans hok)).mono ?_); rintro e w3 ⟨rfl, hb⟩; replace hok := hok.trans hb; clear hb))
  go_ret
  exact ⟨rfl, HW.out.trans hok⟩
set_option maxHeartbeats 3200000 in
theorem walkG (w : World) (a : Msg) (A : Option Addr) (ca : Nat) (hA : PairsAt w A a.table) (hla : a.table.length ≤ maxLen) (b : Msg) (B : Option Addr) (cb : Nat) (hB : PairsAt w B b.table) (hlb : b.table.length ≤ maxLen) (h1 : ¬ 256 < a.table.length) (h2 : ¬ 256 < b.table.length) (hg : Wire.good a = true) (hh : Wire.good b = true) :
    Calls Try.prog 9 #[msgV a A ca, msgV b B cb] w fun e w' => e = .returned (.bool true) ∧ Ok w w' := by
  have hna : a.table.length ≤ 9223372036854775807 := by unfold maxLen at hla; omega
  have hnb : b.table.length ≤ 9223372036854775807 := by unfold maxLen at hlb; omega
  have KA := Lib.hid fun W (k : Ok w W) => wireEncode a A ca W (hA.below k) hna
  have KB := Lib.hid fun W (k : Ok w W) => wireEncode b B cb W (hB.below k) hnb
  have HOa := Lib.hid ((Own.new w (msgCells a A ca) 28 rfl).alloc (.cells (msgCells b B cb) 28))
  have HOb := Lib.hid (show Own ((w.alloc (.cells (msgCells a A ca) 28)).alloc (.cells (msgCells b B cb) 28)) (w.heap.size + 1) (msgCells b B cb) from Own.new _ _ _ (by simp))
  have HW := Lib.hid (((Ok.refl w).alloc (.cells (msgCells a A ca) 28)).alloc (.cells (msgCells b B cb) 28))
  unfold encE at KA KB
  have d1 : decide ((256 : Int) < (a.table.length : Int)) = false := decide_eq_false (by omega)
  have d2 : decide ((256 : Int) < (b.table.length : Int)) = false := decide_eq_false (by omega)
  rw [hg, if_pos rfl] at KA
  rw [hh, if_pos rfl] at KB
  have KS := Lib.hid fun W (k : Ok w W) => ref6Same a b A B ca cb W (hA.below k) (hB.below k) hna hnb
  have hq := enc_inj hg hh
  have hz := enc_size hg
  have hs := Wire.good_short hg
  obtain ⟨t, ht⟩ : ∃ t, encS a = t := ⟨_, rfl⟩
  obtain ⟨u, hu⟩ : ∃ t, encS b = t := ⟨_, rfl⟩
  simp only [ht, hu] at KA KB hq hz
  obtain ⟨d, hd⟩ : ∃ d, decide (a = b) = d := ⟨_, rfl⟩
  rw [hd] at KS hq
  have hdd : (d == d) = true := beq_self_eq_true d
  have i1 : IntKind.i64.wrap (16 * (a.table.length : Int)) = 16 * (a.table.length : Int) := IntWalk.i64_in _ ⟨by omega, by omega⟩
  have i2 : IntKind.i64.wrap (80 + 16 * (a.table.length : Int)) = 80 + 16 * (a.table.length : Int) := IntWalk.i64_in _ ⟨by omega, by omega⟩
  have i3 : ((t.size : Int) == 80 + 16 * (a.table.length : Int)) = true := by rw [beq_iff_eq, hz]; push_cast; rfl
  have i4 : decide ((t.size : Int) ≤ 4096) = true := decide_eq_true (by omega)
  have i5 : (t.size : Int) ≤ 4096 := by omega
  clear h1 h2 hg hh ht hu hd hz hs
  clear hA hB hla hlb hna hnb
  unfold msgV msgCells at *
  go_enter Try.func9, Try.ntmps9
  go_wp2_with (first | (go_at_call 15; (with_reducible refine (law6Alive _).mono ?_); rintro e w1 ⟨rfl, hok⟩; obtain ⟨p0, p1, p2, p3, p4, p5, p6, p7, p8, p9, p10, p11, p12, p13⟩ := cells14 (HOa.out.next hok); obtain ⟨q0, q1, q2, q3, q4, q5, q6, q7, q8, q9, q10, q11, q12, q13⟩ := cells14 (HOb.out.next hok)) | (go_at_call 16; (with_reducible refine (KA.out _ (HW.out.trans hok)).mono ?_); rintro e w2 ⟨rfl, hb⟩; replace hok := hok.trans hb; clear hb; obtain ⟨p0, p1, p2, p3, p4, p5, p6, p7, p8, p9, p10, p11, p12, p13⟩ := cells14 (HOa.out.next hok); obtain ⟨q0, q1, q2, q3, q4, q5, q6, q7, q8, q9, q10, q11, q12, q13⟩ := cells14 (HOb.out.next hok)) | (go_at_call 16; (with_reducible refine (KB.out _ (HW.out.trans hok)).mono ?_); rintro e w3 ⟨rfl, hb⟩; replace hok := hok.trans hb; clear hb; obtain ⟨p0, p1, p2, p3, p4, p5, p6, p7, p8, p9, p10, p11, p12, p13⟩ := cells14 (HOa.out.next hok); obtain ⟨q0, q1, q2, q3, q4, q5, q6, q7, q8, q9, q10, q11, q12, q13⟩ := cells14 (HOb.out.next hok)) | (go_at_call 20; (with_reducible refine (KS.out _ (HW.out.trans hok)).mono ?_); rintro e w4 ⟨rfl, hb⟩; replace hok := hok.trans hb; clear hb))
  go_ret
  exact ⟨rfl, HW.out.trans hok⟩
theorem walk (w : World) (a : Msg) (A : Option Addr) (ca : Nat) (hA : PairsAt w A a.table) (hca : a.table.length ≤ ca) (hma : ca ≤ maxLen) (wa : MsgWf a) (b : Msg) (B : Option Addr) (cb : Nat) (hB : PairsAt w B b.table) (hcb : b.table.length ≤ cb) (hmb : cb ≤ maxLen) (wb : MsgWf b) :
    Calls Try.prog 9 #[msgV a A ca, msgV b B cb] w fun e w' => e = .returned (.bool true) ∧ Below w.heap.size w w' := by
  have hla : a.table.length ≤ maxLen := by omega
  have hlb : b.table.length ≤ maxLen := by omega
  by_cases h1 : 256 < a.table.length
  · exact walkLa w a A ca hA hla b B cb hB hlb h1
  by_cases h2 : 256 < b.table.length
  · exact walkLb w a A ca hA hla b B cb hB hlb h1 h2
  cases hg : Wire.good a with
  | false => exact walkBa w a A ca hA hla b B cb hB hlb h1 h2 hg
  | true =>
    cases hh : Wire.good b with
    | false => exact walkBb w a A ca hA hla b B cb hB hlb h1 h2 hg hh
    | true => exact walkG w a A ca hA hla b B cb hB hlb h1 h2 hg hh
theorem own : ownKnob Try.prog.godebug = none := by kernel_rfl
theorem laidOut : laidOutB Try.prog = true := by kernel_rfl
set_option maxRecDepth 100000 in
theorem lifted (os : Os) (started : os.Started) (H : Type) (enc : TypeId × Value → H) :
    ReturnsInHanded {} Try.checked os 9 .any (Rows.wireSizesSpec.pre6 enc Try.prog Try.f9 Rows.wireSizesRow.domain false) (Rows.wireSizesSpec.post enc Try.prog Try.f9 false true false false) := by
  refine returnsInHanded_of_change (C := Try.checked) own started (by kernel_rfl) Try.func9
    (ChangeSpec.witness6 (enc := enc) (C := Try.checked) false ⟨#[], #[.agg #[.int .i64 0, .int .i64 0, .int .i64 0, .int .i64 0, .int .i64 0, .int .i64 0, .bool false, .bool false, .int .i64 0, .int .i64 0, .int .i64 0, .int .i64 0, .int .i64 0, .slice none 0 0], .agg #[.int .i64 0, .int .i64 0, .int .i64 0, .int .i64 0, .int .i64 0, .int .i64 0, .bool false, .bool false, .int .i64 0, .int .i64 0, .int .i64 0, .int .i64 0, .int .i64 0, .slice none 0 0]], []⟩ 8 (by kernel_rfl) (by kernel_rfl) (by kernel_rfl) (by kernel_rfl)) ?_
  intro W base args ds gs before hval0 hW _ _
  have hval : ∀ (j : Nat) t v, Try.f9.params[j]? = some t → args[j]? = some v → Value.okWide Try.prog W .any base t v := hval0
  have hW' := hW
  obtain ⟨p, q, hA, hV, rfl, _, _⟩ := hW
  obtain ⟨rfl, rfl⟩ := trodVars_none hV
  replace hA : DataW.TrodAll enc Try.prog W 0 (fun _ => true) true Try.f9.params.toList args.toList ds p := hA
  rw [Try.params9] at hA hval
  obtain ⟨v0, vs0, d0, ds0, p0, q0, hargs, rfl, rfl, h0, r0⟩ := trodAll_cons hA
  obtain ⟨v1, vs1, d1, ds1, p1, q1, rfl, rfl, rfl, h1, r1⟩ := trodAll_cons r0
  obtain ⟨rfl, rfl, rfl⟩ := trodAll_nil r1
  obtain rfl : args = #[v0, v1] := by cases args; simp_all
  obtain ⟨m0, A0, c0, rfl, hA0, hc0, hm0, w0⟩ := open_msg (hval 0 28 v0 rfl rfl) h0
  obtain ⟨m1, A1, c1, rfl, hA1, hc1, hm1, w1⟩ := open_msg (hval 1 28 v1 rfl rfl) h1
  refine (walk W m0 A0 c0 hA0 hc0 hm0 w0 m1 A1 c1 hA1 hc1 hm1 w1).mono fun e W' ⟨he, hb⟩ => ?_
  subst he
  exact ⟨_, rfl, law_post hW' laidOut (by rw [Try.params9]; exact params_ok (by kernel_rfl)) rfl (by kernel_rfl) Try.underlying4 rfl rfl rfl hb⟩
theorem over : Rows.wireSizesRow.holds Try.pinned (OpenSpec.ofChange Rows.wireSizesSpec) :=
  OpenClaim.holds_of_wide 9 Try.f9 rfl rfl rfl rfl rfl rfl rfl ⟨rfl, rfl, rfl, rfl, rfl⟩ rfl rfl rfl rfl rfl (by kernel_rfl) Try.func9 (by kernel_rfl)
    (of_decide_eq_true (by kernel_rfl)) (by unfold Func.isWrapper; first | (rw [if_pos (by decide +kernel)]; kernel_rfl) | (rw [if_neg (by decide +kernel)]; exact ⟨rfl, rfl⟩))
    (fun os started H enc _ => lifted os started H enc)
theorem proved : Rows.WireSizesSaid := over
end Go.Proofs.Ythhdhoaicoaokaa.wireSizes
