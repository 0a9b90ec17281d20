/- WireWrites: for every message the law answers true: the program's frame is the document's. No condition. -/
import Derived.Test.YthhdhoaicoaokaaC06r
import Derived.Test.YthhdhoaicoaokaaC06d
namespace Go.Proofs.Ythhdhoaicoaokaa.wireWrites
open Go.ChangeShapes Go.WideShapes Go.ChangeAt Go.RowKit
set_option linter.unusedVariables false
set_option maxRecDepth 100000
attribute [local go_sem ↓] Go.wp_at_zero Go.wp_at_succ
set_option maxHeartbeats 1600000 in
theorem walk (w : World) (m : Msg) (A : Option Addr) (cap : Nat) (hA : PairsAt w A m.table) (hc : m.table.length ≤ cap) (hcm : cap ≤ maxLen) (wm : MsgWf m) :
    Calls Try.prog 4 #[msgV m A cap] w fun e w' => e = .returned (.bool true) ∧ Below w.heap.size w w' := by
  clear wm
  have hlen : m.table.length ≤ 9223372036854775807 := by unfold maxLen at hcm; omega
  have KL := Lib.hid fun W => law6Long m A cap W
  have KE := Lib.hid fun W (k : Ok w W) => wireEncode m A cap W (hA.below k) hlen
  have KF := Lib.hid fun W (k : Ok w W) => ref6Encode m A cap W (hA.below k) hlen
  obtain ⟨t, ht⟩ : ∃ t, encS m = t := ⟨_, rfl⟩
  obtain ⟨n, hn⟩ : ∃ t, encE m = t := ⟨_, rfl⟩
  obtain ⟨L, hL⟩ : ∃ L, decide (1024 < m.table.length) = L := ⟨_, rfl⟩
  simp only [ht, hn, hL] at KL KE KF
  have HO := Lib.hid (Own.new w (msgCells m A cap) 28 rfl)
  have HW := Lib.hid ((Ok.refl w).alloc (.cells (msgCells m A cap) 28))
  clear ht hn hL hA hc hcm hlen
  unfold msgV msgCells at *
  cases L
  all_goals
    go_enter Try.func4, Try.ntmps4
    go_wp2_with (first | (go_at_call 15; (with_reducible refine (law6Alive _).mono ?_); rintro e w1 ⟨rfl, hok⟩; obtain ⟨p0, p1, p2, p3, p4, p5, p6, p7, p8, p9, p10, p11, p12, p13⟩ := cells14 (HO.out.next hok)) | (go_at_call 11; (with_reducible refine (KL.out _).mono ?_); rintro e w2 ⟨rfl, hb⟩; replace hok := hok.trans hb; clear hb; obtain ⟨p0, p1, p2, p3, p4, p5, p6, p7, p8, p9, p10, p11, p12, p13⟩ := cells14 (HO.out.next hok)) | (go_at_call 16; (with_reducible refine (KE.out _ (HW.out.trans hok)).mono ?_); rintro e w2 ⟨rfl, hb⟩; replace hok := hok.trans hb; clear hb; obtain ⟨p0, p1, p2, p3, p4, p5, p6, p7, p8, p9, p10, p11, p12, p13⟩ := cells14 (HO.out.next hok)) | (go_at_call 17; (with_reducible refine (KF.out _ (HW.out.trans hok)).mono ?_); rintro e w2 ⟨rfl, hb⟩; replace hok := hok.trans hb; clear hb; obtain ⟨p0, p1, p2, p3, p4, p5, p6, p7, p8, p9, p10, p11, p12, p13⟩ := cells14 (HO.out.next hok)))
    go_ret
    exact ⟨rfl, HW.out.trans hok⟩
theorem own : ownKnob Try.prog.godebug = none := by kernel_rfl
theorem laidOut : laidOutB Try.prog = true := by kernel_rfl
set_option maxRecDepth 100000 in
theorem lifted (os : Os) (started : os.Started) (H : Type) (enc : TypeId × Value → H) :
    ReturnsInHanded {} Try.checked os 4 .any (Rows.wireWritesSpec.pre6 enc Try.prog Try.f4 Rows.wireWritesRow.domain false) (Rows.wireWritesSpec.post enc Try.prog Try.f4 false true false false) := by
  refine returnsInHanded_of_change (C := Try.checked) own started (by kernel_rfl) Try.func4
    (ChangeSpec.witness6 (enc := enc) (C := Try.checked) false ⟨#[], #[.agg #[.int .i64 0, .int .i64 0, .int .i64 0, .int .i64 0, .int .i64 0, .int .i64 0, .bool false, .bool false, .int .i64 0, .int .i64 0, .int .i64 0, .int .i64 0, .int .i64 0, .slice none 0 0]], []⟩ 8 (by kernel_rfl) (by kernel_rfl) (by kernel_rfl) (by kernel_rfl)) ?_
  intro W base args ds gs before hval0 hW _ _
  have hval : ∀ (j : Nat) t v, Try.f4.params[j]? = some t → args[j]? = some v → Value.okWide Try.prog W .any base t v := hval0
  have hW' := hW
  obtain ⟨p, q, hA, hV, rfl, _, _⟩ := hW
  obtain ⟨rfl, rfl⟩ := trodVars_none hV
  replace hA : DataW.TrodAll enc Try.prog W 0 (fun _ => true) true Try.f4.params.toList args.toList ds p := hA
  rw [Try.params4] at hA hval
  obtain ⟨v0, vs0, d0, ds0, p0, q0, hargs, rfl, rfl, h0, r0⟩ := trodAll_cons hA
  obtain ⟨rfl, rfl, rfl⟩ := trodAll_nil r0
  obtain rfl : args = #[v0] := by cases args; simp_all
  obtain ⟨m0, A0, c0, rfl, hA0, hc0, hm0, w0⟩ := open_msg (hval 0 28 v0 rfl rfl) h0
  refine (walk W m0 A0 c0 hA0 hc0 hm0 w0).mono fun e W' ⟨he, hb⟩ => ?_
  subst he
  exact ⟨_, rfl, law_post hW' laidOut (by rw [Try.params4]; exact params_ok (by kernel_rfl)) rfl (by kernel_rfl) Try.underlying4 rfl rfl rfl hb⟩
theorem over : Rows.wireWritesRow.holds Try.pinned (OpenSpec.ofChange Rows.wireWritesSpec) :=
  OpenClaim.holds_of_wide 4 Try.f4 rfl rfl rfl rfl rfl rfl rfl ⟨rfl, rfl, rfl, rfl, rfl⟩ rfl rfl rfl rfl rfl (by kernel_rfl) Try.func4 (by kernel_rfl)
    (of_decide_eq_true (by kernel_rfl)) (by unfold Func.isWrapper; first | (rw [if_pos (by decide +kernel)]; kernel_rfl) | (rw [if_neg (by decide +kernel)]; exact ⟨rfl, rfl⟩))
    (fun os started H enc _ => lifted os started H enc)
theorem proved : Rows.WireWritesSaid := over
end Go.Proofs.Ythhdhoaicoaokaa.wireWrites
