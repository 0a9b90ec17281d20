/- WireReads: for every string the law answers true: what the program reads is what the document reads. No condition. -/
import Derived.Test.YthhdhoaicoaokaaC06r
import Derived.Test.YthhdhoaicoaokaaC06s
import Derived.Test.YthhdhoaicoaokaaC06f
import Derived.Test.YthhdhoaicoaokaaLWireBack
import Derived.BigGuardPart
namespace Go.Proofs.Ythhdhoaicoaokaa.wireReads
open Go.ChangeShapes Go.WideShapes Go.ChangeAt Go.RowKit
set_option linter.unusedVariables false
set_option maxRecDepth 100000
attribute [local go_sem ↓] Go.wp_at_zero Go.wp_at_succ
theorem dec_short (l : List Nat) : (decOf l).1.table.length ≤ 32 := by
  unfold decOf
  split
  · decide
  split
  · decide
  split
  · decide
  split
  · rename_i hg
    exact Wire.good_short hg.1
  · decide
set_option maxHeartbeats 1600000 in
theorem walk (w : World) (s : ByteArray) (ws : s.size ≤ maxLen) :
    Calls Try.prog 5 #[.string s] w fun e w' => e = .returned (.bool true) ∧ Below w.heap.size w w' := by
  by_cases hS : 8192 < s.size
  · have hd : decide ((8192 : Int) < (s.size : Int)) = true := decide_eq_true (by omega)
    clear hS ws
    go_enter Try.func5, Try.ntmps5
    go_wp2_with ((go_at_call 15; (with_reducible refine (law6Alive _).mono ?_); rintro e w1 ⟨rfl, hok⟩))
    go_ret
    exact ⟨rfl, hok⟩
  have hd : decide ((8192 : Int) < (s.size : Int)) = false := decide_eq_false (by omega)
  obtain ⟨m, n, hmn⟩ : ∃ m n, decOf (strL s) = (m, n) := ⟨_, _, rfl⟩
  have KD := Lib.hid (wireBack.decP s m n hmn)
  have KR := Lib.hid fun W => ref6Decode s W
  rw [hmn] at KR
  have hml : m.table.length ≤ 9223372036854775807 := by
    have := dec_short (strL s)
    rw [hmn] at this
    have h32 : m.table.length ≤ 32 := this
    omega
  have KS := Lib.hid fun W A c B d (hA : PairsAt W A m.table) (hB : PairsAt W B m.table) => ref6Same m m A B c d W hA hB hml hml
  rw [decide_eq_true rfl] at KS
  clear hS ws hmn hml
  unfold msgV at *
  go_enter Try.func5, Try.ntmps5
  go_wp2_with (first | (go_at_call 15; (with_reducible refine (law6Alive _).mono ?_); rintro e w1 ⟨rfl, hok⟩) | (go_at_call 18; (with_reducible refine (KD.out _).mono ?_); rintro e w2 ⟨A1, c1, rfl, hP1, hb⟩; replace hok := hok.trans hb; clear hb; have hO1 := Own.new w2 #[.int .i64 m.kind, .int .i64 m.frm, .int .i64 m.lo, .int .i64 m.hi, .int .i64 m.held, .int .i64 m.hops, .bool m.good, .bool m.ref, .int .i64 m.slo, .int .i64 m.shi, .int .i64 m.pulse, .int .i64 m.time, .int .i64 m.num, .slice A1 m.table.length c1] 28 rfl; replace hP1 := hP1.alloc (.cells #[.int .i64 m.kind, .int .i64 m.frm, .int .i64 m.lo, .int .i64 m.hi, .int .i64 m.held, .int .i64 m.hops, .bool m.good, .bool m.ref, .int .i64 m.slo, .int .i64 m.shi, .int .i64 m.pulse, .int .i64 m.time, .int .i64 m.num, .slice A1 m.table.length c1] 28)) | (go_at_call 19; (with_reducible refine (KR.out _).mono ?_); rintro e w3 ⟨A2, c2, rfl, hP2, hb⟩; replace hok := (hok.alloc _).trans hb; obtain ⟨p0, p1, p2, p3, p4, p5, p6, p7, p8, p9, p10, p11, p12, p13⟩ := cells14 ((hO1.next hb).alloc (.cells #[.int .i64 m.kind, .int .i64 m.frm, .int .i64 m.lo, .int .i64 m.hi, .int .i64 m.held, .int .i64 m.hops, .bool m.good, .bool m.ref, .int .i64 m.slo, .int .i64 m.shi, .int .i64 m.pulse, .int .i64 m.time, .int .i64 m.num, .slice A2 m.table.length c2] 28)); replace hP1 := (hP1.below hb).alloc (.cells #[.int .i64 m.kind, .int .i64 m.frm, .int .i64 m.lo, .int .i64 m.hi, .int .i64 m.held, .int .i64 m.hops, .bool m.good, .bool m.ref, .int .i64 m.slo, .int .i64 m.shi, .int .i64 m.pulse, .int .i64 m.time, .int .i64 m.num, .slice A2 m.table.length c2] 28); replace hP2 := hP2.alloc (.cells #[.int .i64 m.kind, .int .i64 m.frm, .int .i64 m.lo, .int .i64 m.hi, .int .i64 m.held, .int .i64 m.hops, .bool m.good, .bool m.ref, .int .i64 m.slo, .int .i64 m.shi, .int .i64 m.pulse, .int .i64 m.time, .int .i64 m.num, .slice A2 m.table.length c2] 28); clear hb) | (go_at_call 20; (with_reducible refine (KS.out _ _ _ _ _ hP1 hP2).mono ?_); rintro e w4 ⟨rfl, hb⟩; replace hok := (hok.alloc _).trans hb; clear hb))
  go_ret
  exact ⟨rfl, hok⟩
theorem own : ownKnob Try.prog.godebug = none := by kernel_rfl
theorem laidOut : laidOutB Try.prog = true := by kernel_rfl
set_option maxRecDepth 100000 in
theorem lifted (os : Os) (started : os.Started) (H : Type) (enc : TypeId × Value → H) :
    ReturnsInHanded {} Try.checked os 5 .any (Rows.wireReadsSpec.pre6 enc Try.prog Try.f5 Rows.wireReadsRow.domain false) (Rows.wireReadsSpec.post enc Try.prog Try.f5 false true false false) := by
  refine returnsInHanded_of_change (C := Try.checked) own started (by kernel_rfl) Try.func5
    (ChangeSpec.witness6 (enc := enc) (C := Try.checked) false ⟨#[], #[.string ⟨#[]⟩], []⟩ 8 (by kernel_rfl) (by kernel_rfl) (by kernel_rfl) (by kernel_rfl)) ?_
  intro W base args ds gs before hval0 hW _ _
  have hval : ∀ (j : Nat) t v, Try.f5.params[j]? = some t → args[j]? = some v → Value.okWide Try.prog W .any base t v := hval0
  have hW' := hW
  obtain ⟨p, q, hA, hV, rfl, _, _⟩ := hW
  obtain ⟨rfl, rfl⟩ := trodVars_none hV
  replace hA : DataW.TrodAll enc Try.prog W 0 (fun _ => true) true Try.f5.params.toList args.toList ds p := hA
  rw [Try.params5] at hA hval
  obtain ⟨v0, vs0, d0, ds0, p0, q0, hargs, rfl, rfl, h0, r0⟩ := trodAll_cons hA
  obtain ⟨rfl, rfl, rfl⟩ := trodAll_nil r0
  obtain rfl : args = #[v0] := by cases args; simp_all
  obtain ⟨a0, rfl, rfl, rfl, w0⟩ := Go.ChangeMaps.open_string Try.underlying9 (hval 0 9 v0 rfl rfl) h0
  refine (walk W a0 w0).mono fun e W' ⟨he, hb⟩ => ?_
  subst he
  exact ⟨_, rfl, law_post hW' laidOut (by rw [Try.params5]; exact params_ok (by kernel_rfl)) rfl (by kernel_rfl) Try.underlying4 rfl rfl rfl hb⟩
theorem over : Rows.wireReadsRow.holds Try.pinned (OpenSpec.ofChange Rows.wireReadsSpec) :=
  OpenClaim.holds_of_wide 5 Try.f5 rfl rfl rfl rfl rfl rfl rfl ⟨rfl, rfl, rfl, rfl, rfl⟩ rfl rfl rfl rfl rfl (by kernel_rfl) Try.func5 (by kernel_rfl)
    (of_decide_eq_true (by kernel_rfl)) (by unfold Func.isWrapper; first | (rw [if_pos (by decide +kernel)]; kernel_rfl) | (rw [if_neg (by decide +kernel)]; exact ⟨rfl, rfl⟩))
    (fun os started H enc _ => lifted os started H enc)
theorem proved : Rows.WireReadsSaid := over
end Go.Proofs.Ythhdhoaicoaokaa.wireReads
