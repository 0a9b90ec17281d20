/- Contracts of layer 6: the document's Same. -/
import Derived.Test.YtgkcmiaagbgajaaC06e
namespace Go.Proofs.Ytgkcmiaagbgajaa
open Go.RowKit
set_option maxRecDepth 100000
theorem eqSpan (a b c d : Int) (w : World) : (Op.equalIn 10000 33 (.agg #[.int .i64 a, .int .i64 b]) (.agg #[.int .i64 c, .int .i64 d])).run Try.prog w = .ok (a == c && b == d) w := by
  have u3 := Try.underlying3
  have ag := Try.isAgg3
  have z3 := Try.sizeOf3
  have hS : Try.prog.underlying 33 = some (.struct (Try.prog.fieldsOf 33)) := by kernel_rfl
  have hp : Try.prog.stoodInHeld 33 = false := by kernel_rfl
  rw [show (10000 : Nat) = 9999 + 1 from rfl, run_equalIn_struct w 9999 33 _ _ hS hp]
  simp only [Program.fieldsOf, Try.underlying33]
  go_simp
  by_cases h1 : a = c <;> by_cases h2 : b = d <;> simp [h1, h2]
theorem eqStamp (a b c d : Int) (w : World) : (Op.equalIn 10000 35 (.agg #[.int .i64 a, .int .i64 b]) (.agg #[.int .i64 c, .int .i64 d])).run Try.prog w = .ok (a == c && b == d) w := by
  have u3 := Try.underlying3
  have ag := Try.isAgg3
  have z3 := Try.sizeOf3
  have hS : Try.prog.underlying 35 = some (.struct (Try.prog.fieldsOf 35)) := by kernel_rfl
  have hp : Try.prog.stoodInHeld 35 = false := by kernel_rfl
  rw [show (10000 : Nat) = 9999 + 1 from rfl, run_equalIn_struct w 9999 35 _ _ hS hp]
  simp only [Program.fieldsOf, Try.underlying35]
  go_simp
  by_cases h1 : a = c <;> by_cases h2 : b = d <;> simp [h1, h2]
set_option maxHeartbeats 1600000 in
theorem ref6Same (m n : Msg) (A B : Option Addr) (ca cb : Nat) (w : World) (hA : PairsAt w A m.table) (hB : PairsAt w B n.table) (hl : m.table.length ≤ 9223372036854775807) (hn : n.table.length ≤ 9223372036854775807) :
    Calls Try.prog 17 #[msgV m A ca, msgV n B cb] w fun e w' => e = .returned (.bool (decide (m = n))) ∧ Ok w w' := by
  have hok := Ok.refl w
  have hE := eqSpan
  have hT := eqStamp
  cases m with
  | mk kind frm lo hi held hops good ref slo shi pulse time num table =>
  cases n with
  | mk kind' frm' lo' hi' held' hops' good' ref' slo' shi' pulse' time' num' table' =>
  simp only at hA hB hl hn
  have KT := Lib.hid fun W (hA : PairsAt W A table) (hB : PairsAt W B table') => ref6Tables A B table table' ca cb W hA hB hl hn
  unfold msgV
  simp only
  by_cases h : kind = kind' ∧ frm = frm' ∧ lo = lo' ∧ hi = hi' ∧ held = held' ∧ hops = hops' ∧ good = good' ∧ ref = ref' ∧ slo = slo' ∧ shi = shi' ∧ pulse = pulse' ∧ time = time' ∧ num = num'
  · obtain ⟨rfl, rfl, rfl, rfl, rfl, rfl, rfl, rfl, rfl, rfl, rfl, rfl, rfl⟩ := h
    rw [show decide ((⟨kind, frm, lo, hi, held, hops, good, ref, slo, shi, pulse, time, num, table⟩ : Msg) = ⟨kind, frm, lo, hi, held, hops, good, ref, slo, shi, pulse, time, num, table'⟩) = decide (table = table') by simp]
    have HA := Lib.hid hA
    have HB := Lib.hid hB
    clear hA hB
    go_enter Try.func17, Try.ntmps17
    dsimp only [List.append]
    go_wp2_with ((go_at_call 24; (with_reducible refine (KT.out _ ((HA.out.alloc _).alloc _) ((HB.out.alloc _).alloc _)).mono ?_); rintro e w5 ⟨rfl, hb1⟩; replace hok := ((hok.alloc _).alloc _).trans hb1; clear hb1))
    go_ret
    exact ⟨rfl, hok⟩
  · rw [decide_eq_false (fun g => h (by cases g; simp))]
    clear hA hB KT
    go_enter Try.func17, Try.ntmps17
    dsimp only [List.append]
    go_wp2_with fail
    all_goals
      first
        | (go_ret; exact ⟨rfl, (hok.alloc _).alloc _⟩)
        | exact absurd ⟨‹kind = kind'›, ‹frm = frm'›, (‹lo = lo' ∧ hi = hi'›).1, (‹lo = lo' ∧ hi = hi'›).2, ‹held = held'›, ‹hops = hops'›, ‹good = good'›, ‹ref = ref'›, (‹slo = slo' ∧ shi = shi'›).1, (‹slo = slo' ∧ shi = shi'›).2, ‹pulse = pulse'›, (‹time = time' ∧ num = num'›).1, (‹time = time' ∧ num = num'›).2⟩ h
end Go.Proofs.Ytgkcmiaagbgajaa
