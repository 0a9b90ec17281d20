/- Contracts of layer 21: the document's Same. -/
import Derived.Test.YtlclfonlidcfiaaDoorC21b
namespace Go.Proofs.YtlclfonlidcfiaaDoor
open Go.RowKit
set_option linter.unusedVariables false
set_option maxRecDepth 100000
theorem eqSpan21 (a b c d : Int) (w : World) : (Op.equalIn 10000 25 (.agg #[.int .i64 a, .int .i64 b]) (.agg #[.int .i64 c, .int .i64 d])).run Tryd.prog w = .ok (a == c && b == d) w := by
  have u3 := Tryd.underlying3
  have ag := Tryd.isAgg3
  have z3 := Tryd.sizeOf3
  have hS : Tryd.prog.underlying 25 = some (.struct (Tryd.prog.fieldsOf 25)) := by kernel_rfl
  have hp : Tryd.prog.stoodInHeld 25 = false := by kernel_rfl
  rw [show (10000 : Nat) = 9999 + 1 from rfl, run_equalIn_struct w 9999 25 _ _ hS hp]
  simp only [Program.fieldsOf, Tryd.underlying25]
  go_simp
  by_cases h1 : a = c <;> by_cases h2 : b = d <;> simp [h1, h2]
set_option maxHeartbeats 1600000 in
theorem ref21Same (s u : Sta) (A C : Option Addr) (cap cup : Nat) (w : World) (hA : PairsAt w A s.table) (hC : PairsAt w C u.table) (hl : s.table.length ≤ 9223372036854775807) (hn : u.table.length ≤ 9223372036854775807) :
    Calls Tryd.prog 14 #[staV s A cap, staV u C cup] w fun e w' => e = .returned (.bool (decide (s = u))) ∧ Ok w w' := by
  have hok := Ok.refl w
  have hE := eqSpan21
  have hT := eqStamp20
  obtain ⟨lo, hi, time, set, held, hops, good, table, st, sn, life⟩ := s
  obtain ⟨lo', hi', time', set', held', hops', good', table', st', sn', life'⟩ := u
  simp only at hA hC hl hn
  have KT := Lib.hid fun W (hA : PairsAt W A table) (hB : PairsAt W C table') => ref6Tables A C table table' cap cup W hA hB hl hn
  unfold staV
  simp only
  by_cases h : lo = lo' ∧ hi = hi' ∧ time = time' ∧ set = set' ∧ held = held' ∧ hops = hops' ∧ good = good' ∧ st = st' ∧ sn = sn' ∧ life = life'
  · obtain ⟨rfl, rfl, rfl, rfl, rfl, rfl, rfl, rfl, rfl, rfl⟩ := h
    rw [show decide ((⟨lo, hi, time, set, held, hops, good, table, st, sn, life⟩ : Sta) = ⟨lo, hi, time, set, held, hops, good, table', st, sn, life⟩) = decide (table = table') by simp]
    have HA := Lib.hid hA
    have HC := Lib.hid hC
    clear hA hC
    go_enter Tryd.func14, Tryd.ntmps14
    go_wp2_with ((go_at_call 27; (with_reducible refine (KT.out _ ((HA.out.alloc _).alloc _) ((HC.out.alloc _).alloc _)).mono ?_); rintro e w5 ⟨rfl, hb1⟩; replace hok := ((hok.alloc _).alloc _).trans hb1; clear hb1))
    go_ret
    exact ⟨rfl, hok⟩
  · rw [decide_eq_false (fun g => h (by cases g; simp))]
    clear hA hC KT
    go_enter Tryd.func14, Tryd.ntmps14
    go_wp2_with fail
    all_goals
      first
        | (go_ret; exact ⟨rfl, (hok.alloc _).alloc _⟩)
        | exact absurd ⟨(‹lo = lo' ∧ hi = hi'›).1, (‹lo = lo' ∧ hi = hi'›).2, ‹time = time'›, ‹set = set'›, ‹held = held'›, ‹hops = hops'›, ‹good = good'›, (‹st = st' ∧ sn = sn'›).1, (‹st = st' ∧ sn = sn'›).2, ‹life = life'›⟩ h
end Go.Proofs.YtlclfonlidcfiaaDoor
