/- Contracts of layer 6: the document's Tables and Same. -/
import Derived.Test.YtlclfonlidcfiaaDoorWA
import Derived.Test.YtlclfonlidcfiaaDoorRows
import Derived.Test.YtlclfonlidcfiaaDoorProg
import Derived.Deep.QuietTactic
import Derived.BigQuiet
import Derived.Deep.RegionHeld3
import Derived.Deep.DrawnRows
import Derived.Deep.CutRange
import Derived.Laws.StructEq
import Derived.Laws.Tables
namespace Go.Proofs.YtlclfonlidcfiaaDoor
open Go.RowKit
set_option maxRecDepth 100000
theorem eqLeap (a b c d : Int) (w : World) : (Op.equalIn 10000 77 (.agg #[.int .i64 a, .int .i64 b]) (.agg #[.int .i64 c, .int .i64 d])).run Tryd.prog w = .ok (a == c && b == d) w := by
  have u3 := Tryd.underlying3
  have ag := Tryd.isAgg3
  have z3 := Tryd.sizeOf3
  have hS : Tryd.prog.underlying 77 = some (.struct (Tryd.prog.fieldsOf 77)) := by kernel_rfl
  have hp : Tryd.prog.stoodInHeld 77 = false := by kernel_rfl
  rw [show (10000 : Nat) = 9999 + 1 from rfl, run_equalIn_struct w 9999 77 _ _ hS hp]
  simp only [Program.fieldsOf, Tryd.underlying77]
  go_simp
  by_cases h1 : a = c <;> by_cases h2 : b = d <;> simp [h1, h2]
set_option maxHeartbeats 1600000 in
theorem ref6Tables (A B : Option Addr) (l n : List (Int × Int)) (ca cb : Nat) (w : World) (hA : PairsAt w A l) (hB : PairsAt w B n) (hl : l.length ≤ 9223372036854775807) (_hn : n.length ≤ 9223372036854775807) :
    Calls Tryd.prog 27 #[.slice A l.length ca, .slice B n.length cb] w fun e w' => e = .returned (.bool (decide (l = n))) ∧ Ok w w' := by
  have hok := Ok.refl w
  by_cases hlen : l.length = n.length
  rotate_left
  · have hd : ((l.length : Int) == (n.length : Int)) = false := by rw [beq_eq_false_iff_ne]; omega
    rw [decide_eq_false (fun g => hlen (by rw [g]))]
    have hd2 : ((l.length : Int) != (n.length : Int)) = true := by rw [bne, hd]; rfl
    clear hlen
    go_enter Tryd.func27, Tryd.ntmps27
    go_wp2
    go_ret
    exact ⟨rfl, hok⟩
  obtain ⟨R, hR⟩ : ∃ R, decide (l = n) = R := ⟨_, rfl⟩
  rw [hR]
  have HR := Lib.hid hR
  have HL := Lib.hid hlen
  rw [← hlen] at _hn ⊢
  clear hlen hR
  go_enter Tryd.func27, Tryd.ntmps27
  go_wp2
  go_loopw [13] (fun i wx => ∃ k : Nat, k ≤ l.length ∧ i = .int .i64 k ∧ Hid (l.take k = n.take k) ∧ Ok w wx) (fun i _ => l.length - (intOf i).toNat)
  case atStart => exact ⟨0, Nat.zero_le _, rfl, Lib.hid rfl, hok⟩
  case round =>
    clear hok
    obtain ⟨k, hk, rfl, HT, hok⟩ := hrel
    by_cases hlt : k < l.length
    · have hlt2 : k < n.length := by rw [← HL.out]; exact hlt
      obtain ⟨b, off, eA, hbs, c1, c2⟩ := hA.below hok k hlt
      obtain ⟨b', off', eB, hbs', c1', c2'⟩ := hB.below hok k hlt2
      have HA := Lib.hid hA
      have HB := Lib.hid hB
      clear hA hB
      subst eA eB
      have hE := fun W => eqLeap l[k].1 l[k].2 n[k].1 n[k].2 W
      by_cases he : l[k] = n[k]
      · have ht : (l[k].1 == n[k].1 && l[k].2 == n[k].2) = true := by rw [he]; simp
        have HN := Lib.hid (show l.take (k + 1) = n.take (k + 1) by rw [List.take_succ_eq_append_getElem hlt, List.take_succ_eq_append_getElem hlt2, HT.out, he])
        rw [ht] at hE
        obtain ⟨x, ex⟩ : ∃ x, l[k].1 = x := ⟨_, rfl⟩
        obtain ⟨y, ey⟩ : ∃ x, l[k].2 = x := ⟨_, rfl⟩
        obtain ⟨x', ex'⟩ : ∃ x, n[k].1 = x := ⟨_, rfl⟩
        obtain ⟨y', ey'⟩ : ∃ x, n[k].2 = x := ⟨_, rfl⟩
        rw [ex, ey, ex', ey'] at hE
        rw [ex] at c1; rw [ey] at c2; rw [ex'] at c1'; rw [ey'] at c2'
        clear ht he ex ey ex' ey'
        go_wp2_with fail
        go_quiet (fail)
        go_wp2
        go_roundw
        case rel => exact ⟨k + 1, by omega, by go_num, HN, hok.drewN _⟩
        case measure => simp [intOf]; omega
      · have ht : (l[k].1 == n[k].1 && l[k].2 == n[k].2) = false := by
          rw [Bool.eq_false_iff]; intro g; simp only [Bool.and_eq_true, beq_iff_eq] at g; exact he (Prod.ext g.1 g.2)
        obtain rfl : R = false := by rw [← HR.out]; exact decide_eq_false (fun g => he (by simp only [g]))
        rw [ht] at hE
        obtain ⟨x, ex⟩ : ∃ x, l[k].1 = x := ⟨_, rfl⟩
        obtain ⟨y, ey⟩ : ∃ x, l[k].2 = x := ⟨_, rfl⟩
        obtain ⟨x', ex'⟩ : ∃ x, n[k].1 = x := ⟨_, rfl⟩
        obtain ⟨y', ey'⟩ : ∃ x, n[k].2 = x := ⟨_, rfl⟩
        rw [ex, ey, ex', ey'] at hE
        rw [ex] at c1; rw [ey] at c2; rw [ex'] at c1'; rw [ey'] at c2'
        clear ht he ex ey ex' ey'
        go_wp2_with fail
        go_quiet (fail)
        go_wp2
        go_ret
        exact ⟨rfl, hok.drewN _⟩
    · obtain rfl : k = l.length := by omega
      obtain rfl : R = true := by
        rw [← HR.out]
        have := HT.out
        rw [List.take_length, HL.out, List.take_length] at this
        exact decide_eq_true this
      clear hlt
      go_wp2
      go_ret
      exact ⟨rfl, hok⟩
end Go.Proofs.YtlclfonlidcfiaaDoor
