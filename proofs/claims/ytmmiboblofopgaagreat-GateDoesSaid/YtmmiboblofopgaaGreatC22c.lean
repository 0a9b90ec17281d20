/- Contracts of layer 22: whose message it is; how two stand. -/
import Derived.Test.YtmmiboblofopgaaGreatB16
import Derived.Test.YtmmiboblofopgaaGreatB03
import Derived.Test.YtmmiboblofopgaaGreatB00
import Derived.Test.YtmmiboblofopgaaGreatMA
import Derived.Test.YtmmiboblofopgaaGreatB22
import Derived.Lib.Small
import Derived.Sort.Grow
namespace Go.Proofs.YtmmiboblofopgaaGreat
open Go.RowKit
set_option linter.unusedVariables false
set_option maxRecDepth 100000
attribute [local go_sem ↓] Go.wp_at_zero Go.wp_at_succ
theorem gateOthers (p : Par) (me : Int) (m : Msg) (age : Int) (A : Option Addr) (cap : Nat) (w : World) : Calls Tryz.prog 33 #[parV p, .int .i64 me, msgV m A cap] w fun e w' => e = .returned (.bool (Gate.other p me ⟨m, age⟩)) ∧ Ok w w' := by
  have hok := Ok.refl w
  obtain ⟨kind, frm, lo, hi, held, hops, good, ref, slo, shi, pulse, time, num, table⟩ := m
  unfold msgV Gate.other
  simp only
  by_cases h0 : kind = 1
  rotate_left
  · rw [decide_eq_false (fun h => h0 h.1)]
    go_enter Tryz.func33, Tryz.ntmps33
    go_wp2
    go_ret
    exact ⟨rfl, (hok.alloc _).alloc _⟩
  by_cases h1 : 0 ≤ frm
  rotate_left
  · rw [decide_eq_false (fun h => h1 h.2.1)]
    go_enter Tryz.func33, Tryz.ntmps33
    go_wp2
    go_ret
    exact ⟨rfl, (hok.alloc _).alloc _⟩
  by_cases h2 : frm < p.n
  rotate_left
  · rw [decide_eq_false (fun h => h2 h.2.2.1)]
    go_enter Tryz.func33, Tryz.ntmps33
    go_wp2
    go_ret
    exact ⟨rfl, (hok.alloc _).alloc _⟩
  by_cases h3 : frm < 16
  rotate_left
  · rw [decide_eq_false (fun h => h3 h.2.2.2.1)]
    go_enter Tryz.func33, Tryz.ntmps33
    go_wp2
    go_ret
    exact ⟨rfl, (hok.alloc _).alloc _⟩
  by_cases h4 : ¬ frm = me
  rotate_left
  · rw [decide_eq_false (fun h => h4 h.2.2.2.2)]
    replace h4 : frm = me := by omega
    go_enter Tryz.func33, Tryz.ntmps33
    go_wp2
    go_ret
    exact ⟨rfl, (hok.alloc _).alloc _⟩
  rw [decide_eq_true ⟨h0, h1, h2, h3, h4⟩]
  have h5 : (frm != me) = true := by simpa using h4
  go_enter Tryz.func33, Tryz.ntmps33
  go_wp2
  go_ret
  exact ⟨rfl, (hok.alloc _).alloc _⟩
theorem cmpNaN22 (x : Int) (w : World) : Calls Tryz.prog 69 #[.int .i64 x] w fun e w' => e = .returned (.bool false) ∧ w = w' := by
  have h : (x != x) = false := by simp
  go_enter Tryz.func69, Tryz.ntmps69
  go_wp2
  go_ret
  exact ⟨rfl, rfl⟩
theorem cmpCompare22 (x y : Int) (w : World) : Calls Tryz.prog 37 #[.int .i64 x, .int .i64 y] w fun e w' => e = .returned (.int .i64 (Lib.compareInt x y)) ∧ w = w' := by
  rcases Int.lt_trichotomy x y with h | h | h
  · have e : Lib.compareInt x y = -1 := by unfold Lib.compareInt; rw [if_pos h]
    rw [e]; clear e
    go_enter Tryz.func37, Tryz.ntmps37
    go_wp2_with (go_at_call 69; refine (cmpNaN22 _ _).mono ?_; rintro e w' ⟨rfl, rfl⟩)
    go_ret
    exact ⟨rfl, rfl⟩
  · have e : Lib.compareInt x y = 0 := by unfold Lib.compareInt; rw [if_neg (by omega), if_neg (by omega)]
    rw [e]; clear e
    have h1 : ¬ x < y := by omega
    have h2 : ¬ y < x := by omega
    clear h
    go_enter Tryz.func37, Tryz.ntmps37
    go_wp2_with (go_at_call 69; refine (cmpNaN22 _ _).mono ?_; rintro e w' ⟨rfl, rfl⟩)
    go_ret
    exact ⟨rfl, rfl⟩
  · have e : Lib.compareInt x y = 1 := by unfold Lib.compareInt; rw [if_neg (by omega), if_pos h]
    rw [e]; clear e
    go_enter Tryz.func37, Tryz.ntmps37
    go_wp2_with (go_at_call 69; refine (cmpNaN22 _ _).mono ?_; rintro e w' ⟨rfl, rfl⟩)
    go_ret
    exact ⟨rfl, rfl⟩
theorem toldLess (x y : HA) (w : World) : Calls Tryz.prog 36 #[.agg (haL x).toArray, .agg (haL y).toArray] w fun e w' => e = .returned (.int .i64 (Lib.compareInt x.m.frm y.m.frm)) ∧ ∃ q os', w' = Sort.grow (w.drewN q) os' := by
  have hc := Lib.hid fun W => cmpCompare22 x.m.frm y.m.frm W
  obtain ⟨⟨kind, frm, lo, hi, held, hops, good, ref, slo, shi, pulse, time, num, table⟩, A, cap, age⟩ := x
  obtain ⟨⟨kind2, frm2, lo2, hi2, held2, hops2, good2, ref2, slo2, shi2, pulse2, time2, num2, table2⟩, A2, cap2, age2⟩ := y
  simp only [haL, msgCells, List.cons_append, List.nil_append] at hc ⊢
  generalize Lib.compareInt frm frm2 = r at hc ⊢
  go_enter Tryz.func36, Tryz.ntmps36
  go_wp2_with (go_at_call 37; refine (hc.out _).mono ?_; rintro e w' ⟨rfl, rfl⟩)
  go_ret
  exact ⟨rfl, 0, _, by rw [Sort.alloc_eq_grow, Sort.alloc_eq_grow, Sort.grow_grow]; rfl⟩
end Go.Proofs.YtmmiboblofopgaaGreat