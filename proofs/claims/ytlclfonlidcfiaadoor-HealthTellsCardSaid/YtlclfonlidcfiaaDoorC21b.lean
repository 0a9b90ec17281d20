/- Contracts of layer 21: a state that is stored whole; the document's Jumps, Stamped, Listen and Same; the law's long. -/
import Derived.Test.YtlclfonlidcfiaaDoorC21a
import Derived.Test.YtlclfonlidcfiaaDoorC06e
import Derived.Test.YtlclfonlidcfiaaDoorMA
import Derived.Test.YtlclfonlidcfiaaDoorWB
import Derived.Deep.RegionLaw
import Derived.Deep.CutRange
namespace Go.Proofs.YtlclfonlidcfiaaDoor
open Go.RowKit
set_option linter.unusedVariables false
set_option maxRecDepth 100000
attribute [local go_sem ↓] Go.wp_at_zero Go.wp_at_succ
/-- A state is stored over another. -/
theorem own_set11 {w : World} {g : Nat} {u : Sta} {B : Option Addr} {d : Nat} (h : Own w g (staCells u B d)) (s : Sta) (A : Option Addr) (cap : Nat) : Own (((((((((((w.setCell ⟨g, 0, none⟩ (.int .i64 s.lo)).setCell ⟨g, 1, none⟩ (.int .i64 s.hi)).setCell ⟨g, 2, none⟩ (.int .i64 s.time)).setCell ⟨g, 3, none⟩ (.bool s.set)).setCell ⟨g, 4, none⟩ (.int .i64 s.held)).setCell ⟨g, 5, none⟩ (.int .i64 s.hops)).setCell ⟨g, 6, none⟩ (.bool s.good)).setCell ⟨g, 7, none⟩ (.slice A s.table.length cap)).setCell ⟨g, 8, none⟩ (.int .i64 s.st)).setCell ⟨g, 9, none⟩ (.int .i64 s.sn)).setCell ⟨g, 10, none⟩ (.int .i64 s.life)) g (staCells s A cap) := by
  have e : ((((((((((((staCells u B d).set! 0 (.int .i64 s.lo)).set! 1 (.int .i64 s.hi)).set! 2 (.int .i64 s.time)).set! 3 (.bool s.set)).set! 4 (.int .i64 s.held)).set! 5 (.int .i64 s.hops)).set! 6 (.bool s.good)).set! 7 (.slice A s.table.length cap)).set! 8 (.int .i64 s.st)).set! 9 (.int .i64 s.sn)).set! 10 (.int .i64 s.life)) = staCells s A cap := by simp [staCells]
  rw [← e]
  exact (((((((((((h.set 0 (.int .i64 s.lo)).set 1 (.int .i64 s.hi)).set 2 (.int .i64 s.time)).set 3 (.bool s.set)).set 4 (.int .i64 s.held)).set 5 (.int .i64 s.hops)).set 6 (.bool s.good)).set 7 (.slice A s.table.length cap)).set 8 (.int .i64 s.st)).set 9 (.int .i64 s.sn)).set 10 (.int .i64 s.life))
theorem ok_set11 {w0 w : World} {g : Nat} (h : Ok w0 w) (hg : w0.heap.size ≤ g) (s : Sta) (A : Option Addr) (cap : Nat) : Ok w0 (((((((((((w.setCell ⟨g, 0, none⟩ (.int .i64 s.lo)).setCell ⟨g, 1, none⟩ (.int .i64 s.hi)).setCell ⟨g, 2, none⟩ (.int .i64 s.time)).setCell ⟨g, 3, none⟩ (.bool s.set)).setCell ⟨g, 4, none⟩ (.int .i64 s.held)).setCell ⟨g, 5, none⟩ (.int .i64 s.hops)).setCell ⟨g, 6, none⟩ (.bool s.good)).setCell ⟨g, 7, none⟩ (.slice A s.table.length cap)).setCell ⟨g, 8, none⟩ (.int .i64 s.st)).setCell ⟨g, 9, none⟩ (.int .i64 s.sn)).setCell ⟨g, 10, none⟩ (.int .i64 s.life)) :=
  (((((((((((h.setCell (p := ⟨g, 0, none⟩) hg (.int .i64 s.lo)).setCell (p := ⟨g, 1, none⟩) hg (.int .i64 s.hi)).setCell (p := ⟨g, 2, none⟩) hg (.int .i64 s.time)).setCell (p := ⟨g, 3, none⟩) hg (.bool s.set)).setCell (p := ⟨g, 4, none⟩) hg (.int .i64 s.held)).setCell (p := ⟨g, 5, none⟩) hg (.int .i64 s.hops)).setCell (p := ⟨g, 6, none⟩) hg (.bool s.good)).setCell (p := ⟨g, 7, none⟩) hg (.slice A s.table.length cap)).setCell (p := ⟨g, 8, none⟩) hg (.int .i64 s.st)).setCell (p := ⟨g, 9, none⟩) hg (.int .i64 s.sn)).setCell (p := ⟨g, 10, none⟩) hg (.int .i64 s.life))
/-- No state. -/
def zeroSta : Sta := ⟨0, 0, 0, false, 0, 0, false, [], 0, 0, 0⟩
theorem frozenSta {W : World} {g : Nat} {cs : Array Value} (h : Own W g cs) : W.frozen? ⟨g, 0, none⟩ = false ∧ W.frozen? ⟨g, 1, none⟩ = false ∧ W.frozen? ⟨g, 2, none⟩ = false ∧ W.frozen? ⟨g, 3, none⟩ = false ∧ W.frozen? ⟨g, 4, none⟩ = false ∧ W.frozen? ⟨g, 5, none⟩ = false ∧ W.frozen? ⟨g, 6, none⟩ = false ∧ W.frozen? ⟨g, 7, none⟩ = false ∧ W.frozen? ⟨g, 8, none⟩ = false ∧ W.frozen? ⟨g, 9, none⟩ = false ∧ W.frozen? ⟨g, 10, none⟩ = false := ⟨h.frozen 0, h.frozen 1, h.frozen 2, h.frozen 3, h.frozen 4, h.frozen 5, h.frozen 6, h.frozen 7, h.frozen 8, h.frozen 9, h.frozen 10⟩
theorem law21Long (s u : Sta) (A C : Option Addr) (cap cup : Nat) (w : World) : Calls Tryd.prog 5 #[staV s A cap, staV u C cup] w fun e w' => e = .returned (.bool (decide (256 < s.table.length ∨ 256 < u.table.length))) ∧ Ok w w' := by
  have hok := Ok.refl w
  unfold staV
  by_cases h : 256 < s.table.length
  · rw [decide_eq_true (Or.inl h)]
    have d1 : decide ((256 : Int) < (s.table.length : Int)) = true := decide_eq_true (by omega)
    clear h
    go_enter Tryd.func5, Tryd.ntmps5
    go_wp2
    go_ret
    exact ⟨rfl, (hok.alloc _).alloc _⟩
  · by_cases h2 : 256 < u.table.length
    · rw [decide_eq_true (Or.inr h2)]
      have d1 : decide ((256 : Int) < (s.table.length : Int)) = false := decide_eq_false (by omega)
      have d2 : decide ((256 : Int) < (u.table.length : Int)) = true := decide_eq_true (by omega)
      clear h h2
      go_enter Tryd.func5, Tryd.ntmps5
      go_wp2
      go_ret
      exact ⟨rfl, (hok.alloc _).alloc _⟩
    · rw [decide_eq_false (fun g => g.elim h h2)]
      have d1 : decide ((256 : Int) < (s.table.length : Int)) = false := decide_eq_false (by omega)
      have d2 : decide ((256 : Int) < (u.table.length : Int)) = false := decide_eq_false (by omega)
      clear h h2
      go_enter Tryd.func5, Tryd.ntmps5
      go_wp2
      go_ret
      exact ⟨rfl, (hok.alloc _).alloc _⟩
end Go.Proofs.YtlclfonlidcfiaaDoor
