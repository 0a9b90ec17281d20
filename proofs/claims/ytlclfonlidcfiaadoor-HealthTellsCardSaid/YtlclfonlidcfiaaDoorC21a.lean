/- Contracts of layer 21: a state in a block; the document's Of, Far and Jumps. -/
import Derived.Test.YtlclfonlidcfiaaDoorC04e
import Derived.Test.YtlclfonlidcfiaaDoorC03a
import Derived.Test.YtlclfonlidcfiaaDoorWB
import Derived.Test.YtlclfonlidcfiaaDoorW40
import Derived.Test.YtlclfonlidcfiaaDoorC20d
namespace Go.Proofs.YtlclfonlidcfiaaDoor
open Go.RowKit
set_option linter.unusedVariables false
set_option maxRecDepth 100000
attribute [local go_sem ↓] Go.wp_at_zero Go.wp_at_succ
/-- The cells of a state in a block. -/
theorem Own.sta {W : World} {g : Nat} {s : Sta} {A : Option Addr} {cap : Nat} (h : Own W g (staCells s A cap)) :
    W.cell? ⟨g, 0, none⟩ = some (.int .i64 s.lo) ∧ W.cell? ⟨g, 1, none⟩ = some (.int .i64 s.hi) ∧ W.cell? ⟨g, 2, none⟩ = some (.int .i64 s.time) ∧ W.cell? ⟨g, 3, none⟩ = some (.bool s.set) ∧ W.cell? ⟨g, 4, none⟩ = some (.int .i64 s.held) ∧ W.cell? ⟨g, 5, none⟩ = some (.int .i64 s.hops) ∧ W.cell? ⟨g, 6, none⟩ = some (.bool s.good) ∧ W.cell? ⟨g, 7, none⟩ = some (.slice A s.table.length cap) ∧ W.cell? ⟨g, 8, none⟩ = some (.int .i64 s.st) ∧ W.cell? ⟨g, 9, none⟩ = some (.int .i64 s.sn) ∧ W.cell? ⟨g, 10, none⟩ = some (.int .i64 s.life) :=
  ⟨h.cell 0 rfl, h.cell 1 rfl, h.cell 2 rfl, h.cell 3 rfl, h.cell 4 rfl, h.cell 5 rfl, h.cell 6 rfl, h.cell 7 rfl, h.cell 8 rfl, h.cell 9 rfl, h.cell 10 rfl⟩
theorem Own.as {W : World} {g : Nat} {cs ds : Array Value} (h : Own W g cs) (e : cs = ds) : Own W g ds := e ▸ h
theorem ref21Of (p : Par) (s : Sta) (A : Option Addr) (cap : Nat) (w : World) : Calls Tryd.prog 6 #[parV p, staV s A cap] w fun e w' => e = .returned (.int .i64 (Health.of p s)) ∧ Ok w w' := by
  have hok := Ok.refl w
  obtain ⟨lo, hi, time, set, held, hops, good, table, st, sn, lf⟩ := s
  unfold staV Health.of
  simp only
  cases good
  · rw [if_pos (Or.inl rfl)]
    go_enter Tryd.func6, Tryd.ntmps6
    go_wp2
    go_ret
    exact ⟨rfl, (hok.alloc _).alloc _⟩
  cases set
  · rw [if_pos (Or.inr (Or.inl rfl))]
    go_enter Tryd.func6, Tryd.ntmps6
    go_wp2
    go_ret
    exact ⟨rfl, (hok.alloc _).alloc _⟩
  by_cases h : p.d < hops
  · rw [if_pos (Or.inr (Or.inr h))]
    go_enter Tryd.func6, Tryd.ntmps6
    go_wp2
    go_ret
    exact ⟨rfl, (hok.alloc _).alloc _⟩
  rw [if_neg (by simp only [reduceCtorEq, false_or]; exact h)]
  by_cases h2 : p.hold < held
  · rw [if_pos h2]
    go_enter Tryd.func6, Tryd.ntmps6
    go_wp2
    go_ret
    exact ⟨rfl, (hok.alloc _).alloc _⟩
  · rw [if_neg h2]
    go_enter Tryd.func6, Tryd.ntmps6
    go_wp2
    go_ret
    exact ⟨rfl, (hok.alloc _).alloc _⟩
end Go.Proofs.YtlclfonlidcfiaaDoor
