/- Contracts of layer 21: the document's Sane. -/
import Derived.Test.YtlclfonlidcfiaaDoorC21c
import Derived.Test.YtlclfonlidcfiaaDoorC18d
import Derived.Test.YtlclfonlidcfiaaDoorWC
import Derived.Deep.CutRange
import Derived.Deep.RegionLaw
namespace Go.Proofs.YtlclfonlidcfiaaDoor
open Go.RowKit
set_option linter.unusedVariables false
set_option maxRecDepth 100000
attribute [local go_sem ↓] Go.wp_at_zero Go.wp_at_succ
/-- A slice that reads as pairs and lies behind the first K blocks (if it lies anywhere). -/
def PairsOf (K : Nat) (w : World) (A : Option Addr) (l : List (Int × Int)) : Prop := PairsAt w A l ∧ ∀ a, A = some a → K ≤ a.block
namespace PairsOf
theorem empty (K : Nat) (w : World) : PairsOf K w none [] := ⟨PairsAt.empty _ _, fun _ h => by cases h⟩
theorem next {K : Nat} {w w' : World} {A : Option Addr} {l : List (Int × Int)} (h : PairsOf K w A l) (j : Ok w w') : PairsOf K w' A l := ⟨h.1.below j, h.2⟩
theorem set {K : Nat} {w : World} {A : Option Addr} {l : List (Int × Int)} (h : PairsOf K w A l) {p : Addr} (hp : p.block < K) (v : Value) : PairsOf K (w.setCell p v) A l := ⟨fun k hk => by
  obtain ⟨b, off, e, hlt, hc, hd⟩ := h.1 k hk
  have hb : b ≠ p.block := by have := h.2 _ e; exact Nat.ne_of_gt (Nat.lt_of_lt_of_le hp this)
  have hx := Below.heap_setCell w p v b hb
  refine ⟨b, off, e, by simpa using hlt, ?_, ?_⟩
  · rw [← hc]; simp only [World.cell?, hx]
  · rw [← hd]; simp only [World.cell?, hx], h.2⟩
theorem of_own {K : Nat} {w : World} {B : Nat} {e : TypeId} {v : Value} {l : List (Int × Int)} (h : w.ownsRow B e 2 v l.length (cellsOfPairs l)) (hK : K ≤ B) : ∃ A cap, v = .slice A l.length cap ∧ PairsOf K w A l := by
  obtain ⟨A, cap, rfl, hA⟩ := PairsAt.of_own h
  exact ⟨A, cap, rfl, hA, fun a ha => by subst ha; exact Nat.le_trans hK (h.lt a.block rfl).1⟩
theorem mono {K L : Nat} {w : World} {A : Option Addr} {l : List (Int × Int)} (h : PairsOf K w A l) (j : L ≤ K) : PairsOf L w A l := ⟨h.1, fun a ha => Nat.le_trans j (h.2 a ha)⟩
end PairsOf
/-- It answers this state; its table can be read, in a block behind those of w. -/
def StaEnd (w : World) (t : Sta) (e : Ending) (w' : World) : Prop := ∃ (A : Option Addr) (cap : Nat), e = .returned (staV t A cap) ∧ PairsOf w.heap.size w' A t.table ∧ Ok w w'
end Go.Proofs.YtlclfonlidcfiaaDoor
