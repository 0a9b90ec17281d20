/- Words of my own: a block of one's own that holds a row of integers (a struct), whole: read, and kept. -/
import Derived.Test.YtgfnfjkajahoaaaW04
namespace Go.Proofs.Ytgfnfjkajahoaaa
open Go.RowKit Go.WideShapes Go.ChangeShapes Go.Joins Go.Deep
/-- The block g holds the values cs, whole. -/
structure Own (w : World) (g : Nat) (cs : Array Value) : Prop where
  blk : ∃ t, w.heap[g]? = some (.cells cs t (0, 0))
namespace Own
theorem new (w : World) (cs : Array Value) (t : TypeId) {g : Nat} (hg : g = w.heap.size) : Own (w.alloc (.cells cs t)) g cs := ⟨t, by subst hg; exact (MapKept.heap_alloc w _).1⟩
theorem lt {w : World} {g : Nat} {cs : Array Value} (h : Own w g cs) : g < w.heap.size := by
  obtain ⟨t, h⟩ := h
  exact (Array.getElem?_eq_some_iff.1 h).1
theorem next {w w1 : World} {g : Nat} {cs : Array Value} (h : Own w g cs) (k : Ok w w1) : Own w1 g cs := by
  have hl := h.lt
  obtain ⟨t, h⟩ := h
  exact ⟨t, (k.block g hl).trans h⟩
theorem alloc {w : World} {g : Nat} {cs : Array Value} (h : Own w g cs) (o : Obj) : Own (w.alloc o) g cs := h.next ((Ok.refl w).alloc o)
theorem drew {w : World} {g : Nat} {cs : Array Value} (h : Own w g cs) : Own w.drew g cs := ⟨h.blk⟩
theorem drewN {w : World} {g : Nat} {cs : Array Value} (h : Own w g cs) (n : Nat) : Own (w.drewN n) g cs := h.next ((Ok.refl w).drewN n)
theorem cell {w : World} {g : Nat} {cs : Array Value} (h : Own w g cs) (k : Nat) {v : Value} (hv : cs[k]? = some v) : w.cell? ⟨g, k, none⟩ = some v := by
  obtain ⟨t, h⟩ := h
  simp only [World.cell?, h]; exact hv
theorem frozen {w : World} {g : Nat} {cs : Array Value} (h : Own w g cs) (k : Nat) : w.frozen? ⟨g, k, none⟩ = false := by
  obtain ⟨t, h⟩ := h
  simp only [World.frozen?, h]; simp
theorem setOther {w : World} {g : Nat} {cs : Array Value} (h : Own w g cs) {a : Addr} (ha : g ≠ a.block) (v : Value) : Own (w.setCell a v) g cs := by
  obtain ⟨t, h⟩ := h
  exact ⟨t, (Below.heap_setCell w a v g ha).trans h⟩
theorem set {w : World} {g : Nat} {cs : Array Value} (h : Own w g cs) (k : Nat) (v : Value) : Own (w.setCell ⟨g, k, none⟩ v) g (cs.set! k v) := by
  obtain ⟨t, h⟩ := h
  refine ⟨t, ?_⟩
  simp only [World.setCell, Array.getElem?_modify, h, if_true, Option.map_some]
  rfl
end Own
end Go.Proofs.Ytgfnfjkajahoaaa
