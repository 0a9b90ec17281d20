/- Words of my own: a world behind a call that has turned nothing that was there. -/
import Derived.Test.YtgfnfjkajahoaaaW01
import Derived.Deep.Draws
namespace Go.Proofs.Ytgfnfjkajahoaaa
open Go.RowKit

/-- What was there in w is in w' as it was; w' may hold more. -/
def Ok (w w' : World) : Prop := Below w.heap.size w w'
namespace Ok
theorem refl (w : World) : Ok w w := Below.refl _ _
theorem below {w w' : World} (h : Ok w w') : Below w.heap.size w w' := h
theorem size {w w' : World} (h : Ok w w') : w.heap.size ≤ w'.heap.size := Below.size h
theorem trans {a b c : World} (h : Ok a b) (k : Ok b c) : Ok a c := Below.trans h (Below.mono k h.size)
theorem alloc {a b : World} (h : Ok a b) (o : Obj) : Ok a (b.alloc o) := Below.alloc h h.size o
theorem drewN {a b : World} (h : Ok a b) (n : Nat) : Ok a (b.drewN n) := ⟨h.os, h.tape, h.output, h.size, h.block⟩
theorem drew {a b : World} (h : Ok a b) : Ok a b.drew := Below.drew h
theorem setCell {a b : World} (h : Ok a b) {p : Addr} (hp : a.heap.size ≤ p.block) (u : Value) : Ok a (b.setCell p u) := Below.setCell h hp u
theorem ints {a b : World} {A : Option Addr} {l : List Int} (h : Ok a b) (hi : IntsAt a A l) : IntsAt b A l := hi.below h
theorem cell {a b : World} (h : Ok a b) {p : Addr} (hp : p.block < a.heap.size) : b.cell? p = a.cell? p := Below.cell h hp
end Ok
end Go.Proofs.Ytgfnfjkajahoaaa
