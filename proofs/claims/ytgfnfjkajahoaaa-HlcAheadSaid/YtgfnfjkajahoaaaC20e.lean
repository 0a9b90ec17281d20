/- Words of layer 20: blocks of one's own that hold two integers each, carried together. -/
import Derived.Test.YtgfnfjkajahoaaaC20d
namespace Go.Proofs.Ytgfnfjkajahoaaa
open Go.RowKit
/-- Each of these blocks holds its two integers. -/
def Held (L : List (Nat × Int × Int)) (W : World) : Prop := ∀ x ∈ L, Slab W x.1 x.2.1 x.2.2
namespace Held
theorem next {L : List (Nat × Int × Int)} {W W' : World} (h : Held L W) (k : Ok W W') : Held L W' := fun x hx => (h x hx).next k
theorem drew {L : List (Nat × Int × Int)} {W : World} (h : Held L W) : Held L W.drew := h.next (Ok.refl W).drew
theorem get {L : List (Nat × Int × Int)} {W : World} (h : Held L W) {g : Nat} {x y : Int} (hm : (g, x, y) ∈ L) : Slab W g x y := h (g, x, y) hm
theorem push {L : List (Nat × Int × Int)} {W : World} (h : Held L W) (x y : Int) (t : TypeId) {g : Nat} (hg : g = W.heap.size) : Held ((g, x, y) :: L) (W.alloc (.cells #[.int .i64 x, .int .i64 y] t)) := fun z hz => by
  rcases List.mem_cons.1 hz with rfl | hz
  · exact Slab.new W x y t hg
  · exact (h z hz).alloc _
theorem add {L : List (Nat × Int × Int)} {W : World} (h : Held L W) {g : Nat} {x y : Int} (hs : Slab W g x y) : Held ((g, x, y) :: L) W := fun z hz => by
  rcases List.mem_cons.1 hz with rfl | hz
  · exact hs
  · exact h z hz
/-- A new block is none of these. -/
theorem other {L : List (Nat × Int × Int)} {W : World} (h : Held L W) {g : Nat} (hg : W.heap.size ≤ g) : ∀ x ∈ L, x.1 ≠ g := fun x hx e => by
  have := (h x hx).lt
  omega
theorem setOther {L : List (Nat × Int × Int)} {W : World} (h : Held L W) {p : Addr} (hp : ∀ x ∈ L, x.1 ≠ p.block) (v : Value) : Held L (W.setCell p v) := fun x hx => (h x hx).setOther (hp x hx) v
theorem setTwo {L : List (Nat × Int × Int)} {W : World} (h : Held L W) {g : Nat} {x y : Int} (hp : ∀ z ∈ L, z.1 ≠ g) (hs : Slab W g x y) (u v : Int) :
    Held ((g, u, v) :: L) ((W.setCell ⟨g, 0, none⟩ (.int .i64 u)).setCell ⟨g, 1, none⟩ (.int .i64 v)) :=
  ((h.setOther (p := ⟨g, 0, none⟩) hp _).setOther (p := ⟨g, 1, none⟩) hp _).add (hs.set u v)
theorem two {W : World} (t n a b : Int) (T U : TypeId) {g h : Nat} (hg : g = W.heap.size) (hh : h = W.heap.size + 1) : Held [(h, a, b), (g, t, n)] ((W.alloc (.cells #[.int .i64 t, .int .i64 n] T)).alloc (.cells #[.int .i64 a, .int .i64 b] U)) := by
  have h0 : Held [] W := fun _ h => by cases h
  exact (h0.push t n T hg).push a b U (by simpa using hh)
end Held
theorem Ok.two {w W : World} (h : Ok w W) {g : Nat} (hg : w.heap.size ≤ g) (u v : Int) : Ok w ((W.setCell ⟨g, 0, none⟩ (.int .i64 u)).setCell ⟨g, 1, none⟩ (.int .i64 v)) := (h.setCell (p := ⟨g, 0, none⟩) hg _).setCell (p := ⟨g, 1, none⟩) hg _
end Go.Proofs.Ytgfnfjkajahoaaa
