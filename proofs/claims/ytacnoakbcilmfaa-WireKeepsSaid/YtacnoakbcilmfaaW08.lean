/- Words of my own: a slice of slices of bytes. -/
import Derived.Test.YtacnoakbcilmfaaW07
namespace Go.Proofs.Ytacnoakbcilmfaa
open Go.RowKit Go.WideShapes Go.ChangeShapes
/-- The slice with address A reads, in world w, as the pieces ls. -/
def PiecesAt (w : World) (A : Option Addr) (ls : List (List Nat)) : Prop :=
  ∀ k (h : k < ls.length), ∃ b off Ak ck, A = some ⟨b, off, none⟩ ∧ b < w.heap.size ∧ w.cell? ⟨b, off + k, none⟩ = some (.slice Ak ls[k].length ck) ∧ BytesAt w Ak ls[k]
namespace PiecesAt
theorem empty (w : World) (A : Option Addr) : PiecesAt w A [] := fun k h => absurd h (Nat.not_lt_zero k)
theorem below {w w' : World} {A : Option Addr} {ls : List (List Nat)} (h : PiecesAt w A ls) (hb : Ok w w') : PiecesAt w' A ls := fun k hk => by
  obtain ⟨b, off, Ak, ck, hA, hlt, hc, hp⟩ := h k hk
  exact ⟨b, off, Ak, ck, hA, Nat.lt_of_lt_of_le hlt hb.size, (hb.cell (p := ⟨b, off + k, none⟩) hlt).trans hc, hp.below hb⟩
theorem alloc {w : World} {A : Option Addr} {l : List (List Nat)} (h : PiecesAt w A l) (o : Obj) : PiecesAt (w.alloc o) A l := h.below ((Ok.refl w).alloc o)
theorem drew {w : World} {A : Option Addr} {l : List (List Nat)} (h : PiecesAt w A l) : PiecesAt w.drew A l := h.below (Ok.refl w).drew
/-- Pieces written down at a call: a new block. -/
theorem new1 {w : World} {A1 : Option Addr} {l1 : List Nat} (h1 : BytesAt w A1 l1) (c1 : Nat) (t : TypeId) {b : Nat} (hb : b = w.heap.size) : PiecesAt (w.alloc (.cells #[.slice A1 l1.length c1] t)) (some ⟨b, 0, none⟩) [l1] := by
  subst hb
  have e2 : (w.alloc (.cells #[.slice A1 l1.length c1] t)).heap[w.heap.size]? = some (.cells #[.slice A1 l1.length c1] t) := (MapKept.heap_alloc w _).1
  intro k hk
  match k, hk with
  | 0, _ => exact ⟨_, _, A1, c1, rfl, by simp, by simp only [World.cell?, e2]; rfl, h1.alloc _⟩
  | k + 1, hk => exact absurd hk (by simp only [List.length_cons, List.length_nil]; omega)
theorem new2 {w : World} {A1 A2 : Option Addr} {l1 l2 : List Nat} (h1 : BytesAt w A1 l1) (h2 : BytesAt w A2 l2) (c1 c2 : Nat) (t : TypeId) {b : Nat} (hb : b = w.heap.size) : PiecesAt (w.alloc (.cells #[.slice A1 l1.length c1, .slice A2 l2.length c2] t)) (some ⟨b, 0, none⟩) [l1, l2] := by
  subst hb
  have e2 : (w.alloc (.cells #[.slice A1 l1.length c1, .slice A2 l2.length c2] t)).heap[w.heap.size]? = some (.cells #[.slice A1 l1.length c1, .slice A2 l2.length c2] t) := (MapKept.heap_alloc w _).1
  intro k hk
  match k, hk with
  | 0, _ => exact ⟨_, _, A1, c1, rfl, by simp, by simp only [World.cell?, e2]; rfl, h1.alloc _⟩
  | 1, _ => exact ⟨_, _, A2, c2, rfl, by simp, by simp only [World.cell?, e2]; rfl, h2.alloc _⟩
  | k + 2, hk => exact absurd hk (by simp only [List.length_cons, List.length_nil]; omega)
theorem new3 {w : World} {A1 A2 A3 : Option Addr} {l1 l2 l3 : List Nat} (h1 : BytesAt w A1 l1) (h2 : BytesAt w A2 l2) (h3 : BytesAt w A3 l3) (c1 c2 c3 : Nat) (t : TypeId) {b : Nat} (hb : b = w.heap.size) : PiecesAt (w.alloc (.cells #[.slice A1 l1.length c1, .slice A2 l2.length c2, .slice A3 l3.length c3] t)) (some ⟨b, 0, none⟩) [l1, l2, l3] := by
  subst hb
  have e2 : (w.alloc (.cells #[.slice A1 l1.length c1, .slice A2 l2.length c2, .slice A3 l3.length c3] t)).heap[w.heap.size]? = some (.cells #[.slice A1 l1.length c1, .slice A2 l2.length c2, .slice A3 l3.length c3] t) := (MapKept.heap_alloc w _).1
  intro k hk
  match k, hk with
  | 0, _ => exact ⟨_, _, A1, c1, rfl, by simp, by simp only [World.cell?, e2]; rfl, h1.alloc _⟩
  | 1, _ => exact ⟨_, _, A2, c2, rfl, by simp, by simp only [World.cell?, e2]; rfl, h2.alloc _⟩
  | 2, _ => exact ⟨_, _, A3, c3, rfl, by simp, by simp only [World.cell?, e2]; rfl, h3.alloc _⟩
  | k + 3, hk => exact absurd hk (by simp only [List.length_cons, List.length_nil]; omega)
end PiecesAt
end Go.Proofs.Ytacnoakbcilmfaa
