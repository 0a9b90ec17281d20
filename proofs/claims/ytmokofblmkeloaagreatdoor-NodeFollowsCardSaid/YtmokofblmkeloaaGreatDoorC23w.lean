import Derived.Test.YtmokofblmkeloaaGreatDoorC22e
import Derived.Test.YtmokofblmkeloaaGreatDoorC14b
import Derived.Test.YtmokofblmkeloaaGreatDoorP30
namespace Go.Proofs.YtmokofblmkeloaaGreatDoor
open Go.RowKit Go.WideShapes Go.ChangeShapes Go.Maps
set_option linter.unusedVariables false
set_option maxRecDepth 100000
/-- A node's cells in a block: its Front's, its number, and where its neighbours' table lies. -/
abbrev nodeCells (me : Int) (t : Nat) (p : Par) (s : Sta) (A : Option Addr) (cap : Nat) : Array Value := frontCellsR [.int .i64 me, .pointer (some ⟨t, 0, none⟩)] p s A cap
/-- Of the blocks that were there only g and b changed. -/
structure OnlyN (g b : Nat) (w w' : World) : Prop where
  os : w'.os = w.os
  tape : w'.tape = w.tape
  output : w'.output = w.output
  size : w.heap.size ≤ w'.heap.size
  block : ∀ k, k < w.heap.size → k ≠ g → k ≠ b → w'.heap[k]? = w.heap[k]?
namespace OnlyN
variable {g b : Nat} {w w1 w2 : World}
theorem of_g (h : Only g w w1) : OnlyN g b w w1 := ⟨h.os, h.tape, h.output, h.size, fun k a c _ => h.block k a c⟩
theorem of_b (h : Only b w w1) : OnlyN g b w w1 := ⟨h.os, h.tape, h.output, h.size, fun k a _ c => h.block k a c⟩
theorem of_ok (h : Ok w w1) : OnlyN g b w w1 := of_g (Only.of_ok h)
theorem refl (g b : Nat) (w : World) : OnlyN g b w w := of_g (Only.refl g w)
theorem trans (h : OnlyN g b w w1) (k : OnlyN g b w1 w2) : OnlyN g b w w2 := ⟨k.os.trans h.os, k.tape.trans h.tape, k.output.trans h.output, Nat.le_trans h.size k.size, fun i a c d => (k.block i (Nat.lt_of_lt_of_le a h.size) c d).trans (h.block i a c d)⟩
theorem ok (h : OnlyN g b w w1) (k : Ok w1 w2) : OnlyN g b w w2 := h.trans (of_ok k)
theorem own (h : OnlyN g b w w1) {x : Nat} {cs : Array Value} (hO : Own w x cs) (h1 : x ≠ g) (h2 : x ≠ b) : Own w1 x cs := by
  have hl := hO.lt
  obtain ⟨t, ht⟩ := hO
  exact ⟨t, (h.block x hl h1 h2).trans ht⟩
theorem cells (h : OnlyN g b w w1) {A : Option Addr} {cs : List Value} (hA : CellsAt w A cs) (hr : ∀ a, A = some a → a.block ≠ g ∧ a.block ≠ b) : CellsAt w1 A cs := fun j u hj => by
  obtain ⟨x, off, e, hlt, hc⟩ := hA j u hj
  have hh := hr _ e
  exact ⟨x, off, e, Nat.lt_of_lt_of_le hlt h.size, (World.cell?_of_block (a := ⟨x, off + j, none⟩) (h.block x hlt hh.1 hh.2)).trans hc⟩
theorem pairs (h : OnlyN g b w w1) {A : Option Addr} {l : List (Int × Int)} (hA : PairsAt w A l) (hr : ∀ a, A = some a → a.block ≠ g ∧ a.block ≠ b) : PairsAt w1 A l := fun j hj => by
  obtain ⟨x, off, e, hlt, hc, hd⟩ := hA j hj
  have hh := hr _ e
  have hx := h.block x hlt hh.1 hh.2
  exact ⟨x, off, e, Nat.lt_of_lt_of_le hlt h.size, (World.cell?_of_block (a := ⟨x, off + j * 2, none⟩) hx).trans hc, (World.cell?_of_block (a := ⟨x, off + j * 2 + 1, none⟩) hx).trans hd⟩
/-- What changes only blocks of one's own changes nothing that came in. -/
theorem then_ok {w0 : World} (h0 : Ok w0 w) (h : OnlyN g b w w1) (hg : w0.heap.size ≤ g) (hb : w0.heap.size ≤ b) : Ok w0 w1 :=
  ⟨h.os.trans h0.below.os, h.tape.trans h0.below.tape, h.output.trans h0.below.output, Nat.le_trans h0.size h.size, fun i hi => (h.block i (Nat.lt_of_lt_of_le hi h0.size) (by omega) (by omega)).trans (h0.below.block i hi)⟩
end OnlyN
theorem Only.pairs {r : Nat} {w w1 : World} (h : Only r w w1) {A : Option Addr} {l : List (Int × Int)} (hA : PairsAt w A l) (hr : ∀ a, A = some a → a.block ≠ r) : PairsAt w1 A l := (OnlyN.of_g (b := r) h).pairs hA fun a e => ⟨hr a e, hr a e⟩
/-- A block of cells is no map. -/
theorem TabM.cells_ne {w : World} {t b : Nat} {f : NF} (h : TabM w t b f) {g : Nat} {cs : Array Value} (hO : Own w g cs) : g ≠ b := by
  rintro rfl
  obtain ⟨T, e⟩ := hO
  obtain ⟨D, ⟨es, clock, e2, -⟩, -⟩ := h.map
  rw [e] at e2
  cases e2
theorem TabM.row_ne {w : World} {t b : Nat} {f : NF} (h : TabM w t b f) {B k n : Nat} {e : TypeId} {v : Value} {xs : List Value} (hr : w.ownsRow B e k v n xs) : v.ownBlock ≠ some b := by
  rcases hr.2 with ⟨e1, _⟩ | ⟨g, c, cur, e1, _, hc, _⟩
  · rw [e1]; simp [Value.ownBlock]
  · rw [e1]
    simp only [Value.ownBlock, ne_eq, Option.some.injEq]
    rintro rfl
    obtain ⟨D, ⟨es, clock, e2, -⟩, -⟩ := h.map
    rw [hc] at e2
    cases e2
/-- A row of one's own stays where only another block changes. -/
theorem row_only_ne {w w1 : World} {B r k n : Nat} {e : TypeId} {v : Value} {xs : List Value} (h : w.ownsRow B e k v n xs) (j : Only r w w1) (hr : v.ownBlock ≠ some r) : w1.ownsRow B e k v n xs :=
  World.ownsRow.kept h (only_grown j) (.inr hr)
/-- A node in memory: its own block, its table's, its map's. -/
structure NodeAt (w : World) (G t b : Nat) (me : Int) (p : Par) (s : Sta) (A : Option Addr) (cap : Nat) (f : NF) : Prop where
  own : Own w G (nodeCells me t p s A cap)
  tab : TabM w t b f
  good : Mem.Good f
  ne : G ≠ t
namespace NodeAt
variable {w w1 : World} {G t b : Nat} {me : Int} {p : Par} {s : Sta} {A : Option Addr} {cap : Nat} {f : NF}
theorem nb (h : NodeAt w G t b me p s A cap f) : G ≠ b := h.tab.cells_ne h.own
theorem next (h : NodeAt w G t b me p s A cap f) (k : Ok w w1) : NodeAt w1 G t b me p s A cap f := ⟨h.own.next k, h.tab.next k, h.good, h.ne⟩
theorem only {r : Nat} (h : NodeAt w G t b me p s A cap f) (k : Only r w w1) (h1 : G ≠ r) (h2 : t ≠ r) (h3 : b ≠ r) : NodeAt w1 G t b me p s A cap f := ⟨k.own h.own h1, h.tab.only k h2 h3, h.good, h.ne⟩
/-- Its neighbours change. -/
theorem turn {f' : NF} (h : NodeAt w G t b me p s A cap f) (k : Only b w w1) (hT : TabM w1 t b f') (hG : Mem.Good f') : NodeAt w1 G t b me p s A cap f' := ⟨k.own h.own h.nb, hT, hG, h.ne⟩
/-- Its state changes. -/
theorem step {s' : Sta} {A' : Option Addr} {cap' : Nat} (h : NodeAt w G t b me p s A cap f) (k : Only G w w1) (hO : Own w1 G (nodeCells me t p s' A' cap')) : NodeAt w1 G t b me p s' A' cap' f := ⟨hO, h.tab.only k (Ne.symm h.ne) (Ne.symm h.nb), h.good, h.ne⟩
theorem lt (h : NodeAt w G t b me p s A cap f) : G < w.heap.size ∧ t < w.heap.size ∧ b < w.heap.size := ⟨h.own.lt, h.tab.lt⟩
theorem setOther (h : NodeAt w G t b me p s A cap f) {a : Addr} (h1 : G ≠ a.block) (h2 : t ≠ a.block) (h3 : b ≠ a.block) (v : Value) : NodeAt (w.setCell a v) G t b me p s A cap f := h.only ((Only.refl a.block w).set (.inl rfl) v) h1 h2 h3
theorem alloc (h : NodeAt w G t b me p s A cap f) (o : Obj) : NodeAt (w.alloc o) G t b me p s A cap f := h.next ((Ok.refl w).alloc o)
theorem cMe (h : NodeAt w G t b me p s A cap f) : w.cell? ⟨G, 23, none⟩ = some (.int .i64 me) := h.own.atL 23 rfl
theorem cNear (h : NodeAt w G t b me p s A cap f) : w.cell? ⟨G, 24, none⟩ = some (.pointer (some ⟨t, 0, none⟩)) := h.own.atL 24 rfl
end NodeAt
/-- What counts, in a row of one's own. -/
def HRow (K : Nat) (w : World) (v : Value) (o : List HA) : Prop := w.ownsRow K 65 15 v o.length (o.flatMap haL)
end Go.Proofs.YtmokofblmkeloaaGreatDoor
