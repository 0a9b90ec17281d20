/- Contracts of layer 21: the document's Step. -/
import Derived.Test.YtnhjdinmakkknaaGreatDoorP28
import Derived.Test.YtnhjdinmakkknaaGreatDoorP03
import Derived.Test.YtnhjdinmakkknaaGreatDoorB00
import Derived.Maps.Range
namespace Go.Proofs.YtnhjdinmakkknaaGreatDoor
open Go.RowKit
set_option linter.unusedVariables false
set_option maxRecDepth 100000
attribute [local go_sem ↓] Go.wp_at_zero Go.wp_at_succ
end Go.Proofs.YtnhjdinmakkknaaGreatDoor

/- Words of my own: a call that changes one block alone of those that were there; rings of items in a block. -/
namespace Go.Proofs.YtnhjdinmakkknaaGreatDoor
open Go.RowKit
/-- Of the blocks that were there only r may have changed. -/
structure Only (r : Nat) (w w' : World) : Prop where
  os : w'.os = w.os
  tape : w'.tape = w.tape
  output : w'.output = w.output
  size : w.heap.size ≤ w'.heap.size
  block : ∀ k, k < w.heap.size → k ≠ r → w'.heap[k]? = w.heap[k]?
namespace Only
variable {r : Nat} {w w1 w2 : World}
theorem refl (r : Nat) (w : World) : Only r w w := ⟨rfl, rfl, rfl, Nat.le_refl _, fun _ _ _ => rfl⟩
theorem ok (h : Only r w w1) (k : Ok w1 w2) : Only r w w2 := ⟨k.below.os.trans h.os, k.below.tape.trans h.tape, k.below.output.trans h.output, Nat.le_trans h.size k.size, fun i a b => (k.below.block i (Nat.lt_of_lt_of_le a h.size)).trans (h.block i a b)⟩
theorem of_ok (k : Ok w w1) : Only r w w1 := (refl r w).ok k
theorem trans (h : Only r w w1) (k : Only r w1 w2) : Only r w w2 := ⟨k.os.trans h.os, k.tape.trans h.tape, k.output.trans h.output, Nat.le_trans h.size k.size, fun i a b => (k.block i (Nat.lt_of_lt_of_le a h.size) b).trans (h.block i a b)⟩
theorem set (h : Only r w w1) {a : Addr} (ha : a.block = r ∨ w.heap.size ≤ a.block) (v : Value) : Only r w (w1.setCell a v) :=
  ⟨h.os, h.tape, h.output, by simpa using h.size, fun i h1 h2 => (Below.heap_setCell w1 a v i (by rcases ha with e | e <;> omega)).trans (h.block i h1 h2)⟩
theorem setR (h : Only r w w1) (k : Nat) (v : Value) : Only r w (w1.setCell ⟨r, k, none⟩ v) := h.set (.inl rfl) v
theorem setN (h : Only r w w1) {b : Nat} (hb : w.heap.size ≤ b) (k : Nat) (v : Value) : Only r w (w1.setCell ⟨b, k, none⟩ v) := h.set (.inr hb) v
theorem alloc (h : Only r w w1) (o : Obj) : Only r w (w1.alloc o) := h.ok ((Ok.refl _).alloc o)
theorem grow (h : Only r w w1) {row : Option Nat} (g : w1.grownBy w2 row) (hr : ∀ k, row = some k → k = r ∨ w.heap.size ≤ k) : Only r w w2 :=
  ⟨g.os.trans h.os, g.tape.trans h.tape, g.output.trans h.output, Nat.le_trans h.size g.size, fun i a b => (g.block i (Nat.lt_of_lt_of_le a h.size) (fun e => by have := hr i e.symm; omega)).trans (h.block i a b)⟩
theorem own (h : Only r w w1) {g : Nat} {cs : Array Value} (hO : Own w g cs) (h1 : g ≠ r) : Own w1 g cs := by
  have hl := hO.lt
  obtain ⟨t, ht⟩ := hO
  exact ⟨t, (h.block g hl h1).trans ht⟩
theorem cell (h : Only r w w1) {p : Addr} (h1 : p.block < w.heap.size) (h2 : p.block ≠ r) : w1.cell? p = w.cell? p := World.cell?_of_block (h.block _ h1 h2)
theorem cells (h : Only r w w1) {A : Option Addr} {cs : List Value} (hA : CellsAt w A cs) (hr : ∀ a, A = some a → a.block ≠ r) : CellsAt w1 A cs := fun j u hj => by
  obtain ⟨b, off, e, hlt, hc⟩ := hA j u hj
  exact ⟨b, off, e, Nat.lt_of_lt_of_le hlt h.size, (h.cell (p := ⟨b, off + j, none⟩) hlt (show b ≠ r from hr ⟨b, off, none⟩ e)).trans hc⟩
/-- What changes only a block of one's own changes nothing that came in. -/
theorem then_ok {w0 : World} (h0 : Ok w0 w) (h : Only r w w1) (hr : w0.heap.size ≤ r) : Ok w0 w1 :=
  ⟨h.os.trans h0.below.os, h.tape.trans h0.below.tape, h.output.trans h0.below.output, Nat.le_trans h0.size h.size, fun i hi => (h.block i (Nat.lt_of_lt_of_le hi h0.size) (by omega)).trans (h0.below.block i hi)⟩
end Only
/-- What waits in a ring at the cell o of a block, the first at the place f. -/
structure Ring (cs : Array Value) (o f : Nat) (l : List (ByteArray × Int)) : Prop where
  hf : f < 64
  hl : l.length ≤ 64
  hs : o + 130 ≤ cs.size
  first : cs[o + 128]? = some (.int .i64 (f : Nat))
  count : cs[o + 129]? = some (.int .i64 (l.length : Nat))
  text : ∀ i (h : i < l.length), cs[o + (f + i) % 64 * 2]? = some (.string l[i].1)
  age : ∀ i (h : i < l.length), cs[o + (f + i) % 64 * 2 + 1]? = some (.int .i64 l[i].2)
/-- All but the ring at o is as it was. -/
structure Aside (o : Nat) (cs cs' : Array Value) : Prop where
  size : cs'.size = cs.size
  far : ∀ k, k < o ∨ o + 130 ≤ k → cs'[k]? = cs[k]?
theorem set_at (cs : Array Value) (k j : Nat) (v : Value) (hk : k < cs.size) : (cs.set! k v)[j]? = if k = j then some v else cs[j]? := by
  rw [Array.set!_eq_setIfInBounds, Array.getElem?_setIfInBounds]
  by_cases h : k = j
  · subst h; simp [hk]
  · simp [h]
theorem set_same (cs : Array Value) (k : Nat) (v : Value) (hk : k < cs.size) : (cs.set! k v)[k]? = some v := by rw [set_at _ _ _ _ hk, if_pos rfl]
theorem set_else (cs : Array Value) {k j : Nat} (v : Value) (h : k ≠ j) : (cs.set! k v)[j]? = cs[j]? := by
  rw [Array.set!_eq_setIfInBounds, Array.getElem?_setIfInBounds]
  simp [h]
theorem set_size (cs : Array Value) (k : Nat) (v : Value) : (cs.set! k v).size = cs.size := by simp
namespace Aside
variable {o : Nat} {cs cs1 cs2 : Array Value}
theorem refl (o : Nat) (cs : Array Value) : Aside o cs cs := ⟨rfl, fun _ _ => rfl⟩
theorem trans (h : Aside o cs cs1) (k : Aside o cs1 cs2) : Aside o cs cs2 := ⟨k.size.trans h.size, fun i hi => (k.far i hi).trans (h.far i hi)⟩
theorem set (h : Aside o cs cs1) {k : Nat} (h1 : o ≤ k) (h2 : k < o + 130) (v : Value) : Aside o cs (cs1.set! k v) :=
  ⟨by rw [set_size]; exact h.size, fun i hi => by rw [set_else _ _ (by omega)]; exact h.far i hi⟩
theorem ring (h : Aside o cs cs1) {o' f : Nat} {l : List (ByteArray × Int)} (hR : Ring cs o' f l) (ho : o' + 130 ≤ o ∨ o + 130 ≤ o') : Ring cs1 o' f l := by
  obtain ⟨h1, h2, h3, h4, h5, h6, h7⟩ := hR
  refine ⟨h1, h2, by rw [h.size]; exact h3, (h.far _ (by omega)).trans h4, (h.far _ (by omega)).trans h5, fun i hi => ?_, fun i hi => ?_⟩
  · exact (h.far _ (by omega)).trans (h6 i hi)
  · exact (h.far _ (by omega)).trans (h7 i hi)
end Aside
namespace Ring
variable {cs : Array Value} {o f : Nat} {l : List (ByteArray × Int)}
/-- The first is taken out. -/
theorem pop {x : ByteArray × Int} (h : Ring cs o f (x :: l)) (u v : Value) :
    Ring ((((cs.set! (o + f * 2) u).set! (o + f * 2 + 1) v).set! (o + 128) (.int .i64 (((f + 1) % 64 : Nat) : Int))).set! (o + 129) (.int .i64 (l.length : Nat))) o ((f + 1) % 64) l := by
  obtain ⟨h1, h2, h3, h4, h5, h6, h7⟩ := h
  simp only [List.length_cons] at h2
  refine ⟨Nat.mod_lt _ (by decide), by omega, by simp only [set_size]; exact h3, ?_, ?_, fun i hi => ?_, fun i hi => ?_⟩
  · rw [set_else _ _ (by omega), set_same _ _ _ (by simp only [set_size]; omega)]
  · rw [set_same _ _ _ (by simp only [set_size]; omega)]
  · have := h6 (i + 1) (by simpa using hi)
    rw [set_else _ _ (by omega), set_else _ _ (by omega), set_else _ _ (by omega), set_else _ _ (by omega), show ((f + 1) % 64 + i) % 64 = (f + (i + 1)) % 64 by omega, this]
    rfl
  · have := h7 (i + 1) (by simpa using hi)
    rw [set_else _ _ (by omega), set_else _ _ (by omega), set_else _ _ (by omega), set_else _ _ (by omega), show ((f + 1) % 64 + i) % 64 = (f + (i + 1)) % 64 by omega, this]
    rfl
end Ring
/-- 48 rings. -/
structure Laid (cs : Array Value) (q : Nat → List (ByteArray × Int)) : Prop where
  size : cs.size = 6240
  ring : ∀ w, w < 48 → ∃ f, Ring cs (w * 130) f (q w)
theorem Laid.turn {cs cs' : Array Value} {q : Nat → List (ByteArray × Int)} (h : Laid cs q) (w : Nat) {l : List (ByteArray × Int)} (hA : Aside (w * 130) cs cs') (hR : ∃ f, Ring cs' (w * 130) f l) : Laid cs' (fun k => if k = w then l else q k) := by
  refine ⟨hA.size.trans h.size, fun k hk => ?_⟩
  by_cases e : k = w
  · subst e; rw [if_pos rfl]; exact hR
  · rw [if_neg e]
    obtain ⟨f, hf⟩ := h.ring k hk
    exact ⟨f, hA.ring hf (by omega)⟩
theorem Laid.congr {cs : Array Value} {q q' : Nat → List (ByteArray × Int)} (h : Laid cs q) (e : ∀ k, k < 48 → q' k = q k) : Laid cs q' := ⟨h.size, fun k hk => by rw [e k hk]; exact h.ring k hk⟩
/-- In block g are lanes, in which waits what q says. -/
def LanesAt (w : World) (g : Nat) (q : Nat → List (ByteArray × Int)) : Prop := ∃ cs, Own w g cs ∧ Laid cs q
namespace LanesAt
variable {w w1 : World} {g r : Nat} {q q' : Nat → List (ByteArray × Int)}
theorem next (h : LanesAt w g q) (k : Ok w w1) : LanesAt w1 g q := by
  obtain ⟨cs, hO, hL⟩ := h
  exact ⟨cs, hO.next k, hL⟩
theorem only (h : LanesAt w g q) (k : Only r w w1) (hr : g ≠ r) : LanesAt w1 g q := by
  obtain ⟨cs, hO, hL⟩ := h
  exact ⟨cs, k.own hO hr, hL⟩
theorem congr (h : LanesAt w g q) (e : ∀ k, k < 48 → q' k = q k) : LanesAt w g q' := by
  obtain ⟨cs, hO, hL⟩ := h
  exact ⟨cs, hO, hL.congr e⟩
theorem lt (h : LanesAt w g q) : g < w.heap.size := by
  obtain ⟨cs, hO, _⟩ := h
  exact hO.lt
end LanesAt
end Go.Proofs.YtnhjdinmakkknaaGreatDoor

/- A Front in a block: its numbers and its state. -/
namespace Go.Proofs.YtnhjdinmakkknaaGreatDoor
open Go.RowKit
set_option linter.unusedVariables false
set_option maxRecDepth 100000
/-- A Front's cells, and what lies behind them in its block (R: a gateway's, a node's own fields). -/
def frontCellsR (R : List Value) (p : Par) (s : Sta) (A : Option Addr) (cap : Nat) : Array Value := ([.int .i64 p.n, .int .i64 p.f, .int .i64 p.d, .int .i64 p.beat, .int .i64 p.rho, .int .i64 p.delay, .int .i64 p.jit, .int .i64 p.eps, .int .i64 p.mu, .int .i64 p.hold, .int .i64 p.pulse, .int .i64 p.sec, .int .i64 s.lo, .int .i64 s.hi, .int .i64 s.time, .bool s.set, .int .i64 s.held, .int .i64 s.hops, .bool s.good, .slice A s.table.length cap, .int .i64 s.st, .int .i64 s.sn, .int .i64 s.life] ++ R : List Value).toArray
theorem Own.atL {W : World} {g : Nat} {l : List Value} (h : Own W g l.toArray) (k : Nat) {v : Value} (hv : l[k]? = some v) : W.cell? ⟨g, k, none⟩ = some v := h.cell k (by rw [List.getElem?_toArray]; exact hv)
/-- The numbers' cells. -/
theorem Own.frP {R : List Value} {W : World} {g : Nat} {p : Par} {s : Sta} {A : Option Addr} {cap : Nat} (h : Own W g (frontCellsR R p s A cap)) : W.cell? ⟨g, 0, none⟩ = some (.int .i64 p.n) ∧ W.cell? ⟨g, 1, none⟩ = some (.int .i64 p.f) ∧ W.cell? ⟨g, 2, none⟩ = some (.int .i64 p.d) ∧ W.cell? ⟨g, 3, none⟩ = some (.int .i64 p.beat) ∧ W.cell? ⟨g, 4, none⟩ = some (.int .i64 p.rho) ∧ W.cell? ⟨g, 5, none⟩ = some (.int .i64 p.delay) ∧ W.cell? ⟨g, 6, none⟩ = some (.int .i64 p.jit) ∧ W.cell? ⟨g, 7, none⟩ = some (.int .i64 p.eps) ∧ W.cell? ⟨g, 8, none⟩ = some (.int .i64 p.mu) ∧ W.cell? ⟨g, 9, none⟩ = some (.int .i64 p.hold) ∧ W.cell? ⟨g, 10, none⟩ = some (.int .i64 p.pulse) ∧ W.cell? ⟨g, 11, none⟩ = some (.int .i64 p.sec) := ⟨h.atL 0 rfl, h.atL 1 rfl, h.atL 2 rfl, h.atL 3 rfl, h.atL 4 rfl, h.atL 5 rfl, h.atL 6 rfl, h.atL 7 rfl, h.atL 8 rfl, h.atL 9 rfl, h.atL 10 rfl, h.atL 11 rfl⟩
/-- The state's cells. -/
theorem Own.frS {R : List Value} {W : World} {g : Nat} {p : Par} {s : Sta} {A : Option Addr} {cap : Nat} (h : Own W g (frontCellsR R p s A cap)) : W.cell? ⟨g, 12, none⟩ = some (.int .i64 s.lo) ∧ W.cell? ⟨g, 13, none⟩ = some (.int .i64 s.hi) ∧ W.cell? ⟨g, 14, none⟩ = some (.int .i64 s.time) ∧ W.cell? ⟨g, 15, none⟩ = some (.bool s.set) ∧ W.cell? ⟨g, 16, none⟩ = some (.int .i64 s.held) ∧ W.cell? ⟨g, 17, none⟩ = some (.int .i64 s.hops) ∧ W.cell? ⟨g, 18, none⟩ = some (.bool s.good) ∧ W.cell? ⟨g, 19, none⟩ = some (.slice A s.table.length cap) ∧ W.cell? ⟨g, 20, none⟩ = some (.int .i64 s.st) ∧ W.cell? ⟨g, 21, none⟩ = some (.int .i64 s.sn) ∧ W.cell? ⟨g, 22, none⟩ = some (.int .i64 s.life) := ⟨h.atL 12 rfl, h.atL 13 rfl, h.atL 14 rfl, h.atL 15 rfl, h.atL 16 rfl, h.atL 17 rfl, h.atL 18 rfl, h.atL 19 rfl, h.atL 20 rfl, h.atL 21 rfl, h.atL 22 rfl⟩
theorem PairsOf.only {K r : Nat} {w w1 : World} {A : Option Addr} {l : List (Int × Int)} (h : PairsOf K w A l) (k : Only r w w1) (hr : r < K) : PairsOf K w1 A l := ⟨fun j hj => by
  obtain ⟨b, off, e, hlt, hc, hd⟩ := h.1 j hj
  have hb : b ≠ r := by have : K ≤ b := h.2.1 _ e; omega
  exact ⟨b, off, e, Nat.lt_of_lt_of_le hlt k.size, (k.cell (p := ⟨b, off + j * 2, none⟩) hlt hb).trans hc, (k.cell (p := ⟨b, off + j * 2 + 1, none⟩) hlt hb).trans hd⟩, h.2.1, fun a ha => by
  obtain ⟨cs, e⟩ := h.2.2 a ha
  exact ⟨cs, (k.block a.block (Array.getElem?_eq_some_iff.1 e).1 (by have := h.2.1 a ha; omega)).trans e⟩⟩
theorem only_set11 {r : Nat} {w W : World} {g : Nat} (h : Only r w W) (hg : g = r ∨ w.heap.size ≤ g) (s : Sta) (A : Option Addr) (cap : Nat) : Only r w (((((((((((W.setCell ⟨g, 0, none⟩ (.int .i64 s.lo)).setCell ⟨g, 1, none⟩ (.int .i64 s.hi)).setCell ⟨g, 2, none⟩ (.int .i64 s.time)).setCell ⟨g, 3, none⟩ (.bool s.set)).setCell ⟨g, 4, none⟩ (.int .i64 s.held)).setCell ⟨g, 5, none⟩ (.int .i64 s.hops)).setCell ⟨g, 6, none⟩ (.bool s.good)).setCell ⟨g, 7, none⟩ (.slice A s.table.length cap)).setCell ⟨g, 8, none⟩ (.int .i64 s.st)).setCell ⟨g, 9, none⟩ (.int .i64 s.sn)).setCell ⟨g, 10, none⟩ (.int .i64 s.life)) := (((((((((((h.set (a := ⟨g, 0, none⟩) hg (.int .i64 s.lo)).set (a := ⟨g, 1, none⟩) hg (.int .i64 s.hi)).set (a := ⟨g, 2, none⟩) hg (.int .i64 s.time)).set (a := ⟨g, 3, none⟩) hg (.bool s.set)).set (a := ⟨g, 4, none⟩) hg (.int .i64 s.held)).set (a := ⟨g, 5, none⟩) hg (.int .i64 s.hops)).set (a := ⟨g, 6, none⟩) hg (.bool s.good)).set (a := ⟨g, 7, none⟩) hg (.slice A s.table.length cap)).set (a := ⟨g, 8, none⟩) hg (.int .i64 s.st)).set (a := ⟨g, 9, none⟩) hg (.int .i64 s.sn)).set (a := ⟨g, 10, none⟩) hg (.int .i64 s.life))
end Go.Proofs.YtnhjdinmakkknaaGreatDoor

/- What the program's calls of layer 21 do. -/
namespace Go.Proofs.YtnhjdinmakkknaaGreatDoor
open Go.RowKit
set_option linter.unusedVariables false
structure FrontDoes : Prop where
  healthSane : ∀ (p : Par) (s : Sta) (A : Option Addr) (cap : Nat) (w : World) (hA : PairsAt w A s.table) (hl : s.table.length ≤ 9223372036854775807), Calls Tryz.prog 22 #[parV p, staV s A cap] w (StaEnd w (Health.sane p s))
  healthOf : ∀ (p : Par) (s : Sta) (A : Option Addr) (cap : Nat) (w : World), Calls Tryz.prog 150 #[parV p, staV s A cap] w fun e w' => e = .returned (.int .i64 (Health.of p s)) ∧ Ok w w'
  healthFar : ∀ (p : Par) (held : Int) (w : World), Calls Tryz.prog 25 #[parV p, .int .i64 held] w fun e w' => e = .returned (.int .i64 (Health.far p held)) ∧ Ok w w'
  frontHealth : ∀ (R : List Value) (g : Nat) (p : Par) (s : Sta) (A : Option Addr) (cap : Nat) (w : World) (h : Own w g (frontCellsR R p s A cap)), Calls Tryz.prog 116 #[.pointer (some ⟨g, 0, none⟩)] w fun e w' => e = .returned (.int .i64 (Health.of p s)) ∧ Ok w w'
  frontStamp : ∀ (R : List Value) (g : Nat) (p : Par) (s : Sta) (A : Option Addr) (cap : Nat) (w : World) (h : Own w g (frontCellsR R p s A cap)), Calls Tryz.prog 83 #[.pointer (some ⟨g, 0, none⟩)] w fun e w' => e = .returned (.tuple #[stV (Hlc.tick (s.st, s.sn) s.time), .int .i64 0]) ∧ Own w' g (frontCellsR R p (Health.stamped s) A cap) ∧ Only g w w'
  frontListen : ∀ (R : List Value) (g : Nat) (p : Par) (s : Sta) (A : Option Addr) (cap : Nat) (x : Int × Int) (w : World) (h : Own w g (frontCellsR R p s A cap)), Calls Tryz.prog 81 #[.pointer (some ⟨g, 0, none⟩), stV x] w fun e w' => e = .returned (.tuple #[]) ∧ Own w' g (frontCellsR R p (Health.listen p s x) A cap) ∧ Only g w w'
  frontStep : ∀ (R : List Value) (g : Nat) (p : Par) (s : Sta) (A : Option Addr) (cap : Nat) (ticks : Int) (u : Sta) (C : Option Addr) (cup : Nat) (w : World) (h : Own w g (frontCellsR R p s A cap)) (hC : PairsAt w C u.table) (hl : u.table.length ≤ 9223372036854775807), Calls Tryz.prog 33 #[.pointer (some ⟨g, 0, none⟩), .int .i64 ticks, staV u C cup] w fun e w' => e = .returned (.tuple #[]) ∧ ∃ (A2 : Option Addr) (c2 : Nat), Own w' g (frontCellsR R p (Health.step p s ticks u) A2 c2) ∧ PairsOf w.heap.size w' A2 (Health.step p s ticks u).table ∧ Only g w w'
end Go.Proofs.YtnhjdinmakkknaaGreatDoor
