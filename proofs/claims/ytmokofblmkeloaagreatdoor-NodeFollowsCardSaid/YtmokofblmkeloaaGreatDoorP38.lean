/- Several texts of mine in one: B18, W19, W49, W50, W35, W23, C19d. -/
import Derived.Test.YtmokofblmkeloaaGreatDoorP31
import Derived.Test.YtmokofblmkeloaaGreatDoorB01
import Derived.Test.YtmokofblmkeloaaGreatDoorB00
import Derived.Test.YtmokofblmkeloaaGreatDoorB08
import Derived.Test.YtmokofblmkeloaaGreatDoorB09
import Derived.Test.YtmokofblmkeloaaGreatDoorB12
import Derived.Test.YtmokofblmkeloaaGreatDoorB03
import Derived.Test.YtmokofblmkeloaaGreatDoorMA
import Derived.Test.YtmokofblmkeloaaGreatDoorP22
import Derived.Test.YtmokofblmkeloaaGreatDoorB04
import Derived.Maps.Range
import Derived.SizedLaws
/- Contracts of layer 21: the document's Step. -/
namespace Go.Proofs.YtmokofblmkeloaaGreatDoor
open Go.RowKit
set_option linter.unusedVariables false
set_option maxRecDepth 100000
attribute [local go_sem ↓] Go.wp_at_zero Go.wp_at_succ
end Go.Proofs.YtmokofblmkeloaaGreatDoor

/- Words of my own: a call that changes one block alone of those that were there; rings of items in a block. -/
namespace Go.Proofs.YtmokofblmkeloaaGreatDoor
open Go.RowKit
/-- Of the blocks that were there only r may have changed. -/
structure Only (r : Nat) (w w' : World) : Prop where
  os : w'.os = w.os
  tape : w'.tape = w.tape
  output : w'.output = w.output
  size : w.heap.size ≤ w'.heap.size
  block : ∀ k, k < w.heap.size → k ≠ r → w'.heap[k]? = w.heap[k]?
namespace Only
variable {r : Nat} {w w1 w2 : World}
theorem refl (r : Nat) (w : World) : Only r w w := ⟨rfl, rfl, rfl, Nat.le_refl _, fun _ _ _ => rfl⟩
theorem ok (h : Only r w w1) (k : Ok w1 w2) : Only r w w2 := ⟨k.below.os.trans h.os, k.below.tape.trans h.tape, k.below.output.trans h.output, Nat.le_trans h.size k.size, fun i a b => (k.below.block i (Nat.lt_of_lt_of_le a h.size)).trans (h.block i a b)⟩
theorem of_ok (k : Ok w w1) : Only r w w1 := (refl r w).ok k
theorem trans (h : Only r w w1) (k : Only r w1 w2) : Only r w w2 := ⟨k.os.trans h.os, k.tape.trans h.tape, k.output.trans h.output, Nat.le_trans h.size k.size, fun i a b => (k.block i (Nat.lt_of_lt_of_le a h.size) b).trans (h.block i a b)⟩
theorem set (h : Only r w w1) {a : Addr} (ha : a.block = r ∨ w.heap.size ≤ a.block) (v : Value) : Only r w (w1.setCell a v) :=
  ⟨h.os, h.tape, h.output, by simpa using h.size, fun i h1 h2 => (Below.heap_setCell w1 a v i (by rcases ha with e | e <;> omega)).trans (h.block i h1 h2)⟩
theorem setR (h : Only r w w1) (k : Nat) (v : Value) : Only r w (w1.setCell ⟨r, k, none⟩ v) := h.set (.inl rfl) v
theorem setN (h : Only r w w1) {b : Nat} (hb : w.heap.size ≤ b) (k : Nat) (v : Value) : Only r w (w1.setCell ⟨b, k, none⟩ v) := h.set (.inr hb) v
theorem alloc (h : Only r w w1) (o : Obj) : Only r w (w1.alloc o) := h.ok ((Ok.refl _).alloc o)
theorem grow (h : Only r w w1) {row : Option Nat} (g : w1.grownBy w2 row) (hr : ∀ k, row = some k → k = r ∨ w.heap.size ≤ k) : Only r w w2 :=
  ⟨g.os.trans h.os, g.tape.trans h.tape, g.output.trans h.output, Nat.le_trans h.size g.size, fun i a b => (g.block i (Nat.lt_of_lt_of_le a h.size) (fun e => by have := hr i e.symm; omega)).trans (h.block i a b)⟩
theorem own (h : Only r w w1) {g : Nat} {cs : Array Value} (hO : Own w g cs) (h1 : g ≠ r) : Own w1 g cs := by
  have hl := hO.lt
  obtain ⟨t, ht⟩ := hO
  exact ⟨t, (h.block g hl h1).trans ht⟩
theorem cell (h : Only r w w1) {p : Addr} (h1 : p.block < w.heap.size) (h2 : p.block ≠ r) : w1.cell? p = w.cell? p := World.cell?_of_block (h.block _ h1 h2)
theorem cells (h : Only r w w1) {A : Option Addr} {cs : List Value} (hA : CellsAt w A cs) (hr : ∀ a, A = some a → a.block ≠ r) : CellsAt w1 A cs := fun j u hj => by
  obtain ⟨b, off, e, hlt, hc⟩ := hA j u hj
  exact ⟨b, off, e, Nat.lt_of_lt_of_le hlt h.size, (h.cell (p := ⟨b, off + j, none⟩) hlt (show b ≠ r from hr ⟨b, off, none⟩ e)).trans hc⟩
/-- What changes only a block of one's own changes nothing that came in. -/
theorem then_ok {w0 : World} (h0 : Ok w0 w) (h : Only r w w1) (hr : w0.heap.size ≤ r) : Ok w0 w1 :=
  ⟨h.os.trans h0.below.os, h.tape.trans h0.below.tape, h.output.trans h0.below.output, Nat.le_trans h0.size h.size, fun i hi => (h.block i (Nat.lt_of_lt_of_le hi h0.size) (by omega)).trans (h0.below.block i hi)⟩
end Only
/-- What waits in a ring at the cell o of a block, the first at the place f. -/
structure Ring (cs : Array Value) (o f : Nat) (l : List (ByteArray × Int)) : Prop where
  hf : f < 64
  hl : l.length ≤ 64
  hs : o + 130 ≤ cs.size
  first : cs[o + 128]? = some (.int .i64 (f : Nat))
  count : cs[o + 129]? = some (.int .i64 (l.length : Nat))
  text : ∀ i (h : i < l.length), cs[o + (f + i) % 64 * 2]? = some (.string l[i].1)
  age : ∀ i (h : i < l.length), cs[o + (f + i) % 64 * 2 + 1]? = some (.int .i64 l[i].2)
/-- All but the ring at o is as it was. -/
structure Aside (o : Nat) (cs cs' : Array Value) : Prop where
  size : cs'.size = cs.size
  far : ∀ k, k < o ∨ o + 130 ≤ k → cs'[k]? = cs[k]?
theorem set_at (cs : Array Value) (k j : Nat) (v : Value) (hk : k < cs.size) : (cs.set! k v)[j]? = if k = j then some v else cs[j]? := by
  rw [Array.set!_eq_setIfInBounds, Array.getElem?_setIfInBounds]
  by_cases h : k = j
  · subst h; simp [hk]
  · simp [h]
theorem set_same (cs : Array Value) (k : Nat) (v : Value) (hk : k < cs.size) : (cs.set! k v)[k]? = some v := by rw [set_at _ _ _ _ hk, if_pos rfl]
theorem set_else (cs : Array Value) {k j : Nat} (v : Value) (h : k ≠ j) : (cs.set! k v)[j]? = cs[j]? := by
  rw [Array.set!_eq_setIfInBounds, Array.getElem?_setIfInBounds]
  simp [h]
theorem set_size (cs : Array Value) (k : Nat) (v : Value) : (cs.set! k v).size = cs.size := by simp
namespace Aside
variable {o : Nat} {cs cs1 cs2 : Array Value}
theorem refl (o : Nat) (cs : Array Value) : Aside o cs cs := ⟨rfl, fun _ _ => rfl⟩
theorem trans (h : Aside o cs cs1) (k : Aside o cs1 cs2) : Aside o cs cs2 := ⟨k.size.trans h.size, fun i hi => (k.far i hi).trans (h.far i hi)⟩
theorem set (h : Aside o cs cs1) {k : Nat} (h1 : o ≤ k) (h2 : k < o + 130) (v : Value) : Aside o cs (cs1.set! k v) :=
  ⟨by rw [set_size]; exact h.size, fun i hi => by rw [set_else _ _ (by omega)]; exact h.far i hi⟩
theorem ring (h : Aside o cs cs1) {o' f : Nat} {l : List (ByteArray × Int)} (hR : Ring cs o' f l) (ho : o' + 130 ≤ o ∨ o + 130 ≤ o') : Ring cs1 o' f l := by
  obtain ⟨h1, h2, h3, h4, h5, h6, h7⟩ := hR
  refine ⟨h1, h2, by rw [h.size]; exact h3, (h.far _ (by omega)).trans h4, (h.far _ (by omega)).trans h5, fun i hi => ?_, fun i hi => ?_⟩
  · exact (h.far _ (by omega)).trans (h6 i hi)
  · exact (h.far _ (by omega)).trans (h7 i hi)
end Aside
namespace Ring
variable {cs : Array Value} {o f : Nat} {l : List (ByteArray × Int)}
/-- The first is taken out. -/
theorem pop {x : ByteArray × Int} (h : Ring cs o f (x :: l)) (u v : Value) :
    Ring ((((cs.set! (o + f * 2) u).set! (o + f * 2 + 1) v).set! (o + 128) (.int .i64 (((f + 1) % 64 : Nat) : Int))).set! (o + 129) (.int .i64 (l.length : Nat))) o ((f + 1) % 64) l := by
  obtain ⟨h1, h2, h3, h4, h5, h6, h7⟩ := h
  simp only [List.length_cons] at h2
  refine ⟨Nat.mod_lt _ (by decide), by omega, by simp only [set_size]; exact h3, ?_, ?_, fun i hi => ?_, fun i hi => ?_⟩
  · rw [set_else _ _ (by omega), set_same _ _ _ (by simp only [set_size]; omega)]
  · rw [set_same _ _ _ (by simp only [set_size]; omega)]
  · have := h6 (i + 1) (by simpa using hi)
    rw [set_else _ _ (by omega), set_else _ _ (by omega), set_else _ _ (by omega), set_else _ _ (by omega), show ((f + 1) % 64 + i) % 64 = (f + (i + 1)) % 64 by omega, this]
    rfl
  · have := h7 (i + 1) (by simpa using hi)
    rw [set_else _ _ (by omega), set_else _ _ (by omega), set_else _ _ (by omega), set_else _ _ (by omega), show ((f + 1) % 64 + i) % 64 = (f + (i + 1)) % 64 by omega, this]
    rfl
end Ring
/-- 48 rings. -/
structure Laid (cs : Array Value) (q : Nat → List (ByteArray × Int)) : Prop where
  size : cs.size = 6240
  ring : ∀ w, w < 48 → ∃ f, Ring cs (w * 130) f (q w)
theorem Laid.turn {cs cs' : Array Value} {q : Nat → List (ByteArray × Int)} (h : Laid cs q) (w : Nat) {l : List (ByteArray × Int)} (hA : Aside (w * 130) cs cs') (hR : ∃ f, Ring cs' (w * 130) f l) : Laid cs' (fun k => if k = w then l else q k) := by
  refine ⟨hA.size.trans h.size, fun k hk => ?_⟩
  by_cases e : k = w
  · subst e; rw [if_pos rfl]; exact hR
  · rw [if_neg e]
    obtain ⟨f, hf⟩ := h.ring k hk
    exact ⟨f, hA.ring hf (by omega)⟩
theorem Laid.congr {cs : Array Value} {q q' : Nat → List (ByteArray × Int)} (h : Laid cs q) (e : ∀ k, k < 48 → q' k = q k) : Laid cs q' := ⟨h.size, fun k hk => by rw [e k hk]; exact h.ring k hk⟩
/-- In block g are lanes, in which waits what q says. -/
def LanesAt (w : World) (g : Nat) (q : Nat → List (ByteArray × Int)) : Prop := ∃ cs, Own w g cs ∧ Laid cs q
namespace LanesAt
variable {w w1 : World} {g r : Nat} {q q' : Nat → List (ByteArray × Int)}
theorem next (h : LanesAt w g q) (k : Ok w w1) : LanesAt w1 g q := by
  obtain ⟨cs, hO, hL⟩ := h
  exact ⟨cs, hO.next k, hL⟩
theorem only (h : LanesAt w g q) (k : Only r w w1) (hr : g ≠ r) : LanesAt w1 g q := by
  obtain ⟨cs, hO, hL⟩ := h
  exact ⟨cs, k.own hO hr, hL⟩
theorem congr (h : LanesAt w g q) (e : ∀ k, k < 48 → q' k = q k) : LanesAt w g q' := by
  obtain ⟨cs, hO, hL⟩ := h
  exact ⟨cs, hO, hL.congr e⟩
theorem lt (h : LanesAt w g q) : g < w.heap.size := by
  obtain ⟨cs, hO, _⟩ := h
  exact hO.lt
end LanesAt
end Go.Proofs.YtmokofblmkeloaaGreatDoor

/- A Front in a block: its numbers and its state. -/
namespace Go.Proofs.YtmokofblmkeloaaGreatDoor
open Go.RowKit
set_option linter.unusedVariables false
set_option maxRecDepth 100000
/-- A Front's cells, and what lies behind them in its block (R: a gateway's, a node's own fields). -/
def frontCellsR (R : List Value) (p : Par) (s : Sta) (A : Option Addr) (cap : Nat) : Array Value := ([.int .i64 p.n, .int .i64 p.f, .int .i64 p.d, .int .i64 p.beat, .int .i64 p.rho, .int .i64 p.delay, .int .i64 p.jit, .int .i64 p.eps, .int .i64 p.mu, .int .i64 p.hold, .int .i64 p.pulse, .int .i64 p.sec, .int .i64 s.lo, .int .i64 s.hi, .int .i64 s.time, .bool s.set, .int .i64 s.held, .int .i64 s.hops, .bool s.good, .slice A s.table.length cap, .int .i64 s.st, .int .i64 s.sn, .int .i64 s.life] ++ R : List Value).toArray
theorem Own.atL {W : World} {g : Nat} {l : List Value} (h : Own W g l.toArray) (k : Nat) {v : Value} (hv : l[k]? = some v) : W.cell? ⟨g, k, none⟩ = some v := h.cell k (by rw [List.getElem?_toArray]; exact hv)
/-- The numbers' cells. -/
theorem Own.frP {R : List Value} {W : World} {g : Nat} {p : Par} {s : Sta} {A : Option Addr} {cap : Nat} (h : Own W g (frontCellsR R p s A cap)) : W.cell? ⟨g, 0, none⟩ = some (.int .i64 p.n) ∧ W.cell? ⟨g, 1, none⟩ = some (.int .i64 p.f) ∧ W.cell? ⟨g, 2, none⟩ = some (.int .i64 p.d) ∧ W.cell? ⟨g, 3, none⟩ = some (.int .i64 p.beat) ∧ W.cell? ⟨g, 4, none⟩ = some (.int .i64 p.rho) ∧ W.cell? ⟨g, 5, none⟩ = some (.int .i64 p.delay) ∧ W.cell? ⟨g, 6, none⟩ = some (.int .i64 p.jit) ∧ W.cell? ⟨g, 7, none⟩ = some (.int .i64 p.eps) ∧ W.cell? ⟨g, 8, none⟩ = some (.int .i64 p.mu) ∧ W.cell? ⟨g, 9, none⟩ = some (.int .i64 p.hold) ∧ W.cell? ⟨g, 10, none⟩ = some (.int .i64 p.pulse) ∧ W.cell? ⟨g, 11, none⟩ = some (.int .i64 p.sec) := ⟨h.atL 0 rfl, h.atL 1 rfl, h.atL 2 rfl, h.atL 3 rfl, h.atL 4 rfl, h.atL 5 rfl, h.atL 6 rfl, h.atL 7 rfl, h.atL 8 rfl, h.atL 9 rfl, h.atL 10 rfl, h.atL 11 rfl⟩
/-- The state's cells. -/
theorem Own.frS {R : List Value} {W : World} {g : Nat} {p : Par} {s : Sta} {A : Option Addr} {cap : Nat} (h : Own W g (frontCellsR R p s A cap)) : W.cell? ⟨g, 12, none⟩ = some (.int .i64 s.lo) ∧ W.cell? ⟨g, 13, none⟩ = some (.int .i64 s.hi) ∧ W.cell? ⟨g, 14, none⟩ = some (.int .i64 s.time) ∧ W.cell? ⟨g, 15, none⟩ = some (.bool s.set) ∧ W.cell? ⟨g, 16, none⟩ = some (.int .i64 s.held) ∧ W.cell? ⟨g, 17, none⟩ = some (.int .i64 s.hops) ∧ W.cell? ⟨g, 18, none⟩ = some (.bool s.good) ∧ W.cell? ⟨g, 19, none⟩ = some (.slice A s.table.length cap) ∧ W.cell? ⟨g, 20, none⟩ = some (.int .i64 s.st) ∧ W.cell? ⟨g, 21, none⟩ = some (.int .i64 s.sn) ∧ W.cell? ⟨g, 22, none⟩ = some (.int .i64 s.life) := ⟨h.atL 12 rfl, h.atL 13 rfl, h.atL 14 rfl, h.atL 15 rfl, h.atL 16 rfl, h.atL 17 rfl, h.atL 18 rfl, h.atL 19 rfl, h.atL 20 rfl, h.atL 21 rfl, h.atL 22 rfl⟩
theorem PairsOf.only {K r : Nat} {w w1 : World} {A : Option Addr} {l : List (Int × Int)} (h : PairsOf K w A l) (k : Only r w w1) (hr : r < K) : PairsOf K w1 A l := ⟨fun j hj => by
  obtain ⟨b, off, e, hlt, hc, hd⟩ := h.1 j hj
  have hb : b ≠ r := by have : K ≤ b := h.2.1 _ e; omega
  exact ⟨b, off, e, Nat.lt_of_lt_of_le hlt k.size, (k.cell (p := ⟨b, off + j * 2, none⟩) hlt hb).trans hc, (k.cell (p := ⟨b, off + j * 2 + 1, none⟩) hlt hb).trans hd⟩, h.2.1, fun a ha => by
  obtain ⟨cs, e⟩ := h.2.2 a ha
  exact ⟨cs, (k.block a.block (Array.getElem?_eq_some_iff.1 e).1 (by have := h.2.1 a ha; omega)).trans e⟩⟩
theorem only_set11 {r : Nat} {w W : World} {g : Nat} (h : Only r w W) (hg : g = r ∨ w.heap.size ≤ g) (s : Sta) (A : Option Addr) (cap : Nat) : Only r w (((((((((((W.setCell ⟨g, 0, none⟩ (.int .i64 s.lo)).setCell ⟨g, 1, none⟩ (.int .i64 s.hi)).setCell ⟨g, 2, none⟩ (.int .i64 s.time)).setCell ⟨g, 3, none⟩ (.bool s.set)).setCell ⟨g, 4, none⟩ (.int .i64 s.held)).setCell ⟨g, 5, none⟩ (.int .i64 s.hops)).setCell ⟨g, 6, none⟩ (.bool s.good)).setCell ⟨g, 7, none⟩ (.slice A s.table.length cap)).setCell ⟨g, 8, none⟩ (.int .i64 s.st)).setCell ⟨g, 9, none⟩ (.int .i64 s.sn)).setCell ⟨g, 10, none⟩ (.int .i64 s.life)) := (((((((((((h.set (a := ⟨g, 0, none⟩) hg (.int .i64 s.lo)).set (a := ⟨g, 1, none⟩) hg (.int .i64 s.hi)).set (a := ⟨g, 2, none⟩) hg (.int .i64 s.time)).set (a := ⟨g, 3, none⟩) hg (.bool s.set)).set (a := ⟨g, 4, none⟩) hg (.int .i64 s.held)).set (a := ⟨g, 5, none⟩) hg (.int .i64 s.hops)).set (a := ⟨g, 6, none⟩) hg (.bool s.good)).set (a := ⟨g, 7, none⟩) hg (.slice A s.table.length cap)).set (a := ⟨g, 8, none⟩) hg (.int .i64 s.st)).set (a := ⟨g, 9, none⟩) hg (.int .i64 s.sn)).set (a := ⟨g, 10, none⟩) hg (.int .i64 s.life))
end Go.Proofs.YtmokofblmkeloaaGreatDoor

/- What the program's calls of layer 21 do. -/
namespace Go.Proofs.YtmokofblmkeloaaGreatDoor
open Go.RowKit
set_option linter.unusedVariables false
structure FrontDoes : Prop where
  healthSane : ∀ (p : Par) (s : Sta) (A : Option Addr) (cap : Nat) (w : World) (hA : PairsAt w A s.table) (hl : s.table.length ≤ 9223372036854775807), Calls Tryz.prog 21 #[parV p, staV s A cap] w (StaEnd w (Health.sane p s))
  healthOf : ∀ (p : Par) (s : Sta) (A : Option Addr) (cap : Nat) (w : World), Calls Tryz.prog 149 #[parV p, staV s A cap] w fun e w' => e = .returned (.int .i64 (Health.of p s)) ∧ Ok w w'
  healthFar : ∀ (p : Par) (held : Int) (w : World), Calls Tryz.prog 24 #[parV p, .int .i64 held] w fun e w' => e = .returned (.int .i64 (Health.far p held)) ∧ Ok w w'
  frontHealth : ∀ (R : List Value) (g : Nat) (p : Par) (s : Sta) (A : Option Addr) (cap : Nat) (w : World) (h : Own w g (frontCellsR R p s A cap)), Calls Tryz.prog 115 #[.pointer (some ⟨g, 0, none⟩)] w fun e w' => e = .returned (.int .i64 (Health.of p s)) ∧ Ok w w'
  frontStamp : ∀ (R : List Value) (g : Nat) (p : Par) (s : Sta) (A : Option Addr) (cap : Nat) (w : World) (h : Own w g (frontCellsR R p s A cap)), Calls Tryz.prog 82 #[.pointer (some ⟨g, 0, none⟩)] w fun e w' => e = .returned (.tuple #[stV (Hlc.tick (s.st, s.sn) s.time), .int .i64 0]) ∧ Own w' g (frontCellsR R p (Health.stamped s) A cap) ∧ Only g w w'
  frontListen : ∀ (R : List Value) (g : Nat) (p : Par) (s : Sta) (A : Option Addr) (cap : Nat) (x : Int × Int) (w : World) (h : Own w g (frontCellsR R p s A cap)), Calls Tryz.prog 80 #[.pointer (some ⟨g, 0, none⟩), stV x] w fun e w' => e = .returned (.tuple #[]) ∧ Own w' g (frontCellsR R p (Health.listen p s x) A cap) ∧ Only g w w'
  frontStep : ∀ (R : List Value) (g : Nat) (p : Par) (s : Sta) (A : Option Addr) (cap : Nat) (ticks : Int) (u : Sta) (C : Option Addr) (cup : Nat) (w : World) (h : Own w g (frontCellsR R p s A cap)) (hC : PairsAt w C u.table) (hl : u.table.length ≤ 9223372036854775807), Calls Tryz.prog 32 #[.pointer (some ⟨g, 0, none⟩), .int .i64 ticks, staV u C cup] w fun e w' => e = .returned (.tuple #[]) ∧ ∃ (A2 : Option Addr) (c2 : Nat), Own w' g (frontCellsR R p (Health.step p s ticks u) A2 c2) ∧ PairsOf w.heap.size w' A2 (Health.step p s ticks u).table ∧ Only g w w'
end Go.Proofs.YtmokofblmkeloaaGreatDoor
namespace Go.Proofs.YtmokofblmkeloaaGreatDoor
open Go.RowKit Go.WideShapes Go.ChangeShapes Go.Joins Go.Deep
theorem IntsAt.src {w : World} {A : Option Addr} {l : List Int} (h : IntsAt w A l) (h0 : 0 < l.length) : ∃ ad, A = some ad ∧ ∀ j u, (l.map (Value.int .i64))[j]? = some u → w.cell? (ad.add j) = some u := by
  obtain ⟨b, off, hA, _⟩ := h 0 h0
  refine ⟨⟨b, off, none⟩, hA, fun j u hj => ?_⟩
  have hlt : j < l.length := by have := (List.getElem?_eq_some_iff.1 hj).1; simpa using this
  obtain ⟨b', off', e, _, hc⟩ := h j hlt
  rw [hA] at e
  cases e
  rw [Go.WideShapes.add_plain, hc]
  rw [List.getElem?_map, List.getElem?_eq_getElem hlt] at hj
  simpa using hj
/-- append of integers that came in, nil or not, to a row of one's own. -/
theorem wpList_append_ints {P : Program} {w : World} {ops : Array Oper} {rest : List Oper} {o : Oper} {a : Act} {Q : Exit → Act → World → Prop} (hgd : o.guard = none) (s x : Operand) (t : TypeId)
    (ho : o.op = .call { callee := .builtin .append, args := #[s, x], argTypes := #[t, t] })
    (base : Nat) (e : TypeId) (ht : P.underlying t = some (.slice e)) (hi : (P.info? e).map (fun i => (i.zero, i.size, i.bytes)) = some (some (.int .i64 0), 1, 8))
    (v : Value) (xs : List Int) (n : Nat) (hn : n = xs.length) (hs : a.eval s = v) (hown : w.ownsRow base e 1 v n (xs.map (Value.int .i64))) (A : Option Addr) (l : List Int) (m c : Nat) (hm : m = l.length) (hx : a.eval x = .slice A m c) (hA : IntsAt w A l)
    (h63 : xs.length + l.length ≤ 1099511627776) (hbase : base ≤ w.heap.size)
    (h : ∀ v' w', w'.ownsRow base e 1 v' (xs ++ l).length ((xs ++ l).map (Value.int .i64)) → w.grownBy w' v.ownBlock → wpList P ops Q rest (a.put o.dst v') w') : wpList P ops Q (o :: rest) a w := by
  subst hn
  subst hm
  obtain ⟨i, i0, i1, i2, i3⟩ := info_parts hi
  cases A with
  | some ad =>
    refine wpList_append_own w hgd s x t ho base e i (.int .i64 0) 1 8 ht i0 i1 i2 i3 rfl (by decide) v xs.length (xs.map (Value.int .i64)) hs hown ad l.length c (l.map (Value.int .i64)) hx (by simp) (fun j u hj => ?_) (fun u hu => by obtain ⟨y, _, rfl⟩ := List.mem_map.1 hu; rfl) (by unfold maxLen; omega) (by omega) hbase fun v' w' h1 h2 _ => h v' w' (by rw [List.length_append, List.map_append]; exact h1) h2
    have hlt : j < l.length := by have := (List.getElem?_eq_some_iff.1 hj).1; simpa using this
    obtain ⟨ad', e, hsrc⟩ := hA.src (by omega)
    cases e
    exact hsrc j u hj
  | none =>
    have hl : l = [] := by
      cases l with
      | nil => rfl
      | cons b l => obtain ⟨_, _, e, _⟩ := hA 0 (by simp); cases e
    subst hl
    refine wpList_plain hgd fun K hK => ?_
    have hrun : (Builtin.append_ #[t, t] o.type #[v, .slice none 0 c]).run P w = .ok v w := by
      rcases hown.2 with ⟨rfl, _⟩ | ⟨g, cap, cur, rfl, _, _, hnc, _⟩
      · simp [Builtin.append_, run_underlying ht, Go.sizeOf, typeInfo, i0, Builtin.lenOf, Builtin.firstCells]
      · simp [Builtin.append_, run_underlying ht, Go.sizeOf, typeInfo, i0, Builtin.lenOf, Builtin.firstCells, hnc, storeCells]
    have hk := h v w (by simpa using hown) ⟨rfl, rfl, rfl, Nat.le_refl _, fun _ _ _ => rfl⟩
    unfold Oper.wp
    simp at hx
    simp [execOp, ho, resolve, invoke, builtin, hs, hx, hrun, Result.andThen]
    exact hK _ _ hk
/-- The slice with address A reads, in world w, as the truth values l. -/
def BoolsAt (w : World) (A : Option Addr) (l : List Bool) : Prop :=
  ∀ k (h : k < l.length), ∃ b off, A = some ⟨b, off, none⟩ ∧ b < w.heap.size ∧ w.cell? ⟨b, off + k, none⟩ = some (.bool l[k])
theorem BoolsAt.below {w w' : World} {A : Option Addr} {l : List Bool} (h : BoolsAt w A l) (hb : Ok w w') : BoolsAt w' A l := fun k hk => by
  obtain ⟨b, off, hA, hlt, hc⟩ := h k hk
  exact ⟨b, off, hA, Nat.lt_of_lt_of_le hlt hb.size, (hb.cell (p := ⟨b, off + k, none⟩) hlt).trans hc⟩
section
variable {H : Type} {enc : TypeId × Value → H} {P : Program} {w : World} {base : Nat}
end
end Go.Proofs.YtmokofblmkeloaaGreatDoor
namespace Go.Proofs.YtmokofblmkeloaaGreatDoor
open Go
section
variable {P : Program} {ops : Array Oper} {Q : Exit → Act → World → Prop}
/-- A guarded operation of the tail that leaves a value. -/
theorem wpOp_leavesG {i : Nat} {o : Oper} {K : Act → World → Prop} {a : Act} {w w' : World} {v : Value} (ho : ops[i]? = some o) (hg : Region.wanted o (yielded ops a.tmps) = true) (hr : (execOp a.eval o).run P w = .ok (.value v) w') (hK : K (a.put o.dst v) w') : wpOp P ops Q i K a w := by
  refine wpOp_step ho fun K' h => ?_
  rw [if_pos hg]
  unfold Oper.wp
  rw [hr, Oper.upon_value]
  exact h _ _ hK
/-- A guarded call among the last operations, by its contract. -/
theorem wpOp_entersG {i : Nat} {o : Oper} {K : Act → World → Prop} {a : Act} {w : World} {f : FuncId} {args : Array Value} (ho : ops[i]? = some o) (hg : Region.wanted o (yielded ops a.tmps) = true) (hr : (execOp a.eval o).run P w = .ok (.enter f args) w)
    (hc : Calls P f args w fun e w' => ∃ v, e = .returned v ∧ K (a.put o.dst v) w') : wpOp P ops Q i K a w := by
  refine wpOp_step ho fun K' h => ?_
  rw [if_pos hg]
  unfold Oper.wp
  rw [hr, Oper.upon_enter]
  refine hc.mono fun e w' h2 => ?_
  obtain ⟨v, rfl, hv⟩ := h2
  exact h _ _ hv
end
end Go.Proofs.YtmokofblmkeloaaGreatDoor
namespace Go.Proofs.YtmokofblmkeloaaGreatDoor
/-- The block N stays as it is, or turns from c0 to c1; no other block that was there changes. -/
structure Turned (N : Nat) (c0 c1 : Array Value) (w w' : World) : Prop where
  only : Only N w w'
  a : Own w N c0 → Own w' N c0 ∨ Own w' N c1
  b : Own w N c1 → Own w' N c1
namespace Turned
variable {N : Nat} {c0 c1 : Array Value} {w w1 w2 : World}
theorem of_ok (k : Ok w w1) : Turned N c0 c1 w w1 := ⟨Only.of_ok k, fun h => .inl (h.next k), fun h => h.next k⟩
theorem refl (w : World) : Turned N c0 c1 w w := of_ok (Ok.refl w)
theorem trans (h : Turned N c0 c1 w w1) (j : Turned N c0 c1 w1 w2) : Turned N c0 c1 w w2 := ⟨h.only.trans j.only, fun k => by
  rcases h.a k with g | g
  · exact j.a g
  · exact .inr (j.b g), fun k => j.b (h.b k)⟩
end Turned
/-- While the store hasn't run the block is as it was; it runs behind what writes the slot d. -/
def TurnI (N : Nat) (c0 c1 : Array Value) (d : Nat) (u : Value) (a : Act) (w : World) : Prop := Own w N c0 ∨ Own w N c1 ∧ a.tmps[d]? = some u
theorem TurnI.put {N : Nat} {c0 c1 : Array Value} {d e : Nat} {u v : Value} {a : Act} {w w' : World} (h : TurnI N c0 c1 d u a w) (k : Ok w w') (hd : e ≠ d) : TurnI N c0 c1 d u (a.put (some e) v) w' := by
  rcases h with h | ⟨h1, h2⟩
  · exact .inl (h.next k)
  · exact .inr ⟨h1.next k, by rw [put_other (by simpa using hd)]; exact h2⟩
end Go.Proofs.YtmokofblmkeloaaGreatDoor
namespace Go.Proofs.YtmokofblmkeloaaGreatDoor
open Go.RowKit Go.WideShapes Go.ChangeShapes Go.Joins Go.Deep
set_option maxRecDepth 100000
/-- A message, and where its table lies. -/
structure MA where
  m : Msg
  A : Option Addr
  cap : Nat
/-- No message. -/
def noMA : MA := ⟨zeroMsg, none, 0⟩
def nth (l : List MA) (k : Nat) : MA := l.getD k noMA
theorem nth_eq {l : List MA} {k : Nat} (h : k < l.length) : nth l k = l[k] := by
  unfold nth
  rw [List.getD_eq_getElem?_getD, List.getElem?_eq_getElem h]
  rfl
theorem nth_mem {l : List MA} {k : Nat} (h : k < l.length) : nth l k ∈ l := by rw [nth_eq h]; exact List.getElem_mem h
def maL (x : MA) : List Value := (msgCells x.m x.A x.cap).toList
theorem maL_len (x : MA) : (maL x).length = 14 := rfl
/-- The slice at B reads as these messages. -/
structure MsgsAt (w : World) (B : Option Addr) (l : List MA) : Prop where
  cells : CellsAt w B (l.flatMap maL)
  tabs : ∀ x ∈ l, PairsAt w x.A x.m.table
namespace MsgsAt
variable {w w' : World} {B : Option Addr} {l : List MA}
theorem below (h : MsgsAt w B l) (k : Ok w w') : MsgsAt w' B l := ⟨h.cells.below k, fun x hx => (h.tabs x hx).below k⟩
theorem empty (w : World) (B : Option Addr) : MsgsAt w B [] := ⟨CellsAt.empty _ _, by simp⟩
theorem nthAt (h : MsgsAt w B l) (k : Nat) (hk : k < l.length) : ∃ b off, B = some ⟨b, off, none⟩ ∧ b < w.heap.size ∧ w.cell? ⟨b, off + k * 14, none⟩ = some (.int .i64 (nth l k).m.kind) ∧ w.cell? ⟨b, off + k * 14 + 1, none⟩ = some (.int .i64 (nth l k).m.frm) ∧ w.cell? ⟨b, off + k * 14 + 2, none⟩ = some (.int .i64 (nth l k).m.lo) ∧ w.cell? ⟨b, off + k * 14 + 3, none⟩ = some (.int .i64 (nth l k).m.hi) ∧ w.cell? ⟨b, off + k * 14 + 4, none⟩ = some (.int .i64 (nth l k).m.held) ∧ w.cell? ⟨b, off + k * 14 + 5, none⟩ = some (.int .i64 (nth l k).m.hops) ∧ w.cell? ⟨b, off + k * 14 + 6, none⟩ = some (.bool (nth l k).m.good) ∧ w.cell? ⟨b, off + k * 14 + 7, none⟩ = some (.bool (nth l k).m.ref) ∧ w.cell? ⟨b, off + k * 14 + 8, none⟩ = some (.int .i64 (nth l k).m.slo) ∧ w.cell? ⟨b, off + k * 14 + 9, none⟩ = some (.int .i64 (nth l k).m.shi) ∧ w.cell? ⟨b, off + k * 14 + 10, none⟩ = some (.int .i64 (nth l k).m.pulse) ∧ w.cell? ⟨b, off + k * 14 + 11, none⟩ = some (.int .i64 (nth l k).m.time) ∧ w.cell? ⟨b, off + k * 14 + 12, none⟩ = some (.int .i64 (nth l k).m.num) ∧ w.cell? ⟨b, off + k * 14 + 13, none⟩ = some (.slice (nth l k).A (nth l k).m.table.length (nth l k).cap) := by
  obtain ⟨b, off, e, hlt, hc⟩ := h.cells.at maL_len (by decide) k hk
  rw [nth_eq hk]
  exact ⟨b, off, e, hlt, hc 0 _ rfl, hc 1 _ rfl, hc 2 _ rfl, hc 3 _ rfl, hc 4 _ rfl, hc 5 _ rfl, hc 6 _ rfl, hc 7 _ rfl, hc 8 _ rfl, hc 9 _ rfl, hc 10 _ rfl, hc 11 _ rfl, hc 12 _ rfl, hc 13 _ rfl⟩
end MsgsAt
theorem Own.msg {w : World} {g : Nat} {m : Msg} {A : Option Addr} {c : Nat} (h : Own w g (msgCells m A c)) : w.cell? ⟨g, 0, none⟩ = some (.int .i64 m.kind) ∧ w.cell? ⟨g, 1, none⟩ = some (.int .i64 m.frm) ∧ w.cell? ⟨g, 2, none⟩ = some (.int .i64 m.lo) ∧ w.cell? ⟨g, 3, none⟩ = some (.int .i64 m.hi) ∧ w.cell? ⟨g, 4, none⟩ = some (.int .i64 m.held) ∧ w.cell? ⟨g, 5, none⟩ = some (.int .i64 m.hops) ∧ w.cell? ⟨g, 6, none⟩ = some (.bool m.good) ∧ w.cell? ⟨g, 7, none⟩ = some (.bool m.ref) ∧ w.cell? ⟨g, 8, none⟩ = some (.int .i64 m.slo) ∧ w.cell? ⟨g, 9, none⟩ = some (.int .i64 m.shi) ∧ w.cell? ⟨g, 10, none⟩ = some (.int .i64 m.pulse) ∧ w.cell? ⟨g, 11, none⟩ = some (.int .i64 m.time) ∧ w.cell? ⟨g, 12, none⟩ = some (.int .i64 m.num) ∧ w.cell? ⟨g, 13, none⟩ = some (.slice A m.table.length c) :=
  ⟨h.cell 0 rfl, h.cell 1 rfl, h.cell 2 rfl, h.cell 3 rfl, h.cell 4 rfl, h.cell 5 rfl, h.cell 6 rfl, h.cell 7 rfl, h.cell 8 rfl, h.cell 9 rfl, h.cell 10 rfl, h.cell 11 rfl, h.cell 12 rfl, h.cell 13 rfl⟩
theorem Own.frozen14 {w : World} {g : Nat} {cs : Array Value} (h : Own w g cs) : w.frozen? ⟨g, 0, none⟩ = false ∧ w.frozen? ⟨g, 1, none⟩ = false ∧ w.frozen? ⟨g, 2, none⟩ = false ∧ w.frozen? ⟨g, 3, none⟩ = false ∧ w.frozen? ⟨g, 4, none⟩ = false ∧ w.frozen? ⟨g, 5, none⟩ = false ∧ w.frozen? ⟨g, 6, none⟩ = false ∧ w.frozen? ⟨g, 7, none⟩ = false ∧ w.frozen? ⟨g, 8, none⟩ = false ∧ w.frozen? ⟨g, 9, none⟩ = false ∧ w.frozen? ⟨g, 10, none⟩ = false ∧ w.frozen? ⟨g, 11, none⟩ = false ∧ w.frozen? ⟨g, 12, none⟩ = false ∧ w.frozen? ⟨g, 13, none⟩ = false :=
  ⟨h.frozen 0, h.frozen 1, h.frozen 2, h.frozen 3, h.frozen 4, h.frozen 5, h.frozen 6, h.frozen 7, h.frozen 8, h.frozen 9, h.frozen 10, h.frozen 11, h.frozen 12, h.frozen 13⟩
/-- A message is stored over another. -/
theorem own_set14 {w : World} {g : Nat} {n : Msg} {B : Option Addr} {d : Nat} (h : Own w g (msgCells n B d)) (m : Msg) (A : Option Addr) (c : Nat) : Own ((((((((((((((w.setCell ⟨g, 0, none⟩ (.int .i64 m.kind)).setCell ⟨g, 1, none⟩ (.int .i64 m.frm)).setCell ⟨g, 2, none⟩ (.int .i64 m.lo)).setCell ⟨g, 3, none⟩ (.int .i64 m.hi)).setCell ⟨g, 4, none⟩ (.int .i64 m.held)).setCell ⟨g, 5, none⟩ (.int .i64 m.hops)).setCell ⟨g, 6, none⟩ (.bool m.good)).setCell ⟨g, 7, none⟩ (.bool m.ref)).setCell ⟨g, 8, none⟩ (.int .i64 m.slo)).setCell ⟨g, 9, none⟩ (.int .i64 m.shi)).setCell ⟨g, 10, none⟩ (.int .i64 m.pulse)).setCell ⟨g, 11, none⟩ (.int .i64 m.time)).setCell ⟨g, 12, none⟩ (.int .i64 m.num)).setCell ⟨g, 13, none⟩ (.slice A m.table.length c)) g (msgCells m A c) := by
  have e : (((((((((((((((msgCells n B d)).set! 0 (.int .i64 m.kind)).set! 1 (.int .i64 m.frm)).set! 2 (.int .i64 m.lo)).set! 3 (.int .i64 m.hi)).set! 4 (.int .i64 m.held)).set! 5 (.int .i64 m.hops)).set! 6 (.bool m.good)).set! 7 (.bool m.ref)).set! 8 (.int .i64 m.slo)).set! 9 (.int .i64 m.shi)).set! 10 (.int .i64 m.pulse)).set! 11 (.int .i64 m.time)).set! 12 (.int .i64 m.num)).set! 13 (.slice A m.table.length c) = msgCells m A c := by simp [msgCells]
  rw [← e]
  exact (((((((((((((h.set 0 (.int .i64 m.kind)).set 1 (.int .i64 m.frm)).set 2 (.int .i64 m.lo)).set 3 (.int .i64 m.hi)).set 4 (.int .i64 m.held)).set 5 (.int .i64 m.hops)).set 6 (.bool m.good)).set 7 (.bool m.ref)).set 8 (.int .i64 m.slo)).set 9 (.int .i64 m.shi)).set 10 (.int .i64 m.pulse)).set 11 (.int .i64 m.time)).set 12 (.int .i64 m.num)).set 13 (.slice A m.table.length c)
theorem only_set14 {w W : World} {g : Nat} (h : Only g w W) (m : Msg) (A : Option Addr) (c : Nat) : Only g w ((((((((((((((W.setCell ⟨g, 0, none⟩ (.int .i64 m.kind)).setCell ⟨g, 1, none⟩ (.int .i64 m.frm)).setCell ⟨g, 2, none⟩ (.int .i64 m.lo)).setCell ⟨g, 3, none⟩ (.int .i64 m.hi)).setCell ⟨g, 4, none⟩ (.int .i64 m.held)).setCell ⟨g, 5, none⟩ (.int .i64 m.hops)).setCell ⟨g, 6, none⟩ (.bool m.good)).setCell ⟨g, 7, none⟩ (.bool m.ref)).setCell ⟨g, 8, none⟩ (.int .i64 m.slo)).setCell ⟨g, 9, none⟩ (.int .i64 m.shi)).setCell ⟨g, 10, none⟩ (.int .i64 m.pulse)).setCell ⟨g, 11, none⟩ (.int .i64 m.time)).setCell ⟨g, 12, none⟩ (.int .i64 m.num)).setCell ⟨g, 13, none⟩ (.slice A m.table.length c)) :=
  (((((((((((((h.setR 0 (.int .i64 m.kind)).setR 1 (.int .i64 m.frm)).setR 2 (.int .i64 m.lo)).setR 3 (.int .i64 m.hi)).setR 4 (.int .i64 m.held)).setR 5 (.int .i64 m.hops)).setR 6 (.bool m.good)).setR 7 (.bool m.ref)).setR 8 (.int .i64 m.slo)).setR 9 (.int .i64 m.shi)).setR 10 (.int .i64 m.pulse)).setR 11 (.int .i64 m.time)).setR 12 (.int .i64 m.num)).setR 13 (.slice A m.table.length c)
theorem pairs_only {r : Nat} {w w1 : World} {A : Option Addr} {l : List (Int × Int)} (h : PairsAt w A l) (k : Only r w w1) (hA : ∀ a, A = some a → a.block ≠ r) : PairsAt w1 A l := fun j hj => by
  obtain ⟨b, off, e, hlt, hc, hd⟩ := h j hj
  exact ⟨b, off, e, Nat.lt_of_lt_of_le hlt k.size, (k.cell (p := ⟨b, off + j * 2, none⟩) hlt (show b ≠ r from hA _ e)).trans hc, (k.cell (p := ⟨b, off + j * 2 + 1, none⟩) hlt (show b ≠ r from hA _ e)).trans hd⟩
section
variable {H : Type} {enc : TypeId × Value → H} {P : Program} {w : World} {base : Nat}
end
end Go.Proofs.YtmokofblmkeloaaGreatDoor
namespace Go.Proofs.YtmokofblmkeloaaGreatDoor
open Go.RowKit Go.WideShapes Go.ChangeShapes Go.Joins Go.Deep
theorem row_form {w : World} {B : Nat} {e : TypeId} {k n : Nat} {v : Value} {cs : List Value} (h : w.ownsRow B e k v n cs) : ∃ A cap, v = .slice A n cap ∧ n ≤ cap ∧ cap ≤ maxLen ∧ ∀ a, A = some a → B ≤ a.block ∧ a.block < w.heap.size := by
  have hx := h
  rcases h.2 with ⟨rfl, rfl⟩ | ⟨g, cap, cur, rfl, hb, hh, h1, h2, r⟩
  · exact ⟨none, 0, rfl, Nat.le_refl _, Nat.zero_le _, by simp⟩
  · refine ⟨_, cap, rfl, h1, h2, fun a ha => ?_⟩
    cases ha
    exact hx.lt g rfl
section
variable {P : Program} {w : World}
end
end Go.Proofs.YtmokofblmkeloaaGreatDoor
namespace Go.Proofs.YtmokofblmkeloaaGreatDoor
open Go.RowKit
set_option maxRecDepth 100000
attribute [local go_sem ↓] Go.wp_at_zero Go.wp_at_succ
/-- The tables alone. -/
def lists (ts : List TA) : List (List (Int × Int)) := ts.map TA.l
end Go.Proofs.YtmokofblmkeloaaGreatDoor
