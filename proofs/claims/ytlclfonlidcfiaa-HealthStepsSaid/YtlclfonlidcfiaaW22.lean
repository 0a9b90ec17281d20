/- Words of my own: a call that changes one block alone of those that were there; rings of items in a block. -/
import Derived.Test.YtlclfonlidcfiaaW20
import Derived.Test.YtlclfonlidcfiaaWA
import Derived.Maps.Range
namespace Go.Proofs.Ytlclfonlidcfiaa
open Go.RowKit
/-- Of the blocks that were there only r may have changed. -/
structure Only (r : Nat) (w w' : World) : Prop where
  os : w'.os = w.os
  tape : w'.tape = w.tape
  output : w'.output = w.output
  size : w.heap.size ≤ w'.heap.size
  block : ∀ k, k < w.heap.size → k ≠ r → w'.heap[k]? = w.heap[k]?
namespace Only
variable {r : Nat} {w w1 w2 : World}
theorem refl (r : Nat) (w : World) : Only r w w := ⟨rfl, rfl, rfl, Nat.le_refl _, fun _ _ _ => rfl⟩
theorem ok (h : Only r w w1) (k : Ok w1 w2) : Only r w w2 := ⟨k.below.os.trans h.os, k.below.tape.trans h.tape, k.below.output.trans h.output, Nat.le_trans h.size k.size, fun i a b => (k.below.block i (Nat.lt_of_lt_of_le a h.size)).trans (h.block i a b)⟩
theorem of_ok (k : Ok w w1) : Only r w w1 := (refl r w).ok k
theorem trans (h : Only r w w1) (k : Only r w1 w2) : Only r w w2 := ⟨k.os.trans h.os, k.tape.trans h.tape, k.output.trans h.output, Nat.le_trans h.size k.size, fun i a b => (k.block i (Nat.lt_of_lt_of_le a h.size) b).trans (h.block i a b)⟩
theorem set (h : Only r w w1) {a : Addr} (ha : a.block = r ∨ w.heap.size ≤ a.block) (v : Value) : Only r w (w1.setCell a v) :=
  ⟨h.os, h.tape, h.output, by simpa using h.size, fun i h1 h2 => (Below.heap_setCell w1 a v i (by rcases ha with e | e <;> omega)).trans (h.block i h1 h2)⟩
theorem setR (h : Only r w w1) (k : Nat) (v : Value) : Only r w (w1.setCell ⟨r, k, none⟩ v) := h.set (.inl rfl) v
theorem setN (h : Only r w w1) {b : Nat} (hb : w.heap.size ≤ b) (k : Nat) (v : Value) : Only r w (w1.setCell ⟨b, k, none⟩ v) := h.set (.inr hb) v
theorem alloc (h : Only r w w1) (o : Obj) : Only r w (w1.alloc o) := h.ok ((Ok.refl _).alloc o)
theorem grow (h : Only r w w1) {row : Option Nat} (g : w1.grownBy w2 row) (hr : ∀ k, row = some k → k = r ∨ w.heap.size ≤ k) : Only r w w2 :=
  ⟨g.os.trans h.os, g.tape.trans h.tape, g.output.trans h.output, Nat.le_trans h.size g.size, fun i a b => (g.block i (Nat.lt_of_lt_of_le a h.size) (fun e => by have := hr i e.symm; omega)).trans (h.block i a b)⟩
theorem own (h : Only r w w1) {g : Nat} {cs : Array Value} (hO : Own w g cs) (h1 : g ≠ r) : Own w1 g cs := by
  have hl := hO.lt
  obtain ⟨t, ht⟩ := hO
  exact ⟨t, (h.block g hl h1).trans ht⟩
theorem cell (h : Only r w w1) {p : Addr} (h1 : p.block < w.heap.size) (h2 : p.block ≠ r) : w1.cell? p = w.cell? p := World.cell?_of_block (h.block _ h1 h2)
theorem cells (h : Only r w w1) {A : Option Addr} {cs : List Value} (hA : CellsAt w A cs) (hr : ∀ a, A = some a → a.block ≠ r) : CellsAt w1 A cs := fun j u hj => by
  obtain ⟨b, off, e, hlt, hc⟩ := hA j u hj
  exact ⟨b, off, e, Nat.lt_of_lt_of_le hlt h.size, (h.cell (p := ⟨b, off + j, none⟩) hlt (show b ≠ r from hr ⟨b, off, none⟩ e)).trans hc⟩
/-- What changes only a block of one's own changes nothing that came in. -/
theorem then_ok {w0 : World} (h0 : Ok w0 w) (h : Only r w w1) (hr : w0.heap.size ≤ r) : Ok w0 w1 :=
  ⟨h.os.trans h0.below.os, h.tape.trans h0.below.tape, h.output.trans h0.below.output, Nat.le_trans h0.size h.size, fun i hi => (h.block i (Nat.lt_of_lt_of_le hi h0.size) (by omega)).trans (h0.below.block i hi)⟩
end Only
/-- What waits in a ring at the cell o of a block, the first at the place f. -/
structure Ring (cs : Array Value) (o f : Nat) (l : List (ByteArray × Int)) : Prop where
  hf : f < 64
  hl : l.length ≤ 64
  hs : o + 130 ≤ cs.size
  first : cs[o + 128]? = some (.int .i64 (f : Nat))
  count : cs[o + 129]? = some (.int .i64 (l.length : Nat))
  text : ∀ i (h : i < l.length), cs[o + (f + i) % 64 * 2]? = some (.string l[i].1)
  age : ∀ i (h : i < l.length), cs[o + (f + i) % 64 * 2 + 1]? = some (.int .i64 l[i].2)
/-- All but the ring at o is as it was. -/
structure Aside (o : Nat) (cs cs' : Array Value) : Prop where
  size : cs'.size = cs.size
  far : ∀ k, k < o ∨ o + 130 ≤ k → cs'[k]? = cs[k]?
theorem set_at (cs : Array Value) (k j : Nat) (v : Value) (hk : k < cs.size) : (cs.set! k v)[j]? = if k = j then some v else cs[j]? := by
  rw [Array.set!_eq_setIfInBounds, Array.getElem?_setIfInBounds]
  by_cases h : k = j
  · subst h; simp [hk]
  · simp [h]
theorem set_same (cs : Array Value) (k : Nat) (v : Value) (hk : k < cs.size) : (cs.set! k v)[k]? = some v := by rw [set_at _ _ _ _ hk, if_pos rfl]
theorem set_else (cs : Array Value) {k j : Nat} (v : Value) (h : k ≠ j) : (cs.set! k v)[j]? = cs[j]? := by
  rw [Array.set!_eq_setIfInBounds, Array.getElem?_setIfInBounds]
  simp [h]
theorem set_size (cs : Array Value) (k : Nat) (v : Value) : (cs.set! k v).size = cs.size := by simp
namespace Aside
variable {o : Nat} {cs cs1 cs2 : Array Value}
theorem refl (o : Nat) (cs : Array Value) : Aside o cs cs := ⟨rfl, fun _ _ => rfl⟩
theorem trans (h : Aside o cs cs1) (k : Aside o cs1 cs2) : Aside o cs cs2 := ⟨k.size.trans h.size, fun i hi => (k.far i hi).trans (h.far i hi)⟩
theorem set (h : Aside o cs cs1) {k : Nat} (h1 : o ≤ k) (h2 : k < o + 130) (v : Value) : Aside o cs (cs1.set! k v) :=
  ⟨by rw [set_size]; exact h.size, fun i hi => by rw [set_else _ _ (by omega)]; exact h.far i hi⟩
theorem ring (h : Aside o cs cs1) {o' f : Nat} {l : List (ByteArray × Int)} (hR : Ring cs o' f l) (ho : o' + 130 ≤ o ∨ o + 130 ≤ o') : Ring cs1 o' f l := by
  obtain ⟨h1, h2, h3, h4, h5, h6, h7⟩ := hR
  refine ⟨h1, h2, by rw [h.size]; exact h3, (h.far _ (by omega)).trans h4, (h.far _ (by omega)).trans h5, fun i hi => ?_, fun i hi => ?_⟩
  · exact (h.far _ (by omega)).trans (h6 i hi)
  · exact (h.far _ (by omega)).trans (h7 i hi)
end Aside
namespace Ring
variable {cs : Array Value} {o f : Nat} {l : List (ByteArray × Int)}
/-- The first is taken out. -/
theorem pop {x : ByteArray × Int} (h : Ring cs o f (x :: l)) (u v : Value) :
    Ring ((((cs.set! (o + f * 2) u).set! (o + f * 2 + 1) v).set! (o + 128) (.int .i64 (((f + 1) % 64 : Nat) : Int))).set! (o + 129) (.int .i64 (l.length : Nat))) o ((f + 1) % 64) l := by
  obtain ⟨h1, h2, h3, h4, h5, h6, h7⟩ := h
  simp only [List.length_cons] at h2
  refine ⟨Nat.mod_lt _ (by decide), by omega, by simp only [set_size]; exact h3, ?_, ?_, fun i hi => ?_, fun i hi => ?_⟩
  · rw [set_else _ _ (by omega), set_same _ _ _ (by simp only [set_size]; omega)]
  · rw [set_same _ _ _ (by simp only [set_size]; omega)]
  · have := h6 (i + 1) (by simpa using hi)
    rw [set_else _ _ (by omega), set_else _ _ (by omega), set_else _ _ (by omega), set_else _ _ (by omega), show ((f + 1) % 64 + i) % 64 = (f + (i + 1)) % 64 by omega, this]
    rfl
  · have := h7 (i + 1) (by simpa using hi)
    rw [set_else _ _ (by omega), set_else _ _ (by omega), set_else _ _ (by omega), set_else _ _ (by omega), show ((f + 1) % 64 + i) % 64 = (f + (i + 1)) % 64 by omega, this]
    rfl
theorem pop_aside (cs : Array Value) (o f : Nat) (hf : f < 64) (a b u v : Value) : Aside o cs ((((cs.set! (o + f * 2) u).set! (o + f * 2 + 1) v).set! (o + 128) a).set! (o + 129) b) :=
  ((((Aside.refl o cs).set (by omega) (by omega) _).set (by omega) (by omega) _).set (by omega) (by omega) _).set (by omega) (by omega) _
/-- One more waits. -/
theorem push (h : Ring cs o f l) (hl : l.length < 64) (s : ByteArray) :
    Ring (((cs.set! (o + (f + l.length) % 64 * 2) (.string s)).set! (o + (f + l.length) % 64 * 2 + 1) (.int .i64 0)).set! (o + 129) (.int .i64 ((l.length + 1 : Nat) : Int))) o f (l ++ [(s, 0)]) := by
  obtain ⟨h1, h2, h3, h4, h5, h6, h7⟩ := h
  refine ⟨h1, by simp; omega, by simp only [set_size]; exact h3, ?_, ?_, fun i hi => ?_, fun i hi => ?_⟩
  · rw [set_else _ _ (by omega), set_else _ _ (by omega), set_else _ _ (by omega), h4]
  · rw [set_same _ _ _ (by simp only [set_size]; omega)]; simp
  · simp only [List.length_append, List.length_cons, List.length_nil] at hi
    by_cases e : i = l.length
    · subst e
      rw [set_else _ _ (by omega), set_else _ _ (by omega), set_same _ _ _ (by omega)]
      simp
    · rw [set_else _ _ (by omega), set_else _ _ (by omega), set_else _ _ (by omega), h6 i (by omega)]
      simp [List.getElem_append_left (show i < l.length by omega)]
  · simp only [List.length_append, List.length_cons, List.length_nil] at hi
    by_cases e : i = l.length
    · subst e
      rw [set_else _ _ (by omega), set_same _ _ _ (by simp only [set_size]; omega)]
      simp
    · rw [set_else _ _ (by omega), set_else _ _ (by omega), set_else _ _ (by omega), h7 i (by omega)]
      simp [List.getElem_append_left (show i < l.length by omega)]
theorem push_aside (cs : Array Value) (o f n : Nat) (a u v : Value) : Aside o cs (((cs.set! (o + (f + n) % 64 * 2) u).set! (o + (f + n) % 64 * 2 + 1) v).set! (o + 129) a) :=
  (((Aside.refl o cs).set (by omega) (by omega) _).set (by omega) (by omega) _).set (by omega) (by omega) _
/-- One is older. -/
theorem older (h : Ring cs o f l) (k : Nat) (hk : k < l.length) (a : Int) :
    Ring (cs.set! (o + (f + k) % 64 * 2 + 1) (.int .i64 a)) o f (l.set k (l[k].1, a)) := by
  obtain ⟨h1, h2, h3, h4, h5, h6, h7⟩ := h
  refine ⟨h1, by simpa using h2, by simp only [set_size]; exact h3, ?_, ?_, fun i hi => ?_, fun i hi => ?_⟩
  · rw [set_else _ _ (by omega), h4]
  · rw [set_else _ _ (by omega), h5]; simp
  · simp only [List.length_set] at hi
    rw [set_else _ _ (by omega), h6 i hi, List.getElem_set]
    by_cases e : k = i
    · subst e; simp
    · simp [e]
  · simp only [List.length_set] at hi
    by_cases e : k = i
    · subst e
      rw [set_same _ _ _ (by omega)]
      simp
    · rw [set_else _ _ (by omega), h7 i hi, List.getElem_set]
      simp [e]
end Ring
/-- 48 rings. -/
structure Laid (cs : Array Value) (q : Nat → List (ByteArray × Int)) : Prop where
  size : cs.size = 6240
  ring : ∀ w, w < 48 → ∃ f, Ring cs (w * 130) f (q w)
theorem Laid.turn {cs cs' : Array Value} {q : Nat → List (ByteArray × Int)} (h : Laid cs q) (w : Nat) {l : List (ByteArray × Int)} (hA : Aside (w * 130) cs cs') (hR : ∃ f, Ring cs' (w * 130) f l) : Laid cs' (fun k => if k = w then l else q k) := by
  refine ⟨hA.size.trans h.size, fun k hk => ?_⟩
  by_cases e : k = w
  · subst e; rw [if_pos rfl]; exact hR
  · rw [if_neg e]
    obtain ⟨f, hf⟩ := h.ring k hk
    exact ⟨f, hA.ring hf (by omega)⟩
theorem Laid.congr {cs : Array Value} {q q' : Nat → List (ByteArray × Int)} (h : Laid cs q) (e : ∀ k, k < 48 → q' k = q k) : Laid cs q' := ⟨h.size, fun k hk => by rw [e k hk]; exact h.ring k hk⟩
/-- In block g are lanes, in which waits what q says. -/
def LanesAt (w : World) (g : Nat) (q : Nat → List (ByteArray × Int)) : Prop := ∃ cs, Own w g cs ∧ Laid cs q
namespace LanesAt
variable {w w1 : World} {g r : Nat} {q q' : Nat → List (ByteArray × Int)}
theorem next (h : LanesAt w g q) (k : Ok w w1) : LanesAt w1 g q := by
  obtain ⟨cs, hO, hL⟩ := h
  exact ⟨cs, hO.next k, hL⟩
theorem only (h : LanesAt w g q) (k : Only r w w1) (hr : g ≠ r) : LanesAt w1 g q := by
  obtain ⟨cs, hO, hL⟩ := h
  exact ⟨cs, k.own hO hr, hL⟩
theorem congr (h : LanesAt w g q) (e : ∀ k, k < 48 → q' k = q k) : LanesAt w g q' := by
  obtain ⟨cs, hO, hL⟩ := h
  exact ⟨cs, hO, hL.congr e⟩
theorem lt (h : LanesAt w g q) : g < w.heap.size := by
  obtain ⟨cs, hO, _⟩ := h
  exact hO.lt
end LanesAt
end Go.Proofs.Ytlclfonlidcfiaa
