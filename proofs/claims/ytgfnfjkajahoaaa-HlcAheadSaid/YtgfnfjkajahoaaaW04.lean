/- Words of my own: a slice of structs of two integers that reads as a list of pairs. -/
import Derived.Test.YtgfnfjkajahoaaaW03
namespace Go.Proofs.Ytgfnfjkajahoaaa
open Go.RowKit Go.WideShapes Go.ChangeShapes Go.Joins Go.Deep
/-- The slice with address A reads, in world w, as the pairs l. -/
def PairsAt (w : World) (A : Option Addr) (l : List (Int × Int)) : Prop :=
  ∀ k (h : k < l.length), ∃ b off, A = some ⟨b, off, none⟩ ∧ b < w.heap.size ∧ w.cell? ⟨b, off + k * 2, none⟩ = some (.int .i64 l[k].1) ∧ w.cell? ⟨b, off + k * 2 + 1, none⟩ = some (.int .i64 l[k].2)
theorem PairsAt.empty (w : World) (A : Option Addr) : PairsAt w A [] := fun k h => absurd h (Nat.not_lt_zero k)
theorem PairsAt.below {w w' : World} {A : Option Addr} {l : List (Int × Int)} (h : PairsAt w A l) (hb : Ok w w') : PairsAt w' A l := fun k hk => by
  obtain ⟨b, off, hA, hlt, hc, hd⟩ := h k hk
  exact ⟨b, off, hA, Nat.lt_of_lt_of_le hlt hb.size, (Below.cell hb (p := ⟨b, off + k * 2, none⟩) hlt).trans hc, (Below.cell hb (p := ⟨b, off + k * 2 + 1, none⟩) hlt).trans hd⟩
def cellsOfPairs (l : List (Int × Int)) : List Value := l.flatMap fun s => [.int .i64 s.1, .int .i64 s.2]
theorem cellsOfPairs_at : ∀ (l : List (Int × Int)) (k : Nat) (h : k < l.length), (cellsOfPairs l)[k * 2]? = some (.int .i64 l[k].1) ∧ (cellsOfPairs l)[k * 2 + 1]? = some (.int .i64 l[k].2)
  | [], k, h => absurd h (Nat.not_lt_zero k)
  | s :: l, 0, _ => ⟨rfl, rfl⟩
  | s :: l, k + 1, h => by
    have := cellsOfPairs_at l k (by simpa using h)
    have e : (k + 1) * 2 = k * 2 + 2 := by omega
    rw [e]
    exact this
/-- A slice of structs written down at a call: a new block. -/
theorem pairs_new (w : World) (l : List (Int × Int)) (t : TypeId) (cs : Array Value) (h : cs.toList = cellsOfPairs l) {b : Nat} (hb : b = w.heap.size) : PairsAt (w.alloc (.cells cs t)) (some ⟨b, 0, none⟩) l := by
  subst hb
  intro k hk
  have e2 : (w.alloc (.cells cs t)).heap[w.heap.size]? = some (.cells cs t) := (MapKept.heap_alloc w _).1
  have := cellsOfPairs_at l k hk
  rw [← h, Array.getElem?_toList, Array.getElem?_toList] at this
  refine ⟨w.heap.size, 0, rfl, by simp, ?_, ?_⟩
  · simp only [World.cell?, e2, Nat.zero_add]; exact this.1
  · simp only [World.cell?, e2, Nat.zero_add]; exact this.2
/-- A row of the call's own reads as the list that it holds. -/
theorem PairsAt.of_own {w : World} {B : Nat} {e : TypeId} {v : Value} {l : List (Int × Int)} (h : w.ownsRow B e 2 v l.length (cellsOfPairs l)) : ∃ A cap, v = .slice A l.length cap ∧ PairsAt w A l := by
  rcases h.2 with ⟨rfl, hx⟩ | ⟨g, cap, cur, rfl, hb, hh, r⟩
  · have : l = [] := List.length_eq_zero_iff.1 hx
    subst this
    exact ⟨none, 0, rfl, PairsAt.empty _ _⟩
  · refine ⟨some ⟨g, 0, none⟩, cap, rfl, fun k hk => ⟨g, 0, rfl, (Array.getElem?_eq_some_iff.1 hh).1, ?_, ?_⟩⟩
    · have := h.cells (g := g) rfl (k * 2) _ (cellsOfPairs_at l k hk).1
      rw [Go.WideShapes.add_plain] at this
      exact this
    · have := h.cells (g := g) rfl (k * 2 + 1) _ (cellsOfPairs_at l k hk).2
      rw [Go.WideShapes.add_plain] at this
      rw [Nat.add_assoc]
      exact this
theorem IntsAt.alloc {w : World} {A : Option Addr} {l : List Int} (h : IntsAt w A l) (o : Obj) : IntsAt (w.alloc o) A l := h.below (below_alloc w o)
theorem IntsAt.drew {w : World} {A : Option Addr} {l : List Int} (h : IntsAt w A l) : IntsAt w.drew A l := h.below (Ok.refl w).drew
theorem IntsAt.drewN {w : World} {A : Option Addr} {l : List Int} (h : IntsAt w A l) (n : Nat) : IntsAt (w.drewN n) A l := h.below ((Ok.refl w).drewN n)
theorem PairsAt.alloc {w : World} {A : Option Addr} {l : List (Int × Int)} (h : PairsAt w A l) (o : Obj) : PairsAt (w.alloc o) A l := h.below (below_alloc w o)
theorem PairsAt.drew {w : World} {A : Option Addr} {l : List (Int × Int)} (h : PairsAt w A l) : PairsAt w.drew A l := h.below (Ok.refl w).drew
theorem PairsAt.drewN {w : World} {A : Option Addr} {l : List (Int × Int)} (h : PairsAt w A l) (n : Nat) : PairsAt (w.drewN n) A l := h.below ((Ok.refl w).drewN n)
/-- A struct of two integers that lies in a block. -/
structure Box (w : World) (g : Nat) (x y : Int) : Prop where
  c0 : w.cell? ⟨g, 0, none⟩ = some (.int .i64 x)
  c1 : w.cell? ⟨g, 1, none⟩ = some (.int .i64 y)
  lt : g < w.heap.size
theorem Box.new (w : World) (x y : Int) (t : TypeId) {g : Nat} (hg : g = w.heap.size) : Box (w.alloc (.cells #[.int .i64 x, .int .i64 y] t)) g x y := by
  obtain ⟨_, _, e, _, c0⟩ := ints_new w [x, y] t #[.int .i64 x, .int .i64 y] rfl hg 0 (by simp)
  obtain ⟨_, _, e1, _, c1⟩ := ints_new w [x, y] t #[.int .i64 x, .int .i64 y] rfl hg 1 (by simp)
  cases e; cases e1
  exact ⟨c0, c1, by simp [hg]⟩
theorem Box.next {w w1 : World} {g : Nat} {x y : Int} (h : Box w g x y) (k : Ok w w1) : Box w1 g x y :=
  ⟨(k.cell (p := ⟨g, 0, none⟩) h.lt).trans h.c0, (k.cell (p := ⟨g, 1, none⟩) h.lt).trans h.c1, Nat.lt_of_lt_of_le h.lt k.size⟩
/-- A struct of two integers in a block g, and nothing turned since w: what a region of calls keeps. -/
def Box1 (g : Nat) (w : World) (x y : Int) (w' : World) : Prop := w'.cell? ⟨g, 0, none⟩ = some (.int .i64 x) ∧ w'.cell? ⟨g, 1, none⟩ = some (.int .i64 y) ∧ g < w'.heap.size ∧ Ok w w'
theorem Box1.drew {g : Nat} {w w' : World} {x y : Int} (h : Box1 g w x y w') : Box1 g w x y w'.drew := ⟨h.1, h.2.1, h.2.2.1, h.2.2.2.drew⟩
theorem Box1.next {g : Nat} {w w' w1 : World} {x y : Int} (k : Ok w' w1) (h : Box1 g w x y w') : Box1 g w x y w1 :=
  ⟨(k.cell (p := ⟨g, 0, none⟩) h.2.2.1).trans h.1, (k.cell (p := ⟨g, 1, none⟩) h.2.2.1).trans h.2.1, Nat.lt_of_lt_of_le h.2.2.1 k.size, h.2.2.2.trans k⟩
/-- A struct of two integers of one's own: a whole block, that may be written. -/
structure Slab (w : World) (g : Nat) (x y : Int) : Prop where
  blk : ∃ t, w.heap[g]? = some (.cells #[.int .i64 x, .int .i64 y] t (0, 0))
namespace Slab
theorem new (w : World) (x y : Int) (t : TypeId) {g : Nat} (hg : g = w.heap.size) : Slab (w.alloc (.cells #[.int .i64 x, .int .i64 y] t)) g x y := ⟨t, by subst hg; exact (MapKept.heap_alloc w _).1⟩
theorem lt {w : World} {g : Nat} {x y : Int} (h : Slab w g x y) : g < w.heap.size := by
  obtain ⟨t, h⟩ := h
  exact (Array.getElem?_eq_some_iff.1 h).1
theorem next {w w1 : World} {g : Nat} {x y : Int} (h : Slab w g x y) (k : Ok w w1) : Slab w1 g x y := by
  have hl := h.lt
  obtain ⟨t, h⟩ := h
  exact ⟨t, (k.block g hl).trans h⟩
theorem alloc {w : World} {g : Nat} {x y : Int} (h : Slab w g x y) (o : Obj) : Slab (w.alloc o) g x y := h.next ((Ok.refl w).alloc o)
theorem drew {w : World} {g : Nat} {x y : Int} (h : Slab w g x y) : Slab w.drew g x y := ⟨h.blk⟩
theorem drewN {w : World} {g : Nat} {x y : Int} (h : Slab w g x y) (n : Nat) : Slab (w.drewN n) g x y := h.next ((Ok.refl w).drewN n)
theorem c0 {w : World} {g : Nat} {x y : Int} (h : Slab w g x y) : w.cell? ⟨g, 0, none⟩ = some (.int .i64 x) := by
  obtain ⟨t, h⟩ := h
  simp only [World.cell?, h]; rfl
theorem c1 {w : World} {g : Nat} {x y : Int} (h : Slab w g x y) : w.cell? ⟨g, 1, none⟩ = some (.int .i64 y) := by
  obtain ⟨t, h⟩ := h
  simp only [World.cell?, h]; rfl
theorem f0 {w : World} {g : Nat} {x y : Int} (h : Slab w g x y) : w.frozen? ⟨g, 0, none⟩ = false := by
  obtain ⟨t, h⟩ := h
  simp only [World.frozen?, h]; rfl
theorem f1 {w : World} {g : Nat} {x y : Int} (h : Slab w g x y) : w.frozen? ⟨g, 1, none⟩ = false := by
  obtain ⟨t, h⟩ := h
  simp only [World.frozen?, h]; rfl
theorem set {w : World} {g : Nat} {x y : Int} (h : Slab w g x y) (u v : Int) : Slab ((w.setCell ⟨g, 0, none⟩ (.int .i64 u)).setCell ⟨g, 1, none⟩ (.int .i64 v)) g u v := by
  obtain ⟨t, h⟩ := h
  refine ⟨t, ?_⟩
  have hl : g < w.heap.size := (Array.getElem?_eq_some_iff.1 h).1
  have e : w.heap[g] = .cells #[.int .i64 x, .int .i64 y] t (0, 0) := (Array.getElem?_eq_some_iff.1 h).2
  simp only [World.setCell, Array.getElem?_modify, h, if_true, Option.map_some]
  rfl
theorem setOther {w : World} {g : Nat} {x y : Int} (h : Slab w g x y) {a : Addr} (ha : g ≠ a.block) (v : Value) : Slab (w.setCell a v) g x y := by
  obtain ⟨t, h⟩ := h
  exact ⟨t, (Below.heap_setCell w a v g ha).trans h⟩
end Slab
section
variable {H : Type} {enc : TypeId × Value → H} {P : Program} {w : World} {base : Nat}
/-- A slice of structs of two integers that came in. -/
theorem open_slice_pairs {t e : TypeId} {f0 f1 : Field} {v : Value} {d : DataW H} {ps : List MemPlace} (ht : P.underlying t = some (.slice e)) (he : P.underlying e = some (.struct #[f0, f1])) (hone : oneCellFields P #[f0, f1] = true) (hC : P.cellsOf e = 2)
    (h0 : P.underlying f0.type = some (.int .i64)) (h1 : P.underlying f1.type = some (.int .i64)) (hv : Value.okWide P w .any base t v) (h : DataW.Trod enc P w 0 (fun _ => true) true t v d ps) :
    ∃ (A : Option Addr) (l : List (Int × Int)) (cap : Nat), v = .slice A l.length cap ∧ PairsAt w A l ∧ l.length ≤ 9223372036854775807 ∧ ∀ s ∈ l, (Lit.int .i64 s.1).wf = true ∧ (Lit.int .i64 s.2).wf = true := by
  obtain ⟨a0, len, cap, rfl⟩ := okWide_slice ht hv
  obtain ⟨fuel, hf⟩ := h
  rcases open_slice ht hf with h2 | ⟨a, len', cap', m, n, D, Pl, hcs, hb, hl, hm, hmm, hx, hi⟩
  · simp [Value.cells] at h2
    obtain ⟨⟨rfl, rfl, rfl⟩, -⟩ := h2
    exact ⟨none, [], 0, rfl, PairsAt.empty _ _, by simp, by simp⟩
  · simp [Value.cells] at hcs
    obtain ⟨rfl, rfl, rfl⟩ := hcs
    simp only [if_true] at hmm
    subst hmm
    have key : ∀ i, i < len → ∃ x y : Int, w.cell? (a.add (i * 2)) = some (.int .i64 x) ∧ w.cell? (a.add (i * 2 + 1)) = some (.int .i64 y) ∧ (Lit.int .i64 x).wf = true ∧ (Lit.int .i64 y).wf = true := by
      intro i hlt
      obtain ⟨cs', hc, ht'⟩ := hi i (by omega)
      rw [hC] at hc
      obtain ⟨ys, n', hn', hy, hlen, hyl, hfl⟩ := DataW.trod_struct he ht'
      obtain ⟨_, hcl, hat⟩ := World.cells?_some hc
      have one : ∀ (j : Nat) (f : Field), #[f0, f1][j]? = some f → P.underlying f.type = some (.int .i64) → ∃ z : Int, w.cell? (a.add (i * 2 + j)) = some (.int .i64 z) ∧ (Lit.int .i64 z).wf = true := by
        intro j f hj hu
        obtain ⟨ho, hk⟩ := hone_of hone j f hj
        have hjl : j < 2 := (Array.getElem?_eq_some_iff.1 hj).1
        have hcell := hat j hjl
        have h1 := hfl j f hj
        rw [ho, hk] at h1
        have e1 : (cs'.drop j).take 1 = [cs'[j]'(by omega)] := by
          rw [List.drop_eq_getElem_cons (by omega)]
          rfl
        have hjs : j < ys.length := by rw [hyl]; exact hjl
        rw [e1, List.getElem?_eq_getElem hjs] at h1
        obtain ⟨z, h2, _, h3⟩ := DataW.trod_int hu h1
        refine ⟨z, ?_, h3⟩
        rw [← Go.Deep.add_add, hcell, List.getElem?_eq_getElem (show j < cs'.length by omega)]
        simpa using h2
      obtain ⟨x, hx, wx⟩ := one 0 f0 rfl h0
      obtain ⟨y, hy, wy⟩ := one 1 f1 rfl h1
      exact ⟨x, y, hx, hy, wx, wy⟩
    have key' : ∀ i : Fin len, ∃ s : Int × Int, w.cell? (a.add (i * 2)) = some (.int .i64 s.1) ∧ w.cell? (a.add (i * 2 + 1)) = some (.int .i64 s.2) ∧ (Lit.int .i64 s.1).wf = true ∧ (Lit.int .i64 s.2).wf = true := fun i => by
      obtain ⟨x, y, h⟩ := key i i.2
      exact ⟨(x, y), h⟩
    obtain ⟨F, hF⟩ := Classical.axiomOfChoice key'
    have hlen : (List.ofFn F).length = len := by simp
    refine ⟨some a, List.ofFn F, _, by rw [hlen], fun k hk => ?_, by unfold maxLen at hm; omega, fun s hs => ?_⟩
    · have hk' : k < len := by omega
      have h := hF ⟨k, hk'⟩
      obtain ⟨b, off, spot⟩ := a
      have hspot : spot = none := by
        have h0 := hF ⟨0, by omega⟩
        simpa [Addr.add] using World.cell?_spot h0.1
      subst hspot
      simp only [Go.WideShapes.add_plain, ← Nat.add_assoc] at h
      have e : (List.ofFn F)[k] = F ⟨k, hk'⟩ := by simp
      rw [e]
      exact ⟨b, off, rfl, cell_lt h.1, h.1, h.2.1⟩
    · obtain ⟨i, rfl⟩ := List.mem_ofFn.1 hs
      exact (hF i).2.2
end
end Go.Proofs.Ytgfnfjkajahoaaa
