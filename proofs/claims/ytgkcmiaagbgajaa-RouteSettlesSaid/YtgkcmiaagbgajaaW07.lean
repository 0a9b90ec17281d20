/- Words of my own: a slice of bytes that reads as a list of small numbers. -/
import Derived.Test.YtgkcmiaagbgajaaW02
namespace Go.Proofs.Ytgkcmiaagbgajaa
open Go.RowKit Go.WideShapes Go.ChangeShapes
/-- The slice with address A reads, in world w, as the bytes l. -/
def BytesAt (w : World) (A : Option Addr) (l : List Nat) : Prop :=
  ∀ k (h : k < l.length), ∃ b off, A = some ⟨b, off, none⟩ ∧ b < w.heap.size ∧ w.cell? ⟨b, off + k, none⟩ = some (.int .u8 (l[k] : Int))
namespace BytesAt
theorem empty (w : World) (A : Option Addr) : BytesAt w A [] := fun k h => absurd h (Nat.not_lt_zero k)
theorem below {w w' : World} {A : Option Addr} {l : List Nat} (h : BytesAt w A l) (hb : Ok w w') : BytesAt w' A l := fun k hk => by
  obtain ⟨b, off, hA, hlt, hc⟩ := h k hk
  exact ⟨b, off, hA, Nat.lt_of_lt_of_le hlt hb.size, (hb.cell (p := ⟨b, off + k, none⟩) hlt).trans hc⟩
theorem alloc {w : World} {A : Option Addr} {l : List Nat} (h : BytesAt w A l) (o : Obj) : BytesAt (w.alloc o) A l := h.below ((Ok.refl w).alloc o)
theorem drew {w : World} {A : Option Addr} {l : List Nat} (h : BytesAt w A l) : BytesAt w.drew A l := h.below (Ok.refl w).drew
theorem drewN {w : World} {A : Option Addr} {l : List Nat} (h : BytesAt w A l) (n : Nat) : BytesAt (w.drewN n) A l := h.below ((Ok.refl w).drewN n)
/-- A slice written down at a call: a new block. -/
theorem new (w : World) (l : List Nat) (t : TypeId) (cs : Array Value) (h : cs.toList = l.map fun (b : Nat) => Value.int .u8 (b : Int)) {b : Nat} (hb : b = w.heap.size) : BytesAt (w.alloc (.cells cs t)) (some ⟨b, 0, none⟩) l := by
  subst hb
  intro k hk
  refine ⟨w.heap.size, 0, rfl, by simp, ?_⟩
  have e : cs[0 + k]? = some (.int .u8 (l[k] : Int)) := by
    rw [Nat.zero_add, ← Array.getElem?_toList, h, List.getElem?_map, List.getElem?_eq_getElem hk]; rfl
  have e2 : (w.alloc (.cells cs t)).heap[w.heap.size]? = some (.cells cs t) := (MapKept.heap_alloc w _).1
  simp only [World.cell?, e2]; exact e
/-- Likewise, with the run-time's mark behind its end. -/
theorem newF (w : World) (l : List Nat) (t : TypeId) (fr : Nat × Nat) (cs : Array Value) (h : cs.toList = l.map fun (b : Nat) => Value.int .u8 (b : Int)) {b : Nat} (hb : b = w.heap.size) : BytesAt (w.alloc (.cells cs t fr)) (some ⟨b, 0, none⟩) l := by
  subst hb
  intro k hk
  refine ⟨w.heap.size, 0, rfl, by simp, ?_⟩
  have e : cs[0 + k]? = some (.int .u8 (l[k] : Int)) := by
    rw [Nat.zero_add, ← Array.getElem?_toList, h, List.getElem?_map, List.getElem?_eq_getElem hk]; rfl
  have e2 : (w.alloc (.cells cs t fr)).heap[w.heap.size]? = some (.cells cs t fr) := (MapKept.heap_alloc w _).1
  simp only [World.cell?, e2]; exact e
/-- A piece of a slice. -/
theorem cut {w : World} {b off : Nat} {l : List Nat} (h : BytesAt w (some ⟨b, off, none⟩) l) (i j : Nat) : BytesAt w (some ⟨b, off + i, none⟩) ((l.drop i).take j) := fun k hk => by
  have hk2 : k < j ∧ i + k < l.length := by simp at hk; omega
  obtain ⟨b', off', e, hlt, hc⟩ := h (i + k) hk2.2
  cases e
  refine ⟨b, off + i, rfl, hlt, ?_⟩
  rw [Nat.add_assoc, hc]
  simp
/-- A row of the call's own reads as the list that it holds. -/
theorem of_own {w : World} {B : Nat} {e : TypeId} {v : Value} {l : List Nat} (h : w.ownsRow B e 1 v l.length (l.map fun (b : Nat) => Value.int .u8 (b : Int))) : ∃ A cap, v = .slice A l.length cap ∧ BytesAt w A l := by
  rcases h.2 with ⟨rfl, hx⟩ | ⟨g, cap, cur, rfl, hb, hh, r⟩
  · have : l = [] := by simpa using hx
    subst this
    exact ⟨none, 0, rfl, BytesAt.empty _ _⟩
  · refine ⟨some ⟨g, 0, none⟩, cap, rfl, fun k hk => ⟨g, 0, rfl, (Array.getElem?_eq_some_iff.1 hh).1, ?_⟩⟩
    have := h.cells (g := g) rfl k (.int .u8 (l[k] : Int)) (by rw [List.getElem?_map, List.getElem?_eq_getElem hk]; rfl)
    rw [Go.WideShapes.add_plain] at this
    exact this
end BytesAt
/-- A slice of bytes that came in: its address, the bytes that it holds; its room. -/
theorem open_bytesC {H : Type} {enc : TypeId × Value → H} {P : Program} {w : World} {base : Nat} {t e : TypeId} {v : Value} {d : DataW H} {ps : List MemPlace}
    (ht : P.underlying t = some (.slice e)) (he : P.underlying e = some (.int .u8)) (hc : P.cellsOf e = 1) (hv : Value.okWide P w .any base t v) (h : DataW.Trod enc P w 0 (fun _ => true) true t v d ps) :
    ∃ (A : Option Addr) (l : List Nat) (cap : Nat), v = .slice A l.length cap ∧ BytesAt w A l ∧ l.length ≤ 9223372036854775807 ∧ (∀ x ∈ l, x < 256) ∧ l.length ≤ cap := by
  obtain ⟨a0, len, cap, rfl⟩ := okWide_slice ht hv
  obtain ⟨fuel, hf⟩ := h
  rcases open_ints ht he hc hf with ⟨hcs, hx⟩ | ⟨a, len', cap', zs, hcs, _, hl, hm, hz, hx, hcell, hwz⟩
  · simp [Value.cells] at hcs
    obtain ⟨rfl, rfl, rfl⟩ := hcs
    exact ⟨none, [], 0, rfl, BytesAt.empty _ _, by simp, by simp, by simp⟩
  · simp [Value.cells] at hcs
    obtain ⟨rfl, rfl, rfl⟩ := hcs
    simp only [if_true] at hz
    have hb : ∀ z ∈ zs, 0 ≤ z ∧ z ≤ 255 := fun z hzm => by have := hwz z hzm; simp [Lit.wf] at this; exact this
    have hlen : ((zs.take len).map Int.toNat).length = len := by simp; omega
    refine ⟨some a, (zs.take len).map Int.toNat, cap, by rw [hlen], fun k hk => ?_, by unfold maxLen at hm; omega, fun x hx => ?_, by omega⟩
    · have hk' : k < zs.length := by omega
      obtain ⟨b, off, rfl, hc'⟩ := ints_at hcell (by omega)
      refine ⟨b, off, rfl, cell_lt (hc' 0 (by omega)), ?_⟩
      rw [hc' k hk', List.getD_eq_getElem?_getD, List.getElem?_eq_getElem hk', List.getElem_map, List.getElem_take]
      have := (hb zs[k] (List.getElem_mem hk')).1
      rw [Int.toNat_of_nonneg this]
      rfl
    · obtain ⟨z, hz', rfl⟩ := List.mem_map.1 hx
      have := hb z (List.mem_of_mem_take hz')
      omega
theorem open_bytes {H : Type} {enc : TypeId × Value → H} {P : Program} {w : World} {base : Nat} {t e : TypeId} {v : Value} {d : DataW H} {ps : List MemPlace}
    (ht : P.underlying t = some (.slice e)) (he : P.underlying e = some (.int .u8)) (hc : P.cellsOf e = 1) (hv : Value.okWide P w .any base t v) (h : DataW.Trod enc P w 0 (fun _ => true) true t v d ps) :
    ∃ (A : Option Addr) (l : List Nat) (cap : Nat), v = .slice A l.length cap ∧ BytesAt w A l ∧ l.length ≤ 9223372036854775807 ∧ ∀ x ∈ l, x < 256 := by
  obtain ⟨A, l, cap, h1, h2, h3, h4, _⟩ := open_bytesC ht he hc hv h
  exact ⟨A, l, cap, h1, h2, h3, h4⟩
end Go.Proofs.Ytgkcmiaagbgajaa
