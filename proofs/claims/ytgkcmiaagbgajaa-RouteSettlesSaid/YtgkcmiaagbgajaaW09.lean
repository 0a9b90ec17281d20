/- Words of my own: bytes in a block of one's own, and what a copy of bytes asks. -/
import Derived.Test.YtgkcmiaagbgajaaW05
import Derived.Test.YtgkcmiaagbgajaaW07
import Derived.Laws.CopyOwn
import Derived.OwnWalk
namespace Go.Proofs.Ytgkcmiaagbgajaa
open Go.RowKit Go.WideShapes Go.ChangeShapes
/-- Numbers as cells. -/
def u8s (l : List Nat) : List Value := l.map fun (b : Nat) => Value.int .u8 (b : Int)
theorem u8s_length (l : List Nat) : (u8s l).length = l.length := by simp [u8s]
theorem u8s_append (l m : List Nat) : u8s (l ++ m) = u8s l ++ u8s m := by simp [u8s]
theorem u8s_one (l : List Nat) : ∀ v ∈ u8s l, v.oneCell' = true := by
  intro v hv
  obtain ⟨b, _, rfl⟩ := List.mem_map.1 hv
  rfl
theorem u8s_at (l : List Nat) (j : Nat) (h : j < l.length) : (u8s l)[j]? = some (.int .u8 (l[j] : Int)) := by
  rw [u8s, List.getElem?_map, List.getElem?_eq_getElem h]; rfl
theorem BytesAt.src {w : World} {A : Option Addr} {l : List Nat} (h : BytesAt w A l) (h0 : 0 < l.length) : ∃ ad, A = some ad ∧ ∀ (j : Nat) (v : Value), (u8s l)[j]? = some v → w.cell? (ad.add j) = some v := by
  obtain ⟨b, off, rfl, _, _⟩ := h 0 h0
  refine ⟨_, rfl, fun j v hv => ?_⟩
  have hj : j < l.length := by have := (List.getElem?_eq_some_iff.1 hv).1; rw [u8s_length] at this; exact this
  obtain ⟨b', off', e, _, hc⟩ := h j hj
  cases e
  rw [u8s_at l j hj] at hv
  rw [Go.WideShapes.add_plain, hc, hv]
/-- A block of one's own that holds bytes, read as a slice of them. -/
theorem Own.bytes {w : World} {g : Nat} {l : List Nat} (h : Own w g (u8s l).toArray) : BytesAt w (some ⟨g, 0, none⟩) l := fun k hk => by
  refine ⟨g, 0, rfl, h.lt, ?_⟩
  rw [Nat.zero_add]
  exact h.cell k (by rw [List.getElem?_toArray]; exact u8s_at l k hk)
theorem Own.setByte {w : World} {g : Nat} {l : List Nat} (h : Own w g (u8s l).toArray) (k b : Nat) : Own (w.setCell ⟨g, k, none⟩ (.int .u8 (b : Int))) g (u8s (l.set k b)).toArray := by
  have := h.set k (.int .u8 (b : Int))
  have e : (u8s l).toArray.set! k (.int .u8 (b : Int)) = (u8s (l.set k b)).toArray := by
    simp [u8s, List.map_set]
  rw [e] at this; exact this
/-- make, of n bytes. -/
theorem run_make_bytes {P : Program} {t e : TypeId} (ht : P.underlying t = some (.slice e)) (hi : (P.info? e).map (fun i => (i.zero, i.size, i.bytes)) = some (some (.int .u8 0), 1, 1)) (n : Nat) (hn : n ≤ 281474976710656) (N : Int) (hN : N = (n : Int)) (w : World) :
    (Instr.makeSlice t (.int .i64 N) (.int .i64 N)).run P w = .ok (.slice (some ⟨w.heap.size, 0, none⟩) n n) (w.alloc (.cells (List.replicate n (.int .u8 0)).toArray e)) := by
  subst hN
  obtain ⟨i, h1, h2, h3, h4⟩ := info_parts hi
  have := run_make (P := P) w t e i (.int .u8 0) ht h1 h2 .i64 .i64 (n : Int) (n : Int) (by omega) (Int.le_refl _) (by rw [h4]; omega) (by omega)
  rw [Int.toNat_natCast, h3, Nat.mul_one] at this
  rw [this, show (madeCells (Value.int .u8 0).cells n) = (List.replicate n (.int .u8 0)).toArray from ?_]
  apply Array.ext'
  exact toList_madeCells_one _ _
theorem splice_end {α : Type} (Z X Y : List α) (h : Z.length = X.length + Y.length) : splice (splice Z 0 X) X.length Y = X ++ Y := by
  unfold splice
  simp only [List.take_zero, List.nil_append, Nat.zero_add]
  rw [List.take_left, List.drop_eq_nil_of_le (by simp; omega), List.append_nil]
end Go.Proofs.Ytgkcmiaagbgajaa
