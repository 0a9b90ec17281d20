/- Layer 15: words for RouteSettles: whom nodes hear, in the making; what nodes have. -/
import Derived.Test.YtgkcmiaagbgajaaC15b
import Derived.Test.YtgkcmiaagbgajaaC15g
import Derived.Test.YtgkcmiaagbgajaaC04b
namespace Go.Proofs.Ytgkcmiaagbgajaa
open Go.RowKit Go.WideShapes Go.ChangeShapes
set_option maxRecDepth 100000
/-- Does a node hear another, as its links tell? -/
def linked (ll : List Int) (i k : Nat) : Bool := if i = k then false else (bits .and .i64 (ll.getD i 0 / 2 ^ k) 1 == 1)
def slV (r n : Nat) : Value := .slice (some ⟨r, 0, none⟩) n n
/-- The first i nodes' rows are made. -/
def HearsP (W : World) (B hb n : Nat) (f : Nat → Nat → Bool) (i : Nat) : Prop := ∃ r : Nat → Nat, RowOf W hb n (fun j => if j < i then slV (r j) n else .slice none 0 0) ∧ ∀ j, j < i → r j ≠ hb ∧ B ≤ r j ∧ RowOf W (r j) n (fun k => .bool (f j k))
/-- .. and of the next one's row the first k. -/
def HearsQ (W : World) (B hb n : Nat) (f : Nat → Nat → Bool) (i rr k : Nat) : Prop := (∃ r : Nat → Nat, RowOf W hb n (fun j => if j < i then slV (r j) n else if j = i then slV rr n else .slice none 0 0) ∧ ∀ j, j < i → r j ≠ hb ∧ r j ≠ rr ∧ B ≤ r j ∧ RowOf W (r j) n (fun k => .bool (f j k))) ∧ rr ≠ hb ∧ B ≤ rr ∧ RowOf W rr n (fun j => if j < k then .bool (f i j) else .bool false)
theorem HearsP.next {W W1 : World} {B hb n i : Nat} {f : Nat → Nat → Bool} (h : HearsP W B hb n f i) (k : Ok W W1) : HearsP W1 B hb n f i := by
  obtain ⟨r, h1, h2⟩ := h
  exact ⟨r, h1.next k, fun j hj => ⟨(h2 j hj).1, (h2 j hj).2.1, (h2 j hj).2.2.next k⟩⟩
theorem HearsQ.next {W W1 : World} {B hb n i rr k : Nat} {f : Nat → Nat → Bool} (h : HearsQ W B hb n f i rr k) (q : Ok W W1) : HearsQ W1 B hb n f i rr k := by
  obtain ⟨⟨r, h1, h2⟩, h3, h4, h5⟩ := h
  exact ⟨⟨r, h1.next q, fun j hj => ⟨(h2 j hj).1, (h2 j hj).2.1, (h2 j hj).2.2.1, (h2 j hj).2.2.2.next q⟩⟩, h3, h4, h5.next q⟩
/-- A row more, with nothing in it. -/
theorem HearsP.row {W : World} {B hb n i : Nat} {f : Nat → Nat → Bool} (h : HearsP W B hb n f i) (hi : i < n) (t : TypeId) (hB : B ≤ W.heap.size) : HearsQ ((W.setCell ⟨hb, i, none⟩ (.slice (some ⟨W.heap.size, 0, none⟩) n n)).alloc (.cells (Array.replicate n (.bool false)) t)) B hb n f i W.heap.size 0 := by
  obtain ⟨r, h1, h2⟩ := h
  have hl := h1.lt
  have hO : Only hb W (W.setCell ⟨hb, i, none⟩ (.slice (some ⟨W.heap.size, 0, none⟩) n n)) := (Only.refl _ _).setR i _
  have hsz : (W.setCell ⟨hb, i, none⟩ (.slice (some ⟨W.heap.size, 0, none⟩) n n)).heap.size = W.heap.size := by simp
  have q : Ok (W.setCell ⟨hb, i, none⟩ (.slice (some ⟨W.heap.size, 0, none⟩) n n)) ((W.setCell ⟨hb, i, none⟩ (.slice (some ⟨W.heap.size, 0, none⟩) n n)).alloc (.cells (Array.replicate n (.bool false)) t)) := (Ok.refl _).alloc _
  refine ⟨⟨r, (h1.set hi _ (fun j _ => ?_)).next q, fun j hj => ⟨(h2 j hj).1, ?_, (h2 j hj).2.1, (((h2 j hj).2.2).only hO (h2 j hj).1).next q⟩⟩, by omega, hB, (RowOf.new _ t n (.bool false) hsz.symm).mono (fun j _ => by simp)⟩
  · by_cases e : j = i
    · subst e; simp [slV]
    · simp [e]
  · have := (h2 j hj).2.2.lt
    omega
/-- A cell more. -/
theorem HearsQ.put {W : World} {B hb n i rr k : Nat} {f : Nat → Nat → Bool} (h : HearsQ W B hb n f i rr k) (hk : k < n) : HearsQ (W.setCell ⟨rr, k, none⟩ (.bool (f i k))) B hb n f i rr (k + 1) := by
  obtain ⟨⟨r, h1, h2⟩, h3, h4, h5⟩ := h
  have hO : Only rr W (W.setCell ⟨rr, k, none⟩ (.bool (f i k))) := (Only.refl _ _).setR k _
  refine ⟨⟨r, h1.only hO (fun e => h3 e.symm), fun j hj => ⟨(h2 j hj).1, (h2 j hj).2.1, (h2 j hj).2.2.1, (h2 j hj).2.2.2.only hO (h2 j hj).2.1⟩⟩, h3, h4, h5.set hk _ (fun j _ => ?_)⟩
  by_cases e : j = k
  · subst e; simp
  · rw [if_neg e]
    by_cases q : j < k
    · rw [if_pos q, if_pos (by omega)]
    · rw [if_neg q, if_neg (by omega)]
theorem HearsQ.done {W : World} {B hb n i rr : Nat} {f : Nat → Nat → Bool} (h : HearsQ W B hb n f i rr n) : HearsP W B hb n f (i + 1) := by
  obtain ⟨⟨r, h1, h2⟩, h3, h4, h5⟩ := h
  refine ⟨fun j => if j = i then rr else r j, h1.mono (fun j _ => ?_), fun j hj => ?_⟩
  · by_cases e : j = i
    · subst e; simp
    · by_cases q : j < i
      · simp only [if_pos q, if_neg e]
        rw [if_pos (by omega)]
      · rw [if_neg q, if_neg e, if_neg (by omega)]
  · by_cases e : j = i
    · subst e
      simp only [if_true]
      exact ⟨h3, h4, h5.mono (fun k hk => by rw [if_pos hk])⟩
    · simp only [if_neg e]
      exact ⟨(h2 j (by omega)).1, (h2 j (by omega)).2.2.1, (h2 j (by omega)).2.2.2⟩
theorem HearsP.all {W : World} {B hb n : Nat} {f : Nat → Nat → Bool} (h : HearsP W B hb n f n) : HearsAt W hb n f := by
  obtain ⟨r, h1, h2⟩ := h
  refine ⟨h1.lt, fun i hi => ⟨r i, ?_, (h2 i hi).2.2.lt, fun k hk => (h2 i hi).2.2.cell hk⟩⟩
  rw [h1.cell hi, if_pos hi]
  rfl
theorem HearsQ.cells {W : World} {B hb n i rr k : Nat} {f : Nat → Nat → Bool} (h : HearsQ W B hb n f i rr k) (hi : i < n) (hk : k < n) : W.cell? ⟨hb, i, none⟩ = some (.slice (some ⟨rr, 0, none⟩) n n) ∧ hb < W.heap.size ∧ W.cell? ⟨rr, k, none⟩ = some (.bool false) ∧ W.frozen? ⟨rr, k, none⟩ = false ∧ rr < W.heap.size := by
  obtain ⟨⟨r, h1, h2⟩, h3, h4, h5⟩ := h
  refine ⟨?_, h1.lt, ?_, h5.frozen k, h5.lt⟩
  · rw [h1.cell hi, if_neg (by omega), if_pos rfl]; rfl
  · rw [h5.cell hk, if_neg (by omega)]
theorem HearsP.slot {W : World} {B hb n i : Nat} {f : Nat → Nat → Bool} (h : HearsP W B hb n f i) (hi : i < n) : W.cell? ⟨hb, i, none⟩ = some (.slice none 0 0) ∧ W.frozen? ⟨hb, i, none⟩ = false ∧ hb < W.heap.size := by
  obtain ⟨r, h1, h2⟩ := h
  refine ⟨?_, h1.frozen i, h1.lt⟩
  rw [h1.cell hi, if_neg (by omega)]
theorem HearsQ.ok {w W : World} {B hb n i rr k : Nat} {f : Nat → Nat → Bool} (h : HearsQ W B hb n f i rr k) (hB : w.heap.size ≤ B) (hok : Ok w W) (v : Value) : Ok w (W.setCell ⟨rr, k, none⟩ v) := hok.setCell (p := ⟨rr, k, none⟩) (Nat.le_trans hB h.2.2.1) v
theorem infoBool15 : (Try.prog.info? 4).map (fun i => (i.zero, i.size, i.bytes)) = some (some (.bool false), 1, 1) := by kernel_rfl
theorem infoBools15 : (Try.prog.info? 45).map (fun i => (i.zero, i.size, i.bytes)) = some (some (.slice none 0 0), 1, 24) := by kernel_rfl
/-- The slice at A reads as what n nodes have. -/
def NowAt (W : World) (A : Option Addr) (n : Nat) (v : Nat → Int) : Prop := ∀ j, j < n → ∃ b off, A = some ⟨b, off, none⟩ ∧ b < W.heap.size ∧ W.cell? ⟨b, off + j, none⟩ = some (.int .i64 (v j))
theorem NowAt.below {W W1 : World} {A : Option Addr} {n : Nat} {v : Nat → Int} (h : NowAt W A n v) (k : Ok W W1) : NowAt W1 A n v := fun j hj => by
  obtain ⟨b, off, e, hl, hc⟩ := h j hj
  exact ⟨b, off, e, Nat.lt_of_lt_of_le hl k.size, (k.cell (p := ⟨b, off + j, none⟩) hl).trans hc⟩
theorem NowAt.of_ints {W : World} {A : Option Addr} {l : List Int} {n : Nat} (h : IntsAt W A l) (hn : l.length = n) : NowAt W A n (fun j => l.getD j 0) := fun j hj => by
  obtain ⟨b, off, e, hl, hc⟩ := h j (by omega)
  refine ⟨b, off, e, hl, ?_⟩
  rw [hc]
  show _ = some (Value.int .i64 (l.getD j 0))
  rw [List.getD_eq_getElem?_getD, List.getElem?_eq_getElem (by omega)]
  rfl
theorem NowAt.of_row {W : World} {g n : Nat} {o : Nat → Int} (h : OutAt W g n o) : NowAt W (some ⟨g, 0, none⟩) n o := fun j hj => ⟨g, 0, rfl, h.lt, by rw [Nat.zero_add]; exact h.cell hj⟩
theorem RowOf.grown {W W' : World} {g n : Nat} {φ : Nat → Value} {row : Option Nat} (h : RowOf W g n φ) (hg : W.grownBy W' row) (hne : ∀ k, row = some k → k ≠ g) : RowOf W' g n φ := by
  obtain ⟨cs, ⟨t, ht⟩, h2, h3⟩ := h
  exact ⟨cs, ⟨t, (hg.block g (Array.getElem?_eq_some_iff.1 ht).1 (fun e => hne g e.symm rfl)).trans ht⟩, h2, h3⟩
theorem Own.grownBy {W W' : World} {g : Nat} {cs : Array Value} {row : Option Nat} (h : Own W g cs) (hg : W.grownBy W' row) (hne : ∀ k, row = some k → k ≠ g) : Own W' g cs := by
  obtain ⟨t, ht⟩ := h
  exact ⟨t, (hg.block g (Array.getElem?_eq_some_iff.1 ht).1 (fun e => hne g e.symm rfl)).trans ht⟩
end Go.Proofs.Ytgkcmiaagbgajaa
