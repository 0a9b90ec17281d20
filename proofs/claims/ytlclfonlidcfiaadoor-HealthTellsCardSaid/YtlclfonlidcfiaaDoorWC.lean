/- Several texts of mine in one: W16, W20, W22, W37. -/
import Derived.Test.YtlclfonlidcfiaaDoorWA
import Derived.Laws.AppendOwn
import Derived.Laws.OwnMore
import Derived.OwnWalk
import Derived.ChangeArms
import Derived.Maps.Range
import Derived.SizedLaws
/- Words of my own: append of pairs that came in, nil or not, to a row of one's own; a row of pairs, read and written. -/
namespace Go.Proofs.YtlclfonlidcfiaaDoor
open Go.RowKit Go.WideShapes Go.ChangeShapes
theorem cells_pairs_length (l : List (Int × Int)) : (cellsOfPairs l).length = l.length * 2 := by
  induction l with
  | nil => rfl
  | cons x l ih => simp only [cellsOfPairs, List.flatMap_cons, List.length_append, List.length_cons, List.length_nil] at *; omega
theorem cells_pairs_append (l m : List (Int × Int)) : cellsOfPairs (l ++ m) = cellsOfPairs l ++ cellsOfPairs m := by simp [cellsOfPairs]
theorem cells_pairs_one (l : List (Int × Int)) : ∀ u ∈ cellsOfPairs l, u.oneCell' = true := by
  intro u hu
  simp only [cellsOfPairs, List.mem_flatMap, List.mem_cons, List.not_mem_nil, or_false] at hu
  obtain ⟨s, _, rfl | rfl⟩ := hu <;> rfl
theorem pairs_src {w : World} {ad : Addr} {l : List (Int × Int)} (h : PairsAt w (some ad) l) : ∀ (j : Nat) (u : Value), (cellsOfPairs l)[j]? = some u → w.cell? (ad.add j) = some u := fun j u hj => by
  have hlt : j < l.length * 2 := by rw [← cells_pairs_length]; exact (List.getElem?_eq_some_iff.1 hj).1
  have hk : j / 2 < l.length := by omega
  obtain ⟨b, off, e, _, h1, h2⟩ := h (j / 2) hk
  cases e
  obtain ⟨a1, a2⟩ := cellsOfPairs_at l (j / 2) hk
  rw [Go.WideShapes.add_plain]
  rcases Nat.mod_two_eq_zero_or_one j with e | e
  · rw [show j = j / 2 * 2 by omega] at hj ⊢
    rw [a1] at hj
    cases hj
    exact h1
  · rw [show j = j / 2 * 2 + 1 by omega] at hj ⊢
    rw [a2] at hj
    cases hj
    rw [← Nat.add_assoc]
    exact h2
/-- append of pairs that came in, nil or not, to a row of one's own. -/
theorem wpList_append_pairs {P : Program} {w : World} {ops : Array Oper} {rest : List Oper} {o : Oper} {a : Act} {Q : Exit → Act → World → Prop} (hgd : o.guard = none) (s x : Operand) (t : TypeId)
    (ho : o.op = .call { callee := .builtin .append, args := #[s, x], argTypes := #[t, t] })
    (base : Nat) (e : TypeId) (ht : P.underlying t = some (.slice e)) (hi : (P.info? e).map (fun i => (i.zero, i.size, i.bytes)) = some (some (.agg #[.int .i64 0, .int .i64 0]), 2, 16))
    (v : Value) (xs : List (Int × Int)) (n : Nat) (hn : n = xs.length) (hs : a.eval s = v) (hown : w.ownsRow base e 2 v n (cellsOfPairs xs)) (A : Option Addr) (l : List (Int × Int)) (m c : Nat) (hm : m = l.length) (hx : a.eval x = .slice A m c) (hA : PairsAt w A l)
    (h63 : xs.length + l.length ≤ 1000000) (hbase : base ≤ w.heap.size)
    (h : ∀ v' w', w'.ownsRow base e 2 v' (xs ++ l).length (cellsOfPairs (xs ++ l)) → w.grownBy w' v.ownBlock → wpList P ops Q rest (a.put o.dst v') w') : wpList P ops Q (o :: rest) a w := by
  subst hn
  subst hm
  obtain ⟨i, i0, i1, i2, i3⟩ := info_parts hi
  cases A with
  | some ad =>
    exact wpList_append_own w hgd s x t ho base e i (.agg #[.int .i64 0, .int .i64 0]) 2 16 ht i0 i1 i2 i3 rfl (by decide) v xs.length (cellsOfPairs xs) hs hown ad l.length c (cellsOfPairs l) hx (cells_pairs_length l) (pairs_src hA) (cells_pairs_one l) (by unfold maxLen; omega) (by omega) hbase fun v' w' h1 h2 _ => h v' w' (by rw [List.length_append, cells_pairs_append]; exact h1) h2
  | none =>
    have hl : l = [] := by
      cases l with
      | nil => rfl
      | cons b l => obtain ⟨_, _, e, _⟩ := hA 0 (by simp); cases e
    subst hl
    refine wpList_plain hgd fun K hK => ?_
    have hrun : (Builtin.append_ #[t, t] o.type #[v, .slice none 0 c]).run P w = .ok v w := by
      rcases hown.2 with ⟨rfl, _⟩ | ⟨g, cap, cur, rfl, _, _, hnc, _⟩
      · simp [Builtin.append_, run_underlying ht, sizeOf, typeInfo, i0, Builtin.lenOf, Builtin.firstCells]
      · simp [Builtin.append_, run_underlying ht, sizeOf, typeInfo, i0, Builtin.lenOf, Builtin.firstCells, hnc, storeCells]
    have hk := h v w (by simpa using hown) ⟨rfl, rfl, rfl, Nat.le_refl _, fun _ _ _ => rfl⟩
    unfold Oper.wp
    simp at hx
    simp [execOp, ho, resolve, invoke, builtin, hs, hx, hrun, Result.andThen]
    exact hK _ _ hk
/-- A row of pairs at B or behind, that may be written; what it holds is not told. -/
def PairRow (w : World) (B : Nat) (A : Option Addr) (n : Nat) : Prop :=
  ∀ k, k < n → ∃ b off, A = some ⟨b, off, none⟩ ∧ B ≤ b ∧ b < w.heap.size ∧ (∃ x : Int, w.cell? ⟨b, off + k * 2, none⟩ = some (.int .i64 x)) ∧ (∃ y : Int, w.cell? ⟨b, off + k * 2 + 1, none⟩ = some (.int .i64 y)) ∧ ∀ j, w.frozen? ⟨b, j, none⟩ = false
theorem PairRow.of_own {w : World} {B : Nat} {e : TypeId} {A : Option Addr} {cap : Nat} {l : List (Int × Int)} (h : w.ownsRow B e 2 (.slice A l.length cap) l.length (cellsOfPairs l)) : PairRow w B A l.length := fun k hk => by
  obtain ⟨A', c', e1, hp⟩ := PairsAt.of_own h
  cases e1
  obtain ⟨b, off, e2, hlt, h1, h2⟩ := hp k hk
  subst e2
  rcases h.2 with ⟨e3, _⟩ | ⟨g, cp, cur, e3, hb, hh, _⟩
  · cases e3
  · cases e3
    exact ⟨b, 0, rfl, hb, hlt, ⟨_, h1⟩, ⟨_, h2⟩, fun j => by simp only [World.frozen?, hh]; simp⟩
theorem PairRow.set {w : World} {B n : Nat} {b off : Nat} (h : PairRow w B (some ⟨b, off, none⟩) n) (p : Nat) (x : Int) : PairRow (w.setCell ⟨b, p, none⟩ (.int .i64 x)) B (some ⟨b, off, none⟩) n := fun k hk => by
  obtain ⟨b', off', e, hB, hlt, ⟨u, h1⟩, ⟨v, h2⟩, hf⟩ := h k hk
  cases e
  refine ⟨b, off, rfl, hB, by simpa using hlt, ?_, ?_, fun j => by rw [World.frozen?_setCell]; exact hf j⟩
  · by_cases e : p = off + k * 2
    · subst e; exact ⟨x, World.cell?_setCell_same w _ _ h1⟩
    · exact ⟨u, by rw [World.cell?_setCell_other (h := by intro g; simp only [Addr.mk.injEq, and_true, true_and] at g; omega), h1]⟩
  · by_cases e : p = off + k * 2 + 1
    · subst e; exact ⟨x, World.cell?_setCell_same w _ _ h2⟩
    · exact ⟨v, by rw [World.cell?_setCell_other (h := by intro g; simp only [Addr.mk.injEq, and_true, true_and] at g; omega), h2]⟩
theorem PairRow.next {w w1 : World} {B n : Nat} {A : Option Addr} (h : PairRow w B A n) (k : Ok w w1) : PairRow w1 B A n := fun j hj => by
  obtain ⟨b, off, e, hB, hlt, ⟨u, h1⟩, ⟨v, h2⟩, hf⟩ := h j hj
  exact ⟨b, off, e, hB, Nat.lt_of_lt_of_le hlt k.size, ⟨u, (k.cell (p := ⟨b, off + j * 2, none⟩) hlt).trans h1⟩, ⟨v, (k.cell (p := ⟨b, off + j * 2 + 1, none⟩) hlt).trans h2⟩, fun i => (Below.frozen k.below (p := ⟨b, i, none⟩) hlt).trans (hf i)⟩
end Go.Proofs.YtlclfonlidcfiaaDoor

/- Words of my own: a slice of structs, read as the row of their cells; what came in as one; append of such a row to one of one's own. -/
namespace Go.Proofs.YtlclfonlidcfiaaDoor
open Go.RowKit Go.WideShapes Go.ChangeShapes Go.Joins Go.Deep
/-- The slice with address A reads, in world w, as these cells. -/
def CellsAt (w : World) (A : Option Addr) (cs : List Value) : Prop :=
  ∀ j u, cs[j]? = some u → ∃ b off, A = some ⟨b, off, none⟩ ∧ b < w.heap.size ∧ w.cell? ⟨b, off + j, none⟩ = some u
namespace CellsAt
theorem empty (w : World) (A : Option Addr) : CellsAt w A [] := fun j u h => by simp at h
theorem below {w w' : World} {A : Option Addr} {cs : List Value} (h : CellsAt w A cs) (hb : Ok w w') : CellsAt w' A cs := fun j u hj => by
  obtain ⟨b, off, hA, hlt, hc⟩ := h j u hj
  exact ⟨b, off, hA, Nat.lt_of_lt_of_le hlt hb.size, (Below.cell hb (p := ⟨b, off + j, none⟩) hlt).trans hc⟩
theorem alloc {w : World} {A : Option Addr} {cs : List Value} (h : CellsAt w A cs) (o : Obj) : CellsAt (w.alloc o) A cs := h.below (below_alloc w o)
theorem drew {w : World} {A : Option Addr} {cs : List Value} (h : CellsAt w A cs) : CellsAt w.drew A cs := h.below (Ok.refl w).drew
/-- A slice that is written down: a new block. -/
theorem new (w : World) (t : TypeId) (cs : Array Value) {l : List Value} (h : cs.toList = l) {b : Nat} (hb : b = w.heap.size) : CellsAt (w.alloc (.cells cs t)) (some ⟨b, 0, none⟩) l := by
  subst hb
  subst h
  intro j u hj
  have e2 : (w.alloc (.cells cs t)).heap[w.heap.size]? = some (.cells cs t) := (MapKept.heap_alloc w _).1
  rw [Array.getElem?_toList] at hj
  refine ⟨w.heap.size, 0, rfl, by simp, ?_⟩
  simp only [World.cell?, e2, Nat.zero_add]; exact hj
/-- A row of the call's own reads as what it holds. -/
theorem of_own {w : World} {B : Nat} {e : TypeId} {k n : Nat} {v : Value} {cs : List Value} (h : w.ownsRow B e k v n cs) (hn : n * k = cs.length) (_hk : 0 < k) : ∃ A cap, v = .slice A n cap ∧ CellsAt w A cs := by
  rcases h.2 with ⟨rfl, hx⟩ | ⟨g, cap, cur, rfl, hb, hh, r⟩
  · subst hx
    have : cs = [] := List.length_eq_zero_iff.1 (by omega)
    subst this
    exact ⟨none, 0, rfl, empty _ _⟩
  · refine ⟨some ⟨g, 0, none⟩, cap, rfl, fun j u hj => ⟨g, 0, rfl, (Array.getElem?_eq_some_iff.1 hh).1, ?_⟩⟩
    have := h.cells (g := g) rfl j u hj
    rwa [Go.WideShapes.add_plain] at this
theorem take {w : World} {A : Option Addr} {cs : List Value} (h : CellsAt w A cs) (n : Nat) : CellsAt w A (cs.take n) := fun j u hj => by
  rw [List.getElem?_take] at hj
  split at hj
  · exact h j u hj
  · simp at hj
theorem drop {w : World} {b off : Nat} {cs : List Value} (h : CellsAt w (some ⟨b, off, none⟩) cs) (n : Nat) : CellsAt w (some ⟨b, off + n, none⟩) (cs.drop n) := fun j u hj => by
  rw [List.getElem?_drop] at hj
  obtain ⟨b', off', e, hlt, hc⟩ := h (n + j) u hj
  cases e
  exact ⟨b, off + n, rfl, hlt, by rw [Nat.add_assoc]; exact hc⟩
end CellsAt
theorem flatMap_length {α : Type} (f : α → List Value) (n : Nat) (hf : ∀ x, (f x).length = n) (l : List α) : (l.flatMap f).length = l.length * n := by
  induction l with
  | nil => simp
  | cons x l ih => rw [List.flatMap_cons, List.length_append, ih, hf, List.length_cons, Nat.add_mul, Nat.one_mul, Nat.add_comm]
theorem flatMap_at {α : Type} (f : α → List Value) (n : Nat) (hf : ∀ x, (f x).length = n) : ∀ (l : List α) (k : Nat) (h : k < l.length) (j : Nat) (u : Value), (f l[k])[j]? = some u → (l.flatMap f)[k * n + j]? = some u
  | [], k, h, _, _, _ => absurd h (Nat.not_lt_zero k)
  | x :: l, 0, _, j, u, hj => by
    have : j < (f x).length := (List.getElem?_eq_some_iff.1 hj).1
    rw [List.flatMap_cons, Nat.zero_mul, Nat.zero_add, List.getElem?_append_left this]
    exact hj
  | x :: l, k + 1, h, j, u, hj => by
    rw [List.flatMap_cons, List.getElem?_append_right (by rw [hf, Nat.add_mul]; omega), hf, show (k + 1) * n + j - n = k * n + j by rw [Nat.add_mul]; omega]
    exact flatMap_at f n hf l k (by simpa using h) j u hj
/-- The k-th struct of a slice of structs. -/
theorem CellsAt.at {α : Type} {w : World} {A : Option Addr} {f : α → List Value} {l : List α} (h : CellsAt w A (l.flatMap f)) {n : Nat} (hf : ∀ x, (f x).length = n) (hn : 0 < n) (k : Nat) (hk : k < l.length) :
    ∃ b off, A = some ⟨b, off, none⟩ ∧ b < w.heap.size ∧ ∀ j u, (f l[k])[j]? = some u → w.cell? ⟨b, off + k * n + j, none⟩ = some u := by
  have h0 : 0 < (f l[k]).length := by rw [hf]; exact hn
  obtain ⟨b, off, e, hlt, _⟩ := h _ _ (flatMap_at f n hf l k hk 0 _ (List.getElem?_eq_getElem h0))
  refine ⟨b, off, e, hlt, fun j u hj => ?_⟩
  obtain ⟨b', off', e', _, hc⟩ := h _ _ (flatMap_at f n hf l k hk j u hj)
  rw [e] at e'
  cases e'
  rw [Nat.add_assoc]
  exact hc
/-- append of cells that are there, nil or not, to a row of one's own. -/
theorem wpList_append_cells {P : Program} {w : World} {ops : Array Oper} {rest : List Oper} {o : Oper} {a : Act} {Q : Exit → Act → World → Prop} (hgd : o.guard = none) (s x : Operand) (t : TypeId)
    (ho : o.op = .call { callee := .builtin .append, args := #[s, x], argTypes := #[t, t] })
    (base : Nat) (e : TypeId) (ht : P.underlying t = some (.slice e)) (z : Value) (k bytes : Nat) (hk : 0 < k) (hby : bytes ≤ 100000) (hz : z.cells.size = k) (hi : (P.info? e).map (fun i => (i.zero, i.size, i.bytes)) = some (some z, k, bytes))
    (v : Value) (n : Nat) (xs : List Value) (hs : a.eval s = v) (hown : w.ownsRow base e k v n xs) (A : Option Addr) (m c : Nat) (ys : List Value) (hm : ys.length = m * k) (hx : a.eval x = .slice A m c) (hA : CellsAt w A ys) (hone : ∀ u ∈ ys, u.oneCell' = true)
    (h63 : n + m ≤ 1000000) (hbase : base ≤ w.heap.size)
    (h : ∀ v' w', w'.ownsRow base e k v' (n + m) (xs ++ ys) → w.grownBy w' v.ownBlock → wpList P ops Q rest (a.put o.dst v') w') : wpList P ops Q (o :: rest) a w := by
  obtain ⟨i, i0, i1, i2, i3⟩ := info_parts hi
  cases A with
  | some ad =>
    refine wpList_append_own w hgd s x t ho base e i z k bytes ht i0 i1 i2 i3 hz hk v n xs hs hown ad m c ys hx hm (fun j u hj => ?_) hone (by unfold maxLen; omega) ?_ hbase fun v' w' h1 h2 _ => h v' w' h1 h2
    · obtain ⟨b, off, e1, _, h1⟩ := hA j u hj
      cases e1
      rwa [Go.WideShapes.add_plain]
    · exact Nat.le_trans (Nat.mul_le_mul h63 hby) (by decide)
  | none =>
    have hl : ys = [] := by
      cases ys with
      | nil => rfl
      | cons y l => obtain ⟨_, _, e, _⟩ := hA 0 y rfl; cases e
    subst hl
    have hm0 : m = 0 := by
      rcases Nat.mul_eq_zero.1 hm.symm with h | h
      · exact h
      · omega
    subst hm0
    refine wpList_plain hgd fun K hK => ?_
    have hrun : (Builtin.append_ #[t, t] o.type #[v, .slice none 0 c]).run P w = .ok v w := by
      rcases hown.2 with ⟨rfl, _⟩ | ⟨g, cap, cur, rfl, _, _, hnc, _⟩
      · simp [Builtin.append_, run_underlying ht, sizeOf, typeInfo, i0, Builtin.lenOf, Builtin.firstCells]
      · simp [Builtin.append_, run_underlying ht, sizeOf, typeInfo, i0, Builtin.lenOf, Builtin.firstCells, hnc, storeCells]
    have hk := h v w (by simpa using hown) ⟨rfl, rfl, rfl, Nat.le_refl _, fun _ _ _ => rfl⟩
    unfold Oper.wp
    simp [execOp, ho, resolve, invoke, builtin, hs, hx, hrun, Result.andThen]
    exact hK _ _ hk
/-- What a field may be. -/
inductive Kind where
  | int | bool | str
def Kind.type (P : Program) (t : TypeId) : Option Kind :=
  match P.underlying t with
  | some (.int .i64) => some .int
  | some .bool => some .bool
  | some .string => some .str
  | _ => none
def Kind.ok : Kind → Value → Prop
  | .int, v => ∃ z : Int, v = .int .i64 z ∧ (Lit.int .i64 z).wf = true
  | .bool, v => ∃ b : Bool, v = .bool b
  | .str, v => ∃ s : ByteArray, v = .string s ∧ s.size ≤ maxLen
def Kind.rows : List Kind → List Value → Prop
  | [], [] => True
  | k :: ks, v :: vs => k.ok v ∧ Kind.rows ks vs
  | _, _ => False
theorem Kind.rows_of : ∀ (ks : List Kind) (vs : List Value), vs.length = ks.length → (∀ (j : Nat) (k : Kind) (v : Value), ks[j]? = some k → vs[j]? = some v → k.ok v) → Kind.rows ks vs
  | [], [], _, _ => trivial
  | k :: ks, v :: vs, hl, h => ⟨h 0 k v rfl rfl, Kind.rows_of ks vs (by simpa using hl) fun j k' v' h1 h2 => h (j + 1) k' v' (by simpa using h1) (by simpa using h2)⟩
  | [], _ :: _, hl, _ => by simp at hl
  | _ :: _, [], hl, _ => by simp at hl
theorem Kind.rows_length : ∀ (ks : List Kind) (vs : List Value), Kind.rows ks vs → vs.length = ks.length
  | [], [], _ => rfl
  | _ :: ks, _ :: vs, h => by rw [List.length_cons, List.length_cons, Kind.rows_length ks vs h.2]
  | [], _ :: _, h => h.elim
  | _ :: _, [], h => h.elim
/-- What all are the picture of something is the picture of a list. -/
theorem rows_map {α β : Type} (f : α → β) (p : α → Prop) : ∀ l : List β, (∀ r ∈ l, ∃ x, r = f x ∧ p x) → ∃ xs : List α, l = xs.map f ∧ ∀ x ∈ xs, p x
  | [], _ => ⟨[], rfl, by simp⟩
  | r :: l, h => by
    obtain ⟨x, rfl, hx⟩ := h r List.mem_cons_self
    obtain ⟨xs, rfl, hxs⟩ := rows_map f p l fun r hr => h r (List.mem_cons_of_mem _ hr)
    refine ⟨x :: xs, rfl, fun y hy => ?_⟩
    rcases List.mem_cons.1 hy with rfl | hy
    · exact hx
    · exact hxs y hy
theorem flatMap_inv {α : Type} (f : α → List Value) (n : Nat) (hf : ∀ x, (f x).length = n) (hn : 0 < n) (l : List α) (j : Nat) (u : Value) (h : (l.flatMap f)[j]? = some u) : ∃ (k : Nat) (hk : k < l.length), k = j / n ∧ (f l[k])[j % n]? = some u := by
  have hlt : j < l.length * n := by rw [← flatMap_length f n hf]; exact (List.getElem?_eq_some_iff.1 h).1
  have hk : j / n < l.length := Nat.div_lt_of_lt_mul (by rw [Nat.mul_comm]; exact hlt)
  have hj : j % n < (f l[j / n]).length := by rw [hf]; exact Nat.mod_lt _ hn
  refine ⟨j / n, hk, rfl, ?_⟩
  have := flatMap_at f n hf l (j / n) hk (j % n) _ (List.getElem?_eq_getElem hj)
  rw [Nat.div_add_mod'] at this
  rw [this] at h
  cases h
  exact List.getElem?_eq_getElem hj
section
variable {H : Type} {enc : TypeId × Value → H} {P : Program} {w : World} {base : Nat}
/-- A slice of structs of ints, bools and strings that came in. -/
theorem open_slice_rows {α : Type} (f : α → List Value) (p : α → Prop) (ks : List Kind) (hks : ∀ x, (f x).length = ks.length) (hp : ∀ r, Kind.rows ks r → ∃ x, r = f x ∧ p x) (hk0 : 0 < ks.length)
    {t e : TypeId} {fs : Array Field} {v : Value} {d : DataW H} {ps : List MemPlace} (ht : P.underlying t = some (.slice e)) (he : P.underlying e = some (.struct fs)) (hone : oneCellFields P fs = true) (hC : P.cellsOf e = ks.length)
    (hty : fs.toList.map (fun x => Kind.type P x.type) = ks.map some) (hv : Value.okWide P w .any base t v) (h : DataW.Trod enc P w 0 (fun _ => true) true t v d ps) :
    ∃ (A : Option Addr) (l : List α) (cap : Nat), v = .slice A l.length cap ∧ CellsAt w A (l.flatMap f) ∧ l.length ≤ 9223372036854775807 ∧ ∀ x ∈ l, p x := by
  obtain ⟨a0, len, cap, rfl⟩ := okWide_slice ht hv
  obtain ⟨fuel, hf⟩ := h
  have hfs : fs.size = ks.length := by simpa using congrArg List.length hty
  rcases open_slice ht hf with h2 | ⟨a, len', cap', m, n, D, Pl, hcs, hb, hl, hm, hmm, hx, hi⟩
  · simp [Value.cells] at h2
    obtain ⟨⟨rfl, rfl, rfl⟩, -⟩ := h2
    exact ⟨none, [], 0, rfl, CellsAt.empty _ _, by simp, by simp⟩
  · simp [Value.cells] at hcs
    obtain ⟨rfl, rfl, rfl⟩ := hcs
    simp only [if_true] at hmm
    subst hmm
    have key : ∀ i, i < len → ∃ x, p x ∧ ∀ j u, (f x)[j]? = some u → w.cell? (a.add (i * ks.length + j)) = some u := by
      intro i hlt
      obtain ⟨cs', hc, ht'⟩ := hi i (by omega)
      rw [hC] at hc
      obtain ⟨ys, n', hn', hy, hlen, hyl, hfl⟩ := DataW.trod_struct he ht'
      obtain ⟨hcl0, hcl, hat⟩ := World.cells?_some hc
      have hrow : Kind.rows ks cs' := by
        refine Kind.rows_of ks cs' hcl fun j k v hk hv => ?_
        have hj : j < ks.length := (List.getElem?_eq_some_iff.1 hk).1
        have hjf : j < fs.size := by omega
        have hf0 : fs[j]? = some fs[j] := Array.getElem?_eq_getElem hjf
        obtain ⟨ho, hk1⟩ := hone_of hone j fs[j] hf0
        have h1 := hfl j fs[j] hf0
        rw [ho, hk1] at h1
        have hv' : cs'[j]'(by omega) = v := by
          have := List.getElem?_eq_getElem (l := cs') (i := j) (by omega)
          rw [this] at hv
          exact Option.some.inj hv
        have e1 : (cs'.drop j).take 1 = [v] := by
          rw [List.drop_eq_getElem_cons (by omega), hv']
          rfl
        have hjs : j < ys.length := by rw [hyl]; exact hjf
        rw [e1, List.getElem?_eq_getElem hjs] at h1
        have h3 : Kind.type P fs[j].type = some k := by
          have h4 := congrArg (fun l => l[j]?) hty
          simp only [List.getElem?_map, hk, Option.map_some] at h4
          rw [Array.getElem?_toList, hf0] at h4
          simpa using h4
        unfold Kind.type at h3
        split at h3
        · rename_i hu
          cases h3
          obtain ⟨z, h5, _, h6⟩ := DataW.trod_int hu h1
          exact ⟨z, by simpa using h5, h6⟩
        · rename_i hu
          cases h3
          obtain ⟨z, h5, _⟩ := DataW.trod_bool hu h1
          exact ⟨z, by simpa using h5⟩
        · rename_i hu
          cases h3
          obtain ⟨z, h5, _, h6⟩ := DataW.trod_string hu h1
          exact ⟨z, by simpa using h5, h6⟩
        · cases h3
      obtain ⟨x, rfl, hpx⟩ := hp cs' hrow
      refine ⟨x, hpx, fun j u hj => ?_⟩
      have hjl : j < (f x).length := (List.getElem?_eq_some_iff.1 hj).1
      have := hat j (by omega)
      rw [← Go.Deep.add_add, this]
      exact hj
    have key' : ∀ i : Fin len, ∃ x, p x ∧ ∀ j u, (f x)[j]? = some u → w.cell? (a.add (i * ks.length + j)) = some u := fun i => key i i.2
    obtain ⟨F, hF⟩ := Classical.axiomOfChoice key'
    have hlen : (List.ofFn F).length = len := by simp
    refine ⟨some a, List.ofFn F, _, by rw [hlen], fun j u hj => ?_, by unfold maxLen at hm; omega, fun s hs => ?_⟩
    · obtain ⟨k, hk, e1, e2⟩ := flatMap_inv f ks.length hks hk0 _ j u hj
      rw [hlen] at hk
      have h := (hF ⟨k, hk⟩).2 (j % ks.length) u (by simpa using e2)
      obtain ⟨b, off, spot⟩ := a
      have hspot : spot = none := by
        have hp0 : 0 < len := by omega
        have hx0 : 0 < (f (F ⟨0, hp0⟩)).length := by rw [hks]; exact hk0
        have h0 := (hF ⟨0, hp0⟩).2 0 _ (List.getElem?_eq_getElem hx0)
        simpa [Addr.add] using World.cell?_spot h0
      subst hspot
      simp only [Go.WideShapes.add_plain, e1, Nat.div_add_mod'] at h
      exact ⟨b, off, rfl, cell_lt h, h⟩
    · obtain ⟨i, rfl⟩ := List.mem_ofFn.1 hs
      exact (hF i).1
end
end Go.Proofs.YtlclfonlidcfiaaDoor

/- Words of my own: a call that changes one block alone of those that were there; rings of items in a block. -/
namespace Go.Proofs.YtlclfonlidcfiaaDoor
open Go.RowKit
/-- Of the blocks that were there only r may have changed. -/
structure Only (r : Nat) (w w' : World) : Prop where
  os : w'.os = w.os
  tape : w'.tape = w.tape
  output : w'.output = w.output
  size : w.heap.size ≤ w'.heap.size
  block : ∀ k, k < w.heap.size → k ≠ r → w'.heap[k]? = w.heap[k]?
namespace Only
variable {r : Nat} {w w1 w2 : World}
theorem refl (r : Nat) (w : World) : Only r w w := ⟨rfl, rfl, rfl, Nat.le_refl _, fun _ _ _ => rfl⟩
theorem ok (h : Only r w w1) (k : Ok w1 w2) : Only r w w2 := ⟨k.below.os.trans h.os, k.below.tape.trans h.tape, k.below.output.trans h.output, Nat.le_trans h.size k.size, fun i a b => (k.below.block i (Nat.lt_of_lt_of_le a h.size)).trans (h.block i a b)⟩
theorem of_ok (k : Ok w w1) : Only r w w1 := (refl r w).ok k
theorem trans (h : Only r w w1) (k : Only r w1 w2) : Only r w w2 := ⟨k.os.trans h.os, k.tape.trans h.tape, k.output.trans h.output, Nat.le_trans h.size k.size, fun i a b => (k.block i (Nat.lt_of_lt_of_le a h.size) b).trans (h.block i a b)⟩
theorem set (h : Only r w w1) {a : Addr} (ha : a.block = r ∨ w.heap.size ≤ a.block) (v : Value) : Only r w (w1.setCell a v) :=
  ⟨h.os, h.tape, h.output, by simpa using h.size, fun i h1 h2 => (Below.heap_setCell w1 a v i (by rcases ha with e | e <;> omega)).trans (h.block i h1 h2)⟩
theorem setR (h : Only r w w1) (k : Nat) (v : Value) : Only r w (w1.setCell ⟨r, k, none⟩ v) := h.set (.inl rfl) v
theorem setN (h : Only r w w1) {b : Nat} (hb : w.heap.size ≤ b) (k : Nat) (v : Value) : Only r w (w1.setCell ⟨b, k, none⟩ v) := h.set (.inr hb) v
theorem alloc (h : Only r w w1) (o : Obj) : Only r w (w1.alloc o) := h.ok ((Ok.refl _).alloc o)
theorem grow (h : Only r w w1) {row : Option Nat} (g : w1.grownBy w2 row) (hr : ∀ k, row = some k → k = r ∨ w.heap.size ≤ k) : Only r w w2 :=
  ⟨g.os.trans h.os, g.tape.trans h.tape, g.output.trans h.output, Nat.le_trans h.size g.size, fun i a b => (g.block i (Nat.lt_of_lt_of_le a h.size) (fun e => by have := hr i e.symm; omega)).trans (h.block i a b)⟩
theorem own (h : Only r w w1) {g : Nat} {cs : Array Value} (hO : Own w g cs) (h1 : g ≠ r) : Own w1 g cs := by
  have hl := hO.lt
  obtain ⟨t, ht⟩ := hO
  exact ⟨t, (h.block g hl h1).trans ht⟩
theorem cell (h : Only r w w1) {p : Addr} (h1 : p.block < w.heap.size) (h2 : p.block ≠ r) : w1.cell? p = w.cell? p := World.cell?_of_block (h.block _ h1 h2)
theorem cells (h : Only r w w1) {A : Option Addr} {cs : List Value} (hA : CellsAt w A cs) (hr : ∀ a, A = some a → a.block ≠ r) : CellsAt w1 A cs := fun j u hj => by
  obtain ⟨b, off, e, hlt, hc⟩ := hA j u hj
  exact ⟨b, off, e, Nat.lt_of_lt_of_le hlt h.size, (h.cell (p := ⟨b, off + j, none⟩) hlt (show b ≠ r from hr ⟨b, off, none⟩ e)).trans hc⟩
/-- What changes only a block of one's own changes nothing that came in. -/
theorem then_ok {w0 : World} (h0 : Ok w0 w) (h : Only r w w1) (hr : w0.heap.size ≤ r) : Ok w0 w1 :=
  ⟨h.os.trans h0.below.os, h.tape.trans h0.below.tape, h.output.trans h0.below.output, Nat.le_trans h0.size h.size, fun i hi => (h.block i (Nat.lt_of_lt_of_le hi h0.size) (by omega)).trans (h0.below.block i hi)⟩
end Only
/-- What waits in a ring at the cell o of a block, the first at the place f. -/
structure Ring (cs : Array Value) (o f : Nat) (l : List (ByteArray × Int)) : Prop where
  hf : f < 64
  hl : l.length ≤ 64
  hs : o + 130 ≤ cs.size
  first : cs[o + 128]? = some (.int .i64 (f : Nat))
  count : cs[o + 129]? = some (.int .i64 (l.length : Nat))
  text : ∀ i (h : i < l.length), cs[o + (f + i) % 64 * 2]? = some (.string l[i].1)
  age : ∀ i (h : i < l.length), cs[o + (f + i) % 64 * 2 + 1]? = some (.int .i64 l[i].2)
/-- All but the ring at o is as it was. -/
structure Aside (o : Nat) (cs cs' : Array Value) : Prop where
  size : cs'.size = cs.size
  far : ∀ k, k < o ∨ o + 130 ≤ k → cs'[k]? = cs[k]?
theorem set_at (cs : Array Value) (k j : Nat) (v : Value) (hk : k < cs.size) : (cs.set! k v)[j]? = if k = j then some v else cs[j]? := by
  rw [Array.set!_eq_setIfInBounds, Array.getElem?_setIfInBounds]
  by_cases h : k = j
  · subst h; simp [hk]
  · simp [h]
theorem set_same (cs : Array Value) (k : Nat) (v : Value) (hk : k < cs.size) : (cs.set! k v)[k]? = some v := by rw [set_at _ _ _ _ hk, if_pos rfl]
theorem set_else (cs : Array Value) {k j : Nat} (v : Value) (h : k ≠ j) : (cs.set! k v)[j]? = cs[j]? := by
  rw [Array.set!_eq_setIfInBounds, Array.getElem?_setIfInBounds]
  simp [h]
theorem set_size (cs : Array Value) (k : Nat) (v : Value) : (cs.set! k v).size = cs.size := by simp
namespace Aside
variable {o : Nat} {cs cs1 cs2 : Array Value}
theorem refl (o : Nat) (cs : Array Value) : Aside o cs cs := ⟨rfl, fun _ _ => rfl⟩
theorem trans (h : Aside o cs cs1) (k : Aside o cs1 cs2) : Aside o cs cs2 := ⟨k.size.trans h.size, fun i hi => (k.far i hi).trans (h.far i hi)⟩
theorem set (h : Aside o cs cs1) {k : Nat} (h1 : o ≤ k) (h2 : k < o + 130) (v : Value) : Aside o cs (cs1.set! k v) :=
  ⟨by rw [set_size]; exact h.size, fun i hi => by rw [set_else _ _ (by omega)]; exact h.far i hi⟩
theorem ring (h : Aside o cs cs1) {o' f : Nat} {l : List (ByteArray × Int)} (hR : Ring cs o' f l) (ho : o' + 130 ≤ o ∨ o + 130 ≤ o') : Ring cs1 o' f l := by
  obtain ⟨h1, h2, h3, h4, h5, h6, h7⟩ := hR
  refine ⟨h1, h2, by rw [h.size]; exact h3, (h.far _ (by omega)).trans h4, (h.far _ (by omega)).trans h5, fun i hi => ?_, fun i hi => ?_⟩
  · exact (h.far _ (by omega)).trans (h6 i hi)
  · exact (h.far _ (by omega)).trans (h7 i hi)
end Aside
namespace Ring
variable {cs : Array Value} {o f : Nat} {l : List (ByteArray × Int)}
/-- The first is taken out. -/
theorem pop {x : ByteArray × Int} (h : Ring cs o f (x :: l)) (u v : Value) :
    Ring ((((cs.set! (o + f * 2) u).set! (o + f * 2 + 1) v).set! (o + 128) (.int .i64 (((f + 1) % 64 : Nat) : Int))).set! (o + 129) (.int .i64 (l.length : Nat))) o ((f + 1) % 64) l := by
  obtain ⟨h1, h2, h3, h4, h5, h6, h7⟩ := h
  simp only [List.length_cons] at h2
  refine ⟨Nat.mod_lt _ (by decide), by omega, by simp only [set_size]; exact h3, ?_, ?_, fun i hi => ?_, fun i hi => ?_⟩
  · rw [set_else _ _ (by omega), set_same _ _ _ (by simp only [set_size]; omega)]
  · rw [set_same _ _ _ (by simp only [set_size]; omega)]
  · have := h6 (i + 1) (by simpa using hi)
    rw [set_else _ _ (by omega), set_else _ _ (by omega), set_else _ _ (by omega), set_else _ _ (by omega), show ((f + 1) % 64 + i) % 64 = (f + (i + 1)) % 64 by omega, this]
    rfl
  · have := h7 (i + 1) (by simpa using hi)
    rw [set_else _ _ (by omega), set_else _ _ (by omega), set_else _ _ (by omega), set_else _ _ (by omega), show ((f + 1) % 64 + i) % 64 = (f + (i + 1)) % 64 by omega, this]
    rfl
theorem pop_aside (cs : Array Value) (o f : Nat) (hf : f < 64) (a b u v : Value) : Aside o cs ((((cs.set! (o + f * 2) u).set! (o + f * 2 + 1) v).set! (o + 128) a).set! (o + 129) b) :=
  ((((Aside.refl o cs).set (by omega) (by omega) _).set (by omega) (by omega) _).set (by omega) (by omega) _).set (by omega) (by omega) _
/-- One more waits. -/
theorem push (h : Ring cs o f l) (hl : l.length < 64) (s : ByteArray) :
    Ring (((cs.set! (o + (f + l.length) % 64 * 2) (.string s)).set! (o + (f + l.length) % 64 * 2 + 1) (.int .i64 0)).set! (o + 129) (.int .i64 ((l.length + 1 : Nat) : Int))) o f (l ++ [(s, 0)]) := by
  obtain ⟨h1, h2, h3, h4, h5, h6, h7⟩ := h
  refine ⟨h1, by simp; omega, by simp only [set_size]; exact h3, ?_, ?_, fun i hi => ?_, fun i hi => ?_⟩
  · rw [set_else _ _ (by omega), set_else _ _ (by omega), set_else _ _ (by omega), h4]
  · rw [set_same _ _ _ (by simp only [set_size]; omega)]; simp
  · simp only [List.length_append, List.length_cons, List.length_nil] at hi
    by_cases e : i = l.length
    · subst e
      rw [set_else _ _ (by omega), set_else _ _ (by omega), set_same _ _ _ (by omega)]
      simp
    · rw [set_else _ _ (by omega), set_else _ _ (by omega), set_else _ _ (by omega), h6 i (by omega)]
      simp [List.getElem_append_left (show i < l.length by omega)]
  · simp only [List.length_append, List.length_cons, List.length_nil] at hi
    by_cases e : i = l.length
    · subst e
      rw [set_else _ _ (by omega), set_same _ _ _ (by simp only [set_size]; omega)]
      simp
    · rw [set_else _ _ (by omega), set_else _ _ (by omega), set_else _ _ (by omega), h7 i (by omega)]
      simp [List.getElem_append_left (show i < l.length by omega)]
theorem push_aside (cs : Array Value) (o f n : Nat) (a u v : Value) : Aside o cs (((cs.set! (o + (f + n) % 64 * 2) u).set! (o + (f + n) % 64 * 2 + 1) v).set! (o + 129) a) :=
  (((Aside.refl o cs).set (by omega) (by omega) _).set (by omega) (by omega) _).set (by omega) (by omega) _
/-- One is older. -/
theorem older (h : Ring cs o f l) (k : Nat) (hk : k < l.length) (a : Int) :
    Ring (cs.set! (o + (f + k) % 64 * 2 + 1) (.int .i64 a)) o f (l.set k (l[k].1, a)) := by
  obtain ⟨h1, h2, h3, h4, h5, h6, h7⟩ := h
  refine ⟨h1, by simpa using h2, by simp only [set_size]; exact h3, ?_, ?_, fun i hi => ?_, fun i hi => ?_⟩
  · rw [set_else _ _ (by omega), h4]
  · rw [set_else _ _ (by omega), h5]; simp
  · simp only [List.length_set] at hi
    rw [set_else _ _ (by omega), h6 i hi, List.getElem_set]
    by_cases e : k = i
    · subst e; simp
    · simp [e]
  · simp only [List.length_set] at hi
    by_cases e : k = i
    · subst e
      rw [set_same _ _ _ (by omega)]
      simp
    · rw [set_else _ _ (by omega), h7 i hi, List.getElem_set]
      simp [e]
end Ring
/-- 48 rings. -/
structure Laid (cs : Array Value) (q : Nat → List (ByteArray × Int)) : Prop where
  size : cs.size = 6240
  ring : ∀ w, w < 48 → ∃ f, Ring cs (w * 130) f (q w)
theorem Laid.turn {cs cs' : Array Value} {q : Nat → List (ByteArray × Int)} (h : Laid cs q) (w : Nat) {l : List (ByteArray × Int)} (hA : Aside (w * 130) cs cs') (hR : ∃ f, Ring cs' (w * 130) f l) : Laid cs' (fun k => if k = w then l else q k) := by
  refine ⟨hA.size.trans h.size, fun k hk => ?_⟩
  by_cases e : k = w
  · subst e; rw [if_pos rfl]; exact hR
  · rw [if_neg e]
    obtain ⟨f, hf⟩ := h.ring k hk
    exact ⟨f, hA.ring hf (by omega)⟩
theorem Laid.congr {cs : Array Value} {q q' : Nat → List (ByteArray × Int)} (h : Laid cs q) (e : ∀ k, k < 48 → q' k = q k) : Laid cs q' := ⟨h.size, fun k hk => by rw [e k hk]; exact h.ring k hk⟩
/-- In block g are lanes, in which waits what q says. -/
def LanesAt (w : World) (g : Nat) (q : Nat → List (ByteArray × Int)) : Prop := ∃ cs, Own w g cs ∧ Laid cs q
namespace LanesAt
variable {w w1 : World} {g r : Nat} {q q' : Nat → List (ByteArray × Int)}
theorem next (h : LanesAt w g q) (k : Ok w w1) : LanesAt w1 g q := by
  obtain ⟨cs, hO, hL⟩ := h
  exact ⟨cs, hO.next k, hL⟩
theorem only (h : LanesAt w g q) (k : Only r w w1) (hr : g ≠ r) : LanesAt w1 g q := by
  obtain ⟨cs, hO, hL⟩ := h
  exact ⟨cs, k.own hO hr, hL⟩
theorem congr (h : LanesAt w g q) (e : ∀ k, k < 48 → q' k = q k) : LanesAt w g q' := by
  obtain ⟨cs, hO, hL⟩ := h
  exact ⟨cs, hO, hL.congr e⟩
theorem lt (h : LanesAt w g q) : g < w.heap.size := by
  obtain ⟨cs, hO, _⟩ := h
  exact hO.lt
end LanesAt
end Go.Proofs.YtlclfonlidcfiaaDoor

/- Words of my own: slices of slices of structs of two integers that came in. -/
namespace Go.Proofs.YtlclfonlidcfiaaDoor
open Go.RowKit Go.WideShapes Go.ChangeShapes Go.Joins Go.Deep
set_option maxRecDepth 100000
section
variable {H : Type} {enc : TypeId × Value → H} {P : Program} {w : World}
/-- A slice of structs of two integers, as cells that came in. -/
theorem trod_pairs {t e : TypeId} {f0 f1 : Field} {fuel : Nat} {cs : List Value} {x : DataW H × List MemPlace} (ht : P.underlying t = some (.slice e)) (he : P.underlying e = some (.struct #[f0, f1])) (hone : oneCellFields P #[f0, f1] = true) (hC : P.cellsOf e = 2)
    (h0 : P.underlying f0.type = some (.int .i64)) (h1 : P.underlying f1.type = some (.int .i64)) (hf : DataW.trod enc P w 0 (fun _ => true) true fuel t cs = some x) :
    ∃ (A : Option Addr) (l : List (Int × Int)) (cap : Nat), cs = [.slice A l.length cap] ∧ PairsAt w A l ∧ l.length ≤ cap ∧ cap ≤ maxLen ∧ (∀ s ∈ l, (Lit.int .i64 s.1).wf = true ∧ (Lit.int .i64 s.2).wf = true) ∧ ((∀ n ∈ x.1.weights P t, n ≤ reachBytes) → l.length * P.bytesOf e ≤ reachBytes) := by
  rcases open_slice ht hf with h2 | ⟨a, len', cap', m, n, D, Pl, hcs, hb, hl, hm, hmm, hx, hi⟩
  · exact ⟨none, [], 0, h2.1, PairsAt.empty _ _, by simp, by unfold maxLen; simp, by simp, fun _ => by simp⟩
  · subst hcs
    simp only [if_true] at hmm
    subst hmm
    have key : ∀ i, i < len' → ∃ x y : Int, w.cell? (a.add (i * 2)) = some (.int .i64 x) ∧ w.cell? (a.add (i * 2 + 1)) = some (.int .i64 y) ∧ (Lit.int .i64 x).wf = true ∧ (Lit.int .i64 y).wf = true := by
      intro i hlt
      obtain ⟨cs', hc, ht'⟩ := hi i (by omega)
      rw [hC] at hc
      obtain ⟨ys, n', hn', hy, hlen, hyl, hfl⟩ := DataW.trod_struct he ht'
      obtain ⟨_, hcl, hat⟩ := World.cells?_some hc
      have one : ∀ (j : Nat) (f : Field), #[f0, f1][j]? = some f → P.underlying f.type = some (.int .i64) → ∃ z : Int, w.cell? (a.add (i * 2 + j)) = some (.int .i64 z) ∧ (Lit.int .i64 z).wf = true := by
        intro j f hj hu
        obtain ⟨ho, hk⟩ := hone_of hone j f hj
        have hjl : j < 2 := (Array.getElem?_eq_some_iff.1 hj).1
        have hcell := hat j hjl
        have h1 := hfl j f hj
        rw [ho, hk] at h1
        have e1 : (cs'.drop j).take 1 = [cs'[j]'(by omega)] := by
          rw [List.drop_eq_getElem_cons (by omega)]
          rfl
        have hjs : j < ys.length := by rw [hyl]; exact hjl
        rw [e1, List.getElem?_eq_getElem hjs] at h1
        obtain ⟨z, h2, _, h3⟩ := DataW.trod_int hu h1
        refine ⟨z, ?_, h3⟩
        rw [← Go.Deep.add_add, hcell, List.getElem?_eq_getElem (show j < cs'.length by omega)]
        simpa using h2
      obtain ⟨x, hx, wx⟩ := one 0 f0 rfl h0
      obtain ⟨y, hy, wy⟩ := one 1 f1 rfl h1
      exact ⟨x, y, hx, hy, wx, wy⟩
    have key' : ∀ i : Fin len', ∃ s : Int × Int, w.cell? (a.add (i * 2)) = some (.int .i64 s.1) ∧ w.cell? (a.add (i * 2 + 1)) = some (.int .i64 s.2) ∧ (Lit.int .i64 s.1).wf = true ∧ (Lit.int .i64 s.2).wf = true := fun i => by
      obtain ⟨x, y, h⟩ := key i i.2
      exact ⟨(x, y), h⟩
    obtain ⟨F, hF⟩ := Classical.axiomOfChoice key'
    have hlen : (List.ofFn F).length = len' := by simp
    refine ⟨some a, List.ofFn F, _, by rw [hlen], fun k hk => ?_, by omega, hm, fun s hs => ?_, fun hn => ?_⟩
    · have hk' : k < len' := by omega
      have h := hF ⟨k, hk'⟩
      obtain ⟨b, off, spot⟩ := a
      have hspot : spot = none := by
        have h0 := hF ⟨0, by omega⟩
        simpa [Addr.add] using World.cell?_spot h0.1
      subst hspot
      simp only [Go.WideShapes.add_plain, ← Nat.add_assoc] at h
      have e : (List.ofFn F)[k] = F ⟨k, hk'⟩ := by simp
      rw [e]
      exact ⟨b, off, rfl, cell_lt h.1, h.1, h.2.1⟩
    · obtain ⟨i, rfl⟩ := List.mem_ofFn.1 hs
      exact (hF i).2.2
    · have h1 := hn ((len' + (m - len')) * P.bytesOf e) (by rw [hx]; simp [DataW.weights, ht])
      refine Nat.le_trans (Nat.mul_le_mul_right _ ?_) h1
      rw [hlen]
      omega
end
/-- A table, and where it lies. -/
structure TA where
  l : List (Int × Int)
  A : Option Addr
  cap : Nat
abbrev taV (x : TA) : Value := .slice x.A x.l.length x.cap
/-- The slice at B reads as these tables. -/
structure TabsAt (w : World) (B : Option Addr) (ts : List TA) : Prop where
  cells : ∀ k (h : k < ts.length), ∃ b off, B = some ⟨b, off, none⟩ ∧ b < w.heap.size ∧ w.cell? ⟨b, off + k, none⟩ = some (taV ts[k])
  tabs : ∀ x ∈ ts, PairsAt w x.A x.l
namespace TabsAt
variable {w w' : World} {B : Option Addr} {ts : List TA}
theorem below (h : TabsAt w B ts) (k : Ok w w') : TabsAt w' B ts := ⟨fun j hj => by
  obtain ⟨b, off, hA, hlt, hc⟩ := h.cells j hj
  exact ⟨b, off, hA, Nat.lt_of_lt_of_le hlt k.size, (k.cell (p := ⟨b, off + j, none⟩) hlt).trans hc⟩, fun x hx => (h.tabs x hx).below k⟩
theorem empty (w : World) (B : Option Addr) : TabsAt w B [] := ⟨fun k h => absurd h (Nat.not_lt_zero k), by simp⟩
end TabsAt
/-- What is so of each table that came in. -/
def TFit (x : TA) : Prop := x.l.length ≤ 9223372036854775807 ∧ ∀ e ∈ x.l, (-9223372036854775808 ≤ e.1 ∧ e.1 ≤ 9223372036854775807) ∧ -9223372036854775808 ≤ e.2 ∧ e.2 ≤ 9223372036854775807
section
variable {H : Type} {enc : TypeId × Value → H} {P : Program} {w : World} {base : Nat}
theorem wf_two {k : Int} (h : (Lit.int .i64 k).wf = true) : -9223372036854775808 ≤ k ∧ k ≤ 9223372036854775807 := by
  have e : IntKind.i64.min = -9223372036854775808 := rfl
  simp [Lit.wf] at h
  omega
/-- A slice of tables that came in. -/
theorem open_tabsC {tt t e : TypeId} {f0 f1 : Field} {v : Value} {d : DataW H} {ps : List MemPlace} (htt : P.underlying tt = some (.slice t)) (hCt : P.cellsOf t = 1) (ht : P.underlying t = some (.slice e)) (he : P.underlying e = some (.struct #[f0, f1])) (hone : oneCellFields P #[f0, f1] = true) (hC : P.cellsOf e = 2)
    (h0 : P.underlying f0.type = some (.int .i64)) (h1 : P.underlying f1.type = some (.int .i64)) (hv : Value.okWide P w .any base tt v) (h : DataW.Trod enc P w 0 (fun _ => true) true tt v d ps) :
    ∃ (B : Option Addr) (ts : List TA) (cap : Nat), v = .slice B ts.length cap ∧ TabsAt w B ts ∧ ts.length ≤ 9223372036854775807 ∧ (∀ x ∈ ts, TFit x) ∧ ts.length ≤ cap := by
  obtain ⟨a0, len, cap, rfl⟩ := okWide_slice htt hv
  obtain ⟨fuel, hf⟩ := h
  rcases open_slice htt hf with h2 | ⟨a, len', cap', m, n, D, Pl, hcs, hb, hl, hm, hmm, hx, hi⟩
  · simp [Value.cells] at h2
    obtain ⟨⟨rfl, rfl, rfl⟩, -⟩ := h2
    exact ⟨none, [], 0, rfl, TabsAt.empty _ _, by simp, by simp, by simp⟩
  · simp [Value.cells] at hcs
    obtain ⟨rfl, rfl, rfl⟩ := hcs
    simp only [if_true] at hmm
    subst hmm
    have key : ∀ i : Fin len, ∃ x : TA, w.cell? (a.add i) = some (taV x) ∧ PairsAt w x.A x.l ∧ TFit x := by
      intro i
      obtain ⟨cs', hc, ht'⟩ := hi i (by omega)
      rw [hCt, Nat.mul_one] at hc
      obtain ⟨hlen, hcl, hat⟩ := World.cells?_some hc
      obtain ⟨A, l, c, e2, hA, hc1, hc2, hw, _⟩ := trod_pairs ht he hone hC h0 h1 ht'
      have hz := hat 0 (by omega)
      rw [e2] at hz
      refine ⟨⟨l, A, c⟩, ?_, hA, ?_, fun s hs => ⟨wf_two (hw s hs).1, wf_two (hw s hs).2⟩⟩
      · rw [Go.Deep.add_add] at hz
        simpa using hz
      · show l.length ≤ 9223372036854775807
        unfold maxLen at hc2
        omega
    obtain ⟨F, hF⟩ := Classical.axiomOfChoice key
    have hlen : (List.ofFn F).length = len := by simp
    refine ⟨some a, List.ofFn F, _, by rw [hlen], ⟨fun k hk => ?_, fun x hx => ?_⟩, by unfold maxLen at hm; omega, fun x hx => ?_, by omega⟩
    · have hk' : k < len := by simpa using hk
      have h := (hF ⟨k, hk'⟩).1
      obtain ⟨b, off, spot⟩ := a
      have hspot : spot = none := by
        have h0 := (hF ⟨0, by omega⟩).1
        simpa [Addr.add] using World.cell?_spot h0
      subst hspot
      rw [Go.WideShapes.add_plain] at h
      exact ⟨b, off, rfl, cell_lt h, by simpa using h⟩
    · obtain ⟨i, rfl⟩ := List.mem_ofFn.1 hx
      exact (hF i).2.1
    · obtain ⟨i, rfl⟩ := List.mem_ofFn.1 hx
      exact (hF i).2.2
/-- A slice of tables that came in. -/
theorem open_tabs {tt t e : TypeId} {f0 f1 : Field} {v : Value} {d : DataW H} {ps : List MemPlace} (htt : P.underlying tt = some (.slice t)) (hCt : P.cellsOf t = 1) (ht : P.underlying t = some (.slice e)) (he : P.underlying e = some (.struct #[f0, f1])) (hone : oneCellFields P #[f0, f1] = true) (hC : P.cellsOf e = 2)
    (h0 : P.underlying f0.type = some (.int .i64)) (h1 : P.underlying f1.type = some (.int .i64)) (hv : Value.okWide P w .any base tt v) (h : DataW.Trod enc P w 0 (fun _ => true) true tt v d ps) :
    ∃ (B : Option Addr) (ts : List TA) (cap : Nat), v = .slice B ts.length cap ∧ TabsAt w B ts ∧ ts.length ≤ 9223372036854775807 ∧ ∀ x ∈ ts, TFit x := by
  obtain ⟨B, ts, cap, e1, h2, h3, h4, _⟩ := open_tabsC htt hCt ht he hone hC h0 h1 hv h
  exact ⟨B, ts, cap, e1, h2, h3, h4⟩
end
end Go.Proofs.YtlclfonlidcfiaaDoor
