/- Several texts of mine in one: W18, W23, W25, W26, W29. -/
import Derived.Test.YtmmiboblofopgaaGreatB00
import Derived.Test.YtmmiboblofopgaaGreatB08
import Derived.Laws.IdiomCopy
import Derived.Deep.AppendSrc
import Derived.Lib.AppendZerosOnto
import Derived.Lib.Overlaps
/- Words of my own: an integer that came in has the bounds of its kind. -/
namespace Go.Proofs.YtmmiboblofopgaaGreat
theorem wf_bd {k : Int} (h : (Lit.int .i64 k).wf = true) : -9223372036854775808 ≤ k ∧ k ≤ 9223372036854775807 := by
  have e : IntKind.i64.min = -9223372036854775808 := rfl
  simp [Lit.wf] at h
  omega
end Go.Proofs.YtmmiboblofopgaaGreat

/- Words of my own: append of cells that are there to a row of one's own: its value written out; as a step of a region that draws. -/
namespace Go.Proofs.YtmmiboblofopgaaGreat
open Go.RowKit Go.WideShapes Go.ChangeShapes Go.Joins Go.Deep
theorem row_form {w : World} {B : Nat} {e : TypeId} {k n : Nat} {v : Value} {cs : List Value} (h : w.ownsRow B e k v n cs) : ∃ A cap, v = .slice A n cap ∧ n ≤ cap ∧ cap ≤ maxLen ∧ ∀ a, A = some a → B ≤ a.block ∧ a.block < w.heap.size := by
  have hx := h
  rcases h.2 with ⟨rfl, rfl⟩ | ⟨g, cap, cur, rfl, hb, hh, h1, h2, r⟩
  · exact ⟨none, 0, rfl, Nat.le_refl _, Nat.zero_le _, by simp⟩
  · refine ⟨_, cap, rfl, h1, h2, fun a ha => ?_⟩
    cases ha
    exact hx.lt g rfl
section
variable {P : Program} {w : World}
theorem wp_append_cells {o : Oper} {a : Act} {K : Act → World → Prop} {Q : Exit → Act → World → Prop} (s x : Operand) (t : TypeId)
    (ho : o.op = .call { callee := .builtin .append, args := #[s, x], argTypes := #[t, t] })
    (base : Nat) (e : TypeId) (ht : P.underlying t = some (.slice e)) (z : Value) (k bytes : Nat) (hk : 0 < k) (hby : bytes ≤ 100000) (hz : z.cells.size = k) (hi : (P.info? e).map (fun i => (i.zero, i.size, i.bytes)) = some (some z, k, bytes))
    (v : Value) (n : Nat) (xs : List Value) (hs : a.eval s = v) (hown : w.ownsRow base e k v n xs) (A : Option Addr) (m c : Nat) (ys : List Value) (hm : ys.length = m * k) (hx : a.eval x = .slice A m c) (hA : CellsAt w A ys) (hone : ∀ u ∈ ys, u.oneCell' = true)
    (h63 : n + m ≤ 1000000) (hbase : base ≤ w.heap.size)
    (h : ∀ A' c' w', w'.ownsRow base e k (.slice A' (n + m) c') (n + m) (xs ++ ys) → w.grownBy w' v.ownBlock → K (a.put o.dst (.slice A' (n + m) c')) w') : o.wp P a w K Q := by
  obtain ⟨i, i0, i1, i2, i3⟩ := info_parts hi
  cases A with
  | some ad =>
    refine wp_append_own w s x t ho base e i z k bytes ht i0 i1 i2 i3 hz hk v n xs hs hown ad m c ys hx hm (fun j u hj => ?_) hone (by unfold maxLen; omega) ?_ hbase fun v' w' h1 h2 _ => ?_
    · obtain ⟨b, off, e1, _, h1⟩ := hA j u hj
      cases e1
      rwa [Go.WideShapes.add_plain]
    · exact Nat.le_trans (Nat.mul_le_mul h63 hby) (by decide)
    · obtain ⟨A', c', rfl, _⟩ := row_form h1
      exact h A' c' w' h1 h2
  | none =>
    have hl : ys = [] := by
      cases ys with
      | nil => rfl
      | cons y l => obtain ⟨_, _, e, _⟩ := hA 0 y rfl; cases e
    subst hl
    have hm0 : m = 0 := by
      rcases Nat.mul_eq_zero.1 hm.symm with h | h
      · exact h
      · omega
    subst hm0
    have hrun : (Builtin.append_ #[t, t] o.type #[v, .slice none 0 c]).run P w = .ok v w := by
      rcases hown.2 with ⟨rfl, _⟩ | ⟨g, cap, cur, rfl, _, _, hnc, _⟩
      · simp [Builtin.append_, run_underlying ht, sizeOf, typeInfo, i0, Builtin.lenOf, Builtin.firstCells]
      · simp [Builtin.append_, run_underlying ht, sizeOf, typeInfo, i0, Builtin.lenOf, Builtin.firstCells, hnc, storeCells]
    obtain ⟨A', c', rfl, _⟩ := row_form hown
    have hk := h A' c' w (by simpa using hown) ⟨rfl, rfl, rfl, Nat.le_refl _, fun _ _ _ => rfl⟩
    unfold Oper.wp
    simp [execOp, ho, resolve, invoke, builtin, hs, hx, hrun, Result.andThen]
    exact hk
theorem wpList_append_cells2 {ops : Array Oper} {rest : List Oper} {o : Oper} {a : Act} {Q : Exit → Act → World → Prop} (hgd : o.guard = none) (s x : Operand) (t : TypeId)
    (ho : o.op = .call { callee := .builtin .append, args := #[s, x], argTypes := #[t, t] })
    (base : Nat) (e : TypeId) (ht : P.underlying t = some (.slice e)) (z : Value) (k bytes : Nat) (hk : 0 < k) (hby : bytes ≤ 100000) (hz : z.cells.size = k) (hi : (P.info? e).map (fun i => (i.zero, i.size, i.bytes)) = some (some z, k, bytes))
    (v : Value) (n : Nat) (xs : List Value) (hs : a.eval s = v) (hown : w.ownsRow base e k v n xs) (A : Option Addr) (m c : Nat) (ys : List Value) (hm : ys.length = m * k) (hx : a.eval x = .slice A m c) (hA : CellsAt w A ys) (hone : ∀ u ∈ ys, u.oneCell' = true)
    (h63 : n + m ≤ 1000000) (hbase : base ≤ w.heap.size)
    (h : ∀ A' c' w', w'.ownsRow base e k (.slice A' (n + m) c') (n + m) (xs ++ ys) → w.grownBy w' v.ownBlock → wpList P ops Q rest (a.put o.dst (.slice A' (n + m) c')) w') : wpList P ops Q (o :: rest) a w :=
  wpList_plain hgd fun _ hK => wp_append_cells s x t ho base e ht z k bytes hk hby hz hi v n xs hs hown A m c ys hm hx hA hone h63 hbase fun A' c' w' h1 h2 => hK _ _ (h A' c' w' h1 h2)
theorem step_append_cells {ops : Array Oper} {o : Oper} {a : Act} {K : Act → World → Prop} {Q : Exit → Act → World → Prop} {E : Prop} (hgd : o.guard = none) (s x : Operand) (t : TypeId)
    (ho : o.op = .call { callee := .builtin .append, args := #[s, x], argTypes := #[t, t] })
    (base : Nat) (e : TypeId) (ht : P.underlying t = some (.slice e)) (z : Value) (k bytes : Nat) (hk : 0 < k) (hby : bytes ≤ 100000) (hz : z.cells.size = k) (hi : (P.info? e).map (fun i => (i.zero, i.size, i.bytes)) = some (some z, k, bytes))
    (v : Value) (n : Nat) (xs : List Value) (hs : a.eval s = v) (hown : w.ownsRow base e k v n xs) (A : Option Addr) (m c : Nat) (ys : List Value) (hm : ys.length = m * k) (hx : a.eval x = .slice A m c) (hA : CellsAt w A ys) (hone : ∀ u ∈ ys, u.oneCell' = true)
    (h63 : n + m ≤ 1000000) (hbase : base ≤ w.heap.size)
    (h : ∀ A' c' w', w'.ownsRow base e k (.slice A' (n + m) c') (n + m) (xs ++ ys) → w.grownBy w' v.ownBlock → K (a.put o.dst (.slice A' (n + m) c')) w') :
    if Region.wanted o (yielded ops a.tmps) = true then Oper.wp P o a w K Q else E := by
  have hw : Region.wanted o (yielded ops a.tmps) = true := by simp [Region.wanted, hgd]
  rw [if_pos hw]
  exact wp_append_cells s x t ho base e ht z k bytes hk hby hz hi v n xs hs hown A m c ys hm hx hA hone h63 hbase h
end
end Go.Proofs.YtmmiboblofopgaaGreat

/- Words of my own: a block of one's own with its element type; cells laid one behind the other; copy and clear over such blocks; what may have changed, by the numbers of blocks. -/
namespace Go.Proofs.YtmmiboblofopgaaGreat
open Go.RowKit Go.WideShapes Go.ChangeShapes Go.Joins Go.Deep
/-- Cells that are laid one behind the other, from o on. -/
def layAt (cs : Array Value) : Nat → List Value → Array Value
  | _, [] => cs
  | o, v :: r => layAt (cs.set! o v) (o + 1) r
theorem lay_set (cs : Array Value) (k j : Nat) (v : Value) : (cs.set! k v)[j]? = if k = j ∧ k < cs.size then some v else cs[j]? := by
  rw [Array.set!_eq_setIfInBounds, Array.getElem?_setIfInBounds]
  by_cases h : k = j
  · subst h
    by_cases hk : k < cs.size
    · simp [hk]
    · simp [hk]
  · simp [h]
theorem layAt_size : ∀ (vs : List Value) (o : Nat) (cs : Array Value), (layAt cs o vs).size = cs.size
  | [], _, _ => rfl
  | v :: r, o, cs => by unfold layAt; rw [layAt_size r]; simp
theorem layAt_out : ∀ (vs : List Value) (o : Nat) (cs : Array Value) (k : Nat), k < o ∨ o + vs.length ≤ k → (layAt cs o vs)[k]? = cs[k]?
  | [], _, _, _, _ => rfl
  | v :: r, o, cs, k, h => by
    simp only [List.length_cons] at h
    unfold layAt
    rw [layAt_out r (o + 1) _ k (by omega), lay_set, if_neg (by omega)]
theorem layAt_in : ∀ (vs : List Value) (o : Nat) (cs : Array Value) (j : Nat), o + vs.length ≤ cs.size → j < vs.length → (layAt cs o vs)[o + j]? = vs[j]?
  | [], _, _, _, _, h => absurd h (Nat.not_lt_zero _)
  | v :: r, o, cs, 0, hs, _ => by
    simp only [List.length_cons] at hs
    unfold layAt
    rw [layAt_out r (o + 1) _ _ (by omega), Nat.add_zero, lay_set, if_pos ⟨rfl, by omega⟩]
    rfl
  | v :: r, o, cs, j + 1, hs, h => by
    simp only [List.length_cons] at hs h
    unfold layAt
    rw [show o + (j + 1) = o + 1 + j by omega, layAt_in r (o + 1) _ j (by simp; omega) (by omega)]
    rfl
/-- The block g holds the values cs, whole, as a row of elements of the type e. -/
structure OwnT (w : World) (g : Nat) (e : TypeId) (cs : Array Value) : Prop where
  blk : w.heap[g]? = some (.cells cs e (0, 0))
namespace OwnT
variable {w w1 : World} {g : Nat} {e : TypeId} {cs : Array Value}
theorem own (h : OwnT w g e cs) : Own w g cs := ⟨e, h.blk⟩
theorem new (w : World) (cs : Array Value) (e : TypeId) {g : Nat} (hg : g = w.heap.size) : OwnT (w.alloc (.cells cs e)) g e cs := ⟨by subst hg; exact (MapKept.heap_alloc w _).1⟩
theorem lt (h : OwnT w g e cs) : g < w.heap.size := h.own.lt
theorem same (h : OwnT w g e cs) (k : w1.heap[g]? = w.heap[g]?) : OwnT w1 g e cs := ⟨k.trans h.blk⟩
theorem next (h : OwnT w g e cs) (k : Ok w w1) : OwnT w1 g e cs := h.same (k.block g h.lt)
theorem drew (h : OwnT w g e cs) : OwnT w.drew g e cs := ⟨h.blk⟩
theorem set (h : OwnT w g e cs) (k : Nat) (v : Value) : OwnT (w.setCell ⟨g, k, none⟩ v) g e (cs.set! k v) := by
  have h := h.blk
  refine ⟨?_⟩
  simp only [World.setCell, Array.getElem?_modify, h, if_true, Option.map_some]
  rfl
theorem setCells : ∀ (vs : List Value) (o : Nat) {w : World} {cs : Array Value}, OwnT w g e cs → OwnT (w.setCells g o vs) g e (layAt cs o vs)
  | [], _, _, _, h => h
  | v :: r, o, _, _, h => setCells r (o + 1) (h.set o v)
theorem cell (h : OwnT w g e cs) (k : Nat) {v : Value} (hv : cs[k]? = some v) : w.cell? ⟨g, k, none⟩ = some v := h.own.cell k hv
theorem shape (h : OwnT w g e cs) : w.shape? g = some (e, cs.size) := by simp [World.shape?, h.blk]
end OwnT
theorem own_shape {w : World} {g : Nat} {cs : Array Value} (h : Own w g cs) : ∃ t, w.shape? g = some (t, cs.size) := by
  obtain ⟨t, h⟩ := h
  exact ⟨t, by simp [World.shape?, h]⟩
theorem setCells_other {g : Nat} : ∀ (vs : List Value) (o : Nat) (w : World) (k : Nat), k ≠ g → (w.setCells g o vs).heap[k]? = w.heap[k]?
  | [], _, _, _, _ => rfl
  | v :: r, o, w, k, h => by
    rw [World.setCells, setCells_other r (o + 1) _ k h]
    exact Below.heap_setCell w _ v k h
theorem setCells_size {g : Nat} : ∀ (vs : List Value) (o : Nat) (w : World), (w.setCells g o vs).heap.size = w.heap.size
  | [], _, _ => rfl
  | v :: r, o, w => by rw [World.setCells, setCells_size r]; simp
theorem setCells_os {g : Nat} : ∀ (vs : List Value) (o : Nat) (w : World), (w.setCells g o vs).os = w.os ∧ (w.setCells g o vs).tape = w.tape ∧ (w.setCells g o vs).output = w.output
  | [], _, _ => ⟨rfl, rfl, rfl⟩
  | v :: r, o, w => by rw [World.setCells]; exact setCells_os r (o + 1) _
theorem grown_setCells (w : World) (g o : Nat) (vs : List Value) : w.grownBy (w.setCells g o vs) (some g) :=
  ⟨(setCells_os vs o w).1, (setCells_os vs o w).2.1, (setCells_os vs o w).2.2, by rw [setCells_size]; exact Nat.le_refl _, fun k _ h => setCells_other vs o w k fun e => h (by rw [e])⟩
theorem grown_trans {w w1 w2 : World} {row : Option Nat} (h : w.grownBy w1 row) (k : w1.grownBy w2 row) : w.grownBy w2 row :=
  ⟨k.os.trans h.os, k.tape.trans h.tape, k.output.trans h.output, Nat.le_trans h.size k.size, fun i a b => (k.block i (Nat.lt_of_lt_of_le a h.size) b).trans (h.block i a b)⟩
/-- .. and further changes of a block that is new. -/
theorem grown_new {w w1 w2 : World} {row : Option Nat} {g : Nat} (h : w.grownBy w1 row) (hg : w.heap.size ≤ g) (k : w1.grownBy w2 (some g)) : w.grownBy w2 row :=
  ⟨k.os.trans h.os, k.tape.trans h.tape, k.output.trans h.output, Nat.le_trans h.size k.size, fun i a b => (k.block i (Nat.lt_of_lt_of_le a h.size) (fun e => by cases e; omega)).trans (h.block i a b)⟩
theorem grown_alloc (w : World) (o : Obj) (row : Option Nat) : w.grownBy (w.alloc o) row := World.grownBy_alloc w o row
theorem grown_drew (w : World) (row : Option Nat) : w.grownBy w.drew row := ⟨rfl, rfl, rfl, Nat.le_refl _, fun _ _ _ => rfl⟩
/-- A row of one's own out of what its block holds. -/
theorem row_of_own {w : World} {g : Nat} {e : TypeId} {cs : Array Value} (h : OwnT w g e cs) {B n cap k : Nat} {xs : List Value} (hb : B ≤ g) (hx : xs.length = n * k) (hn : n ≤ cap) (hc : cap ≤ maxLen) (hs : cs.size = cap * k)
    (hv : ∀ (j : Nat) (u : Value), xs[j]? = some u → cs[j]? = some u) : w.ownsRow B e k (.slice (some ⟨g, 0, none⟩) n cap) n xs := by
  refine ⟨hx, .inr ⟨g, cap, cs, rfl, hb, h.blk, hn, hc, hs, ?_⟩⟩
  have hle : n * k ≤ cs.size := by rw [hs]; exact Nat.mul_le_mul_right _ hn
  apply List.ext_getElem?
  intro j
  rw [List.getElem?_take]
  by_cases hj : j < n * k
  · rw [if_pos hj, Array.getElem?_toList]
    have := hv j _ (List.getElem?_eq_getElem (show j < xs.length by omega))
    rw [this, List.getElem?_eq_getElem (show j < xs.length by omega)]
  · rw [if_neg hj, List.getElem?_eq_none (by omega)]
theorem own_of_row {w : World} {B g : Nat} {e : TypeId} {k n cap : Nat} {xs : List Value} (h : w.ownsRow B e k (.slice (some ⟨g, 0, none⟩) n cap) n xs) :
    ∃ cs, OwnT w g e cs ∧ B ≤ g ∧ xs.length = n * k ∧ n ≤ cap ∧ cap ≤ maxLen ∧ cs.size = cap * k ∧ ∀ (j : Nat) (u : Value), xs[j]? = some u → cs[j]? = some u := by
  obtain ⟨h1, ⟨h2, _⟩ | ⟨g', cap', cs, h2, h3, h4, h5, h6, h7, h8⟩⟩ := h
  · cases h2
  · cases h2
    refine ⟨cs, ⟨h4⟩, h3, h1, h5, h6, h7, fun j u hj => ?_⟩
    rw [← h8, List.getElem?_take] at hj
    split at hj
    · rwa [Array.getElem?_toList] at hj
    · cases hj
section
variable {P : Program}
/-- All is read ahead of anything that is written; elements of k cells. -/
theorem run_copyK (w : World) (t ty elem : TypeId) (b o dLen dCap : Nat) (a : Addr) (sLen sCap k : Nat) (cs : List Value)
    (hu : P.underlying t = some (.slice elem)) (hs : (P.info? elem).map (·.size) = some k) (hn : cs.length = Nat.min sLen dLen * k)
    (hsrc : ∀ j v, cs[j]? = some v → w.cell? (a.add j) = some v) (hc : ∀ j, j < cs.length → (w.cell? ⟨b, o + j, none⟩).isSome = true) (hf : ∀ j, j < cs.length → w.frozen? ⟨b, o + j, none⟩ = false) (h1 : ∀ v ∈ cs, v.oneCell' = true) :
    (Builtin.copy_ #[t, t] ty #[.slice (some ⟨b, o, none⟩) dLen dCap, .slice (some a) sLen sCap]).run P w = .ok (goInt (Nat.min sLen dLen)) (w.setCells b o cs) := by
  have hl := run_loadCells_list (P := P) w a cs hsrc
  have hst := run_storeCells_cells (P := P) b o cs 0 w (by simpa using hc) (by simpa using hf) h1
  cases hq : P.info? elem with
  | none => simp [hq] at hs
  | some i =>
    have hi : i.size = k := by simpa [hq] using hs
    simp [Builtin.copy_, run_underlying hu, Builtin.lenOf, Builtin.firstCells, sizeOf, typeInfo, hq, hi, ← hn, hl, hst]
/-- copy into a block of one's own. -/
theorem run_copyO {w : World} {g : Nat} {e : TypeId} {cur : Array Value} (h : OwnT w g e cur) (t ty : TypeId) (o dLen dCap : Nat) (a : Addr) (sLen sCap k : Nat) (cs : List Value)
    (hu : P.underlying t = some (.slice e)) (hs : (P.info? e).map (·.size) = some k) (hn : cs.length = Nat.min sLen dLen * k) (hfit : o + cs.length ≤ cur.size)
    (hsrc : ∀ j v, cs[j]? = some v → w.cell? (a.add j) = some v) (h1 : ∀ v ∈ cs, v.oneCell' = true) :
    (Builtin.copy_ #[t, t] ty #[.slice (some ⟨g, o, none⟩) dLen dCap, .slice (some a) sLen sCap]).run P w = .ok (goInt (Nat.min sLen dLen)) (w.setCells g o cs) :=
  run_copyK w t ty e g o dLen dCap a sLen sCap k cs hu hs hn hsrc (fun j hj => by rw [h.cell (o + j) (Array.getElem?_eq_getElem (show o + j < cur.size by omega))]; rfl) (fun j _ => h.own.frozen _) h1
/-- clear of a part of a block of one's own. -/
theorem run_clearO {w : World} {g : Nat} {e : TypeId} {cur : Array Value} (h : OwnT w g e cur) (t ty : TypeId) (o n c : Nat) (z : Value) (k : Nat) (hu : P.underlying t = some (.slice e)) (hi : (P.info? e).map (fun i => (i.zero, i.size)) = some (some z, k)) (hz : z.cells.size = k)
    (hn : 0 < n) (hfit : o + n * k ≤ cur.size) (h1 : ∀ v ∈ (Builtin.zeroCells z.cells n).toList, v.oneCell' = true) :
    (Builtin.clear_ #[t] ty #[.slice (some ⟨g, o, none⟩) n c]).run P w = .ok (.tuple #[]) (w.setCells g o (Builtin.zeroCells z.cells n).toList) := by
  have hl : (Builtin.zeroCells z.cells n).toList.length = n * k := by rw [Array.length_toList, size_zeroCells, hz]
  have hst := run_storeCells_cells (P := P) g o (Builtin.zeroCells z.cells n).toList 0 w
    (fun j hj => by rw [hl] at hj; rw [Nat.add_zero, h.cell (o + j) (Array.getElem?_eq_getElem (show o + j < cur.size by omega))]; rfl) (fun j _ => h.own.frozen _) h1
  cases hq : P.info? e with
  | none => simp [hq] at hi
  | some i =>
    have hi' : i.zero = some z := by simp [hq] at hi; exact hi.1
    cases n with
    | zero => omega
    | succ n => simp [Builtin.clear_, run_underlying hu, zeroValue, typeInfo, hq, hi', hst]
theorem wp_copy_known {w : World} {o : Oper} {a : Act} {K : Act → World → Prop} {Q : Exit → Act → World → Prop} (d s : Operand) (t : TypeId)
    (ho : o.op = .call { callee := .builtin .copy, args := #[d, s], argTypes := #[t, t] }) (v u : Value) (hd : a.eval d = v) (hs : a.eval s = u) {v' : Value} {w' : World}
    (hr : (Builtin.copy_ #[t, t] o.type #[v, u]).run P w = .ok v' w') (h : K (a.put o.dst v') w') : o.wp P a w K Q := by
  unfold Oper.wp
  simp [execOp, ho, resolve, invoke, builtin, hd, hs, hr, Result.andThen]
  exact h
theorem wpList_copy_known {w : World} {ops : Array Oper} {rest : List Oper} {o : Oper} {a : Act} {Q : Exit → Act → World → Prop} (hgd : o.guard = none) (d s : Operand) (t : TypeId)
    (ho : o.op = .call { callee := .builtin .copy, args := #[d, s], argTypes := #[t, t] }) (v u : Value) (hd : a.eval d = v) (hs : a.eval s = u) {v' : Value} {w' : World}
    (hr : (Builtin.copy_ #[t, t] o.type #[v, u]).run P w = .ok v' w') (h : wpList P ops Q rest (a.put o.dst v') w') : wpList P ops Q (o :: rest) a w :=
  wpList_plain hgd fun _ hK => wp_copy_known d s t ho v u hd hs hr (hK _ _ h)
theorem step_copy_known {w : World} {ops : Array Oper} {o : Oper} {a : Act} {K : Act → World → Prop} {Q : Exit → Act → World → Prop} {E : Prop} (hgd : o.guard = none) (d s : Operand) (t : TypeId)
    (ho : o.op = .call { callee := .builtin .copy, args := #[d, s], argTypes := #[t, t] }) (v u : Value) (hd : a.eval d = v) (hs : a.eval s = u) {v' : Value} {w' : World}
    (hr : (Builtin.copy_ #[t, t] o.type #[v, u]).run P w = .ok v' w') (h : K (a.put o.dst v') w') :
    if Region.wanted o (yielded ops a.tmps) = true then Oper.wp P o a w K Q else E := by
  have hw : Region.wanted o (yielded ops a.tmps) = true := by simp [Region.wanted, hgd]
  rw [if_pos hw]
  exact wp_copy_known d s t ho v u hd hs hr h
theorem wpList_clear_known {w : World} {ops : Array Oper} {rest : List Oper} {o : Oper} {a : Act} {Q : Exit → Act → World → Prop} (hgd : o.guard = none) (d : Operand) (t : TypeId)
    (ho : o.op = .call { callee := .builtin .clear, args := #[d], argTypes := #[t] }) (v : Value) (hd : a.eval d = v) {v' : Value} {w' : World}
    (hr : (Builtin.clear_ #[t] o.type #[v]).run P w = .ok v' w') (h : wpList P ops Q rest (a.put o.dst v') w') : wpList P ops Q (o :: rest) a w :=
  wpList_plain hgd fun K hK => by
    have hk := hK _ _ h
    unfold Oper.wp
    simp [execOp, ho, resolve, invoke, builtin, hd, hr, Result.andThen]
    exact hk
theorem step_append_known {w : World} {ops : Array Oper} {o : Oper} {a : Act} {K : Act → World → Prop} {Q : Exit → Act → World → Prop} {E : Prop} (hgd : o.guard = none) (d s : Operand) (t : TypeId)
    (ho : o.op = .call { callee := .builtin .append, args := #[d, s], argTypes := #[t, t] }) (v u : Value) (hd : a.eval d = v) (hs : a.eval s = u) {v' : Value} {w' : World}
    (hr : (Builtin.append_ #[t, t] o.type #[v, u]).run P w = .ok v' w') (h : K (a.put o.dst v') w') :
    if Region.wanted o (yielded ops a.tmps) = true then Oper.wp P o a w K Q else E := by
  have hw : Region.wanted o (yielded ops a.tmps) = true := by simp [Region.wanted, hgd]
  rw [if_pos hw]
  unfold Oper.wp
  simp [execOp, ho, resolve, invoke, builtin, hd, hs, hr, Result.andThen]
  exact h
theorem wpList_append_known {w : World} {ops : Array Oper} {rest : List Oper} {o : Oper} {a : Act} {Q : Exit → Act → World → Prop} (hgd : o.guard = none) (d s : Operand) (t t' : TypeId)
    (ho : o.op = .call { callee := .builtin .append, args := #[d, s], argTypes := #[t, t'] }) (v u : Value) (hd : a.eval d = v) (hs : a.eval s = u) {v' : Value} {w' : World}
    (hr : (Builtin.append_ #[t, t'] o.type #[v, u]).run P w = .ok v' w') (h : wpList P ops Q rest (a.put o.dst v') w') : wpList P ops Q (o :: rest) a w :=
  wpList_plain hgd fun K hK => by
    have hk := hK _ _ h
    unfold Oper.wp
    simp [execOp, ho, resolve, invoke, builtin, hd, hs, hr, Result.andThen]
    exact hk
end
/-- Of the blocks that were there only those of which S tells may have changed. -/
structure Far (S : Nat → Prop) (w w' : World) : Prop where
  os : w'.os = w.os
  tape : w'.tape = w.tape
  output : w'.output = w.output
  size : w.heap.size ≤ w'.heap.size
  block : ∀ k, k < w.heap.size → ¬ S k → w'.heap[k]? = w.heap[k]?
namespace Far
variable {S T : Nat → Prop} {w w1 w2 : World}
theorem refl (S : Nat → Prop) (w : World) : Far S w w := ⟨rfl, rfl, rfl, Nat.le_refl _, fun _ _ _ => rfl⟩
theorem ok (h : Far S w w1) (k : Ok w1 w2) : Far S w w2 := ⟨k.below.os.trans h.os, k.below.tape.trans h.tape, k.below.output.trans h.output, Nat.le_trans h.size k.size, fun i a b => (k.below.block i (Nat.lt_of_lt_of_le a h.size)).trans (h.block i a b)⟩
theorem of_ok (k : Ok w w1) : Far S w w1 := (refl S w).ok k
/-- One change behind the other; the second one may touch what the first has made. -/
theorem trans (h : Far S w w1) (k : Far T w1 w2) (hT : ∀ i, T i → S i ∨ w.heap.size ≤ i) : Far S w w2 :=
  ⟨k.os.trans h.os, k.tape.trans h.tape, k.output.trans h.output, Nat.le_trans h.size k.size, fun i a b => (k.block i (Nat.lt_of_lt_of_le a h.size) fun c => (hT i c).elim b (by omega)).trans (h.block i a b)⟩
theorem set (h : Far S w w1) {a : Addr} (ha : S a.block ∨ w.heap.size ≤ a.block) (v : Value) : Far S w (w1.setCell a v) :=
  ⟨h.os, h.tape, h.output, by simpa using h.size, fun i h1 h2 => (Below.heap_setCell w1 a v i (fun e => ha.elim (fun c => h2 (by rw [e]; exact c)) (by omega))).trans (h.block i h1 h2)⟩
theorem alloc (h : Far S w w1) (o : Obj) : Far S w (w1.alloc o) := h.ok ((Ok.refl _).alloc o)
theorem drew (h : Far S w w1) : Far S w w1.drew := h.ok (Ok.refl _).drew
theorem grow (h : Far S w w1) {row : Option Nat} (g : w1.grownBy w2 row) (hr : ∀ k, row = some k → S k ∨ w.heap.size ≤ k) : Far S w w2 :=
  ⟨g.os.trans h.os, g.tape.trans h.tape, g.output.trans h.output, Nat.le_trans h.size g.size, fun i a b => (g.block i (Nat.lt_of_lt_of_le a h.size) (fun e => (hr i e.symm).elim b (by omega))).trans (h.block i a b)⟩
theorem own (h : Far S w w1) {g : Nat} {cs : Array Value} (hO : Own w g cs) (h1 : ¬ S g) : Own w1 g cs := by
  have hl := hO.lt
  obtain ⟨t, ht⟩ := hO
  exact ⟨t, (h.block g hl h1).trans ht⟩
theorem cell (h : Far S w w1) {b o : Nat} {v : Value} (hc : w.cell? ⟨b, o, none⟩ = some v) (h0 : b < w.heap.size) (h1 : ¬ S b) : w1.cell? ⟨b, o, none⟩ = some v := (World.cell?_of_block (a := ⟨b, o, none⟩) (h.block b h0 h1)).trans hc
theorem row (h : Far S w w1) {B : Nat} {e : TypeId} {k n : Nat} {v : Value} {xs : List Value} (hR : w.ownsRow B e k v n xs) (hv : ∀ i, v.ownBlock = some i → ¬ S i) : w1.ownsRow B e k v n xs := by
  refine ⟨hR.1, ?_⟩
  rcases hR.2 with hn | ⟨g, cap, cur, rfl, hb, hgg, rest⟩
  · exact .inl hn
  · exact .inr ⟨g, cap, cur, rfl, hb, (h.block g (Array.getElem?_eq_some_iff.1 hgg).1 (hv g rfl)).trans hgg, rest⟩
/-- What changes only blocks of one's own changes nothing that came in. -/
theorem then_ok {w0 : World} (h0 : Ok w0 w) (h : Far S w w1) (hr : ∀ k, S k → w0.heap.size ≤ k) : Ok w0 w1 :=
  ⟨h.os.trans h0.below.os, h.tape.trans h0.below.tape, h.output.trans h0.below.output, Nat.le_trans h0.size h.size, fun i hi => (h.block i (Nat.lt_of_lt_of_le hi h0.size) (fun c => by have := hr i c; omega)).trans (h0.below.block i hi)⟩
theorem mono (h : Far S w w1) (hS : ∀ k, S k → T k) : Far T w w1 := ⟨h.os, h.tape, h.output, h.size, fun k a b => h.block k a fun c => b (hS k c)⟩
end Far
end Go.Proofs.YtmmiboblofopgaaGreat

/- Words of my own: one struct more at the end of a row of one's own, and where the row then lies; room made in a new row. -/
namespace Go.Proofs.YtmmiboblofopgaaGreat
open Go.RowKit Go.WideShapes Go.ChangeShapes Go.Joins Go.Deep
/-- The row lies where it lay, or in a new block. -/
def Near (w : World) (A A' : Option Addr) : Prop := ∀ a, A' = some a → A = some a ∨ (a.off = 0 ∧ a.spot = none ∧ w.heap.size ≤ a.block)
section
variable {P : Program}
theorem first_row {w : World} {B : Nat} {e : TypeId} {k n c : Nat} {A : Option Addr} {xs : List Value} (h : w.ownsRow B e k (.slice A n c) n xs) : (Builtin.firstCells k n (.slice A n c)).run P w = .ok xs.toArray w := by
  rcases h.2 with ⟨h1, h2⟩ | ⟨g, cap, cur, h1, hb, hh, r⟩
  · cases h1
    have : xs = [] := List.length_eq_zero_iff.1 (by rw [h.1]; simp)
    subst this
    exact run_firstCells_none w k 0 0 0
  · cases h1
    exact run_firstCells_some w k n ⟨g, 0, none⟩ n c xs (by rw [h.1]) (h.cells (g := g) rfl)
/-- append of one struct that lies in a block of its own. -/
theorem run_append_one {w : World} {t e : TypeId} {z : Value} {k bytes : Nat} (ht : P.underlying t = some (.slice e)) (hi : (P.info? e).map (fun i => (i.zero, i.size, i.bytes)) = some (some z, k, bytes)) (hz : z.cells.size = k) (_hk : 0 < k) (hby : bytes ≤ 100000)
    {B : Nat} (hB : B ≤ w.heap.size) {A : Option Addr} {n c : Nat} {xs : List Value} (hR : w.ownsRow B e k (.slice A n c) n xs) {vb : Nat} {ys : Array Value} (hV : Own w vb ys) (hy : ys.size = k) (h1 : ∀ u ∈ ys.toList, u.oneCell' = true) (hlen : n ≤ 1000000) (ty : TypeId) :
    ∃ A' c' w1, (Builtin.append_ #[t, t] ty #[.slice A n c, .slice (some ⟨vb, 0, none⟩) 1 1]).run P w = .ok (.slice A' (n + 1) c') w1 ∧
      w1.ownsRow B e k (.slice A' (n + 1) c') (n + 1) (xs ++ ys.toList) ∧ w.grownBy w1 (Value.slice A n c).ownBlock ∧ Near w A A' := by
  obtain ⟨i0, i1, i2, i3, i4⟩ := info_parts hi
  have hys : ∀ j u, ys.toList[j]? = some u → w.cell? ((⟨vb, 0, none⟩ : Addr).add j) = some u := fun j u hj => by
    rw [Go.WideShapes.add_plain, Nat.zero_add]
    exact hV.cell j (by rwa [Array.getElem?_toList] at hj)
  have hyl : ys.toList.length = 1 * k := by rw [Array.length_toList, hy, Nat.one_mul]
  by_cases hroom : n + 1 ≤ c
  · obtain ⟨h0, ⟨h2, _⟩ | ⟨g, cap, cur, h2, h3⟩⟩ := hR
    · cases h2; omega
    · cases h2
      obtain ⟨w1, a1, a2, a3⟩ := run_append_fits (P := P) w B t ty e i0 k ht i1 i3 g n c xs ⟨h0, .inr ⟨g, c, cur, rfl, h3⟩⟩ ⟨vb, 0, none⟩ 1 1 ys.toList hyl hys h1 hroom
      exact ⟨_, _, w1, a1, a2, a3, fun a ha => .inl ha⟩
  · have hnc : n ≤ c ∧ c ≤ maxLen := by
      obtain ⟨A0, c0, e0, p, q, _⟩ := row_form hR
      cases e0
      exact ⟨p, q⟩
    have hsrc : Src P i0.size t (.slice (some ⟨vb, 0, none⟩) 1 1) 1 ys.toList w := Src.ofSlice w ht _ 1 1 _ (by rw [i3]; exact hyl) hys h1
    have hold : (Builtin.firstCells i0.size n (.slice A n c)).run P w.drew = .ok xs.toArray w.drew := by rw [i3]; exact first_row hR.drew
    have hfit : Builtin.nextslicecap (n + 1) c * i0.bytes ≤ 281474976710656 := by
      refine growslice_fits (by omega) ?_
      rw [i4]
      exact Nat.le_trans (Nat.mul_le_mul (show n + 1 ≤ 1000001 by omega) hby) (by decide)
    have hrun := run_append_grow_src w t t ty e i0 z ht i1 i2 A n c xs hold _ 1 ys.toList hsrc (by omega) (by omega) hfit
    obtain ⟨G, hG⟩ : ∃ G, grownCap w (n + 1) c e = G := ⟨_, rfl⟩
    have hG1 : n + 1 ≤ G := by rw [← hG]; exact grownCap_ge w _ _ _
    have hG2 : G ≤ maxLen := by rw [← hG]; exact grownCap_le_maxLen w _ _ _ (by unfold maxLen; omega)
    rw [hG] at hrun
    have hxl := hR.1
    refine ⟨_, _, _, hrun, ?_, grown_trans (grown_drew w _) (grown_alloc w.drew _ _), fun a ha => .inr ?_⟩
    · have hsz : ((xs ++ ys.toList).toArray ++ Builtin.zeroCells z.cells (G - (n + 1))).size = G * k := by
        rw [Array.size_append, List.size_toArray, List.length_append, size_zeroCells, hxl, hyl, hz, ← Nat.add_mul, ← Nat.add_mul]
        congr 1
        omega
      refine row_of_own (OwnT.new w.drew _ e rfl) hB (by rw [List.length_append, hxl, hyl, ← Nat.add_mul]) hG1 hG2 hsz fun j u hj => ?_
      have hjl : j < (xs ++ ys.toList).length := (List.getElem?_eq_some_iff.1 hj).1
      rw [Array.getElem?_append_left (by simpa using hjl), List.getElem?_toArray]
      exact hj
    · cases ha
      exact ⟨rfl, rfl, Nat.le_refl _⟩
/-- append(s[:i], make([]T, n + 1 - i)...) where there is no room: a new row that begins as s does. -/
theorem run_append_make {w : World} {t tn e : TypeId} {z : Value} {k bytes : Nat} (ht : P.underlying t = some (.slice e)) (htn : P.underlying tn = some (.int .i64)) (hi : (P.info? e).map (fun i => (i.zero, i.size, i.bytes)) = some (some z, k, bytes)) (hz : z.cells.size = k) (hk : 0 < k) (hby : bytes ≤ 100000)
    {b i c m : Nat} {xs : List Value} (hR : w.ownsRow 0 e k (.slice (some ⟨b, 0, none⟩) i c) i xs) (hg : c < m) (him : i < m) (hlen : m ≤ 1000001) (ty : TypeId) :
    ∃ c' w1 cs, (Builtin.append_ #[t, tn] ty #[.slice (some ⟨b, 0, none⟩) i c, .int .i64 ((m - i : Nat) : Int)]).run P w = .ok (.slice (some ⟨w.heap.size, 0, none⟩) m c') w1 ∧
      OwnT w1 w.heap.size e cs ∧ cs.size = c' * k ∧ m ≤ c' ∧ c' ≤ maxLen ∧ (∀ (j : Nat) (u : Value), xs[j]? = some u → cs[j]? = some u) ∧ Ok w w1 := by
  obtain ⟨i0, i1, i2, i3, i4⟩ := info_parts hi
  have him2 : i + (m - i) = m := by omega
  have hfit : Builtin.nextslicecap m c * i0.bytes ≤ 281474976710656 := by
    refine growslice_fits hg ?_
    rw [i4]
    exact Nat.le_trans (Nat.mul_le_mul hlen hby) (by decide)
  have h := Lib.run_append_grow_zeros w t tn ty e i0 z .i64 .i64 ht htn i1 i2 (some ⟨b, 0, none⟩) i c xs (by rw [i3]; exact first_row hR.drew) (m - i) (by omega) (by omega) (by omega) (by omega)
    (by rw [i4]; exact Nat.le_trans (Nat.mul_le_mul (show m - i ≤ 1000001 by omega) hby) (by decide)) (by rw [him2]; exact hfit)
  rw [him2] at h
  obtain ⟨G, hG⟩ : ∃ G, grownCap w m c e = G := ⟨_, rfl⟩
  have hG1 : m ≤ G := by rw [← hG]; exact grownCap_ge w _ _ _
  have hG2 : G ≤ maxLen := by rw [← hG]; exact grownCap_le_maxLen w _ _ _ (by unfold maxLen; omega)
  rw [hG] at h
  refine ⟨_, _, _, h, OwnT.new w.drew _ e rfl, ?_, hG1, hG2, fun j u hj => ?_, ((Ok.refl w).drew).alloc _⟩
  · rw [Array.size_append, Array.size_append, List.size_toArray, size_zeroCells, size_zeroCells, hR.1, hz, ← Nat.add_mul, ← Nat.add_mul]
    congr 1
    omega
  · have hjl : j < xs.length := (List.getElem?_eq_some_iff.1 hj).1
    rw [Array.append_assoc, Array.getElem?_append_left (by simpa using hjl), List.getElem?_toArray]
    exact hj
/-- copy of m structs into a block of one's own. -/
theorem run_copyM {w : World} {g : Nat} {e : TypeId} {cur : Array Value} (h : OwnT w g e cur) (t ty : TypeId) (o dLen dCap : Nat) (a : Addr) (sLen sCap k m : Nat) (cs : List Value)
    (hu : P.underlying t = some (.slice e)) (hs : (P.info? e).map (·.size) = some k) (hm : min sLen dLen = m) (hn : cs.length = m * k) (hfit : o + cs.length ≤ cur.size)
    (hsrc : ∀ j v, cs[j]? = some v → w.cell? (a.add j) = some v) (h1 : ∀ v ∈ cs, v.oneCell' = true) :
    (Builtin.copy_ #[t, t] ty #[.slice (some ⟨g, o, none⟩) dLen dCap, .slice (some a) sLen sCap]).run P w = .ok (goInt m) (w.setCells g o cs) := by
  subst hm
  exact run_copyO h t ty o dLen dCap a sLen sCap k cs hu hs hn hfit hsrc h1
/-- Two blocks of one's own don't overlap. -/
theorem overlaps_no {f : FuncId} {fn : Func} {tS tR e : TypeId} (hf : P.funcs[f]? = some fn) (hname : (fn.name == "runtime.NumGoroutine") = false) (hb : fn.body.isNone = true) (hn : Extern.findNext fn = none) (he : Extern.find fn = some (Extern.SlicesOverlaps.overlaps #[tS, tS] #[tR]))
    (ht : P.underlying tS = some (.slice e)) {k : Nat} (hi : (P.info? e).map (fun i => (i.zero, i.size)) = some (some (.agg #[.int .i64 0, .int .i64 0]), k)) {w : World} {va b : Nat} {ys cs : Array Value} (hV : Own w va ys) (hO : Own w b cs) (hne : va ≠ b) (hcs : cs.size ≠ 0) (o la ca lb cb : Nat) :
    (callFunc f #[.slice (some ⟨va, 0, none⟩) la ca, .slice (some ⟨b, o, none⟩) lb cb]).run P w = .ok (.value (.bool false)) w := by
  obtain ⟨tA, hA⟩ := own_shape hV
  obtain ⟨tB, hB⟩ := own_shape hO
  have hsz : ∀ w, (sizeOf e).run P w = .ok k w := fun w => by
    cases hq : P.info? e with
    | none => simp [hq] at hi
    | some i =>
      have : i.size = k := by simp [hq] at hi; exact hi.2
      simp [sizeOf, typeInfo, hq, this]
  rw [run_callFunc_extern hf hname hb hn he, Lib.run_overlaps_apart w tS tR e ht k hsz ⟨va, 0, none⟩ ⟨b, o, none⟩ la ca lb cb hne tA tB ys.size cs.size hA hB hcs (hV.frozen 0) (hV.frozen ys.size)]
  rfl
end
end Go.Proofs.YtmmiboblofopgaaGreat

/- Words of my own: appends within a region by facts: what they may turn (`Keep`: rows of one type that grow, each kept where it stood). -/
namespace Go.Proofs.YtmmiboblofopgaaGreat
open Go.RowKit Go.WideShapes Go.ChangeShapes Go.Joins Go.Deep
/-- Blocks below K are as they were; of the others at most rows of type T have turned, behind their first N cells. -/
structure Keep (K N : Nat) (T : TypeId) (w w' : World) : Prop where
  os : w'.os = w.os
  tape : w'.tape = w.tape
  output : w'.output = w.output
  size : w.heap.size ≤ w'.heap.size
  block : ∀ b, b < w.heap.size → w'.heap[b]? = w.heap[b]? ∨ (K ≤ b ∧ ∃ cs cs' : Array Value, w.heap[b]? = some (.cells cs T (0, 0)) ∧ w'.heap[b]? = some (.cells cs' T (0, 0)) ∧ cs'.size = cs.size ∧ ∀ j, j < N → cs'[j]? = cs[j]?)
namespace Keep
variable {K N : Nat} {T : TypeId} {w w' w1 w2 : World}
theorem of_ok (h : Ok w w') : Keep K N T w w' := ⟨h.below.os, h.below.tape, h.below.output, h.size, fun b hb => .inl (h.below.block b hb)⟩
theorem refl (w : World) : Keep K N T w w := of_ok (Ok.refl w)
theorem trans (h : Keep K N T w w1) (k : Keep K N T w1 w2) : Keep K N T w w2 := by
  refine ⟨k.os.trans h.os, k.tape.trans h.tape, k.output.trans h.output, Nat.le_trans h.size k.size, fun b hb => ?_⟩
  rcases k.block b (Nat.lt_of_lt_of_le hb h.size) with e | ⟨hK, c1, c2, e1, e2, e3, e4⟩
  · rw [e]
    exact h.block b hb
  · rcases h.block b hb with g | ⟨_, d1, d2, g1, g2, g3, g4⟩
    · exact .inr ⟨hK, c1, c2, g ▸ e1, e2, e3, e4⟩
    · rw [g2] at e1
      have : d2 = c1 := by cases e1; rfl
      subst this
      exact .inr ⟨hK, d1, c2, g1, e2, e3.trans g3, fun j hj => (e4 j hj).trans (g4 j hj)⟩
theorem low (h : Keep K N T w w') (hK : K ≤ w.heap.size) : Below K w w' := ⟨h.os, h.tape, h.output, h.size, fun b hb => by
  rcases h.block b (by omega) with e | ⟨g, _⟩
  · exact e
  · omega⟩
theorem own (h : Keep K N T w w') {g : Nat} {cs : Array Value} (hO : Own w g cs) (hg : g < K) : Own w' g cs := by
  have hl := hO.lt
  obtain ⟨t, ht⟩ := hO.blk
  rcases h.block g hl with e | ⟨h1, _⟩
  · exact ⟨t, e.trans ht⟩
  · omega
/-- A block that has no more than N cells. -/
theorem small (h : Keep K N T w w') {g : Nat} {cs : Array Value} {t : TypeId} (hO : w.heap[g]? = some (.cells cs t (0, 0))) (hn : cs.size ≤ N) : w'.heap[g]? = some (.cells cs t (0, 0)) := by
  have hl : g < w.heap.size := (Array.getElem?_eq_some_iff.1 hO).1
  rcases h.block g hl with e | ⟨_, c1, c2, e1, e2, e3, e4⟩
  · exact e.trans hO
  · rw [hO] at e1
    cases e1
    rw [e2]
    have : c2 = cs := by
      apply Array.ext_getElem?
      intro j
      by_cases hj : j < cs.size
      · exact e4 j (by omega)
      · rw [Array.getElem?_eq_none (by omega), Array.getElem?_eq_none (by omega)]
    rw [this]
/-- A block of another type. -/
theorem other (h : Keep K N T w w') {g : Nat} {cs : Array Value} {t : TypeId} (hO : w.heap[g]? = some (.cells cs t (0, 0))) (ht : t ≠ T) : w'.heap[g]? = some (.cells cs t (0, 0)) := by
  have hl : g < w.heap.size := (Array.getElem?_eq_some_iff.1 hO).1
  rcases h.block g hl with e | ⟨_, c1, c2, e1, e2, e3, e4⟩
  · exact e.trans hO
  · rw [hO] at e1
    cases e1
    exact absurd rfl ht
theorem row (h : Keep K N T w w') {B k n : Nat} {v : Value} {xs : List Value} (hR : w.ownsRow B T k v n xs) (hn : n * k ≤ N) : w'.ownsRow B T k v n xs := by
  refine ⟨hR.1, ?_⟩
  rcases hR.2 with ⟨e1, e2⟩ | ⟨g, cap, cur, e1, e2, e3, e4, e5, e6, e7⟩
  · exact .inl ⟨e1, e2⟩
  · right
    have hl : g < w.heap.size := (Array.getElem?_eq_some_iff.1 e3).1
    rcases h.block g hl with q | ⟨_, c1, c2, q1, q2, q3, q4⟩
    · exact ⟨g, cap, cur, e1, e2, q.trans e3, e4, e5, e6, e7⟩
    · rw [e3] at q1
      cases q1
      refine ⟨g, cap, c2, e1, e2, q2, e4, e5, q3.trans e6, ?_⟩
      rw [← e7]
      apply List.ext_getElem?
      intro j
      by_cases hj : j < n * k
      · rw [List.getElem?_take, List.getElem?_take, if_pos hj, if_pos hj, Array.getElem?_toList, Array.getElem?_toList]
        exact q4 j (by omega)
      · rw [List.getElem?_take, List.getElem?_take, if_neg hj, if_neg hj]
end Keep
section
variable {P : Program}
theorem first_row0 {w : World} {B : Nat} {e : TypeId} {k n c : Nat} {A : Option Addr} {xs : List Value} (h : w.ownsRow B e k (.slice A n c) n xs) : (Builtin.firstCells k n (.slice A n c)).run P w = .ok xs.toArray w := by
  rcases h.2 with ⟨h1, h2⟩ | ⟨g, cap, cur, h1, hb, hh, r⟩
  · cases h1
    have : xs = [] := List.length_eq_zero_iff.1 (by rw [h.1]; simp)
    subst this
    exact run_firstCells_none w k 0 0 0
  · cases h1
    exact run_firstCells_some w k n ⟨g, 0, none⟩ n c xs (by rw [h.1]) (h.cells (g := g) rfl)
/-- append where there is no room: a new row. -/
theorem run_append_out {w : World} {t e : TypeId} {z : Value} {k bytes : Nat} (ht : P.underlying t = some (.slice e)) (hi : (P.info? e).map (fun i => (i.zero, i.size, i.bytes)) = some (some z, k, bytes)) (hz : z.cells.size = k) (hby : bytes ≤ 100000)
    {B : Nat} (hB : B ≤ w.heap.size) {A : Option Addr} {n c : Nat} {xs : List Value} (hR : w.ownsRow B e k (.slice A n c) n xs) {ad : Addr} {m c2 : Nat} {ys : List Value} (hyl : ys.length = m * k) (hys : ∀ j u, ys[j]? = some u → w.cell? (ad.add j) = some u) (h1 : ∀ u ∈ ys, u.oneCell' = true) (hroom : ¬ n + m ≤ c) (hlen : n + m ≤ 1000001) (ty : TypeId) :
    ∃ c' w1, (Builtin.append_ #[t, t] ty #[.slice A n c, .slice (some ad) m c2]).run P w = .ok (.slice (some ⟨w.heap.size, 0, none⟩) (n + m) c') w1 ∧ w1.ownsRow B e k (.slice (some ⟨w.heap.size, 0, none⟩) (n + m) c') (n + m) (xs ++ ys) ∧ Ok w w1 := by
  obtain ⟨i0, i1, i2, i3, i4⟩ := info_parts hi
  have hnc : n ≤ c ∧ c ≤ maxLen := by
    obtain ⟨A0, c0, e0, p, q, _⟩ := row_form hR
    cases e0
    exact ⟨p, q⟩
  have hsrc : Src P i0.size t (.slice (some ad) m c2) m ys w := Src.ofSlice w ht _ m c2 _ (by rw [i3]; exact hyl) hys h1
  have hold : (Builtin.firstCells i0.size n (.slice A n c)).run P w.drew = .ok xs.toArray w.drew := by rw [i3]; exact first_row0 hR.drew
  have hfit : Builtin.nextslicecap (n + m) c * i0.bytes ≤ 281474976710656 := by
    refine growslice_fits (by omega) ?_
    rw [i4]
    exact Nat.le_trans (Nat.mul_le_mul hlen hby) (by decide)
  have hrun := run_append_grow_src w t t ty e i0 z ht i1 i2 A n c xs hold _ m ys hsrc (by omega) (by omega) hfit
  obtain ⟨G, hG⟩ : ∃ G, grownCap w (n + m) c e = G := ⟨_, rfl⟩
  have hG1 : n + m ≤ G := by rw [← hG]; exact grownCap_ge w _ _ _
  have hG2 : G ≤ maxLen := by rw [← hG]; exact grownCap_le_maxLen w _ _ _ (by unfold maxLen; omega)
  rw [hG] at hrun
  have hxl := hR.1
  have hll : (xs ++ ys).length = (n + m) * k := by rw [List.length_append, hxl, hyl, ← Nat.add_mul]
  refine ⟨_, _, hrun, ⟨hll, .inr ⟨w.heap.size, G, _, rfl, hB, heap_alloc_new w.drew _, hG1, hG2, ?_, ?_⟩⟩, ((Ok.refl w).drew).alloc _⟩
  · rw [Array.size_append, List.size_toArray, hll, size_zeroCells, hz, ← Nat.add_mul]
    congr 1
    omega
  · rw [Array.toList_append, List.toList_toArray, ← hll]
    exact List.take_left
/-- append to a new, empty row. -/
theorem run_append_first {w : World} {t e : TypeId} {z : Value} {k bytes : Nat} (ht : P.underlying t = some (.slice e)) (hi : (P.info? e).map (fun i => (i.zero, i.size, i.bytes)) = some (some z, k, bytes)) (hz : z.cells.size = k) (hk : 0 < k) (hby : bytes ≤ 100000)
    {B g : Nat} (hg : w.heap[g]? = some (.cells #[] e (0, 0))) (hBg : B ≤ g) {A : Option Addr} {m c : Nat} {ys : List Value} (hyl : ys.length = m * k) (hA : CellsAt w A ys) (h1 : ∀ u ∈ ys, u.oneCell' = true) (hlen : m ≤ 1000000) (ty : TypeId) :
    ∃ A' c' w1, (Builtin.append_ #[t, t] ty #[.slice (some ⟨g, 0, none⟩) 0 0, .slice A m c]).run P w = .ok (.slice A' m c') w1 ∧ w1.ownsRow B e k (.slice A' m c') m ys ∧ Ok w w1 ∧ (m = 0 → c' = 0) := by
  have hl : g < w.heap.size := (Array.getElem?_eq_some_iff.1 hg).1
  have hR : w.ownsRow B e k (.slice (some ⟨g, 0, none⟩) 0 0) 0 [] := ⟨by simp, .inr ⟨g, 0, #[], rfl, hBg, hg, Nat.le_refl _, Nat.zero_le _, by simp, by simp⟩⟩
  by_cases hm : m = 0
  · subst hm
    have hy : ys = [] := List.length_eq_zero_iff.1 (by simpa using hyl)
    subst hy
    obtain ⟨i, i0, i1, i2, i3⟩ := info_parts hi
    refine ⟨some ⟨g, 0, none⟩, 0, w, ?_, hR, Ok.refl w, fun _ => rfl⟩
    cases A with
    | none => simp [Builtin.append_, run_underlying ht, sizeOf, typeInfo, i0, Builtin.lenOf, Builtin.firstCells, storeCells]
    | some a => simp [Builtin.append_, run_underlying ht, sizeOf, typeInfo, i0, Builtin.lenOf, Builtin.firstCells, storeCells, loadCells, loadCellsFrom]
  · cases A with
    | none =>
      exfalso
      cases ys with
      | nil =>
        rw [List.length_nil] at hyl
        rcases Nat.mul_eq_zero.1 hyl.symm with h | h <;> omega
      | cons y l => obtain ⟨_, _, e1, _⟩ := hA 0 y rfl; cases e1
    | some ad =>
      have hys : ∀ j u, ys[j]? = some u → w.cell? (ad.add j) = some u := fun j u hj => by
        obtain ⟨b, off, e1, _, h2⟩ := hA j u hj
        cases e1
        rwa [Go.WideShapes.add_plain]
      obtain ⟨c', w1, a1, a2, a3⟩ := run_append_out ht hi hz hby (by omega) hR hyl hys h1 (c2 := c) (by omega) (by omega) ty
      simp only [Nat.zero_add, List.nil_append] at a1 a2
      exact ⟨_, _, w1, a1, a2, a3, fun h => absurd h hm⟩
/-- append of one struct that lies in a block of its own to a row: what may have turned. -/
theorem run_append_keep {w : World} {t e : TypeId} {z : Value} {k bytes : Nat} (ht : P.underlying t = some (.slice e)) (hi : (P.info? e).map (fun i => (i.zero, i.size, i.bytes)) = some (some z, k, bytes)) (hz : z.cells.size = k) (hk : 0 < k) (hby : bytes ≤ 100000)
    {B N : Nat} (hB : B ≤ w.heap.size) {A : Option Addr} {n c : Nat} {xs : List Value} (hR : w.ownsRow B e k (.slice A n c) n xs) (hN : N ≤ n * k ∨ n = 0 ∧ c = 0) {vb : Nat} {ys : Array Value} (hV : Own w vb ys) (hy : ys.size = k) (h1 : ∀ u ∈ ys.toList, u.oneCell' = true) (hlen : n ≤ 1000000) (ty : TypeId) :
    ∃ A' c' w1, (Builtin.append_ #[t, t] ty #[.slice A n c, .slice (some ⟨vb, 0, none⟩) 1 1]).run P w = .ok (.slice A' (n + 1) c') w1 ∧ w1.ownsRow B e k (.slice A' (n + 1) c') (n + 1) (xs ++ ys.toList) ∧ Keep B N e w w1 := by
  obtain ⟨i0, i1, i2, i3, i4⟩ := info_parts hi
  have hys : ∀ j u, ys.toList[j]? = some u → w.cell? ((⟨vb, 0, none⟩ : Addr).add j) = some u := fun j u hj => by
    rw [Go.WideShapes.add_plain, Nat.zero_add]
    exact hV.cell j (by rwa [Array.getElem?_toList] at hj)
  have hyl : ys.toList.length = 1 * k := by rw [Array.length_toList, hy, Nat.one_mul]
  by_cases hroom : n + 1 ≤ c
  · have hR0 := hR
    obtain ⟨h0, ⟨h2, _⟩ | ⟨g, cap, cur, h2, h3⟩⟩ := hR
    · cases h2; omega
    · cases h2
      obtain ⟨w1, a1, a2, a3⟩ := run_append_fits (P := P) w B t ty e i0 k ht i1 i3 g n c xs ⟨h0, .inr ⟨g, c, cur, rfl, h3⟩⟩ ⟨vb, 0, none⟩ 1 1 ys.toList hyl hys h1 hroom
      refine ⟨_, _, w1, a1, a2, a3.os, a3.tape, a3.output, a3.size, fun b hb => ?_⟩
      by_cases hbg : b = g
      · subst hbg
        right
        rcases a2.2 with ⟨q1, _⟩ | ⟨g', cap', cur', q1, q2, q3, q4, q5, q6, q7⟩
        · cases q1
        · cases q1
          refine ⟨q2, cur, cur', h3.2.1, q3, q6.trans h3.2.2.2.2.1.symm, fun j hj => ?_⟩
          have hjn : j < n * k := by omega
          have e1 : xs[j]? = cur[j]? := by
            rw [← h3.2.2.2.2.2, List.getElem?_take, if_pos hjn, Array.getElem?_toList]
          have e2 : (xs ++ ys.toList)[j]? = cur'[j]? := by
            rw [← q7, List.getElem?_take, if_pos (by rw [Nat.add_mul]; omega), Array.getElem?_toList]
          rw [← e1, ← e2, List.getElem?_append_left (by rw [h0]; exact hjn)]
      · left
        exact a3.block b hb (by simp; omega)
  · obtain ⟨c', w1, a1, a2, a3⟩ := run_append_out ht hi hz hby hB hR hyl hys h1 (c2 := 1) hroom (by omega) ty
    exact ⟨_, _, w1, a1, a2, Keep.of_ok a3⟩
end
end Go.Proofs.YtmmiboblofopgaaGreat
