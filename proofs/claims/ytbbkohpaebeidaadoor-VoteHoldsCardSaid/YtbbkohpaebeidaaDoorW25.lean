/- Words of my own: a block of one's own with its element type; cells laid one behind the other; copy and clear over such blocks; what may have changed, by the numbers of blocks. -/
import Derived.Test.YtbbkohpaebeidaaDoorW23
import Derived.Laws.IdiomCopy
namespace Go.Proofs.YtbbkohpaebeidaaDoor
open Go.RowKit Go.WideShapes Go.ChangeShapes Go.Joins Go.Deep
/-- Cells that are laid one behind the other, from o on. -/
def layAt (cs : Array Value) : Nat → List Value → Array Value
  | _, [] => cs
  | o, v :: r => layAt (cs.set! o v) (o + 1) r
theorem lay_set (cs : Array Value) (k j : Nat) (v : Value) : (cs.set! k v)[j]? = if k = j ∧ k < cs.size then some v else cs[j]? := by
  rw [Array.set!_eq_setIfInBounds, Array.getElem?_setIfInBounds]
  by_cases h : k = j
  · subst h
    by_cases hk : k < cs.size
    · simp [hk]
    · simp [hk]
  · simp [h]
theorem layAt_size : ∀ (vs : List Value) (o : Nat) (cs : Array Value), (layAt cs o vs).size = cs.size
  | [], _, _ => rfl
  | v :: r, o, cs => by unfold layAt; rw [layAt_size r]; simp
theorem layAt_out : ∀ (vs : List Value) (o : Nat) (cs : Array Value) (k : Nat), k < o ∨ o + vs.length ≤ k → (layAt cs o vs)[k]? = cs[k]?
  | [], _, _, _, _ => rfl
  | v :: r, o, cs, k, h => by
    simp only [List.length_cons] at h
    unfold layAt
    rw [layAt_out r (o + 1) _ k (by omega), lay_set, if_neg (by omega)]
theorem layAt_in : ∀ (vs : List Value) (o : Nat) (cs : Array Value) (j : Nat), o + vs.length ≤ cs.size → j < vs.length → (layAt cs o vs)[o + j]? = vs[j]?
  | [], _, _, _, _, h => absurd h (Nat.not_lt_zero _)
  | v :: r, o, cs, 0, hs, _ => by
    simp only [List.length_cons] at hs
    unfold layAt
    rw [layAt_out r (o + 1) _ _ (by omega), Nat.add_zero, lay_set, if_pos ⟨rfl, by omega⟩]
    rfl
  | v :: r, o, cs, j + 1, hs, h => by
    simp only [List.length_cons] at hs h
    unfold layAt
    rw [show o + (j + 1) = o + 1 + j by omega, layAt_in r (o + 1) _ j (by simp; omega) (by omega)]
    rfl
/-- The block g holds the values cs, whole, as a row of elements of the type e. -/
structure OwnT (w : World) (g : Nat) (e : TypeId) (cs : Array Value) : Prop where
  blk : w.heap[g]? = some (.cells cs e (0, 0))
namespace OwnT
variable {w w1 : World} {g : Nat} {e : TypeId} {cs : Array Value}
theorem own (h : OwnT w g e cs) : Own w g cs := ⟨e, h.blk⟩
theorem new (w : World) (cs : Array Value) (e : TypeId) {g : Nat} (hg : g = w.heap.size) : OwnT (w.alloc (.cells cs e)) g e cs := ⟨by subst hg; exact (MapKept.heap_alloc w _).1⟩
theorem lt (h : OwnT w g e cs) : g < w.heap.size := h.own.lt
theorem same (h : OwnT w g e cs) (k : w1.heap[g]? = w.heap[g]?) : OwnT w1 g e cs := ⟨k.trans h.blk⟩
theorem next (h : OwnT w g e cs) (k : Ok w w1) : OwnT w1 g e cs := h.same (k.block g h.lt)
theorem drew (h : OwnT w g e cs) : OwnT w.drew g e cs := ⟨h.blk⟩
theorem set (h : OwnT w g e cs) (k : Nat) (v : Value) : OwnT (w.setCell ⟨g, k, none⟩ v) g e (cs.set! k v) := by
  have h := h.blk
  refine ⟨?_⟩
  simp only [World.setCell, Array.getElem?_modify, h, if_true, Option.map_some]
  rfl
theorem setCells : ∀ (vs : List Value) (o : Nat) {w : World} {cs : Array Value}, OwnT w g e cs → OwnT (w.setCells g o vs) g e (layAt cs o vs)
  | [], _, _, _, h => h
  | v :: r, o, _, _, h => setCells r (o + 1) (h.set o v)
theorem cell (h : OwnT w g e cs) (k : Nat) {v : Value} (hv : cs[k]? = some v) : w.cell? ⟨g, k, none⟩ = some v := h.own.cell k hv
theorem shape (h : OwnT w g e cs) : w.shape? g = some (e, cs.size) := by simp [World.shape?, h.blk]
end OwnT
theorem own_shape {w : World} {g : Nat} {cs : Array Value} (h : Own w g cs) : ∃ t, w.shape? g = some (t, cs.size) := by
  obtain ⟨t, h⟩ := h
  exact ⟨t, by simp [World.shape?, h]⟩
theorem setCells_other {g : Nat} : ∀ (vs : List Value) (o : Nat) (w : World) (k : Nat), k ≠ g → (w.setCells g o vs).heap[k]? = w.heap[k]?
  | [], _, _, _, _ => rfl
  | v :: r, o, w, k, h => by
    rw [World.setCells, setCells_other r (o + 1) _ k h]
    exact Below.heap_setCell w _ v k h
theorem setCells_size {g : Nat} : ∀ (vs : List Value) (o : Nat) (w : World), (w.setCells g o vs).heap.size = w.heap.size
  | [], _, _ => rfl
  | v :: r, o, w => by rw [World.setCells, setCells_size r]; simp
theorem setCells_os {g : Nat} : ∀ (vs : List Value) (o : Nat) (w : World), (w.setCells g o vs).os = w.os ∧ (w.setCells g o vs).tape = w.tape ∧ (w.setCells g o vs).output = w.output
  | [], _, _ => ⟨rfl, rfl, rfl⟩
  | v :: r, o, w => by rw [World.setCells]; exact setCells_os r (o + 1) _
theorem grown_setCells (w : World) (g o : Nat) (vs : List Value) : w.grownBy (w.setCells g o vs) (some g) :=
  ⟨(setCells_os vs o w).1, (setCells_os vs o w).2.1, (setCells_os vs o w).2.2, by rw [setCells_size]; exact Nat.le_refl _, fun k _ h => setCells_other vs o w k fun e => h (by rw [e])⟩
theorem grown_trans {w w1 w2 : World} {row : Option Nat} (h : w.grownBy w1 row) (k : w1.grownBy w2 row) : w.grownBy w2 row :=
  ⟨k.os.trans h.os, k.tape.trans h.tape, k.output.trans h.output, Nat.le_trans h.size k.size, fun i a b => (k.block i (Nat.lt_of_lt_of_le a h.size) b).trans (h.block i a b)⟩
/-- .. and further changes of a block that is new. -/
theorem grown_new {w w1 w2 : World} {row : Option Nat} {g : Nat} (h : w.grownBy w1 row) (hg : w.heap.size ≤ g) (k : w1.grownBy w2 (some g)) : w.grownBy w2 row :=
  ⟨k.os.trans h.os, k.tape.trans h.tape, k.output.trans h.output, Nat.le_trans h.size k.size, fun i a b => (k.block i (Nat.lt_of_lt_of_le a h.size) (fun e => by cases e; omega)).trans (h.block i a b)⟩
theorem grown_alloc (w : World) (o : Obj) (row : Option Nat) : w.grownBy (w.alloc o) row := World.grownBy_alloc w o row
theorem grown_drew (w : World) (row : Option Nat) : w.grownBy w.drew row := ⟨rfl, rfl, rfl, Nat.le_refl _, fun _ _ _ => rfl⟩
/-- A row of one's own out of what its block holds. -/
theorem row_of_own {w : World} {g : Nat} {e : TypeId} {cs : Array Value} (h : OwnT w g e cs) {B n cap k : Nat} {xs : List Value} (hb : B ≤ g) (hx : xs.length = n * k) (hn : n ≤ cap) (hc : cap ≤ maxLen) (hs : cs.size = cap * k)
    (hv : ∀ (j : Nat) (u : Value), xs[j]? = some u → cs[j]? = some u) : w.ownsRow B e k (.slice (some ⟨g, 0, none⟩) n cap) n xs := by
  refine ⟨hx, .inr ⟨g, cap, cs, rfl, hb, h.blk, hn, hc, hs, ?_⟩⟩
  have hle : n * k ≤ cs.size := by rw [hs]; exact Nat.mul_le_mul_right _ hn
  apply List.ext_getElem?
  intro j
  rw [List.getElem?_take]
  by_cases hj : j < n * k
  · rw [if_pos hj, Array.getElem?_toList]
    have := hv j _ (List.getElem?_eq_getElem (show j < xs.length by omega))
    rw [this, List.getElem?_eq_getElem (show j < xs.length by omega)]
  · rw [if_neg hj, List.getElem?_eq_none (by omega)]
theorem own_of_row {w : World} {B g : Nat} {e : TypeId} {k n cap : Nat} {xs : List Value} (h : w.ownsRow B e k (.slice (some ⟨g, 0, none⟩) n cap) n xs) :
    ∃ cs, OwnT w g e cs ∧ B ≤ g ∧ xs.length = n * k ∧ n ≤ cap ∧ cap ≤ maxLen ∧ cs.size = cap * k ∧ ∀ (j : Nat) (u : Value), xs[j]? = some u → cs[j]? = some u := by
  obtain ⟨h1, ⟨h2, _⟩ | ⟨g', cap', cs, h2, h3, h4, h5, h6, h7, h8⟩⟩ := h
  · cases h2
  · cases h2
    refine ⟨cs, ⟨h4⟩, h3, h1, h5, h6, h7, fun j u hj => ?_⟩
    rw [← h8, List.getElem?_take] at hj
    split at hj
    · rwa [Array.getElem?_toList] at hj
    · cases hj
section
variable {P : Program}
/-- All is read ahead of anything that is written; elements of k cells. -/
theorem run_copyK (w : World) (t ty elem : TypeId) (b o dLen dCap : Nat) (a : Addr) (sLen sCap k : Nat) (cs : List Value)
    (hu : P.underlying t = some (.slice elem)) (hs : (P.info? elem).map (·.size) = some k) (hn : cs.length = Nat.min sLen dLen * k)
    (hsrc : ∀ j v, cs[j]? = some v → w.cell? (a.add j) = some v) (hc : ∀ j, j < cs.length → (w.cell? ⟨b, o + j, none⟩).isSome = true) (hf : ∀ j, j < cs.length → w.frozen? ⟨b, o + j, none⟩ = false) (h1 : ∀ v ∈ cs, v.oneCell' = true) :
    (Builtin.copy_ #[t, t] ty #[.slice (some ⟨b, o, none⟩) dLen dCap, .slice (some a) sLen sCap]).run P w = .ok (goInt (Nat.min sLen dLen)) (w.setCells b o cs) := by
  have hl := run_loadCells_list (P := P) w a cs hsrc
  have hst := run_storeCells_cells (P := P) b o cs 0 w (by simpa using hc) (by simpa using hf) h1
  cases hq : P.info? elem with
  | none => simp [hq] at hs
  | some i =>
    have hi : i.size = k := by simpa [hq] using hs
    simp [Builtin.copy_, run_underlying hu, Builtin.lenOf, Builtin.firstCells, sizeOf, typeInfo, hq, hi, ← hn, hl, hst]
/-- copy into a block of one's own. -/
theorem run_copyO {w : World} {g : Nat} {e : TypeId} {cur : Array Value} (h : OwnT w g e cur) (t ty : TypeId) (o dLen dCap : Nat) (a : Addr) (sLen sCap k : Nat) (cs : List Value)
    (hu : P.underlying t = some (.slice e)) (hs : (P.info? e).map (·.size) = some k) (hn : cs.length = Nat.min sLen dLen * k) (hfit : o + cs.length ≤ cur.size)
    (hsrc : ∀ j v, cs[j]? = some v → w.cell? (a.add j) = some v) (h1 : ∀ v ∈ cs, v.oneCell' = true) :
    (Builtin.copy_ #[t, t] ty #[.slice (some ⟨g, o, none⟩) dLen dCap, .slice (some a) sLen sCap]).run P w = .ok (goInt (Nat.min sLen dLen)) (w.setCells g o cs) :=
  run_copyK w t ty e g o dLen dCap a sLen sCap k cs hu hs hn hsrc (fun j hj => by rw [h.cell (o + j) (Array.getElem?_eq_getElem (show o + j < cur.size by omega))]; rfl) (fun j _ => h.own.frozen _) h1
/-- clear of a part of a block of one's own. -/
theorem run_clearO {w : World} {g : Nat} {e : TypeId} {cur : Array Value} (h : OwnT w g e cur) (t ty : TypeId) (o n c : Nat) (z : Value) (k : Nat) (hu : P.underlying t = some (.slice e)) (hi : (P.info? e).map (fun i => (i.zero, i.size)) = some (some z, k)) (hz : z.cells.size = k)
    (hn : 0 < n) (hfit : o + n * k ≤ cur.size) (h1 : ∀ v ∈ (Builtin.zeroCells z.cells n).toList, v.oneCell' = true) :
    (Builtin.clear_ #[t] ty #[.slice (some ⟨g, o, none⟩) n c]).run P w = .ok (.tuple #[]) (w.setCells g o (Builtin.zeroCells z.cells n).toList) := by
  have hl : (Builtin.zeroCells z.cells n).toList.length = n * k := by rw [Array.length_toList, size_zeroCells, hz]
  have hst := run_storeCells_cells (P := P) g o (Builtin.zeroCells z.cells n).toList 0 w
    (fun j hj => by rw [hl] at hj; rw [Nat.add_zero, h.cell (o + j) (Array.getElem?_eq_getElem (show o + j < cur.size by omega))]; rfl) (fun j _ => h.own.frozen _) h1
  cases hq : P.info? e with
  | none => simp [hq] at hi
  | some i =>
    have hi' : i.zero = some z := by simp [hq] at hi; exact hi.1
    cases n with
    | zero => omega
    | succ n => simp [Builtin.clear_, run_underlying hu, zeroValue, typeInfo, hq, hi', hst]
theorem wp_copy_known {w : World} {o : Oper} {a : Act} {K : Act → World → Prop} {Q : Exit → Act → World → Prop} (d s : Operand) (t : TypeId)
    (ho : o.op = .call { callee := .builtin .copy, args := #[d, s], argTypes := #[t, t] }) (v u : Value) (hd : a.eval d = v) (hs : a.eval s = u) {v' : Value} {w' : World}
    (hr : (Builtin.copy_ #[t, t] o.type #[v, u]).run P w = .ok v' w') (h : K (a.put o.dst v') w') : o.wp P a w K Q := by
  unfold Oper.wp
  simp [execOp, ho, resolve, invoke, builtin, hd, hs, hr, Result.andThen]
  exact h
theorem wpList_copy_known {w : World} {ops : Array Oper} {rest : List Oper} {o : Oper} {a : Act} {Q : Exit → Act → World → Prop} (hgd : o.guard = none) (d s : Operand) (t : TypeId)
    (ho : o.op = .call { callee := .builtin .copy, args := #[d, s], argTypes := #[t, t] }) (v u : Value) (hd : a.eval d = v) (hs : a.eval s = u) {v' : Value} {w' : World}
    (hr : (Builtin.copy_ #[t, t] o.type #[v, u]).run P w = .ok v' w') (h : wpList P ops Q rest (a.put o.dst v') w') : wpList P ops Q (o :: rest) a w :=
  wpList_plain hgd fun _ hK => wp_copy_known d s t ho v u hd hs hr (hK _ _ h)
theorem step_copy_known {w : World} {ops : Array Oper} {o : Oper} {a : Act} {K : Act → World → Prop} {Q : Exit → Act → World → Prop} {E : Prop} (hgd : o.guard = none) (d s : Operand) (t : TypeId)
    (ho : o.op = .call { callee := .builtin .copy, args := #[d, s], argTypes := #[t, t] }) (v u : Value) (hd : a.eval d = v) (hs : a.eval s = u) {v' : Value} {w' : World}
    (hr : (Builtin.copy_ #[t, t] o.type #[v, u]).run P w = .ok v' w') (h : K (a.put o.dst v') w') :
    if Region.wanted o (yielded ops a.tmps) = true then Oper.wp P o a w K Q else E := by
  have hw : Region.wanted o (yielded ops a.tmps) = true := by simp [Region.wanted, hgd]
  rw [if_pos hw]
  exact wp_copy_known d s t ho v u hd hs hr h
theorem wpList_clear_known {w : World} {ops : Array Oper} {rest : List Oper} {o : Oper} {a : Act} {Q : Exit → Act → World → Prop} (hgd : o.guard = none) (d : Operand) (t : TypeId)
    (ho : o.op = .call { callee := .builtin .clear, args := #[d], argTypes := #[t] }) (v : Value) (hd : a.eval d = v) {v' : Value} {w' : World}
    (hr : (Builtin.clear_ #[t] o.type #[v]).run P w = .ok v' w') (h : wpList P ops Q rest (a.put o.dst v') w') : wpList P ops Q (o :: rest) a w :=
  wpList_plain hgd fun K hK => by
    have hk := hK _ _ h
    unfold Oper.wp
    simp [execOp, ho, resolve, invoke, builtin, hd, hr, Result.andThen]
    exact hk
theorem step_append_known {w : World} {ops : Array Oper} {o : Oper} {a : Act} {K : Act → World → Prop} {Q : Exit → Act → World → Prop} {E : Prop} (hgd : o.guard = none) (d s : Operand) (t : TypeId)
    (ho : o.op = .call { callee := .builtin .append, args := #[d, s], argTypes := #[t, t] }) (v u : Value) (hd : a.eval d = v) (hs : a.eval s = u) {v' : Value} {w' : World}
    (hr : (Builtin.append_ #[t, t] o.type #[v, u]).run P w = .ok v' w') (h : K (a.put o.dst v') w') :
    if Region.wanted o (yielded ops a.tmps) = true then Oper.wp P o a w K Q else E := by
  have hw : Region.wanted o (yielded ops a.tmps) = true := by simp [Region.wanted, hgd]
  rw [if_pos hw]
  unfold Oper.wp
  simp [execOp, ho, resolve, invoke, builtin, hd, hs, hr, Result.andThen]
  exact h
theorem wpList_append_known {w : World} {ops : Array Oper} {rest : List Oper} {o : Oper} {a : Act} {Q : Exit → Act → World → Prop} (hgd : o.guard = none) (d s : Operand) (t t' : TypeId)
    (ho : o.op = .call { callee := .builtin .append, args := #[d, s], argTypes := #[t, t'] }) (v u : Value) (hd : a.eval d = v) (hs : a.eval s = u) {v' : Value} {w' : World}
    (hr : (Builtin.append_ #[t, t'] o.type #[v, u]).run P w = .ok v' w') (h : wpList P ops Q rest (a.put o.dst v') w') : wpList P ops Q (o :: rest) a w :=
  wpList_plain hgd fun K hK => by
    have hk := hK _ _ h
    unfold Oper.wp
    simp [execOp, ho, resolve, invoke, builtin, hd, hs, hr, Result.andThen]
    exact hk
end
/-- Of the blocks that were there only those of which S tells may have changed. -/
structure Far (S : Nat → Prop) (w w' : World) : Prop where
  os : w'.os = w.os
  tape : w'.tape = w.tape
  output : w'.output = w.output
  size : w.heap.size ≤ w'.heap.size
  block : ∀ k, k < w.heap.size → ¬ S k → w'.heap[k]? = w.heap[k]?
namespace Far
variable {S T : Nat → Prop} {w w1 w2 : World}
theorem refl (S : Nat → Prop) (w : World) : Far S w w := ⟨rfl, rfl, rfl, Nat.le_refl _, fun _ _ _ => rfl⟩
theorem ok (h : Far S w w1) (k : Ok w1 w2) : Far S w w2 := ⟨k.below.os.trans h.os, k.below.tape.trans h.tape, k.below.output.trans h.output, Nat.le_trans h.size k.size, fun i a b => (k.below.block i (Nat.lt_of_lt_of_le a h.size)).trans (h.block i a b)⟩
theorem of_ok (k : Ok w w1) : Far S w w1 := (refl S w).ok k
/-- One change behind the other; the second one may touch what the first has made. -/
theorem trans (h : Far S w w1) (k : Far T w1 w2) (hT : ∀ i, T i → S i ∨ w.heap.size ≤ i) : Far S w w2 :=
  ⟨k.os.trans h.os, k.tape.trans h.tape, k.output.trans h.output, Nat.le_trans h.size k.size, fun i a b => (k.block i (Nat.lt_of_lt_of_le a h.size) fun c => (hT i c).elim b (by omega)).trans (h.block i a b)⟩
theorem set (h : Far S w w1) {a : Addr} (ha : S a.block ∨ w.heap.size ≤ a.block) (v : Value) : Far S w (w1.setCell a v) :=
  ⟨h.os, h.tape, h.output, by simpa using h.size, fun i h1 h2 => (Below.heap_setCell w1 a v i (fun e => ha.elim (fun c => h2 (by rw [e]; exact c)) (by omega))).trans (h.block i h1 h2)⟩
theorem alloc (h : Far S w w1) (o : Obj) : Far S w (w1.alloc o) := h.ok ((Ok.refl _).alloc o)
theorem drew (h : Far S w w1) : Far S w w1.drew := h.ok (Ok.refl _).drew
theorem grow (h : Far S w w1) {row : Option Nat} (g : w1.grownBy w2 row) (hr : ∀ k, row = some k → S k ∨ w.heap.size ≤ k) : Far S w w2 :=
  ⟨g.os.trans h.os, g.tape.trans h.tape, g.output.trans h.output, Nat.le_trans h.size g.size, fun i a b => (g.block i (Nat.lt_of_lt_of_le a h.size) (fun e => (hr i e.symm).elim b (by omega))).trans (h.block i a b)⟩
theorem own (h : Far S w w1) {g : Nat} {cs : Array Value} (hO : Own w g cs) (h1 : ¬ S g) : Own w1 g cs := by
  have hl := hO.lt
  obtain ⟨t, ht⟩ := hO
  exact ⟨t, (h.block g hl h1).trans ht⟩
theorem cell (h : Far S w w1) {b o : Nat} {v : Value} (hc : w.cell? ⟨b, o, none⟩ = some v) (h0 : b < w.heap.size) (h1 : ¬ S b) : w1.cell? ⟨b, o, none⟩ = some v := (World.cell?_of_block (a := ⟨b, o, none⟩) (h.block b h0 h1)).trans hc
theorem row (h : Far S w w1) {B : Nat} {e : TypeId} {k n : Nat} {v : Value} {xs : List Value} (hR : w.ownsRow B e k v n xs) (hv : ∀ i, v.ownBlock = some i → ¬ S i) : w1.ownsRow B e k v n xs := by
  refine ⟨hR.1, ?_⟩
  rcases hR.2 with hn | ⟨g, cap, cur, rfl, hb, hgg, rest⟩
  · exact .inl hn
  · exact .inr ⟨g, cap, cur, rfl, hb, (h.block g (Array.getElem?_eq_some_iff.1 hgg).1 (hv g rfl)).trans hgg, rest⟩
/-- What changes only blocks of one's own changes nothing that came in. -/
theorem then_ok {w0 : World} (h0 : Ok w0 w) (h : Far S w w1) (hr : ∀ k, S k → w0.heap.size ≤ k) : Ok w0 w1 :=
  ⟨h.os.trans h0.below.os, h.tape.trans h0.below.tape, h.output.trans h0.below.output, Nat.le_trans h0.size h.size, fun i hi => (h.block i (Nat.lt_of_lt_of_le hi h0.size) (fun c => by have := hr i c; omega)).trans (h0.below.block i hi)⟩
theorem mono (h : Far S w w1) (hS : ∀ k, S k → T k) : Far T w w1 := ⟨h.os, h.tape, h.output, h.size, fun k a b => h.block k a fun c => b (hS k c)⟩
end Far
end Go.Proofs.YtbbkohpaebeidaaDoor
