/- Several texts of mine in one: W20, C15b, W28. -/
import Derived.Test.YtmmiboblofopgaaGreatB00
import Derived.Laws.AppendOwn
import Derived.Laws.OwnMore
import Derived.OwnWalk
import Derived.ChangeArms
import Derived.Lib.SliceRun
import Derived.Deep.QuietTactic
import Derived.BigQuiet
import Derived.Test.YtmmiboblofopgaaGreatB05
/- Words of my own: a slice of structs, read as the row of their cells; what came in as one; append of such a row to one of one's own. -/
namespace Go.Proofs.YtmmiboblofopgaaGreat
open Go.RowKit Go.WideShapes Go.ChangeShapes Go.Joins Go.Deep
/-- The slice with address A reads, in world w, as these cells. -/
def CellsAt (w : World) (A : Option Addr) (cs : List Value) : Prop :=
  ∀ j u, cs[j]? = some u → ∃ b off, A = some ⟨b, off, none⟩ ∧ b < w.heap.size ∧ w.cell? ⟨b, off + j, none⟩ = some u
namespace CellsAt
theorem empty (w : World) (A : Option Addr) : CellsAt w A [] := fun j u h => by simp at h
theorem below {w w' : World} {A : Option Addr} {cs : List Value} (h : CellsAt w A cs) (hb : Ok w w') : CellsAt w' A cs := fun j u hj => by
  obtain ⟨b, off, hA, hlt, hc⟩ := h j u hj
  exact ⟨b, off, hA, Nat.lt_of_lt_of_le hlt hb.size, (Below.cell hb (p := ⟨b, off + j, none⟩) hlt).trans hc⟩
theorem alloc {w : World} {A : Option Addr} {cs : List Value} (h : CellsAt w A cs) (o : Obj) : CellsAt (w.alloc o) A cs := h.below (below_alloc w o)
theorem drew {w : World} {A : Option Addr} {cs : List Value} (h : CellsAt w A cs) : CellsAt w.drew A cs := h.below (Ok.refl w).drew
/-- A slice that is written down: a new block. -/
theorem new (w : World) (t : TypeId) (cs : Array Value) {l : List Value} (h : cs.toList = l) {b : Nat} (hb : b = w.heap.size) : CellsAt (w.alloc (.cells cs t)) (some ⟨b, 0, none⟩) l := by
  subst hb
  subst h
  intro j u hj
  have e2 : (w.alloc (.cells cs t)).heap[w.heap.size]? = some (.cells cs t) := (MapKept.heap_alloc w _).1
  rw [Array.getElem?_toList] at hj
  refine ⟨w.heap.size, 0, rfl, by simp, ?_⟩
  simp only [World.cell?, e2, Nat.zero_add]; exact hj
/-- A row of the call's own reads as what it holds. -/
theorem of_own {w : World} {B : Nat} {e : TypeId} {k n : Nat} {v : Value} {cs : List Value} (h : w.ownsRow B e k v n cs) (hn : n * k = cs.length) (_hk : 0 < k) : ∃ A cap, v = .slice A n cap ∧ CellsAt w A cs := by
  rcases h.2 with ⟨rfl, hx⟩ | ⟨g, cap, cur, rfl, hb, hh, r⟩
  · subst hx
    have : cs = [] := List.length_eq_zero_iff.1 (by omega)
    subst this
    exact ⟨none, 0, rfl, empty _ _⟩
  · refine ⟨some ⟨g, 0, none⟩, cap, rfl, fun j u hj => ⟨g, 0, rfl, (Array.getElem?_eq_some_iff.1 hh).1, ?_⟩⟩
    have := h.cells (g := g) rfl j u hj
    rwa [Go.WideShapes.add_plain] at this
theorem take {w : World} {A : Option Addr} {cs : List Value} (h : CellsAt w A cs) (n : Nat) : CellsAt w A (cs.take n) := fun j u hj => by
  rw [List.getElem?_take] at hj
  split at hj
  · exact h j u hj
  · simp at hj
theorem drop {w : World} {b off : Nat} {cs : List Value} (h : CellsAt w (some ⟨b, off, none⟩) cs) (n : Nat) : CellsAt w (some ⟨b, off + n, none⟩) (cs.drop n) := fun j u hj => by
  rw [List.getElem?_drop] at hj
  obtain ⟨b', off', e, hlt, hc⟩ := h (n + j) u hj
  cases e
  exact ⟨b, off + n, rfl, hlt, by rw [Nat.add_assoc]; exact hc⟩
end CellsAt
theorem flatMap_length {α : Type} (f : α → List Value) (n : Nat) (hf : ∀ x, (f x).length = n) (l : List α) : (l.flatMap f).length = l.length * n := by
  induction l with
  | nil => simp
  | cons x l ih => rw [List.flatMap_cons, List.length_append, ih, hf, List.length_cons, Nat.add_mul, Nat.one_mul, Nat.add_comm]
theorem flatMap_at {α : Type} (f : α → List Value) (n : Nat) (hf : ∀ x, (f x).length = n) : ∀ (l : List α) (k : Nat) (h : k < l.length) (j : Nat) (u : Value), (f l[k])[j]? = some u → (l.flatMap f)[k * n + j]? = some u
  | [], k, h, _, _, _ => absurd h (Nat.not_lt_zero k)
  | x :: l, 0, _, j, u, hj => by
    have : j < (f x).length := (List.getElem?_eq_some_iff.1 hj).1
    rw [List.flatMap_cons, Nat.zero_mul, Nat.zero_add, List.getElem?_append_left this]
    exact hj
  | x :: l, k + 1, h, j, u, hj => by
    rw [List.flatMap_cons, List.getElem?_append_right (by rw [hf, Nat.add_mul]; omega), hf, show (k + 1) * n + j - n = k * n + j by rw [Nat.add_mul]; omega]
    exact flatMap_at f n hf l k (by simpa using h) j u hj
/-- The k-th struct of a slice of structs. -/
theorem CellsAt.at {α : Type} {w : World} {A : Option Addr} {f : α → List Value} {l : List α} (h : CellsAt w A (l.flatMap f)) {n : Nat} (hf : ∀ x, (f x).length = n) (hn : 0 < n) (k : Nat) (hk : k < l.length) :
    ∃ b off, A = some ⟨b, off, none⟩ ∧ b < w.heap.size ∧ ∀ j u, (f l[k])[j]? = some u → w.cell? ⟨b, off + k * n + j, none⟩ = some u := by
  have h0 : 0 < (f l[k]).length := by rw [hf]; exact hn
  obtain ⟨b, off, e, hlt, _⟩ := h _ _ (flatMap_at f n hf l k hk 0 _ (List.getElem?_eq_getElem h0))
  refine ⟨b, off, e, hlt, fun j u hj => ?_⟩
  obtain ⟨b', off', e', _, hc⟩ := h _ _ (flatMap_at f n hf l k hk j u hj)
  rw [e] at e'
  cases e'
  rw [Nat.add_assoc]
  exact hc
/-- append of cells that are there, nil or not, to a row of one's own. -/
theorem wpList_append_cells {P : Program} {w : World} {ops : Array Oper} {rest : List Oper} {o : Oper} {a : Act} {Q : Exit → Act → World → Prop} (hgd : o.guard = none) (s x : Operand) (t : TypeId)
    (ho : o.op = .call { callee := .builtin .append, args := #[s, x], argTypes := #[t, t] })
    (base : Nat) (e : TypeId) (ht : P.underlying t = some (.slice e)) (z : Value) (k bytes : Nat) (hk : 0 < k) (hby : bytes ≤ 100000) (hz : z.cells.size = k) (hi : (P.info? e).map (fun i => (i.zero, i.size, i.bytes)) = some (some z, k, bytes))
    (v : Value) (n : Nat) (xs : List Value) (hs : a.eval s = v) (hown : w.ownsRow base e k v n xs) (A : Option Addr) (m c : Nat) (ys : List Value) (hm : ys.length = m * k) (hx : a.eval x = .slice A m c) (hA : CellsAt w A ys) (hone : ∀ u ∈ ys, u.oneCell' = true)
    (h63 : n + m ≤ 1000000) (hbase : base ≤ w.heap.size)
    (h : ∀ v' w', w'.ownsRow base e k v' (n + m) (xs ++ ys) → w.grownBy w' v.ownBlock → wpList P ops Q rest (a.put o.dst v') w') : wpList P ops Q (o :: rest) a w := by
  obtain ⟨i, i0, i1, i2, i3⟩ := info_parts hi
  cases A with
  | some ad =>
    refine wpList_append_own w hgd s x t ho base e i z k bytes ht i0 i1 i2 i3 hz hk v n xs hs hown ad m c ys hx hm (fun j u hj => ?_) hone (by unfold maxLen; omega) ?_ hbase fun v' w' h1 h2 _ => h v' w' h1 h2
    · obtain ⟨b, off, e1, _, h1⟩ := hA j u hj
      cases e1
      rwa [Go.WideShapes.add_plain]
    · exact Nat.le_trans (Nat.mul_le_mul h63 hby) (by decide)
  | none =>
    have hl : ys = [] := by
      cases ys with
      | nil => rfl
      | cons y l => obtain ⟨_, _, e, _⟩ := hA 0 y rfl; cases e
    subst hl
    have hm0 : m = 0 := by
      rcases Nat.mul_eq_zero.1 hm.symm with h | h
      · exact h
      · omega
    subst hm0
    refine wpList_plain hgd fun K hK => ?_
    have hrun : (Builtin.append_ #[t, t] o.type #[v, .slice none 0 c]).run P w = .ok v w := by
      rcases hown.2 with ⟨rfl, _⟩ | ⟨g, cap, cur, rfl, _, _, hnc, _⟩
      · simp [Builtin.append_, run_underlying ht, sizeOf, typeInfo, i0, Builtin.lenOf, Builtin.firstCells]
      · simp [Builtin.append_, run_underlying ht, sizeOf, typeInfo, i0, Builtin.lenOf, Builtin.firstCells, hnc, storeCells]
    have hk := h v w (by simpa using hown) ⟨rfl, rfl, rfl, Nat.le_refl _, fun _ _ _ => rfl⟩
    unfold Oper.wp
    simp [execOp, ho, resolve, invoke, builtin, hs, hx, hrun, Result.andThen]
    exact hK _ _ hk
/-- What a field may be. -/
inductive Kind where
  | int | bool | str
def Kind.type (P : Program) (t : TypeId) : Option Kind :=
  match P.underlying t with
  | some (.int .i64) => some .int
  | some .bool => some .bool
  | some .string => some .str
  | _ => none
def Kind.ok : Kind → Value → Prop
  | .int, v => ∃ z : Int, v = .int .i64 z ∧ (Lit.int .i64 z).wf = true
  | .bool, v => ∃ b : Bool, v = .bool b
  | .str, v => ∃ s : ByteArray, v = .string s ∧ s.size ≤ maxLen
def Kind.rows : List Kind → List Value → Prop
  | [], [] => True
  | k :: ks, v :: vs => k.ok v ∧ Kind.rows ks vs
  | _, _ => False
theorem Kind.rows_of : ∀ (ks : List Kind) (vs : List Value), vs.length = ks.length → (∀ (j : Nat) (k : Kind) (v : Value), ks[j]? = some k → vs[j]? = some v → k.ok v) → Kind.rows ks vs
  | [], [], _, _ => trivial
  | k :: ks, v :: vs, hl, h => ⟨h 0 k v rfl rfl, Kind.rows_of ks vs (by simpa using hl) fun j k' v' h1 h2 => h (j + 1) k' v' (by simpa using h1) (by simpa using h2)⟩
  | [], _ :: _, hl, _ => by simp at hl
  | _ :: _, [], hl, _ => by simp at hl
theorem Kind.rows_length : ∀ (ks : List Kind) (vs : List Value), Kind.rows ks vs → vs.length = ks.length
  | [], [], _ => rfl
  | _ :: ks, _ :: vs, h => by rw [List.length_cons, List.length_cons, Kind.rows_length ks vs h.2]
  | [], _ :: _, h => h.elim
  | _ :: _, [], h => h.elim
/-- What all are the picture of something is the picture of a list. -/
theorem rows_map {α β : Type} (f : α → β) (p : α → Prop) : ∀ l : List β, (∀ r ∈ l, ∃ x, r = f x ∧ p x) → ∃ xs : List α, l = xs.map f ∧ ∀ x ∈ xs, p x
  | [], _ => ⟨[], rfl, by simp⟩
  | r :: l, h => by
    obtain ⟨x, rfl, hx⟩ := h r List.mem_cons_self
    obtain ⟨xs, rfl, hxs⟩ := rows_map f p l fun r hr => h r (List.mem_cons_of_mem _ hr)
    refine ⟨x :: xs, rfl, fun y hy => ?_⟩
    rcases List.mem_cons.1 hy with rfl | hy
    · exact hx
    · exact hxs y hy
theorem flatMap_inv {α : Type} (f : α → List Value) (n : Nat) (hf : ∀ x, (f x).length = n) (hn : 0 < n) (l : List α) (j : Nat) (u : Value) (h : (l.flatMap f)[j]? = some u) : ∃ (k : Nat) (hk : k < l.length), k = j / n ∧ (f l[k])[j % n]? = some u := by
  have hlt : j < l.length * n := by rw [← flatMap_length f n hf]; exact (List.getElem?_eq_some_iff.1 h).1
  have hk : j / n < l.length := Nat.div_lt_of_lt_mul (by rw [Nat.mul_comm]; exact hlt)
  have hj : j % n < (f l[j / n]).length := by rw [hf]; exact Nat.mod_lt _ hn
  refine ⟨j / n, hk, rfl, ?_⟩
  have := flatMap_at f n hf l (j / n) hk (j % n) _ (List.getElem?_eq_getElem hj)
  rw [Nat.div_add_mod'] at this
  rw [this] at h
  cases h
  exact List.getElem?_eq_getElem hj
section
variable {H : Type} {enc : TypeId × Value → H} {P : Program} {w : World} {base : Nat}
/-- A slice of structs of ints, bools and strings that came in. -/
theorem open_slice_rows {α : Type} (f : α → List Value) (p : α → Prop) (ks : List Kind) (hks : ∀ x, (f x).length = ks.length) (hp : ∀ r, Kind.rows ks r → ∃ x, r = f x ∧ p x) (hk0 : 0 < ks.length)
    {t e : TypeId} {fs : Array Field} {v : Value} {d : DataW H} {ps : List MemPlace} (ht : P.underlying t = some (.slice e)) (he : P.underlying e = some (.struct fs)) (hone : oneCellFields P fs = true) (hC : P.cellsOf e = ks.length)
    (hty : fs.toList.map (fun x => Kind.type P x.type) = ks.map some) (hv : Value.okWide P w .any base t v) (h : DataW.Trod enc P w 0 (fun _ => true) true t v d ps) :
    ∃ (A : Option Addr) (l : List α) (cap : Nat), v = .slice A l.length cap ∧ CellsAt w A (l.flatMap f) ∧ l.length ≤ 9223372036854775807 ∧ ∀ x ∈ l, p x := by
  obtain ⟨a0, len, cap, rfl⟩ := okWide_slice ht hv
  obtain ⟨fuel, hf⟩ := h
  have hfs : fs.size = ks.length := by simpa using congrArg List.length hty
  rcases open_slice ht hf with h2 | ⟨a, len', cap', m, n, D, Pl, hcs, hb, hl, hm, hmm, hx, hi⟩
  · simp [Value.cells] at h2
    obtain ⟨⟨rfl, rfl, rfl⟩, -⟩ := h2
    exact ⟨none, [], 0, rfl, CellsAt.empty _ _, by simp, by simp⟩
  · simp [Value.cells] at hcs
    obtain ⟨rfl, rfl, rfl⟩ := hcs
    simp only [if_true] at hmm
    subst hmm
    have key : ∀ i, i < len → ∃ x, p x ∧ ∀ j u, (f x)[j]? = some u → w.cell? (a.add (i * ks.length + j)) = some u := by
      intro i hlt
      obtain ⟨cs', hc, ht'⟩ := hi i (by omega)
      rw [hC] at hc
      obtain ⟨ys, n', hn', hy, hlen, hyl, hfl⟩ := DataW.trod_struct he ht'
      obtain ⟨hcl0, hcl, hat⟩ := World.cells?_some hc
      have hrow : Kind.rows ks cs' := by
        refine Kind.rows_of ks cs' hcl fun j k v hk hv => ?_
        have hj : j < ks.length := (List.getElem?_eq_some_iff.1 hk).1
        have hjf : j < fs.size := by omega
        have hf0 : fs[j]? = some fs[j] := Array.getElem?_eq_getElem hjf
        obtain ⟨ho, hk1⟩ := hone_of hone j fs[j] hf0
        have h1 := hfl j fs[j] hf0
        rw [ho, hk1] at h1
        have hv' : cs'[j]'(by omega) = v := by
          have := List.getElem?_eq_getElem (l := cs') (i := j) (by omega)
          rw [this] at hv
          exact Option.some.inj hv
        have e1 : (cs'.drop j).take 1 = [v] := by
          rw [List.drop_eq_getElem_cons (by omega), hv']
          rfl
        have hjs : j < ys.length := by rw [hyl]; exact hjf
        rw [e1, List.getElem?_eq_getElem hjs] at h1
        have h3 : Kind.type P fs[j].type = some k := by
          have h4 := congrArg (fun l => l[j]?) hty
          simp only [List.getElem?_map, hk, Option.map_some] at h4
          rw [Array.getElem?_toList, hf0] at h4
          simpa using h4
        unfold Kind.type at h3
        split at h3
        · rename_i hu
          cases h3
          obtain ⟨z, h5, _, h6⟩ := DataW.trod_int hu h1
          exact ⟨z, by simpa using h5, h6⟩
        · rename_i hu
          cases h3
          obtain ⟨z, h5, _⟩ := DataW.trod_bool hu h1
          exact ⟨z, by simpa using h5⟩
        · rename_i hu
          cases h3
          obtain ⟨z, h5, _, h6⟩ := DataW.trod_string hu h1
          exact ⟨z, by simpa using h5, h6⟩
        · cases h3
      obtain ⟨x, rfl, hpx⟩ := hp cs' hrow
      refine ⟨x, hpx, fun j u hj => ?_⟩
      have hjl : j < (f x).length := (List.getElem?_eq_some_iff.1 hj).1
      have := hat j (by omega)
      rw [← Go.Deep.add_add, this]
      exact hj
    have key' : ∀ i : Fin len, ∃ x, p x ∧ ∀ j u, (f x)[j]? = some u → w.cell? (a.add (i * ks.length + j)) = some u := fun i => key i i.2
    obtain ⟨F, hF⟩ := Classical.axiomOfChoice key'
    have hlen : (List.ofFn F).length = len := by simp
    refine ⟨some a, List.ofFn F, _, by rw [hlen], fun j u hj => ?_, by unfold maxLen at hm; omega, fun s hs => ?_⟩
    · obtain ⟨k, hk, e1, e2⟩ := flatMap_inv f ks.length hks hk0 _ j u hj
      rw [hlen] at hk
      have h := (hF ⟨k, hk⟩).2 (j % ks.length) u (by simpa using e2)
      obtain ⟨b, off, spot⟩ := a
      have hspot : spot = none := by
        have hp0 : 0 < len := by omega
        have hx0 : 0 < (f (F ⟨0, hp0⟩)).length := by rw [hks]; exact hk0
        have h0 := (hF ⟨0, hp0⟩).2 0 _ (List.getElem?_eq_getElem hx0)
        simpa [Addr.add] using World.cell?_spot h0
      subst hspot
      simp only [Go.WideShapes.add_plain, e1, Nat.div_add_mod'] at h
      exact ⟨b, off, rfl, cell_lt h, h⟩
    · obtain ⟨i, rfl⟩ := List.mem_ofFn.1 hs
      exact (hF i).1
end
end Go.Proofs.YtmmiboblofopgaaGreat

/- Contracts of layer 15: a table's own copy. -/
namespace Go.Proofs.YtmmiboblofopgaaGreat
open Go.RowKit
set_option maxRecDepth 100000
theorem infoLeap : (Tryz.prog.info? 68).map (fun i => (i.zero, i.size, i.bytes)) = some (some (.agg #[.int .i64 0, .int .i64 0]), 2, 16) := by kernel_rfl
/-- A row without anything in a new block. -/
theorem row_zero (w : World) (T e : TypeId) (k : Nat) (hT : T = e) : (w.alloc (.cells #[] T)).ownsRow w.heap.size e k (.slice (some ⟨w.heap.size, 0, none⟩) 0 0) 0 [] := by
  subst hT
  exact ⟨by simp, .inr ⟨w.heap.size, 0, #[], rfl, Nat.le_refl _, (MapKept.heap_alloc w _).1, Nat.le_refl _, Nat.zero_le _, by simp, by simp⟩⟩
theorem pairs_src15 {w : World} {ad : Addr} {l : List (Int × Int)} (h : PairsAt w (some ad) l) : ∀ j u, (cellsOfPairs l)[j]? = some u → w.cell? (ad.add j) = some u := by
  intro j u hj
  have hlen : (cellsOfPairs l).length = l.length * 2 := flatMap_length _ 2 (fun _ => rfl) l
  have hjl : j < l.length * 2 := by rw [← hlen]; exact (List.getElem?_eq_some_iff.1 hj).1
  have hk : j / 2 < l.length := by omega
  obtain ⟨b, off, e, _, h0, h1⟩ := h (j / 2) hk
  obtain ⟨g0, g1⟩ := cellsOfPairs_at l (j / 2) hk
  cases e
  rw [Go.WideShapes.add_plain]
  rcases Nat.mod_two_eq_zero_or_one j with q | q
  · have ej : j / 2 * 2 = j := by omega
    rw [ej] at g0 h0
    rw [g0] at hj
    cases hj
    exact h0
  · have ej : j / 2 * 2 + 1 = j := by omega
    rw [ej] at g1
    rw [Nat.add_assoc, ej] at h1
    rw [g1] at hj
    cases hj
    exact h1
theorem row_block {w : World} {B n k : Nat} {e : TypeId} {A : Option Addr} {c : Nat} {xs : List Value} (h : w.ownsRow B e k (.slice A n c) n xs) : ∀ a, A = some a → B ≤ a.block := fun a ha => by
  rcases h.2 with ⟨h1, _⟩ | ⟨g, cap, cur, h1, hb, _⟩
  · cases h1; cases ha
  · cases h1; cases ha; exact hb
set_option maxHeartbeats 1600000 in
theorem cloneLeaps (A : Option Addr) (l : List (Int × Int)) (cap : Nat) (w : World) (hA : PairsAt w A l) (hl : l.length ≤ 8796093022208) :
    Calls Tryz.prog 34 #[.slice A l.length cap] w fun e w' => ∃ A' c', e = .returned (.slice A' l.length c') ∧ PairsAt w' A' l ∧ (∀ a, A' = some a → w.heap.size ≤ a.block) ∧ Ok w w' := by
  have hok := Ok.refl w
  cases A with
  | none =>
    have hl0 : l = [] := by
      cases l with
      | nil => rfl
      | cons x l => obtain ⟨_, _, e, _⟩ := hA 0 (by simp); cases e
    subst hl0
    simp only [List.length_nil]
    clear hA hl
    have q22 : ∀ (w : World) (a : Option Addr) (n c n' c' : Nat), (binOp .eql 26 (.slice a n c) (.slice none n' c')).run Tryz.prog w = .ok (.bool a.isNone) w := fun w a n c n' c' => Lib.run_eql_slice_nil w _ _ a n c n' c' Tryz.underlying26
    go_enter Tryz.func34, Tryz.ntmps34
    go_wp2
    go_ret
    exact ⟨none, 0, rfl, PairsAt.empty _ _, by simp, hok⟩
  | some ad =>
    obtain ⟨i, i0, i1, i2, i3⟩ := info_parts infoLeap
    have HS := Lib.hid (pairs_src15 (hA.alloc (.cells #[] 68)))
    have HR := Lib.hid (row_zero w 68 68 2 rfl)
    have HL := Lib.hid hl
    have HN := Lib.hid (show (cellsOfPairs l).length = l.length * 2 from flatMap_length _ 2 (fun _ => rfl) l)
    have H1 : Hid (∀ u ∈ cellsOfPairs l, u.oneCell' = true) := Lib.hid (by
      intro u hu
      obtain ⟨s, _, hs⟩ := List.mem_flatMap.1 hu
      simp only [List.mem_cons, List.not_mem_nil, or_false] at hs
      rcases hs with rfl | rfl <;> rfl)
    clear hA hl
    have q22 : ∀ (w : World) (a : Option Addr) (n c n' c' : Nat), (binOp .eql 26 (.slice a n c) (.slice none n' c')).run Tryz.prog w = .ok (.bool a.isNone) w := fun w a n c n' c' => Lib.run_eql_slice_nil w _ _ a n c n' c' Tryz.underlying26
    go_enter Tryz.func34, Tryz.ntmps34
    go_wp2_with (at_builtin; refine wpList_append_own _ rfl (.tmp 5) (.tmp 6) 26 rfl w.heap.size 68 i (.agg #[.int .i64 0, .int .i64 0]) 2 16 Tryz.underlying26 i0 i1 i2 i3 rfl (by decide) _ 0 [] rfl HR.out ad l.length cap (cellsOfPairs l) rfl HN.out HS.out H1.out (by have := HL.out; unfold maxLen; omega) (by have := HL.out; omega) (by simp) ?_; intro v' w' hr2 hg2 _; simp only [Nat.zero_add, List.nil_append] at hr2; obtain ⟨A', c', rfl, hP⟩ := PairsAt.of_own hr2; have hb := row_block hr2; have hok2 := Below.grown (hok.alloc (.cells #[] 68)) hg2 (hok.alloc (.cells #[] 68)).size (fun k hk => by cases hk; exact Nat.le_refl _); clear hr2 hg2)
    go_ret
    exact ⟨A', c', rfl, hP, hb, hok2⟩
theorem row_next19 {w w1 : World} {B : Nat} {e : TypeId} {k n : Nat} {v : Value} {xs : List Value} (h : w.ownsRow B e k v n xs) (j : Ok w w1) : w1.ownsRow B e k v n xs :=
  h.kept (w' := w1) (row := none) ⟨j.below.os, j.below.tape, j.below.output, j.size, fun i hi _ => j.below.block i hi⟩ (by cases v.ownBlock <;> simp)
theorem row_low19 {w : World} {B C : Nat} {e : TypeId} {k n : Nat} {v : Value} {xs : List Value} (h : w.ownsRow B e k v n xs) (hC : C ≤ B) : w.ownsRow C e k v n xs := by
  obtain ⟨h0, h1⟩ := h
  refine ⟨h0, ?_⟩
  rcases h1 with h1 | ⟨g, cap, cur, h1, hb, r⟩
  · exact .inl h1
  · exact .inr ⟨g, cap, cur, h1, Nat.le_trans hC hb, r⟩
set_option maxHeartbeats 1600000 in
/-- A table's own copy, as a row of one's own. -/
theorem cloneRow (A : Option Addr) (l : List (Int × Int)) (cap : Nat) (w : World) (hA : PairsAt w A l) (hl : l.length ≤ 8796093022208) :
    Calls Tryz.prog 34 #[.slice A l.length cap] w fun e w' => ∃ v, e = .returned v ∧ w'.ownsRow w.heap.size 68 2 v l.length (cellsOfPairs l) ∧ Ok w w' := by
  have hok := Ok.refl w
  cases A with
  | none =>
    have hl0 : l = [] := by
      cases l with
      | nil => rfl
      | cons x l => obtain ⟨_, _, e, _⟩ := hA 0 (by simp); cases e
    subst hl0
    simp only [List.length_nil]
    clear hA hl
    have q22 : ∀ (w : World) (a : Option Addr) (n c n' c' : Nat), (binOp .eql 26 (.slice a n c) (.slice none n' c')).run Tryz.prog w = .ok (.bool a.isNone) w := fun w a n c n' c' => Lib.run_eql_slice_nil w _ _ a n c n' c' Tryz.underlying26
    go_enter Tryz.func34, Tryz.ntmps34
    go_wp2
    go_ret
    exact ⟨_, rfl, World.ownsRow_nil _ _ _ _, hok⟩
  | some ad =>
    obtain ⟨i, i0, i1, i2, i3⟩ := info_parts infoLeap
    have HS := Lib.hid (pairs_src15 (hA.alloc (.cells #[] 68)))
    have HR := Lib.hid (row_zero w 68 68 2 rfl)
    have HL := Lib.hid hl
    have HN := Lib.hid (show (cellsOfPairs l).length = l.length * 2 from flatMap_length _ 2 (fun _ => rfl) l)
    have H1 : Hid (∀ u ∈ cellsOfPairs l, u.oneCell' = true) := Lib.hid (by
      intro u hu
      obtain ⟨s, _, hs⟩ := List.mem_flatMap.1 hu
      simp only [List.mem_cons, List.not_mem_nil, or_false] at hs
      rcases hs with rfl | rfl <;> rfl)
    clear hA hl
    have q22 : ∀ (w : World) (a : Option Addr) (n c n' c' : Nat), (binOp .eql 26 (.slice a n c) (.slice none n' c')).run Tryz.prog w = .ok (.bool a.isNone) w := fun w a n c n' c' => Lib.run_eql_slice_nil w _ _ a n c n' c' Tryz.underlying26
    go_enter Tryz.func34, Tryz.ntmps34
    go_wp2_with (at_builtin; refine wpList_append_own _ rfl (.tmp 5) (.tmp 6) 26 rfl w.heap.size 68 i (.agg #[.int .i64 0, .int .i64 0]) 2 16 Tryz.underlying26 i0 i1 i2 i3 rfl (by decide) _ 0 [] rfl HR.out ad l.length cap (cellsOfPairs l) rfl HN.out HS.out H1.out (by have := HL.out; unfold maxLen; omega) (by have := HL.out; omega) (by simp) ?_; intro v' w' hr2 hg2 _; simp only [Nat.zero_add, List.nil_append] at hr2; have hok2 := Below.grown (hok.alloc (.cells #[] 68)) hg2 (hok.alloc (.cells #[] 68)).size (fun k hk => by cases hk; exact Nat.le_refl _); clear hg2)
    go_ret
    exact ⟨v', rfl, hr2, hok2⟩
end Go.Proofs.YtmmiboblofopgaaGreat

/- Words of my own: a region by facts (W11) whose last operations wait, each, for all ahead of it (the stores and assignments of a statement): these are run one behind the other, on the whole frame. -/
namespace Go.Proofs.YtmmiboblofopgaaGreat
open Go
section
variable {P : Program} {md : Region.Mode} {ops : Array Oper} {Q : Exit → Act → World → Prop} {V : Nat → Value → World → Prop} {R : World → World → Prop} {a0 : Act} {w0 : World}
/-- Operations one behind the other. -/
def TailFrom (P : Program) (ops : Array Oper) (Q : Exit → Act → World → Prop) : Nat → List Oper → Act → World → Prop
  | _, [], a, w => Q .normal a w
  | k, _ :: l, a, w => wpOp P ops Q k (fun a' w' => TailFrom P ops Q (k + 1) l a' w') a w
theorem wpAny_tail (hB : regionB md ops a0.tmps.size = true) : ∀ (l : List Oper) (k : Nat), ops.toList.drop k = l →
    (∀ i, k ≤ i → ∀ o, ops[i]? = some o → ∀ j, k ≤ j → j < i → ∃ e ∈ o.after, Region.binds md e = true ∧ e.on = j) →
    ∀ (fuel : Nat) (listed : Array Bool) (a : Act) (w : World), listed.size = ops.size → (∀ j, j < k → j < ops.size → listed.getD j false = true) → (∀ j, k ≤ j → listed.getD j false = false) → l.length ≤ fuel → TailFrom P ops Q k l a w → wpAny P md ops Q fuel listed a w := by
  intro l
  induction l with
  | nil =>
    intro k hd hw fuel listed a w hs h1 h2 hf hT
    have hk : ops.size ≤ k := by simpa using hd
    have hr : Region.ready md ops listed = [] := by
      apply List.eq_nil_iff_forall_not_mem.2
      intro j hj
      obtain ⟨g0, oj, hoj, _⟩ := mem_ready.1 hj
      have hjl : j < ops.size := (Array.getElem?_eq_some_iff.1 hoj).1
      have := h1 j (by omega) hjl
      have hjs : j < listed.size := by omega
      simp [Array.getD, hjs] at this g0
      rw [this] at g0
      cases g0
    cases fuel with
    | zero => exact ⟨hr, hT⟩
    | succ f => exact ⟨fun _ => hT, fun j hj => by rw [hr] at hj; cases hj⟩
  | cons o l ih =>
    intro k hd hw fuel listed a w hs h1 h2 hf hT
    have hk : k < ops.size := by
      rcases Nat.lt_or_ge k ops.size with g | g
      · exact g
      · have : ops.toList.drop k = [] := by simpa using g
        rw [this] at hd
        cases hd
    have hok : ops[k]? = some ops[k] := Array.getElem?_eq_getElem hk
    cases fuel with
    | zero => simp at hf
    | succ f =>
      refine ⟨fun hr => ?_, fun i hi => ?_⟩
      · exfalso
        have hm : k ∈ Region.ready md ops listed := by
          refine mem_ready.2 ⟨?_, ops[k], hok, fun e he hb => ?_⟩
          · have := h2 k (Nat.le_refl _)
            have hks : k < listed.size := by omega
            simp [Array.getD, hks] at this ⊢
            exact this
          · have hlt := regionB_after hB hok e he hb
            exact h1 _ hlt (by omega)
        rw [hr] at hm
        cases hm
      · obtain ⟨g0, oi, hoi, hall⟩ := mem_ready.1 hi
        have hil : i < ops.size := (Array.getElem?_eq_some_iff.1 hoi).1
        have hge : k ≤ i := by
          rcases Nat.lt_or_ge i k with g | g
          · exfalso
            have := h1 i g hil
            have his : i < listed.size := by omega
            simp [Array.getD, his] at this g0
            rw [this] at g0
            cases g0
          · exact g
        have hik : i = k := by
          rcases Nat.lt_or_ge k i with g | g
          · exfalso
            obtain ⟨e, he, hb, hon⟩ := hw i hge oi hoi k (Nat.le_refl _) g
            have := hall e he hb
            rw [hon, h2 k (Nat.le_refl _)] at this
            cases this
          · omega
        subst hik
        refine wpOp_mono (fun a' w' h' => ?_) hT
        refine ih (i + 1) ?_ (fun j hj o ho j' hj' => hw j (by omega) o ho j' (by omega)) f _ a' w' (by simpa using hs) (fun j hj hjl => ?_) (fun j hj => ?_) (by simpa using hf) h'
        · rw [← List.drop_drop, hd]
          rfl
        · by_cases e : j = i
          · subst e
            have hjs : j < listed.size := by omega
            simp [Array.getD_eq_getD_getElem?, hjs]
          · have := h1 j (by omega) hjl
            simpa [Array.getD_eq_getD_getElem?, Array.getElem?_setIfInBounds, Ne.symm e] using this
        · have e : j ≠ i := by omega
          have := h2 j (by omega)
          simpa [Array.getD_eq_getD_getElem?, Array.getElem?_setIfInBounds, Ne.symm e] using this
/-- Slots of none of the first m operations are as they were. -/
def OldM (ops : Array Oper) (m : Nat) (a0 a : Act) : Prop := ∀ k : Tmp, (∀ (j : Nat) (o : Oper), j < m → ops[j]? = some o → o.dst ≠ some k) → a.tmps[k]? = a0.tmps[k]?
theorem wpAny_facts_tail {m : Nat} (hm : m ≤ ops.size) (hw : ∀ i, m ≤ i → ∀ o, ops[i]? = some o → ∀ j, j < i → ∃ e ∈ o.after, Region.binds md e = true ∧ e.on = j) (hB : regionB md ops a0.tmps.size = true) (hV : ∀ i v w w', V i v w → R w w' → V i v w') (hT : ∀ a b c, R a b → R b c → R a c)
    (step : ∀ (i : Nat) (o : Oper) (a : Act) (w : World), i < m → ops[i]? = some o → RF ops V a0 (fun j => ∃ e ∈ o.after, Region.binds md e = true ∧ e.on = j) a w → R w0 w → wpOp P ops Q i (fun a' w' => ∃ v, a' = a.put o.dst v ∧ V i v w' ∧ R w w') a w)
    (tail : ∀ a w, RF ops V a0 (fun j => j < m) a w → OldM ops m a0 a → R w0 w → TailFrom P ops Q m (ops.toList.drop m) a w) :
    ∀ (fuel : Nat) (listed : Array Bool) (a : Act) (w : World), listed.size = ops.size → (List.range ops.size).countP (fun j => !listed.getD j false) ≤ fuel → (∀ j, m ≤ j → listed.getD j false = false) →
      RF ops V a0 (fun j => listed.getD j false = true) a w → OldM ops m a0 a → R w0 w → wpAny P md ops Q fuel listed a w := by
  intro fuel
  have full : ∀ (fuel : Nat) (listed : Array Bool) (a : Act) (w : World), listed.size = ops.size → (List.range ops.size).countP (fun j => !listed.getD j false) ≤ fuel → (∀ j, m ≤ j → listed.getD j false = false) →
      RF ops V a0 (fun j => listed.getD j false = true) a w → OldM ops m a0 a → R w0 w → (∀ j, j < m → listed.getD j false = true) → wpAny P md ops Q fuel listed a w := by
    intro fuel listed a w hs hc hun hF hO hR hall
    refine wpAny_tail hB _ m rfl (fun i hi o ho j _ => hw i hi o ho j) fuel listed a w hs (fun j hj _ => hall j hj) hun ?_ (tail a w (hF.mono fun j hj => hall j hj) hO hR)
    have h1 : (ops.toList.drop m).length = ops.size - m := by simp
    have h2 : ops.size - m ≤ (List.range ops.size).countP (fun j => !listed.getD j false) := by
      have e : List.range ops.size = List.range m ++ (List.range (ops.size - m)).map (m + ·) := by
        rw [← List.range_add]; congr 1; omega
      rw [e, List.countP_append]
      have : ((List.range (ops.size - m)).map (m + ·)).countP (fun j => !listed.getD j false) = ops.size - m := by
        have hh : ∀ x ∈ (List.range (ops.size - m)).map (m + ·), (fun j => !listed.getD j false) x = true := by
          intro x hx
          obtain ⟨y, _, rfl⟩ := List.mem_map.1 hx
          simp only [hun (m + y) (by omega), Bool.not_false]
        rw [List.countP_eq_length.2 hh]
        simp
      omega
    omega
  induction fuel with
  | zero =>
    intro listed a w hs hc hun hF hO hR
    refine full 0 listed a w hs hc hun hF hO hR fun j hj => ?_
    have hz : (List.range ops.size).countP (fun j => !listed.getD j false) = 0 := by omega
    have := List.countP_eq_zero.1 hz j (List.mem_range.2 (by omega))
    simpa using this
  | succ fuel ih =>
    intro listed a w hs hc hun hF hO hR
    by_cases hall : ∀ j, j < m → listed.getD j false = true
    · exact full (fuel + 1) listed a w hs hc hun hF hO hR hall
    refine ⟨fun hr => ?_, fun i hi => ?_⟩
    · exact absurd (fun j hj => ready_some hB hs hr j (by omega)) hall
    obtain ⟨h0, o, ho, hrd⟩ := mem_ready.1 hi
    have hlt : i < ops.size := (Array.getElem?_eq_some_iff.1 ho).1
    have hls : i < listed.size := by omega
    have huni : listed.getD i false = false := by simp [Array.getD, hls] at h0 ⊢; exact h0
    have hcl := count_less (listed := listed) (i := i) (n := ops.size) hls huni hlt
    have him : i < m := by
      rcases Nat.lt_or_ge i m with g | g
      · exact g
      · exfalso
        refine hall fun j hj => ?_
        obtain ⟨e, he, hb, rfl⟩ := hw i g o ho j (by omega)
        exact hrd e he hb
    have hst := step i o a w him ho (hF.mono (by rintro j ⟨e, he, hb, rfl⟩; exact hrd e he hb)) hR
    refine wpOp_mono (fun a' w' h' => ?_) hst
    obtain ⟨v, rfl, hv, hR'⟩ := h'
    refine ih (listed.setIfInBounds i true) _ w' (by simpa using hs) (by omega) (fun j hj => ?_) ((hF.step hB hV ho hv hR').mono ?_) (fun k hk => by rw [put_other (hk i o him ho)]; exact hO k hk) (hT _ _ _ hR hR')
    · have e : j ≠ i := by omega
      simpa [Array.getD_eq_getD_getElem?, Array.getElem?_setIfInBounds, Ne.symm e] using hun j hj
    · intro j hj
      by_cases e : j = i
      · exact .inr e
      · left
        simpa [Array.getD_eq_getD_getElem?, Array.getElem?_setIfInBounds, Ne.symm e] using hj
/-- **A region that draws its order, by facts; its last operations, which wait for all ahead of them, are run one behind the other on the whole frame.** -/
theorem wp_region_facts_tail {id : Nat} {a : Act} {w : World} (hm : P.follows .mixedOrders = true) (n : Nat) (hn : a.tmps.size = n) (V : Nat → Value → World → Prop) (R : World → World → Prop) (ini : Array Oper) (m : Nat) (hini : ops.extract 0 m = ini) (hmi : ini.size = m) (hsz : m ≤ ops.size)
    (hre : ((List.range ops.size).all fun i => decide (i < m) || (ops[i]?.map fun o => (List.range i).all fun j => o.after.any fun e => Region.binds .any e && e.on == j).getD true) = true) (hB : regionB .any ops n = true) (hBi : regionB .any ini n = true)
    (hV : ∀ i v w w', V i v w → R w w' → V i v w') (hT : ∀ a b c, R a b → R b c → R a c) (h0 : R w.drew w.drew) (ds : List (Option Tmp)) (hds : dsts ini = ds) (tl : List Oper) (htl : ops.toList.drop m = tl)
    (steps : StepsFrom P ops Q V R a w.drew 0 ini.toList)
    (last : ∀ (vs : Nat → Value) (w' : World), (∀ i, i < m → V i (vs i) w') → R w.drew w' → TailFrom P ops Q m tl (putFrom vs 0 ds a) w') : (Code.region id ops true).wp P Q a w := by
  subst hn hds htl
  refine wp_region_any hm ?_
  have hex : ∀ i o, i < m → ops[i]? = some o → ini[i]? = some o := fun i o hi ho => by
    rw [← hini, Array.getElem?_extract]
    simp only [Nat.zero_add]
    rw [if_pos (by omega)]
    exact ho
  have hex' : ∀ i o, ini[i]? = some o → ops[i]? = some o ∧ i < m := fun i o ho => by
    have hi : i < ini.size := (Array.getElem?_eq_some_iff.1 ho).1
    rw [hmi] at hi
    rw [← hini, Array.getElem?_extract] at ho
    simp only [Nat.zero_add] at ho
    rw [if_pos (by omega)] at ho
    exact ⟨ho, hi⟩
  have hw : ∀ i, m ≤ i → ∀ o, ops[i]? = some o → ∀ j, j < i → ∃ e ∈ o.after, Region.binds .any e = true ∧ e.on = j := fun i hi o ho j hj => by
    have hil : i < ops.size := (Array.getElem?_eq_some_iff.1 ho).1
    have h1 := List.all_eq_true.1 hre i (List.mem_range.2 hil)
    rw [ho] at h1
    simp only [Option.map_some, Option.getD_some, Bool.or_eq_true, decide_eq_true_eq] at h1
    rcases h1 with h1 | h1
    · omega
    · have h2 := List.all_eq_true.1 h1 j (List.mem_range.2 hj)
      obtain ⟨e, he, hb⟩ := Array.any_eq_true'.1 h2
      simp only [Bool.and_eq_true, beq_iff_eq] at hb
      exact ⟨e, he, hb.1, hb.2⟩
  refine wpAny_facts_tail (a0 := a) (w0 := w.drew) (m := m) hsz hw hB hV hT (fun i o a' w' hi ho hF hR => ?_) (fun a' w' hF hO hR => ?_) _ _ _ _ (by simp) ?_ (fun j _ => ?_) ⟨fun j o hj _ => ?_, fun _ _ => rfl, rfl, rfl⟩ (fun _ _ => rfl) h0
  · have := StepsFrom.at_ ini.toList 0 i o steps (by rw [Array.getElem?_toList]; exact hex i o hi ho) a' w' hF hR
    rw [Nat.zero_add] at this
    exact this
  · have hF' : RF ini V a (fun j => j < ini.size) a' w' := by
      refine ⟨fun j o hj hoj => hF.at_ j o (by omega) (hex' j o hoj).1, fun k hk => hO k fun j o hj hoj => hk j o (hex j o hj hoj), hF.size, hF.defers⟩
    obtain ⟨vs, hvs, rfl⟩ := hF'.frame hBi
    exact last vs w' (fun i hi => hvs i (by omega)) hR
  · have := List.countP_le_length (p := fun j => !(Array.replicate ops.size false).getD j false) (l := List.range ops.size)
    simpa using this
  · rw [Array.getD_eq_getD_getElem?, Array.getElem?_replicate]
    split <;> rfl
  · rw [Array.getD_eq_getD_getElem?, Array.getElem?_replicate] at hj
    split at hj <;> cases hj
/-- An operation of the tail that leaves a value. -/
theorem wpOp_leaves {i : Nat} {o : Oper} {K : Act → World → Prop} {a : Act} {w w' : World} {v : Value} (ho : ops[i]? = some o) (hg : o.guard = none) (hr : (execOp a.eval o).run P w = .ok (.value v) w') (hK : K (a.put o.dst v) w') : wpOp P ops Q i K a w := by
  refine wpOp_step ho fun K' h => ?_
  rw [if_pos (by simp [Region.wanted, hg])]
  unfold Oper.wp
  rw [hr, Oper.upon_value]
  exact h _ _ hK
theorem wpAny_only {i fuel : Nat} {listed : Array Bool} {a : Act} {w : World} (hi : i ∈ Region.ready md ops listed) (honly : ∀ j ∈ Region.ready md ops listed, j = i) (h : wpOp P ops Q i (fun a' w' => wpAny P md ops Q fuel (listed.setIfInBounds i true) a' w') a w) : wpAny P md ops Q (fuel + 1) listed a w :=
  ⟨fun hr => by (rw [hr] at hi; cases hi), fun j hj => by (obtain rfl := honly j hj; exact h)⟩
theorem ready_iff {listed : Array Bool} (hs : listed.size = ops.size) {i : Nat} : i ∈ Region.ready md ops listed ↔ listed.getD i false = false ∧ ∃ o, ops[i]? = some o ∧ ∀ e ∈ o.after, Region.binds md e = true → listed.getD e.on false = true := by
  constructor
  · intro hi
    obtain ⟨h0, o, ho, hall⟩ := mem_ready.1 hi
    have hlt : i < ops.size := (Array.getElem?_eq_some_iff.1 ho).1
    have hls : i < listed.size := by omega
    refine ⟨?_, o, ho, hall⟩
    simp [Array.getD, hls] at h0 ⊢
    exact h0
  · rintro ⟨h0, o, ho, hall⟩
    have hlt : i < ops.size := (Array.getElem?_eq_some_iff.1 ho).1
    have hls : i < listed.size := by omega
    refine mem_ready.2 ⟨?_, o, ho, hall⟩
    simp [Array.getD, hls] at h0 ⊢
    exact h0
theorem getD_set {listed : Array Bool} {i j : Nat} (hi : i < listed.size) : (listed.setIfInBounds i true).getD j false = (if j = i then true else listed.getD j false) := by
  by_cases e : j = i
  · subst e
    simp [Array.getD_eq_getD_getElem?, hi]
  · simp [Array.getD_eq_getD_getElem?, Ne.symm e, e]
/-- Slots of none of the first m operations but f are as they were. -/
def OldF (ops : Array Oper) (m f : Nat) (a0 a : Act) : Prop := ∀ k : Tmp, (∀ (j : Nat) (o : Oper), j < m → j ≠ f → ops[j]? = some o → o.dst ≠ some k) → a.tmps[k]? = a0.tmps[k]?
theorem wpAny_facts_float {m f : Nat} (hsz : ops.size = m + 2) (hfm : f < m) {om o1 : Oper} (hom : ops[m]? = some om) (ho1 : ops[m + 1]? = some o1)
    (hwm : ∀ j, j < m → j ≠ f → ∃ e ∈ om.after, Region.binds md e = true ∧ e.on = j) (hw1 : ∀ j, j < m + 1 → ∃ e ∈ o1.after, Region.binds md e = true ∧ e.on = j)
    (hB : regionB md ops a0.tmps.size = true) (hV : ∀ i v w w', V i v w → R w w' → V i v w') (hT : ∀ a b c, R a b → R b c → R a c)
    (step : ∀ (i : Nat) (o : Oper) (a : Act) (w : World), i < m → ops[i]? = some o → RF ops V a0 (fun j => ∃ e ∈ o.after, Region.binds md e = true ∧ e.on = j) a w → R w0 w → wpOp P ops Q i (fun a' w' => ∃ v, a' = a.put o.dst v ∧ V i v w' ∧ R w w') a w)
    (tailA : ∀ a w, RF ops V a0 (fun j => j < m) a w → OldM ops m a0 a → R w0 w → wpOp P ops Q m (fun a' w' => wpOp P ops Q (m + 1) (fun a'' w'' => Q .normal a'' w'') a' w') a w)
    (tailB : ∀ a w, RF ops V a0 (fun j => j < m ∧ j ≠ f) a w → OldF ops m f a0 a → R w0 w → wpOp P ops Q m (fun a' w' => wpOp P ops Q f (fun a'' w'' => wpOp P ops Q (m + 1) (fun a3 w3 => Q .normal a3 w3) a'' w'') a' w') a w) :
    ∀ (fuel : Nat) (listed : Array Bool) (a : Act) (w : World), listed.size = ops.size → (List.range ops.size).countP (fun j => !listed.getD j false) ≤ fuel → (∀ j, m ≤ j → listed.getD j false = false) →
      RF ops V a0 (fun j => listed.getD j false = true) a w → OldM ops m a0 a → (listed.getD f false = false → OldF ops m f a0 a) → R w0 w → wpAny P md ops Q fuel listed a w := by
  have count2 : ∀ (listed : Array Bool), (∀ j, m ≤ j → listed.getD j false = false) → 2 ≤ (List.range ops.size).countP (fun j => !listed.getD j false) := by
    intro listed hun
    rw [hsz, List.range_succ, List.range_succ, List.countP_append, List.countP_append]
    have e1 : List.countP (fun j => !listed.getD j false) [m] = 1 := by rw [List.countP_singleton, hun m (Nat.le_refl _)]; rfl
    have e2 : List.countP (fun j => !listed.getD j false) [m + 1] = 1 := by rw [List.countP_singleton, hun (m + 1) (by omega)]; rfl
    omega
  intro fuel
  have full : ∀ (fuel : Nat) (listed : Array Bool) (a : Act) (w : World), listed.size = ops.size → (List.range ops.size).countP (fun j => !listed.getD j false) ≤ fuel → (∀ j, m ≤ j → listed.getD j false = false) →
      RF ops V a0 (fun j => listed.getD j false = true) a w → OldM ops m a0 a → R w0 w → (∀ j, j < m → listed.getD j false = true) → wpAny P md ops Q fuel listed a w := by
    intro fuel listed a w hs hc hun hF hO hR hall
    have hd : ops.toList.drop m = [om, o1] := by
      apply List.ext_getElem?
      intro j
      rw [List.getElem?_drop, Array.getElem?_toList]
      match j with
      | 0 => exact hom
      | 1 => exact ho1
      | j + 2 => rw [Array.getElem?_eq_none (by omega)]; rfl
    refine wpAny_tail hB [om, o1] m hd (fun i hi o ho j hj hji => ?_) fuel listed a w hs (fun j hj _ => hall j hj) hun ?_ (tailA a w (hF.mono fun j hj => hall j hj) hO hR)
    · have hil : i < ops.size := (Array.getElem?_eq_some_iff.1 ho).1
      obtain rfl : i = m + 1 := by omega
      rw [ho1] at ho
      cases ho
      exact hw1 j hji
    · have := count2 listed hun
      show 2 ≤ fuel
      omega
  induction fuel with
  | zero =>
    intro listed a w hs hc hun hF hO hO2 hR
    have := count2 listed hun
    omega
  | succ fuel ih =>
    intro listed a w hs hc hun hF hO hO2 hR
    by_cases hall : ∀ j, j < m → listed.getD j false = true
    · exact full (fuel + 1) listed a w hs hc hun hF hO hR hall
    refine ⟨fun hr => ?_, fun i hi => ?_⟩
    · exact absurd (fun j hj => ready_some hB hs hr j (by omega)) hall
    obtain ⟨huni, o, ho, hrd⟩ := (ready_iff hs).1 hi
    have hlt : i < ops.size := (Array.getElem?_eq_some_iff.1 ho).1
    have hls : i < listed.size := by omega
    have hcl := count_less (listed := listed) (i := i) (n := ops.size) hls huni hlt
    by_cases him : i < m
    · have hst := step i o a w him ho (hF.mono (by rintro j ⟨e, he, hb, rfl⟩; exact hrd e he hb)) hR
      refine wpOp_mono (fun a' w' h' => ?_) hst
      obtain ⟨v, rfl, hv, hR'⟩ := h'
      refine ih (listed.setIfInBounds i true) _ w' (by simpa using hs) (by omega) (fun j hj => ?_) ((hF.step hB hV ho hv hR').mono ?_) (fun k hk => by rw [put_other (hk i o him ho)]; exact hO k hk) (fun hnf k hk => ?_) (hT _ _ _ hR hR')
      · rw [getD_set hls, if_neg (by omega)]
        exact hun j hj
      · intro j hj
        rw [getD_set hls] at hj
        by_cases e : j = i
        · exact .inr e
        · left
          rwa [if_neg e] at hj
      · rw [getD_set hls] at hnf
        have e : f ≠ i := by rintro rfl; simp at hnf
        rw [if_neg e] at hnf
        rw [put_other (hk i o him (Ne.symm e) ho)]
        exact hO2 hnf k hk
    · have him1 : i = m := by
        rcases Nat.lt_or_ge m i with g | g
        · exfalso
          obtain rfl : i = m + 1 := by omega
          rw [ho1] at ho
          cases ho
          obtain ⟨e, he, hb, hon⟩ := hw1 m (by omega)
          have := hrd e he hb
          rw [hon, hun m (Nat.le_refl _)] at this
          cases this
        · omega
      subst him1
      rw [hom] at ho
      cases ho
      have hoth : ∀ j, j < i → j ≠ f → listed.getD j false = true := fun j hj hjf => by
        obtain ⟨e, he, hb, rfl⟩ := hwm j hj hjf
        exact hrd e he hb
      have hnf : listed.getD f false = false := by
        cases hfl : listed.getD f false with
        | false => rfl
        | true =>
          exfalso
          refine hall fun j hj => ?_
          by_cases e : j = f
          · subst e; exact hfl
          · exact hoth j hj e
      have hc2 : 2 ≤ fuel := by
        have := count2 (listed.setIfInBounds f true) (fun j hj => by rw [getD_set (by omega), if_neg (by omega)]; exact hun j hj)
        have h3 := count_less (listed := listed) (i := f) (n := ops.size) (by omega) hnf (by omega)
        omega
      obtain ⟨fu, rfl⟩ : ∃ fu, fuel = fu + 2 := ⟨fuel - 2, by omega⟩
      refine wpOp_mono (fun a' w' h' => ?_) (tailB a w (hF.mono fun j hj => hoth j hj.1 hj.2) (hO2 hnf) hR)
      have hs1 : (listed.setIfInBounds i true).size = ops.size := by simpa using hs
      have hff : ops[f]? = some ops[f] := Array.getElem?_eq_getElem (by omega)
      have r1 : f ∈ Region.ready md ops (listed.setIfInBounds i true) := by
        refine (ready_iff hs1).2 ⟨?_, ops[f], hff, fun e he hb => ?_⟩
        · rw [getD_set hls, if_neg (by omega)]
          exact hnf
        · have hlf := regionB_after hB hff e he hb
          rw [getD_set hls, if_neg (by omega)]
          exact hoth _ (by omega) (by omega)
      refine wpAny_only r1 (fun j hj => ?_) (wpOp_mono (fun a2 w2 h2 => ?_) h')
      · obtain ⟨g0, oj, hoj, hall'⟩ := (ready_iff hs1).1 hj
        have hjl : j < ops.size := (Array.getElem?_eq_some_iff.1 hoj).1
        rw [getD_set hls] at g0
        by_cases e : j = i
        · rw [if_pos e] at g0; cases g0
        · rw [if_neg e] at g0
          rcases Nat.lt_or_ge j i with g | g
          · rcases Nat.decEq j f with h | h
            · have := hoth j g h
              rw [this] at g0; cases g0
            · exact h
          · exfalso
            obtain rfl : j = i + 1 := by omega
            rw [ho1] at hoj
            cases hoj
            obtain ⟨e', he', hb', hon'⟩ := hw1 f (by omega)
            have := hall' e' he' hb'
            rw [hon', getD_set hls, if_neg (by omega), hnf] at this
            cases this
      · have hs2 : ((listed.setIfInBounds i true).setIfInBounds f true).size = ops.size := by simpa using hs
        have hlf : f < (listed.setIfInBounds i true).size := by omega
        have st : ∀ j, j < i + 1 → ((listed.setIfInBounds i true).setIfInBounds f true).getD j false = true := fun j hj => by
          rw [getD_set hlf]
          by_cases e : j = f
          · rw [if_pos e]
          · rw [if_neg e, getD_set hls]
            by_cases e2 : j = i
            · rw [if_pos e2]
            · rw [if_neg e2]
              exact hoth j (by omega) e
        have sn : ((listed.setIfInBounds i true).setIfInBounds f true).getD (i + 1) false = false := by
          rw [getD_set hlf, if_neg (by omega), getD_set hls, if_neg (by omega)]
          exact hun _ (by omega)
        have r2 : i + 1 ∈ Region.ready md ops ((listed.setIfInBounds i true).setIfInBounds f true) := by
          refine (ready_iff hs2).2 ⟨sn, o1, ho1, fun e he hb => ?_⟩
          have hlf2 := regionB_after hB ho1 e he hb
          exact st _ hlf2
        refine wpAny_only r2 (fun j hj => ?_) (wpOp_mono (fun a3 w3 h3 => ?_) h2)
        · obtain ⟨g0, oj, hoj, _⟩ := (ready_iff hs2).1 hj
          have hjl : j < ops.size := (Array.getElem?_eq_some_iff.1 hoj).1
          rcases Nat.lt_or_ge j (i + 1) with g | g
          · rw [st j g] at g0; cases g0
          · omega
        · have hlo : i + 1 < ((listed.setIfInBounds i true).setIfInBounds f true).size := by omega
          have hr : Region.ready md ops (((listed.setIfInBounds i true).setIfInBounds f true).setIfInBounds (i + 1) true) = [] := by
            apply List.eq_nil_iff_forall_not_mem.2
            intro j hj
            obtain ⟨g0, oj, hoj, _⟩ := (ready_iff (by simpa using hs)).1 hj
            have hjl : j < ops.size := (Array.getElem?_eq_some_iff.1 hoj).1
            rw [getD_set hlo] at g0
            by_cases e : j = i + 1
            · rw [if_pos e] at g0; cases g0
            · rw [if_neg e, st j (by omega)] at g0; cases g0
          cases fu with
          | zero => exact ⟨hr, h3⟩
          | succ f3 => exact ⟨fun _ => h3, fun j hj => by (rw [hr] at hj; cases hj)⟩
end
end Go.Proofs.YtmmiboblofopgaaGreat
