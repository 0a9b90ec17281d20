/- Words of my own: a block of one's own that holds a row of integers (a struct), whole: read, and kept. -/
import Derived.Test.YtmokofblmkeloaaGreatDoorB00
import Derived.Laws.AppendOwn
import Derived.Laws.OwnMore
import Derived.OwnWalk
import Derived.ChangeArms
namespace Go.Proofs.YtmokofblmkeloaaGreatDoor
open Go.RowKit Go.WideShapes Go.ChangeShapes Go.Joins Go.Deep
/-- The block g holds the values cs, whole. -/
structure Own (w : World) (g : Nat) (cs : Array Value) : Prop where
  blk : ∃ t, w.heap[g]? = some (.cells cs t (0, 0))
namespace Own
theorem new (w : World) (cs : Array Value) (t : TypeId) {g : Nat} (hg : g = w.heap.size) : Own (w.alloc (.cells cs t)) g cs := ⟨t, by subst hg; exact (MapKept.heap_alloc w _).1⟩
theorem lt {w : World} {g : Nat} {cs : Array Value} (h : Own w g cs) : g < w.heap.size := by
  obtain ⟨t, h⟩ := h
  exact (Array.getElem?_eq_some_iff.1 h).1
theorem next {w w1 : World} {g : Nat} {cs : Array Value} (h : Own w g cs) (k : Ok w w1) : Own w1 g cs := by
  have hl := h.lt
  obtain ⟨t, h⟩ := h
  exact ⟨t, (k.block g hl).trans h⟩
theorem alloc {w : World} {g : Nat} {cs : Array Value} (h : Own w g cs) (o : Obj) : Own (w.alloc o) g cs := h.next ((Ok.refl w).alloc o)
theorem drew {w : World} {g : Nat} {cs : Array Value} (h : Own w g cs) : Own w.drew g cs := ⟨h.blk⟩
theorem drewN {w : World} {g : Nat} {cs : Array Value} (h : Own w g cs) (n : Nat) : Own (w.drewN n) g cs := h.next ((Ok.refl w).drewN n)
theorem cell {w : World} {g : Nat} {cs : Array Value} (h : Own w g cs) (k : Nat) {v : Value} (hv : cs[k]? = some v) : w.cell? ⟨g, k, none⟩ = some v := by
  obtain ⟨t, h⟩ := h
  simp only [World.cell?, h]; exact hv
theorem frozen {w : World} {g : Nat} {cs : Array Value} (h : Own w g cs) (k : Nat) : w.frozen? ⟨g, k, none⟩ = false := by
  obtain ⟨t, h⟩ := h
  simp only [World.frozen?, h]; simp
theorem setOther {w : World} {g : Nat} {cs : Array Value} (h : Own w g cs) {a : Addr} (ha : g ≠ a.block) (v : Value) : Own (w.setCell a v) g cs := by
  obtain ⟨t, h⟩ := h
  exact ⟨t, (Below.heap_setCell w a v g ha).trans h⟩
theorem set {w : World} {g : Nat} {cs : Array Value} (h : Own w g cs) (k : Nat) (v : Value) : Own (w.setCell ⟨g, k, none⟩ v) g (cs.set! k v) := by
  obtain ⟨t, h⟩ := h
  refine ⟨t, ?_⟩
  simp only [World.setCell, Array.getElem?_modify, h, if_true, Option.map_some]
  rfl
end Own
end Go.Proofs.YtmokofblmkeloaaGreatDoor

/- Words of my own: a slice of structs, read as the row of their cells; what came in as one; append of such a row to one of one's own. -/
namespace Go.Proofs.YtmokofblmkeloaaGreatDoor
open Go.RowKit Go.WideShapes Go.ChangeShapes Go.Joins Go.Deep
/-- The slice with address A reads, in world w, as these cells. -/
def CellsAt (w : World) (A : Option Addr) (cs : List Value) : Prop :=
  ∀ j u, cs[j]? = some u → ∃ b off, A = some ⟨b, off, none⟩ ∧ b < w.heap.size ∧ w.cell? ⟨b, off + j, none⟩ = some u
namespace CellsAt
theorem empty (w : World) (A : Option Addr) : CellsAt w A [] := fun j u h => by simp at h
theorem below {w w' : World} {A : Option Addr} {cs : List Value} (h : CellsAt w A cs) (hb : Ok w w') : CellsAt w' A cs := fun j u hj => by
  obtain ⟨b, off, hA, hlt, hc⟩ := h j u hj
  exact ⟨b, off, hA, Nat.lt_of_lt_of_le hlt hb.size, (Below.cell hb (p := ⟨b, off + j, none⟩) hlt).trans hc⟩
theorem alloc {w : World} {A : Option Addr} {cs : List Value} (h : CellsAt w A cs) (o : Obj) : CellsAt (w.alloc o) A cs := h.below (below_alloc w o)
theorem drew {w : World} {A : Option Addr} {cs : List Value} (h : CellsAt w A cs) : CellsAt w.drew A cs := h.below (Ok.refl w).drew
/-- A slice that is written down: a new block. -/
theorem new (w : World) (t : TypeId) (cs : Array Value) {l : List Value} (h : cs.toList = l) {b : Nat} (hb : b = w.heap.size) : CellsAt (w.alloc (.cells cs t)) (some ⟨b, 0, none⟩) l := by
  subst hb
  subst h
  intro j u hj
  have e2 : (w.alloc (.cells cs t)).heap[w.heap.size]? = some (.cells cs t) := (MapKept.heap_alloc w _).1
  rw [Array.getElem?_toList] at hj
  refine ⟨w.heap.size, 0, rfl, by simp, ?_⟩
  simp only [World.cell?, e2, Nat.zero_add]; exact hj
/-- A row of the call's own reads as what it holds. -/
theorem of_own {w : World} {B : Nat} {e : TypeId} {k n : Nat} {v : Value} {cs : List Value} (h : w.ownsRow B e k v n cs) (hn : n * k = cs.length) (_hk : 0 < k) : ∃ A cap, v = .slice A n cap ∧ CellsAt w A cs := by
  rcases h.2 with ⟨rfl, hx⟩ | ⟨g, cap, cur, rfl, hb, hh, r⟩
  · subst hx
    have : cs = [] := List.length_eq_zero_iff.1 (by omega)
    subst this
    exact ⟨none, 0, rfl, empty _ _⟩
  · refine ⟨some ⟨g, 0, none⟩, cap, rfl, fun j u hj => ⟨g, 0, rfl, (Array.getElem?_eq_some_iff.1 hh).1, ?_⟩⟩
    have := h.cells (g := g) rfl j u hj
    rwa [Go.WideShapes.add_plain] at this
theorem take {w : World} {A : Option Addr} {cs : List Value} (h : CellsAt w A cs) (n : Nat) : CellsAt w A (cs.take n) := fun j u hj => by
  rw [List.getElem?_take] at hj
  split at hj
  · exact h j u hj
  · simp at hj
theorem drop {w : World} {b off : Nat} {cs : List Value} (h : CellsAt w (some ⟨b, off, none⟩) cs) (n : Nat) : CellsAt w (some ⟨b, off + n, none⟩) (cs.drop n) := fun j u hj => by
  rw [List.getElem?_drop] at hj
  obtain ⟨b', off', e, hlt, hc⟩ := h (n + j) u hj
  cases e
  exact ⟨b, off + n, rfl, hlt, by rw [Nat.add_assoc]; exact hc⟩
end CellsAt
theorem flatMap_length {α : Type} (f : α → List Value) (n : Nat) (hf : ∀ x, (f x).length = n) (l : List α) : (l.flatMap f).length = l.length * n := by
  induction l with
  | nil => simp
  | cons x l ih => rw [List.flatMap_cons, List.length_append, ih, hf, List.length_cons, Nat.add_mul, Nat.one_mul, Nat.add_comm]
theorem flatMap_at {α : Type} (f : α → List Value) (n : Nat) (hf : ∀ x, (f x).length = n) : ∀ (l : List α) (k : Nat) (h : k < l.length) (j : Nat) (u : Value), (f l[k])[j]? = some u → (l.flatMap f)[k * n + j]? = some u
  | [], k, h, _, _, _ => absurd h (Nat.not_lt_zero k)
  | x :: l, 0, _, j, u, hj => by
    have : j < (f x).length := (List.getElem?_eq_some_iff.1 hj).1
    rw [List.flatMap_cons, Nat.zero_mul, Nat.zero_add, List.getElem?_append_left this]
    exact hj
  | x :: l, k + 1, h, j, u, hj => by
    rw [List.flatMap_cons, List.getElem?_append_right (by rw [hf, Nat.add_mul]; omega), hf, show (k + 1) * n + j - n = k * n + j by rw [Nat.add_mul]; omega]
    exact flatMap_at f n hf l k (by simpa using h) j u hj
/-- The k-th struct of a slice of structs. -/
theorem CellsAt.at {α : Type} {w : World} {A : Option Addr} {f : α → List Value} {l : List α} (h : CellsAt w A (l.flatMap f)) {n : Nat} (hf : ∀ x, (f x).length = n) (hn : 0 < n) (k : Nat) (hk : k < l.length) :
    ∃ b off, A = some ⟨b, off, none⟩ ∧ b < w.heap.size ∧ ∀ j u, (f l[k])[j]? = some u → w.cell? ⟨b, off + k * n + j, none⟩ = some u := by
  have h0 : 0 < (f l[k]).length := by rw [hf]; exact hn
  obtain ⟨b, off, e, hlt, _⟩ := h _ _ (flatMap_at f n hf l k hk 0 _ (List.getElem?_eq_getElem h0))
  refine ⟨b, off, e, hlt, fun j u hj => ?_⟩
  obtain ⟨b', off', e', _, hc⟩ := h _ _ (flatMap_at f n hf l k hk j u hj)
  rw [e] at e'
  cases e'
  rw [Nat.add_assoc]
  exact hc
/-- What a field may be. -/
inductive Kind where
  | int | bool | str
def Kind.type (P : Program) (t : TypeId) : Option Kind :=
  match P.underlying t with
  | some (.int .i64) => some .int
  | some .bool => some .bool
  | some .string => some .str
  | _ => none
def Kind.ok : Kind → Value → Prop
  | .int, v => ∃ z : Int, v = .int .i64 z ∧ (Lit.int .i64 z).wf = true
  | .bool, v => ∃ b : Bool, v = .bool b
  | .str, v => ∃ s : ByteArray, v = .string s ∧ s.size ≤ maxLen
def Kind.rows : List Kind → List Value → Prop
  | [], [] => True
  | k :: ks, v :: vs => k.ok v ∧ Kind.rows ks vs
  | _, _ => False
theorem Kind.rows_of : ∀ (ks : List Kind) (vs : List Value), vs.length = ks.length → (∀ (j : Nat) (k : Kind) (v : Value), ks[j]? = some k → vs[j]? = some v → k.ok v) → Kind.rows ks vs
  | [], [], _, _ => trivial
  | k :: ks, v :: vs, hl, h => ⟨h 0 k v rfl rfl, Kind.rows_of ks vs (by simpa using hl) fun j k' v' h1 h2 => h (j + 1) k' v' (by simpa using h1) (by simpa using h2)⟩
  | [], _ :: _, hl, _ => by simp at hl
  | _ :: _, [], hl, _ => by simp at hl
theorem flatMap_inv {α : Type} (f : α → List Value) (n : Nat) (hf : ∀ x, (f x).length = n) (hn : 0 < n) (l : List α) (j : Nat) (u : Value) (h : (l.flatMap f)[j]? = some u) : ∃ (k : Nat) (hk : k < l.length), k = j / n ∧ (f l[k])[j % n]? = some u := by
  have hlt : j < l.length * n := by rw [← flatMap_length f n hf]; exact (List.getElem?_eq_some_iff.1 h).1
  have hk : j / n < l.length := Nat.div_lt_of_lt_mul (by rw [Nat.mul_comm]; exact hlt)
  have hj : j % n < (f l[j / n]).length := by rw [hf]; exact Nat.mod_lt _ hn
  refine ⟨j / n, hk, rfl, ?_⟩
  have := flatMap_at f n hf l (j / n) hk (j % n) _ (List.getElem?_eq_getElem hj)
  rw [Nat.div_add_mod'] at this
  rw [this] at h
  cases h
  exact List.getElem?_eq_getElem hj
section
variable {H : Type} {enc : TypeId × Value → H} {P : Program} {w : World} {base : Nat}
/-- A slice of structs of ints, bools and strings that came in. -/
theorem open_slice_rows {α : Type} (f : α → List Value) (p : α → Prop) (ks : List Kind) (hks : ∀ x, (f x).length = ks.length) (hp : ∀ r, Kind.rows ks r → ∃ x, r = f x ∧ p x) (hk0 : 0 < ks.length)
    {t e : TypeId} {fs : Array Field} {v : Value} {d : DataW H} {ps : List MemPlace} (ht : P.underlying t = some (.slice e)) (he : P.underlying e = some (.struct fs)) (hone : oneCellFields P fs = true) (hC : P.cellsOf e = ks.length)
    (hty : fs.toList.map (fun x => Kind.type P x.type) = ks.map some) (hv : Value.okWide P w .any base t v) (h : DataW.Trod enc P w 0 (fun _ => true) true t v d ps) :
    ∃ (A : Option Addr) (l : List α) (cap : Nat), v = .slice A l.length cap ∧ CellsAt w A (l.flatMap f) ∧ l.length ≤ 9223372036854775807 ∧ ∀ x ∈ l, p x := by
  obtain ⟨a0, len, cap, rfl⟩ := okWide_slice ht hv
  obtain ⟨fuel, hf⟩ := h
  have hfs : fs.size = ks.length := by simpa using congrArg List.length hty
  rcases open_slice ht hf with h2 | ⟨a, len', cap', m, n, D, Pl, hcs, hb, hl, hm, hmm, hx, hi⟩
  · simp [Value.cells] at h2
    obtain ⟨⟨rfl, rfl, rfl⟩, -⟩ := h2
    exact ⟨none, [], 0, rfl, CellsAt.empty _ _, by simp, by simp⟩
  · simp [Value.cells] at hcs
    obtain ⟨rfl, rfl, rfl⟩ := hcs
    simp only [if_true] at hmm
    subst hmm
    have key : ∀ i, i < len → ∃ x, p x ∧ ∀ j u, (f x)[j]? = some u → w.cell? (a.add (i * ks.length + j)) = some u := by
      intro i hlt
      obtain ⟨cs', hc, ht'⟩ := hi i (by omega)
      rw [hC] at hc
      obtain ⟨ys, n', hn', hy, hlen, hyl, hfl⟩ := DataW.trod_struct he ht'
      obtain ⟨hcl0, hcl, hat⟩ := World.cells?_some hc
      have hrow : Kind.rows ks cs' := by
        refine Kind.rows_of ks cs' hcl fun j k v hk hv => ?_
        have hj : j < ks.length := (List.getElem?_eq_some_iff.1 hk).1
        have hjf : j < fs.size := by omega
        have hf0 : fs[j]? = some fs[j] := Array.getElem?_eq_getElem hjf
        obtain ⟨ho, hk1⟩ := hone_of hone j fs[j] hf0
        have h1 := hfl j fs[j] hf0
        rw [ho, hk1] at h1
        have hv' : cs'[j]'(by omega) = v := by
          have := List.getElem?_eq_getElem (l := cs') (i := j) (by omega)
          rw [this] at hv
          exact Option.some.inj hv
        have e1 : (cs'.drop j).take 1 = [v] := by
          rw [List.drop_eq_getElem_cons (by omega), hv']
          rfl
        have hjs : j < ys.length := by rw [hyl]; exact hjf
        rw [e1, List.getElem?_eq_getElem hjs] at h1
        have h3 : Kind.type P fs[j].type = some k := by
          have h4 := congrArg (fun l => l[j]?) hty
          simp only [List.getElem?_map, hk, Option.map_some] at h4
          rw [Array.getElem?_toList, hf0] at h4
          simpa using h4
        unfold Kind.type at h3
        split at h3
        · rename_i hu
          cases h3
          obtain ⟨z, h5, _, h6⟩ := DataW.trod_int hu h1
          exact ⟨z, by simpa using h5, h6⟩
        · rename_i hu
          cases h3
          obtain ⟨z, h5, _⟩ := DataW.trod_bool hu h1
          exact ⟨z, by simpa using h5⟩
        · rename_i hu
          cases h3
          obtain ⟨z, h5, _, h6⟩ := DataW.trod_string hu h1
          exact ⟨z, by simpa using h5, h6⟩
        · cases h3
      obtain ⟨x, rfl, hpx⟩ := hp cs' hrow
      refine ⟨x, hpx, fun j u hj => ?_⟩
      have hjl : j < (f x).length := (List.getElem?_eq_some_iff.1 hj).1
      have := hat j (by omega)
      rw [← Go.Deep.add_add, this]
      exact hj
    have key' : ∀ i : Fin len, ∃ x, p x ∧ ∀ j u, (f x)[j]? = some u → w.cell? (a.add (i * ks.length + j)) = some u := fun i => key i i.2
    obtain ⟨F, hF⟩ := Classical.axiomOfChoice key'
    have hlen : (List.ofFn F).length = len := by simp
    refine ⟨some a, List.ofFn F, _, by rw [hlen], fun j u hj => ?_, by unfold maxLen at hm; omega, fun s hs => ?_⟩
    · obtain ⟨k, hk, e1, e2⟩ := flatMap_inv f ks.length hks hk0 _ j u hj
      rw [hlen] at hk
      have h := (hF ⟨k, hk⟩).2 (j % ks.length) u (by simpa using e2)
      obtain ⟨b, off, spot⟩ := a
      have hspot : spot = none := by
        have hp0 : 0 < len := by omega
        have hx0 : 0 < (f (F ⟨0, hp0⟩)).length := by rw [hks]; exact hk0
        have h0 := (hF ⟨0, hp0⟩).2 0 _ (List.getElem?_eq_getElem hx0)
        simpa [Addr.add] using World.cell?_spot h0
      subst hspot
      simp only [Go.WideShapes.add_plain, e1, Nat.div_add_mod'] at h
      exact ⟨b, off, rfl, cell_lt h, h⟩
    · obtain ⟨i, rfl⟩ := List.mem_ofFn.1 hs
      exact (hF i).1
end
end Go.Proofs.YtmokofblmkeloaaGreatDoor
