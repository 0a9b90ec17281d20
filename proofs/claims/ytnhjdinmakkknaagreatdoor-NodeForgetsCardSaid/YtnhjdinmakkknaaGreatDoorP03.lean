/- Several texts of mine in one: B02, B01. -/
import Derived.Test.YtnhjdinmakkknaaGreatDoorB00
import Derived.SizedLaws
import Derived.Laws.AppendOwn
import Derived.Laws.OwnMore
import Derived.OwnWalk
import Derived.ChangeArms
/- Words of my own: slices of slices of structs of two integers that came in. -/
namespace Go.Proofs.YtnhjdinmakkknaaGreatDoor
open Go.RowKit Go.WideShapes Go.ChangeShapes Go.Joins Go.Deep
set_option maxRecDepth 100000
section
variable {H : Type} {enc : TypeId × Value → H} {P : Program} {w : World}
/-- A slice of structs of two integers, as cells that came in. -/
theorem trod_pairs {t e : TypeId} {f0 f1 : Field} {fuel : Nat} {cs : List Value} {x : DataW H × List MemPlace} (ht : P.underlying t = some (.slice e)) (he : P.underlying e = some (.struct #[f0, f1])) (hone : oneCellFields P #[f0, f1] = true) (hC : P.cellsOf e = 2)
    (h0 : P.underlying f0.type = some (.int .i64)) (h1 : P.underlying f1.type = some (.int .i64)) (hf : DataW.trod enc P w 0 (fun _ => true) true fuel t cs = some x) :
    ∃ (A : Option Addr) (l : List (Int × Int)) (cap : Nat), cs = [.slice A l.length cap] ∧ PairsAt w A l ∧ l.length ≤ cap ∧ cap ≤ maxLen ∧ (∀ s ∈ l, (Lit.int .i64 s.1).wf = true ∧ (Lit.int .i64 s.2).wf = true) ∧ ((∀ n ∈ x.1.weights P t, n ≤ reachBytes) → l.length * P.bytesOf e ≤ reachBytes) := by
  rcases open_slice ht hf with h2 | ⟨a, len', cap', m, n, D, Pl, hcs, hb, hl, hm, hmm, hx, hi⟩
  · exact ⟨none, [], 0, h2.1, PairsAt.empty _ _, by simp, by unfold maxLen; simp, by simp, fun _ => by simp⟩
  · subst hcs
    simp only [if_true] at hmm
    subst hmm
    have key : ∀ i, i < len' → ∃ x y : Int, w.cell? (a.add (i * 2)) = some (.int .i64 x) ∧ w.cell? (a.add (i * 2 + 1)) = some (.int .i64 y) ∧ (Lit.int .i64 x).wf = true ∧ (Lit.int .i64 y).wf = true := by
      intro i hlt
      obtain ⟨cs', hc, ht'⟩ := hi i (by omega)
      rw [hC] at hc
      obtain ⟨ys, n', hn', hy, hlen, hyl, hfl⟩ := DataW.trod_struct he ht'
      obtain ⟨_, hcl, hat⟩ := World.cells?_some hc
      have one : ∀ (j : Nat) (f : Field), #[f0, f1][j]? = some f → P.underlying f.type = some (.int .i64) → ∃ z : Int, w.cell? (a.add (i * 2 + j)) = some (.int .i64 z) ∧ (Lit.int .i64 z).wf = true := by
        intro j f hj hu
        obtain ⟨ho, hk⟩ := hone_of hone j f hj
        have hjl : j < 2 := (Array.getElem?_eq_some_iff.1 hj).1
        have hcell := hat j hjl
        have h1 := hfl j f hj
        rw [ho, hk] at h1
        have e1 : (cs'.drop j).take 1 = [cs'[j]'(by omega)] := by
          rw [List.drop_eq_getElem_cons (by omega)]
          rfl
        have hjs : j < ys.length := by rw [hyl]; exact hjl
        rw [e1, List.getElem?_eq_getElem hjs] at h1
        obtain ⟨z, h2, _, h3⟩ := DataW.trod_int hu h1
        refine ⟨z, ?_, h3⟩
        rw [← Go.Deep.add_add, hcell, List.getElem?_eq_getElem (show j < cs'.length by omega)]
        simpa using h2
      obtain ⟨x, hx, wx⟩ := one 0 f0 rfl h0
      obtain ⟨y, hy, wy⟩ := one 1 f1 rfl h1
      exact ⟨x, y, hx, hy, wx, wy⟩
    have key' : ∀ i : Fin len', ∃ s : Int × Int, w.cell? (a.add (i * 2)) = some (.int .i64 s.1) ∧ w.cell? (a.add (i * 2 + 1)) = some (.int .i64 s.2) ∧ (Lit.int .i64 s.1).wf = true ∧ (Lit.int .i64 s.2).wf = true := fun i => by
      obtain ⟨x, y, h⟩ := key i i.2
      exact ⟨(x, y), h⟩
    obtain ⟨F, hF⟩ := Classical.axiomOfChoice key'
    have hlen : (List.ofFn F).length = len' := by simp
    refine ⟨some a, List.ofFn F, _, by rw [hlen], fun k hk => ?_, by omega, hm, fun s hs => ?_, fun hn => ?_⟩
    · have hk' : k < len' := by omega
      have h := hF ⟨k, hk'⟩
      obtain ⟨b, off, spot⟩ := a
      have hspot : spot = none := by
        have h0 := hF ⟨0, by omega⟩
        simpa [Addr.add] using World.cell?_spot h0.1
      subst hspot
      simp only [Go.WideShapes.add_plain, ← Nat.add_assoc] at h
      have e : (List.ofFn F)[k] = F ⟨k, hk'⟩ := by simp
      rw [e]
      exact ⟨b, off, rfl, cell_lt h.1, h.1, h.2.1⟩
    · obtain ⟨i, rfl⟩ := List.mem_ofFn.1 hs
      exact (hF i).2.2
    · have h1 := hn ((len' + (m - len')) * P.bytesOf e) (by rw [hx]; simp [DataW.weights, ht])
      refine Nat.le_trans (Nat.mul_le_mul_right _ ?_) h1
      rw [hlen]
      omega
end
/-- A table, and where it lies. -/
structure TA where
  l : List (Int × Int)
  A : Option Addr
  cap : Nat
abbrev taV (x : TA) : Value := .slice x.A x.l.length x.cap
/-- The slice at B reads as these tables. -/
structure TabsAt (w : World) (B : Option Addr) (ts : List TA) : Prop where
  cells : ∀ k (h : k < ts.length), ∃ b off, B = some ⟨b, off, none⟩ ∧ b < w.heap.size ∧ w.cell? ⟨b, off + k, none⟩ = some (taV ts[k])
  tabs : ∀ x ∈ ts, PairsAt w x.A x.l
namespace TabsAt
variable {w w' : World} {B : Option Addr} {ts : List TA}
theorem below (h : TabsAt w B ts) (k : Ok w w') : TabsAt w' B ts := ⟨fun j hj => by
  obtain ⟨b, off, hA, hlt, hc⟩ := h.cells j hj
  exact ⟨b, off, hA, Nat.lt_of_lt_of_le hlt k.size, (k.cell (p := ⟨b, off + j, none⟩) hlt).trans hc⟩, fun x hx => (h.tabs x hx).below k⟩
theorem empty (w : World) (B : Option Addr) : TabsAt w B [] := ⟨fun k h => absurd h (Nat.not_lt_zero k), by simp⟩
end TabsAt
section
variable {H : Type} {enc : TypeId × Value → H} {P : Program} {w : World} {base : Nat}
end
end Go.Proofs.YtnhjdinmakkknaaGreatDoor
/- Words of my own: a block of one's own that holds a row of integers (a struct), whole: read, and kept. -/
namespace Go.Proofs.YtnhjdinmakkknaaGreatDoor
open Go.RowKit Go.WideShapes Go.ChangeShapes Go.Joins Go.Deep
/-- The block g holds the values cs, whole. -/
structure Own (w : World) (g : Nat) (cs : Array Value) : Prop where
  blk : ∃ t, w.heap[g]? = some (.cells cs t (0, 0))
namespace Own
theorem new (w : World) (cs : Array Value) (t : TypeId) {g : Nat} (hg : g = w.heap.size) : Own (w.alloc (.cells cs t)) g cs := ⟨t, by subst hg; exact (MapKept.heap_alloc w _).1⟩
theorem lt {w : World} {g : Nat} {cs : Array Value} (h : Own w g cs) : g < w.heap.size := by
  obtain ⟨t, h⟩ := h
  exact (Array.getElem?_eq_some_iff.1 h).1
theorem next {w w1 : World} {g : Nat} {cs : Array Value} (h : Own w g cs) (k : Ok w w1) : Own w1 g cs := by
  have hl := h.lt
  obtain ⟨t, h⟩ := h
  exact ⟨t, (k.block g hl).trans h⟩
theorem alloc {w : World} {g : Nat} {cs : Array Value} (h : Own w g cs) (o : Obj) : Own (w.alloc o) g cs := h.next ((Ok.refl w).alloc o)
theorem drew {w : World} {g : Nat} {cs : Array Value} (h : Own w g cs) : Own w.drew g cs := ⟨h.blk⟩
theorem drewN {w : World} {g : Nat} {cs : Array Value} (h : Own w g cs) (n : Nat) : Own (w.drewN n) g cs := h.next ((Ok.refl w).drewN n)
theorem cell {w : World} {g : Nat} {cs : Array Value} (h : Own w g cs) (k : Nat) {v : Value} (hv : cs[k]? = some v) : w.cell? ⟨g, k, none⟩ = some v := by
  obtain ⟨t, h⟩ := h
  simp only [World.cell?, h]; exact hv
theorem frozen {w : World} {g : Nat} {cs : Array Value} (h : Own w g cs) (k : Nat) : w.frozen? ⟨g, k, none⟩ = false := by
  obtain ⟨t, h⟩ := h
  simp only [World.frozen?, h]; simp
theorem setOther {w : World} {g : Nat} {cs : Array Value} (h : Own w g cs) {a : Addr} (ha : g ≠ a.block) (v : Value) : Own (w.setCell a v) g cs := by
  obtain ⟨t, h⟩ := h
  exact ⟨t, (Below.heap_setCell w a v g ha).trans h⟩
theorem set {w : World} {g : Nat} {cs : Array Value} (h : Own w g cs) (k : Nat) (v : Value) : Own (w.setCell ⟨g, k, none⟩ v) g (cs.set! k v) := by
  obtain ⟨t, h⟩ := h
  refine ⟨t, ?_⟩
  simp only [World.setCell, Array.getElem?_modify, h, if_true, Option.map_some]
  rfl
end Own
end Go.Proofs.YtnhjdinmakkknaaGreatDoor

/- Words of my own: a slice of structs, read as the row of their cells; what came in as one; append of such a row to one of one's own. -/
namespace Go.Proofs.YtnhjdinmakkknaaGreatDoor
open Go.RowKit Go.WideShapes Go.ChangeShapes Go.Joins Go.Deep
/-- The slice with address A reads, in world w, as these cells. -/
def CellsAt (w : World) (A : Option Addr) (cs : List Value) : Prop :=
  ∀ j u, cs[j]? = some u → ∃ b off, A = some ⟨b, off, none⟩ ∧ b < w.heap.size ∧ w.cell? ⟨b, off + j, none⟩ = some u
namespace CellsAt
theorem empty (w : World) (A : Option Addr) : CellsAt w A [] := fun j u h => by simp at h
theorem below {w w' : World} {A : Option Addr} {cs : List Value} (h : CellsAt w A cs) (hb : Ok w w') : CellsAt w' A cs := fun j u hj => by
  obtain ⟨b, off, hA, hlt, hc⟩ := h j u hj
  exact ⟨b, off, hA, Nat.lt_of_lt_of_le hlt hb.size, (Below.cell hb (p := ⟨b, off + j, none⟩) hlt).trans hc⟩
theorem alloc {w : World} {A : Option Addr} {cs : List Value} (h : CellsAt w A cs) (o : Obj) : CellsAt (w.alloc o) A cs := h.below (below_alloc w o)
theorem drew {w : World} {A : Option Addr} {cs : List Value} (h : CellsAt w A cs) : CellsAt w.drew A cs := h.below (Ok.refl w).drew
/-- A slice that is written down: a new block. -/
theorem new (w : World) (t : TypeId) (cs : Array Value) {l : List Value} (h : cs.toList = l) {b : Nat} (hb : b = w.heap.size) : CellsAt (w.alloc (.cells cs t)) (some ⟨b, 0, none⟩) l := by
  subst hb
  subst h
  intro j u hj
  have e2 : (w.alloc (.cells cs t)).heap[w.heap.size]? = some (.cells cs t) := (MapKept.heap_alloc w _).1
  rw [Array.getElem?_toList] at hj
  refine ⟨w.heap.size, 0, rfl, by simp, ?_⟩
  simp only [World.cell?, e2, Nat.zero_add]; exact hj
/-- A row of the call's own reads as what it holds. -/
theorem of_own {w : World} {B : Nat} {e : TypeId} {k n : Nat} {v : Value} {cs : List Value} (h : w.ownsRow B e k v n cs) (hn : n * k = cs.length) (_hk : 0 < k) : ∃ A cap, v = .slice A n cap ∧ CellsAt w A cs := by
  rcases h.2 with ⟨rfl, hx⟩ | ⟨g, cap, cur, rfl, hb, hh, r⟩
  · subst hx
    have : cs = [] := List.length_eq_zero_iff.1 (by omega)
    subst this
    exact ⟨none, 0, rfl, empty _ _⟩
  · refine ⟨some ⟨g, 0, none⟩, cap, rfl, fun j u hj => ⟨g, 0, rfl, (Array.getElem?_eq_some_iff.1 hh).1, ?_⟩⟩
    have := h.cells (g := g) rfl j u hj
    rwa [Go.WideShapes.add_plain] at this
theorem take {w : World} {A : Option Addr} {cs : List Value} (h : CellsAt w A cs) (n : Nat) : CellsAt w A (cs.take n) := fun j u hj => by
  rw [List.getElem?_take] at hj
  split at hj
  · exact h j u hj
  · simp at hj
theorem drop {w : World} {b off : Nat} {cs : List Value} (h : CellsAt w (some ⟨b, off, none⟩) cs) (n : Nat) : CellsAt w (some ⟨b, off + n, none⟩) (cs.drop n) := fun j u hj => by
  rw [List.getElem?_drop] at hj
  obtain ⟨b', off', e, hlt, hc⟩ := h (n + j) u hj
  cases e
  exact ⟨b, off + n, rfl, hlt, by rw [Nat.add_assoc]; exact hc⟩
end CellsAt
theorem flatMap_length {α : Type} (f : α → List Value) (n : Nat) (hf : ∀ x, (f x).length = n) (l : List α) : (l.flatMap f).length = l.length * n := by
  induction l with
  | nil => simp
  | cons x l ih => rw [List.flatMap_cons, List.length_append, ih, hf, List.length_cons, Nat.add_mul, Nat.one_mul, Nat.add_comm]
theorem flatMap_at {α : Type} (f : α → List Value) (n : Nat) (hf : ∀ x, (f x).length = n) : ∀ (l : List α) (k : Nat) (h : k < l.length) (j : Nat) (u : Value), (f l[k])[j]? = some u → (l.flatMap f)[k * n + j]? = some u
  | [], k, h, _, _, _ => absurd h (Nat.not_lt_zero k)
  | x :: l, 0, _, j, u, hj => by
    have : j < (f x).length := (List.getElem?_eq_some_iff.1 hj).1
    rw [List.flatMap_cons, Nat.zero_mul, Nat.zero_add, List.getElem?_append_left this]
    exact hj
  | x :: l, k + 1, h, j, u, hj => by
    rw [List.flatMap_cons, List.getElem?_append_right (by rw [hf, Nat.add_mul]; omega), hf, show (k + 1) * n + j - n = k * n + j by rw [Nat.add_mul]; omega]
    exact flatMap_at f n hf l k (by simpa using h) j u hj
/-- The k-th struct of a slice of structs. -/
theorem CellsAt.at {α : Type} {w : World} {A : Option Addr} {f : α → List Value} {l : List α} (h : CellsAt w A (l.flatMap f)) {n : Nat} (hf : ∀ x, (f x).length = n) (hn : 0 < n) (k : Nat) (hk : k < l.length) :
    ∃ b off, A = some ⟨b, off, none⟩ ∧ b < w.heap.size ∧ ∀ j u, (f l[k])[j]? = some u → w.cell? ⟨b, off + k * n + j, none⟩ = some u := by
  have h0 : 0 < (f l[k]).length := by rw [hf]; exact hn
  obtain ⟨b, off, e, hlt, _⟩ := h _ _ (flatMap_at f n hf l k hk 0 _ (List.getElem?_eq_getElem h0))
  refine ⟨b, off, e, hlt, fun j u hj => ?_⟩
  obtain ⟨b', off', e', _, hc⟩ := h _ _ (flatMap_at f n hf l k hk j u hj)
  rw [e] at e'
  cases e'
  rw [Nat.add_assoc]
  exact hc
/-- What a field may be. -/
inductive Kind where
  | int | bool | str
def Kind.type (P : Program) (t : TypeId) : Option Kind :=
  match P.underlying t with
  | some (.int .i64) => some .int
  | some .bool => some .bool
  | some .string => some .str
  | _ => none
def Kind.ok : Kind → Value → Prop
  | .int, v => ∃ z : Int, v = .int .i64 z ∧ (Lit.int .i64 z).wf = true
  | .bool, v => ∃ b : Bool, v = .bool b
  | .str, v => ∃ s : ByteArray, v = .string s ∧ s.size ≤ maxLen
theorem flatMap_inv {α : Type} (f : α → List Value) (n : Nat) (hf : ∀ x, (f x).length = n) (hn : 0 < n) (l : List α) (j : Nat) (u : Value) (h : (l.flatMap f)[j]? = some u) : ∃ (k : Nat) (hk : k < l.length), k = j / n ∧ (f l[k])[j % n]? = some u := by
  have hlt : j < l.length * n := by rw [← flatMap_length f n hf]; exact (List.getElem?_eq_some_iff.1 h).1
  have hk : j / n < l.length := Nat.div_lt_of_lt_mul (by rw [Nat.mul_comm]; exact hlt)
  have hj : j % n < (f l[j / n]).length := by rw [hf]; exact Nat.mod_lt _ hn
  refine ⟨j / n, hk, rfl, ?_⟩
  have := flatMap_at f n hf l (j / n) hk (j % n) _ (List.getElem?_eq_getElem hj)
  rw [Nat.div_add_mod'] at this
  rw [this] at h
  cases h
  exact List.getElem?_eq_getElem hj
section
variable {H : Type} {enc : TypeId × Value → H} {P : Program} {w : World} {base : Nat}
end
end Go.Proofs.YtnhjdinmakkknaaGreatDoor
