/- Words of my own for memory, over any program: a slice of integers that reads as a list; a law's last step. -/
import Derived.Test.YtmokofblmkeloaaGreatDoorRows
import Derived.WalkKit
import Derived.ProofKit
import Derived.OpenShut
import Derived.WalkLawsBesides
import Derived.IntWalk
import Derived.Lib.Hide
import Derived.Below
import Derived.Carry
import Derived.ChangeSame
import Derived.ReadAgain
import Derived.OwnWalk
import Derived.Laws.AppendOwn
import Derived.Laws.OwnMore
import Derived.Deep.Draws
import Derived.Lib.SmallJoins
import Derived.Deep.Slices
import Derived.Deep.Fields
namespace Go.Proofs.YtmokofblmkeloaaGreatDoor
open Go.RowKit Go.WideShapes Go.ChangeShapes

/-- The slice with address A reads, in world w, as the integers l. -/
def IntsAt (w : World) (A : Option Addr) (l : List Int) : Prop :=
  ∀ k (h : k < l.length), ∃ b off, A = some ⟨b, off, none⟩ ∧ b < w.heap.size ∧ w.cell? ⟨b, off + k, none⟩ = some (.int .i64 l[k])

theorem IntsAt.empty (w : World) (A : Option Addr) : IntsAt w A [] := fun k h => absurd h (Nat.not_lt_zero k)
theorem IntsAt.below {w w' : World} {A : Option Addr} {l : List Int} (h : IntsAt w A l) (hb : Below w.heap.size w w') : IntsAt w' A l := fun k hk => by
  obtain ⟨b, off, hA, hlt, hc⟩ := h k hk
  exact ⟨b, off, hA, Nat.lt_of_lt_of_le hlt hb.size, (hb.cell (p := ⟨b, off + k, none⟩) hlt).trans hc⟩
theorem IntsAt.of_cells {w : World} {b off : Nat} {l : List Int} (hlt : b < w.heap.size) (hc : ∀ k (h : k < l.length), w.cell? ⟨b, off + k, none⟩ = some (.int .i64 l[k])) : IntsAt w (some ⟨b, off, none⟩) l :=
  fun k hk => ⟨b, off, rfl, hlt, hc k hk⟩
/-- A slice written down at a call: a new block. -/
theorem ints_new (w : World) (l : List Int) (t : TypeId) (cs : Array Value) (h : cs.toList = l.map (Value.int .i64)) {b : Nat} (hb : b = w.heap.size) : IntsAt (w.alloc (.cells cs t)) (some ⟨b, 0, none⟩) l := by
  subst hb
  intro k hk
  refine ⟨w.heap.size, 0, rfl, by simp, ?_⟩
  have e : cs[0 + k]? = some (.int .i64 l[k]) := by
    rw [Nat.zero_add, ← Array.getElem?_toList, h, List.getElem?_map, List.getElem?_eq_getElem hk]; rfl
  have e2 : (w.alloc (.cells cs t)).heap[w.heap.size]? = some (.cells cs t) := (MapKept.heap_alloc w _).1
  simp only [World.cell?, e2]; exact e
/-- A row of the call's own reads as the list that it holds. -/
theorem IntsAt.of_own {w : World} {B : Nat} {e : TypeId} {v : Value} {l : List Int} (h : w.ownsRow B e 1 v l.length (l.map (Value.int .i64))) : ∃ A cap, v = .slice A l.length cap ∧ IntsAt w A l := by
  rcases h.2 with ⟨rfl, hx⟩ | ⟨g, cap, cur, rfl, hb, hh, r⟩
  · have : l = [] := by simpa using hx
    subst this
    exact ⟨none, 0, rfl, IntsAt.empty _ _⟩
  · refine ⟨some ⟨g, 0, none⟩, cap, rfl, IntsAt.of_cells (Array.getElem?_eq_some_iff.1 hh).1 fun k hk => ?_⟩
    have := h.cells (g := g) rfl k (.int .i64 l[k]) (by rw [List.getElem?_map, List.getElem?_eq_getElem hk]; rfl)
    rw [Go.WideShapes.add_plain] at this
    exact this
theorem below_alloc (w : World) (o : Obj) : Below w.heap.size w (w.alloc o) := (Below.refl _ _).alloc (Nat.le_refl _) _
theorem cell_lt {w : World} {b o : Nat} {v : Value} (h : w.cell? ⟨b, o, none⟩ = some v) : b < w.heap.size := by
  rcases Nat.lt_or_ge b w.heap.size with g | g
  · exact g
  · exfalso
    have : w.heap[b]? = none := Array.getElem?_eq_none_iff.2 g
    simp [World.cell?, this] at h

/-- A slice of integers that came in: its address, the integers that it holds. -/
theorem open_sliceK {H : Type} {enc : TypeId × Value → H} {P : Program} {w : World} {base : Nat} {t e : TypeId} {v : Value} {d : DataW H} {ps : List MemPlace}
    (ht : P.underlying t = some (.slice e)) (he : P.underlying e = some (.int .i64)) (hc : P.cellsOf e = 1) (hv : Value.okWide P w .any base t v) (h : DataW.Trod enc P w 0 (fun _ => true) true t v d ps) :
    ∃ (A : Option Addr) (l : List Int) (cap : Nat), v = .slice A l.length cap ∧ IntsAt w A l ∧ l.length ≤ 9223372036854775807 ∧ ∀ x ∈ l, (Lit.int .i64 x).wf = true := by
  obtain ⟨a0, len, cap, rfl⟩ := okWide_slice ht hv
  obtain ⟨fuel, hf⟩ := h
  rcases open_ints ht he hc hf with ⟨hcs, hx⟩ | ⟨a, len', cap', zs, hcs, _, hl, hm, hz, hx, hcell, hwz⟩
  · simp [Value.cells] at hcs
    obtain ⟨rfl, rfl, rfl⟩ := hcs
    exact ⟨none, [], 0, rfl, IntsAt.empty _ _, by simp, by simp⟩
  · simp [Value.cells] at hcs
    obtain ⟨rfl, rfl, rfl⟩ := hcs
    simp only [if_true] at hz
    have hlen : (zs.take len).length = len := by simp; omega
    refine ⟨some a, zs.take len, cap, by rw [hlen], fun k hk => ?_, by unfold maxLen at hm; omega, fun x hx => hwz x (List.mem_of_mem_take hx)⟩
    have hk' : k < zs.length := by omega
    obtain ⟨b, off, rfl, hc'⟩ := ints_at hcell (by omega)
    refine ⟨b, off, rfl, cell_lt (hc' 0 (by omega)), ?_⟩
    rw [hc' k hk', List.getD_eq_getElem?_getD, List.getElem?_eq_getElem hk', List.getElem_take]
    rfl
theorem params_ok {P : Program} {a : Array TypeId} (h : (a.toList.all fun t => P.readableRec t && decide (t < P.types.size)) = true) : ∀ t ∈ a.toList, P.readableRec t = true ∧ t < P.types.size := by
  intro t ht
  have := List.all_eq_true.1 h t ht
  simpa using this

/-- The list's beginning, one longer. -/
theorem take_more {α : Type} {l : List α} {k : Nat} (h : k < l.length) : l.take (k + 1) = l.take k ++ [l[k]] := by
  rw [List.take_succ_eq_append_getElem h]

section
variable {H : Type} {enc : TypeId × Value → H} {P : Program}
theorem trodAll_stays (hl : laidOutB P = true) {W W' : World} {sp : Nat → Bool} (hb : Below W.heap.size W W') :
    ∀ {ts : List TypeId} {vs : List Value} {ds : List (DataW H)} {ps : List MemPlace}, (∀ t ∈ ts, P.readableRec t = true ∧ t < P.types.size) → DataW.TrodAll enc P W 0 (fun _ => true) true ts vs ds ps →
      (∀ p ∈ ps, p.block < W.heap.size) → (∀ p ∈ ps, sp p.block = true) → DataW.TrodAll enc P W' 0 sp true ts vs ds ps
  | [], [], [], _, _, h, _, _ => h
  | _ :: _, _ :: _, _ :: _, _, ht, ⟨p, q, h1, h2, e⟩, hlt, hs => by
    subst e
    refine ⟨p, q, WideElems.Trod_stays hl (ht _ List.mem_cons_self).1 (ht _ List.mem_cons_self).2 h1 (fun x hx => hb.same (hlt x (List.mem_append_left _ hx))) (fun x hx => hs x (List.mem_append_left _ hx)),
      trodAll_stays hl hb (fun t h => ht t (List.mem_cons_of_mem _ h)) h2 (fun x hx => hlt x (List.mem_append_right _ hx)) (fun x hx => hs x (List.mem_append_right _ hx)), rfl⟩

/-- A law's last step: it answered true, and of what was there nothing has turned. -/
theorem law_post {f : Func} {s : ChangeSpec} {apart fresh handsOn again : Bool} {W W' : World} {args : Array Value} {ds gs : List (DataW H)} {before : List MemPlace} {tb : TypeId}
    (hW : DataW.Whole enc P f.params.toList s.vars apart W args.toList ds gs before) (hl : laidOutB P = true)
    (ht : ∀ t ∈ f.params.toList, P.readableRec t = true ∧ t < P.types.size) (hv : s.vars = [])
    (hr : f.resultTypes = #[tb]) (hbool : P.underlying tb = some .bool)
    (hfn : (s.fn H (ds ++ gs)).results = [.lit (.bool true)]) (hfa : (s.fn H (ds ++ gs)).args = ds) (hfv : (s.fn H (ds ++ gs)).vars = [])
    (hb : Below W.heap.size W W') : s.post enc P f apart fresh handsOn again W args (.bool true) W' := by
  have hlt : ∀ p ∈ before, p.block < W.heap.size := fun p hp => hW.lt p hp
  have hold : ∀ p ∈ before, (fun b => decide (b < W.heap.size)) p.block = true := fun p hp => by simpa using hlt p hp
  have hW' := hW
  obtain ⟨pa, pv, hA, hV, hps, hz, hn⟩ := hW
  rw [hv] at hV
  obtain ⟨rfl, rfl⟩ := trodVars_none hV
  rw [List.append_nil] at hps
  subst hps
  have hres : ∀ (b : Nat) (sp : Nat → Bool) (hd : Bool), DataW.TrodAll enc P W' b sp hd f.resultTypes.toList ((Value.bool true).resultList f.resultTypes.size) (s.fn H (ds ++ [])).results [] := by
    intro b sp hd
    rw [hfn, hr]
    exact trodAll_mk1 (shut_bool hbool true)
  have hargs : ∀ sp : Nat → Bool, (∀ p ∈ before, sp p.block = true) → DataW.TrodAll enc P W' 0 sp true f.params.toList args.toList (s.fn H (ds ++ [])).args before := by
    intro sp hs
    rw [hfa]
    exact trodAll_stays hl hb ht hA hlt hs
  have hvars : ∀ sp : Nat → Bool, DataW.TrodVars enc P W' sp s.vars (s.fn H (ds ++ [])).vars [] := by
    intro sp
    rw [hv, hfv]
    exact rfl
  refine ⟨ds, [], before, [], before, [], hW', hres _ _ _, hargs _ hold, hvars _, World.keptBut_mono (fun p hp => ⟨hp, Or.inr (Or.inl hp)⟩) (hb.frame (· ∈ before)), fun _ => ?_⟩
  refine ⟨?_, _, _, ([] ++ before) ++ [], ⟨[] ++ before, [], trodAll_append (hargs _ (fun _ _ => rfl)) (hres _ _ _), hvars _, rfl, ?_, ?_⟩, ?_⟩
  · exact ok_one hr rfl (okWide_bool_mk hbool _)
  · intro b off hp
    have hin : MemPlace.cell b off ∈ before := by simpa using hp
    rw [hb.frozen (hlt _ hin)]
    exact hz b off (by simpa using hin)
  · intro ha
    simpa using hn ha
  · intro p hp _
    simpa using hp
end
end Go.Proofs.YtmokofblmkeloaaGreatDoor

/- Words of my own: a world behind a call that has turned nothing that was there. -/
namespace Go.Proofs.YtmokofblmkeloaaGreatDoor
open Go.RowKit

/-- What was there in w is in w' as it was; w' may hold more. -/
def Ok (w w' : World) : Prop := Below w.heap.size w w'
namespace Ok
theorem refl (w : World) : Ok w w := Below.refl _ _
theorem below {w w' : World} (h : Ok w w') : Below w.heap.size w w' := h
theorem size {w w' : World} (h : Ok w w') : w.heap.size ≤ w'.heap.size := Below.size h
theorem trans {a b c : World} (h : Ok a b) (k : Ok b c) : Ok a c := Below.trans h (Below.mono k h.size)
theorem alloc {a b : World} (h : Ok a b) (o : Obj) : Ok a (b.alloc o) := Below.alloc h h.size o
theorem drewN {a b : World} (h : Ok a b) (n : Nat) : Ok a (b.drewN n) := ⟨h.os, h.tape, h.output, h.size, h.block⟩
theorem drew {a b : World} (h : Ok a b) : Ok a b.drew := Below.drew h
theorem setCell {a b : World} (h : Ok a b) {p : Addr} (hp : a.heap.size ≤ p.block) (u : Value) : Ok a (b.setCell p u) := Below.setCell h hp u
theorem ints {a b : World} {A : Option Addr} {l : List Int} (h : Ok a b) (hi : IntsAt a A l) : IntsAt b A l := hi.below h
theorem cell {a b : World} (h : Ok a b) {p : Addr} (hp : p.block < a.heap.size) : b.cell? p = a.cell? p := Below.cell h hp
end Ok
end Go.Proofs.YtmokofblmkeloaaGreatDoor

/- Words of my own: structs of integers that came in by value. -/
namespace Go.Proofs.YtmokofblmkeloaaGreatDoor
open Go.RowKit Go.WideShapes Go.ChangeShapes Go.Joins Go.Deep
section
variable {H : Type} {enc : TypeId × Value → H} {P : Program} {w : World} {base : Nat} {spare : Nat → Bool} {held : Bool}
/-- A struct of integers that came in by value. -/
theorem open_agg_ints {r : Reach} {b0 : Nat} {t : TypeId} {fs : Array Field} {v : Value} {d : DataW H} {p : List MemPlace} (hs : P.underlying t = some (.struct fs)) (hone : oneCellFields P fs = true) (hC : P.cellsOf t = fs.size)
    (hall : ∀ (j : Nat) (f : Field), fs[j]? = some f → P.underlying f.type = some (.int .i64)) (hv : Value.okWide P w r b0 t v) (h : DataW.Trod enc P w base spare held t v d p) :
    ∃ zs : List Int, zs.length = fs.size ∧ v = .agg (zs.map (Value.int .i64)).toArray ∧ ∀ z ∈ zs, (Lit.int .i64 z).wf = true := by
  obtain ⟨cs, rfl, hsz⟩ := okWide_struct hs hv
  obtain ⟨fuel, hf⟩ := h
  obtain ⟨ys, n', hn', hy, hlen, hyl, hfl⟩ := DataW.trod_struct hs hf
  have key : ∀ j (hj : j < cs.size), ∃ n, cs[j] = .int .i64 n ∧ (Lit.int .i64 n).wf = true := by
    intro j hj
    have hjf : j < fs.size := by omega
    have e : fs[j]? = some fs[j] := Array.getElem?_eq_getElem hjf
    obtain ⟨ho, hk⟩ := hone_of hone j _ e
    have h1 := hfl j _ e
    rw [ho, hk] at h1
    have e1 : ((Value.agg cs).cells.toList.drop j).take 1 = [cs[j]] := by
      have hl : j < (Value.agg cs).cells.toList.length := by simpa [Value.cells] using hj
      rw [List.drop_eq_getElem_cons hl]
      simp [Value.cells]
    rw [e1, List.getElem?_eq_getElem (show j < ys.length by omega)] at h1
    obtain ⟨n, h2, _, h3⟩ := DataW.trod_int (hall j _ e) h1
    exact ⟨n, by simpa using h2, h3⟩
  refine ⟨cs.toList.map intOf, by simp; omega, ?_, ?_⟩
  · congr 1
    apply Array.ext
    · simp
    · intro i h1 h2
      obtain ⟨n, hn, _⟩ := key i h1
      simp [hn, intOf]
  · intro z hz
    obtain ⟨v, hv, rfl⟩ := List.mem_map.1 hz
    obtain ⟨j, hj, rfl⟩ := List.mem_iff_getElem.1 hv
    obtain ⟨n, hn, hw⟩ := key j (by simpa using hj)
    rw [Array.getElem_toList, hn]
    exact hw
end
end Go.Proofs.YtmokofblmkeloaaGreatDoor

/- Words of my own: a slice of structs of two integers that reads as a list of pairs. -/
namespace Go.Proofs.YtmokofblmkeloaaGreatDoor
open Go.RowKit Go.WideShapes Go.ChangeShapes Go.Joins Go.Deep
/-- The slice with address A reads, in world w, as the pairs l. -/
def PairsAt (w : World) (A : Option Addr) (l : List (Int × Int)) : Prop :=
  ∀ k (h : k < l.length), ∃ b off, A = some ⟨b, off, none⟩ ∧ b < w.heap.size ∧ w.cell? ⟨b, off + k * 2, none⟩ = some (.int .i64 l[k].1) ∧ w.cell? ⟨b, off + k * 2 + 1, none⟩ = some (.int .i64 l[k].2)
theorem PairsAt.empty (w : World) (A : Option Addr) : PairsAt w A [] := fun k h => absurd h (Nat.not_lt_zero k)
theorem PairsAt.below {w w' : World} {A : Option Addr} {l : List (Int × Int)} (h : PairsAt w A l) (hb : Ok w w') : PairsAt w' A l := fun k hk => by
  obtain ⟨b, off, hA, hlt, hc, hd⟩ := h k hk
  exact ⟨b, off, hA, Nat.lt_of_lt_of_le hlt hb.size, (Below.cell hb (p := ⟨b, off + k * 2, none⟩) hlt).trans hc, (Below.cell hb (p := ⟨b, off + k * 2 + 1, none⟩) hlt).trans hd⟩
def cellsOfPairs (l : List (Int × Int)) : List Value := l.flatMap fun s => [.int .i64 s.1, .int .i64 s.2]
theorem cellsOfPairs_at : ∀ (l : List (Int × Int)) (k : Nat) (h : k < l.length), (cellsOfPairs l)[k * 2]? = some (.int .i64 l[k].1) ∧ (cellsOfPairs l)[k * 2 + 1]? = some (.int .i64 l[k].2)
  | [], k, h => absurd h (Nat.not_lt_zero k)
  | s :: l, 0, _ => ⟨rfl, rfl⟩
  | s :: l, k + 1, h => by
    have := cellsOfPairs_at l k (by simpa using h)
    have e : (k + 1) * 2 = k * 2 + 2 := by omega
    rw [e]
    exact this
/-- A slice of structs written down at a call: a new block. -/
theorem pairs_new (w : World) (l : List (Int × Int)) (t : TypeId) (cs : Array Value) (h : cs.toList = cellsOfPairs l) {b : Nat} (hb : b = w.heap.size) : PairsAt (w.alloc (.cells cs t)) (some ⟨b, 0, none⟩) l := by
  subst hb
  intro k hk
  have e2 : (w.alloc (.cells cs t)).heap[w.heap.size]? = some (.cells cs t) := (MapKept.heap_alloc w _).1
  have := cellsOfPairs_at l k hk
  rw [← h, Array.getElem?_toList, Array.getElem?_toList] at this
  refine ⟨w.heap.size, 0, rfl, by simp, ?_, ?_⟩
  · simp only [World.cell?, e2, Nat.zero_add]; exact this.1
  · simp only [World.cell?, e2, Nat.zero_add]; exact this.2
/-- A row of the call's own reads as the list that it holds. -/
theorem PairsAt.of_own {w : World} {B : Nat} {e : TypeId} {v : Value} {l : List (Int × Int)} (h : w.ownsRow B e 2 v l.length (cellsOfPairs l)) : ∃ A cap, v = .slice A l.length cap ∧ PairsAt w A l := by
  rcases h.2 with ⟨rfl, hx⟩ | ⟨g, cap, cur, rfl, hb, hh, r⟩
  · have : l = [] := List.length_eq_zero_iff.1 hx
    subst this
    exact ⟨none, 0, rfl, PairsAt.empty _ _⟩
  · refine ⟨some ⟨g, 0, none⟩, cap, rfl, fun k hk => ⟨g, 0, rfl, (Array.getElem?_eq_some_iff.1 hh).1, ?_, ?_⟩⟩
    · have := h.cells (g := g) rfl (k * 2) _ (cellsOfPairs_at l k hk).1
      rw [Go.WideShapes.add_plain] at this
      exact this
    · have := h.cells (g := g) rfl (k * 2 + 1) _ (cellsOfPairs_at l k hk).2
      rw [Go.WideShapes.add_plain] at this
      rw [Nat.add_assoc]
      exact this
theorem IntsAt.alloc {w : World} {A : Option Addr} {l : List Int} (h : IntsAt w A l) (o : Obj) : IntsAt (w.alloc o) A l := h.below (below_alloc w o)
theorem IntsAt.drew {w : World} {A : Option Addr} {l : List Int} (h : IntsAt w A l) : IntsAt w.drew A l := h.below (Ok.refl w).drew
theorem IntsAt.drewN {w : World} {A : Option Addr} {l : List Int} (h : IntsAt w A l) (n : Nat) : IntsAt (w.drewN n) A l := h.below ((Ok.refl w).drewN n)
theorem PairsAt.alloc {w : World} {A : Option Addr} {l : List (Int × Int)} (h : PairsAt w A l) (o : Obj) : PairsAt (w.alloc o) A l := h.below (below_alloc w o)
theorem PairsAt.drew {w : World} {A : Option Addr} {l : List (Int × Int)} (h : PairsAt w A l) : PairsAt w.drew A l := h.below (Ok.refl w).drew
theorem PairsAt.drewN {w : World} {A : Option Addr} {l : List (Int × Int)} (h : PairsAt w A l) (n : Nat) : PairsAt (w.drewN n) A l := h.below ((Ok.refl w).drewN n)
/-- A struct of two integers that lies in a block. -/
structure Box (w : World) (g : Nat) (x y : Int) : Prop where
  c0 : w.cell? ⟨g, 0, none⟩ = some (.int .i64 x)
  c1 : w.cell? ⟨g, 1, none⟩ = some (.int .i64 y)
  lt : g < w.heap.size
theorem Box.new (w : World) (x y : Int) (t : TypeId) {g : Nat} (hg : g = w.heap.size) : Box (w.alloc (.cells #[.int .i64 x, .int .i64 y] t)) g x y := by
  obtain ⟨_, _, e, _, c0⟩ := ints_new w [x, y] t #[.int .i64 x, .int .i64 y] rfl hg 0 (by simp)
  obtain ⟨_, _, e1, _, c1⟩ := ints_new w [x, y] t #[.int .i64 x, .int .i64 y] rfl hg 1 (by simp)
  cases e; cases e1
  exact ⟨c0, c1, by simp [hg]⟩
theorem Box.next {w w1 : World} {g : Nat} {x y : Int} (h : Box w g x y) (k : Ok w w1) : Box w1 g x y :=
  ⟨(k.cell (p := ⟨g, 0, none⟩) h.lt).trans h.c0, (k.cell (p := ⟨g, 1, none⟩) h.lt).trans h.c1, Nat.lt_of_lt_of_le h.lt k.size⟩
/-- A struct of two integers in a block g, and nothing turned since w: what a region of calls keeps. -/
def Box1 (g : Nat) (w : World) (x y : Int) (w' : World) : Prop := w'.cell? ⟨g, 0, none⟩ = some (.int .i64 x) ∧ w'.cell? ⟨g, 1, none⟩ = some (.int .i64 y) ∧ g < w'.heap.size ∧ Ok w w'
theorem Box1.drew {g : Nat} {w w' : World} {x y : Int} (h : Box1 g w x y w') : Box1 g w x y w'.drew := ⟨h.1, h.2.1, h.2.2.1, h.2.2.2.drew⟩
theorem Box1.next {g : Nat} {w w' w1 : World} {x y : Int} (k : Ok w' w1) (h : Box1 g w x y w') : Box1 g w x y w1 :=
  ⟨(k.cell (p := ⟨g, 0, none⟩) h.2.2.1).trans h.1, (k.cell (p := ⟨g, 1, none⟩) h.2.2.1).trans h.2.1, Nat.lt_of_lt_of_le h.2.2.1 k.size, h.2.2.2.trans k⟩
/-- A struct of two integers of one's own: a whole block, that may be written. -/
structure Slab (w : World) (g : Nat) (x y : Int) : Prop where
  blk : ∃ t, w.heap[g]? = some (.cells #[.int .i64 x, .int .i64 y] t (0, 0))
namespace Slab
theorem new (w : World) (x y : Int) (t : TypeId) {g : Nat} (hg : g = w.heap.size) : Slab (w.alloc (.cells #[.int .i64 x, .int .i64 y] t)) g x y := ⟨t, by subst hg; exact (MapKept.heap_alloc w _).1⟩
theorem lt {w : World} {g : Nat} {x y : Int} (h : Slab w g x y) : g < w.heap.size := by
  obtain ⟨t, h⟩ := h
  exact (Array.getElem?_eq_some_iff.1 h).1
theorem next {w w1 : World} {g : Nat} {x y : Int} (h : Slab w g x y) (k : Ok w w1) : Slab w1 g x y := by
  have hl := h.lt
  obtain ⟨t, h⟩ := h
  exact ⟨t, (k.block g hl).trans h⟩
theorem alloc {w : World} {g : Nat} {x y : Int} (h : Slab w g x y) (o : Obj) : Slab (w.alloc o) g x y := h.next ((Ok.refl w).alloc o)
theorem drew {w : World} {g : Nat} {x y : Int} (h : Slab w g x y) : Slab w.drew g x y := ⟨h.blk⟩
theorem drewN {w : World} {g : Nat} {x y : Int} (h : Slab w g x y) (n : Nat) : Slab (w.drewN n) g x y := h.next ((Ok.refl w).drewN n)
theorem c0 {w : World} {g : Nat} {x y : Int} (h : Slab w g x y) : w.cell? ⟨g, 0, none⟩ = some (.int .i64 x) := by
  obtain ⟨t, h⟩ := h
  simp only [World.cell?, h]; rfl
theorem c1 {w : World} {g : Nat} {x y : Int} (h : Slab w g x y) : w.cell? ⟨g, 1, none⟩ = some (.int .i64 y) := by
  obtain ⟨t, h⟩ := h
  simp only [World.cell?, h]; rfl
theorem f0 {w : World} {g : Nat} {x y : Int} (h : Slab w g x y) : w.frozen? ⟨g, 0, none⟩ = false := by
  obtain ⟨t, h⟩ := h
  simp only [World.frozen?, h]; rfl
theorem f1 {w : World} {g : Nat} {x y : Int} (h : Slab w g x y) : w.frozen? ⟨g, 1, none⟩ = false := by
  obtain ⟨t, h⟩ := h
  simp only [World.frozen?, h]; rfl
theorem set {w : World} {g : Nat} {x y : Int} (h : Slab w g x y) (u v : Int) : Slab ((w.setCell ⟨g, 0, none⟩ (.int .i64 u)).setCell ⟨g, 1, none⟩ (.int .i64 v)) g u v := by
  obtain ⟨t, h⟩ := h
  refine ⟨t, ?_⟩
  have hl : g < w.heap.size := (Array.getElem?_eq_some_iff.1 h).1
  have e : w.heap[g] = .cells #[.int .i64 x, .int .i64 y] t (0, 0) := (Array.getElem?_eq_some_iff.1 h).2
  simp only [World.setCell, Array.getElem?_modify, h, if_true, Option.map_some]
  rfl
theorem setOther {w : World} {g : Nat} {x y : Int} (h : Slab w g x y) {a : Addr} (ha : g ≠ a.block) (v : Value) : Slab (w.setCell a v) g x y := by
  obtain ⟨t, h⟩ := h
  exact ⟨t, (Below.heap_setCell w a v g ha).trans h⟩
end Slab
section
variable {H : Type} {enc : TypeId × Value → H} {P : Program} {w : World} {base : Nat}
end
end Go.Proofs.YtmokofblmkeloaaGreatDoor
