/- Several texts of mine in one: W43. -/
import Derived.Test.YtmmiboblofopgaaGreatB03
import Derived.Test.YtmmiboblofopgaaGreatB08
import Derived.Test.YtmmiboblofopgaaGreatMA
/- Words of my own: what was heard (slices of api.Heard), and what befalls in a beat (api.Input, by value and in slices), as they came in. -/
namespace Go.Proofs.YtmmiboblofopgaaGreat
open Go.RowKit Go.WideShapes Go.ChangeShapes Go.Joins Go.Deep
set_option maxRecDepth 100000
section
variable {H : Type} {enc : TypeId × Value → H} {P : Program} {w : World}
/-- A slice of things of K cells each, read one by one. -/
theorem trod_list {X : Type} (eL : X → List Value) (K : Nat) (hK : 0 < K) (hlen : ∀ x, (eL x).length = K) (fit : X → Prop) {t e : TypeId} {fuel : Nat} {cs : List Value} {x : DataW H × List MemPlace} (ht : P.underlying t = some (.slice e)) (hC : P.cellsOf e = K)
    (one : ∀ (fuel : Nat) (l : List Value) (x : DataW H × List MemPlace), l.length = K → DataW.trod enc P w 0 (fun _ => true) true fuel e l = some x → ∃ y : X, l = eL y ∧ fit y) (hf : DataW.trod enc P w 0 (fun _ => true) true fuel t cs = some x) :
    ∃ (A : Option Addr) (l : List X) (cap : Nat), cs = [.slice A l.length cap] ∧ CellsAt w A (l.flatMap eL) ∧ l.length ≤ cap ∧ cap ≤ maxLen ∧ ∀ x ∈ l, fit x := by
  rcases open_slice ht hf with h2 | ⟨a, len, cap, m, n, D, Pl, hcs, hb, hl, hm, hmm, hx, hi⟩
  · exact ⟨none, [], 0, h2.1, CellsAt.empty _ _, by simp, by unfold maxLen; simp, by simp⟩
  · subst hcs
    simp only [if_true] at hmm
    subst hmm
    have key : ∀ i : Fin len, ∃ y : X, (∀ j u, (eL y)[j]? = some u → w.cell? (a.add (i * K + j)) = some u) ∧ fit y := by
      intro i
      obtain ⟨cs', hc, ht'⟩ := hi i (by omega)
      rw [hC] at hc
      obtain ⟨_, hcl, hat⟩ := World.cells?_some hc
      obtain ⟨y, e1, h1⟩ := one _ _ _ hcl ht'
      refine ⟨y, fun j u hj => ?_, h1⟩
      have hjl : j < K := by rw [← hlen y]; exact (List.getElem?_eq_some_iff.1 hj).1
      rw [← Go.Deep.add_add, hat j hjl, e1]
      exact hj
    obtain ⟨F, hF⟩ := Classical.axiomOfChoice key
    have hll : (List.ofFn F).length = len := by simp
    refine ⟨some a, List.ofFn F, _, by rw [hll], fun j u hj => ?_, by rw [hll]; exact hl, hm, fun x hx => ?_⟩
    · obtain ⟨k, hk, e1, e2⟩ := flatMap_inv eL K hlen hK _ j u hj
      rw [hll] at hk
      have h := (hF ⟨k, hk⟩).1 (j % K) u (by simpa using e2)
      obtain ⟨b, off, spot⟩ := a
      have hspot : spot = none := by
        have hp0 : 0 < len := by omega
        obtain ⟨u0, hu0⟩ : ∃ u0, (eL (F ⟨0, hp0⟩))[0]? = some u0 := ⟨_, List.getElem?_eq_getElem (by rw [hlen]; exact hK)⟩
        have h0 := (hF ⟨0, hp0⟩).1 0 u0 hu0
        simpa [Addr.add] using World.cell?_spot h0
      subst hspot
      simp only [Go.WideShapes.add_plain, e1, Nat.div_add_mod'] at h
      exact ⟨b, off, rfl, cell_lt h, h⟩
    · obtain ⟨i, rfl⟩ := List.mem_ofFn.1 hx
      exact (hF i).2
end
/-- What was heard, and where its message's table lies. -/
structure HA where
  m : Msg
  A : Option Addr
  cap : Nat
  age : Int
def HA.hd (x : HA) : Hd := ⟨x.m, x.age⟩
def haL (x : HA) : List Value := (msgCells x.m x.A x.cap).toList ++ [.int .i64 x.age]
theorem haL_len (x : HA) : (haL x).length = 15 := rfl
/-- What is so of all that came in. -/
structure HWf (x : HA) : Prop where
  len : x.m.table.length ≤ x.cap
  cap : x.cap ≤ maxLen
  msg : MsgWf x.m
  age : (Lit.int .i64 x.age).wf = true
/-- The slice at B reads as this. -/
structure HeardsAt (w : World) (B : Option Addr) (l : List HA) : Prop where
  cells : CellsAt w B (l.flatMap haL)
  tabs : ∀ x ∈ l, PairsAt w x.A x.m.table
namespace HeardsAt
variable {w w' : World} {B : Option Addr} {l : List HA}
theorem below (h : HeardsAt w B l) (k : Ok w w') : HeardsAt w' B l := ⟨h.cells.below k, fun x hx => (h.tabs x hx).below k⟩
theorem empty (w : World) (B : Option Addr) : HeardsAt w B [] := ⟨CellsAt.empty _ _, by simp⟩
end HeardsAt
theorem trod_heard {H : Type} {enc : TypeId × Value → H} {w : World} (fuel : Nat) (l : List Value) (x : DataW H × List MemPlace) (hcl : l.length = 15) (hf : DataW.trod enc Tryz.prog w 0 (fun _ => true) true fuel 49 l = some x) :
    ∃ y : HA, l = haL y ∧ PairsAt w y.A y.m.table ∧ HWf y := by
  obtain ⟨ys, n', hn', hy, hlen, hyl, hfl⟩ := DataW.trod_struct Tryz.underlying49 hf
  have hys : ys.length = 2 := hyl
  have cI : Tryz.prog.cellsOf 3 = 1 := by kernel_rfl
  have cM : Tryz.prog.cellsOf 47 = 14 := by kernel_rfl
  have g0 : DataW.trod enc Tryz.prog w 0 (fun _ => true) true n' 47 ((l.drop 0).take (Tryz.prog.cellsOf 47)) = ys[0]? := hfl 0 _ rfl
  rw [cM, List.drop_zero, List.getElem?_eq_getElem (by omega)] at g0
  have g1 : DataW.trod enc Tryz.prog w 0 (fun _ => true) true n' 3 ((l.drop 14).take (Tryz.prog.cellsOf 3)) = ys[1]? := hfl 1 _ rfl
  rw [cI, List.getElem?_eq_getElem (by omega)] at g1
  obtain ⟨m, A, c, e, h1, h2, h3, h4, _⟩ := trod_msg (by rw [List.length_take]; omega) g0
  obtain ⟨z, e1, _, w1⟩ := DataW.trod_int Tryz.underlying3 g1
  rw [List.take_of_length_le (by rw [List.length_drop]; omega)] at e1
  refine ⟨⟨m, A, c, z⟩, ?_, h1, h2, h3, h4, w1⟩
  rw [← List.take_append_drop 14 l, e, e1]
  rfl
/-- A slice of what was heard. -/
theorem open_heards {H : Type} {enc : TypeId × Value → H} {w : World} {base : Nat} {v : Value} {d : DataW H} {ps : List MemPlace} (hv : Value.okWide Tryz.prog w .any base 42 v) (h : DataW.Trod enc Tryz.prog w 0 (fun _ => true) true 42 v d ps) :
    ∃ (B : Option Addr) (l : List HA) (cap : Nat), v = .slice B l.length cap ∧ HeardsAt w B l ∧ l.length ≤ cap ∧ cap ≤ maxLen ∧ ∀ x ∈ l, HWf x := by
  obtain ⟨a0, len, cap, rfl⟩ := okWide_slice Tryz.underlying42 hv
  obtain ⟨fuel, hf⟩ := h
  obtain ⟨B, l, c, e, h1, h2, h3, h4⟩ := trod_list haL 15 (by decide) haL_len (fun y => PairsAt w y.A y.m.table ∧ HWf y) Tryz.underlying42 (by kernel_rfl) trod_heard hf
  simp [Value.cells] at e
  obtain ⟨rfl, rfl, rfl⟩ := e
  exact ⟨_, l, _, rfl, ⟨h1, fun x hx => (h4 x hx).1⟩, h2, h3, fun x hx => (h4 x hx).2⟩
/-- What befalls in a beat, and where it lies. -/
structure In where
  ticks : Int
  B : Option Addr
  heard : List HA
  hcap : Nat
  ref : Bool
  reading : Int
  given : Bool
  T : Option Addr
  table : List (Int × Int)
  tcap : Nat
def In.hds (x : In) : List Hd := x.heard.map HA.hd
def inL (x : In) : List Value := [.int .i64 x.ticks, .slice x.B x.heard.length x.hcap, .bool x.ref, .int .i64 x.reading, .bool x.given, .slice x.T x.table.length x.tcap]
theorem inL_len (x : In) : (inL x).length = 6 := rfl
/-- An input, as a value. -/
def inV (x : In) : Value := .agg #[.int .i64 x.ticks, .slice x.B x.heard.length x.hcap, .bool x.ref, .int .i64 x.reading, .bool x.given, .slice x.T x.table.length x.tcap]
def inCells (x : In) : Array Value := #[.int .i64 x.ticks, .slice x.B x.heard.length x.hcap, .bool x.ref, .int .i64 x.reading, .bool x.given, .slice x.T x.table.length x.tcap]
structure InWf (x : In) : Prop where
  ticks : (Lit.int .i64 x.ticks).wf = true
  reading : (Lit.int .i64 x.reading).wf = true
  hlen : x.heard.length ≤ x.hcap
  hcap : x.hcap ≤ maxLen
  heard : ∀ y ∈ x.heard, HWf y
  tlen : x.table.length ≤ x.tcap
  tcap : x.tcap ≤ maxLen
  table : ∀ e ∈ x.table, (Lit.int .i64 e.1).wf = true ∧ (Lit.int .i64 e.2).wf = true
/-- What it points to lies so. -/
structure InAt (w : World) (x : In) : Prop where
  heard : HeardsAt w x.B x.heard
  table : PairsAt w x.T x.table
theorem InAt.below {w w' : World} {x : In} (h : InAt w x) (k : Ok w w') : InAt w' x := ⟨h.heard.below k, h.table.below k⟩
theorem trod_input {H : Type} {enc : TypeId × Value → H} {w : World} (fuel : Nat) (l : List Value) (x : DataW H × List MemPlace) (hcl : l.length = 6) (hf : DataW.trod enc Tryz.prog w 0 (fun _ => true) true fuel 44 l = some x) :
    ∃ y : In, l = inL y ∧ InAt w y ∧ InWf y := by
  obtain ⟨ys, n', hn', hy, hlen, hyl, hfl⟩ := DataW.trod_struct Tryz.underlying44 hf
  have hys : ys.length = 6 := hyl
  have cI : Tryz.prog.cellsOf 3 = 1 := by kernel_rfl
  have cB : Tryz.prog.cellsOf 4 = 1 := by kernel_rfl
  have cH : Tryz.prog.cellsOf 42 = 1 := by kernel_rfl
  have cL : Tryz.prog.cellsOf 26 = 1 := by kernel_rfl
  match l, hcl with
  | [c0, c1, c2, c3, c4, c5], _ =>
    have g0 : DataW.trod enc Tryz.prog w 0 (fun _ => true) true n' 3 (([c0, c1, c2, c3, c4, c5].drop 0).take (Tryz.prog.cellsOf 3)) = ys[0]? := hfl 0 _ rfl
    have g1 : DataW.trod enc Tryz.prog w 0 (fun _ => true) true n' 42 (([c0, c1, c2, c3, c4, c5].drop 1).take (Tryz.prog.cellsOf 42)) = ys[1]? := hfl 1 _ rfl
    have g2 : DataW.trod enc Tryz.prog w 0 (fun _ => true) true n' 4 (([c0, c1, c2, c3, c4, c5].drop 2).take (Tryz.prog.cellsOf 4)) = ys[2]? := hfl 2 _ rfl
    have g3 : DataW.trod enc Tryz.prog w 0 (fun _ => true) true n' 3 (([c0, c1, c2, c3, c4, c5].drop 3).take (Tryz.prog.cellsOf 3)) = ys[3]? := hfl 3 _ rfl
    have g4 : DataW.trod enc Tryz.prog w 0 (fun _ => true) true n' 4 (([c0, c1, c2, c3, c4, c5].drop 4).take (Tryz.prog.cellsOf 4)) = ys[4]? := hfl 4 _ rfl
    have g5 : DataW.trod enc Tryz.prog w 0 (fun _ => true) true n' 26 (([c0, c1, c2, c3, c4, c5].drop 5).take (Tryz.prog.cellsOf 26)) = ys[5]? := hfl 5 _ rfl
    rw [cI, List.getElem?_eq_getElem (by omega)] at g0 g3
    rw [cB, List.getElem?_eq_getElem (by omega)] at g2 g4
    rw [cH, List.getElem?_eq_getElem (by omega)] at g1
    rw [cL, List.getElem?_eq_getElem (by omega)] at g5
    obtain ⟨z0, e0, _, w0⟩ := DataW.trod_int Tryz.underlying3 g0
    obtain ⟨z3, e3, _, w3⟩ := DataW.trod_int Tryz.underlying3 g3
    obtain ⟨z2, e2, _⟩ := DataW.trod_bool Tryz.underlying4 g2
    obtain ⟨z4, e4, _⟩ := DataW.trod_bool Tryz.underlying4 g4
    obtain ⟨B, hs, hc, e1, h1, h2, h3, h4⟩ := trod_list haL 15 (by decide) haL_len (fun y => PairsAt w y.A y.m.table ∧ HWf y) Tryz.underlying42 (by kernel_rfl) trod_heard g1
    obtain ⟨T, tb, tc, e5, k1, k2, k3, k4, _⟩ := trod_pairs Tryz.underlying26 Tryz.underlying68 (by kernel_rfl) (by kernel_rfl) Tryz.underlying3 Tryz.underlying3 g5
    refine ⟨⟨z0, B, hs, hc, z2, z3, z4, T, tb, tc⟩, ?_, ⟨⟨h1, fun x hx => (h4 x hx).1⟩, k1⟩, ⟨w0, w3, h2, h3, fun x hx => (h4 x hx).2, k2, k3, k4⟩⟩
    simp only [List.drop_zero, List.drop_succ_cons, List.take_succ_cons, List.take_zero, List.cons.injEq, and_true] at e0 e1 e2 e3 e4 e5
    rw [e0, e1, e2, e3, e4, e5]
    rfl
/-- An input that came in by value. -/
theorem open_input {H : Type} {enc : TypeId × Value → H} {w : World} {b0 : Nat} {v : Value} {d : DataW H} {p : List MemPlace} (hv : Value.okWide Tryz.prog w .any b0 44 v) (h : DataW.Trod enc Tryz.prog w 0 (fun _ => true) true 44 v d p) :
    ∃ x : In, v = inV x ∧ InAt w x ∧ InWf x := by
  obtain ⟨cs, rfl, hsz⟩ := okWide_struct Tryz.underlying44 hv
  obtain ⟨fuel, hf⟩ := h
  rw [show Tryz.prog.cellsOf 44 = 6 by kernel_rfl] at hsz
  obtain ⟨x, e, h1, h2⟩ := trod_input _ cs.toList _ (by simpa using hsz) hf
  have hcs : cs = inCells x := by
    rw [← Array.toArray_toList (xs := cs), e]
    rfl
  exact ⟨x, by rw [hcs]; rfl, h1, h2⟩
/-- The slice at B reads as these inputs. -/
structure InsAt (w : World) (B : Option Addr) (l : List In) : Prop where
  cells : CellsAt w B (l.flatMap inL)
  parts : ∀ x ∈ l, InAt w x
theorem InsAt.below {w w' : World} {B : Option Addr} {l : List In} (h : InsAt w B l) (k : Ok w w') : InsAt w' B l := ⟨h.cells.below k, fun x hx => (h.parts x hx).below k⟩
/-- A slice of inputs that came in. -/
theorem open_inputs {H : Type} {enc : TypeId × Value → H} {w : World} {base : Nat} {v : Value} {d : DataW H} {ps : List MemPlace} (hv : Value.okWide Tryz.prog w .any base 31 v) (h : DataW.Trod enc Tryz.prog w 0 (fun _ => true) true 31 v d ps) :
    ∃ (B : Option Addr) (l : List In) (cap : Nat), v = .slice B l.length cap ∧ InsAt w B l ∧ l.length ≤ cap ∧ cap ≤ maxLen ∧ ∀ x ∈ l, InWf x := by
  obtain ⟨a0, len, cap, rfl⟩ := okWide_slice Tryz.underlying31 hv
  obtain ⟨fuel, hf⟩ := h
  obtain ⟨B, l, c, e, h1, h2, h3, h4⟩ := trod_list inL 6 (by decide) inL_len (fun y => InAt w y ∧ InWf y) Tryz.underlying31 (by kernel_rfl) trod_input hf
  simp [Value.cells] at e
  obtain ⟨rfl, rfl, rfl⟩ := e
  exact ⟨_, l, _, rfl, ⟨h1, fun x hx => (h4 x hx).1⟩, h2, h3, fun x hx => (h4 x hx).2⟩
end Go.Proofs.YtmmiboblofopgaaGreat
