/- Several texts of mine in one: B26, C14d, W49, W23, C19d, C14e. -/
import Derived.Test.YtnhjdinmakkknaaGreatDoorB03
import Derived.Test.YtnhjdinmakkknaaGreatDoorP03
import Derived.Test.YtnhjdinmakkknaaGreatDoorMA
import Derived.Test.YtnhjdinmakkknaaGreatDoorP36
import Derived.Test.YtnhjdinmakkknaaGreatDoorB09
import Derived.Test.YtnhjdinmakkknaaGreatDoorB12
import Derived.Test.YtnhjdinmakkknaaGreatDoorP24
/- Words of my own: what was heard (slices of api.Heard), and what befalls in a beat (api.Input, by value and in slices), as they came in. -/
namespace Go.Proofs.YtnhjdinmakkknaaGreatDoor
open Go.RowKit Go.WideShapes Go.ChangeShapes Go.Joins Go.Deep
set_option maxRecDepth 100000
section
variable {H : Type} {enc : TypeId × Value → H} {P : Program} {w : World}
/-- A slice of things of K cells each, read one by one. -/
theorem trod_list {X : Type} (eL : X → List Value) (K : Nat) (hK : 0 < K) (hlen : ∀ x, (eL x).length = K) (fit : X → Prop) {t e : TypeId} {fuel : Nat} {cs : List Value} {x : DataW H × List MemPlace} (ht : P.underlying t = some (.slice e)) (hC : P.cellsOf e = K)
    (one : ∀ (fuel : Nat) (l : List Value) (x : DataW H × List MemPlace), l.length = K → DataW.trod enc P w 0 (fun _ => true) true fuel e l = some x → ∃ y : X, l = eL y ∧ fit y) (hf : DataW.trod enc P w 0 (fun _ => true) true fuel t cs = some x) :
    ∃ (A : Option Addr) (l : List X) (cap : Nat), cs = [.slice A l.length cap] ∧ CellsAt w A (l.flatMap eL) ∧ l.length ≤ cap ∧ cap ≤ maxLen ∧ ∀ x ∈ l, fit x := by
  rcases open_slice ht hf with h2 | ⟨a, len, cap, m, n, D, Pl, hcs, hb, hl, hm, hmm, hx, hi⟩
  · exact ⟨none, [], 0, h2.1, CellsAt.empty _ _, by simp, by unfold maxLen; simp, by simp⟩
  · subst hcs
    simp only [if_true] at hmm
    subst hmm
    have key : ∀ i : Fin len, ∃ y : X, (∀ j u, (eL y)[j]? = some u → w.cell? (a.add (i * K + j)) = some u) ∧ fit y := by
      intro i
      obtain ⟨cs', hc, ht'⟩ := hi i (by omega)
      rw [hC] at hc
      obtain ⟨_, hcl, hat⟩ := World.cells?_some hc
      obtain ⟨y, e1, h1⟩ := one _ _ _ hcl ht'
      refine ⟨y, fun j u hj => ?_, h1⟩
      have hjl : j < K := by rw [← hlen y]; exact (List.getElem?_eq_some_iff.1 hj).1
      rw [← Go.Deep.add_add, hat j hjl, e1]
      exact hj
    obtain ⟨F, hF⟩ := Classical.axiomOfChoice key
    have hll : (List.ofFn F).length = len := by simp
    refine ⟨some a, List.ofFn F, _, by rw [hll], fun j u hj => ?_, by rw [hll]; exact hl, hm, fun x hx => ?_⟩
    · obtain ⟨k, hk, e1, e2⟩ := flatMap_inv eL K hlen hK _ j u hj
      rw [hll] at hk
      have h := (hF ⟨k, hk⟩).1 (j % K) u (by simpa using e2)
      obtain ⟨b, off, spot⟩ := a
      have hspot : spot = none := by
        have hp0 : 0 < len := by omega
        obtain ⟨u0, hu0⟩ : ∃ u0, (eL (F ⟨0, hp0⟩))[0]? = some u0 := ⟨_, List.getElem?_eq_getElem (by rw [hlen]; exact hK)⟩
        have h0 := (hF ⟨0, hp0⟩).1 0 u0 hu0
        simpa [Addr.add] using World.cell?_spot h0
      subst hspot
      simp only [Go.WideShapes.add_plain, e1, Nat.div_add_mod'] at h
      exact ⟨b, off, rfl, cell_lt h, h⟩
    · obtain ⟨i, rfl⟩ := List.mem_ofFn.1 hx
      exact (hF i).2
end
/-- What was heard, and where its message's table lies. -/
structure HA where
  m : Msg
  A : Option Addr
  cap : Nat
  age : Int
def HA.hd (x : HA) : Hd := ⟨x.m, x.age⟩
def haL (x : HA) : List Value := (msgCells x.m x.A x.cap).toList ++ [.int .i64 x.age]
theorem haL_len (x : HA) : (haL x).length = 15 := rfl
/-- What is so of all that came in. -/
structure HWf (x : HA) : Prop where
  len : x.m.table.length ≤ x.cap
  cap : x.cap ≤ maxLen
  msg : MsgWf x.m
  age : (Lit.int .i64 x.age).wf = true
/-- The slice at B reads as this. -/
structure HeardsAt (w : World) (B : Option Addr) (l : List HA) : Prop where
  cells : CellsAt w B (l.flatMap haL)
  tabs : ∀ x ∈ l, PairsAt w x.A x.m.table
namespace HeardsAt
variable {w w' : World} {B : Option Addr} {l : List HA}
theorem below (h : HeardsAt w B l) (k : Ok w w') : HeardsAt w' B l := ⟨h.cells.below k, fun x hx => (h.tabs x hx).below k⟩
theorem empty (w : World) (B : Option Addr) : HeardsAt w B [] := ⟨CellsAt.empty _ _, by simp⟩
end HeardsAt
theorem trod_heard {H : Type} {enc : TypeId × Value → H} {w : World} (fuel : Nat) (l : List Value) (x : DataW H × List MemPlace) (hcl : l.length = 15) (hf : DataW.trod enc Tryz.prog w 0 (fun _ => true) true fuel 65 l = some x) :
    ∃ y : HA, l = haL y ∧ PairsAt w y.A y.m.table ∧ HWf y := by
  obtain ⟨ys, n', hn', hy, hlen, hyl, hfl⟩ := DataW.trod_struct Tryz.underlying65 hf
  have hys : ys.length = 2 := hyl
  have cI : Tryz.prog.cellsOf 3 = 1 := by kernel_rfl
  have cM : Tryz.prog.cellsOf 51 = 14 := by kernel_rfl
  have g0 : DataW.trod enc Tryz.prog w 0 (fun _ => true) true n' 51 ((l.drop 0).take (Tryz.prog.cellsOf 51)) = ys[0]? := hfl 0 _ rfl
  rw [cM, List.drop_zero, List.getElem?_eq_getElem (by omega)] at g0
  have g1 : DataW.trod enc Tryz.prog w 0 (fun _ => true) true n' 3 ((l.drop 14).take (Tryz.prog.cellsOf 3)) = ys[1]? := hfl 1 _ rfl
  rw [cI, List.getElem?_eq_getElem (by omega)] at g1
  obtain ⟨m, A, c, e, h1, h2, h3, h4, _⟩ := trod_msg (by rw [List.length_take]; omega) g0
  obtain ⟨z, e1, _, w1⟩ := DataW.trod_int Tryz.underlying3 g1
  rw [List.take_of_length_le (by rw [List.length_drop]; omega)] at e1
  refine ⟨⟨m, A, c, z⟩, ?_, h1, h2, h3, h4, w1⟩
  rw [← List.take_append_drop 14 l, e, e1]
  rfl
/-- What befalls in a beat, and where it lies. -/
structure In where
  ticks : Int
  B : Option Addr
  heard : List HA
  hcap : Nat
  ref : Bool
  reading : Int
  given : Bool
  T : Option Addr
  table : List (Int × Int)
  tcap : Nat
def In.hds (x : In) : List Hd := x.heard.map HA.hd
def inL (x : In) : List Value := [.int .i64 x.ticks, .slice x.B x.heard.length x.hcap, .bool x.ref, .int .i64 x.reading, .bool x.given, .slice x.T x.table.length x.tcap]
theorem inL_len (x : In) : (inL x).length = 6 := rfl
/-- An input, as a value. -/
def inV (x : In) : Value := .agg #[.int .i64 x.ticks, .slice x.B x.heard.length x.hcap, .bool x.ref, .int .i64 x.reading, .bool x.given, .slice x.T x.table.length x.tcap]
def inCells (x : In) : Array Value := #[.int .i64 x.ticks, .slice x.B x.heard.length x.hcap, .bool x.ref, .int .i64 x.reading, .bool x.given, .slice x.T x.table.length x.tcap]
structure InWf (x : In) : Prop where
  ticks : (Lit.int .i64 x.ticks).wf = true
  reading : (Lit.int .i64 x.reading).wf = true
  hlen : x.heard.length ≤ x.hcap
  hcap : x.hcap ≤ maxLen
  heard : ∀ y ∈ x.heard, HWf y
  tlen : x.table.length ≤ x.tcap
  tcap : x.tcap ≤ maxLen
  table : ∀ e ∈ x.table, (Lit.int .i64 e.1).wf = true ∧ (Lit.int .i64 e.2).wf = true
/-- What it points to lies so. -/
structure InAt (w : World) (x : In) : Prop where
  heard : HeardsAt w x.B x.heard
  table : PairsAt w x.T x.table
theorem InAt.below {w w' : World} {x : In} (h : InAt w x) (k : Ok w w') : InAt w' x := ⟨h.heard.below k, h.table.below k⟩
theorem trod_input {H : Type} {enc : TypeId × Value → H} {w : World} (fuel : Nat) (l : List Value) (x : DataW H × List MemPlace) (hcl : l.length = 6) (hf : DataW.trod enc Tryz.prog w 0 (fun _ => true) true fuel 49 l = some x) :
    ∃ y : In, l = inL y ∧ InAt w y ∧ InWf y := by
  obtain ⟨ys, n', hn', hy, hlen, hyl, hfl⟩ := DataW.trod_struct Tryz.underlying49 hf
  have hys : ys.length = 6 := hyl
  have cI : Tryz.prog.cellsOf 3 = 1 := by kernel_rfl
  have cB : Tryz.prog.cellsOf 4 = 1 := by kernel_rfl
  have cH : Tryz.prog.cellsOf 47 = 1 := by kernel_rfl
  have cL : Tryz.prog.cellsOf 26 = 1 := by kernel_rfl
  match l, hcl with
  | [c0, c1, c2, c3, c4, c5], _ =>
    have g0 : DataW.trod enc Tryz.prog w 0 (fun _ => true) true n' 3 (([c0, c1, c2, c3, c4, c5].drop 0).take (Tryz.prog.cellsOf 3)) = ys[0]? := hfl 0 _ rfl
    have g1 : DataW.trod enc Tryz.prog w 0 (fun _ => true) true n' 47 (([c0, c1, c2, c3, c4, c5].drop 1).take (Tryz.prog.cellsOf 47)) = ys[1]? := hfl 1 _ rfl
    have g2 : DataW.trod enc Tryz.prog w 0 (fun _ => true) true n' 4 (([c0, c1, c2, c3, c4, c5].drop 2).take (Tryz.prog.cellsOf 4)) = ys[2]? := hfl 2 _ rfl
    have g3 : DataW.trod enc Tryz.prog w 0 (fun _ => true) true n' 3 (([c0, c1, c2, c3, c4, c5].drop 3).take (Tryz.prog.cellsOf 3)) = ys[3]? := hfl 3 _ rfl
    have g4 : DataW.trod enc Tryz.prog w 0 (fun _ => true) true n' 4 (([c0, c1, c2, c3, c4, c5].drop 4).take (Tryz.prog.cellsOf 4)) = ys[4]? := hfl 4 _ rfl
    have g5 : DataW.trod enc Tryz.prog w 0 (fun _ => true) true n' 26 (([c0, c1, c2, c3, c4, c5].drop 5).take (Tryz.prog.cellsOf 26)) = ys[5]? := hfl 5 _ rfl
    rw [cI, List.getElem?_eq_getElem (by omega)] at g0 g3
    rw [cB, List.getElem?_eq_getElem (by omega)] at g2 g4
    rw [cH, List.getElem?_eq_getElem (by omega)] at g1
    rw [cL, List.getElem?_eq_getElem (by omega)] at g5
    obtain ⟨z0, e0, _, w0⟩ := DataW.trod_int Tryz.underlying3 g0
    obtain ⟨z3, e3, _, w3⟩ := DataW.trod_int Tryz.underlying3 g3
    obtain ⟨z2, e2, _⟩ := DataW.trod_bool Tryz.underlying4 g2
    obtain ⟨z4, e4, _⟩ := DataW.trod_bool Tryz.underlying4 g4
    obtain ⟨B, hs, hc, e1, h1, h2, h3, h4⟩ := trod_list haL 15 (by decide) haL_len (fun y => PairsAt w y.A y.m.table ∧ HWf y) Tryz.underlying47 (by kernel_rfl) trod_heard g1
    obtain ⟨T, tb, tc, e5, k1, k2, k3, k4, _⟩ := trod_pairs Tryz.underlying26 Tryz.underlying81 (by kernel_rfl) (by kernel_rfl) Tryz.underlying3 Tryz.underlying3 g5
    refine ⟨⟨z0, B, hs, hc, z2, z3, z4, T, tb, tc⟩, ?_, ⟨⟨h1, fun x hx => (h4 x hx).1⟩, k1⟩, ⟨w0, w3, h2, h3, fun x hx => (h4 x hx).2, k2, k3, k4⟩⟩
    simp only [List.drop_zero, List.drop_succ_cons, List.take_succ_cons, List.take_zero, List.cons.injEq, and_true] at e0 e1 e2 e3 e4 e5
    rw [e0, e1, e2, e3, e4, e5]
    rfl
/-- An input that came in by value. -/
theorem open_input {H : Type} {enc : TypeId × Value → H} {w : World} {b0 : Nat} {v : Value} {d : DataW H} {p : List MemPlace} (hv : Value.okWide Tryz.prog w .any b0 49 v) (h : DataW.Trod enc Tryz.prog w 0 (fun _ => true) true 49 v d p) :
    ∃ x : In, v = inV x ∧ InAt w x ∧ InWf x := by
  obtain ⟨cs, rfl, hsz⟩ := okWide_struct Tryz.underlying49 hv
  obtain ⟨fuel, hf⟩ := h
  rw [show Tryz.prog.cellsOf 49 = 6 by kernel_rfl] at hsz
  obtain ⟨x, e, h1, h2⟩ := trod_input _ cs.toList _ (by simpa using hsz) hf
  have hcs : cs = inCells x := by
    rw [← Array.toArray_toList (xs := cs), e]
    rfl
  exact ⟨x, by rw [hcs]; rfl, h1, h2⟩
/-- The slice at B reads as these inputs. -/
structure InsAt (w : World) (B : Option Addr) (l : List In) : Prop where
  cells : CellsAt w B (l.flatMap inL)
  parts : ∀ x ∈ l, InAt w x
theorem InsAt.below {w w' : World} {B : Option Addr} {l : List In} (h : InsAt w B l) (k : Ok w w') : InsAt w' B l := ⟨h.cells.below k, fun x hx => (h.parts x hx).below k⟩
end Go.Proofs.YtnhjdinmakkknaaGreatDoor
namespace Go.Proofs.YtnhjdinmakkknaaGreatDoor
open Go.RowKit Go.Maps Go.Sort
set_option maxRecDepth 100000
attribute [local go_sem ↓] Go.wp_at_zero Go.wp_at_succ
/-- Behind some keys of Near's range. -/
def NearAt (b : Nat) (f : NF) (D : DataW Unit) (w wr : World) (v : Value) (left : Lit → Bool) (cnt : Nat) : Prop :=
  wr.ranges Tryz.prog 3 nbElem b w.heap.size 48 D left cnt ∧ ∃ c, RowN (w.heap.size + 1) wr v c ∧ Coll f left c ∧ c.length + cnt ≤ 48 ∧ Ok w wr
theorem nearAt_start {b : Nat} {f : NF} {D : DataW Unit} {w w0 : World} (hf : ∀ k, 48 ≤ k → f k = none) (hown : w.ownsMap Tryz.prog 3 nbElem b 48 D) (hh : ∀ x, (Lit.int .i64 x).wf = true → Holds D x (Mem.look f x)) (hr : w0.ranges Tryz.prog 3 nbElem b w.heap.size 48 D (Maps.has D) (Maps.size D)) (hg : w.grownBy w0 none) :
    NearAt b f D w w0 (.slice none 0 0) (Maps.has D) (Maps.size D) :=
  ⟨hr, [], RowN.start _ _, coll_start hh, by rw [size_is hown hf hh]; simpa using Mem.nums_le f, ok_row (Ok.refl w) hg (fun k hk => by cases hk)⟩
set_option maxHeartbeats 1600000 in
theorem memNear (g b : Nat) (f : NF) (w : World) (hT : TabM w g b f) (hG : Mem.Good f) :
    Calls Tryz.prog 45 #[.pointer (some ⟨g, 0, none⟩)] w (NearEnd (Mem.nums f) w) := by
  have c0 := hT.own.cell 0 (v := .map (some b)) rfl
  obtain ⟨D, hown, hh⟩ := hT.map
  have HH := Lib.hid (And.intro hG.far hh)
  have HO := Lib.hid hown
  clear hT hG hh
  go_enter Tryz.func45, Tryz.ntmps45
  go_wp2_with (at_range; refine wpList_range_own _ rfl _ 111 rfl 3 120 keyInt Tryz.underlying111 _ b 48 _ rfl hown ?_; intro w0 hrg0 hg0 hs0)
  go_frame
  go_loopw [3] (fun v wr => ∃ left cnt, Hid (NearAt b f D w wr v left cnt)) (fun _ wr => wr.rangeLeft b w.heap.size)
  case atStart => exact ⟨_, _, Lib.hid (nearAt_start HH.out.1 HO.out HH.out.2 hrg0 hg0)⟩
  case round =>
    obtain ⟨left, cnt, hrel⟩ := hrel
    have hrg := hrel.out.1
    clear hrg0 hg0 hs0 c0 hown
    go_wp2_with (at_next; refine wpList_next_ranges _ rfl _ rfl 3 keyInt nbElem (Value.int .i64) nbV (fun key kl hk => by obtain ⟨x, hx, _⟩ := Maps.keyOf_int_inv Tryz.underlying3 hk; exact ⟨x, hx⟩) (fun v y hv => by obtain ⟨p, hp, _⟩ := nbElem_inv hv; exact ⟨p, hp⟩) b w.heap.size 48 _ _ _ rfl hrg ?_ ?_)
    · intro _ hl0
      obtain ⟨c, hrow, hC, hle, hok⟩ := hrel.out.2
      have KS := Lib.hid (sortN hrow (by omega) (coll_end hC hl0) hok (Nat.le_succ _))
      clear hrel hrg hrow hC hle hok hl0
      go_wp2_with (go_at_call 103; (with_reducible refine KS.out.mono ?_); rintro e w2 ⟨rfl, hE⟩; replace hE := Lib.hid hE)
      go_ret
      exact hE.out
    · intro x p1 p2 kl y ys w1 cnt1 hkey hlx hv hat hrg1 hlt hg1 hs1 hen
      obtain ⟨x', ex, rfl, hwx⟩ := Maps.keyOf_int_inv Tryz.underlying3 hkey
      cases ex
      obtain ⟨k, rfl, hk, hkm⟩ := coll_key HH.out.1 HH.out.2 hwx hat
      obtain ⟨c, hrow, hC, hle, hok⟩ := hrel.out.2
      have hon : Only w.heap.size wr w1 := (Only.refl _ _).grow hg1 fun k hk => .inl (by cases hk; rfl)
      have hrow1 := hrow.only hon (Nat.lt_succ_self _)
      have hok1 := ok_row hok hg1 (fun k hk => by cases hk; exact Nat.le_refl _)
      have HM := Lib.hid (And.intro hrg1 (And.intro (coll_step hC hkm hlx) (And.intro hle hlt)))
      have HRW := Lib.hid (And.intro hrow1 hok1)
      have hm0 := hrg.left_eq
      have hsz : w.heap.size + 1 ≤ w1.heap.size := by have := hrg1.lt; omega
      clear hrel hrow hC hon hrow1 hok1 hrg1 hlx hat hwx hkey hv hrg hkm hg1 hs1
      go_wp2_with (at_builtin; refine wpList_append_ints rfl (.tmp 16) (.tmp 18) 56 rfl (w.heap.size + 1) 3 Tryz.underlying56 info14 _ (Mem.ints c) c.length (Mem.ints_length c).symm rfl (HRW.out.1.next ((Ok.refl _).alloc _)) _ [(k : Int)] 1 _ rfl rfl (ints_new _ _ _ _ rfl rfl) (by rw [Mem.ints_length]; simp; omega) (by simp; omega) ?_; intro v' w2 hr2 hg2; have HR2 := Lib.hid (And.intro hr2 hg2); clear hr2 hg2)
      go_roundw
      case rel =>
        have hgr := HRW.out.1.lt
        have hrr : (w2.ranges Tryz.prog 3 nbElem b w.heap.size 48 D (fun z => left z && !z.sameKey (.int .i64 (k : Int))) cnt1) := by
          refine (HM.out.1.alloc (.cells #[.int .i64 (k : Int)] 3)).kept HR2.out.2 (fun e => ?_) (fun e => ?_)
          · have := (hgr b e.symm).1
            have := HO.out.lt
            omega
          · have := (hgr _ e.symm).1
            omega
        exact ⟨_, _, Lib.hid ⟨hrr, c ++ [k], RowN.more HR2.out.1, HM.out.2.1, by have := HM.out.2.2; rw [List.length_append]; simp; omega, ok_row (HRW.out.2.alloc _) HR2.out.2 fun j hj => by have := (hgr j hj).1; omega⟩⟩
      case measure =>
        have hgr := HRW.out.1.lt
        have hrr : (w2.ranges Tryz.prog 3 nbElem b w.heap.size 48 D (fun z => left z && !z.sameKey (.int .i64 (k : Int))) cnt1) := by
          refine (HM.out.1.alloc (.cells #[.int .i64 (k : Int)] 3)).kept HR2.out.2 (fun e => ?_) (fun e => ?_)
          · have := (hgr b e.symm).1
            have := HO.out.lt
            omega
          · have := (hgr _ e.symm).1
            omega
        rw [hrr.left_eq, hm0]
        exact hlt
end Go.Proofs.YtnhjdinmakkknaaGreatDoor
namespace Go.Proofs.YtnhjdinmakkknaaGreatDoor
open Go
section
variable {P : Program} {ops : Array Oper} {Q : Exit → Act → World → Prop}
/-- A guarded operation of the tail that leaves a value. -/
theorem wpOp_leavesG {i : Nat} {o : Oper} {K : Act → World → Prop} {a : Act} {w w' : World} {v : Value} (ho : ops[i]? = some o) (hg : Region.wanted o (yielded ops a.tmps) = true) (hr : (execOp a.eval o).run P w = .ok (.value v) w') (hK : K (a.put o.dst v) w') : wpOp P ops Q i K a w := by
  refine wpOp_step ho fun K' h => ?_
  rw [if_pos hg]
  unfold Oper.wp
  rw [hr, Oper.upon_value]
  exact h _ _ hK
/-- A guarded call among the last operations, by its contract. -/
theorem wpOp_entersG {i : Nat} {o : Oper} {K : Act → World → Prop} {a : Act} {w : World} {f : FuncId} {args : Array Value} (ho : ops[i]? = some o) (hg : Region.wanted o (yielded ops a.tmps) = true) (hr : (execOp a.eval o).run P w = .ok (.enter f args) w)
    (hc : Calls P f args w fun e w' => ∃ v, e = .returned v ∧ K (a.put o.dst v) w') : wpOp P ops Q i K a w := by
  refine wpOp_step ho fun K' h => ?_
  rw [if_pos hg]
  unfold Oper.wp
  rw [hr, Oper.upon_enter]
  refine hc.mono fun e w' h2 => ?_
  obtain ⟨v, rfl, hv⟩ := h2
  exact h _ _ hv
end
end Go.Proofs.YtnhjdinmakkknaaGreatDoor
namespace Go.Proofs.YtnhjdinmakkknaaGreatDoor
open Go.RowKit Go.WideShapes Go.ChangeShapes Go.Joins Go.Deep
theorem row_form {w : World} {B : Nat} {e : TypeId} {k n : Nat} {v : Value} {cs : List Value} (h : w.ownsRow B e k v n cs) : ∃ A cap, v = .slice A n cap ∧ n ≤ cap ∧ cap ≤ maxLen ∧ ∀ a, A = some a → B ≤ a.block ∧ a.block < w.heap.size := by
  have hx := h
  rcases h.2 with ⟨rfl, rfl⟩ | ⟨g, cap, cur, rfl, hb, hh, h1, h2, r⟩
  · exact ⟨none, 0, rfl, Nat.le_refl _, Nat.zero_le _, by simp⟩
  · refine ⟨_, cap, rfl, h1, h2, fun a ha => ?_⟩
    cases ha
    exact hx.lt g rfl
section
variable {P : Program} {w : World}
end
end Go.Proofs.YtnhjdinmakkknaaGreatDoor
namespace Go.Proofs.YtnhjdinmakkknaaGreatDoor
open Go.RowKit
set_option maxRecDepth 100000
attribute [local go_sem ↓] Go.wp_at_zero Go.wp_at_succ
/-- The tables alone. -/
def lists (ts : List TA) : List (List (Int × Int)) := ts.map TA.l
end Go.Proofs.YtnhjdinmakkknaaGreatDoor
namespace Go.Proofs.YtnhjdinmakkknaaGreatDoor
open Go.RowKit Go.Maps
set_option maxRecDepth 100000
attribute [local go_sem ↓] Go.wp_at_zero Go.wp_at_succ
theorem ints_only {r : Nat} {w w1 : World} {A : Option Addr} {l : List Int} (h : IntsAt w A l) (k : Only r w w1) (hA : ∀ a, A = some a → a.block ≠ r) : IntsAt w1 A l := fun j hj => by
  obtain ⟨b, off, e, hlt, hc⟩ := h j hj
  exact ⟨b, off, e, Nat.lt_of_lt_of_le hlt k.size, (k.cell (p := ⟨b, off + j, none⟩) hlt (show b ≠ r from hA _ e)).trans hc⟩
theorem memNext (a q : Int) (w : World) (ha : 0 ≤ a ∧ a ≤ 1073741824) (hq : 0 ≤ q ∧ q ≤ 1073741824) :
    Calls Tryz.prog 72 #[.agg #[.int .i64 a, .int .i64 q]] w fun e w' => e = .returned (.agg #[.int .i64 (Mem.next (a, q)).1, .int .i64 (Mem.next (a, q)).2]) ∧ Ok w w' := by
  have hok := Ok.refl w
  have e2 : (Mem.next (a, q)).2 = min (q + 1) 1073741824 := Mem.up_min hq.2
  have e1 : (Mem.next (a, q)).1 = if q = 0 then min (a + 1) 1073741824 else 0 := by
    show (if q = 0 then Mem.up a else 0) = _
    rw [Mem.up_min ha.2]
  by_cases h0 : q = 0
  · subst h0
    rw [if_pos rfl] at e1
    by_cases h1 : 1073741824 < a + 1
    · rw [show min (a + 1) (1073741824 : Int) = 1073741824 by omega] at e1
      rw [show min (0 + 1) (1073741824 : Int) = 1 by omega] at e2
      rw [e1, e2]
      clear e1 e2
      go_enter Tryz.func72, Tryz.ntmps72
      go_wp2
      exact bodyPost_ret (v := .agg #[.int .i64 1073741824, .int .i64 1]) (by simp [results, Tryz.results72, go_sem]; omega) rfl ⟨rfl, (hok.alloc _).alloc _⟩
    · rw [show min (a + 1) (1073741824 : Int) = a + 1 by omega] at e1
      rw [show min (0 + 1) (1073741824 : Int) = 1 by omega] at e2
      rw [e1, e2]
      clear e1 e2
      go_enter Tryz.func72, Tryz.ntmps72
      go_wp2
      exact bodyPost_ret (v := .agg #[.int .i64 (a + 1), .int .i64 1]) (by simp [results, Tryz.results72, go_sem]; omega) rfl ⟨rfl, (hok.alloc _).alloc _⟩
  · rw [if_neg h0] at e1
    have hd : (q == 0) = false := by rw [beq_eq_false_iff_ne]; exact h0
    by_cases h2 : 1073741824 < q + 1
    · rw [show min (q + 1) (1073741824 : Int) = 1073741824 by omega] at e2
      rw [e1, e2]
      clear e1 e2
      go_enter Tryz.func72, Tryz.ntmps72
      go_wp2
      exact bodyPost_ret (v := .agg #[.int .i64 0, .int .i64 1073741824]) (by simp [results, Tryz.results72, go_sem]; omega) rfl ⟨rfl, (hok.alloc _).alloc _⟩
    · rw [show min (q + 1) (1073741824 : Int) = (q + 1) by omega] at e2
      rw [e1, e2]
      clear e1 e2
      go_enter Tryz.func72, Tryz.ntmps72
      go_wp2
      exact bodyPost_ret (v := .agg #[.int .i64 0, .int .i64 (q + 1)]) (by simp [results, Tryz.results72, go_sem]; omega) rfl ⟨rfl, (hok.alloc _).alloc _⟩
end Go.Proofs.YtnhjdinmakkknaaGreatDoor
