/- Several texts of mine in one: B27, W45, C14d, W26. -/
import Derived.Test.YtmokofblmkeloaaGreatDoorB19
import Derived.Test.YtmokofblmkeloaaGreatDoorB03
import Derived.Test.YtmokofblmkeloaaGreatDoorMA
import Derived.Test.YtmokofblmkeloaaGreatDoorP31
import Derived.Test.YtmokofblmkeloaaGreatDoorP35
import Derived.Test.YtmokofblmkeloaaGreatDoorShelf
import Derived.Test.YtmokofblmkeloaaGreatDoorP45
import Derived.Lib.Small
import Derived.Sort.Grow
import Derived.Shelf.SlSortCmp.WholeK
import Derived.Shelf.SlSortCmp.NoneTotal
import Derived.Deep.AppendSrc
import Derived.Lib.AppendZerosOnto
import Derived.Lib.Overlaps
/- Contracts of layer 22: whose message it is; how two stand. -/
namespace Go.Proofs.YtmokofblmkeloaaGreatDoor
open Go.RowKit
set_option linter.unusedVariables false
set_option maxRecDepth 100000
attribute [local go_sem ↓] Go.wp_at_zero Go.wp_at_succ
theorem gateOthers (p : Par) (me : Int) (m : Msg) (age : Int) (A : Option Addr) (cap : Nat) (w : World) : Calls Tryz.prog 150 #[parV p, .int .i64 me, msgV m A cap] w fun e w' => e = .returned (.bool (Gate.other p me ⟨m, age⟩)) ∧ Ok w w' := by
  have hok := Ok.refl w
  obtain ⟨kind, frm, lo, hi, held, hops, good, ref, slo, shi, pulse, time, num, table⟩ := m
  unfold msgV Gate.other
  simp only
  by_cases h0 : kind = 1
  rotate_left
  · rw [decide_eq_false (fun h => h0 h.1)]
    go_enter Tryz.func150, Tryz.ntmps150
    go_wp2
    go_ret
    exact ⟨rfl, (hok.alloc _).alloc _⟩
  by_cases h1 : 0 ≤ frm
  rotate_left
  · rw [decide_eq_false (fun h => h1 h.2.1)]
    go_enter Tryz.func150, Tryz.ntmps150
    go_wp2
    go_ret
    exact ⟨rfl, (hok.alloc _).alloc _⟩
  by_cases h2 : frm < p.n
  rotate_left
  · rw [decide_eq_false (fun h => h2 h.2.2.1)]
    go_enter Tryz.func150, Tryz.ntmps150
    go_wp2
    go_ret
    exact ⟨rfl, (hok.alloc _).alloc _⟩
  by_cases h3 : frm < 16
  rotate_left
  · rw [decide_eq_false (fun h => h3 h.2.2.2.1)]
    go_enter Tryz.func150, Tryz.ntmps150
    go_wp2
    go_ret
    exact ⟨rfl, (hok.alloc _).alloc _⟩
  by_cases h4 : ¬ frm = me
  rotate_left
  · rw [decide_eq_false (fun h => h4 h.2.2.2.2)]
    replace h4 : frm = me := by omega
    go_enter Tryz.func150, Tryz.ntmps150
    go_wp2
    go_ret
    exact ⟨rfl, (hok.alloc _).alloc _⟩
  rw [decide_eq_true ⟨h0, h1, h2, h3, h4⟩]
  have h5 : (frm != me) = true := by simpa using h4
  go_enter Tryz.func150, Tryz.ntmps150
  go_wp2
  go_ret
  exact ⟨rfl, (hok.alloc _).alloc _⟩
theorem cmpNaN22 (x : Int) (w : World) : Calls Tryz.prog 182 #[.int .i64 x] w fun e w' => e = .returned (.bool false) ∧ w = w' := by
  have h : (x != x) = false := by simp
  go_enter Tryz.func182, Tryz.ntmps182
  go_wp2
  go_ret
  exact ⟨rfl, rfl⟩
theorem cmpCompare22 (x y : Int) (w : World) : Calls Tryz.prog 153 #[.int .i64 x, .int .i64 y] w fun e w' => e = .returned (.int .i64 (Lib.compareInt x y)) ∧ w = w' := by
  rcases Int.lt_trichotomy x y with h | h | h
  · have e : Lib.compareInt x y = -1 := by unfold Lib.compareInt; rw [if_pos h]
    rw [e]; clear e
    go_enter Tryz.func153, Tryz.ntmps153
    go_wp2_with (go_at_call 182; refine (cmpNaN22 _ _).mono ?_; rintro e w' ⟨rfl, rfl⟩)
    go_ret
    exact ⟨rfl, rfl⟩
  · have e : Lib.compareInt x y = 0 := by unfold Lib.compareInt; rw [if_neg (by omega), if_neg (by omega)]
    rw [e]; clear e
    have h1 : ¬ x < y := by omega
    have h2 : ¬ y < x := by omega
    clear h
    go_enter Tryz.func153, Tryz.ntmps153
    go_wp2_with (go_at_call 182; refine (cmpNaN22 _ _).mono ?_; rintro e w' ⟨rfl, rfl⟩)
    go_ret
    exact ⟨rfl, rfl⟩
  · have e : Lib.compareInt x y = 1 := by unfold Lib.compareInt; rw [if_neg (by omega), if_pos h]
    rw [e]; clear e
    go_enter Tryz.func153, Tryz.ntmps153
    go_wp2_with (go_at_call 182; refine (cmpNaN22 _ _).mono ?_; rintro e w' ⟨rfl, rfl⟩)
    go_ret
    exact ⟨rfl, rfl⟩
theorem toldLess (x y : HA) (w : World) : Calls Tryz.prog 152 #[.agg (haL x).toArray, .agg (haL y).toArray] w fun e w' => e = .returned (.int .i64 (Lib.compareInt x.m.frm y.m.frm)) ∧ ∃ q os', w' = Sort.grow (w.drewN q) os' := by
  have hc := Lib.hid fun W => cmpCompare22 x.m.frm y.m.frm W
  obtain ⟨⟨kind, frm, lo, hi, held, hops, good, ref, slo, shi, pulse, time, num, table⟩, A, cap, age⟩ := x
  obtain ⟨⟨kind2, frm2, lo2, hi2, held2, hops2, good2, ref2, slo2, shi2, pulse2, time2, num2, table2⟩, A2, cap2, age2⟩ := y
  simp only [haL, msgCells, List.cons_append, List.nil_append] at hc ⊢
  generalize Lib.compareInt frm frm2 = r at hc ⊢
  go_enter Tryz.func152, Tryz.ntmps152
  go_wp2_with (go_at_call 153; refine (hc.out _).mono ?_; rintro e w' ⟨rfl, rfl⟩)
  go_ret
  exact ⟨rfl, 0, _, by rw [Sort.alloc_eq_grow, Sort.alloc_eq_grow, Sort.grow_grow]; rfl⟩
end Go.Proofs.YtmokofblmkeloaaGreatDoor
namespace Go.Proofs.YtmokofblmkeloaaGreatDoor
open Go.RowKit Go.WideShapes Go.ChangeShapes
set_option maxRecDepth 100000
instance : Inhabited HA := ⟨⟨⟨0, 0, 0, 0, 0, 0, false, false, 0, 0, 0, 0, 0, []⟩, none, 0, 0⟩⟩
theorem flat_at45 (l : List HA) (j : Nat) (hj : j < l.length * 15) : (l.flatMap haL)[j]? = some (Sort.flatK haL 15 l.toArray)[j]! := by
  have hlen : (l.flatMap haL).length = l.length * 15 := flatMap_length haL 15 haL_len l
  obtain ⟨k, hk, e1, e2⟩ := flatMap_inv haL 15 haL_len (by decide) l j _ (List.getElem?_eq_getElem (by omega))
  rw [Sort.get_flatK haL 15 _ j (by simpa using hj), List.getElem?_eq_getElem (by omega)]
  subst e1
  have hb : l.toArray[j / 15]! = l[j / 15] := by
    rw [getElem!_pos l.toArray (j / 15) (by simpa using hk)]
    rfl
  rw [hb]
  congr 1
  have hm : j % 15 < (haL l[j / 15]).length := by rw [haL_len]; exact Nat.mod_lt _ (by decide)
  rw [getElem!_pos (haL l[j / 15]) (j % 15) hm]
  exact (Option.some.inj ((List.getElem?_eq_getElem hm).symm.trans e2)).symm
theorem holds_of_row {w : World} {B g n c : Nat} {T : TypeId} {l : List HA} (hn : n = l.length) (h : w.ownsRow B T 15 (.slice (some ⟨g, 0, none⟩) n c) n (l.flatMap haL)) : Sort.HoldsK haL 15 w g 0 l.toArray := by
  subst hn
  intro j hj
  have hj' : j < l.length * 15 := by simpa using hj
  rw [Nat.zero_add]
  exact ⟨by rw [h.cellAt j hj', flat_at45 l j hj']; rfl, h.frozenAt j⟩
theorem sorted_only {w : World} {g m : Nat} {d : Array HA} {os : Array Obj} : Only g w (sortWorldK haL 15 w g 0 m d os) := by
  refine ⟨rfl, rfl, rfl, ?_, fun k hk hg => ?_⟩
  · simp [sortWorldK, Sort.grow, Sort.putRowK, Sort.putRow, Sort.mapBlock, Sort.ahead]
  · have hs : k < (Sort.putRowK haL 15 (Sort.ahead w m) g 0 d).heap.size := by simpa [Sort.putRowK, Sort.putRow, Sort.mapBlock, Sort.ahead] using hk
    show (Sort.grow _ _).heap[k]? = _
    rw [Sort.heap_grow_old _ _ hs]
    simp only [Sort.putRowK, Sort.putRow, Sort.mapBlock, Sort.ahead, Array.getElem?_modify, if_neg (Ne.symm hg)]
theorem row_of_sorted {w : World} {B g n c : Nat} {T : TypeId} {l : List HA} (hn : n = l.length) (h : w.ownsRow B T 15 (.slice (some ⟨g, 0, none⟩) n c) n (l.flatMap haL)) {d : Array HA} (hd : d.size = l.length) (m : Nat) (os : Array Obj) :
    (sortWorldK haL 15 w g 0 m d os).ownsRow B T 15 (.slice (some ⟨g, 0, none⟩) n c) n (d.toList.flatMap haL) := by
  subst hn
  have hl : (d.toList.flatMap haL).length = l.length * 15 := by rw [flatMap_length haL 15 haL_len, Array.length_toList, hd]
  refine ⟨hl, .inr ?_⟩
  rcases h.2 with ⟨e, _⟩ | ⟨g2, cap, cur, e, hb, hg, hnc, hcm, hsz, ht⟩
  · cases e
  · cases e
    have hgl : g < w.heap.size := (Array.getElem?_eq_some_iff.1 hg).1
    have hs : g < (Sort.putRowK haL 15 (Sort.ahead w m) g 0 d).heap.size := by simpa [Sort.putRowK, Sort.putRow, Sort.mapBlock, Sort.ahead] using hgl
    refine ⟨g, c, Sort.putCells id 0 (Sort.flatK haL 15 d) cur, rfl, hb, ?_, hnc, hcm, ?_, ?_⟩
    · show (Sort.grow _ _).heap[g]? = _
      rw [Sort.heap_grow_old _ _ hs]
      simp only [Sort.putRowK, Sort.putRow, Sort.mapBlock, Sort.ahead, Array.getElem?_modify, if_true, hg, Option.map_some, Sort.onCells]
    · simpa [Sort.putCells] using hsz
    · apply List.ext_getElem?
      intro j
      rw [List.getElem?_take]
      split
      · next hj =>
        have hj2 : j < d.toList.length * 15 := by rw [Array.length_toList, hd]; exact hj
        have hjc : j < cur.size := by rw [hsz]; exact Nat.lt_of_lt_of_le hj (Nat.mul_le_mul_right _ hnc)
        rw [flat_at45 d.toList j hj2, Array.getElem?_toList]
        simp only [Sort.putCells, Array.getElem?_mapIdx, Array.getElem?_eq_getElem hjc, Option.map_some, Sort.size_flatK, Nat.zero_add, Nat.zero_le, true_and, Nat.sub_zero, Array.toArray_toList]
        rw [if_pos (by rw [hd]; exact hj)]
        rfl
      · rw [List.getElem?_eq_none (by rw [hl]; omega)]
/-- How two stand. -/
def cfHA (x y : HA) : Int := Lib.compareInt x.m.frm y.m.frm
theorem ltHA (x y : HA) : ltOf cfHA x y = decide (x.m.frm < y.m.frm) := by
  unfold ltOf cfHA Lib.compareInt
  by_cases h1 : x.m.frm < y.m.frm
  · simp [h1]
  · by_cases h2 : y.m.frm < x.m.frm <;> simp [h1, h2]
theorem swoHA : Sort.SWO (ltOf cfHA) where
  irrefl x := by rw [ltHA]; simp
  trans x y z h1 h2 := by rw [ltHA] at *; simp at *; omega
  ntrans x y z h1 h2 := by rw [ltHA] at *; simp at *; omega
/-- A row that is sorted, a list's. -/
theorem sorted_list {l : List HA} {d : Array HA} (hp : Sort.PermIn 0 l.toArray.size l.toArray d) (hs : Sort.SortedIn (ltOf cfHA) 0 l.toArray.size d) : d.size = l.length ∧ d.toList.Perm l ∧ d.toList.Pairwise fun a b => a.m.frm ≤ b.m.frm := by
  obtain ⟨h1, _, h2⟩ := hp
  have h1' : d.size = l.length := by simpa using h1
  refine ⟨h1', ?_, ?_⟩
  · have e1 : d.extract 0 l.toArray.size = d := by rw [← h1]; simp
    have e2 : l.toArray.extract 0 l.toArray.size = l.toArray := by simp
    rw [e1, e2] at h2
    simpa using h2
  · rw [List.pairwise_iff_getElem]
    intro i j hi hj hij
    have hj' : j < d.size := by simpa using hj
    have := hs i j (Nat.zero_le _) hij (by rw [← h1]; exact hj')
    rw [ltHA, getElem!_pos d j hj', getElem!_pos d i (by omega)] at this
    have := of_decide_eq_false this
    simp only [Array.getElem_toList]
    omega
end Go.Proofs.YtmokofblmkeloaaGreatDoor
namespace Go.Proofs.YtmokofblmkeloaaGreatDoor
open Go.RowKit Go.Maps Go.Sort
set_option maxRecDepth 100000
attribute [local go_sem ↓] Go.wp_at_zero Go.wp_at_succ
/-- Behind some keys of Near's range. -/
def NearAt (b : Nat) (f : NF) (D : DataW Unit) (w wr : World) (v : Value) (left : Lit → Bool) (cnt : Nat) : Prop :=
  wr.ranges Tryz.prog 3 nbElem b w.heap.size 48 D left cnt ∧ ∃ c, RowN (w.heap.size + 1) wr v c ∧ Coll f left c ∧ c.length + cnt ≤ 48 ∧ Ok w wr
theorem nearAt_start {b : Nat} {f : NF} {D : DataW Unit} {w w0 : World} (hf : ∀ k, 48 ≤ k → f k = none) (hown : w.ownsMap Tryz.prog 3 nbElem b 48 D) (hh : ∀ x, (Lit.int .i64 x).wf = true → Holds D x (Mem.look f x)) (hr : w0.ranges Tryz.prog 3 nbElem b w.heap.size 48 D (Maps.has D) (Maps.size D)) (hg : w.grownBy w0 none) :
    NearAt b f D w w0 (.slice none 0 0) (Maps.has D) (Maps.size D) :=
  ⟨hr, [], RowN.start _ _, coll_start hh, by rw [size_is hown hf hh]; simpa using Mem.nums_le f, ok_row (Ok.refl w) hg (fun k hk => by cases hk)⟩
set_option maxHeartbeats 1600000 in
theorem memNear (g b : Nat) (f : NF) (w : World) (hT : TabM w g b f) (hG : Mem.Good f) :
    Calls Tryz.prog 44 #[.pointer (some ⟨g, 0, none⟩)] w (NearEnd (Mem.nums f) w) := by
  have c0 := hT.own.cell 0 (v := .map (some b)) rfl
  obtain ⟨D, hown, hh⟩ := hT.map
  have HH := Lib.hid (And.intro hG.far hh)
  have HO := Lib.hid hown
  clear hT hG hh
  go_enter Tryz.func44, Tryz.ntmps44
  go_wp2_with (at_range; refine wpList_range_own _ rfl _ 110 rfl 3 119 keyInt Tryz.underlying110 _ b 48 _ rfl hown ?_; intro w0 hrg0 hg0 hs0)
  go_frame
  go_loopw [3] (fun v wr => ∃ left cnt, Hid (NearAt b f D w wr v left cnt)) (fun _ wr => wr.rangeLeft b w.heap.size)
  case atStart => exact ⟨_, _, Lib.hid (nearAt_start HH.out.1 HO.out HH.out.2 hrg0 hg0)⟩
  case round =>
    obtain ⟨left, cnt, hrel⟩ := hrel
    have hrg := hrel.out.1
    clear hrg0 hg0 hs0 c0 hown
    go_wp2_with (at_next; refine wpList_next_ranges _ rfl _ rfl 3 keyInt nbElem (Value.int .i64) nbV (fun key kl hk => by obtain ⟨x, hx, _⟩ := Maps.keyOf_int_inv Tryz.underlying3 hk; exact ⟨x, hx⟩) (fun v y hv => by obtain ⟨p, hp, _⟩ := nbElem_inv hv; exact ⟨p, hp⟩) b w.heap.size 48 _ _ _ rfl hrg ?_ ?_)
    · intro _ hl0
      obtain ⟨c, hrow, hC, hle, hok⟩ := hrel.out.2
      have KS := Lib.hid (sortN hrow (by omega) (coll_end hC hl0) hok (Nat.le_succ _))
      clear hrel hrg hrow hC hle hok hl0
      go_wp2_with (go_at_call 102; (with_reducible refine KS.out.mono ?_); rintro e w2 ⟨rfl, hE⟩; replace hE := Lib.hid hE)
      go_ret
      exact hE.out
    · intro x p1 p2 kl y ys w1 cnt1 hkey hlx hv hat hrg1 hlt hg1 hs1 hen
      obtain ⟨x', ex, rfl, hwx⟩ := Maps.keyOf_int_inv Tryz.underlying3 hkey
      cases ex
      obtain ⟨k, rfl, hk, hkm⟩ := coll_key HH.out.1 HH.out.2 hwx hat
      obtain ⟨c, hrow, hC, hle, hok⟩ := hrel.out.2
      have hon : Only w.heap.size wr w1 := (Only.refl _ _).grow hg1 fun k hk => .inl (by cases hk; rfl)
      have hrow1 := hrow.only hon (Nat.lt_succ_self _)
      have hok1 := ok_row hok hg1 (fun k hk => by cases hk; exact Nat.le_refl _)
      have HM := Lib.hid (And.intro hrg1 (And.intro (coll_step hC hkm hlx) (And.intro hle hlt)))
      have HRW := Lib.hid (And.intro hrow1 hok1)
      have hm0 := hrg.left_eq
      have hsz : w.heap.size + 1 ≤ w1.heap.size := by have := hrg1.lt; omega
      clear hrel hrow hC hon hrow1 hok1 hrg1 hlx hat hwx hkey hv hrg hkm hg1 hs1
      go_wp2_with (at_builtin; refine wpList_append_ints rfl (.tmp 16) (.tmp 18) 56 rfl (w.heap.size + 1) 3 Tryz.underlying56 info14 _ (Mem.ints c) c.length (Mem.ints_length c).symm rfl (HRW.out.1.next ((Ok.refl _).alloc _)) _ [(k : Int)] 1 _ rfl rfl (ints_new _ _ _ _ rfl rfl) (by rw [Mem.ints_length]; simp; omega) (by simp; omega) ?_; intro v' w2 hr2 hg2; have HR2 := Lib.hid (And.intro hr2 hg2); clear hr2 hg2)
      go_roundw
      case rel =>
        have hgr := HRW.out.1.lt
        have hrr : (w2.ranges Tryz.prog 3 nbElem b w.heap.size 48 D (fun z => left z && !z.sameKey (.int .i64 (k : Int))) cnt1) := by
          refine (HM.out.1.alloc (.cells #[.int .i64 (k : Int)] 3)).kept HR2.out.2 (fun e => ?_) (fun e => ?_)
          · have := (hgr b e.symm).1
            have := HO.out.lt
            omega
          · have := (hgr _ e.symm).1
            omega
        exact ⟨_, _, Lib.hid ⟨hrr, c ++ [k], RowN.more HR2.out.1, HM.out.2.1, by have := HM.out.2.2; rw [List.length_append]; simp; omega, ok_row (HRW.out.2.alloc _) HR2.out.2 fun j hj => by have := (hgr j hj).1; omega⟩⟩
      case measure =>
        have hgr := HRW.out.1.lt
        have hrr : (w2.ranges Tryz.prog 3 nbElem b w.heap.size 48 D (fun z => left z && !z.sameKey (.int .i64 (k : Int))) cnt1) := by
          refine (HM.out.1.alloc (.cells #[.int .i64 (k : Int)] 3)).kept HR2.out.2 (fun e => ?_) (fun e => ?_)
          · have := (hgr b e.symm).1
            have := HO.out.lt
            omega
          · have := (hgr _ e.symm).1
            omega
        rw [hrr.left_eq, hm0]
        exact hlt
end Go.Proofs.YtmokofblmkeloaaGreatDoor
namespace Go.Proofs.YtmokofblmkeloaaGreatDoor
open Go.RowKit Go.WideShapes Go.ChangeShapes Go.Joins Go.Deep
/-- The row lies where it lay, or in a new block. -/
def Near (w : World) (A A' : Option Addr) : Prop := ∀ a, A' = some a → A = some a ∨ (a.off = 0 ∧ a.spot = none ∧ w.heap.size ≤ a.block)
section
variable {P : Program}
theorem first_row {w : World} {B : Nat} {e : TypeId} {k n c : Nat} {A : Option Addr} {xs : List Value} (h : w.ownsRow B e k (.slice A n c) n xs) : (Builtin.firstCells k n (.slice A n c)).run P w = .ok xs.toArray w := by
  rcases h.2 with ⟨h1, h2⟩ | ⟨g, cap, cur, h1, hb, hh, r⟩
  · cases h1
    have : xs = [] := List.length_eq_zero_iff.1 (by rw [h.1]; simp)
    subst this
    exact run_firstCells_none w k 0 0 0
  · cases h1
    exact run_firstCells_some w k n ⟨g, 0, none⟩ n c xs (by rw [h.1]) (h.cells (g := g) rfl)
/-- append of one struct that lies in a block of its own. -/
theorem run_append_one {w : World} {t e : TypeId} {z : Value} {k bytes : Nat} (ht : P.underlying t = some (.slice e)) (hi : (P.info? e).map (fun i => (i.zero, i.size, i.bytes)) = some (some z, k, bytes)) (hz : z.cells.size = k) (_hk : 0 < k) (hby : bytes ≤ 100000)
    {B : Nat} (hB : B ≤ w.heap.size) {A : Option Addr} {n c : Nat} {xs : List Value} (hR : w.ownsRow B e k (.slice A n c) n xs) {vb : Nat} {ys : Array Value} (hV : Own w vb ys) (hy : ys.size = k) (h1 : ∀ u ∈ ys.toList, u.oneCell' = true) (hlen : n ≤ 1000000) (ty : TypeId) :
    ∃ A' c' w1, (Builtin.append_ #[t, t] ty #[.slice A n c, .slice (some ⟨vb, 0, none⟩) 1 1]).run P w = .ok (.slice A' (n + 1) c') w1 ∧
      w1.ownsRow B e k (.slice A' (n + 1) c') (n + 1) (xs ++ ys.toList) ∧ w.grownBy w1 (Value.slice A n c).ownBlock ∧ Near w A A' := by
  obtain ⟨i0, i1, i2, i3, i4⟩ := info_parts hi
  have hys : ∀ j u, ys.toList[j]? = some u → w.cell? ((⟨vb, 0, none⟩ : Addr).add j) = some u := fun j u hj => by
    rw [Go.WideShapes.add_plain, Nat.zero_add]
    exact hV.cell j (by rwa [Array.getElem?_toList] at hj)
  have hyl : ys.toList.length = 1 * k := by rw [Array.length_toList, hy, Nat.one_mul]
  by_cases hroom : n + 1 ≤ c
  · obtain ⟨h0, ⟨h2, _⟩ | ⟨g, cap, cur, h2, h3⟩⟩ := hR
    · cases h2; omega
    · cases h2
      obtain ⟨w1, a1, a2, a3⟩ := run_append_fits (P := P) w B t ty e i0 k ht i1 i3 g n c xs ⟨h0, .inr ⟨g, c, cur, rfl, h3⟩⟩ ⟨vb, 0, none⟩ 1 1 ys.toList hyl hys h1 hroom
      exact ⟨_, _, w1, a1, a2, a3, fun a ha => .inl ha⟩
  · have hnc : n ≤ c ∧ c ≤ maxLen := by
      obtain ⟨A0, c0, e0, p, q, _⟩ := row_form hR
      cases e0
      exact ⟨p, q⟩
    have hsrc : Src P i0.size t (.slice (some ⟨vb, 0, none⟩) 1 1) 1 ys.toList w := Src.ofSlice w ht _ 1 1 _ (by rw [i3]; exact hyl) hys h1
    have hold : (Builtin.firstCells i0.size n (.slice A n c)).run P w.drew = .ok xs.toArray w.drew := by rw [i3]; exact first_row hR.drew
    have hfit : Builtin.nextslicecap (n + 1) c * i0.bytes ≤ 281474976710656 := by
      refine growslice_fits (by omega) ?_
      rw [i4]
      exact Nat.le_trans (Nat.mul_le_mul (show n + 1 ≤ 1000001 by omega) hby) (by decide)
    have hrun := run_append_grow_src w t t ty e i0 z ht i1 i2 A n c xs hold _ 1 ys.toList hsrc (by omega) (by omega) hfit
    obtain ⟨G, hG⟩ : ∃ G, grownCap w (n + 1) c e = G := ⟨_, rfl⟩
    have hG1 : n + 1 ≤ G := by rw [← hG]; exact grownCap_ge w _ _ _
    have hG2 : G ≤ maxLen := by rw [← hG]; exact grownCap_le_maxLen w _ _ _ (by unfold maxLen; omega)
    rw [hG] at hrun
    have hxl := hR.1
    refine ⟨_, _, _, hrun, ?_, grown_trans (grown_drew w _) (grown_alloc w.drew _ _), fun a ha => .inr ?_⟩
    · have hsz : ((xs ++ ys.toList).toArray ++ Builtin.zeroCells z.cells (G - (n + 1))).size = G * k := by
        rw [Array.size_append, List.size_toArray, List.length_append, size_zeroCells, hxl, hyl, hz, ← Nat.add_mul, ← Nat.add_mul]
        congr 1
        omega
      refine row_of_own (OwnT.new w.drew _ e rfl) hB (by rw [List.length_append, hxl, hyl, ← Nat.add_mul]) hG1 hG2 hsz fun j u hj => ?_
      have hjl : j < (xs ++ ys.toList).length := (List.getElem?_eq_some_iff.1 hj).1
      rw [Array.getElem?_append_left (by simpa using hjl), List.getElem?_toArray]
      exact hj
    · cases ha
      exact ⟨rfl, rfl, Nat.le_refl _⟩
end
end Go.Proofs.YtmokofblmkeloaaGreatDoor
