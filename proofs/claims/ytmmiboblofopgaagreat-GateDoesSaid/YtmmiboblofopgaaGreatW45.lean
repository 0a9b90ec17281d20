/- Words of my own: a row of what was heard, sorted by slices.SortFunc. -/
import Derived.Test.YtmmiboblofopgaaGreatW44
import Derived.Test.YtmmiboblofopgaaGreatShelf
import Derived.Shelf.SlSortCmp.WholeK
import Derived.Shelf.SlSortCmp.NoneTotal
namespace Go.Proofs.YtmmiboblofopgaaGreat
open Go.RowKit Go.WideShapes Go.ChangeShapes
set_option maxRecDepth 100000
instance : Inhabited HA := ⟨⟨⟨0, 0, 0, 0, 0, 0, false, false, 0, 0, 0, 0, 0, []⟩, none, 0, 0⟩⟩
theorem flat_at45 (l : List HA) (j : Nat) (hj : j < l.length * 15) : (l.flatMap haL)[j]? = some (Sort.flatK haL 15 l.toArray)[j]! := by
  have hlen : (l.flatMap haL).length = l.length * 15 := flatMap_length haL 15 haL_len l
  obtain ⟨k, hk, e1, e2⟩ := flatMap_inv haL 15 haL_len (by decide) l j _ (List.getElem?_eq_getElem (by omega))
  rw [Sort.get_flatK haL 15 _ j (by simpa using hj), List.getElem?_eq_getElem (by omega)]
  subst e1
  have hb : l.toArray[j / 15]! = l[j / 15] := by
    rw [getElem!_pos l.toArray (j / 15) (by simpa using hk)]
    rfl
  rw [hb]
  congr 1
  have hm : j % 15 < (haL l[j / 15]).length := by rw [haL_len]; exact Nat.mod_lt _ (by decide)
  rw [getElem!_pos (haL l[j / 15]) (j % 15) hm]
  exact (Option.some.inj ((List.getElem?_eq_getElem hm).symm.trans e2)).symm
theorem holds_of_row {w : World} {B g n c : Nat} {T : TypeId} {l : List HA} (hn : n = l.length) (h : w.ownsRow B T 15 (.slice (some ⟨g, 0, none⟩) n c) n (l.flatMap haL)) : Sort.HoldsK haL 15 w g 0 l.toArray := by
  subst hn
  intro j hj
  have hj' : j < l.length * 15 := by simpa using hj
  rw [Nat.zero_add]
  exact ⟨by rw [h.cellAt j hj', flat_at45 l j hj']; rfl, h.frozenAt j⟩
theorem sorted_only {w : World} {g m : Nat} {d : Array HA} {os : Array Obj} : Only g w (sortWorldK haL 15 w g 0 m d os) := by
  refine ⟨rfl, rfl, rfl, ?_, fun k hk hg => ?_⟩
  · simp [sortWorldK, Sort.grow, Sort.putRowK, Sort.putRow, Sort.mapBlock, Sort.ahead]
  · have hs : k < (Sort.putRowK haL 15 (Sort.ahead w m) g 0 d).heap.size := by simpa [Sort.putRowK, Sort.putRow, Sort.mapBlock, Sort.ahead] using hk
    show (Sort.grow _ _).heap[k]? = _
    rw [Sort.heap_grow_old _ _ hs]
    simp only [Sort.putRowK, Sort.putRow, Sort.mapBlock, Sort.ahead, Array.getElem?_modify, if_neg (Ne.symm hg)]
theorem row_of_sorted {w : World} {B g n c : Nat} {T : TypeId} {l : List HA} (hn : n = l.length) (h : w.ownsRow B T 15 (.slice (some ⟨g, 0, none⟩) n c) n (l.flatMap haL)) {d : Array HA} (hd : d.size = l.length) (m : Nat) (os : Array Obj) :
    (sortWorldK haL 15 w g 0 m d os).ownsRow B T 15 (.slice (some ⟨g, 0, none⟩) n c) n (d.toList.flatMap haL) := by
  subst hn
  have hl : (d.toList.flatMap haL).length = l.length * 15 := by rw [flatMap_length haL 15 haL_len, Array.length_toList, hd]
  refine ⟨hl, .inr ?_⟩
  rcases h.2 with ⟨e, _⟩ | ⟨g2, cap, cur, e, hb, hg, hnc, hcm, hsz, ht⟩
  · cases e
  · cases e
    have hgl : g < w.heap.size := (Array.getElem?_eq_some_iff.1 hg).1
    have hs : g < (Sort.putRowK haL 15 (Sort.ahead w m) g 0 d).heap.size := by simpa [Sort.putRowK, Sort.putRow, Sort.mapBlock, Sort.ahead] using hgl
    refine ⟨g, c, Sort.putCells id 0 (Sort.flatK haL 15 d) cur, rfl, hb, ?_, hnc, hcm, ?_, ?_⟩
    · show (Sort.grow _ _).heap[g]? = _
      rw [Sort.heap_grow_old _ _ hs]
      simp only [Sort.putRowK, Sort.putRow, Sort.mapBlock, Sort.ahead, Array.getElem?_modify, if_true, hg, Option.map_some, Sort.onCells]
    · simpa [Sort.putCells] using hsz
    · apply List.ext_getElem?
      intro j
      rw [List.getElem?_take]
      split
      · next hj =>
        have hj2 : j < d.toList.length * 15 := by rw [Array.length_toList, hd]; exact hj
        have hjc : j < cur.size := by rw [hsz]; exact Nat.lt_of_lt_of_le hj (Nat.mul_le_mul_right _ hnc)
        rw [flat_at45 d.toList j hj2, Array.getElem?_toList]
        simp only [Sort.putCells, Array.getElem?_mapIdx, Array.getElem?_eq_getElem hjc, Option.map_some, Sort.size_flatK, Nat.zero_add, Nat.zero_le, true_and, Nat.sub_zero, Array.toArray_toList]
        rw [if_pos (by rw [hd]; exact hj)]
        rfl
      · rw [List.getElem?_eq_none (by rw [hl]; omega)]
/-- How two stand. -/
def cfHA (x y : HA) : Int := Lib.compareInt x.m.frm y.m.frm
theorem ltHA (x y : HA) : ltOf cfHA x y = decide (x.m.frm < y.m.frm) := by
  unfold ltOf cfHA Lib.compareInt
  by_cases h1 : x.m.frm < y.m.frm
  · simp [h1]
  · by_cases h2 : y.m.frm < x.m.frm <;> simp [h1, h2]
theorem swoHA : Sort.SWO (ltOf cfHA) where
  irrefl x := by rw [ltHA]; simp
  trans x y z h1 h2 := by rw [ltHA] at *; simp at *; omega
  ntrans x y z h1 h2 := by rw [ltHA] at *; simp at *; omega
/-- A row that is sorted, a list's. -/
theorem sorted_list {l : List HA} {d : Array HA} (hp : Sort.PermIn 0 l.toArray.size l.toArray d) (hs : Sort.SortedIn (ltOf cfHA) 0 l.toArray.size d) : d.size = l.length ∧ d.toList.Perm l ∧ d.toList.Pairwise fun a b => a.m.frm ≤ b.m.frm := by
  obtain ⟨h1, _, h2⟩ := hp
  have h1' : d.size = l.length := by simpa using h1
  refine ⟨h1', ?_, ?_⟩
  · have e1 : d.extract 0 l.toArray.size = d := by rw [← h1]; simp
    have e2 : l.toArray.extract 0 l.toArray.size = l.toArray := by simp
    rw [e1, e2] at h2
    simpa using h2
  · rw [List.pairwise_iff_getElem]
    intro i j hi hj hij
    have hj' : j < d.size := by simpa using hj
    have := hs i j (Nat.zero_le _) hij (by rw [← h1]; exact hj')
    rw [ltHA, getElem!_pos d j hj', getElem!_pos d i (by omega)] at this
    have := of_decide_eq_false this
    simp only [Array.getElem_toList]
    omega
end Go.Proofs.YtmmiboblofopgaaGreat
