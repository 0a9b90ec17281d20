import Derived.Test.YtmokofblmkeloaaGreatDoorB06
import Derived.Test.YtmokofblmkeloaaGreatDoorMA
import Derived.Test.YtmokofblmkeloaaGreatDoorShelf
import Derived.Sort.OwnSortedInts
import Derived.Laws.AppendOwn
namespace Go.Proofs.YtmokofblmkeloaaGreatDoor
open Go.RowKit Go.Sort
set_option maxRecDepth 100000
theorem sliceClone (A : Option Addr) (l : List Int) (cap : Nat) (w : World) (h : IntsAt w A l) (hl : l.length ≤ 1099511627776) (h0 : 0 < l.length) :
    Calls Tryz.prog 186 #[.slice A l.length cap] w fun e w' => ∃ g c, e = .returned (.slice (some ⟨g, 0, none⟩) l.length c) ∧ w'.ownsRow w.heap.size 3 1 (.slice (some ⟨g, 0, none⟩) l.length c) l.length (l.map (Value.int .i64)) ∧ Ok w w' := by
  obtain ⟨b, off, hA, hb, _⟩ := h 0 h0
  subst hA
  refine (Tryz.slices_Clone_int b off l.length cap l w (Nat.le_refl _) (by omega) (fun j hj => ?_)).mono ?_
  · obtain ⟨b', off', e, _, hc⟩ := h j hj
    cases e
    rw [hc, List.getD_eq_getElem?_getD, List.getElem?_eq_getElem hj]; rfl
  · rintro e w' ⟨v, rfl, hr, hne, hb⟩
    rw [List.take_of_length_le (Nat.le_refl _)] at hr
    rcases hr.2 with ⟨rfl, _⟩ | ⟨g, c, cur, rfl, _⟩
    · exact absurd rfl hne
    · exact ⟨g, c, rfl, hr, hb⟩
/-- A row of one's own, sorted. -/
theorem sliceSort {w : World} {B g c : Nat} {l : List Int} (h : w.ownsRow B 3 1 (.slice (some ⟨g, 0, none⟩) l.length c) l.length (l.map (Value.int .i64))) (hl : l.length ≤ 1099511627776) :
    Calls Tryz.prog 102 #[.slice (some ⟨g, 0, none⟩) l.length c] w fun e w' => e = .returned (.tuple #[]) ∧ w'.ownsRow B 3 1 (.slice (some ⟨g, 0, none⟩) l.length c) l.length ((l.mergeSort fun x y => decide (x ≤ y)).map (Value.int .i64)) ∧ w.grownBy w' (some g) := by
  rcases h.2 with ⟨h1, _⟩ | ⟨g', c', cur, hv, hb, hh, h1, h2, h3, h4⟩
  · cases h1
  cases hv
  have h4' : cur.toList.take l.length = l.map (Value.int .i64) := by simpa using h4
  refine (Tryz.slices_Sort_int g 0 c l w (holds_of_blockI hh h4') (Array.getElem?_eq_some_iff.1 hh).1 (by omega)).mono ?_
  rintro e w' ⟨rfl, n, os, rfl⟩
  have hlen : (l.mergeSort fun x y => decide (x ≤ y)).length = l.length := (List.mergeSort_perm l _).length_eq
  exact ⟨rfl, ownsRow_sortedI hlen hb hh h1 h2 h3, grownBy_sortedI _⟩
theorem trimHasT (k : Nat) (A : Option Addr) (n cap : Nat) (w : World) (h : k < n) : Calls Tryz.prog 185 #[.int .i64 k, .slice A n cap] w fun e w' => e = .returned (.bool true) ∧ w = w' := by
  go_enter Tryz.func185, Tryz.ntmps185
  go_wp2
  go_ret
  exact ⟨rfl, rfl⟩
theorem trimHasF (k : Int) (A : Option Addr) (n cap : Nat) (w : World) (h : ¬(0 ≤ k ∧ k < n)) : Calls Tryz.prog 185 #[.int .i64 k, .slice A n cap] w fun e w' => e = .returned (.bool false) ∧ w = w' := by
  by_cases h0 : 0 ≤ k
  · have h1 : ¬ k < n := fun g => h ⟨h0, g⟩
    clear h
    go_enter Tryz.func185, Tryz.ntmps185
    go_wp2
    go_ret
    exact ⟨rfl, rfl⟩
  · clear h
    go_enter Tryz.func185, Tryz.ntmps185
    go_wp2
    go_ret
    exact ⟨rfl, rfl⟩
theorem ok_grown {W w w' : World} {g : Nat} (h : Ok W w) (hg : w.grownBy w' (some g)) (hB : W.heap.size ≤ g) : Ok W w' := Below.grown h hg h.size (fun k hk => by cases hk; exact hB)
theorem trimLeastF (k : Int) (A : Option Addr) (l : List Int) (cap : Nat) (w : World) (h : ¬(0 ≤ k ∧ k < l.length)) :
    Calls Tryz.prog 156 #[.int .i64 k, .slice A l.length cap] w fun e w' => e = .returned (.tuple #[.int .i64 0, .bool false]) ∧ Ok w w' := by
  have hok := Ok.refl w
  go_enter Tryz.func156, Tryz.ntmps156
  go_wp2_with (go_at_call 185; refine (trimHasF k _ _ _ _ h).mono ?_; rintro e w1 ⟨rfl, rfl⟩)
  go_ret2
  exact ⟨rfl, hok⟩
set_option maxHeartbeats 800000 in
theorem trimLeastT (k : Nat) (A : Option Addr) (l : List Int) (cap : Nat) (w : World) (hI : IntsAt w A l) (hl : l.length ≤ 1099511627776) (h : k < l.length) :
    Calls Tryz.prog 156 #[.int .i64 k, .slice A l.length cap] w fun e w' => e = .returned (.tuple #[.int .i64 (Trim.kth k l), .bool true]) ∧ Ok w w' := by
  have hok := Ok.refl w
  have KC := Lib.hid (sliceClone A l cap w hI hl (by omega))
  have KS := Lib.hid fun w B g c h => sliceSort (w := w) (B := B) (g := g) (c := c) (l := l) h hl
  have hlen : (l.mergeSort fun x y => decide (x ≤ y)).length = l.length := (List.mergeSort_perm l _).length_eq
  have hv : (l.mergeSort fun x y => decide (x ≤ y))[k]? = some (Trim.kth k l) := by
    have hk' : k < (l.mergeSort fun x y => decide (x ≤ y)).length := by omega
    unfold Trim.kth
    rw [List.getD_eq_getElem?_getD, List.getElem?_eq_getElem hk']; rfl
  generalize (l.mergeSort fun x y => decide (x ≤ y)) = s at KS hv
  generalize Trim.kth k l = v at hv ⊢
  have HV := Lib.hid hv
  clear hv hlen hI
  go_enter Tryz.func156, Tryz.ntmps156
  go_wp2_with (first
    | (go_at_call 185; refine (trimHasT k _ _ _ _ h).mono ?_; rintro e w1 ⟨rfl, rfl⟩)
    | (go_at_call 186; refine KC.out.mono ?_; rintro e w1 ⟨g, c, rfl, hown, hb1⟩)
    | (go_at_call 102; refine (KS.out _ _ _ _ hown).mono ?_; rintro e w2 ⟨rfl, hown2, hg2⟩; have hc := hown2.cells (g := g) rfl k (.int .i64 v) (by rw [List.getElem?_map, HV.out]; rfl); rw [Go.WideShapes.add_plain, Nat.zero_add] at hc; have hB := (World.ownsRow.lt hown g rfl).1))
  go_ret2
  exact ⟨rfl, ok_grown hb1 hg2 (by simpa using hB)⟩
end Go.Proofs.YtmokofblmkeloaaGreatDoor
