/- LeapGrows: for every table, every entry and every integer the law answers true: an entry more, behind all others, changes no label of a count up to two ahead of it. The row lists the table of the months' days (civil.lengths), tied to the program's text. No other condition. -/
import Derived.Test.YtacphjdkobodnaaDoorC18j
import Derived.Test.YtacphjdkobodnaaDoorW16
import Derived.Test.YtacphjdkobodnaaDoorW18
import Derived.Test.YtacphjdkobodnaaDoorW20
import Derived.Test.YtacphjdkobodnaaDoorW23
import Derived.Deep.CutRange
import Derived.Deep.RegionLaw
namespace Go.Proofs.YtacphjdkobodnaaDoor.leapGrows
open Go.ChangeShapes Go.WideShapes Go.ChangeAt Go.RowKit
set_option linter.unusedVariables false
set_option maxRecDepth 100000
attribute [local go_sem ↓] Go.wp_at_zero Go.wp_at_succ
theorem leapInfo : (Tryd.prog.info? 40).map (fun i => (i.zero, i.size, i.bytes)) = some (some (.agg #[.int .i64 0, .int .i64 0]), 2, 16) := by kernel_rfl
theorem cells_of_pairs {w : World} {A : Option Addr} {l : List (Int × Int)} (h : PairsAt w A l) : CellsAt w A (cellsOfPairs l) := fun j u hj => by
  have hlt : j < l.length * 2 := by rw [← cells_pairs_length]; exact (List.getElem?_eq_some_iff.1 hj).1
  have hk : j / 2 < l.length := by omega
  obtain ⟨b, off, e, hb, h1, h2⟩ := h (j / 2) hk
  obtain ⟨a1, a2⟩ := cellsOfPairs_at l (j / 2) hk
  refine ⟨b, off, e, hb, ?_⟩
  rcases Nat.mod_two_eq_zero_or_one j with g | g
  · have e2 : j = j / 2 * 2 := by omega
    rw [e2, a1] at hj
    cases hj
    rw [show off + j = off + j / 2 * 2 by omega]
    exact h1
  · have e2 : j = j / 2 * 2 + 1 := by omega
    rw [e2, a2] at hj
    cases hj
    rw [show off + j = off + j / 2 * 2 + 1 by omega]
    exact h2
theorem cells_of_own {w : World} {g : Nat} {x y : Value} (h : Own w g #[x, y]) : CellsAt w (some ⟨g, 0, none⟩) [x, y] := fun j u hj => by
  refine ⟨g, 0, rfl, h.lt, ?_⟩
  rw [Nat.zero_add]
  exact h.cell j (by rw [← hj]; simp)
theorem own_grown {w w' : World} {g : Nat} {cs : Array Value} {row : Option Nat} (h : Own w g cs) (hg : w.grownBy w' row) (hne : row ≠ some g) : Own w' g cs := by
  obtain ⟨t, hb⟩ := h
  exact ⟨t, (hg.block g (Array.getElem?_eq_some_iff.1 hb).1 (fun e => hne e.symm)).trans hb⟩
theorem grown_ok {w w1 w2 : World} {row : Option Nat} (h : Ok w w1) (hg : w1.grownBy w2 row) (hr : ∀ k, row = some k → w.heap.size ≤ k) : Ok w w2 := Below.grown h hg h.size hr
theorem pairs_of_row {w : World} {B : Nat} {e : TypeId} {A : Option Addr} {c : Nat} {l : List (Int × Int)} {p q : Int} (h : w.ownsRow B e 2 (.slice A (l.length + 1) c) (l.length + 1) (cellsOfPairs l ++ [.int .i64 p, .int .i64 q])) : PairsAt w A (l ++ [(p, q)]) := by
  have h2 : w.ownsRow B e 2 (.slice A (l.length + 1) c) (l ++ [(p, q)]).length (cellsOfPairs (l ++ [(p, q)])) := by
    rw [List.length_append, cells_pairs_append]; exact h
  obtain ⟨A', c', e1, hp⟩ := PairsAt.of_own h2
  injection e1 with e2 e3 e4
  rw [e2]; exact hp
theorem toL_snoc {l : List (Int × Int)} {p q c : Int} (h : Leap.good l = true) (h2 : Leap.good (l ++ [(p, q)]) = true) (hn : c < wrap64 (p - 1)) : Leap.toL (l ++ [(p, q)]) c = Leap.toL l c := by
  have hb := (Leap.tab_bd (Leap.good_tab h2)).2 (p, q) (List.mem_append.2 (.inr (List.mem_singleton.2 rfl)))
  simp only at hb
  rw [IntWalk.wrap64_in (p - 1) ⟨by omega, by omega⟩] at hn
  unfold Leap.toL
  rw [if_pos h, if_pos h2, Leap.lbl_snoc (e := (p, q)) hn]
theorem row_ge {w : World} {B n k : Nat} {e : TypeId} {v : Value} {xs : List Value} (h : w.ownsRow B e k v n xs) : ∀ r, v.ownBlock = some r → B ≤ r := fun r e => (h.lt r e).1
set_option maxHeartbeats 1600000 in
theorem big (w : World) (hT : Tab w) (A : Option Addr) (l : List (Int × Int)) (cap : Nat) (hA : PairsAt w A l) (hl : l.length ≤ 9223372036854775807) (hw : ∀ s ∈ l, (Lit.int .i64 s.1).wf = true ∧ (Lit.int .i64 s.2).wf = true) (p q c : Int) (h : 256 < l.length) : Calls Tryd.prog 9 #[.slice A l.length cap, .agg #[.int .i64 p, .int .i64 q], .int .i64 c] w fun e w' => e = .returned (.bool true) ∧ Ok w w' := by
  clear hw
  have hO := Own.new w #[.int .i64 p, .int .i64 q] 40 rfl
  have hok := (Ok.refl w).alloc (.cells #[.int .i64 p, .int .i64 q] 40)
  replace hT := hT.next hok
  replace hA := hA.below hok
  have o0 := hO.cell 0 rfl; have o1 := hO.cell 1 rfl; have ol := hO.lt
  go_enter Tryd.func9, Tryd.ntmps9
  go_upto_region 1 with fail
  generalize w.alloc (.cells #[.int .i64 p, .int .i64 q] 40) = W at *
  generalize w.heap.size = g at *
  go_wp2_with (go_at_call 10; refine (law18Alive _ hT).mono ?_; rintro e w1 ⟨rfl, hb1⟩; replace hO := hO.next hb1; replace hT := hT.next hb1; replace hA := hA.below hb1; replace hok := hok.trans hb1; clear hb1; clear o0 o1 ol; have o0 := hO.cell 0 rfl; have o1 := hO.cell 1 rfl; have ol := hO.lt)
  go_ret
  exact ⟨rfl, hok⟩
set_option maxHeartbeats 1600000 in
theorem far (w : World) (hT : Tab w) (A : Option Addr) (l : List (Int × Int)) (cap : Nat) (hA : PairsAt w A l) (hl : l.length ≤ 9223372036854775807) (hw : ∀ s ∈ l, (Lit.int .i64 s.1).wf = true ∧ (Lit.int .i64 s.2).wf = true) (p q c : Int) (h : l.length ≤ 256) (hc : 4398046511104 < c) : Calls Tryd.prog 9 #[.slice A l.length cap, .agg #[.int .i64 p, .int .i64 q], .int .i64 c] w fun e w' => e = .returned (.bool true) ∧ Ok w w' := by
  clear hw
  have hO := Own.new w #[.int .i64 p, .int .i64 q] 40 rfl
  have hok := (Ok.refl w).alloc (.cells #[.int .i64 p, .int .i64 q] 40)
  replace hT := hT.next hok
  replace hA := hA.below hok
  have o0 := hO.cell 0 rfl; have o1 := hO.cell 1 rfl; have ol := hO.lt
  go_enter Tryd.func9, Tryd.ntmps9
  go_upto_region 1 with fail
  generalize w.alloc (.cells #[.int .i64 p, .int .i64 q] 40) = W at *
  generalize w.heap.size = g at *
  go_wp2_with (go_at_call 10; refine (law18Alive _ hT).mono ?_; rintro e w1 ⟨rfl, hb1⟩; replace hO := hO.next hb1; replace hT := hT.next hb1; replace hA := hA.below hb1; replace hok := hok.trans hb1; clear hb1; clear o0 o1 ol; have o0 := hO.cell 0 rfl; have o1 := hO.cell 1 rfl; have ol := hO.lt)
  go_ret
  exact ⟨rfl, hok⟩
set_option maxHeartbeats 1600000 in
theorem near (w : World) (hT : Tab w) (A : Option Addr) (l : List (Int × Int)) (cap : Nat) (hA : PairsAt w A l) (hl : l.length ≤ 9223372036854775807) (hw : ∀ s ∈ l, (Lit.int .i64 s.1).wf = true ∧ (Lit.int .i64 s.2).wf = true) (p q c : Int) (h : l.length ≤ 256) (hc : c ≤ 4398046511104) (hn : wrap64 (p - 1) ≤ c) : Calls Tryd.prog 9 #[.slice A l.length cap, .agg #[.int .i64 p, .int .i64 q], .int .i64 c] w fun e w' => e = .returned (.bool true) ∧ Ok w w' := by
  clear hw
  have hO := Own.new w #[.int .i64 p, .int .i64 q] 40 rfl
  have hok := (Ok.refl w).alloc (.cells #[.int .i64 p, .int .i64 q] 40)
  replace hT := hT.next hok
  replace hA := hA.below hok
  have o0 := hO.cell 0 rfl; have o1 := hO.cell 1 rfl; have ol := hO.lt
  go_enter Tryd.func9, Tryd.ntmps9
  go_upto_region 1 with fail
  generalize w.alloc (.cells #[.int .i64 p, .int .i64 q] 40) = W at *
  generalize w.heap.size = g at *
  go_wp2_with (go_at_call 10; refine (law18Alive _ hT).mono ?_; rintro e w1 ⟨rfl, hb1⟩; replace hO := hO.next hb1; replace hT := hT.next hb1; replace hA := hA.below hb1; replace hok := hok.trans hb1; clear hb1; clear o0 o1 ol; have o0 := hO.cell 0 rfl; have o1 := hO.cell 1 rfl; have ol := hO.lt)
  go_ret
  exact ⟨rfl, hok⟩
set_option maxHeartbeats 6400000 in
theorem main (w : World) (hT : Tab w) (A : Option Addr) (l : List (Int × Int)) (cap : Nat) (hA : PairsAt w A l) (hl : l.length ≤ 9223372036854775807) (hw : ∀ s ∈ l, (Lit.int .i64 s.1).wf = true ∧ (Lit.int .i64 s.2).wf = true) (p q c : Int) (h : l.length ≤ 256) (hc : c ≤ 4398046511104) (hn : c < wrap64 (p - 1)) : Calls Tryd.prog 9 #[.slice A l.length cap, .agg #[.int .i64 p, .int .i64 q], .int .i64 c] w fun e w' => e = .returned (.bool true) ∧ Ok w w' := by
  clear hw
  have KG := Lib.hid fun w h => leapGood A l cap w h hl
  have KH := Lib.hid fun A2 c2 w h => leapGood A2 (l ++ [(p, q)]) c2 w h (by simp; omega)
  have K1 := Lib.hid fun w hT h => leapToLabel A l cap c w hT h hl
  have K2 := Lib.hid fun A2 c2 w hT h => leapToLabel A2 (l ++ [(p, q)]) c2 c w hT h (by simp; omega)
  simp only [List.length_append, List.length_singleton] at KH K2
  have HS := Lib.hid fun a b => toL_snoc (l := l) (p := p) (q := q) (c := c) a b hn
  have hO := Own.new w #[.int .i64 p, .int .i64 q] 40 rfl
  have hok := (Ok.refl w).alloc (.cells #[.int .i64 p, .int .i64 q] 40)
  replace hT := hT.next hok
  replace hA := hA.below hok
  have o0 := hO.cell 0 rfl; have o1 := hO.cell 1 rfl; have ol := hO.lt
  go_enter Tryd.func9, Tryd.ntmps9
  go_upto_region 1 with fail
  generalize w.alloc (.cells #[.int .i64 p, .int .i64 q] 40) = W at *
  generalize w.heap.size = g at *
  go_upto_region 5 with (go_at_call 10; refine (law18Alive _ hT).mono ?_; rintro e w1 ⟨rfl, hb1⟩; replace hO := hO.next hb1; replace hT := hT.next hb1; replace hA := hA.below hb1; replace hok := hok.trans hb1; clear hb1; clear o0 o1 ol; have o0 := hO.cell 0 rfl; have o1 := hO.cell 1 rfl; have ol := hO.lt)
  have HA := Lib.hid hA
  have HO := Lib.hid hO
  have OWa : Hid (((w1.alloc (.cells #[] 40)).drew).ownsRow w1.heap.size 40 2 (.slice (some ⟨w1.heap.size, 0, none⟩) 0 0) 0 []) := Lib.hid (World.ownsRow.drew (World.ownsRow_made w1 #[] 0 (Nat.le_refl _) (by decide) rfl))
  have OWb : Hid ((((w1.alloc (.cells #[] 40)).alloc (.cells #[.int .i64 p, .int .i64 q] 40)).drew).ownsRow w1.heap.size 40 2 (.slice (some ⟨w1.heap.size, 0, none⟩) 0 0) 0 []) := Lib.hid (World.ownsRow.drew (World.ownsRow.alloc (World.ownsRow_made w1 #[] 0 (Nat.le_refl _) (by decide) rfl) _))
  have OWc : Hid ((((w1.alloc (.cells #[.int .i64 p, .int .i64 q] 40)).alloc (.cells #[] 40)).drew).ownsRow w1.heap.size 40 2 (.slice (some ⟨w1.heap.size + 1, 0, none⟩) 0 0) 0 []) := Lib.hid (World.ownsRow.drew (by have := World.ownsRow_made (base := w1.heap.size) (w1.alloc (.cells #[.int .i64 p, .int .i64 q] 40)) #[] (e := 40) (size := 2) 0 (by simp) (by decide) rfl; simpa using this))
  have OKa : Hid (Ok w1 ((w1.alloc (.cells #[] 40)).drew)) := Lib.hid (((Ok.refl w1).alloc _).drew)
  have OKb : Hid (Ok w1 (((w1.alloc (.cells #[] 40)).alloc (.cells #[.int .i64 p, .int .i64 q] 40)).drew)) := Lib.hid ((((Ok.refl w1).alloc _).alloc _).drew)
  have OKc : Hid (Ok w1 (((w1.alloc (.cells #[.int .i64 p, .int .i64 q] 40)).alloc (.cells #[] 40)).drew)) := Lib.hid ((((Ok.refl w1).alloc _).alloc _).drew)
  have OEb : Hid (Own (((w1.alloc (.cells #[] 40)).alloc (.cells #[.int .i64 p, .int .i64 q] 40)).drew) (w1.heap.size + 1) #[.int .i64 p, .int .i64 q]) := Lib.hid (Own.new (w1.alloc (.cells #[] 40)) #[.int .i64 p, .int .i64 q] 40 (by simp)).drew
  have OEc : Hid (Own (((w1.alloc (.cells #[.int .i64 p, .int .i64 q] 40)).alloc (.cells #[] 40)).drew) w1.heap.size #[.int .i64 p, .int .i64 q]) := Lib.hid ((Own.new w1 #[.int .i64 p, .int .i64 q] 40 rfl).alloc _).drew
  go_cut [7] from 28 to 33 (fun s wx => ∃ A2 c2, s = .slice A2 (l.length + 1) c2 ∧ PairsAt wx A2 (l ++ [(p, q)]) ∧ Ok w1 wx)
  case first =>
    go_region_law (first | (refine step_append_cells rfl (.tmp 28) (.tmp 29) 22 rfl w1.heap.size 40 Tryd.underlying22 _ 2 16 (by decide) (by decide) rfl leapInfo _ 0 [] rfl (by first | exact OWa.out | exact OWb.out | exact OWc.out) A l.length cap (cellsOfPairs l) (cells_pairs_length l) rfl (cells_of_pairs (by first | exact HA.out.below OKa.out | exact HA.out.below OKb.out | exact HA.out.below OKc.out)) (cells_pairs_one l) (by omega) (by first | exact OKa.out.size | exact OKb.out.size | exact OKc.out.size) ?_; intro A1 c1 W1 hr1 hg1; simp only [Nat.zero_add, List.nil_append] at hr1; have OK2 : Hid (Ok w1 W1) := Lib.hid (by first | exact grown_ok OKa.out hg1 (fun k hk => by cases hk; simp) | exact grown_ok OKb.out hg1 (fun k hk => by cases hk; simp) | exact grown_ok OKc.out hg1 (fun k hk => by cases hk; simp)); (first | (have OE1 := Lib.hid (own_grown OEb.out hg1 (fun e => absurd (Option.some.inj e) (by show ¬ (w1.heap.size = w1.heap.size + 1); omega)))) | (have OE1 := Lib.hid (own_grown OEc.out hg1 (fun e => absurd (Option.some.inj e) (by show ¬ (w1.heap.size + 1 = w1.heap.size); omega)))) | skip); have HR1 := Lib.hid hr1; clear hr1 hg1; have hO1 := HO.out.next OK2.out; have a0 := hO1.cell 0 rfl; have a1 := hO1.cell 1 rfl; have al := hO1.lt) | (refine step_append_cells rfl (.tmp 30) (.tmp 32) 22 rfl w1.heap.size 40 Tryd.underlying22 _ 2 16 (by decide) (by decide) rfl leapInfo _ l.length _ rfl (by first | exact HR1.out | exact World.ownsRow.alloc HR1.out _) _ 1 1 [.int .i64 p, .int .i64 q] rfl rfl (by first | exact cells_of_own OE1.out | exact cells_of_own (Own.new W1 #[.int .i64 p, .int .i64 q] 40 rfl)) (by intro u hu; simp at hu; rcases hu with rfl | rfl <;> rfl) (by omega) (by first | exact OK2.out.size | exact (OK2.out.alloc _).size) ?_; intro A2 c2 W2 hr2 hg2; have OK3 : Hid (Ok w1 W2) := Lib.hid (by first | exact grown_ok OK2.out hg2 (row_ge HR1.out) | exact grown_ok (OK2.out.alloc _) hg2 (row_ge HR1.out)); have HR2 := Lib.hid (pairs_of_row hr2); clear hr2 hg2))
    all_goals
      go_wp2_with fail
      go_meet
      exact ⟨_, _, rfl, HR2.out, OK3.out⟩
  case rest =>
    obtain ⟨A2, c2, rfl, hM, hb1⟩ := hcut
    replace hT := hT.next hb1
    replace hA := hA.below hb1
    replace hok := hok.trans hb1
    clear hb1 OWa OWb OWc OKa OKb OKc OEb OEc HA HO hO o0 o1 ol
    by_cases g1 : Leap.good l = true
    · by_cases g2 : Leap.good (l ++ [(p, q)]) = true
      · have hs := HS.out g1 g2
        rw [g1] at KG
        rw [g2] at KH
        rw [hs] at K2
        clear hs g1 g2 HS
        generalize Leap.toL l c = L at K1 K2
        obtain ⟨L, er⟩ := L
        have hE := eqLabel L L
        rw [decide_eq_true rfl] at hE
        obtain ⟨y, mo, d, hh, mi, se⟩ := L
        simp only [lbV] at K1 K2 hE
        go_wp2_with (first
          | (go_at_call 13; first | ((with_reducible refine (KG.out _ hA).mono ?_); rintro e w4 ⟨rfl, hb1⟩; replace hT := hT.next hb1; replace hA := hA.below hb1; replace hM := hM.below hb1; replace hok := hok.trans hb1; clear hb1) | ((with_reducible refine (KH.out _ _ _ hM).mono ?_); rintro e w5 ⟨rfl, hb1⟩; replace hT := hT.next hb1; replace hA := hA.below hb1; replace hM := hM.below hb1; replace hok := hok.trans hb1; clear hb1))
          | (go_at_call 12; first | ((with_reducible refine (K1.out _ hT hA).mono ?_); rintro e w6 ⟨rfl, hb1⟩; obtain ⟨gx, hgx⟩ : ∃ g, w6.heap.size = g := ⟨_, rfl⟩; have hX := Own.new w6 #[.int .i64 y, .int .i64 mo, .int .i64 d, .int .i64 hh, .int .i64 mi, .int .i64 se] 26 (g := gx) hgx.symm; replace hb1 := hb1.alloc (.cells #[.int .i64 y, .int .i64 mo, .int .i64 d, .int .i64 hh, .int .i64 mi, .int .i64 se] 26); replace hT := hT.next hb1; replace hA := hA.below hb1; replace hM := hM.below hb1; replace hok := hok.trans hb1; clear hb1) | ((with_reducible refine (K2.out _ _ _ hT hM).mono ?_); rintro e w7 ⟨rfl, hb1⟩; obtain ⟨gy, hgy⟩ : ∃ g, w7.heap.size = g := ⟨_, rfl⟩; have hY := Own.new w7 #[.int .i64 y, .int .i64 mo, .int .i64 d, .int .i64 hh, .int .i64 mi, .int .i64 se] 26 (g := gy) hgy.symm; replace hb1 := hb1.alloc (.cells #[.int .i64 y, .int .i64 mo, .int .i64 d, .int .i64 hh, .int .i64 mi, .int .i64 se] 26); replace hX := hX.next hb1; replace hT := hT.next hb1; replace hA := hA.below hb1; replace hM := hM.below hb1; replace hok := hok.trans hb1; clear hb1; have x0 := hX.cell 0 rfl; have x1 := hX.cell 1 rfl; have x2 := hX.cell 2 rfl; have x3 := hX.cell 3 rfl; have x4 := hX.cell 4 rfl; have x5 := hX.cell 5 rfl; have xl := hX.lt; have y0 := hY.cell 0 rfl; have y1 := hY.cell 1 rfl; have y2 := hY.cell 2 rfl; have y3 := hY.cell 3 rfl; have y4 := hY.cell 4 rfl; have y5 := hY.cell 5 rfl; have yl := hY.lt)))
        go_ret
        exact ⟨rfl, hok⟩
      · have g3 : Leap.good (l ++ [(p, q)]) = false := by simpa using g2
        rw [g1] at KG
        rw [g3] at KH
        clear g1 g2 g3 HS
        go_wp2_with (first
          | (go_at_call 13; first | ((with_reducible refine (KG.out _ hA).mono ?_); rintro e w4 ⟨rfl, hb1⟩; replace hT := hT.next hb1; replace hA := hA.below hb1; replace hM := hM.below hb1; replace hok := hok.trans hb1; clear hb1) | ((with_reducible refine (KH.out _ _ _ hM).mono ?_); rintro e w5 ⟨rfl, hb1⟩; replace hT := hT.next hb1; replace hA := hA.below hb1; replace hM := hM.below hb1; replace hok := hok.trans hb1; clear hb1)))
        go_ret
        exact ⟨rfl, hok⟩
    · have g3 : Leap.good l = false := by simpa using g1
      rw [g3] at KG
      clear g1 g3 HS
      go_wp2_with (first
        | (go_at_call 13; first | ((with_reducible refine (KG.out _ hA).mono ?_); rintro e w4 ⟨rfl, hb1⟩; replace hT := hT.next hb1; replace hA := hA.below hb1; replace hM := hM.below hb1; replace hok := hok.trans hb1; clear hb1)))
      go_ret
      exact ⟨rfl, hok⟩
theorem walk (w : World) (hT : Tab w) (A : Option Addr) (l : List (Int × Int)) (cap : Nat) (hA : PairsAt w A l) (hl : l.length ≤ 9223372036854775807) (hw : ∀ s ∈ l, (Lit.int .i64 s.1).wf = true ∧ (Lit.int .i64 s.2).wf = true) (p q : Int) (wp : (Lit.int .i64 p).wf = true) (wq : (Lit.int .i64 q).wf = true) (c : Int) (wc : (Lit.int .i64 c).wf = true) : Calls Tryd.prog 9 #[.slice A l.length cap, .agg #[.int .i64 p, .int .i64 q], .int .i64 c] w fun e w' => e = .returned (.bool true) ∧ Below w.heap.size w w' := by
  show Calls Tryd.prog 9 #[.slice A l.length cap, .agg #[.int .i64 p, .int .i64 q], .int .i64 c] w fun e w' => e = .returned (.bool true) ∧ Ok w w'
  by_cases h : 256 < l.length
  · exact big w hT A l cap hA hl hw p q c h
  by_cases hc : 4398046511104 < c
  · exact far w hT A l cap hA hl hw p q c (by omega) hc
  by_cases hn : wrap64 (p - 1) ≤ c
  · exact near w hT A l cap hA hl hw p q c (by omega) (by omega) hn
  · exact main w hT A l cap hA hl hw p q c (by omega) (by omega) (by omega)
theorem own : ownKnob Tryd.prog.godebug = none := by kernel_rfl
theorem laidOut : laidOutB Tryd.prog = true := by kernel_rfl
theorem laid_met (os : Os) : laidMet Tryd.prog Rows.leapGrowsRow.laid ((laidWorld os).forCall (fun _ _ => 0) ⟨#[], #[.slice none 0 0, .agg #[.int .i64 0, .int .i64 0], .int .i64 0], []⟩).memory :=
  laidMet_of_run' 8 (by kernel_rfl) (by kernel_rfl)
theorem reads (os : Os) {H : Type} (enc : TypeId × Value → H) : ∃ places, DataW.whole enc Tryd.prog ((laidWorld os).forCall (fun _ _ => 0) ⟨#[], #[.slice none 0 0, .agg #[.int .i64 0, .int .i64 0], .int .i64 0], []⟩).memory Tryd.f9.params.toList Rows.leapGrowsSpec.vars false (#[.slice none 0 0, .agg #[.int .i64 0, .int .i64 0], .int .i64 0] : Array Value).toList 8 = some ([.nil, .agg [.lit (.int .i64 0), .lit (.int .i64 0)], .lit (.int .i64 0)], [], places) :=
  ⟨[], by kernel_rfl⟩
set_option maxRecDepth 100000 in
theorem lifted (os : Os) (started : os.Started) (H : Type) (enc : TypeId × Value → H) (F : Stop.Interp) :
    ReturnsInHanded {} Tryd.checked os 9 .any ((OpenSpec.ofChange Rows.leapGrowsSpec).preRow enc Tryd.prog Tryd.f9 Rows.leapGrowsRow.domain false Rows.leapGrowsRow.laid) (((OpenSpec.ofChange Rows.leapGrowsSpec).at F).post enc Tryd.prog Tryd.f9 false true false false) := by
  obtain ⟨places, hx⟩ := reads os enc
  refine returnsInHanded_of_row (C := Tryd.checked) (s := OpenSpec.ofChange Rows.leapGrowsSpec) own started (by kernel_rfl) Tryd.func9
    (witness_row_at (enc := enc) (C := Tryd.checked) false (laidWorld os) #[.slice none 0 0, .agg #[.int .i64 0, .int .i64 0], .int .i64 0] rfl (by kernel_rfl) (by kernel_rfl) (by kernel_rfl)
      (OpenSpec.preRow_of_cond 8 hx (by kernel_rfl) (fun k hk => by cases hk) (by kernel_rfl) (laid_met os))) ?_
  intro W base args ds gs before hval0 hW _ _ _ hL _ _
  have hval : ∀ (j : Nat) t v, Tryd.f9.params[j]? = some t → args[j]? = some v → Value.okWide Tryd.prog W .any base t v := hval0
  have hW' := hW
  obtain ⟨p, q, hA, hV, rfl, _, _⟩ := hW
  obtain ⟨rfl, rfl⟩ := trodVars_none hV
  replace hA : DataW.TrodAll enc Tryd.prog W 0 (fun _ => true) true Tryd.f9.params.toList args.toList ds p := hA
  rw [Tryd.params9] at hA hval
  obtain ⟨v0, vs0, d0, ds0, p0, q0, hargs, rfl, rfl, h0, r0⟩ := trodAll_cons hA
  obtain ⟨v1, vs1, d1, ds1, p1, q1, rfl, rfl, rfl, h1, r1⟩ := trodAll_cons r0
  obtain ⟨v2, vs2, d2, ds2, p2, q2, rfl, rfl, rfl, h2, r2⟩ := trodAll_cons r1
  obtain ⟨rfl, rfl, rfl⟩ := trodAll_nil r2
  obtain rfl : args = #[v0, v1, v2] := by cases args; simp_all
  obtain ⟨A0, l0, c0, rfl, hA0, hl0, hw0⟩ := open_slice_pairs Tryd.underlying22 Tryd.underlying40 (by kernel_rfl) (by kernel_rfl) (by kernel_rfl) (by kernel_rfl) (hval 0 22 v0 rfl rfl) h0
  obtain ⟨s1_0, s1_1, rfl, ws1_0, ws1_1⟩ := open_pair Tryd.underlying40 (by kernel_rfl) (by kernel_rfl) (by kernel_rfl) (by kernel_rfl) (hval 1 40 v1 rfl rfl) h1
  obtain ⟨a2, rfl, rfl, rfl, w2⟩ := open_int Tryd.underlying3 (hval 2 3 v2 rfl rfl) h2
  refine (walk W (tab_of hL) A0 l0 c0 hA0 hl0 hw0 s1_0 s1_1 ws1_0 ws1_1 a2 w2).mono fun e W' ⟨he, hb⟩ => ?_
  subst he
  exact ⟨_, rfl, law_post hW' laidOut (by rw [Tryd.params9]; exact params_ok (by kernel_rfl)) rfl (by kernel_rfl) Tryd.underlying4 rfl rfl rfl hb⟩
theorem said : Rows.LeapGrowsSaid :=
  OpenClaim.holds_of_cond 9 Tryd.f9 rfl rfl rfl rfl rfl rfl rfl ⟨rfl, rfl, rfl, rfl, rfl⟩ rfl rfl rfl rfl rfl (by kernel_rfl) Tryd.func9 (by kernel_rfl)
    (of_decide_eq_true (by kernel_rfl)) (by unfold Func.isWrapper; first | (rw [if_pos (by decide +kernel)]; kernel_rfl) | (rw [if_neg (by decide +kernel)]; exact ⟨rfl, rfl⟩))
    (fun os started H enc _ F => by rw [OpenClaim.pre_eq_preRow]; exact lifted os started H enc F)
theorem plain (f : FuncId) (fn : Func) (hf : Tryd.pinned.checked.prog.funcNamed "clepsydra/clepsydralaw18.LeapGrows" = some f) (hfn : Tryd.pinned.checked.prog.funcs[f]? = some fn) :
    false = Tryd.pinned.checked.prog.looks [] ∧ ∀ (j : Nat) t, fn.params[j]? = some t → Tryd.pinned.checked.prog.wantsStandIn t = false := by
  obtain rfl : f = 9 := Option.some.inj ((show Tryd.prog.funcNamed "clepsydra/clepsydralaw18.LeapGrows" = some 9 by kernel_rfl).symm.trans hf) |>.symm
  obtain rfl : fn = Tryd.f9 := (Option.some.inj (Tryd.func9.symm.trans hfn)).symm
  refine ⟨by kernel_rfl, fun j t ht => ?_⟩
  have hall : (Tryd.f9.params.toList.all fun u => !Tryd.prog.wantsStandIn u) = true := by kernel_rfl
  have hm : t ∈ Tryd.f9.params.toList := Array.mem_toList_iff.2 (Array.mem_of_getElem? ht)
  exact (show Tryd.prog.wantsStandIn t = false by simpa using List.all_eq_true.1 hall t hm)
theorem proved : Rows.LeapGrowsCardSaid :=
  Claim7.holds_tied_plain_at .later [] _ _ _ _ said (fun _ h => by cases h) (by kernel_rfl) (fun _ h => by cases h) leapGrows_row_tie rfl ⟨rfl, rfl⟩ (by kernel_rfl) rfl plain (by kernel_rfl)
end Go.Proofs.YtacphjdkobodnaaDoor.leapGrows
