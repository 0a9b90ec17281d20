/- WireKeeps: for every message the law answers true: what is handed in stays, its spare room too; the table that is answered is its own. No condition. -/
import Derived.Test.YtacnoakbcilmfaaC06r
import Derived.Test.YtacnoakbcilmfaaC06f
import Derived.Test.YtacnoakbcilmfaaC06e
import Derived.Test.YtacnoakbcilmfaaW16
import Derived.Deep.RegionHeld3
namespace Go.Proofs.Ytacnoakbcilmfaa.wireKeeps
open Go.ChangeShapes Go.WideShapes Go.ChangeAt Go.RowKit
set_option linter.unusedVariables false
set_option maxRecDepth 100000
attribute [local go_sem ↓] Go.wp_at_zero Go.wp_at_succ
theorem leapInfo : (Try.prog.info? 45).map (fun i => (i.zero, i.size, i.bytes)) = some (some (.agg #[.int .i64 0, .int .i64 0]), 2, 16) := by kernel_rfl
theorem growOwn {w W w2 : World} {B n sz : Nat} {e : TypeId} {v : Value} {xs : List Value} (h : Ok w W) (hB : w.heap.size ≤ B) (ho : W.ownsRow B e sz v n xs) (g : W.grownBy w2 v.ownBlock) : Ok w w2 :=
  Below.grown h g h.size fun k hk => by have := (ho.lt k hk).1; omega
theorem row_some {w : World} {B n : Nat} {e : TypeId} {v : Value} {xs : List Value} (h : w.ownsRow B e 2 v (n + 1) xs) : ∃ g c, v = .slice (some ⟨g, 0, none⟩) (n + 1) c ∧ B ≤ g ∧ g < w.heap.size ∧ n + 1 ≤ c := by
  rcases h.2 with ⟨_, h0⟩ | ⟨g, c, cur, hv, hb, hh, hnc, _⟩
  · omega
  · exact ⟨g, c, hv, hb, (Array.getElem?_eq_some_iff.1 hh).1, hnc⟩
/-- The front of a list of pairs reads, too. -/
theorem pairs_front {w : World} {A : Option Addr} {l m : List (Int × Int)} (h : PairsAt w A (l ++ m)) : PairsAt w A l := fun k hk => by
  obtain ⟨b, off, hA, hb, h1, h2⟩ := h k (by simp; omega)
  rw [List.getElem_append_left hk] at h1 h2
  exact ⟨b, off, hA, hb, h1, h2⟩
/-- A store into a block apart. -/
theorem pairs_set {w : World} {b : Nat} {l : List (Int × Int)} {a : Addr} (h : PairsAt w (some ⟨b, 0, none⟩) l) (ha : b ≠ a.block) (v : Value) : PairsAt (w.setCell a v) (some ⟨b, 0, none⟩) l := fun k hk => by
  obtain ⟨b', off', e, hb, h1, h2⟩ := h k hk
  cases e
  refine ⟨b, 0, rfl, by simpa using hb, ?_, ?_⟩
  · rw [World.cell?_setCell_other (h := by intro g; rw [g] at ha; exact ha rfl)]; exact h1
  · rw [World.cell?_setCell_other (h := by intro g; rw [g] at ha; exact ha rfl)]; exact h2
/-- What the test of the spare room keeps. -/
def St9 (w0 : World) (B1 g n : Nat) (A : Option Addr) (cap : Nat) (l : List (Int × Int)) (w' : World) : Prop :=
  w'.cell? ⟨B1, 13, none⟩ = some (.slice A n cap) ∧ w'.cell? ⟨g, n * 2, none⟩ = some (.int .i64 71) ∧ w'.cell? ⟨g, n * 2 + 1, none⟩ = some (.int .i64 0) ∧ PairsAt w' (some ⟨g, 0, none⟩) l ∧ PairsAt w' A l ∧ B1 < w'.heap.size ∧ g < w'.heap.size ∧ Ok w0 w'
theorem St9.next {w0 w' w1 : World} {B1 g n : Nat} {A : Option Addr} {cap : Nat} {l : List (Int × Int)} (k : Ok w' w1) (h : St9 w0 B1 g n A cap l w') : St9 w0 B1 g n A cap l w1 := by
  obtain ⟨c0, c1, c2, p1, p2, l1, l2, ho⟩ := h
  exact ⟨(k.cell (p := ⟨B1, 13, none⟩) l1).trans c0, (k.cell (p := ⟨g, n * 2, none⟩) l2).trans c1, (k.cell (p := ⟨g, n * 2 + 1, none⟩) l2).trans c2, p1.below k, p2.below k, Nat.lt_of_lt_of_le l1 k.size, Nat.lt_of_lt_of_le l2 k.size, ho.trans k⟩
theorem St9.drew {w0 w' : World} {B1 g n : Nat} {A : Option Addr} {cap : Nat} {l : List (Int × Int)} (h : St9 w0 B1 g n A cap l w') : St9 w0 B1 g n A cap l w'.drew := h.next (Ok.refl w').drew
theorem St9.p1 {w0 w' : World} {B1 g n : Nat} {A : Option Addr} {cap : Nat} {l : List (Int × Int)} (h : St9 w0 B1 g n A cap l w') : PairsAt w' (some ⟨g, 0, none⟩) l := h.2.2.2.1
theorem St9.p2 {w0 w' : World} {B1 g n : Nat} {A : Option Addr} {cap : Nat} {l : List (Int × Int)} (h : St9 w0 B1 g n A cap l w') : PairsAt w' A l := h.2.2.2.2.1
theorem walkL (w : World) (m : Msg) (A : Option Addr) (cap : Nat) (h : 1024 < m.table.length) :
    Calls Try.prog 8 #[msgV m A cap] w fun e w' => e = .returned (.bool true) ∧ Ok w w' := by
  have KL := Lib.hid fun W => law6Long m A cap W
  rw [decide_eq_true h] at KL
  have HO := Lib.hid (Own.new w (msgCells m A cap) 28 rfl)
  have HW := Lib.hid ((Ok.refl w).alloc (.cells (msgCells m A cap) 28))
  clear h
  unfold msgV msgCells at *
  go_enter Try.func8, Try.ntmps8
  go_wp2_with (first | (go_at_call 15; (with_reducible refine (law6Alive _).mono ?_); rintro e w1 ⟨rfl, hok⟩; obtain ⟨p0, p1, p2, p3, p4, p5, p6, p7, p8, p9, p10, p11, p12, p13⟩ := cells14 (HO.out.next hok)) | (go_at_call 11; (with_reducible refine (KL.out _).mono ?_); rintro e w2 ⟨rfl, hb⟩; replace hok := hok.trans hb; clear hb; obtain ⟨p0, p1, p2, p3, p4, p5, p6, p7, p8, p9, p10, p11, p12, p13⟩ := cells14 (HO.out.next hok)))
  go_ret
  exact ⟨rfl, HW.out.trans hok⟩
set_option maxHeartbeats 3200000 in
theorem walkK (w : World) (m : Msg) (A : Option Addr) (cap : Nat) (hA : PairsAt w A m.table) (hc : m.table.length ≤ cap) (hlm : m.table.length ≤ maxLen) (h : ¬ 1024 < m.table.length) :
    Calls Try.prog 8 #[msgV m A cap] w fun e w' => e = .returned (.bool true) ∧ Ok w w' := by
  have hlen : m.table.length ≤ 9223372036854775807 := by unfold maxLen at hlm; omega
  have KL := Lib.hid fun W => law6Long m A cap W
  rw [decide_eq_false h] at KL
  have HO := Lib.hid (Own.new w (msgCells m A cap) 28 rfl)
  have HW := Lib.hid ((Ok.refl w).alloc (.cells (msgCells m A cap) 28))
  have HA := Lib.hid hA
  have HN := Lib.hid (show m.table.length ≤ 1024 by omega)
  have KE := Lib.hid fun W g c (hB : PairsAt W (some ⟨g, 0, none⟩) m.table) => wireEncode m (some ⟨g, 0, none⟩) c W hB hlen
  have KT := Lib.hid fun W g c (hB : PairsAt W (some ⟨g, 0, none⟩) m.table) (hA : PairsAt W A m.table) => ref6Tables (some ⟨g, 0, none⟩) A m.table m.table c cap W hB hA hlen hlen
  rw [decide_eq_true rfl] at KT
  have KS := Lib.hid fun W B c (hB : PairsAt W B m.table) (hA : PairsAt W A m.table) => ref6Same m m B A c cap W hB hA hlen hlen
  rw [decide_eq_true rfl] at KS
  unfold msgV at KS
  obtain ⟨t, ht⟩ : ∃ t, encS m = t := ⟨_, rfl⟩
  obtain ⟨en, hn⟩ : ∃ en, encE m = en := ⟨_, rfl⟩
  have HEN := Lib.hid (show (t = ⟨#[]⟩ ∧ en = 1) ∨ (en = 0 ∧ ∀ W, Calls Try.prog 18 #[.string t] W (DecEnd t W m 0)) from by
    cases hg : Wire.good m with
    | false => exact .inl ⟨by rw [← ht]; unfold encS; rw [hg]; rfl, by rw [← hn]; unfold encE; rw [hg]; rfl⟩
    | true =>
      refine .inr ⟨by rw [← hn]; unfold encE; rw [hg]; rfl, fun W => ?_⟩
      have := wireDecode t W
      rwa [← ht, strL_enc hg, decOf_enc hg, ht] at this)
  simp only [ht, hn] at KE
  clear ht hn
  clear h hA hlm hlen
  unfold msgV at KL KE ⊢
  unfold msgCells at HO HW
  go_enter Try.func8, Try.ntmps8
  go_upto_region 6 with (first | (go_at_call 15; (with_reducible refine (law6Alive _).mono ?_); rintro e w1 ⟨rfl, hok⟩; obtain ⟨p0, p1, p2, p3, p4, p5, p6, p7, p8, p9, p10, p11, p12, p13⟩ := cells14 (HO.out.next hok)) | (go_at_call 11; (with_reducible refine (KL.out _).mono ?_); rintro e w2 ⟨rfl, hb⟩; replace hok := hok.trans hb; clear hb; obtain ⟨p0, p1, p2, p3, p4, p5, p6, p7, p8, p9, p10, p11, p12, p13⟩ := cells14 (HO.out.next hok)))
  clear p0 p1 p2 p3 p4 p5 p6 p7 p8 p9 p10 p11 p12 p13 KL
  have hO1 := (HO.out.next hok).alloc (.cells #[.int .i64 m.kind, .int .i64 m.frm, .int .i64 m.lo, .int .i64 m.hi, .int .i64 m.held, .int .i64 m.hops, .bool m.good, .bool m.ref, .int .i64 m.slo, .int .i64 m.shi, .int .i64 m.pulse, .int .i64 m.time, .int .i64 m.num, .slice A m.table.length cap] 28)
  have hO3 := Own.new w2 #[.int .i64 m.kind, .int .i64 m.frm, .int .i64 m.lo, .int .i64 m.hi, .int .i64 m.held, .int .i64 m.hops, .bool m.good, .bool m.ref, .int .i64 m.slo, .int .i64 m.shi, .int .i64 m.pulse, .int .i64 m.time, .int .i64 m.num, .slice A m.table.length cap] 28 rfl
  have hok0 : Ok w (w2.alloc (.cells #[.int .i64 m.kind, .int .i64 m.frm, .int .i64 m.lo, .int .i64 m.hi, .int .i64 m.held, .int .i64 m.hops, .bool m.good, .bool m.ref, .int .i64 m.slo, .int .i64 m.shi, .int .i64 m.pulse, .int .i64 m.time, .int .i64 m.num, .slice A m.table.length cap] 28)) := (HW.out.trans hok).alloc _
  have hlt : w.heap.size < w2.heap.size := by have := (HO.out.next hok).lt; exact this
  generalize w2.alloc (.cells #[.int .i64 m.kind, .int .i64 m.frm, .int .i64 m.lo, .int .i64 m.hi, .int .i64 m.held, .int .i64 m.hops, .bool m.good, .bool m.ref, .int .i64 m.slo, .int .i64 m.shi, .int .i64 m.pulse, .int .i64 m.time, .int .i64 m.num, .slice A m.table.length cap] 28) = W at hO1 hO3 hok0 ⊢
  obtain ⟨B1, hB1⟩ : ∃ B, w.heap.size = B := ⟨_, rfl⟩
  obtain ⟨B3, hB3⟩ : ∃ B, w2.heap.size = B := ⟨_, rfl⟩
  have HB1 := Lib.hid hB1
  simp only [hB1, hB3] at hO1 hO3 hlt ⊢
  have hA0 := HA.out.below hok0
  have hl3 := hO3.lt
  have hl1 := hO1.lt
  have p13 := hO1.cell 13 (v := .slice A m.table.length cap) rfl
  have hN := HN.out
  have HO1 := Lib.hid hO1
  have HO3 := Lib.hid hO3
  have HOK := Lib.hid hok0
  clear hB1 hB3 hok HO HW hO1 hO3 hok0
  go_upto_region 7 with (first
    | (at_builtin; refine wpList_append_pairs rfl _ _ 26 rfl W.heap.size 45 Try.underlying26 leapInfo _ [] 0 rfl rfl (World.ownsRow_made W #[] 0 (Nat.le_refl _) (Nat.zero_le _) rfl) A m.table m.table.length cap rfl rfl (hA0.alloc _) (by simp; omega) (by simp) ?_; intro v1 w3 hown1 hgrow1; rw [List.nil_append] at hown1)
    | (at_builtin; refine wpList_append_pairs rfl _ _ 26 rfl W.heap.size 45 Try.underlying26 leapInfo v1 m.table m.table.length rfl rfl (World.ownsRow.alloc hown1 _) (some ⟨w3.heap.size, 0, none⟩) [(71, 0)] 1 1 rfl rfl (pairs_new _ [(71, 0)] _ _ rfl rfl) (by simp; omega) (by have := hgrow1.size; simp at this; simp; omega) ?_; intro v2 w4 hown2 hgrow2))
  have hgrow1' : (W.alloc (.cells #[] 45)).grownBy w3 (some W.heap.size) := hgrow1
  have hk3 : Ok W w3 := Below.grown ((Ok.refl W).alloc _) hgrow1' (by simp) (fun k hk => by cases hk; exact Nat.le_refl _)
  have hs3 := hk3.size
  have hk4 : Ok W w4 := Below.grown (hk3.alloc _) hgrow2 (by simp; omega) (fun k hk => (hown1.lt k hk).1)
  have hl2 : (m.table ++ [((71 : Int), (0 : Int))]).length = m.table.length + 1 := by simp
  rw [hl2] at hown2
  obtain ⟨g, c2, rfl, hg1, hg2, hcc⟩ := row_some hown2
  have hP4 : PairsAt w4 (some ⟨g, 0, none⟩) (m.table ++ [(71, 0)]) := pairs_row (_n := 0) (by rw [hl2]; exact hown2)
  have hO1 := HO1.out.next hk4
  have hO3 := HO3.out.next hk4
  have hok4 := HOK.out.trans hk4
  have hs4 := hk4.size
  have hB1' := HB1.out
  have hg3 : g ≠ B3 := by omega
  have hcc2 : (m.table.length : Int) ≤ c2 := by omega
  have hcc0 : (0 : Int) ≤ m.table.length := by omega
  clear hgrow1 hgrow1' hgrow2 hown1 hown2 hl2 HO1 HO3 HOK hA0 hk3 hk4 hs3 p13
  clear p0 p1 p2 p3 p4 p5 p6 p7 p8 p9 p10 p11 p12 p13
  have p13 := hO1.cell 13 (v := .slice A m.table.length cap) rfl
  have r13 := hO3.cell 13 (v := .slice A m.table.length cap) rfl
  have f13 := hO3.frozen 13
  have hl1 := hO1.lt
  have hl3 := hO3.lt
  have HO1 := Lib.hid hO1
  have HO3 := Lib.hid hO3
  have HP4 := Lib.hid hP4
  have HK4 := Lib.hid hok4
  clear hO1 hO3 hP4 hok4
  go_upto_region 8 with (fail)
  have hO3' := HO3.out.set 13 (.slice (some ⟨g, 0, none⟩) m.table.length c2)
  simp only [Array.set!_eq_setIfInBounds, List.setIfInBounds_toArray, List.set_cons_zero, List.set_cons_succ] at hO3'
  have hO1' := HO1.out.setOther (a := ⟨B3, 13, none⟩) (by show B1 ≠ B3; omega) (.slice (some ⟨g, 0, none⟩) m.table.length c2)
  have hP5 := pairs_set HP4.out (a := ⟨B3, 13, none⟩) hg3 (.slice (some ⟨g, 0, none⟩) m.table.length c2)
  have hok5 := HK4.out.setCell (p := ⟨B3, 13, none⟩) (by show w.heap.size ≤ B3; omega) (.slice (some ⟨g, 0, none⟩) m.table.length c2)
  have hA5 := HA.out.below hok5
  generalize w4.setCell ⟨B3, 13, none⟩ (.slice (some ⟨g, 0, none⟩) m.table.length c2) = w5 at hO3' hO1' hP5 hok5 hA5 ⊢
  clear HO1 HO3 HP4 HK4 p13 r13 f13
  obtain ⟨p0, p1, p2, p3, p4, p5, p6, p7, p8, p9, p10, p11, p12, p13⟩ := cells14 hO3'
  have HO1 := Lib.hid hO1'
  have HP5 := Lib.hid hP5
  have HK5 := Lib.hid hok5
  have hl5 := hO1'.lt
  have KE5 := Lib.hid (KE.out w5 g c2 (pairs_front hP5))
  clear hO1' hO3' hP5 hok5 hA5 KE hl1 hl3 hg2 hs4
  go_upto_region 9 with ((go_at_call 16; (with_reducible refine KE5.out.mono ?_); rintro e w6 ⟨rfl, hb6⟩))
  clear p0 p1 p2 p3 p4 p5 p6 p7 p8 p9 p10 p11 p12 p13 KE5
  have hP6 := HP5.out.below hb6
  obtain ⟨b9, off9, e9, hg6, k1, k2⟩ := hP6 m.table.length (by simp)
  cases e9
  rw [List.getElem_append_right (Nat.le_refl _)] at k1 k2
  simp only [Nat.sub_self, List.getElem_cons_zero, Nat.zero_add] at k1 k2
  have hO6 := HO1.out.next hb6
  have hS : St9 w6 B1 g m.table.length A cap m.table w6 := ⟨hO6.cell 13 rfl, k1, k2, pairs_front hP6, (HA.out.below HK5.out).below hb6, hO6.lt, hg6, Ok.refl _⟩
  have HS := Lib.hid (And.intro hO6 (HK5.out.trans hb6))
  have hnn : (m.table.length : Int) < (m.table.length : Int) + 1 := by omega
  clear hP6 k1 k2 hO6 HP5 HO1 HK5 hb6 hg6 hl5 hg1 hg3 hlt HB1 hB1' hN hc
  go_region_held3 (fun w' => w'.cell? ⟨B1, 13, none⟩ = some (.slice A m.table.length cap) ∧ w'.cell? ⟨g, m.table.length * 2, none⟩ = some (.int .i64 71) ∧ w'.cell? ⟨g, m.table.length * 2 + 1, none⟩ = some (.int .i64 0) ∧ PairsAt w' (some ⟨g, 0, none⟩) m.table ∧ PairsAt w' A m.table ∧ B1 < w'.heap.size ∧ g < w'.heap.size ∧ Ok w6 w')
    (first | assumption | exact hS.drew | exact St9.next (by assumption) hS.drew | exact St9.next (by assumption) (by assumption))
    (first | (go_at_call 21; refine (KT.out _ g c2 ?_ ?_).mono ?_; (focus (first | exact St9.p1 hS.drew | exact St9.p1 (by assumption))); (focus (first | exact St9.p2 hS.drew | exact St9.p2 (by assumption))); rintro e w7 ⟨rfl, hb7⟩))
  rename_i hH
  obtain ⟨-, -, -, -, hA7, -, -, hb67⟩ := hH
  have hO7 := HS.out.1.next hb67
  have hok7 := HS.out.2.trans hb67
  have HO7 := Lib.hid hO7
  have HK7 := Lib.hid hok7
  have HA7 := Lib.hid hA7
  have hl7 := hO7.lt
  clear HS hS hb7 KT hcc hcc2 hcc0 hnn hO7 hok7 hA7 hb67 HA
  rcases HEN.out with ⟨rfl, rfl⟩ | ⟨rfl, KD⟩
  · clear HEN KS
    go_wp2_with (fail)
    go_ret
    exact ⟨rfl, HK7.out⟩
  · have HD := Lib.hid KD
    clear HEN KD
    unfold DecEnd msgV at HD
    go_upto_region 14 with ((go_at_call 18; (with_reducible refine (HD.out _).mono ?_); rintro e w8 ⟨X, cx, rfl, hrow, hb8⟩))
    have hR0 : PairRow w8 w7.heap.size X m.table.length := PairRow.of_own hrow
    have hXB : ∀ b off, X = some ⟨b, off, none⟩ → b < w8.heap.size := fun b off e => (hrow.lt b (by rw [e]; rfl)).2
    obtain ⟨B7, hB7⟩ : ∃ B, w8.heap.size = B := ⟨_, rfl⟩
    have hO8 := Own.new w8 #[.int .i64 m.kind, .int .i64 m.frm, .int .i64 m.lo, .int .i64 m.hi, .int .i64 m.held, .int .i64 m.hops, .bool m.good, .bool m.ref, .int .i64 m.slo, .int .i64 m.shi, .int .i64 m.pulse, .int .i64 m.time, .int .i64 m.num, .slice X m.table.length cx] 28 rfl
    have hR8 := hR0.next ((Ok.refl w8).alloc (.cells #[.int .i64 m.kind, .int .i64 m.frm, .int .i64 m.lo, .int .i64 m.hi, .int .i64 m.held, .int .i64 m.hops, .bool m.good, .bool m.ref, .int .i64 m.slo, .int .i64 m.shi, .int .i64 m.pulse, .int .i64 m.time, .int .i64 m.num, .slice X m.table.length cx] 28))
    have hk8 : Ok w7 (w8.alloc (.cells #[.int .i64 m.kind, .int .i64 m.frm, .int .i64 m.lo, .int .i64 m.hi, .int .i64 m.held, .int .i64 m.hops, .bool m.good, .bool m.ref, .int .i64 m.slo, .int .i64 m.shi, .int .i64 m.pulse, .int .i64 m.time, .int .i64 m.num, .slice X m.table.length cx] 28)) := hb8.alloc _
    rw [hB7] at hXB
    simp only [hB7] at hO8 ⊢
    have hB8 : w7.heap.size ≤ B7 := by rw [← hB7]; exact hb8.size
    generalize w8.alloc (.cells #[.int .i64 m.kind, .int .i64 m.frm, .int .i64 m.lo, .int .i64 m.hi, .int .i64 m.held, .int .i64 m.hops, .bool m.good, .bool m.ref, .int .i64 m.slo, .int .i64 m.shi, .int .i64 m.pulse, .int .i64 m.time, .int .i64 m.num, .slice X m.table.length cx] 28) = W8 at hO8 hR8 hk8 ⊢
    have HX := Lib.hid hXB
    clear hrow hR0 hb8 hB7 hXB
    have x13 := hO8.cell 13 (v := .slice X m.table.length cx) rfl
    go_wp2_with (fail)
    go_loopw [66] (fun i wr => ∃ k : Nat, k ≤ m.table.length ∧ i = .int .i64 k ∧ Own wr B7 #[.int .i64 m.kind, .int .i64 m.frm, .int .i64 m.lo, .int .i64 m.hi, .int .i64 m.held, .int .i64 m.hops, .bool m.good, .bool m.ref, .int .i64 m.slo, .int .i64 m.shi, .int .i64 m.pulse, .int .i64 m.time, .int .i64 m.num, .slice X m.table.length cx] ∧ PairRow wr w7.heap.size X m.table.length ∧ Ok w7 wr) (fun i _ => m.table.length - (intOf i).toNat)
    case atStart => exact ⟨0, Nat.zero_le _, rfl, hO8, hR8, hk8⟩
    case round =>
      obtain ⟨k, hk, rfl, hO, hR, hkr⟩ := hrel
      clear hO8 hR8 hk8 x13
      by_cases hlt : k < m.table.length
      · obtain ⟨bx, off, hX, hB, hblt, ⟨u, q1⟩, ⟨v, q2⟩, hf⟩ := hR k hlt
        have hbx := HX.out bx off hX
        subst hX
        have f1 := hf (off + k * 2)
        have f2 := hf (off + k * 2 + 1)
        have x13 := hO.cell 13 (v := .slice (some ⟨bx, off, none⟩) m.table.length cx) rfl
        have HO := Lib.hid hO
        have HR := Lib.hid hR
        have HKR := Lib.hid hkr
        have hol := hO.lt
        have hkn : (k : Int) < (m.table.length : Int) := by omega
        have hN := HN.out
        clear hO hR hkr hf HX KS HD
        go_wp2_with (fail)
        go_roundw
        case rel => exact ⟨k + 1, by omega, by go_num, (HO.out.setOther (a := ⟨bx, off + k * 2, none⟩) (by show B7 ≠ bx; omega) _).setOther (a := ⟨bx, off + k * 2 + 1, none⟩) (by show B7 ≠ bx; omega) _, (HR.out.set _ 0).set _ 0, (HKR.out.setCell (p := ⟨bx, off + k * 2, none⟩) hB _).setCell (p := ⟨bx, off + k * 2 + 1, none⟩) hB _⟩
        case measure => simp [intOf]; omega
      · clear hO hR HX
        have HO7' := Lib.hid (HO7.out.next hkr)
        have HK7' := Lib.hid (HK7.out.trans hkr)
        have HA7' := Lib.hid (HA7.out.below hkr)
        clear hkr HO7 HK7 HA7
        go_upto_region 20 with ((go_at_call 18; (with_reducible refine (HD.out _).mono ?_); rintro e w9 ⟨Y, cy, rfl, hrow9, hb9⟩))
        have hP9 : PairsAt w9 Y m.table := pairs_row (_n := 0) hrow9
        have hO9 := (HO7'.out.next hb9).alloc (.cells #[.int .i64 m.kind, .int .i64 m.frm, .int .i64 m.lo, .int .i64 m.hi, .int .i64 m.held, .int .i64 m.hops, .bool m.good, .bool m.ref, .int .i64 m.slo, .int .i64 m.shi, .int .i64 m.pulse, .int .i64 m.time, .int .i64 m.num, .slice Y m.table.length cy] 28)
        have hY9 := Own.new w9 #[.int .i64 m.kind, .int .i64 m.frm, .int .i64 m.lo, .int .i64 m.hi, .int .i64 m.held, .int .i64 m.hops, .bool m.good, .bool m.ref, .int .i64 m.slo, .int .i64 m.shi, .int .i64 m.pulse, .int .i64 m.time, .int .i64 m.num, .slice Y m.table.length cy] 28 rfl
        have hA9 := (HA7'.out.below hb9).below ((Ok.refl w9).alloc (.cells #[.int .i64 m.kind, .int .i64 m.frm, .int .i64 m.lo, .int .i64 m.hi, .int .i64 m.held, .int .i64 m.hops, .bool m.good, .bool m.ref, .int .i64 m.slo, .int .i64 m.shi, .int .i64 m.pulse, .int .i64 m.time, .int .i64 m.num, .slice Y m.table.length cy] 28))
        have hP9' := hP9.below ((Ok.refl w9).alloc (.cells #[.int .i64 m.kind, .int .i64 m.frm, .int .i64 m.lo, .int .i64 m.hi, .int .i64 m.held, .int .i64 m.hops, .bool m.good, .bool m.ref, .int .i64 m.slo, .int .i64 m.shi, .int .i64 m.pulse, .int .i64 m.time, .int .i64 m.num, .slice Y m.table.length cy] 28))
        have hk9 := (HK7'.out.trans hb9).alloc (.cells #[.int .i64 m.kind, .int .i64 m.frm, .int .i64 m.lo, .int .i64 m.hi, .int .i64 m.held, .int .i64 m.hops, .bool m.good, .bool m.ref, .int .i64 m.slo, .int .i64 m.shi, .int .i64 m.pulse, .int .i64 m.time, .int .i64 m.num, .slice Y m.table.length cy] 28)
        generalize w9.alloc (.cells #[.int .i64 m.kind, .int .i64 m.frm, .int .i64 m.lo, .int .i64 m.hi, .int .i64 m.held, .int .i64 m.hops, .bool m.good, .bool m.ref, .int .i64 m.slo, .int .i64 m.shi, .int .i64 m.pulse, .int .i64 m.time, .int .i64 m.num, .slice Y m.table.length cy] 28) = W9 at hO9 hY9 hA9 hP9' hk9 ⊢
        obtain ⟨B9, hB9⟩ : ∃ B, w9.heap.size = B := ⟨_, rfl⟩
        simp only [hB9] at hY9 ⊢
        have HA9 := Lib.hid (KS.out W9 Y cy hP9' hA9)
        obtain ⟨p0, p1, p2, p3, p4, p5, p6, p7, p8, p9, p10, p11, p12, p13⟩ := cells14 hO9
        obtain ⟨q0, q1, q2, q3, q4, q5, q6, q7, q8, q9, q10, q11, q12, q13⟩ := cells14 hY9
        have hl9 := hO9.lt
        have hl9' := hY9.lt
        have HK9 := Lib.hid hk9
        clear hB9 hrow9 hb9 hP9 hA9 hP9' hk9 hO9 hY9 KS HD HO7' HK7' HA7'
        go_wp2_with ((go_at_call 20; (with_reducible refine HA9.out.mono ?_); rintro e w10 ⟨rfl, hb10⟩))
        go_ret
        exact ⟨rfl, HK9.out.trans hb10⟩
theorem walk (w : World) (m : Msg) (A : Option Addr) (cap : Nat) (hA : PairsAt w A m.table) (hc : m.table.length ≤ cap) (hcm : cap ≤ maxLen) (wm : MsgWf m) :
    Calls Try.prog 8 #[msgV m A cap] w fun e w' => e = .returned (.bool true) ∧ Below w.heap.size w w' := by
  by_cases h : 1024 < m.table.length
  · exact walkL w m A cap h
  · exact walkK w m A cap hA hc (by omega) h
theorem own : ownKnob Try.prog.godebug = none := by kernel_rfl
theorem laidOut : laidOutB Try.prog = true := by kernel_rfl
set_option maxRecDepth 100000 in
theorem lifted (os : Os) (started : os.Started) (H : Type) (enc : TypeId × Value → H) :
    ReturnsInHanded {} Try.checked os 8 .any (Rows.wireKeepsSpec.pre6 enc Try.prog Try.f8 Rows.wireKeepsRow.domain false) (Rows.wireKeepsSpec.post enc Try.prog Try.f8 false true false false) := by
  refine returnsInHanded_of_change (C := Try.checked) own started (by kernel_rfl) Try.func8
    (ChangeSpec.witness6 (enc := enc) (C := Try.checked) false ⟨#[], #[.agg #[.int .i64 0, .int .i64 0, .int .i64 0, .int .i64 0, .int .i64 0, .int .i64 0, .bool false, .bool false, .int .i64 0, .int .i64 0, .int .i64 0, .int .i64 0, .int .i64 0, .slice none 0 0]], []⟩ 8 (by kernel_rfl) (by kernel_rfl) (by kernel_rfl) (by kernel_rfl)) ?_
  intro W base args ds gs before hval0 hW _ _
  have hval : ∀ (j : Nat) t v, Try.f8.params[j]? = some t → args[j]? = some v → Value.okWide Try.prog W .any base t v := hval0
  have hW' := hW
  obtain ⟨p, q, hA, hV, rfl, _, _⟩ := hW
  obtain ⟨rfl, rfl⟩ := trodVars_none hV
  replace hA : DataW.TrodAll enc Try.prog W 0 (fun _ => true) true Try.f8.params.toList args.toList ds p := hA
  rw [Try.params8] at hA hval
  obtain ⟨v0, vs0, d0, ds0, p0, q0, hargs, rfl, rfl, h0, r0⟩ := trodAll_cons hA
  obtain ⟨rfl, rfl, rfl⟩ := trodAll_nil r0
  obtain rfl : args = #[v0] := by cases args; simp_all
  obtain ⟨m0, A0, c0, rfl, hA0, hc0, hm0, w0⟩ := open_msg (hval 0 28 v0 rfl rfl) h0
  refine (walk W m0 A0 c0 hA0 hc0 hm0 w0).mono fun e W' ⟨he, hb⟩ => ?_
  subst he
  exact ⟨_, rfl, law_post hW' laidOut (by rw [Try.params8]; exact params_ok (by kernel_rfl)) rfl (by kernel_rfl) Try.underlying4 rfl rfl rfl hb⟩
theorem over : Rows.wireKeepsRow.holds Try.pinned (OpenSpec.ofChange Rows.wireKeepsSpec) :=
  OpenClaim.holds_of_wide 8 Try.f8 rfl rfl rfl rfl rfl rfl rfl ⟨rfl, rfl, rfl, rfl, rfl⟩ rfl rfl rfl rfl rfl (by kernel_rfl) Try.func8 (by kernel_rfl)
    (of_decide_eq_true (by kernel_rfl)) (by unfold Func.isWrapper; first | (rw [if_pos (by decide +kernel)]; kernel_rfl) | (rw [if_neg (by decide +kernel)]; exact ⟨rfl, rfl⟩))
    (fun os started H enc _ => lifted os started H enc)
theorem proved : Rows.WireKeepsSaid := over
end Go.Proofs.Ytacnoakbcilmfaa.wireKeeps
