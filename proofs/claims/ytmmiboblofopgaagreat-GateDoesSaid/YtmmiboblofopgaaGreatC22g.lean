/- Contracts of layer 22: the state that follows. -/
import Derived.Test.YtmmiboblofopgaaGreatC22f
import Derived.Test.YtmmiboblofopgaaGreatB09
import Derived.Test.YtmmiboblofopgaaGreatB15
import Derived.Deep.CutRange
namespace Go.Proofs.YtmmiboblofopgaaGreat
open Go.RowKit
set_option linter.unusedVariables false
set_option maxRecDepth 100000
attribute [local go_sem ↓] Go.wp_at_zero Go.wp_at_succ
theorem left22 (f : Int) (l : List (Int × Int)) : fLeft f l = Gate.left f l := rfl
theorem fz22 (f : Int) (l : List (Int × Int)) : fz f l = Gate.fused f l := rfl
/-- What each operation leaves. -/
def VMFol (G N X : Nat) (p : Par) (s : Sta) (x : In) (h1 h2 h3 : Int) (w : World) (v : Value) : Nat → Prop
  | 0 => v = .pointer (some ⟨G, 0, none⟩)
  | 1 => v = .pointer (some ⟨G, 0, none⟩)
  | 2 => v = .pointer (some ⟨G, 0, none⟩)
  | 3 => v = .pointer (some ⟨G, 0, none⟩)
  | 4 => v = parV p
  | 5 => v = .pointer (some ⟨N, 0, none⟩)
  | 6 => v = .agg #[.int .i64 s.lo, .int .i64 s.hi]
  | 7 => v = .pointer (some ⟨X, 0, none⟩)
  | 8 => v = .int .i64 x.ticks
  | 9 => v = .agg #[.int .i64 h1, .int .i64 h2]
  | 10 => v = .pointer (some ⟨N, 4, none⟩)
  | 11 => v = .int .i64 s.held
  | 12 => v = .int .i64 h3
  | 13 => v = .pointer (some ⟨N, 0, none⟩)
  | _ => v = .bool true
/-- It stays so. -/
def VCFol (G N X : Nat) (p : Par) (s : Sta) (x : In) (h1 h2 h3 : Int) (i : Nat) (v : Value) (w : World) : Prop := ∀ w', Ok w w' → VMFol G N X p s x h1 h2 h3 w' v i
set_option maxHeartbeats 6400000 in
theorem gateFollows (G : Nat) (p : Par) (me : Int) (s : Sta) (A : Option Addr) (cap : Nat) (x : In) (C : Option Addr) (l : List (Int × Int)) (cc : Nat) (w : World) (hO : Own w G (gateCells me p s A cap)) (hA : PairsAt w A s.table) (hT : PairsAt w x.T x.table) (hC : PairsAt w C l) (hl : l.length ≤ 100000) (hf : -9223372036854775808 ≤ p.f ∧ p.f ≤ 9223372036854775807) :
    Calls Tryz.prog 41 #[.pointer (some ⟨G, 0, none⟩), inV x, .slice C l.length cc] w fun e w' => ∃ (A2 : Option Addr) (c2 : Nat), e = .returned (staV (Gate.next p s x.ticks l x.given x.table) A2 c2) ∧ PairsAt w' A2 (Gate.next p s x.ticks l x.given x.table).table ∧ Ok w w' := by
  have KF := Lib.hid fun W' (k : Ok w W') => anchorFuse p C l cc W' (hC.below k) (by omega) hf
  have KH := Lib.hid fun w => carryHold p s.lo s.hi x.ticks w
  have KM := Lib.hid fun w => anchorMore s.held w
  rw [left22, fz22] at KF
  obtain ⟨u, hu⟩ : ∃ u, Gate.next p s x.ticks l x.given x.table = u := ⟨_, rfl⟩
  rw [hu]
  unfold Gate.next at hu
  obtain ⟨lf, hlf⟩ : ∃ b, Gate.left p.f l = b := ⟨_, rfl⟩
  obtain ⟨⟨f1, f2⟩, hfz⟩ : ∃ y, Gate.fused p.f l = y := ⟨_, rfl⟩
  obtain ⟨⟨h1, h2⟩, hho⟩ : ∃ y, Carry.hold p (s.lo, s.hi) x.ticks = y := ⟨_, rfl⟩
  obtain ⟨h3, hmo⟩ : ∃ y, Anchor.more s.held = y := ⟨_, rfl⟩
  rw [hlf, hfz, hho, hmo] at hu
  rw [hlf, hfz] at KF
  rw [hho] at KH
  rw [hmo] at KM
  simp only at KF KH
  have HUA : Hid (∀ A2 c2, (#[.int .i64 u.lo, .int .i64 u.hi, .int .i64 s.time, .bool s.set, .int .i64 u.held, .int .i64 0, .bool u.good, .slice A2 u.table.length c2, .int .i64 s.st, .int .i64 s.sn, .int .i64 s.life] : Array Value) = staCells u A2 c2) := Lib.hid fun A2 c2 => by rw [← hu]; rfl
  have HUT : Hid ((x.given = true → u.table = x.table) ∧ (x.given = false → u.table = s.table)) := Lib.hid ⟨fun h => by rw [← hu]; simp [h], fun h => by rw [← hu]; simp [h]⟩
  have HUF : Hid (lf = true → u.lo = f1 ∧ u.hi = f2 ∧ u.held = 0 ∧ u.good = true) := Lib.hid fun h => by rw [← hu]; simp [h]
  have HUN : Hid (lf = false → u.lo = h1 ∧ u.hi = h2 ∧ u.held = h3 ∧ u.good = s.good) := Lib.hid fun h => by rw [← hu]; simp [h]
  have HA := Lib.hid hA
  have HT := Lib.hid hT
  clear hu hlf hfz hho hmo hA hT hC hl hf
  have hX := (Own.new w (inCells x) 44 rfl).alloc (.cells (staCells zeroSta none 0) 30)
  have hY := Own.new (w.alloc (.cells (inCells x) 44)) (staCells zeroSta none 0) 30 (g := w.heap.size + 1) (by simp)
  have hok := ((Ok.refl w).alloc (.cells (inCells x) 44)).alloc (.cells (staCells zeroSta none 0) 30)
  have hQ := (hO.alloc (.cells (inCells x) 44)).alloc (.cells (staCells zeroSta none 0) 30)
  have hGl := hO.lt
  clear hO
  unfold inV
  go_enter Tryz.func41, Tryz.ntmps41
  go_upto_region 1 with fail
  change Code.wp _ _ _ _ ((w.alloc (.cells (inCells x) 44)).alloc (.cells (staCells zeroSta none 0) 30))
  generalize (w.alloc (.cells (inCells x) 44)).alloc (.cells (staCells zeroSta none 0) 30) = W at hX hY hok hQ ⊢
  obtain ⟨Y, hYe⟩ : ∃ r, w.heap.size + 1 = r := ⟨_, rfl⟩
  obtain ⟨X, hXe⟩ : ∃ r, w.heap.size = r := ⟨_, rfl⟩
  have HYW : Hid (w.heap.size ≤ Y ∧ X < Y ∧ G < X) := Lib.hid ⟨by omega, by omega, by omega⟩
  rw [hYe] at hY
  rw [hXe] at hX
  rw [hYe, hXe]
  clear hYe hXe hGl
  obtain ⟨s0, s1, s2, s3, s4, s5, s6, s7, s8, s9, s10⟩ := hQ.frS
  have hgl := hQ.lt
  have hYl := hY.lt
  go_upto_region 2 with fail
  clear s0 s1 s2 s3 s4 s5 s6 s7 s8 s9 s10 hgl
  have hN := Own.new W #[.int .i64 s.lo, .int .i64 s.hi, .int .i64 s.time, .bool s.set, .int .i64 s.held, .int .i64 s.hops, .bool s.good, .slice A s.table.length cap, .int .i64 s.st, .int .i64 s.sn, .int .i64 s.life] 30 rfl
  replace hX := hX.alloc (.cells #[.int .i64 s.lo, .int .i64 s.hi, .int .i64 s.time, .bool s.set, .int .i64 s.held, .int .i64 s.hops, .bool s.good, .slice A s.table.length cap, .int .i64 s.st, .int .i64 s.sn, .int .i64 s.life] 30)
  replace hY := hY.alloc (.cells #[.int .i64 s.lo, .int .i64 s.hi, .int .i64 s.time, .bool s.set, .int .i64 s.held, .int .i64 s.hops, .bool s.good, .slice A s.table.length cap, .int .i64 s.st, .int .i64 s.sn, .int .i64 s.life] 30)
  replace hQ := hQ.alloc (.cells #[.int .i64 s.lo, .int .i64 s.hi, .int .i64 s.time, .bool s.set, .int .i64 s.held, .int .i64 s.hops, .bool s.good, .slice A s.table.length cap, .int .i64 s.st, .int .i64 s.sn, .int .i64 s.life] 30)
  replace hok := hok.alloc (.cells #[.int .i64 s.lo, .int .i64 s.hi, .int .i64 s.time, .bool s.set, .int .i64 s.held, .int .i64 s.hops, .bool s.good, .slice A s.table.length cap, .int .i64 s.st, .int .i64 s.sn, .int .i64 s.life] 30)
  change Code.wp _ _ _ _ (W.alloc (.cells #[.int .i64 s.lo, .int .i64 s.hi, .int .i64 s.time, .bool s.set, .int .i64 s.held, .int .i64 s.hops, .bool s.good, .slice A s.table.length cap, .int .i64 s.st, .int .i64 s.sn, .int .i64 s.life] 30))
  generalize W.alloc (.cells #[.int .i64 s.lo, .int .i64 s.hi, .int .i64 s.time, .bool s.set, .int .i64 s.held, .int .i64 s.hops, .bool s.good, .slice A s.table.length cap, .int .i64 s.st, .int .i64 s.sn, .int .i64 s.life] 30) = W1 at hN hX hY hQ hok ⊢
  obtain ⟨N, hNe⟩ : ∃ r, W.heap.size = r := ⟨_, rfl⟩
  rw [hNe] at hN hYl
  rw [hNe]
  have HD : Hid (Y ≠ N ∧ X ≠ N ∧ G ≠ N ∧ w.heap.size ≤ N) := Lib.hid (by have := HYW.out; exact ⟨by omega, by omega, by omega, by omega⟩)
  clear hNe hYl
  have n5 := hN.cell 5 rfl
  have y5 := hN.frozen 5
  have hnl := hN.lt
  go_upto_region 3 with fail
  clear n5 y5 hnl
  replace hN := hN.set 5 (.int .i64 0)
  change Own _ N #[.int .i64 s.lo, .int .i64 s.hi, .int .i64 s.time, .bool s.set, .int .i64 s.held, .int .i64 0, .bool s.good, .slice A s.table.length cap, .int .i64 s.st, .int .i64 s.sn, .int .i64 s.life] at hN
  replace hY := (hY.setOther (a := ⟨N, 5, none⟩) HD.out.1 (.int .i64 0))
  replace hX := (hX.setOther (a := ⟨N, 5, none⟩) HD.out.2.1 (.int .i64 0))
  replace hQ := (hQ.setOther (a := ⟨N, 5, none⟩) HD.out.2.2.1 (.int .i64 0))
  replace hok := (hok.setCell (p := ⟨N, 5, none⟩) HD.out.2.2.2 (.int .i64 0))
  change Code.wp _ _ _ _ (W1.setCell ⟨N, 5, none⟩ (.int .i64 0))
  generalize W1.setCell ⟨N, 5, none⟩ (.int .i64 0) = W2 at hN hX hY hQ hok ⊢
  obtain ⟨c0, c1, c2, c3, c4, c5, c6, c7, c8, c9, c10, c11⟩ := hQ.frP
  have hgl := hQ.lt
  go_upto_region 4 with (go_at_call 77; refine (KF.out _ hok).mono ?_; rintro e w3 ⟨rfl, hb1⟩; clear c0 c1 c2 c3 c4 c5 c6 c7 c8 c9 c10 c11 hgl; replace hN := hN.next hb1; replace hX := hX.next hb1; replace hY := hY.next hb1; replace hQ := hQ.next hb1; replace hok := hok.trans hb1; clear hb1)
  have hF := Own.new w3 #[.int .i64 f1, .int .i64 f2] 25 rfl
  replace hX := hX.alloc (.cells #[.int .i64 f1, .int .i64 f2] 25)
  replace hY := hY.alloc (.cells #[.int .i64 f1, .int .i64 f2] 25)
  replace hQ := hQ.alloc (.cells #[.int .i64 f1, .int .i64 f2] 25)
  replace hN := hN.alloc (.cells #[.int .i64 f1, .int .i64 f2] 25)
  replace hok := hok.alloc (.cells #[.int .i64 f1, .int .i64 f2] 25)
  change Code.wp _ _ _ _ (w3.alloc (.cells #[.int .i64 f1, .int .i64 f2] 25))
  generalize w3.alloc (.cells #[.int .i64 f1, .int .i64 f2] 25) = W4 at hF hN hX hY hQ hok ⊢
  generalize w3.heap.size = FB at hF ⊢
  clear KF
  go_upto_if 26 with fail
  go_cut [] from 27 to 45 (fun wx => Own wx N #[.int .i64 u.lo, .int .i64 u.hi, .int .i64 s.time, .bool s.set, .int .i64 u.held, .int .i64 0, .bool u.good, .slice A s.table.length cap, .int .i64 s.st, .int .i64 s.sn, .int .i64 s.life] ∧ Own wx Y (staCells zeroSta none 0) ∧ Own wx X (inCells x) ∧ Own wx G (gateCells me p s A cap) ∧ Ok w wx)
  case first =>
    cases lf with
    | true =>
      obtain ⟨q1, q2, q3, q4⟩ := HUF.out rfl
      have HU1 : Hid ((#[.int .i64 u.lo, .int .i64 u.hi, .int .i64 s.time, .bool s.set, .int .i64 u.held, .int .i64 0, .bool u.good, .slice A s.table.length cap, .int .i64 s.st, .int .i64 s.sn, .int .i64 s.life] : Array Value) = #[.int .i64 f1, .int .i64 f2, .int .i64 s.time, .bool s.set, .int .i64 0, .int .i64 0, .bool true, .slice A s.table.length cap, .int .i64 s.st, .int .i64 s.sn, .int .i64 s.life]) := Lib.hid (by rw [q1, q2, q3, q4])
      clear q1 q2 q3 q4
      have n0 := hN.cell 0 rfl
      have n1 := hN.cell 1 rfl
      have n4 := hN.cell 4 rfl
      have n6 := hN.cell 6 rfl
      have y0 := hN.frozen 0
      have y1 := hN.frozen 1
      have y4 := hN.frozen 4
      have y6 := hN.frozen 6
      have hnl := hN.lt
      have b0 := hF.cell 0 (v := .int .i64 f1) rfl
      have b1 := hF.cell 1 (v := .int .i64 f2) rfl
      have hfl := hF.lt
      go_wp2_with fail
      go_meet
      replace hN := ((((hN.set 0 (.int .i64 f1)).set 1 (.int .i64 f2)).set 4 (.int .i64 0)).set 6 (.bool true))
      change Own _ N #[.int .i64 f1, .int .i64 f2, .int .i64 s.time, .bool s.set, .int .i64 0, .int .i64 0, .bool true, .slice A s.table.length cap, .int .i64 s.st, .int .i64 s.sn, .int .i64 s.life] at hN
      replace hY := ((((hY.setOther (a := ⟨N, 0, none⟩) HD.out.1 (.int .i64 f1)).setOther (a := ⟨N, 1, none⟩) HD.out.1 (.int .i64 f2)).setOther (a := ⟨N, 4, none⟩) HD.out.1 (.int .i64 0)).setOther (a := ⟨N, 6, none⟩) HD.out.1 (.bool true))
      replace hX := ((((hX.setOther (a := ⟨N, 0, none⟩) HD.out.2.1 (.int .i64 f1)).setOther (a := ⟨N, 1, none⟩) HD.out.2.1 (.int .i64 f2)).setOther (a := ⟨N, 4, none⟩) HD.out.2.1 (.int .i64 0)).setOther (a := ⟨N, 6, none⟩) HD.out.2.1 (.bool true))
      replace hQ := ((((hQ.setOther (a := ⟨N, 0, none⟩) HD.out.2.2.1 (.int .i64 f1)).setOther (a := ⟨N, 1, none⟩) HD.out.2.2.1 (.int .i64 f2)).setOther (a := ⟨N, 4, none⟩) HD.out.2.2.1 (.int .i64 0)).setOther (a := ⟨N, 6, none⟩) HD.out.2.2.1 (.bool true))
      replace hok := ((((hok.setCell (p := ⟨N, 0, none⟩) HD.out.2.2.2 (.int .i64 f1)).setCell (p := ⟨N, 1, none⟩) HD.out.2.2.2 (.int .i64 f2)).setCell (p := ⟨N, 4, none⟩) HD.out.2.2.2 (.int .i64 0)).setCell (p := ⟨N, 6, none⟩) HD.out.2.2.2 (.bool true))
      exact ⟨by rw [HU1.out]; exact hN, hY, hX, hQ, hok⟩
    | false =>
      obtain ⟨q1, q2, q3, q4⟩ := HUN.out rfl
      have HU1 : Hid ((#[.int .i64 u.lo, .int .i64 u.hi, .int .i64 s.time, .bool s.set, .int .i64 u.held, .int .i64 0, .bool u.good, .slice A s.table.length cap, .int .i64 s.st, .int .i64 s.sn, .int .i64 s.life] : Array Value) = #[.int .i64 h1, .int .i64 h2, .int .i64 s.time, .bool s.set, .int .i64 h3, .int .i64 0, .bool s.good, .slice A s.table.length cap, .int .i64 s.st, .int .i64 s.sn, .int .i64 s.life]) := Lib.hid (by rw [q1, q2, q3, q4])
      clear q1 q2 q3 q4 hF
      go_upto_region 6 with fail
      have HOK := Lib.hid hok
      have HQ := Lib.hid fun W' (k : Ok W4.drew W') => hQ.drew.next k
      have HN := Lib.hid fun W' (k : Ok W4.drew W') => hN.drew.next k
      have HX := Lib.hid fun W' (k : Ok W4.drew W') => hX.drew.next k
      have HY := Lib.hid fun W' (k : Ok W4.drew W') => hY.drew.next k
      clear hok hQ hN hX hY
      refine wp_region_facts_tail (by kernel_rfl) 52 rfl (VCFol G N X p s x h1 h2 h3) Ok _ 14 rfl rfl (by decide) (by kernel_rfl) (by kernel_rfl) (by kernel_rfl) (fun i v w w' h k w'' k' => h w'' (k.trans k')) (fun a b c => Ok.trans) (Ok.refl _) [some 31, some 32, some 33, some 34, some 35, some 36, some 37, some 38, some 39, some 40, some 41, some 42, some 43, some 44] rfl _ rfl ⟨?_, ?_, ?_, ?_, ?_, ?_, ?_, ?_, ?_, ?_, ?_, ?_, ?_, ?_, trivial⟩ ?_
      · intro a' w' hF hR
        have e0 : a'.tmps[0]? = some (.pointer (some ⟨G, 0, none⟩)) := hF.slot 0 (by kernel_rfl) rfl
        refine wpOp_run (v := .pointer (some ⟨G, 0, none⟩)) rfl rfl ?_ (fun _ _ => rfl) (Ok.refl _)
        clear hF
        go_simp
      · intro a' w' hF hR
        obtain ⟨v0, hv0, e31⟩ := hF.get 0 31 (by kernel_rfl) (by kernel_rfl)
        obtain rfl : v0 = _ := hv0 _ (Ok.refl _)
        refine wpOp_run (v := .pointer (some ⟨G, 0, none⟩)) rfl rfl ?_ (fun _ _ => rfl) (Ok.refl _)
        clear hF
        go_simp
      · intro a' w' hF hR
        obtain ⟨v1, hv1, e32⟩ := hF.get 1 32 (by kernel_rfl) (by kernel_rfl)
        obtain rfl : v1 = _ := hv1 _ (Ok.refl _)
        refine wpOp_run (v := .pointer (some ⟨G, 0, none⟩)) rfl rfl ?_ (fun _ _ => rfl) (Ok.refl _)
        clear hF
        go_simp
      · intro a' w' hF hR
        obtain ⟨v2, hv2, e33⟩ := hF.get 2 33 (by kernel_rfl) (by kernel_rfl)
        obtain rfl : v2 = _ := hv2 _ (Ok.refl _)
        refine wpOp_run (v := .pointer (some ⟨G, 0, none⟩)) rfl rfl ?_ (fun _ _ => rfl) (Ok.refl _)
        clear hF
        go_simp
      · intro a' w' hF hR
        obtain ⟨v3, hv3, e34⟩ := hF.get 3 34 (by kernel_rfl) (by kernel_rfl)
        obtain rfl : v3 = _ := hv3 _ (Ok.refl _)
        obtain ⟨c0, c1, c2, c3, c4, c5, c6, c7, c8, c9, c10, c11⟩ := (HQ.out _ hR).frP
        have hgl := (HQ.out _ hR).lt
        refine wpOp_run (v := parV p) rfl rfl ?_ (fun _ _ => rfl) (Ok.refl _)
        clear hF
        go_simp
      · intro a' w' hF hR
        have e7 : a'.tmps[7]? = some (.pointer (some ⟨N, 0, none⟩)) := hF.slot 7 (by kernel_rfl) rfl
        refine wpOp_run (v := .pointer (some ⟨N, 0, none⟩)) rfl rfl ?_ (fun _ _ => rfl) (Ok.refl _)
        clear hF
        go_simp
      · intro a' w' hF hR
        obtain ⟨v5, hv5, e36⟩ := hF.get 5 36 (by kernel_rfl) (by kernel_rfl)
        obtain rfl : v5 = _ := hv5 _ (Ok.refl _)
        have z0 := (HN.out _ hR).cell 0 rfl
        have z1 := (HN.out _ hR).cell 1 rfl
        have hnl := (HN.out _ hR).lt
        refine wpOp_run (v := .agg #[.int .i64 s.lo, .int .i64 s.hi]) rfl rfl ?_ (fun _ _ => rfl) (Ok.refl _)
        clear hF
        go_simp
      · intro a' w' hF hR
        have e4 : a'.tmps[4]? = some (.pointer (some ⟨X, 0, none⟩)) := hF.slot 4 (by kernel_rfl) rfl
        refine wpOp_run (v := .pointer (some ⟨X, 0, none⟩)) rfl rfl ?_ (fun _ _ => rfl) (Ok.refl _)
        clear hF
        go_simp
      · intro a' w' hF hR
        obtain ⟨v7, hv7, e38⟩ := hF.get 7 38 (by kernel_rfl) (by kernel_rfl)
        obtain rfl : v7 = _ := hv7 _ (Ok.refl _)
        have i0 := (HX.out _ hR).cell 0 (v := .int .i64 x.ticks) rfl
        have hxl := (HX.out _ hR).lt
        refine wpOp_run (v := .int .i64 x.ticks) rfl rfl ?_ (fun _ _ => rfl) (Ok.refl _)
        clear hF
        go_simp
      · intro a' w' hF hR
        obtain ⟨v4, hv4, e35⟩ := hF.get 4 35 (by kernel_rfl) (by kernel_rfl)
        obtain rfl : v4 = _ := hv4 _ (Ok.refl _)
        obtain ⟨v6, hv6, e37⟩ := hF.get 6 37 (by kernel_rfl) (by kernel_rfl)
        obtain rfl : v6 = _ := hv6 _ (Ok.refl _)
        obtain ⟨v8, hv8, e39⟩ := hF.get 8 39 (by kernel_rfl) (by kernel_rfl)
        obtain rfl : v8 = _ := hv8 _ (Ok.refl _)
        clear hF
        refine wpOp_call (f := 78) (args := #[parV p, .agg #[.int .i64 s.lo, .int .i64 s.hi], .int .i64 x.ticks]) rfl rfl ?_ ((KH.out _).mono ?_)
        · go_simp
        · rintro e w2 ⟨rfl, hb2⟩; exact ⟨_, rfl, fun _ _ => rfl, hb2⟩
      · intro a' w' hF hR
        have e7 : a'.tmps[7]? = some (.pointer (some ⟨N, 0, none⟩)) := hF.slot 7 (by kernel_rfl) rfl
        refine wpOp_run (v := .pointer (some ⟨N, 4, none⟩)) rfl rfl ?_ (fun _ _ => rfl) (Ok.refl _)
        clear hF
        go_simp
      · intro a' w' hF hR
        obtain ⟨v10, hv10, e41⟩ := hF.get 10 41 (by kernel_rfl) (by kernel_rfl)
        obtain rfl : v10 = _ := hv10 _ (Ok.refl _)
        have z4 := (HN.out _ hR).cell 4 rfl
        have hnl := (HN.out _ hR).lt
        refine wpOp_run (v := .int .i64 s.held) rfl rfl ?_ (fun _ _ => rfl) (Ok.refl _)
        clear hF
        go_simp
      · intro a' w' hF hR
        obtain ⟨v11, hv11, e42⟩ := hF.get 11 42 (by kernel_rfl) (by kernel_rfl)
        obtain rfl : v11 = _ := hv11 _ (Ok.refl _)
        clear hF
        refine wpOp_call (f := 79) (args := #[.int .i64 s.held]) rfl rfl ?_ ((KM.out _).mono ?_)
        · go_simp
        · rintro e w2 ⟨rfl, hb2⟩; exact ⟨_, rfl, fun _ _ => rfl, hb2⟩
      · intro a' w' hF hR
        have e7 : a'.tmps[7]? = some (.pointer (some ⟨N, 0, none⟩)) := hF.slot 7 (by kernel_rfl) rfl
        refine wpOp_run (v := .pointer (some ⟨N, 0, none⟩)) rfl rfl ?_ (fun _ _ => rfl) (Ok.refl _)
        clear hF
        go_simp
      intro vs W' hvs hR
      have e9 : vs 9 = .agg #[.int .i64 h1, .int .i64 h2] := hvs 9 (by decide) _ (Ok.refl _)
      have e12 : vs 12 = .int .i64 h3 := hvs 12 (by decide) _ (Ok.refl _)
      have e13 : vs 13 = .pointer (some ⟨N, 0, none⟩) := hvs 13 (by decide) _ (Ok.refl _)
      have hN := HN.out _ hR
      have hY := HY.out _ hR
      have hX := HX.out _ hR
      have hQ := HQ.out _ hR
      have hok := (HOK.out.trans (Ok.refl W4).drew).trans hR
      clear hvs HN HY HX HQ HOK KH KM
      have z0 := hN.cell 0 rfl
      have z1 := hN.cell 1 rfl
      have z4 := hN.cell 4 rfl
      have y0 := hN.frozen 0
      have y1 := hN.frozen 1
      have y4 := hN.frozen 4
      have hnl := hN.lt
      simp only [putFrom, e9, e12, e13]
      simp only [Act.put, List.setIfInBounds_toArray, List.set_cons_zero, List.set_cons_succ]
      refine wpOp_store (w' := ((W'.setCell ⟨N, 0, none⟩ (.int .i64 h1)).setCell ⟨N, 1, none⟩ (.int .i64 h2))) rfl rfl rfl ?_ ?_
      · go_simp
      refine wpOp_leaves (o := ⟨some 45, _, _, _, _, none⟩) (v := .pointer (some ⟨N, 4, none⟩)) (w' := ((W'.setCell ⟨N, 0, none⟩ (.int .i64 h1)).setCell ⟨N, 1, none⟩ (.int .i64 h2))) rfl rfl ?_ ?_
      · go_simp
      simp only [Act.put, List.setIfInBounds_toArray, List.set_cons_zero, List.set_cons_succ]
      refine wpOp_store (w' := (((W'.setCell ⟨N, 0, none⟩ (.int .i64 h1)).setCell ⟨N, 1, none⟩ (.int .i64 h2)).setCell ⟨N, 4, none⟩ (.int .i64 h3))) rfl rfl rfl ?_ ?_
      · go_simp
      simp only [TailFrom]
      clear z0 z1 z4 y0 y1 y4 hnl e9 e12 e13
      replace hN := (((hN.set 0 (.int .i64 h1)).set 1 (.int .i64 h2)).set 4 (.int .i64 h3))
      change Own _ N #[.int .i64 h1, .int .i64 h2, .int .i64 s.time, .bool s.set, .int .i64 h3, .int .i64 0, .bool s.good, .slice A s.table.length cap, .int .i64 s.st, .int .i64 s.sn, .int .i64 s.life] at hN
      replace hY := (((hY.setOther (a := ⟨N, 0, none⟩) HD.out.1 (.int .i64 h1)).setOther (a := ⟨N, 1, none⟩) HD.out.1 (.int .i64 h2)).setOther (a := ⟨N, 4, none⟩) HD.out.1 (.int .i64 h3))
      replace hX := (((hX.setOther (a := ⟨N, 0, none⟩) HD.out.2.1 (.int .i64 h1)).setOther (a := ⟨N, 1, none⟩) HD.out.2.1 (.int .i64 h2)).setOther (a := ⟨N, 4, none⟩) HD.out.2.1 (.int .i64 h3))
      replace hQ := (((hQ.setOther (a := ⟨N, 0, none⟩) HD.out.2.2.1 (.int .i64 h1)).setOther (a := ⟨N, 1, none⟩) HD.out.2.2.1 (.int .i64 h2)).setOther (a := ⟨N, 4, none⟩) HD.out.2.2.1 (.int .i64 h3))
      replace hok := (((hok.setCell (p := ⟨N, 0, none⟩) HD.out.2.2.2 (.int .i64 h1)).setCell (p := ⟨N, 1, none⟩) HD.out.2.2.2 (.int .i64 h2)).setCell (p := ⟨N, 4, none⟩) HD.out.2.2.2 (.int .i64 h3))
      generalize (((W'.setCell ⟨N, 0, none⟩ (.int .i64 h1)).setCell ⟨N, 1, none⟩ (.int .i64 h2)).setCell ⟨N, 4, none⟩ (.int .i64 h3)) = W5 at hN hY hX hQ hok ⊢
      generalize vs 0 = x20
      generalize vs 1 = x21
      generalize vs 2 = x22
      generalize vs 3 = x23
      generalize vs 4 = x24
      generalize vs 5 = x25
      generalize vs 6 = x26
      generalize vs 7 = x27
      generalize vs 8 = x28
      generalize vs 10 = x30
      generalize vs 11 = x31
      clear hR vs
      go_wp2_with fail
      go_meet
      exact ⟨by rw [HU1.out]; exact hN, hY, hX, hQ, hok⟩
  case rest =>
  clear hN hY hX hQ hok hF KH KM HUF HUN
  obtain ⟨hN, hY, hX, hQ, hok⟩ := hcut
  have g4 := hX.cell 4 (v := .bool x.given) rfl
  have hxl := hX.lt
  go_upto_if 47 with fail
  clear g4 hxl
  obtain ⟨gv, hgv⟩ : ∃ b, x.given = b := ⟨_, rfl⟩
  rw [hgv]
  have HGV := Lib.hid hgv
  clear hgv
  go_cut [] from 48 to 50 (fun wx => ∃ (A2 : Option Addr) (c2 : Nat), PairsAt w A2 u.table ∧ Own wx N #[.int .i64 u.lo, .int .i64 u.hi, .int .i64 s.time, .bool s.set, .int .i64 u.held, .int .i64 0, .bool u.good, .slice A2 u.table.length c2, .int .i64 s.st, .int .i64 s.sn, .int .i64 s.life] ∧ Own wx Y (staCells zeroSta none 0) ∧ Ok w wx)
  case first =>
    cases gv with
    | true =>
      have g5 := hX.cell 5 (v := .slice x.T x.table.length x.tcap) rfl
      have hxl := hX.lt
      have n7 := hN.cell 7 rfl
      have y7 := hN.frozen 7
      have hnl := hN.lt
      go_wp2_with fail
      go_meet
      have hk2 := hok.setCell (p := ⟨N, 7, none⟩) HD.out.2.2.2 (.slice x.T x.table.length x.tcap)
      replace hN := hN.set 7 (.slice x.T x.table.length x.tcap)
      have hut := HUT.out.1 HGV.out
      refine ⟨x.T, x.tcap, by rw [hut]; exact HT.out, ?_, hY.setOther (a := ⟨N, 7, none⟩) HD.out.1 (.slice x.T x.table.length x.tcap), hk2⟩
      rw [hut]
      exact hN
    | false =>
      go_wp2_with fail
      go_meet
      have hut := HUT.out.2 HGV.out
      exact ⟨A, cap, by rw [hut]; exact HA.out, by rw [hut]; exact hN, hY, hok⟩
  case rest =>
  clear hN hY hX hQ hok
  obtain ⟨A2, c2, hPu, hN, hY, hok⟩ := hcut
  rw [HUA.out] at hN
  have hrw := HYW.out.1
  obtain ⟨s0, s1, s2, s3, s4, s5, s6, s7, s8, s9, s10⟩ := hN.sta
  obtain ⟨z0, z1, z2, z3, z4, z5, z6, z7, z8, z9, z10⟩ := hY.sta
  obtain ⟨y0, y1, y2, y3, y4, y5, y6, y7, y8, y9, y10⟩ := frozenSta hY
  have hsl := hN.lt
  have hzl := hY.lt
  have hX := own_set11 hY u A2 c2
  have hok3 := ok_set11 hok hrw u A2 c2
  go_wp2_with fail
  clear s0 s1 s2 s3 s4 s5 s6 s7 s8 s9 s10 z0 z1 z2 z3 z4 z5 z6 z7 z8 z9 z10 y0 y1 y2 y3 y4 y5 y6 y7 y8 y9 y10 hsl hzl
  generalize (((((((((((wc.setCell ⟨Y, 0, none⟩ (.int .i64 u.lo)).setCell ⟨Y, 1, none⟩ (.int .i64 u.hi)).setCell ⟨Y, 2, none⟩ (.int .i64 u.time)).setCell ⟨Y, 3, none⟩ (.bool u.set)).setCell ⟨Y, 4, none⟩ (.int .i64 u.held)).setCell ⟨Y, 5, none⟩ (.int .i64 u.hops)).setCell ⟨Y, 6, none⟩ (.bool u.good)).setCell ⟨Y, 7, none⟩ (.slice A2 u.table.length c2)).setCell ⟨Y, 8, none⟩ (.int .i64 u.st)).setCell ⟨Y, 9, none⟩ (.int .i64 u.sn)).setCell ⟨Y, 10, none⟩ (.int .i64 u.life)) = W9 at hX hok3 ⊢
  obtain ⟨s0, s1, s2, s3, s4, s5, s6, s7, s8, s9, s10⟩ := hX.sta
  exact bodyPost_ret (v := staV u A2 c2) (by simp [results, Tryz.results41, go_sem, s0, s1, s2, s3, s4, s5, s6, s7, s8, s9, s10, staV]) rfl ⟨A2, c2, rfl, hPu.below hok3, hok3⟩
end Go.Proofs.YtmmiboblofopgaaGreat
