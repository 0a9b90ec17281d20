/- GateWaits: for every fabric, state, time, messages and error the law answers true: where nothing is fused the time stays in its span. No condition. -/
import Derived.Test.YtmmiboblofopgaaGreatC22b
import Derived.Test.YtmmiboblofopgaaGreatC22h
import Derived.Test.YtmmiboblofopgaaGreatB00
import Derived.Test.YtmmiboblofopgaaGreatB09
import Derived.Deep.CutRange
import Derived.BigQuiet
namespace Go.Proofs.YtmmiboblofopgaaGreat.gateWaits
open Go.ChangeShapes Go.WideShapes Go.ChangeAt Go.RowKit
set_option linter.unusedVariables false
set_option maxRecDepth 100000
attribute [local go_sem ↓] Go.wp_at_zero Go.wp_at_succ
set_option maxHeartbeats 12800000 in
theorem walkF (F : GateWorks) (w : World) (p : Par) (s : Sta) (A : Option Addr) (cap : Nat) (now : Int) (B : Option Addr) (l : List HA) (c err : Int) (cB : Nat) (hA : PairsAt w A s.table) (hl : s.table.length ≤ 9223372036854775807) (hB : HeardsAt w B l) (hll : l.length ≤ 9223372036854775807) :
    Calls Tryz.prog 5 #[parV p, staV s A cap, .int .i64 now, .slice B l.length cB, .int .i64 err] w fun e w' => e = .returned (.bool true) ∧ Ok w w' := by
  have KAL := Lib.hid fun w => law22AliveF F w
  have KCH := Lib.hid fun w => limCheck p w
  obtain ⟨in1, hin1⟩ : ∃ x : In, (⟨0, B, l, cB, false, 0, false, none, [], 0⟩ : In) = x := ⟨_, rfl⟩
  obtain ⟨lg, hlg⟩ : ∃ b, great22 s [in1] = b := ⟨_, rfl⟩
  have HI1 := Lib.hid fun (W' : World) (k : Ok w W') => show InAt W' in1 from hin1 ▸ ⟨hB.below k, PairsAt.empty _ _⟩
  have KG : Hid (∀ (W' : World) (b : Addr), InsAt W' (some b) [in1] → Calls Tryz.prog 9 #[staV s A cap, .slice (some b) 1 1] W' fun e w' => e = .returned (.bool lg) ∧ Ok W' w') := Lib.hid fun W' b h => by
    have k := law22Great s A cap (some b) [in1] 1 W' h (by simp) (fun x hx => by rw [List.mem_singleton] at hx; subst hx; rw [← hin1]; exact hll)
    rw [hlg] at k
    exact k
  have HLG := Lib.hid fun (h : lg = false) => great_few (hlg.trans h)
  subst hin1
  have HAA := Lib.hid hA
  have HBB := Lib.hid hB
  clear hlg hA hB hll
  have hP := (Own.new w (parCells p) 23 rfl).alloc (.cells (staCells s A cap) 30)
  have hS := Own.new (w.alloc (.cells (parCells p) 23)) (staCells s A cap) 30 (g := w.heap.size + 1) (by simp)
  have hok := ((Ok.refl w).alloc (.cells (parCells p) 23)).alloc (.cells (staCells s A cap) 30)
  go_enter Tryz.func5, Tryz.ntmps5
  go_upto_region 1 with fail
  change Code.wp _ _ _ _ ((w.alloc (.cells (parCells p) 23)).alloc (.cells (staCells s A cap) 30))
  generalize (w.alloc (.cells (parCells p) 23)).alloc (.cells (staCells s A cap) 30) = W at hP hS hok ⊢
  obtain ⟨H, hH⟩ : ∃ r, w.heap.size + 1 = r := ⟨_, rfl⟩
  obtain ⟨Bp, hB⟩ : ∃ r, w.heap.size = r := ⟨_, rfl⟩
  rw [hH] at hS
  rw [hB] at hP
  rw [hH, hB]
  clear hH hB
  go_upto_region 3 with (go_at_call 8; (with_reducible refine (KAL.out _).mono ?_); rintro e w1 ⟨rfl, hb1⟩; replace hP := hP.next hb1; replace hS := hS.next hb1; replace hok := hok.trans hb1; clear hb1)
  go_cut [64] from 16 to 64 (fun v wx => ∃ b, v = .bool b ∧ (b = false → (Lim.May p ∧ lg = false ∧ ¬ (1125899906842624 < now) ∧ ¬ (now < -1125899906842624) ∧ ¬ (2 * p.f < (l.length : Int)) ∧ ¬ (p.rho < err) ∧ ¬ (err < -p.rho) ∧ ¬ (s.held < 0) ∧ ¬ (1048576 < s.held))) ∧ Own wx Bp (parCells p) ∧ Own wx H (staCells s A cap) ∧ Ok w wx)
  case first =>
    obtain ⟨s0, s1, s2, s3, s4, s5, s6, s7, s8, s9, s10⟩ := hS.sta; have hsl := hS.lt
    obtain ⟨c0, c1, c2, c3, c4, c5, c6, c7, c8, c9, c10, c11⟩ := hP.pars; have hPl := hP.lt
    by_cases h0 : Lim.May p
    · rw [show Lim.check p = 0 from if_pos h0] at KCH
      have HM := Lib.hid h0
      have hf := h0.1.2
      have hr0 := h0.2.1.2.1
      have hr1 := h0.2.1.1
      have hn0 := h0.1.1
      have hk1 : IntKind.i64.wrap (2 * p.f) = 2 * p.f := IntWalk.i64_in _ ⟨by omega, by omega⟩
      have hk2 : IntKind.i64.wrap (-p.rho) = -p.rho := IntWalk.i64_in _ ⟨by omega, by omega⟩
      clear h0
      cases lg with
      | true =>
        go_wp2_with (first | (go_at_call 19; refine (KCH.out _).mono ?_; rintro e w2 ⟨rfl, hb1⟩; clear s0 s1 s2 s3 s4 s5 s6 s7 s8 s9 s10 hsl; clear c0 c1 c2 c3 c4 c5 c6 c7 c8 c9 c10 c11 hPl; replace hP := hP.next hb1; replace hS := hS.next hb1; replace hok := hok.trans hb1; clear hb1; obtain ⟨s0, s1, s2, s3, s4, s5, s6, s7, s8, s9, s10⟩ := hS.sta; have hsl := hS.lt; obtain ⟨c0, c1, c2, c3, c4, c5, c6, c7, c8, c9, c10, c11⟩ := hP.pars; have hPl := hP.lt) | (go_at_call 9; refine (KG.out _ _ (InsAt.new _ _ (HI1.out _ hok) _ rfl)).mono ?_; rintro e w3 ⟨rfl, hb1⟩; clear s0 s1 s2 s3 s4 s5 s6 s7 s8 s9 s10 hsl; clear c0 c1 c2 c3 c4 c5 c6 c7 c8 c9 c10 c11 hPl; replace hb1 := ((Ok.refl _).alloc _).trans hb1; replace hP := hP.next hb1; replace hS := hS.next hb1; replace hok := hok.trans hb1; clear hb1; obtain ⟨s0, s1, s2, s3, s4, s5, s6, s7, s8, s9, s10⟩ := hS.sta; have hsl := hS.lt; obtain ⟨c0, c1, c2, c3, c4, c5, c6, c7, c8, c9, c10, c11⟩ := hP.pars; have hPl := hP.lt))
        go_meet
        exact ⟨true, rfl, fun h => by (cases h), hP, hS, hok⟩
      | false =>
        by_cases h1 : 1125899906842624 < now
        · have e1 : decide (1125899906842624 < now) = true := decide_eq_true h1
          go_wp2_with (first | (go_at_call 19; refine (KCH.out _).mono ?_; rintro e w2 ⟨rfl, hb1⟩; clear s0 s1 s2 s3 s4 s5 s6 s7 s8 s9 s10 hsl; clear c0 c1 c2 c3 c4 c5 c6 c7 c8 c9 c10 c11 hPl; replace hP := hP.next hb1; replace hS := hS.next hb1; replace hok := hok.trans hb1; clear hb1; obtain ⟨s0, s1, s2, s3, s4, s5, s6, s7, s8, s9, s10⟩ := hS.sta; have hsl := hS.lt; obtain ⟨c0, c1, c2, c3, c4, c5, c6, c7, c8, c9, c10, c11⟩ := hP.pars; have hPl := hP.lt) | (go_at_call 9; refine (KG.out _ _ (InsAt.new _ _ (HI1.out _ hok) _ rfl)).mono ?_; rintro e w3 ⟨rfl, hb1⟩; clear s0 s1 s2 s3 s4 s5 s6 s7 s8 s9 s10 hsl; clear c0 c1 c2 c3 c4 c5 c6 c7 c8 c9 c10 c11 hPl; replace hb1 := ((Ok.refl _).alloc _).trans hb1; replace hP := hP.next hb1; replace hS := hS.next hb1; replace hok := hok.trans hb1; clear hb1; obtain ⟨s0, s1, s2, s3, s4, s5, s6, s7, s8, s9, s10⟩ := hS.sta; have hsl := hS.lt; obtain ⟨c0, c1, c2, c3, c4, c5, c6, c7, c8, c9, c10, c11⟩ := hP.pars; have hPl := hP.lt))
          go_meet
          exact ⟨true, rfl, fun h => by (cases h), hP, hS, hok⟩
        · have e1 : decide (1125899906842624 < now) = false := decide_eq_false h1
          by_cases h2 : now < -1125899906842624
          · have e2 : decide (now < -1125899906842624) = true := decide_eq_true h2
            go_wp2_with (first | (go_at_call 19; refine (KCH.out _).mono ?_; rintro e w2 ⟨rfl, hb1⟩; clear s0 s1 s2 s3 s4 s5 s6 s7 s8 s9 s10 hsl; clear c0 c1 c2 c3 c4 c5 c6 c7 c8 c9 c10 c11 hPl; replace hP := hP.next hb1; replace hS := hS.next hb1; replace hok := hok.trans hb1; clear hb1; obtain ⟨s0, s1, s2, s3, s4, s5, s6, s7, s8, s9, s10⟩ := hS.sta; have hsl := hS.lt; obtain ⟨c0, c1, c2, c3, c4, c5, c6, c7, c8, c9, c10, c11⟩ := hP.pars; have hPl := hP.lt) | (go_at_call 9; refine (KG.out _ _ (InsAt.new _ _ (HI1.out _ hok) _ rfl)).mono ?_; rintro e w3 ⟨rfl, hb1⟩; clear s0 s1 s2 s3 s4 s5 s6 s7 s8 s9 s10 hsl; clear c0 c1 c2 c3 c4 c5 c6 c7 c8 c9 c10 c11 hPl; replace hb1 := ((Ok.refl _).alloc _).trans hb1; replace hP := hP.next hb1; replace hS := hS.next hb1; replace hok := hok.trans hb1; clear hb1; obtain ⟨s0, s1, s2, s3, s4, s5, s6, s7, s8, s9, s10⟩ := hS.sta; have hsl := hS.lt; obtain ⟨c0, c1, c2, c3, c4, c5, c6, c7, c8, c9, c10, c11⟩ := hP.pars; have hPl := hP.lt))
            go_meet
            exact ⟨true, rfl, fun h => by (cases h), hP, hS, hok⟩
          · have e2 : decide (now < -1125899906842624) = false := decide_eq_false h2
            by_cases h3 : 2 * p.f < (l.length : Int)
            · have e3 : decide (2 * p.f < (l.length : Int)) = true := decide_eq_true h3
              go_wp2_with (first | (go_at_call 19; refine (KCH.out _).mono ?_; rintro e w2 ⟨rfl, hb1⟩; clear s0 s1 s2 s3 s4 s5 s6 s7 s8 s9 s10 hsl; clear c0 c1 c2 c3 c4 c5 c6 c7 c8 c9 c10 c11 hPl; replace hP := hP.next hb1; replace hS := hS.next hb1; replace hok := hok.trans hb1; clear hb1; obtain ⟨s0, s1, s2, s3, s4, s5, s6, s7, s8, s9, s10⟩ := hS.sta; have hsl := hS.lt; obtain ⟨c0, c1, c2, c3, c4, c5, c6, c7, c8, c9, c10, c11⟩ := hP.pars; have hPl := hP.lt) | (go_at_call 9; refine (KG.out _ _ (InsAt.new _ _ (HI1.out _ hok) _ rfl)).mono ?_; rintro e w3 ⟨rfl, hb1⟩; clear s0 s1 s2 s3 s4 s5 s6 s7 s8 s9 s10 hsl; clear c0 c1 c2 c3 c4 c5 c6 c7 c8 c9 c10 c11 hPl; replace hb1 := ((Ok.refl _).alloc _).trans hb1; replace hP := hP.next hb1; replace hS := hS.next hb1; replace hok := hok.trans hb1; clear hb1; obtain ⟨s0, s1, s2, s3, s4, s5, s6, s7, s8, s9, s10⟩ := hS.sta; have hsl := hS.lt; obtain ⟨c0, c1, c2, c3, c4, c5, c6, c7, c8, c9, c10, c11⟩ := hP.pars; have hPl := hP.lt))
              go_meet
              exact ⟨true, rfl, fun h => by (cases h), hP, hS, hok⟩
            · have e3 : decide (2 * p.f < (l.length : Int)) = false := decide_eq_false h3
              by_cases h4 : p.rho < err
              · have e4 : decide (p.rho < err) = true := decide_eq_true h4
                go_wp2_with (first | (go_at_call 19; refine (KCH.out _).mono ?_; rintro e w2 ⟨rfl, hb1⟩; clear s0 s1 s2 s3 s4 s5 s6 s7 s8 s9 s10 hsl; clear c0 c1 c2 c3 c4 c5 c6 c7 c8 c9 c10 c11 hPl; replace hP := hP.next hb1; replace hS := hS.next hb1; replace hok := hok.trans hb1; clear hb1; obtain ⟨s0, s1, s2, s3, s4, s5, s6, s7, s8, s9, s10⟩ := hS.sta; have hsl := hS.lt; obtain ⟨c0, c1, c2, c3, c4, c5, c6, c7, c8, c9, c10, c11⟩ := hP.pars; have hPl := hP.lt) | (go_at_call 9; refine (KG.out _ _ (InsAt.new _ _ (HI1.out _ hok) _ rfl)).mono ?_; rintro e w3 ⟨rfl, hb1⟩; clear s0 s1 s2 s3 s4 s5 s6 s7 s8 s9 s10 hsl; clear c0 c1 c2 c3 c4 c5 c6 c7 c8 c9 c10 c11 hPl; replace hb1 := ((Ok.refl _).alloc _).trans hb1; replace hP := hP.next hb1; replace hS := hS.next hb1; replace hok := hok.trans hb1; clear hb1; obtain ⟨s0, s1, s2, s3, s4, s5, s6, s7, s8, s9, s10⟩ := hS.sta; have hsl := hS.lt; obtain ⟨c0, c1, c2, c3, c4, c5, c6, c7, c8, c9, c10, c11⟩ := hP.pars; have hPl := hP.lt))
                go_meet
                exact ⟨true, rfl, fun h => by (cases h), hP, hS, hok⟩
              · have e4 : decide (p.rho < err) = false := decide_eq_false h4
                by_cases h5 : err < -p.rho
                · have e5 : decide (err < -p.rho) = true := decide_eq_true h5
                  go_wp2_with (first | (go_at_call 19; refine (KCH.out _).mono ?_; rintro e w2 ⟨rfl, hb1⟩; clear s0 s1 s2 s3 s4 s5 s6 s7 s8 s9 s10 hsl; clear c0 c1 c2 c3 c4 c5 c6 c7 c8 c9 c10 c11 hPl; replace hP := hP.next hb1; replace hS := hS.next hb1; replace hok := hok.trans hb1; clear hb1; obtain ⟨s0, s1, s2, s3, s4, s5, s6, s7, s8, s9, s10⟩ := hS.sta; have hsl := hS.lt; obtain ⟨c0, c1, c2, c3, c4, c5, c6, c7, c8, c9, c10, c11⟩ := hP.pars; have hPl := hP.lt) | (go_at_call 9; refine (KG.out _ _ (InsAt.new _ _ (HI1.out _ hok) _ rfl)).mono ?_; rintro e w3 ⟨rfl, hb1⟩; clear s0 s1 s2 s3 s4 s5 s6 s7 s8 s9 s10 hsl; clear c0 c1 c2 c3 c4 c5 c6 c7 c8 c9 c10 c11 hPl; replace hb1 := ((Ok.refl _).alloc _).trans hb1; replace hP := hP.next hb1; replace hS := hS.next hb1; replace hok := hok.trans hb1; clear hb1; obtain ⟨s0, s1, s2, s3, s4, s5, s6, s7, s8, s9, s10⟩ := hS.sta; have hsl := hS.lt; obtain ⟨c0, c1, c2, c3, c4, c5, c6, c7, c8, c9, c10, c11⟩ := hP.pars; have hPl := hP.lt))
                  go_meet
                  exact ⟨true, rfl, fun h => by (cases h), hP, hS, hok⟩
                · have e5 : decide (err < -p.rho) = false := decide_eq_false h5
                  by_cases h6 : s.held < 0
                  · have e6 : decide (s.held < 0) = true := decide_eq_true h6
                    go_wp2_with (first | (go_at_call 19; refine (KCH.out _).mono ?_; rintro e w2 ⟨rfl, hb1⟩; clear s0 s1 s2 s3 s4 s5 s6 s7 s8 s9 s10 hsl; clear c0 c1 c2 c3 c4 c5 c6 c7 c8 c9 c10 c11 hPl; replace hP := hP.next hb1; replace hS := hS.next hb1; replace hok := hok.trans hb1; clear hb1; obtain ⟨s0, s1, s2, s3, s4, s5, s6, s7, s8, s9, s10⟩ := hS.sta; have hsl := hS.lt; obtain ⟨c0, c1, c2, c3, c4, c5, c6, c7, c8, c9, c10, c11⟩ := hP.pars; have hPl := hP.lt) | (go_at_call 9; refine (KG.out _ _ (InsAt.new _ _ (HI1.out _ hok) _ rfl)).mono ?_; rintro e w3 ⟨rfl, hb1⟩; clear s0 s1 s2 s3 s4 s5 s6 s7 s8 s9 s10 hsl; clear c0 c1 c2 c3 c4 c5 c6 c7 c8 c9 c10 c11 hPl; replace hb1 := ((Ok.refl _).alloc _).trans hb1; replace hP := hP.next hb1; replace hS := hS.next hb1; replace hok := hok.trans hb1; clear hb1; obtain ⟨s0, s1, s2, s3, s4, s5, s6, s7, s8, s9, s10⟩ := hS.sta; have hsl := hS.lt; obtain ⟨c0, c1, c2, c3, c4, c5, c6, c7, c8, c9, c10, c11⟩ := hP.pars; have hPl := hP.lt))
                    go_meet
                    exact ⟨true, rfl, fun h => by (cases h), hP, hS, hok⟩
                  · have e6 : decide (s.held < 0) = false := decide_eq_false h6
                    by_cases h7 : 1048576 < s.held
                    · have e7 : decide (1048576 < s.held) = true := decide_eq_true h7
                      go_wp2_with (first | (go_at_call 19; refine (KCH.out _).mono ?_; rintro e w2 ⟨rfl, hb1⟩; clear s0 s1 s2 s3 s4 s5 s6 s7 s8 s9 s10 hsl; clear c0 c1 c2 c3 c4 c5 c6 c7 c8 c9 c10 c11 hPl; replace hP := hP.next hb1; replace hS := hS.next hb1; replace hok := hok.trans hb1; clear hb1; obtain ⟨s0, s1, s2, s3, s4, s5, s6, s7, s8, s9, s10⟩ := hS.sta; have hsl := hS.lt; obtain ⟨c0, c1, c2, c3, c4, c5, c6, c7, c8, c9, c10, c11⟩ := hP.pars; have hPl := hP.lt) | (go_at_call 9; refine (KG.out _ _ (InsAt.new _ _ (HI1.out _ hok) _ rfl)).mono ?_; rintro e w3 ⟨rfl, hb1⟩; clear s0 s1 s2 s3 s4 s5 s6 s7 s8 s9 s10 hsl; clear c0 c1 c2 c3 c4 c5 c6 c7 c8 c9 c10 c11 hPl; replace hb1 := ((Ok.refl _).alloc _).trans hb1; replace hP := hP.next hb1; replace hS := hS.next hb1; replace hok := hok.trans hb1; clear hb1; obtain ⟨s0, s1, s2, s3, s4, s5, s6, s7, s8, s9, s10⟩ := hS.sta; have hsl := hS.lt; obtain ⟨c0, c1, c2, c3, c4, c5, c6, c7, c8, c9, c10, c11⟩ := hP.pars; have hPl := hP.lt))
                      go_meet
                      exact ⟨true, rfl, fun h => by (cases h), hP, hS, hok⟩
                    · have e7 : decide (1048576 < s.held) = false := decide_eq_false h7
                      go_wp2_with (first | (go_at_call 19; refine (KCH.out _).mono ?_; rintro e w2 ⟨rfl, hb1⟩; clear s0 s1 s2 s3 s4 s5 s6 s7 s8 s9 s10 hsl; clear c0 c1 c2 c3 c4 c5 c6 c7 c8 c9 c10 c11 hPl; replace hP := hP.next hb1; replace hS := hS.next hb1; replace hok := hok.trans hb1; clear hb1; obtain ⟨s0, s1, s2, s3, s4, s5, s6, s7, s8, s9, s10⟩ := hS.sta; have hsl := hS.lt; obtain ⟨c0, c1, c2, c3, c4, c5, c6, c7, c8, c9, c10, c11⟩ := hP.pars; have hPl := hP.lt) | (go_at_call 9; refine (KG.out _ _ (InsAt.new _ _ (HI1.out _ hok) _ rfl)).mono ?_; rintro e w3 ⟨rfl, hb1⟩; clear s0 s1 s2 s3 s4 s5 s6 s7 s8 s9 s10 hsl; clear c0 c1 c2 c3 c4 c5 c6 c7 c8 c9 c10 c11 hPl; replace hb1 := ((Ok.refl _).alloc _).trans hb1; replace hP := hP.next hb1; replace hS := hS.next hb1; replace hok := hok.trans hb1; clear hb1; obtain ⟨s0, s1, s2, s3, s4, s5, s6, s7, s8, s9, s10⟩ := hS.sta; have hsl := hS.lt; obtain ⟨c0, c1, c2, c3, c4, c5, c6, c7, c8, c9, c10, c11⟩ := hP.pars; have hPl := hP.lt))
                      go_meet
                      exact ⟨false, rfl, fun _ => ⟨HM.out, by first | rfl | trivial, h1, h2, h3, h4, h5, h6, h7⟩, hP, hS, hok⟩
    · rw [show Lim.check p = 1 from if_neg h0] at KCH
      clear h0
      go_wp2_with (first | (go_at_call 19; refine (KCH.out _).mono ?_; rintro e w2 ⟨rfl, hb1⟩; clear s0 s1 s2 s3 s4 s5 s6 s7 s8 s9 s10 hsl; clear c0 c1 c2 c3 c4 c5 c6 c7 c8 c9 c10 c11 hPl; replace hP := hP.next hb1; replace hS := hS.next hb1; replace hok := hok.trans hb1; clear hb1; obtain ⟨s0, s1, s2, s3, s4, s5, s6, s7, s8, s9, s10⟩ := hS.sta; have hsl := hS.lt; obtain ⟨c0, c1, c2, c3, c4, c5, c6, c7, c8, c9, c10, c11⟩ := hP.pars; have hPl := hP.lt) | (go_at_call 9; refine (KG.out _ _ (InsAt.new _ _ (HI1.out _ hok) _ rfl)).mono ?_; rintro e w3 ⟨rfl, hb1⟩; clear s0 s1 s2 s3 s4 s5 s6 s7 s8 s9 s10 hsl; clear c0 c1 c2 c3 c4 c5 c6 c7 c8 c9 c10 c11 hPl; replace hb1 := ((Ok.refl _).alloc _).trans hb1; replace hP := hP.next hb1; replace hS := hS.next hb1; replace hok := hok.trans hb1; clear hb1; obtain ⟨s0, s1, s2, s3, s4, s5, s6, s7, s8, s9, s10⟩ := hS.sta; have hsl := hS.lt; obtain ⟨c0, c1, c2, c3, c4, c5, c6, c7, c8, c9, c10, c11⟩ := hP.pars; have hPl := hP.lt))
      go_meet
      exact ⟨true, rfl, fun h => by (cases h), hP, hS, hok⟩
  case rest =>
  clear hP hS hok KCH KG
  obtain ⟨b, rfl, hc1, hP, hS, hok⟩ := hcut
  cases b with
  | true =>
    go_wp2_with fail
    go_ret
    exact ⟨rfl, hok⟩
  | false =>
  have HC1 := Lib.hid (hc1 rfl)
  clear hc1
  go_upto_region 5 with fail
  go_cut [88] from 65 to 88 (fun v wx => ∃ b, v = .bool b ∧ (b = false → (¬ (now < s.lo) ∧ ¬ (s.hi < now) ∧ ¬ (s.lo < -36028797018963968) ∧ ¬ (36028797018963968 < s.hi))) ∧ wx = wc)
  case first =>
    have s0 := hS.cell 0 (v := .int .i64 s.lo) rfl
    have s1 := hS.cell 1 (v := .int .i64 s.hi) rfl
    have hsl := hS.lt
    by_cases h0 : now < s.lo
    · have e0 : decide (now < s.lo) = true := decide_eq_true h0
      go_wp2_with fail
      go_meet
      exact ⟨true, rfl, fun h => by (cases h), rfl⟩
    · have e0 : decide (now < s.lo) = false := decide_eq_false h0
      by_cases h1 : s.hi < now
      · have e1 : decide (s.hi < now) = true := decide_eq_true h1
        go_wp2_with fail
        go_meet
        exact ⟨true, rfl, fun h => by (cases h), rfl⟩
      · have e1 : decide (s.hi < now) = false := decide_eq_false h1
        by_cases h2 : s.lo < -36028797018963968
        · have e2 : decide (s.lo < -36028797018963968) = true := decide_eq_true h2
          go_wp2_with fail
          go_meet
          exact ⟨true, rfl, fun h => by (cases h), rfl⟩
        · have e2 : decide (s.lo < -36028797018963968) = false := decide_eq_false h2
          by_cases h3 : 36028797018963968 < s.hi
          · have e3 : decide (36028797018963968 < s.hi) = true := decide_eq_true h3
            go_wp2_with fail
            go_meet
            exact ⟨true, rfl, fun h => by (cases h), rfl⟩
          · have e3 : decide (36028797018963968 < s.hi) = false := decide_eq_false h3
            go_wp2_with fail
            go_meet
            exact ⟨false, rfl, fun _ => ⟨h0, h1, h2, h3⟩, rfl⟩
  case rest =>
  obtain ⟨b, rfl, hc2, rfl⟩ := hcut
  cases b with
  | true =>
    go_wp2_with fail
    go_ret
    exact ⟨rfl, hok⟩
  | false =>
  obtain ⟨hm, hlg, b1, b2, b3, b4, b5, b6, b7⟩ := HC1.out
  obtain ⟨d0, d1, d2, d3⟩ := hc2 rfl
  have hfew := HLG.out hlg
  have hl40 : l.length ≤ 40 := hfew.heard _ (List.mem_singleton.2 rfl)
  have HT8 : Hid (∀ h ∈ l, h.m.table.length ≤ 8796093022208) := Lib.hid fun h hh => Nat.le_trans (hfew.told _ (List.mem_singleton.2 rfl) h hh) (by decide)
  clear hfew hlg HLG HC1 hc2
  have hf := hm.1.2
  have hn := hm.1.1
  have hr0 := hm.2.1.2.1
  have hr1 := hm.2.1.1
  obtain ⟨Y, hY⟩ : ∃ Y, Gate.after p 0 (Health.sane p s) ⟨p.beat + err, B, l, cB, false, 0, false, none, [], 0⟩ = Y := ⟨_, rfl⟩
  obtain ⟨g1, g2, g3, g4, g5⟩ := Gate.waits hm (s := s) (now := now) (err := err) ⟨by omega, by omega⟩ ⟨by omega, by omega⟩ ⟨by omega, by omega, by omega, by omega⟩ ⟨by omega, by omega⟩ (l.map HA.hd) (by rw [List.length_map]; omega) 0 [] _ rfl
  have y1 : Y.lo ≤ now + p.beat := by rw [← hY]; exact g1
  have y2 : now + p.beat ≤ Y.hi := by rw [← hY]; exact g2
  have y3 : Y.hi - Y.lo = s.hi - s.lo + 2 * p.rho := by rw [← hY]; exact g3
  have y4 : Y.held = s.held + 1 := by rw [← hY]; exact g4
  have y5 : Y.hops = 0 := by rw [← hY]; exact g5
  have htl : (Health.sane p s).table.length ≤ 9223372036854775807 := by
    unfold Health.sane
    simp only
    split
    · exact hl
    · simp
  have KN := Lib.hid fun w h => F.new p 0 s A cap w h hl
  have KB : Hid (∀ (W : World) (G : Nat) (A2 : Option Addr) (c2 : Nat), Own W G (gateCells 0 p (Health.sane p s) A2 c2) → PairsAt W A2 (Health.sane p s).table → (∀ a, A2 = some a → a.block ≠ G) → HeardsAt W B l → Calls Tryz.prog 16 #[.pointer (some ⟨G, 0, none⟩), .agg #[.int .i64 (p.beat + err), .slice B l.length cB, .bool false, .int .i64 0, .bool false, .slice none 0 0]] W fun e w' => ∃ v A4 c4, e = .returned v ∧ Own w' G (gateCells 0 p Y A4 c4) ∧ Only G W w') := Lib.hid fun W G A2 c2 h1 h2 h3 h4 => by
    refine (F.beat G p 0 (Health.sane p s) A2 c2 ⟨p.beat + err, B, l, cB, false, 0, false, none, [], 0⟩ W h1 h2 h3 htl ⟨h4, PairsAt.empty _ _⟩ (by simp only; omega) (by simp) ⟨by omega, by omega⟩ HT8.out).mono ?_
    rintro e w' ⟨A3, c3, A4, c4, rfl, q1, -, -, q2⟩
    rw [hY] at q1
    exact ⟨_, A4, c4, rfl, q1, q2⟩
  generalize Health.sane p s = S0 at KN KB
  clear g1 g2 g3 g4 g5 hY htl hl hl40 hf hn
  have hk1 : IntKind.i64.wrap (p.beat + err) = p.beat + err := IntWalk.i64_in _ ⟨by omega, by omega⟩
  have hk2 : IntKind.i64.wrap (now + p.beat) = now + p.beat := IntWalk.i64_in _ ⟨by omega, by omega⟩
  have hk3 : IntKind.i64.wrap (s.hi - s.lo) = s.hi - s.lo := IntWalk.i64_in _ ⟨by omega, by omega⟩
  have hk4 : IntKind.i64.wrap (2 * p.rho) = 2 * p.rho := IntWalk.i64_in _ ⟨by omega, by omega⟩
  have hk5 : IntKind.i64.wrap (s.hi - s.lo + 2 * p.rho) = s.hi - s.lo + 2 * p.rho := IntWalk.i64_in _ ⟨by omega, by omega⟩
  have hk6 : IntKind.i64.wrap (Y.hi - Y.lo) = s.hi - s.lo + 2 * p.rho := by rw [← y3]; exact IntWalk.i64_in _ ⟨by omega, by omega⟩
  have hk7 : IntKind.i64.wrap (s.held + 1) = s.held + 1 := IntWalk.i64_in _ ⟨by omega, by omega⟩
  have f1 : decide (Y.lo ≤ now + p.beat) = true := decide_eq_true y1
  have f2 : decide (now + p.beat ≤ Y.hi) = true := decide_eq_true y2
  have Y4 := Lib.hid y4
  have Y5 := Lib.hid y5
  clear y1 y2 y3 y4 y5 b1 b2 b3 b4 b5 b6 b7 d0 d1 d2 d3 hr0 hr1 hm
  obtain ⟨s0, s1, s2, s3, s4, s5, s6, s7, s8, s9, s10⟩ := hS.sta; have hsl := hS.lt
  obtain ⟨c0, c1, c2, c3, c4, c5, c6, c7, c8, c9, c10, c11⟩ := hP.pars; have hPl := hP.lt
  go_upto_region 8 with (go_at_call 10; refine (KN.out _ (HAA.out.below hok)).mono ?_; rintro e w4 ⟨G, A2, q2, rfl, hO, hT, hG, hAG, hb1⟩; clear s0 s1 s2 s3 s4 s5 s6 s7 s8 s9 s10 hsl; clear c0 c1 c2 c3 c4 c5 c6 c7 c8 c9 c10 c11 hPl; have hGB : Bp < G := Nat.lt_of_lt_of_le hP.lt hG; have hGH : H < G := Nat.lt_of_lt_of_le hS.lt hG; have hwG := Nat.le_trans hok.size hG; replace hP := hP.next hb1; replace hS := hS.next hb1; replace hok := hok.trans hb1; clear hb1; clear hG)
  have hA2 := hT.pairs.1
  clear hT
  obtain ⟨c0, c1, c2, c3, c4, c5, c6, c7, c8, c9, c10, c11⟩ := hP.pars; have hPl := hP.lt
  go_upto_region 9 with (go_at_call 16; refine (KB.out _ _ _ _ hO hA2 hAG (HBB.out.below hok)).mono ?_; rintro e w5 ⟨v5, A4, c4', rfl, hO2, hon⟩; clear c0 c1 c2 c3 c4 c5 c6 c7 c8 c9 c10 c11 hPl; replace hP := hon.own hP (by omega); replace hS := hon.own hS (by omega); replace hok := hon.then_ok hok hwG; clear hon hO hA2 hAG)
  obtain ⟨c0, c1, c2, c3, c4, c5, c6, c7, c8, c9, c10, c11⟩ := hP.pars; have hPl := hP.lt
  go_upto_region 10 with fail
  clear c0 c1 c2 c3 c4 c5 c6 c7 c8 c9 c10 c11 hPl
  have q12 := hO2.atL 12 (v := .int .i64 Y.lo) rfl
  have q13 := hO2.atL 13 (v := .int .i64 Y.hi) rfl
  have hGl := hO2.lt
  go_upto_region 11 with fail
  clear q12 q13 hGl
  change Code.wp _ _ _ _ (w5.alloc (.cells #[.int .i64 Y.lo, .int .i64 Y.hi] 25))
  have hX := Own.new w5 #[.int .i64 Y.lo, .int .i64 Y.hi] 25 rfl
  replace hP := hP.alloc (.cells #[.int .i64 Y.lo, .int .i64 Y.hi] 25)
  replace hS := hS.alloc (.cells #[.int .i64 Y.lo, .int .i64 Y.hi] 25)
  replace hO2 := hO2.alloc (.cells #[.int .i64 Y.lo, .int .i64 Y.hi] 25)
  replace hok := hok.alloc (.cells #[.int .i64 Y.lo, .int .i64 Y.hi] 25)
  generalize w5.alloc (.cells #[.int .i64 Y.lo, .int .i64 Y.hi] 25) = W6 at hX hP hS hO2 hok ⊢
  generalize w5.heap.size = X at hX ⊢
  have x0 := hX.cell 0 (v := .int .i64 Y.lo) rfl
  have x1 := hX.cell 1 (v := .int .i64 Y.hi) rfl
  have hXl := hX.lt
  have q16 := hO2.atL 16 (v := .int .i64 (s.held + 1)) (by rw [← Y4.out]; rfl)
  have q17 := hO2.atL 17 (v := .int .i64 0) (by rw [← Y5.out]; rfl)
  have hGl := hO2.lt
  have s0 := hS.cell 0 (v := .int .i64 s.lo) rfl
  have s1 := hS.cell 1 (v := .int .i64 s.hi) rfl
  have s4 := hS.cell 4 (v := .int .i64 s.held) rfl
  have hsl := hS.lt
  have c4 := hP.cell 4 (v := .int .i64 p.rho) rfl
  have hPl := hP.lt
  go_quiet (fail)
  go_wp2_with fail
  go_ret
  exact ⟨rfl, hok.drewN _⟩
theorem walk (w : World) (p : Par) (wp : ParWf p) (s : Sta) (A : Option Addr) (cap : Nat) (hA : PairsAt w A s.table) (hcs : s.table.length ≤ cap) (hms : cap ≤ maxLen) (ws : StaWf s) (now : Int) (wnow : (Lit.int .i64 now).wf = true) (B : Option Addr) (l : List HA) (cB : Nat) (hB : HeardsAt w B l) (hlB : l.length ≤ cB) (hcB : cB ≤ maxLen) (hwB : ∀ x ∈ l, HWf x) (err : Int) (werr : (Lit.int .i64 err).wf = true) :
    Calls Tryz.prog 5 #[parV p, staV s A cap, .int .i64 now, .slice B l.length cB, .int .i64 err] w fun e w' => e = .returned (.bool true) ∧ Below w.heap.size w w' :=
  walkF works22 w p s A cap now B l 0 err cB hA (Nat.le_trans hcs (Nat.le_trans hms (by decide))) hB (Nat.le_trans hlB (Nat.le_trans hcB (by decide)))
theorem own : ownKnob Tryz.prog.godebug = none := by kernel_rfl
theorem laidOut : laidOutB Tryz.prog = true := by kernel_rfl
set_option maxRecDepth 100000 in
theorem lifted (os : Os) (started : os.Started) (H : Type) (enc : TypeId × Value → H) :
    ReturnsInHanded {} Tryz.checked os 5 .any (Rows.gateWaitsSpec.pre6 enc Tryz.prog Tryz.f5 Rows.gateWaitsRow.domain false) (Rows.gateWaitsSpec.post enc Tryz.prog Tryz.f5 false true false false) := by
  refine returnsInHanded_of_change (C := Tryz.checked) own started (by kernel_rfl) Tryz.func5
    (ChangeSpec.witness6 (enc := enc) (C := Tryz.checked) false ⟨#[], #[.agg #[.int .i64 0, .int .i64 0, .int .i64 0, .int .i64 0, .int .i64 0, .int .i64 0, .int .i64 0, .int .i64 0, .int .i64 0, .int .i64 0, .int .i64 0, .int .i64 0], .agg #[.int .i64 0, .int .i64 0, .int .i64 0, .bool false, .int .i64 0, .int .i64 0, .bool false, .slice none 0 0, .int .i64 0, .int .i64 0, .int .i64 0], .int .i64 0, .slice none 0 0, .int .i64 0], []⟩ 8 (by kernel_rfl) (by kernel_rfl) (by kernel_rfl) (by kernel_rfl)) ?_
  intro W base args ds gs before hval0 hW _ _
  have hval : ∀ (j : Nat) t v, Tryz.f5.params[j]? = some t → args[j]? = some v → Value.okWide Tryz.prog W .any base t v := hval0
  have hW' := hW
  obtain ⟨p, q, hA, hV, rfl, _, _⟩ := hW
  obtain ⟨rfl, rfl⟩ := trodVars_none hV
  replace hA : DataW.TrodAll enc Tryz.prog W 0 (fun _ => true) true Tryz.f5.params.toList args.toList ds p := hA
  rw [Tryz.params5] at hA hval
  obtain ⟨v0, vs0, d0, ds0, p0, q0, hargs, rfl, rfl, h0, r0⟩ := trodAll_cons hA
  obtain ⟨v1, vs1, d1, ds1, p1, q1, rfl, rfl, rfl, h1, r1⟩ := trodAll_cons r0
  obtain ⟨v2, vs2, d2, ds2, p2, q2, rfl, rfl, rfl, h2, r2⟩ := trodAll_cons r1
  obtain ⟨v3, vs3, d3, ds3, p3, q3, rfl, rfl, rfl, h3, r3⟩ := trodAll_cons r2
  obtain ⟨v4, vs4, d4, ds4, p4, q4, rfl, rfl, rfl, h4, r4⟩ := trodAll_cons r3
  obtain ⟨rfl, rfl, rfl⟩ := trodAll_nil r4
  obtain rfl : args = #[v0, v1, v2, v3, v4] := by cases args; simp_all
  obtain ⟨p0, rfl, wp0⟩ := open_par Tryz.underlying23 rfl (by kernel_rfl) (by kernel_rfl) (by kernel_rfl) (hval 0 23 v0 rfl rfl) h0
  obtain ⟨s1, A1, c1, rfl, hA1, hc1, hm1, w1⟩ := open_sta (hval 1 30 v1 rfl rfl) h1
  obtain ⟨a2, rfl, rfl, rfl, w2⟩ := open_int Tryz.underlying3 (hval 2 3 v2 rfl rfl) h2
  obtain ⟨A3, l3, c3, rfl, hA3, hl3, hc3, hw3⟩ := open_heards (hval 3 42 v3 rfl rfl) h3
  obtain ⟨a4, rfl, rfl, rfl, w4⟩ := open_int Tryz.underlying3 (hval 4 3 v4 rfl rfl) h4
  refine (walk W p0 wp0 s1 A1 c1 hA1 hc1 hm1 w1 a2 w2 A3 l3 c3 hA3 hl3 hc3 hw3 a4 w4).mono fun e W' ⟨he, hb⟩ => ?_
  subst he
  exact ⟨_, rfl, law_post hW' laidOut (by rw [Tryz.params5]; exact params_ok (by kernel_rfl)) rfl (by kernel_rfl) Tryz.underlying4 rfl rfl rfl hb⟩
theorem over : Rows.gateWaitsRow.holds Tryz.pinned (OpenSpec.ofChange Rows.gateWaitsSpec) :=
  OpenClaim.holds_of_wide 5 Tryz.f5 rfl rfl rfl rfl rfl rfl rfl ⟨rfl, rfl, rfl, rfl, rfl⟩ rfl rfl rfl rfl rfl (by kernel_rfl) Tryz.func5 (by kernel_rfl)
    (of_decide_eq_true (by kernel_rfl)) (by unfold Func.isWrapper; first | (rw [if_pos (by decide +kernel)]; kernel_rfl) | (rw [if_neg (by decide +kernel)]; exact ⟨rfl, rfl⟩))
    (fun os started H enc _ => lifted os started H enc)
theorem proved : Rows.GateWaitsSaid := over
end Go.Proofs.YtmmiboblofopgaaGreat.gateWaits
