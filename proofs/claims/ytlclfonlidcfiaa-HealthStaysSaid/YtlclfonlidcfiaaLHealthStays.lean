/- HealthStays: for every fabric, state and next state the law answers true: no jumps. No condition. -/
import Derived.Test.YtlclfonlidcfiaaC21h
import Derived.Test.YtlclfonlidcfiaaW06
import Derived.Test.YtlclfonlidcfiaaC04b
import Derived.Test.YtlclfonlidcfiaaMA
import Derived.BigQuiet
namespace Go.Proofs.Ytlclfonlidcfiaa.healthStays
open Go.ChangeShapes Go.WideShapes Go.ChangeAt Go.RowKit
set_option linter.unusedVariables false
set_option maxRecDepth 100000
attribute [local go_sem ↓] Go.wp_at_zero Go.wp_at_succ
set_option maxHeartbeats 12800000 in
theorem walkF (F : FrontDoes) (w : World) (p : Par) (s : Sta) (A : Option Addr) (cap : Nat) (now err : Int) (u : Sta) (C : Option Addr) (cup : Nat) (hC : PairsAt w C u.table) (hl : u.table.length ≤ 9223372036854775807) :
    Calls Try.prog 5 #[parV p, staV s A cap, .int .i64 now, .int .i64 err, staV u C cup] w fun e w' => e = .returned (.bool true) ∧ Ok w w' := by
  have KAL := Lib.hid fun w => law21AliveF F w
  obtain ⟨lg, hlg⟩ : ∃ b, decide (256 < s.table.length ∨ 256 < u.table.length) = b := ⟨_, rfl⟩
  have KLO := Lib.hid fun w => law21Long s u A C cap cup w
  rw [hlg] at KLO
  have KCH := Lib.hid fun w => limCheck p w
  obtain ⟨j3, hc3⟩ : ∃ b, decide (¬ Lim.May p ∨ lg = true ∨ 72057594037927936 < now ∨ now < -72057594037927936 ∨ p.rho < err ∨ err < -p.rho ∨ u.held < 0 ∨ p.hold < u.held) = b := ⟨_, rfl⟩
  have HC3 := Lib.hid hc3
  have HC := Lib.hid hC
  have HHL := Lib.hid hl
  clear hlg hc3 hC hl
  have hP := (Own.new w (parCells p) 23 rfl).next (((Ok.refl _).alloc (.cells (staCells s A cap) 30)).alloc (.cells (staCells u C cup) 30))
  have hS := (Own.new (w.alloc (.cells (parCells p) 23)) (staCells s A cap) 30 (g := w.heap.size + 1) (by simp)).alloc (.cells (staCells u C cup) 30)
  have hU := Own.new ((w.alloc (.cells (parCells p) 23)).alloc (.cells (staCells s A cap) 30)) (staCells u C cup) 30 (g := w.heap.size + 1 + 1) (by simp)
  have hok := (((Ok.refl w).alloc (.cells (parCells p) 23)).alloc (.cells (staCells s A cap) 30)).alloc (.cells (staCells u C cup) 30)
  go_enter Try.func5, Try.ntmps5
  go_upto_region 1 with fail
  change Code.wp _ _ _ _ (((w.alloc (.cells (parCells p) 23)).alloc (.cells (staCells s A cap) 30)).alloc (.cells (staCells u C cup) 30))
  generalize ((w.alloc (.cells (parCells p) 23)).alloc (.cells (staCells s A cap) 30)).alloc (.cells (staCells u C cup) 30) = W at hP hS hU hok ⊢
  obtain ⟨G, hG⟩ : ∃ r, w.heap.size + 1 + 1 = r := ⟨_, rfl⟩
  obtain ⟨H, hH⟩ : ∃ r, w.heap.size + 1 = r := ⟨_, rfl⟩
  obtain ⟨B, hB⟩ : ∃ r, w.heap.size = r := ⟨_, rfl⟩
  have hBG : B < G := by omega
  have hHG : H < G := by omega
  rw [hG] at hU
  rw [hH] at hS
  rw [hB] at hP
  rw [hG, hH, hB]
  clear hG hH hB
  go_upto_region 3 with (go_at_call 9; (with_reducible refine (KAL.out _).mono ?_); rintro e w1 ⟨rfl, hb1⟩; replace hP := hP.next hb1; replace hS := hS.next hb1; replace hU := hU.next hb1; replace hok := hok.trans hb1; clear hb1)
  go_cut [58] from 18 to 58 (fun v wx => v = .bool j3 ∧ Own wx B (parCells p) ∧ Own wx H (staCells s A cap) ∧ Own wx G (staCells u C cup) ∧ Ok w wx)
  case first =>
    obtain ⟨s0, s1, s2, s3, s4, s5, s6, s7, s8, s9, s10⟩ := hS.sta; have hSl := hS.lt; obtain ⟨y0, y1, y2, y3, y4, y5, y6, y7, y8, y9, y10⟩ := hU.sta; have hUl := hU.lt; obtain ⟨c0, c1, c2, c3, c4, c5, c6, c7, c8, c9, c10, c11⟩ := hP.pars; have hPl := hP.lt
    by_cases h0 : ¬ Lim.May p
    · obtain rfl : j3 = true := HC3.out.symm.trans (decide_eq_true (Or.inl h0))
      rw [show Lim.check p = 1 from if_neg h0] at KCH
      clear h0
      go_wp2_with (first | (go_at_call 10; refine (KLO.out _).mono ?_; rintro e w2 ⟨rfl, hb1⟩; clear s0 s1 s2 s3 s4 s5 s6 s7 s8 s9 s10 hSl; clear y0 y1 y2 y3 y4 y5 y6 y7 y8 y9 y10 hUl; clear c0 c1 c2 c3 c4 c5 c6 c7 c8 c9 c10 c11 hPl; replace hP := hP.next hb1; replace hS := hS.next hb1; replace hU := hU.next hb1; replace hok := hok.trans hb1; clear hb1; obtain ⟨s0, s1, s2, s3, s4, s5, s6, s7, s8, s9, s10⟩ := hS.sta; have hSl := hS.lt; obtain ⟨y0, y1, y2, y3, y4, y5, y6, y7, y8, y9, y10⟩ := hU.sta; have hUl := hU.lt; obtain ⟨c0, c1, c2, c3, c4, c5, c6, c7, c8, c9, c10, c11⟩ := hP.pars; have hPl := hP.lt) | (go_at_call 24; refine (KCH.out _).mono ?_; rintro e w3 ⟨rfl, hb1⟩; clear s0 s1 s2 s3 s4 s5 s6 s7 s8 s9 s10 hSl; clear y0 y1 y2 y3 y4 y5 y6 y7 y8 y9 y10 hUl; clear c0 c1 c2 c3 c4 c5 c6 c7 c8 c9 c10 c11 hPl; replace hP := hP.next hb1; replace hS := hS.next hb1; replace hU := hU.next hb1; replace hok := hok.trans hb1; clear hb1; obtain ⟨s0, s1, s2, s3, s4, s5, s6, s7, s8, s9, s10⟩ := hS.sta; have hSl := hS.lt; obtain ⟨y0, y1, y2, y3, y4, y5, y6, y7, y8, y9, y10⟩ := hU.sta; have hUl := hU.lt; obtain ⟨c0, c1, c2, c3, c4, c5, c6, c7, c8, c9, c10, c11⟩ := hP.pars; have hPl := hP.lt))
      go_meet
      exact ⟨rfl, hP, hS, hU, hok⟩
    · rw [show Lim.check p = 0 from if_pos (Decidable.not_not.1 h0)] at KCH
      have HM := Lib.hid (Decidable.not_not.1 h0)
      have hr0 := HM.out.2.1.2.1
      have hr1 := HM.out.2.1.1
      have hwr : IntKind.i64.wrap (-p.rho) = -p.rho := IntWalk.i64_in _ ⟨by omega, by omega⟩
      clear h0
      cases lg with
      | true =>
        obtain rfl : j3 = true := HC3.out.symm.trans (decide_eq_true (Or.inr (Or.inl rfl)))
        go_wp2_with (first | (go_at_call 10; refine (KLO.out _).mono ?_; rintro e w2 ⟨rfl, hb1⟩; clear s0 s1 s2 s3 s4 s5 s6 s7 s8 s9 s10 hSl; clear y0 y1 y2 y3 y4 y5 y6 y7 y8 y9 y10 hUl; clear c0 c1 c2 c3 c4 c5 c6 c7 c8 c9 c10 c11 hPl; replace hP := hP.next hb1; replace hS := hS.next hb1; replace hU := hU.next hb1; replace hok := hok.trans hb1; clear hb1; obtain ⟨s0, s1, s2, s3, s4, s5, s6, s7, s8, s9, s10⟩ := hS.sta; have hSl := hS.lt; obtain ⟨y0, y1, y2, y3, y4, y5, y6, y7, y8, y9, y10⟩ := hU.sta; have hUl := hU.lt; obtain ⟨c0, c1, c2, c3, c4, c5, c6, c7, c8, c9, c10, c11⟩ := hP.pars; have hPl := hP.lt) | (go_at_call 24; refine (KCH.out _).mono ?_; rintro e w3 ⟨rfl, hb1⟩; clear s0 s1 s2 s3 s4 s5 s6 s7 s8 s9 s10 hSl; clear y0 y1 y2 y3 y4 y5 y6 y7 y8 y9 y10 hUl; clear c0 c1 c2 c3 c4 c5 c6 c7 c8 c9 c10 c11 hPl; replace hP := hP.next hb1; replace hS := hS.next hb1; replace hU := hU.next hb1; replace hok := hok.trans hb1; clear hb1; obtain ⟨s0, s1, s2, s3, s4, s5, s6, s7, s8, s9, s10⟩ := hS.sta; have hSl := hS.lt; obtain ⟨y0, y1, y2, y3, y4, y5, y6, y7, y8, y9, y10⟩ := hU.sta; have hUl := hU.lt; obtain ⟨c0, c1, c2, c3, c4, c5, c6, c7, c8, c9, c10, c11⟩ := hP.pars; have hPl := hP.lt))
        go_meet
        exact ⟨rfl, hP, hS, hU, hok⟩
      | false =>
        by_cases h2 : 72057594037927936 < now
        · obtain rfl : j3 = true := HC3.out.symm.trans (decide_eq_true (Or.inr (Or.inr (Or.inl h2))))
          have e2 : decide (72057594037927936 < now) = true := decide_eq_true h2
          clear h2
          go_wp2_with (first | (go_at_call 10; refine (KLO.out _).mono ?_; rintro e w2 ⟨rfl, hb1⟩; clear s0 s1 s2 s3 s4 s5 s6 s7 s8 s9 s10 hSl; clear y0 y1 y2 y3 y4 y5 y6 y7 y8 y9 y10 hUl; clear c0 c1 c2 c3 c4 c5 c6 c7 c8 c9 c10 c11 hPl; replace hP := hP.next hb1; replace hS := hS.next hb1; replace hU := hU.next hb1; replace hok := hok.trans hb1; clear hb1; obtain ⟨s0, s1, s2, s3, s4, s5, s6, s7, s8, s9, s10⟩ := hS.sta; have hSl := hS.lt; obtain ⟨y0, y1, y2, y3, y4, y5, y6, y7, y8, y9, y10⟩ := hU.sta; have hUl := hU.lt; obtain ⟨c0, c1, c2, c3, c4, c5, c6, c7, c8, c9, c10, c11⟩ := hP.pars; have hPl := hP.lt) | (go_at_call 24; refine (KCH.out _).mono ?_; rintro e w3 ⟨rfl, hb1⟩; clear s0 s1 s2 s3 s4 s5 s6 s7 s8 s9 s10 hSl; clear y0 y1 y2 y3 y4 y5 y6 y7 y8 y9 y10 hUl; clear c0 c1 c2 c3 c4 c5 c6 c7 c8 c9 c10 c11 hPl; replace hP := hP.next hb1; replace hS := hS.next hb1; replace hU := hU.next hb1; replace hok := hok.trans hb1; clear hb1; obtain ⟨s0, s1, s2, s3, s4, s5, s6, s7, s8, s9, s10⟩ := hS.sta; have hSl := hS.lt; obtain ⟨y0, y1, y2, y3, y4, y5, y6, y7, y8, y9, y10⟩ := hU.sta; have hUl := hU.lt; obtain ⟨c0, c1, c2, c3, c4, c5, c6, c7, c8, c9, c10, c11⟩ := hP.pars; have hPl := hP.lt))
          go_meet
          exact ⟨rfl, hP, hS, hU, hok⟩
        · have e2 : decide (72057594037927936 < now) = false := decide_eq_false h2
          by_cases h3 : now < -72057594037927936
          · obtain rfl : j3 = true := HC3.out.symm.trans (decide_eq_true (Or.inr (Or.inr (Or.inr (Or.inl h3)))))
            have e3 : decide (now < -72057594037927936) = true := decide_eq_true h3
            clear h3
            go_wp2_with (first | (go_at_call 10; refine (KLO.out _).mono ?_; rintro e w2 ⟨rfl, hb1⟩; clear s0 s1 s2 s3 s4 s5 s6 s7 s8 s9 s10 hSl; clear y0 y1 y2 y3 y4 y5 y6 y7 y8 y9 y10 hUl; clear c0 c1 c2 c3 c4 c5 c6 c7 c8 c9 c10 c11 hPl; replace hP := hP.next hb1; replace hS := hS.next hb1; replace hU := hU.next hb1; replace hok := hok.trans hb1; clear hb1; obtain ⟨s0, s1, s2, s3, s4, s5, s6, s7, s8, s9, s10⟩ := hS.sta; have hSl := hS.lt; obtain ⟨y0, y1, y2, y3, y4, y5, y6, y7, y8, y9, y10⟩ := hU.sta; have hUl := hU.lt; obtain ⟨c0, c1, c2, c3, c4, c5, c6, c7, c8, c9, c10, c11⟩ := hP.pars; have hPl := hP.lt) | (go_at_call 24; refine (KCH.out _).mono ?_; rintro e w3 ⟨rfl, hb1⟩; clear s0 s1 s2 s3 s4 s5 s6 s7 s8 s9 s10 hSl; clear y0 y1 y2 y3 y4 y5 y6 y7 y8 y9 y10 hUl; clear c0 c1 c2 c3 c4 c5 c6 c7 c8 c9 c10 c11 hPl; replace hP := hP.next hb1; replace hS := hS.next hb1; replace hU := hU.next hb1; replace hok := hok.trans hb1; clear hb1; obtain ⟨s0, s1, s2, s3, s4, s5, s6, s7, s8, s9, s10⟩ := hS.sta; have hSl := hS.lt; obtain ⟨y0, y1, y2, y3, y4, y5, y6, y7, y8, y9, y10⟩ := hU.sta; have hUl := hU.lt; obtain ⟨c0, c1, c2, c3, c4, c5, c6, c7, c8, c9, c10, c11⟩ := hP.pars; have hPl := hP.lt))
            go_meet
            exact ⟨rfl, hP, hS, hU, hok⟩
          · have e3 : decide (now < -72057594037927936) = false := decide_eq_false h3
            by_cases h4 : p.rho < err
            · obtain rfl : j3 = true := HC3.out.symm.trans (decide_eq_true (Or.inr (Or.inr (Or.inr (Or.inr (Or.inl h4))))))
              have e4 : decide (p.rho < err) = true := decide_eq_true h4
              clear h4
              go_wp2_with (first | (go_at_call 10; refine (KLO.out _).mono ?_; rintro e w2 ⟨rfl, hb1⟩; clear s0 s1 s2 s3 s4 s5 s6 s7 s8 s9 s10 hSl; clear y0 y1 y2 y3 y4 y5 y6 y7 y8 y9 y10 hUl; clear c0 c1 c2 c3 c4 c5 c6 c7 c8 c9 c10 c11 hPl; replace hP := hP.next hb1; replace hS := hS.next hb1; replace hU := hU.next hb1; replace hok := hok.trans hb1; clear hb1; obtain ⟨s0, s1, s2, s3, s4, s5, s6, s7, s8, s9, s10⟩ := hS.sta; have hSl := hS.lt; obtain ⟨y0, y1, y2, y3, y4, y5, y6, y7, y8, y9, y10⟩ := hU.sta; have hUl := hU.lt; obtain ⟨c0, c1, c2, c3, c4, c5, c6, c7, c8, c9, c10, c11⟩ := hP.pars; have hPl := hP.lt) | (go_at_call 24; refine (KCH.out _).mono ?_; rintro e w3 ⟨rfl, hb1⟩; clear s0 s1 s2 s3 s4 s5 s6 s7 s8 s9 s10 hSl; clear y0 y1 y2 y3 y4 y5 y6 y7 y8 y9 y10 hUl; clear c0 c1 c2 c3 c4 c5 c6 c7 c8 c9 c10 c11 hPl; replace hP := hP.next hb1; replace hS := hS.next hb1; replace hU := hU.next hb1; replace hok := hok.trans hb1; clear hb1; obtain ⟨s0, s1, s2, s3, s4, s5, s6, s7, s8, s9, s10⟩ := hS.sta; have hSl := hS.lt; obtain ⟨y0, y1, y2, y3, y4, y5, y6, y7, y8, y9, y10⟩ := hU.sta; have hUl := hU.lt; obtain ⟨c0, c1, c2, c3, c4, c5, c6, c7, c8, c9, c10, c11⟩ := hP.pars; have hPl := hP.lt))
              go_meet
              exact ⟨rfl, hP, hS, hU, hok⟩
            · have e4 : decide (p.rho < err) = false := decide_eq_false h4
              by_cases h5 : err < -p.rho
              · obtain rfl : j3 = true := HC3.out.symm.trans (decide_eq_true (Or.inr (Or.inr (Or.inr (Or.inr (Or.inr (Or.inl h5)))))))
                have e5 : decide (err < -p.rho) = true := decide_eq_true h5
                clear h5
                go_wp2_with (first | (go_at_call 10; refine (KLO.out _).mono ?_; rintro e w2 ⟨rfl, hb1⟩; clear s0 s1 s2 s3 s4 s5 s6 s7 s8 s9 s10 hSl; clear y0 y1 y2 y3 y4 y5 y6 y7 y8 y9 y10 hUl; clear c0 c1 c2 c3 c4 c5 c6 c7 c8 c9 c10 c11 hPl; replace hP := hP.next hb1; replace hS := hS.next hb1; replace hU := hU.next hb1; replace hok := hok.trans hb1; clear hb1; obtain ⟨s0, s1, s2, s3, s4, s5, s6, s7, s8, s9, s10⟩ := hS.sta; have hSl := hS.lt; obtain ⟨y0, y1, y2, y3, y4, y5, y6, y7, y8, y9, y10⟩ := hU.sta; have hUl := hU.lt; obtain ⟨c0, c1, c2, c3, c4, c5, c6, c7, c8, c9, c10, c11⟩ := hP.pars; have hPl := hP.lt) | (go_at_call 24; refine (KCH.out _).mono ?_; rintro e w3 ⟨rfl, hb1⟩; clear s0 s1 s2 s3 s4 s5 s6 s7 s8 s9 s10 hSl; clear y0 y1 y2 y3 y4 y5 y6 y7 y8 y9 y10 hUl; clear c0 c1 c2 c3 c4 c5 c6 c7 c8 c9 c10 c11 hPl; replace hP := hP.next hb1; replace hS := hS.next hb1; replace hU := hU.next hb1; replace hok := hok.trans hb1; clear hb1; obtain ⟨s0, s1, s2, s3, s4, s5, s6, s7, s8, s9, s10⟩ := hS.sta; have hSl := hS.lt; obtain ⟨y0, y1, y2, y3, y4, y5, y6, y7, y8, y9, y10⟩ := hU.sta; have hUl := hU.lt; obtain ⟨c0, c1, c2, c3, c4, c5, c6, c7, c8, c9, c10, c11⟩ := hP.pars; have hPl := hP.lt))
                go_meet
                exact ⟨rfl, hP, hS, hU, hok⟩
              · have e5 : decide (err < -p.rho) = false := decide_eq_false h5
                by_cases h6 : u.held < 0
                · obtain rfl : j3 = true := HC3.out.symm.trans (decide_eq_true (Or.inr (Or.inr (Or.inr (Or.inr (Or.inr (Or.inr (Or.inl h6))))))))
                  have e6 : decide (u.held < 0) = true := decide_eq_true h6
                  clear h6
                  go_wp2_with (first | (go_at_call 10; refine (KLO.out _).mono ?_; rintro e w2 ⟨rfl, hb1⟩; clear s0 s1 s2 s3 s4 s5 s6 s7 s8 s9 s10 hSl; clear y0 y1 y2 y3 y4 y5 y6 y7 y8 y9 y10 hUl; clear c0 c1 c2 c3 c4 c5 c6 c7 c8 c9 c10 c11 hPl; replace hP := hP.next hb1; replace hS := hS.next hb1; replace hU := hU.next hb1; replace hok := hok.trans hb1; clear hb1; obtain ⟨s0, s1, s2, s3, s4, s5, s6, s7, s8, s9, s10⟩ := hS.sta; have hSl := hS.lt; obtain ⟨y0, y1, y2, y3, y4, y5, y6, y7, y8, y9, y10⟩ := hU.sta; have hUl := hU.lt; obtain ⟨c0, c1, c2, c3, c4, c5, c6, c7, c8, c9, c10, c11⟩ := hP.pars; have hPl := hP.lt) | (go_at_call 24; refine (KCH.out _).mono ?_; rintro e w3 ⟨rfl, hb1⟩; clear s0 s1 s2 s3 s4 s5 s6 s7 s8 s9 s10 hSl; clear y0 y1 y2 y3 y4 y5 y6 y7 y8 y9 y10 hUl; clear c0 c1 c2 c3 c4 c5 c6 c7 c8 c9 c10 c11 hPl; replace hP := hP.next hb1; replace hS := hS.next hb1; replace hU := hU.next hb1; replace hok := hok.trans hb1; clear hb1; obtain ⟨s0, s1, s2, s3, s4, s5, s6, s7, s8, s9, s10⟩ := hS.sta; have hSl := hS.lt; obtain ⟨y0, y1, y2, y3, y4, y5, y6, y7, y8, y9, y10⟩ := hU.sta; have hUl := hU.lt; obtain ⟨c0, c1, c2, c3, c4, c5, c6, c7, c8, c9, c10, c11⟩ := hP.pars; have hPl := hP.lt))
                  go_meet
                  exact ⟨rfl, hP, hS, hU, hok⟩
                · have e6 : decide (u.held < 0) = false := decide_eq_false h6
                  by_cases h7 : p.hold < u.held
                  · obtain rfl : j3 = true := HC3.out.symm.trans (decide_eq_true (Or.inr (Or.inr (Or.inr (Or.inr (Or.inr (Or.inr (Or.inr (h7)))))))))
                    have e7 : decide (p.hold < u.held) = true := decide_eq_true h7
                    clear h7
                    go_wp2_with (first | (go_at_call 10; refine (KLO.out _).mono ?_; rintro e w2 ⟨rfl, hb1⟩; clear s0 s1 s2 s3 s4 s5 s6 s7 s8 s9 s10 hSl; clear y0 y1 y2 y3 y4 y5 y6 y7 y8 y9 y10 hUl; clear c0 c1 c2 c3 c4 c5 c6 c7 c8 c9 c10 c11 hPl; replace hP := hP.next hb1; replace hS := hS.next hb1; replace hU := hU.next hb1; replace hok := hok.trans hb1; clear hb1; obtain ⟨s0, s1, s2, s3, s4, s5, s6, s7, s8, s9, s10⟩ := hS.sta; have hSl := hS.lt; obtain ⟨y0, y1, y2, y3, y4, y5, y6, y7, y8, y9, y10⟩ := hU.sta; have hUl := hU.lt; obtain ⟨c0, c1, c2, c3, c4, c5, c6, c7, c8, c9, c10, c11⟩ := hP.pars; have hPl := hP.lt) | (go_at_call 24; refine (KCH.out _).mono ?_; rintro e w3 ⟨rfl, hb1⟩; clear s0 s1 s2 s3 s4 s5 s6 s7 s8 s9 s10 hSl; clear y0 y1 y2 y3 y4 y5 y6 y7 y8 y9 y10 hUl; clear c0 c1 c2 c3 c4 c5 c6 c7 c8 c9 c10 c11 hPl; replace hP := hP.next hb1; replace hS := hS.next hb1; replace hU := hU.next hb1; replace hok := hok.trans hb1; clear hb1; obtain ⟨s0, s1, s2, s3, s4, s5, s6, s7, s8, s9, s10⟩ := hS.sta; have hSl := hS.lt; obtain ⟨y0, y1, y2, y3, y4, y5, y6, y7, y8, y9, y10⟩ := hU.sta; have hUl := hU.lt; obtain ⟨c0, c1, c2, c3, c4, c5, c6, c7, c8, c9, c10, c11⟩ := hP.pars; have hPl := hP.lt))
                    go_meet
                    exact ⟨rfl, hP, hS, hU, hok⟩
                  · have e7 : decide (p.hold < u.held) = false := decide_eq_false h7
                    obtain rfl : j3 = false := HC3.out.symm.trans (decide_eq_false (fun h => h.elim (fun h => h HM.out) fun h => h.elim (fun h => absurd h (by decide)) fun h => h.elim h2 fun h => h.elim h3 fun h => h.elim h4 fun h => h.elim h5 fun h => h.elim h6 h7))
                    go_wp2_with (first | (go_at_call 10; refine (KLO.out _).mono ?_; rintro e w2 ⟨rfl, hb1⟩; clear s0 s1 s2 s3 s4 s5 s6 s7 s8 s9 s10 hSl; clear y0 y1 y2 y3 y4 y5 y6 y7 y8 y9 y10 hUl; clear c0 c1 c2 c3 c4 c5 c6 c7 c8 c9 c10 c11 hPl; replace hP := hP.next hb1; replace hS := hS.next hb1; replace hU := hU.next hb1; replace hok := hok.trans hb1; clear hb1; obtain ⟨s0, s1, s2, s3, s4, s5, s6, s7, s8, s9, s10⟩ := hS.sta; have hSl := hS.lt; obtain ⟨y0, y1, y2, y3, y4, y5, y6, y7, y8, y9, y10⟩ := hU.sta; have hUl := hU.lt; obtain ⟨c0, c1, c2, c3, c4, c5, c6, c7, c8, c9, c10, c11⟩ := hP.pars; have hPl := hP.lt) | (go_at_call 24; refine (KCH.out _).mono ?_; rintro e w3 ⟨rfl, hb1⟩; clear s0 s1 s2 s3 s4 s5 s6 s7 s8 s9 s10 hSl; clear y0 y1 y2 y3 y4 y5 y6 y7 y8 y9 y10 hUl; clear c0 c1 c2 c3 c4 c5 c6 c7 c8 c9 c10 c11 hPl; replace hP := hP.next hb1; replace hS := hS.next hb1; replace hU := hU.next hb1; replace hok := hok.trans hb1; clear hb1; obtain ⟨s0, s1, s2, s3, s4, s5, s6, s7, s8, s9, s10⟩ := hS.sta; have hSl := hS.lt; obtain ⟨y0, y1, y2, y3, y4, y5, y6, y7, y8, y9, y10⟩ := hU.sta; have hUl := hU.lt; obtain ⟨c0, c1, c2, c3, c4, c5, c6, c7, c8, c9, c10, c11⟩ := hP.pars; have hPl := hP.lt))
                    go_meet
                    exact ⟨rfl, hP, hS, hU, hok⟩
  case rest =>
  clear hP hS hU hok
  obtain ⟨rfl, hP, hS, hU, hok⟩ := hcut
  cases j3 with
  | true =>
    go_wp2_with fail
    go_ret
    exact ⟨rfl, hok⟩
  | false =>
  have hno := of_decide_eq_false HC3.out
  have hm : Lim.May p := Decidable.not_not.1 fun h => hno (Or.inl h)
  have b2 : ¬ (72057594037927936 < now) := fun h => hno (Or.inr (Or.inr (Or.inl h)))
  have b3 : ¬ (now < -72057594037927936) := fun h => hno (Or.inr (Or.inr (Or.inr (Or.inl h))))
  have b4 : ¬ (p.rho < err) := fun h => hno (Or.inr (Or.inr (Or.inr (Or.inr (Or.inl h)))))
  have b5 : ¬ (err < -p.rho) := fun h => hno (Or.inr (Or.inr (Or.inr (Or.inr (Or.inr (Or.inl h))))))
  have b6 : ¬ (u.held < 0) := fun h => hno (Or.inr (Or.inr (Or.inr (Or.inr (Or.inr (Or.inr (Or.inl h)))))))
  have b7 : ¬ (p.hold < u.held) := fun h => hno (Or.inr (Or.inr (Or.inr (Or.inr (Or.inr (Or.inr (Or.inr h)))))))
  have HM := Lib.hid hm
  have hbe := hm.2.1.1
  have hrh := hm.2.1.2.1
  clear hno HC3 KCH KLO hm
  obtain ⟨f, hf⟩ : ∃ f, Health.far p p.hold = f := ⟨_, rfl⟩
  obtain ⟨w0, hw0⟩ : ∃ x, f.tdiv 2 = x := ⟨_, rfl⟩
  have hfb : -2305843009213693952 ≤ f ∧ f ≤ 2305843009213693952 := by rw [← hf]; exact Sat.mul_bd _ _
  have hwb : -1152921504606846976 ≤ w0 ∧ w0 ≤ 1152921504606846976 := by
    have h : w0.natAbs = f.natAbs / 2 := by rw [← hw0]; exact Int.natAbs_tdiv f 2
    omega
  have HW0 : Hid (w0 = (Health.far p p.hold).tdiv 2) := Lib.hid (by rw [hf, hw0])
  obtain ⟨o, ho⟩ : ∃ o, Health.of p s = o := ⟨_, rfl⟩
  have KF := Lib.hid fun w => F.healthFar p p.hold w
  rw [hf] at KF
  have KO := Lib.hid fun w => F.healthOf p s A cap w
  rw [ho] at KO
  have HO := Lib.hid ho
  have hk2 : IntKind.i64.wrap (now + p.beat) = now + p.beat := IntWalk.i64_in _ ⟨by omega, by omega⟩
  have hk1 : IntKind.i64.wrap (f.tdiv 2) = w0 := by rw [hw0]; exact IntWalk.i64_in _ ⟨by omega, by omega⟩
  clear hf ho hw0
  obtain ⟨s0, s1, s2, s3, s4, s5, s6, s7, s8, s9, s10⟩ := hS.sta; have hSl := hS.lt; obtain ⟨y0, y1, y2, y3, y4, y5, y6, y7, y8, y9, y10⟩ := hU.sta; have hUl := hU.lt; obtain ⟨c0, c1, c2, c3, c4, c5, c6, c7, c8, c9, c10, c11⟩ := hP.pars; have hPl := hP.lt
  go_upto_region 8 with (first | (go_at_call 16; refine (KF.out _).mono ?_; rintro e w4 ⟨rfl, hb1⟩; clear s0 s1 s2 s3 s4 s5 s6 s7 s8 s9 s10 hSl; clear y0 y1 y2 y3 y4 y5 y6 y7 y8 y9 y10 hUl; clear c0 c1 c2 c3 c4 c5 c6 c7 c8 c9 c10 c11 hPl; replace hP := hP.next hb1; replace hS := hS.next hb1; replace hU := hU.next hb1; replace hok := hok.trans hb1; clear hb1; obtain ⟨s0, s1, s2, s3, s4, s5, s6, s7, s8, s9, s10⟩ := hS.sta; have hSl := hS.lt; obtain ⟨y0, y1, y2, y3, y4, y5, y6, y7, y8, y9, y10⟩ := hU.sta; have hUl := hU.lt; obtain ⟨c0, c1, c2, c3, c4, c5, c6, c7, c8, c9, c10, c11⟩ := hP.pars; have hPl := hP.lt) | (go_at_call 14; refine (KO.out _).mono ?_; rintro e w5 ⟨rfl, hb1⟩; clear s0 s1 s2 s3 s4 s5 s6 s7 s8 s9 s10 hSl; clear y0 y1 y2 y3 y4 y5 y6 y7 y8 y9 y10 hUl; clear c0 c1 c2 c3 c4 c5 c6 c7 c8 c9 c10 c11 hPl; replace hP := hP.next hb1; replace hS := hS.next hb1; replace hU := hU.next hb1; replace hok := hok.trans hb1; clear hb1; obtain ⟨s0, s1, s2, s3, s4, s5, s6, s7, s8, s9, s10⟩ := hS.sta; have hSl := hS.lt; obtain ⟨y0, y1, y2, y3, y4, y5, y6, y7, y8, y9, y10⟩ := hU.sta; have hUl := hU.lt; obtain ⟨c0, c1, c2, c3, c4, c5, c6, c7, c8, c9, c10, c11⟩ := hP.pars; have hPl := hP.lt))
  clear s0 s1 s2 s3 s4 s5 s6 s7 s8 s9 s10 hSl; clear y0 y1 y2 y3 y4 y5 y6 y7 y8 y9 y10 hUl; clear c0 c1 c2 c3 c4 c5 c6 c7 c8 c9 c10 c11 hPl
  obtain ⟨j8, hj8⟩ : ∃ b, decide ((72057594037927936 < w0) ∨ (o ≠ 0 ∧ (now + w0 < s.time ∨ s.time < now - w0)) ∨ (now + p.beat < u.lo) ∨ (u.hi < now + p.beat) ∨ (u.lo < now + p.beat - w0) ∨ (now + p.beat + w0 < u.hi) ∨ (w0 < u.hi - u.lo)) = b := ⟨_, rfl⟩
  have HJ8 := Lib.hid hj8
  clear hj8
  have hk3 : IntKind.i64.wrap (now + w0) = now + w0 := IntWalk.i64_in _ ⟨by omega, by omega⟩
  have hk4 : IntKind.i64.wrap (now - w0) = now - w0 := IntWalk.i64_in _ ⟨by omega, by omega⟩
  have hk5 : IntKind.i64.wrap (now + p.beat + w0) = now + p.beat + w0 := IntWalk.i64_in _ ⟨by omega, by omega⟩
  have hk6 : IntKind.i64.wrap (now + p.beat - w0) = now + p.beat - w0 := IntWalk.i64_in _ ⟨by omega, by omega⟩
  obtain ⟨kn, hkn⟩ : ∃ b, (o != 0) = b := ⟨_, rfl⟩
  rw [hkn]
  have HKN := Lib.hid hkn
  clear hkn
  go_cut [135] from 72 to 135 (fun v wx => v = .bool j8 ∧ wx = w5)
  case first =>
    have s2 := hS.cell 2 (v := .int .i64 s.time) rfl
    have y0 := hU.cell 0 (v := .int .i64 u.lo) rfl
    have y1 := hU.cell 1 (v := .int .i64 u.hi) rfl
    have hSl := hS.lt
    have hUl := hU.lt
    cases kn with
    | false =>
      have h0 : o = 0 := by have := HKN.out; simpa using this
      by_cases h0a : 72057594037927936 < w0
      · obtain rfl : j8 = true := HJ8.out.symm.trans (decide_eq_true (Or.inl h0a))
        clear h0
        have fh0a : decide (72057594037927936 < w0) = true := decide_eq_true h0a
        clear h0a
        go_wp2_with fail
        go_meet
        exact ⟨rfl, rfl⟩
      · have fh0a : decide (72057594037927936 < w0) = false := decide_eq_false h0a
        by_cases h2 : now + p.beat < u.lo
        · obtain rfl : j8 = true := HJ8.out.symm.trans (decide_eq_true (Or.inr (Or.inr (Or.inl h2))))
          clear h0
          have fh2 : decide (now + p.beat < u.lo) = true := decide_eq_true h2
          clear h2
          go_wp2_with fail
          go_meet
          exact ⟨rfl, rfl⟩
        · have fh2 : decide (now + p.beat < u.lo) = false := decide_eq_false h2
          by_cases h3 : u.hi < now + p.beat
          · obtain rfl : j8 = true := HJ8.out.symm.trans (decide_eq_true (Or.inr (Or.inr (Or.inr (Or.inl h3)))))
            clear h0
            have fh3 : decide (u.hi < now + p.beat) = true := decide_eq_true h3
            clear h3
            go_wp2_with fail
            go_meet
            exact ⟨rfl, rfl⟩
          · have fh3 : decide (u.hi < now + p.beat) = false := decide_eq_false h3
            by_cases h4 : u.lo < now + p.beat - w0
            · obtain rfl : j8 = true := HJ8.out.symm.trans (decide_eq_true (Or.inr (Or.inr (Or.inr (Or.inr (Or.inl h4))))))
              clear h0
              have fh4 : decide (u.lo < now + p.beat - w0) = true := decide_eq_true h4
              clear h4
              go_wp2_with fail
              go_meet
              exact ⟨rfl, rfl⟩
            · have fh4 : decide (u.lo < now + p.beat - w0) = false := decide_eq_false h4
              by_cases h5 : now + p.beat + w0 < u.hi
              · obtain rfl : j8 = true := HJ8.out.symm.trans (decide_eq_true (Or.inr (Or.inr (Or.inr (Or.inr (Or.inr (Or.inl h5)))))))
                clear h0
                have fh5 : decide (now + p.beat + w0 < u.hi) = true := decide_eq_true h5
                clear h5
                go_wp2_with fail
                go_meet
                exact ⟨rfl, rfl⟩
              · have fh5 : decide (now + p.beat + w0 < u.hi) = false := decide_eq_false h5
                have hk8 : IntKind.i64.wrap (u.hi - u.lo) = u.hi - u.lo := IntWalk.i64_in _ ⟨by omega, by omega⟩
                by_cases h6 : w0 < u.hi - u.lo
                · obtain rfl : j8 = true := HJ8.out.symm.trans (decide_eq_true (Or.inr (Or.inr (Or.inr (Or.inr (Or.inr (Or.inr (h6))))))))
                  clear h0
                  have fh6 : decide (w0 < u.hi - u.lo) = true := decide_eq_true h6
                  clear h6
                  go_wp2_with fail
                  go_meet
                  exact ⟨rfl, rfl⟩
                · have fh6 : decide (w0 < u.hi - u.lo) = false := decide_eq_false h6
                  obtain rfl : j8 = false := HJ8.out.symm.trans (decide_eq_false (fun h => h.elim h0a fun h => h.elim (fun h => h.1 h0) fun h => h.elim h2 fun h => h.elim h3 fun h => h.elim h4 fun h => h.elim h5 h6))
                  clear h0
                  go_wp2_with fail
                  go_meet
                  exact ⟨rfl, rfl⟩
    | true =>
      have h0 : o ≠ 0 := by have := HKN.out; simpa using this
      by_cases h0a : 72057594037927936 < w0
      · obtain rfl : j8 = true := HJ8.out.symm.trans (decide_eq_true (Or.inl h0a))
        clear h0
        have fh0a : decide (72057594037927936 < w0) = true := decide_eq_true h0a
        clear h0a
        go_wp2_with fail
        go_meet
        exact ⟨rfl, rfl⟩
      · have fh0a : decide (72057594037927936 < w0) = false := decide_eq_false h0a
        by_cases h1a : now + w0 < s.time
        · obtain rfl : j8 = true := HJ8.out.symm.trans (decide_eq_true (Or.inr (Or.inl ⟨h0, Or.inl h1a⟩)))
          clear h0
          have fh1a : decide (now + w0 < s.time) = true := decide_eq_true h1a
          clear h1a
          go_wp2_with fail
          go_meet
          exact ⟨rfl, rfl⟩
        · have fh1a : decide (now + w0 < s.time) = false := decide_eq_false h1a
          by_cases h1b : s.time < now - w0
          · obtain rfl : j8 = true := HJ8.out.symm.trans (decide_eq_true (Or.inr (Or.inl ⟨h0, Or.inr h1b⟩)))
            clear h0
            have fh1b : decide (s.time < now - w0) = true := decide_eq_true h1b
            clear h1b
            go_wp2_with fail
            go_meet
            exact ⟨rfl, rfl⟩
          · have fh1b : decide (s.time < now - w0) = false := decide_eq_false h1b
            by_cases h2 : now + p.beat < u.lo
            · obtain rfl : j8 = true := HJ8.out.symm.trans (decide_eq_true (Or.inr (Or.inr (Or.inl h2))))
              clear h0
              have fh2 : decide (now + p.beat < u.lo) = true := decide_eq_true h2
              clear h2
              go_wp2_with fail
              go_meet
              exact ⟨rfl, rfl⟩
            · have fh2 : decide (now + p.beat < u.lo) = false := decide_eq_false h2
              by_cases h3 : u.hi < now + p.beat
              · obtain rfl : j8 = true := HJ8.out.symm.trans (decide_eq_true (Or.inr (Or.inr (Or.inr (Or.inl h3)))))
                clear h0
                have fh3 : decide (u.hi < now + p.beat) = true := decide_eq_true h3
                clear h3
                go_wp2_with fail
                go_meet
                exact ⟨rfl, rfl⟩
              · have fh3 : decide (u.hi < now + p.beat) = false := decide_eq_false h3
                by_cases h4 : u.lo < now + p.beat - w0
                · obtain rfl : j8 = true := HJ8.out.symm.trans (decide_eq_true (Or.inr (Or.inr (Or.inr (Or.inr (Or.inl h4))))))
                  clear h0
                  have fh4 : decide (u.lo < now + p.beat - w0) = true := decide_eq_true h4
                  clear h4
                  go_wp2_with fail
                  go_meet
                  exact ⟨rfl, rfl⟩
                · have fh4 : decide (u.lo < now + p.beat - w0) = false := decide_eq_false h4
                  by_cases h5 : now + p.beat + w0 < u.hi
                  · obtain rfl : j8 = true := HJ8.out.symm.trans (decide_eq_true (Or.inr (Or.inr (Or.inr (Or.inr (Or.inr (Or.inl h5)))))))
                    clear h0
                    have fh5 : decide (now + p.beat + w0 < u.hi) = true := decide_eq_true h5
                    clear h5
                    go_wp2_with fail
                    go_meet
                    exact ⟨rfl, rfl⟩
                  · have fh5 : decide (now + p.beat + w0 < u.hi) = false := decide_eq_false h5
                    have hk8 : IntKind.i64.wrap (u.hi - u.lo) = u.hi - u.lo := IntWalk.i64_in _ ⟨by omega, by omega⟩
                    by_cases h6 : w0 < u.hi - u.lo
                    · obtain rfl : j8 = true := HJ8.out.symm.trans (decide_eq_true (Or.inr (Or.inr (Or.inr (Or.inr (Or.inr (Or.inr (h6))))))))
                      clear h0
                      have fh6 : decide (w0 < u.hi - u.lo) = true := decide_eq_true h6
                      clear h6
                      go_wp2_with fail
                      go_meet
                      exact ⟨rfl, rfl⟩
                    · have fh6 : decide (w0 < u.hi - u.lo) = false := decide_eq_false h6
                      obtain rfl : j8 = false := HJ8.out.symm.trans (decide_eq_false (fun h => h.elim h0a fun h => h.elim (fun h => h.2.elim h1a h1b) fun h => h.elim h2 fun h => h.elim h3 fun h => h.elim h4 fun h => h.elim h5 h6))
                      clear h0
                      go_wp2_with fail
                      go_meet
                      exact ⟨rfl, rfl⟩
  case rest =>
  obtain ⟨rfl, rfl⟩ := hcut
  cases j8 with
  | true =>
    go_wp2_with fail
    go_ret
    exact ⟨rfl, hok⟩
  | false =>
  have hno := of_decide_eq_false HJ8.out
  have d1 : ¬ (72057594037927936 < w0) := fun h => hno (Or.inl h)
  have d2 : o ≠ 0 → ¬ (now + w0 < s.time) ∧ ¬ (s.time < now - w0) := fun h0 => ⟨fun h => hno (Or.inr (Or.inl ⟨h0, Or.inl h⟩)), fun h => hno (Or.inr (Or.inl ⟨h0, Or.inr h⟩))⟩
  have d3 : ¬ (now + p.beat < u.lo) := fun h => hno (Or.inr (Or.inr (Or.inl h)))
  have d4 : ¬ (u.hi < now + p.beat) := fun h => hno (Or.inr (Or.inr (Or.inr (Or.inl h))))
  have d5 : ¬ (u.lo < now + p.beat - w0) := fun h => hno (Or.inr (Or.inr (Or.inr (Or.inr (Or.inl h)))))
  have d6 : ¬ (now + p.beat + w0 < u.hi) := fun h => hno (Or.inr (Or.inr (Or.inr (Or.inr (Or.inr (Or.inl h))))))
  have d7 : ¬ (w0 < u.hi - u.lo) := fun h => hno (Or.inr (Or.inr (Or.inr (Or.inr (Or.inr (Or.inr h))))))
  obtain ⟨t, ht⟩ : ∃ t, Health.step p s (p.beat + err) u = t := ⟨_, rfl⟩
  have htt : Health.clock p s (p.beat + err) u = t.time := by rw [← ht]; rfl
  obtain ⟨⟨g1, g2⟩, g3⟩ := Health.stays HM.out (s := s) (next := u) (now := now) (err := err) (w := w0) ⟨by omega, by omega⟩ ⟨by omega, by omega⟩ ⟨by omega, by omega⟩ HW0.out (by omega)
    (fun hk => by rw [HO.out] at hk; have := d2 hk; omega) (by omega) (by omega) (by omega) (by omega) (by omega)
  rw [htt, HO.out] at g3
  rw [htt] at g1 g2
  have HG3 := Lib.hid g3
  have HD2 := Lib.hid d2
  have KFS := Lib.hid fun w g h hC => F.frontStep g p s A cap (p.beat + err) u C cup w h hC HHL.out
  rw [ht] at KFS
  have hmu := HM.out.2.1.2.2.2.2.2
  have hk7 : IntKind.i64.wrap (p.beat + err) = p.beat + err := IntWalk.i64_in _ ⟨by omega, by omega⟩
  clear hno HJ8 g3 d2 d3 d4 d5 d6 d7 ht htt
  obtain ⟨s0, s1, s2, s3, s4, s5, s6, s7, s8, s9, s10⟩ := hS.sta; have hSl := hS.lt; obtain ⟨y0, y1, y2, y3, y4, y5, y6, y7, y8, y9, y10⟩ := hU.sta; have hUl := hU.lt; obtain ⟨c0, c1, c2, c3, c4, c5, c6, c7, c8, c9, c10, c11⟩ := hP.pars; have hPl := hP.lt
  go_upto_region 11 with fail
  clear s0 s1 s2 s3 s4 s5 s6 s7 s8 s9 s10 hSl; clear y0 y1 y2 y3 y4 y5 y6 y7 y8 y9 y10 hUl; clear c0 c1 c2 c3 c4 c5 c6 c7 c8 c9 c10 c11 hPl
  change Code.wp _ _ _ _ (wc.alloc (.cells (frontCells p s A cap) 39))
  have hGK := hU.lt
  have hwK := hok.size
  have hF := Own.new wc (frontCells p s A cap) 39 rfl
  replace hP := hP.alloc (.cells (frontCells p s A cap) 39)
  replace hS := hS.alloc (.cells (frontCells p s A cap) 39)
  replace hU := hU.alloc (.cells (frontCells p s A cap) 39)
  replace hok := hok.alloc (.cells (frontCells p s A cap) 39)
  generalize wc.alloc (.cells (frontCells p s A cap) 39) = W5 at hP hS hU hok hF ⊢
  generalize wc.heap.size = K at hF hGK hwK ⊢
  have hPC := HC.out.below hok
  have b3' : p.beat = p.beat := rfl
  clear b3'
  have c3 := hP.cell 3 (v := .int .i64 p.beat) rfl
  have hPl := hP.lt
  obtain ⟨y0, y1, y2, y3, y4, y5, y6, y7, y8, y9, y10⟩ := hU.sta; have hUl := hU.lt
  go_upto_region 12 with (go_at_call 18; refine (KFS.out _ _ hF hPC).mono ?_; rintro e w6 ⟨rfl, A2, d2, hF6, -, hO⟩; clear y0 y1 y2 y3 y4 y5 y6 y7 y8 y9 y10 hUl; clear hF hPC c3 hPl; replace hP := hO.own hP (by omega); replace hS := hO.own hS (by omega); replace hok := hO.then_ok hok hwK; clear hO; have hF := hF6; clear hF6)
  have q2 := hF.cell 14 (v := .int .i64 t.time) rfl
  have hFl := hF.lt
  have e1 : decide (now + p.beat + w0 < t.time) = false := decide_eq_false (by omega)
  have e2 : decide (t.time < now + p.beat - w0) = false := decide_eq_false (by omega)
  go_upto_region 14 with fail
  have c3 := hP.cell 3 (v := .int .i64 p.beat) rfl
  have c8 := hP.cell 8 (v := .int .i64 p.mu) rfl
  have hPl := hP.lt
  have s2 := hS.cell 2 (v := .int .i64 s.time) rfl
  have hSl := hS.lt
  cases kn with
  | false =>
    go_quiet (fail)
    go_wp2_with fail
    go_ret
    exact ⟨rfl, hok.drewN _⟩
  | true =>
    have h0 : o ≠ 0 := by have := HKN.out; simpa using this
    have g4 := HG3.out h0
    have g5 := HD2.out h0
    clear h0
    have m1 : IntKind.i64.wrap (t.time - s.time) = t.time - s.time := IntWalk.i64_in _ ⟨by omega, by omega⟩
    have m2 : IntKind.i64.wrap (t.time - s.time - p.beat) = t.time - s.time - p.beat := IntWalk.i64_in _ ⟨by omega, by omega⟩
    have m3 : IntKind.i64.wrap (t.time - s.time - p.beat - err) = t.time - s.time - p.beat - err := IntWalk.i64_in _ ⟨by omega, by omega⟩
    have m4 : IntKind.i64.wrap (-p.mu) = -p.mu := IntWalk.i64_in _ ⟨by omega, by omega⟩
    have m5 : decide (t.time - s.time - p.beat - err ≤ p.mu) = true := decide_eq_true (by omega)
    have m6 : decide (-p.mu ≤ t.time - s.time - p.beat - err) = true := decide_eq_true (by omega)
    go_quiet (fail)
    go_wp2_with fail
    go_ret
    exact ⟨rfl, hok.drewN _⟩
theorem walk (w : World) (p : Par) (wp : ParWf p) (s : Sta) (A : Option Addr) (cap : Nat) (hA : PairsAt w A s.table) (hcs : s.table.length ≤ cap) (hms : cap ≤ maxLen) (ws : StaWf s) (now : Int) (wnow : (Lit.int .i64 now).wf = true) (err : Int) (werr : (Lit.int .i64 err).wf = true) (u : Sta) (C : Option Addr) (cup : Nat) (hC : PairsAt w C u.table) (hcu : u.table.length ≤ cup) (hmu : cup ≤ maxLen) (wu : StaWf u) :
    Calls Try.prog 5 #[parV p, staV s A cap, .int .i64 now, .int .i64 err, staV u C cup] w fun e w' => e = .returned (.bool true) ∧ Below w.heap.size w w' :=
  walkF front21 w p s A cap now err u C cup hC (Nat.le_trans hcu (Nat.le_trans hmu (by decide)))
theorem own : ownKnob Try.prog.godebug = none := by kernel_rfl
theorem laidOut : laidOutB Try.prog = true := by kernel_rfl
set_option maxRecDepth 100000 in
theorem lifted (os : Os) (started : os.Started) (H : Type) (enc : TypeId × Value → H) :
    ReturnsInHanded {} Try.checked os 5 .any (Rows.healthStaysSpec.pre6 enc Try.prog Try.f5 Rows.healthStaysRow.domain false) (Rows.healthStaysSpec.post enc Try.prog Try.f5 false true false false) := by
  refine returnsInHanded_of_change (C := Try.checked) own started (by kernel_rfl) Try.func5
    (ChangeSpec.witness6 (enc := enc) (C := Try.checked) false ⟨#[], #[.agg #[.int .i64 0, .int .i64 0, .int .i64 0, .int .i64 0, .int .i64 0, .int .i64 0, .int .i64 0, .int .i64 0, .int .i64 0, .int .i64 0, .int .i64 0, .int .i64 0], .agg #[.int .i64 0, .int .i64 0, .int .i64 0, .bool false, .int .i64 0, .int .i64 0, .bool false, .slice none 0 0, .int .i64 0, .int .i64 0, .int .i64 0], .int .i64 0, .int .i64 0, .agg #[.int .i64 0, .int .i64 0, .int .i64 0, .bool false, .int .i64 0, .int .i64 0, .bool false, .slice none 0 0, .int .i64 0, .int .i64 0, .int .i64 0]], []⟩ 8 (by kernel_rfl) (by kernel_rfl) (by kernel_rfl) (by kernel_rfl)) ?_
  intro W base args ds gs before hval0 hW _ _
  have hval : ∀ (j : Nat) t v, Try.f5.params[j]? = some t → args[j]? = some v → Value.okWide Try.prog W .any base t v := hval0
  have hW' := hW
  obtain ⟨p, q, hA, hV, rfl, _, _⟩ := hW
  obtain ⟨rfl, rfl⟩ := trodVars_none hV
  replace hA : DataW.TrodAll enc Try.prog W 0 (fun _ => true) true Try.f5.params.toList args.toList ds p := hA
  rw [Try.params5] at hA hval
  obtain ⟨v0, vs0, d0, ds0, p0, q0, hargs, rfl, rfl, h0, r0⟩ := trodAll_cons hA
  obtain ⟨v1, vs1, d1, ds1, p1, q1, rfl, rfl, rfl, h1, r1⟩ := trodAll_cons r0
  obtain ⟨v2, vs2, d2, ds2, p2, q2, rfl, rfl, rfl, h2, r2⟩ := trodAll_cons r1
  obtain ⟨v3, vs3, d3, ds3, p3, q3, rfl, rfl, rfl, h3, r3⟩ := trodAll_cons r2
  obtain ⟨v4, vs4, d4, ds4, p4, q4, rfl, rfl, rfl, h4, r4⟩ := trodAll_cons r3
  obtain ⟨rfl, rfl, rfl⟩ := trodAll_nil r4
  obtain rfl : args = #[v0, v1, v2, v3, v4] := by cases args; simp_all
  obtain ⟨p0, rfl, wp0⟩ := open_par Try.underlying23 rfl (by kernel_rfl) (by kernel_rfl) (by kernel_rfl) (hval 0 23 v0 rfl rfl) h0
  obtain ⟨s1, A1, c1, rfl, hA1, hc1, hm1, w1⟩ := open_sta (hval 1 30 v1 rfl rfl) h1
  obtain ⟨a2, rfl, rfl, rfl, w2⟩ := open_int Try.underlying3 (hval 2 3 v2 rfl rfl) h2
  obtain ⟨a3, rfl, rfl, rfl, w3⟩ := open_int Try.underlying3 (hval 3 3 v3 rfl rfl) h3
  obtain ⟨s4, A4, c4, rfl, hA4, hc4, hm4, w4⟩ := open_sta (hval 4 30 v4 rfl rfl) h4
  refine (walk W p0 wp0 s1 A1 c1 hA1 hc1 hm1 w1 a2 w2 a3 w3 s4 A4 c4 hA4 hc4 hm4 w4).mono fun e W' ⟨he, hb⟩ => ?_
  subst he
  exact ⟨_, rfl, law_post hW' laidOut (by rw [Try.params5]; exact params_ok (by kernel_rfl)) rfl (by kernel_rfl) Try.underlying4 rfl rfl rfl hb⟩
theorem over : Rows.healthStaysRow.holds Try.pinned (OpenSpec.ofChange Rows.healthStaysSpec) :=
  OpenClaim.holds_of_wide 5 Try.f5 rfl rfl rfl rfl rfl rfl rfl ⟨rfl, rfl, rfl, rfl, rfl⟩ rfl rfl rfl rfl rfl (by kernel_rfl) Try.func5 (by kernel_rfl)
    (of_decide_eq_true (by kernel_rfl)) (by unfold Func.isWrapper; first | (rw [if_pos (by decide +kernel)]; kernel_rfl) | (rw [if_neg (by decide +kernel)]; exact ⟨rfl, rfl⟩))
    (fun os started H enc _ => lifted os started H enc)
theorem proved : Rows.HealthStaysSaid := over
end Go.Proofs.Ytlclfonlidcfiaa.healthStays
