/- HealthRises: for every fabric, state, ticks, next state and stamp the law answers true: behind Step, Stamp and Listen the stamp is later, unless the life is one more. No condition. -/
import Derived.Test.YtlclfonlidcfiaaC21h
import Derived.Test.YtlclfonlidcfiaaW06
import Derived.Test.YtlclfonlidcfiaaC04b
import Derived.Test.YtlclfonlidcfiaaMA
import Derived.BigQuiet
namespace Go.Proofs.Ytlclfonlidcfiaa.healthRises
open Go.ChangeShapes Go.WideShapes Go.ChangeAt Go.RowKit
set_option linter.unusedVariables false
set_option maxRecDepth 100000
attribute [local go_sem ↓] Go.wp_at_zero Go.wp_at_succ
/-- What each operation leaves. -/
def VMA (H K : Nat) (s t : Sta) (w : World) (v : Value) : Nat → Prop
  | 0 => v = .pointer (some ⟨K, 0, none⟩)
  | 1 => v = .pointer (some ⟨K, 0, none⟩)
  | 2 => v = .pointer (some ⟨K, 12, none⟩)
  | 3 => v = .pointer (some ⟨K, 22, none⟩)
  | 4 => v = .int .i64 t.life
  | 5 => v = .pointer (some ⟨H, 10, none⟩)
  | 6 => v = .int .i64 s.life
  | 7 => v = .bool true
  | 8 => v = .bool true
  | 9 => v = .pointer (some ⟨H, 8, none⟩)
  | 10 => v = .agg #[.int .i64 s.st, .int .i64 s.sn]
  | 11 => v = .pointer (some ⟨K, 0, none⟩)
  | 12 => v = .pointer (some ⟨K, 0, none⟩)
  | 13 => v = .pointer (some ⟨K, 12, none⟩)
  | 14 => v = .pointer (some ⟨K, 20, none⟩)
  | 15 => v = .agg #[.int .i64 t.st, .int .i64 t.sn]
  | 16 => v = .bool true
  | 17 => v = .bool false
  | 18 => v = .bool false
  | _ => v = .bool true
/-- It stays so. -/
def VCA (H K : Nat) (s t : Sta) (i : Nat) (v : Value) (w : World) : Prop := ∀ w', Ok w w' → VMA H K s t w' v i
/-- What each operation leaves. -/
def VMB (H K : Nat) (s t : Sta) (w : World) (v : Value) : Nat → Prop
  | 0 => v = .pointer (some ⟨K, 0, none⟩)
  | 1 => v = .pointer (some ⟨K, 0, none⟩)
  | 2 => v = .pointer (some ⟨K, 12, none⟩)
  | 3 => v = .pointer (some ⟨K, 22, none⟩)
  | 4 => v = .int .i64 t.life
  | 5 => v = .pointer (some ⟨H, 10, none⟩)
  | 6 => v = .int .i64 s.life
  | 7 => v = .bool false
  | 8 => v = .bool false
  | 9 => v = undef
  | 10 => v = undef
  | 11 => v = undef
  | 12 => v = undef
  | 13 => v = undef
  | 14 => v = undef
  | 15 => v = undef
  | 16 => v = undef
  | 17 => v = undef
  | 18 => v = .bool false
  | _ => v = .bool true
/-- It stays so. -/
def VCB (H K : Nat) (s t : Sta) (i : Nat) (v : Value) (w : World) : Prop := ∀ w', Ok w w' → VMB H K s t w' v i
/-- What each operation leaves. -/
def VMC (A1 B1 K : Nat) (t z : Sta) (k1 k2 : Int) (w : World) (v : Value) : Nat → Prop
  | 0 => v = .agg #[.int .i64 t.st, .int .i64 t.sn]
  | 1 => v = .agg #[.int .i64 k1, .int .i64 k2]
  | 2 => v = .bool true
  | 3 => v = .bool true
  | 4 => v = .agg #[.int .i64 k1, .int .i64 k2]
  | 5 => v = .pointer (some ⟨K, 0, none⟩)
  | 6 => v = .pointer (some ⟨K, 0, none⟩)
  | 7 => v = .pointer (some ⟨K, 12, none⟩)
  | 8 => v = .pointer (some ⟨K, 20, none⟩)
  | 9 => v = .agg #[.int .i64 z.st, .int .i64 z.sn]
  | 10 => v = .bool true
  | 11 => v = .bool true
  | 12 => v = .bool true
  | _ => v = .bool true
/-- It stays so. -/
def VCC (A1 B1 K : Nat) (t z : Sta) (k1 k2 : Int) (i : Nat) (v : Value) (w : World) : Prop := ∀ w', Ok w w' → VMC A1 B1 K t z k1 k2 w' v i
set_option maxHeartbeats 12800000 in
theorem walkF (F : FrontDoes) (w : World) (p : Par) (s : Sta) (A : Option Addr) (cap : Nat) (ticks : Int) (u : Sta) (C : Option Addr) (cup : Nat) (x1 x2 : Int) (hC : PairsAt w C u.table) (hl : u.table.length ≤ 9223372036854775807) :
    Calls Try.prog 6 #[parV p, staV s A cap, .int .i64 ticks, staV u C cup, .agg #[.int .i64 x1, .int .i64 x2]] w fun e w' => e = .returned (.bool true) ∧ Ok w w' := by
  have KAL := Lib.hid fun w => law21AliveF F w
  obtain ⟨lg, hlg⟩ : ∃ b, decide (256 < s.table.length ∨ 256 < u.table.length) = b := ⟨_, rfl⟩
  have KLO := Lib.hid fun w => law21Long s u A C cap cup w
  rw [hlg] at KLO
  have KCH := Lib.hid fun w => limCheck p w
  obtain ⟨rr, hrr⟩ : ∃ b, Hlc.right (s.st, s.sn) = b := ⟨_, rfl⟩
  have KR := Lib.hid fun w => ref20Right (s.st, s.sn) w
  rw [hrr] at KR
  have HRR := Lib.hid hrr
  obtain ⟨j3, hj3⟩ : ∃ b, decide ((¬ Lim.May p) ∨ (lg = true) ∨ (rr = false) ∨ (s.life < 0) ∨ (1152921504606846976 < s.life)) = b := ⟨_, rfl⟩
  have HC3 := Lib.hid hj3
  have HC := Lib.hid hC
  have HHL := Lib.hid hl
  clear hlg hj3 hC hl hrr
  have hP := (Own.new w (parCells p) 23 rfl).next ((((Ok.refl _).alloc (.cells (staCells s A cap) 30)).alloc (.cells (staCells u C cup) 30)).alloc (.cells #[.int .i64 x1, .int .i64 x2] 28))
  have hS := (Own.new (w.alloc (.cells (parCells p) 23)) (staCells s A cap) 30 (g := w.heap.size + 1) (by simp)).next (((Ok.refl _).alloc (.cells (staCells u C cup) 30)).alloc (.cells #[.int .i64 x1, .int .i64 x2] 28))
  have hU := (Own.new ((w.alloc (.cells (parCells p) 23)).alloc (.cells (staCells s A cap) 30)) (staCells u C cup) 30 (g := w.heap.size + 1 + 1) (by simp)).alloc (.cells #[.int .i64 x1, .int .i64 x2] 28)
  have hX := Own.new (((w.alloc (.cells (parCells p) 23)).alloc (.cells (staCells s A cap) 30)).alloc (.cells (staCells u C cup) 30)) #[.int .i64 x1, .int .i64 x2] 28 (g := w.heap.size + 1 + 1 + 1) (by simp)
  have hok := ((((Ok.refl w).alloc (.cells (parCells p) 23)).alloc (.cells (staCells s A cap) 30)).alloc (.cells (staCells u C cup) 30)).alloc (.cells #[.int .i64 x1, .int .i64 x2] 28)
  go_enter Try.func6, Try.ntmps6
  go_upto_region 1 with fail
  change Code.wp _ _ _ _ ((((w.alloc (.cells (parCells p) 23)).alloc (.cells (staCells s A cap) 30)).alloc (.cells (staCells u C cup) 30)).alloc (.cells #[.int .i64 x1, .int .i64 x2] 28))
  generalize (((w.alloc (.cells (parCells p) 23)).alloc (.cells (staCells s A cap) 30)).alloc (.cells (staCells u C cup) 30)).alloc (.cells #[.int .i64 x1, .int .i64 x2] 28) = W at hP hS hU hX hok ⊢
  obtain ⟨X, hXe⟩ : ∃ r, w.heap.size + 1 + 1 + 1 = r := ⟨_, rfl⟩
  obtain ⟨G, hG⟩ : ∃ r, w.heap.size + 1 + 1 = r := ⟨_, rfl⟩
  obtain ⟨H, hH⟩ : ∃ r, w.heap.size + 1 = r := ⟨_, rfl⟩
  obtain ⟨B, hB⟩ : ∃ r, w.heap.size = r := ⟨_, rfl⟩
  have hBX : B < X := by omega
  have hHX : H < X := by omega
  have hGX : G < X := by omega
  rw [hXe] at hX
  rw [hG] at hU
  rw [hH] at hS
  rw [hB] at hP
  rw [hXe, hG, hH, hB]
  clear hXe hG hH hB
  go_upto_region 3 with (go_at_call 9; (with_reducible refine (KAL.out _).mono ?_); rintro e w1 ⟨rfl, hb1⟩; replace hP := hP.next hb1; replace hS := hS.next hb1; replace hU := hU.next hb1; replace hX := hX.next hb1; replace hok := hok.trans hb1; clear hb1)
  go_cut [42] from 19 to 42 (fun v wx => v = .bool j3 ∧ Own wx B (parCells p) ∧ Own wx H (staCells s A cap) ∧ Own wx G (staCells u C cup) ∧ Own wx X #[.int .i64 x1, .int .i64 x2] ∧ Ok w wx)
  case first =>
    obtain ⟨s0, s1, s2, s3, s4, s5, s6, s7, s8, s9, s10⟩ := hS.sta; have hSl := hS.lt; obtain ⟨y0, y1, y2, y3, y4, y5, y6, y7, y8, y9, y10⟩ := hU.sta; have hUl := hU.lt; obtain ⟨c0, c1, c2, c3, c4, c5, c6, c7, c8, c9, c10, c11⟩ := hP.pars; have hPl := hP.lt
    by_cases h0 : ¬ Lim.May p
    · obtain rfl : j3 = true := HC3.out.symm.trans (decide_eq_true (Or.inl h0))
      rw [show Lim.check p = 1 from if_neg h0] at KCH
      clear h0
      go_wp2_with (first | (go_at_call 10; refine (KLO.out _).mono ?_; rintro e w2 ⟨rfl, hb1⟩; clear s0 s1 s2 s3 s4 s5 s6 s7 s8 s9 s10 hSl; clear y0 y1 y2 y3 y4 y5 y6 y7 y8 y9 y10 hUl; clear c0 c1 c2 c3 c4 c5 c6 c7 c8 c9 c10 c11 hPl; replace hP := hP.next hb1; replace hS := hS.next hb1; replace hU := hU.next hb1; replace hX := hX.next hb1; replace hok := hok.trans hb1; clear hb1; obtain ⟨s0, s1, s2, s3, s4, s5, s6, s7, s8, s9, s10⟩ := hS.sta; have hSl := hS.lt; obtain ⟨y0, y1, y2, y3, y4, y5, y6, y7, y8, y9, y10⟩ := hU.sta; have hUl := hU.lt; obtain ⟨c0, c1, c2, c3, c4, c5, c6, c7, c8, c9, c10, c11⟩ := hP.pars; have hPl := hP.lt) | (go_at_call 24; refine (KCH.out _).mono ?_; rintro e w3 ⟨rfl, hb1⟩; clear s0 s1 s2 s3 s4 s5 s6 s7 s8 s9 s10 hSl; clear y0 y1 y2 y3 y4 y5 y6 y7 y8 y9 y10 hUl; clear c0 c1 c2 c3 c4 c5 c6 c7 c8 c9 c10 c11 hPl; replace hP := hP.next hb1; replace hS := hS.next hb1; replace hU := hU.next hb1; replace hX := hX.next hb1; replace hok := hok.trans hb1; clear hb1; obtain ⟨s0, s1, s2, s3, s4, s5, s6, s7, s8, s9, s10⟩ := hS.sta; have hSl := hS.lt; obtain ⟨y0, y1, y2, y3, y4, y5, y6, y7, y8, y9, y10⟩ := hU.sta; have hUl := hU.lt; obtain ⟨c0, c1, c2, c3, c4, c5, c6, c7, c8, c9, c10, c11⟩ := hP.pars; have hPl := hP.lt) | (go_at_call 25; refine (KR.out _).mono ?_; rintro e w4 ⟨rfl, hb1⟩; clear s0 s1 s2 s3 s4 s5 s6 s7 s8 s9 s10 hSl; clear y0 y1 y2 y3 y4 y5 y6 y7 y8 y9 y10 hUl; clear c0 c1 c2 c3 c4 c5 c6 c7 c8 c9 c10 c11 hPl; replace hP := hP.next hb1; replace hS := hS.next hb1; replace hU := hU.next hb1; replace hX := hX.next hb1; replace hok := hok.trans hb1; clear hb1; obtain ⟨s0, s1, s2, s3, s4, s5, s6, s7, s8, s9, s10⟩ := hS.sta; have hSl := hS.lt; obtain ⟨y0, y1, y2, y3, y4, y5, y6, y7, y8, y9, y10⟩ := hU.sta; have hUl := hU.lt; obtain ⟨c0, c1, c2, c3, c4, c5, c6, c7, c8, c9, c10, c11⟩ := hP.pars; have hPl := hP.lt))
      go_meet
      exact ⟨rfl, hP, hS, hU, hX, hok⟩
    · rw [show Lim.check p = 0 from if_pos (Decidable.not_not.1 h0)] at KCH
      have HM := Lib.hid (Decidable.not_not.1 h0)
      clear h0
      cases lg with
      | true =>
        obtain rfl : j3 = true := HC3.out.symm.trans (decide_eq_true (Or.inr (Or.inl rfl)))
        go_wp2_with (first | (go_at_call 10; refine (KLO.out _).mono ?_; rintro e w2 ⟨rfl, hb1⟩; clear s0 s1 s2 s3 s4 s5 s6 s7 s8 s9 s10 hSl; clear y0 y1 y2 y3 y4 y5 y6 y7 y8 y9 y10 hUl; clear c0 c1 c2 c3 c4 c5 c6 c7 c8 c9 c10 c11 hPl; replace hP := hP.next hb1; replace hS := hS.next hb1; replace hU := hU.next hb1; replace hX := hX.next hb1; replace hok := hok.trans hb1; clear hb1; obtain ⟨s0, s1, s2, s3, s4, s5, s6, s7, s8, s9, s10⟩ := hS.sta; have hSl := hS.lt; obtain ⟨y0, y1, y2, y3, y4, y5, y6, y7, y8, y9, y10⟩ := hU.sta; have hUl := hU.lt; obtain ⟨c0, c1, c2, c3, c4, c5, c6, c7, c8, c9, c10, c11⟩ := hP.pars; have hPl := hP.lt) | (go_at_call 24; refine (KCH.out _).mono ?_; rintro e w3 ⟨rfl, hb1⟩; clear s0 s1 s2 s3 s4 s5 s6 s7 s8 s9 s10 hSl; clear y0 y1 y2 y3 y4 y5 y6 y7 y8 y9 y10 hUl; clear c0 c1 c2 c3 c4 c5 c6 c7 c8 c9 c10 c11 hPl; replace hP := hP.next hb1; replace hS := hS.next hb1; replace hU := hU.next hb1; replace hX := hX.next hb1; replace hok := hok.trans hb1; clear hb1; obtain ⟨s0, s1, s2, s3, s4, s5, s6, s7, s8, s9, s10⟩ := hS.sta; have hSl := hS.lt; obtain ⟨y0, y1, y2, y3, y4, y5, y6, y7, y8, y9, y10⟩ := hU.sta; have hUl := hU.lt; obtain ⟨c0, c1, c2, c3, c4, c5, c6, c7, c8, c9, c10, c11⟩ := hP.pars; have hPl := hP.lt) | (go_at_call 25; refine (KR.out _).mono ?_; rintro e w4 ⟨rfl, hb1⟩; clear s0 s1 s2 s3 s4 s5 s6 s7 s8 s9 s10 hSl; clear y0 y1 y2 y3 y4 y5 y6 y7 y8 y9 y10 hUl; clear c0 c1 c2 c3 c4 c5 c6 c7 c8 c9 c10 c11 hPl; replace hP := hP.next hb1; replace hS := hS.next hb1; replace hU := hU.next hb1; replace hX := hX.next hb1; replace hok := hok.trans hb1; clear hb1; obtain ⟨s0, s1, s2, s3, s4, s5, s6, s7, s8, s9, s10⟩ := hS.sta; have hSl := hS.lt; obtain ⟨y0, y1, y2, y3, y4, y5, y6, y7, y8, y9, y10⟩ := hU.sta; have hUl := hU.lt; obtain ⟨c0, c1, c2, c3, c4, c5, c6, c7, c8, c9, c10, c11⟩ := hP.pars; have hPl := hP.lt))
        go_meet
        exact ⟨rfl, hP, hS, hU, hX, hok⟩
      | false =>
        cases rr with
        | false =>
          obtain rfl : j3 = true := HC3.out.symm.trans (decide_eq_true (Or.inr (Or.inr (Or.inl rfl))))
          go_wp2_with (first | (go_at_call 10; refine (KLO.out _).mono ?_; rintro e w2 ⟨rfl, hb1⟩; clear s0 s1 s2 s3 s4 s5 s6 s7 s8 s9 s10 hSl; clear y0 y1 y2 y3 y4 y5 y6 y7 y8 y9 y10 hUl; clear c0 c1 c2 c3 c4 c5 c6 c7 c8 c9 c10 c11 hPl; replace hP := hP.next hb1; replace hS := hS.next hb1; replace hU := hU.next hb1; replace hX := hX.next hb1; replace hok := hok.trans hb1; clear hb1; obtain ⟨s0, s1, s2, s3, s4, s5, s6, s7, s8, s9, s10⟩ := hS.sta; have hSl := hS.lt; obtain ⟨y0, y1, y2, y3, y4, y5, y6, y7, y8, y9, y10⟩ := hU.sta; have hUl := hU.lt; obtain ⟨c0, c1, c2, c3, c4, c5, c6, c7, c8, c9, c10, c11⟩ := hP.pars; have hPl := hP.lt) | (go_at_call 24; refine (KCH.out _).mono ?_; rintro e w3 ⟨rfl, hb1⟩; clear s0 s1 s2 s3 s4 s5 s6 s7 s8 s9 s10 hSl; clear y0 y1 y2 y3 y4 y5 y6 y7 y8 y9 y10 hUl; clear c0 c1 c2 c3 c4 c5 c6 c7 c8 c9 c10 c11 hPl; replace hP := hP.next hb1; replace hS := hS.next hb1; replace hU := hU.next hb1; replace hX := hX.next hb1; replace hok := hok.trans hb1; clear hb1; obtain ⟨s0, s1, s2, s3, s4, s5, s6, s7, s8, s9, s10⟩ := hS.sta; have hSl := hS.lt; obtain ⟨y0, y1, y2, y3, y4, y5, y6, y7, y8, y9, y10⟩ := hU.sta; have hUl := hU.lt; obtain ⟨c0, c1, c2, c3, c4, c5, c6, c7, c8, c9, c10, c11⟩ := hP.pars; have hPl := hP.lt) | (go_at_call 25; refine (KR.out _).mono ?_; rintro e w4 ⟨rfl, hb1⟩; clear s0 s1 s2 s3 s4 s5 s6 s7 s8 s9 s10 hSl; clear y0 y1 y2 y3 y4 y5 y6 y7 y8 y9 y10 hUl; clear c0 c1 c2 c3 c4 c5 c6 c7 c8 c9 c10 c11 hPl; replace hP := hP.next hb1; replace hS := hS.next hb1; replace hU := hU.next hb1; replace hX := hX.next hb1; replace hok := hok.trans hb1; clear hb1; obtain ⟨s0, s1, s2, s3, s4, s5, s6, s7, s8, s9, s10⟩ := hS.sta; have hSl := hS.lt; obtain ⟨y0, y1, y2, y3, y4, y5, y6, y7, y8, y9, y10⟩ := hU.sta; have hUl := hU.lt; obtain ⟨c0, c1, c2, c3, c4, c5, c6, c7, c8, c9, c10, c11⟩ := hP.pars; have hPl := hP.lt))
          go_meet
          exact ⟨rfl, hP, hS, hU, hX, hok⟩
        | true =>
          by_cases h3 : s.life < 0
          · obtain rfl : j3 = true := HC3.out.symm.trans (decide_eq_true (Or.inr (Or.inr (Or.inr (Or.inl h3)))))
            have e3 : decide (s.life < 0) = true := decide_eq_true h3
            clear h3
            go_wp2_with (first | (go_at_call 10; refine (KLO.out _).mono ?_; rintro e w2 ⟨rfl, hb1⟩; clear s0 s1 s2 s3 s4 s5 s6 s7 s8 s9 s10 hSl; clear y0 y1 y2 y3 y4 y5 y6 y7 y8 y9 y10 hUl; clear c0 c1 c2 c3 c4 c5 c6 c7 c8 c9 c10 c11 hPl; replace hP := hP.next hb1; replace hS := hS.next hb1; replace hU := hU.next hb1; replace hX := hX.next hb1; replace hok := hok.trans hb1; clear hb1; obtain ⟨s0, s1, s2, s3, s4, s5, s6, s7, s8, s9, s10⟩ := hS.sta; have hSl := hS.lt; obtain ⟨y0, y1, y2, y3, y4, y5, y6, y7, y8, y9, y10⟩ := hU.sta; have hUl := hU.lt; obtain ⟨c0, c1, c2, c3, c4, c5, c6, c7, c8, c9, c10, c11⟩ := hP.pars; have hPl := hP.lt) | (go_at_call 24; refine (KCH.out _).mono ?_; rintro e w3 ⟨rfl, hb1⟩; clear s0 s1 s2 s3 s4 s5 s6 s7 s8 s9 s10 hSl; clear y0 y1 y2 y3 y4 y5 y6 y7 y8 y9 y10 hUl; clear c0 c1 c2 c3 c4 c5 c6 c7 c8 c9 c10 c11 hPl; replace hP := hP.next hb1; replace hS := hS.next hb1; replace hU := hU.next hb1; replace hX := hX.next hb1; replace hok := hok.trans hb1; clear hb1; obtain ⟨s0, s1, s2, s3, s4, s5, s6, s7, s8, s9, s10⟩ := hS.sta; have hSl := hS.lt; obtain ⟨y0, y1, y2, y3, y4, y5, y6, y7, y8, y9, y10⟩ := hU.sta; have hUl := hU.lt; obtain ⟨c0, c1, c2, c3, c4, c5, c6, c7, c8, c9, c10, c11⟩ := hP.pars; have hPl := hP.lt) | (go_at_call 25; refine (KR.out _).mono ?_; rintro e w4 ⟨rfl, hb1⟩; clear s0 s1 s2 s3 s4 s5 s6 s7 s8 s9 s10 hSl; clear y0 y1 y2 y3 y4 y5 y6 y7 y8 y9 y10 hUl; clear c0 c1 c2 c3 c4 c5 c6 c7 c8 c9 c10 c11 hPl; replace hP := hP.next hb1; replace hS := hS.next hb1; replace hU := hU.next hb1; replace hX := hX.next hb1; replace hok := hok.trans hb1; clear hb1; obtain ⟨s0, s1, s2, s3, s4, s5, s6, s7, s8, s9, s10⟩ := hS.sta; have hSl := hS.lt; obtain ⟨y0, y1, y2, y3, y4, y5, y6, y7, y8, y9, y10⟩ := hU.sta; have hUl := hU.lt; obtain ⟨c0, c1, c2, c3, c4, c5, c6, c7, c8, c9, c10, c11⟩ := hP.pars; have hPl := hP.lt))
            go_meet
            exact ⟨rfl, hP, hS, hU, hX, hok⟩
          · have e3 : decide (s.life < 0) = false := decide_eq_false h3
            by_cases h4 : 1152921504606846976 < s.life
            · obtain rfl : j3 = true := HC3.out.symm.trans (decide_eq_true (Or.inr (Or.inr (Or.inr (Or.inr (h4))))))
              have e4 : decide (1152921504606846976 < s.life) = true := decide_eq_true h4
              clear h4
              go_wp2_with (first | (go_at_call 10; refine (KLO.out _).mono ?_; rintro e w2 ⟨rfl, hb1⟩; clear s0 s1 s2 s3 s4 s5 s6 s7 s8 s9 s10 hSl; clear y0 y1 y2 y3 y4 y5 y6 y7 y8 y9 y10 hUl; clear c0 c1 c2 c3 c4 c5 c6 c7 c8 c9 c10 c11 hPl; replace hP := hP.next hb1; replace hS := hS.next hb1; replace hU := hU.next hb1; replace hX := hX.next hb1; replace hok := hok.trans hb1; clear hb1; obtain ⟨s0, s1, s2, s3, s4, s5, s6, s7, s8, s9, s10⟩ := hS.sta; have hSl := hS.lt; obtain ⟨y0, y1, y2, y3, y4, y5, y6, y7, y8, y9, y10⟩ := hU.sta; have hUl := hU.lt; obtain ⟨c0, c1, c2, c3, c4, c5, c6, c7, c8, c9, c10, c11⟩ := hP.pars; have hPl := hP.lt) | (go_at_call 24; refine (KCH.out _).mono ?_; rintro e w3 ⟨rfl, hb1⟩; clear s0 s1 s2 s3 s4 s5 s6 s7 s8 s9 s10 hSl; clear y0 y1 y2 y3 y4 y5 y6 y7 y8 y9 y10 hUl; clear c0 c1 c2 c3 c4 c5 c6 c7 c8 c9 c10 c11 hPl; replace hP := hP.next hb1; replace hS := hS.next hb1; replace hU := hU.next hb1; replace hX := hX.next hb1; replace hok := hok.trans hb1; clear hb1; obtain ⟨s0, s1, s2, s3, s4, s5, s6, s7, s8, s9, s10⟩ := hS.sta; have hSl := hS.lt; obtain ⟨y0, y1, y2, y3, y4, y5, y6, y7, y8, y9, y10⟩ := hU.sta; have hUl := hU.lt; obtain ⟨c0, c1, c2, c3, c4, c5, c6, c7, c8, c9, c10, c11⟩ := hP.pars; have hPl := hP.lt) | (go_at_call 25; refine (KR.out _).mono ?_; rintro e w4 ⟨rfl, hb1⟩; clear s0 s1 s2 s3 s4 s5 s6 s7 s8 s9 s10 hSl; clear y0 y1 y2 y3 y4 y5 y6 y7 y8 y9 y10 hUl; clear c0 c1 c2 c3 c4 c5 c6 c7 c8 c9 c10 c11 hPl; replace hP := hP.next hb1; replace hS := hS.next hb1; replace hU := hU.next hb1; replace hX := hX.next hb1; replace hok := hok.trans hb1; clear hb1; obtain ⟨s0, s1, s2, s3, s4, s5, s6, s7, s8, s9, s10⟩ := hS.sta; have hSl := hS.lt; obtain ⟨y0, y1, y2, y3, y4, y5, y6, y7, y8, y9, y10⟩ := hU.sta; have hUl := hU.lt; obtain ⟨c0, c1, c2, c3, c4, c5, c6, c7, c8, c9, c10, c11⟩ := hP.pars; have hPl := hP.lt))
              go_meet
              exact ⟨rfl, hP, hS, hU, hX, hok⟩
            · have e4 : decide (1152921504606846976 < s.life) = false := decide_eq_false h4
              obtain rfl : j3 = false := HC3.out.symm.trans (decide_eq_false (fun h => h.elim (fun h => h HM.out) fun h => h.elim (fun h => absurd h (by decide)) fun h => h.elim (fun h => absurd h (by decide)) fun h => h.elim h3 h4))
              go_wp2_with (first | (go_at_call 10; refine (KLO.out _).mono ?_; rintro e w2 ⟨rfl, hb1⟩; clear s0 s1 s2 s3 s4 s5 s6 s7 s8 s9 s10 hSl; clear y0 y1 y2 y3 y4 y5 y6 y7 y8 y9 y10 hUl; clear c0 c1 c2 c3 c4 c5 c6 c7 c8 c9 c10 c11 hPl; replace hP := hP.next hb1; replace hS := hS.next hb1; replace hU := hU.next hb1; replace hX := hX.next hb1; replace hok := hok.trans hb1; clear hb1; obtain ⟨s0, s1, s2, s3, s4, s5, s6, s7, s8, s9, s10⟩ := hS.sta; have hSl := hS.lt; obtain ⟨y0, y1, y2, y3, y4, y5, y6, y7, y8, y9, y10⟩ := hU.sta; have hUl := hU.lt; obtain ⟨c0, c1, c2, c3, c4, c5, c6, c7, c8, c9, c10, c11⟩ := hP.pars; have hPl := hP.lt) | (go_at_call 24; refine (KCH.out _).mono ?_; rintro e w3 ⟨rfl, hb1⟩; clear s0 s1 s2 s3 s4 s5 s6 s7 s8 s9 s10 hSl; clear y0 y1 y2 y3 y4 y5 y6 y7 y8 y9 y10 hUl; clear c0 c1 c2 c3 c4 c5 c6 c7 c8 c9 c10 c11 hPl; replace hP := hP.next hb1; replace hS := hS.next hb1; replace hU := hU.next hb1; replace hX := hX.next hb1; replace hok := hok.trans hb1; clear hb1; obtain ⟨s0, s1, s2, s3, s4, s5, s6, s7, s8, s9, s10⟩ := hS.sta; have hSl := hS.lt; obtain ⟨y0, y1, y2, y3, y4, y5, y6, y7, y8, y9, y10⟩ := hU.sta; have hUl := hU.lt; obtain ⟨c0, c1, c2, c3, c4, c5, c6, c7, c8, c9, c10, c11⟩ := hP.pars; have hPl := hP.lt) | (go_at_call 25; refine (KR.out _).mono ?_; rintro e w4 ⟨rfl, hb1⟩; clear s0 s1 s2 s3 s4 s5 s6 s7 s8 s9 s10 hSl; clear y0 y1 y2 y3 y4 y5 y6 y7 y8 y9 y10 hUl; clear c0 c1 c2 c3 c4 c5 c6 c7 c8 c9 c10 c11 hPl; replace hP := hP.next hb1; replace hS := hS.next hb1; replace hU := hU.next hb1; replace hX := hX.next hb1; replace hok := hok.trans hb1; clear hb1; obtain ⟨s0, s1, s2, s3, s4, s5, s6, s7, s8, s9, s10⟩ := hS.sta; have hSl := hS.lt; obtain ⟨y0, y1, y2, y3, y4, y5, y6, y7, y8, y9, y10⟩ := hU.sta; have hUl := hU.lt; obtain ⟨c0, c1, c2, c3, c4, c5, c6, c7, c8, c9, c10, c11⟩ := hP.pars; have hPl := hP.lt))
              go_meet
              exact ⟨rfl, hP, hS, hU, hX, hok⟩
  case rest =>
  clear hP hS hU hX hok
  obtain ⟨rfl, hP, hS, hU, hX, hok⟩ := hcut
  cases j3 with
  | true =>
    go_wp2_with fail
    go_ret
    exact ⟨rfl, hok⟩
  | false =>
  have hno := of_decide_eq_false HC3.out
  have hm : Lim.May p := Decidable.not_not.1 fun h => hno (Or.inl h)
  have hr : rr = true := by
    cases rr
    · exact absurd (Or.inr (Or.inr (Or.inl rfl))) hno
    · rfl
  have l1 : ¬ (s.life < 0) := fun h => hno (Or.inr (Or.inr (Or.inr (Or.inl h))))
  have l2 : ¬ (1152921504606846976 < s.life) := fun h => hno (Or.inr (Or.inr (Or.inr (Or.inr h))))
  have HM := Lib.hid hm
  have HR := Lib.hid (HRR.out.trans hr)
  clear hno HC3 KCH KLO KR HRR hm hr
  have s2 := hS.cell 2 (v := .int .i64 s.time) rfl
  have s8 := hS.cell 8 (v := .int .i64 s.st) rfl
  have hSl := hS.lt
  have y0 := hU.cell 0 (v := .int .i64 u.lo) rfl
  have y1 := hU.cell 1 (v := .int .i64 u.hi) rfl
  have hUl := hU.lt
  have x0 := hX.cell 0 (v := .int .i64 x1) rfl
  have hXl := hX.lt
  have n0 : ∀ (w : World), (Instr.index 52 (.agg #[.int .i64 s.time, .int .i64 s.st, .int .i64 ticks, .int .i64 u.lo, .int .i64 u.hi, .int .i64 x1]) (.int .i64 0)).run Try.prog w = .ok (.int .i64 s.time) w := fun _ => by kernel_rfl
  have n1 : ∀ (w : World), (Instr.index 52 (.agg #[.int .i64 s.time, .int .i64 s.st, .int .i64 ticks, .int .i64 u.lo, .int .i64 u.hi, .int .i64 x1]) (.int .i64 1)).run Try.prog w = .ok (.int .i64 s.st) w := fun _ => by kernel_rfl
  have n2 : ∀ (w : World), (Instr.index 52 (.agg #[.int .i64 s.time, .int .i64 s.st, .int .i64 ticks, .int .i64 u.lo, .int .i64 u.hi, .int .i64 x1]) (.int .i64 2)).run Try.prog w = .ok (.int .i64 ticks) w := fun _ => by kernel_rfl
  have n3 : ∀ (w : World), (Instr.index 52 (.agg #[.int .i64 s.time, .int .i64 s.st, .int .i64 ticks, .int .i64 u.lo, .int .i64 u.hi, .int .i64 x1]) (.int .i64 3)).run Try.prog w = .ok (.int .i64 u.lo) w := fun _ => by kernel_rfl
  have n4 : ∀ (w : World), (Instr.index 52 (.agg #[.int .i64 s.time, .int .i64 s.st, .int .i64 ticks, .int .i64 u.lo, .int .i64 u.hi, .int .i64 x1]) (.int .i64 4)).run Try.prog w = .ok (.int .i64 u.hi) w := fun _ => by kernel_rfl
  have n5 : ∀ (w : World), (Instr.index 52 (.agg #[.int .i64 s.time, .int .i64 s.st, .int .i64 ticks, .int .i64 u.lo, .int .i64 u.hi, .int .i64 x1]) (.int .i64 5)).run Try.prog w = .ok (.int .i64 x1) w := fun _ => by kernel_rfl
  go_upto_region 5 with fail
  by_cases a0 : 1152921504606846976 < s.time
  · have ea0 : decide (1152921504606846976 < s.time) = true := decide_eq_true a0
    clear a0
    go_wp2_with fail
    refine wp_loop_rounds 7 ?_
    repeat' (rw [rounds_succ]; go_wp2_with fail)
    go_ret
    exact ⟨rfl, hok⟩
  have ea0 : decide (1152921504606846976 < s.time) = false := decide_eq_false a0
  by_cases b0 : s.time < -1152921504606846976
  · have eb0 : decide (s.time < -1152921504606846976) = true := decide_eq_true b0
    clear b0
    go_wp2_with fail
    refine wp_loop_rounds 7 ?_
    repeat' (rw [rounds_succ]; go_wp2_with fail)
    go_ret
    exact ⟨rfl, hok⟩
  have eb0 : decide (s.time < -1152921504606846976) = false := decide_eq_false b0
  by_cases a1 : 1152921504606846976 < s.st
  · have ea1 : decide (1152921504606846976 < s.st) = true := decide_eq_true a1
    clear a1
    go_wp2_with fail
    refine wp_loop_rounds 7 ?_
    repeat' (rw [rounds_succ]; go_wp2_with fail)
    go_ret
    exact ⟨rfl, hok⟩
  have ea1 : decide (1152921504606846976 < s.st) = false := decide_eq_false a1
  by_cases b1 : s.st < -1152921504606846976
  · have eb1 : decide (s.st < -1152921504606846976) = true := decide_eq_true b1
    clear b1
    go_wp2_with fail
    refine wp_loop_rounds 7 ?_
    repeat' (rw [rounds_succ]; go_wp2_with fail)
    go_ret
    exact ⟨rfl, hok⟩
  have eb1 : decide (s.st < -1152921504606846976) = false := decide_eq_false b1
  by_cases a2 : 1152921504606846976 < ticks
  · have ea2 : decide (1152921504606846976 < ticks) = true := decide_eq_true a2
    clear a2
    go_wp2_with fail
    refine wp_loop_rounds 7 ?_
    repeat' (rw [rounds_succ]; go_wp2_with fail)
    go_ret
    exact ⟨rfl, hok⟩
  have ea2 : decide (1152921504606846976 < ticks) = false := decide_eq_false a2
  by_cases b2 : ticks < -1152921504606846976
  · have eb2 : decide (ticks < -1152921504606846976) = true := decide_eq_true b2
    clear b2
    go_wp2_with fail
    refine wp_loop_rounds 7 ?_
    repeat' (rw [rounds_succ]; go_wp2_with fail)
    go_ret
    exact ⟨rfl, hok⟩
  have eb2 : decide (ticks < -1152921504606846976) = false := decide_eq_false b2
  by_cases a3 : 1152921504606846976 < u.lo
  · have ea3 : decide (1152921504606846976 < u.lo) = true := decide_eq_true a3
    clear a3
    go_wp2_with fail
    refine wp_loop_rounds 7 ?_
    repeat' (rw [rounds_succ]; go_wp2_with fail)
    go_ret
    exact ⟨rfl, hok⟩
  have ea3 : decide (1152921504606846976 < u.lo) = false := decide_eq_false a3
  by_cases b3 : u.lo < -1152921504606846976
  · have eb3 : decide (u.lo < -1152921504606846976) = true := decide_eq_true b3
    clear b3
    go_wp2_with fail
    refine wp_loop_rounds 7 ?_
    repeat' (rw [rounds_succ]; go_wp2_with fail)
    go_ret
    exact ⟨rfl, hok⟩
  have eb3 : decide (u.lo < -1152921504606846976) = false := decide_eq_false b3
  by_cases a4 : 1152921504606846976 < u.hi
  · have ea4 : decide (1152921504606846976 < u.hi) = true := decide_eq_true a4
    clear a4
    go_wp2_with fail
    refine wp_loop_rounds 7 ?_
    repeat' (rw [rounds_succ]; go_wp2_with fail)
    go_ret
    exact ⟨rfl, hok⟩
  have ea4 : decide (1152921504606846976 < u.hi) = false := decide_eq_false a4
  by_cases b4 : u.hi < -1152921504606846976
  · have eb4 : decide (u.hi < -1152921504606846976) = true := decide_eq_true b4
    clear b4
    go_wp2_with fail
    refine wp_loop_rounds 7 ?_
    repeat' (rw [rounds_succ]; go_wp2_with fail)
    go_ret
    exact ⟨rfl, hok⟩
  have eb4 : decide (u.hi < -1152921504606846976) = false := decide_eq_false b4
  by_cases a5 : 1152921504606846976 < x1
  · have ea5 : decide (1152921504606846976 < x1) = true := decide_eq_true a5
    clear a5
    go_wp2_with fail
    refine wp_loop_rounds 7 ?_
    repeat' (rw [rounds_succ]; go_wp2_with fail)
    go_ret
    exact ⟨rfl, hok⟩
  have ea5 : decide (1152921504606846976 < x1) = false := decide_eq_false a5
  by_cases b5 : x1 < -1152921504606846976
  · have eb5 : decide (x1 < -1152921504606846976) = true := decide_eq_true b5
    clear b5
    go_wp2_with fail
    refine wp_loop_rounds 7 ?_
    repeat' (rw [rounds_succ]; go_wp2_with fail)
    go_ret
    exact ⟨rfl, hok⟩
  have eb5 : decide (x1 < -1152921504606846976) = false := decide_eq_false b5
  go_wp2_with fail
  refine wp_loop_rounds 7 ?_
  iterate 6 (rw [rounds_succ]; go_wp2_with fail)
  rw [rounds_succ]
  go_upto_region 11 with fail
  clear s2 s8 hSl y0 y1 hUl x0 hXl n0 n1 n2 n3 n4 n5 ea0 eb0 ea1 eb1 ea2 eb2 ea3 eb3 ea4 eb4 ea5 eb5
  obtain ⟨t, ht⟩ : ∃ t, Health.step p s ticks u = t := ⟨_, rfl⟩
  obtain ⟨g1, g2, g3, g4, g5⟩ := Health.rises HM.out (s := s) (next := u) (ticks := ticks) ⟨by omega, by omega⟩ ⟨by omega, by omega⟩ ⟨by omega, by omega⟩ ⟨by omega, by omega⟩ HR.out (by omega) ⟨by omega, by omega⟩
  rw [show Health.lives p s ticks u = t.life by rw [← ht]; rfl] at g1 g2 g3
  rw [show Health.clock p s ticks u = t.time by rw [← ht]; rfl] at g2 g4 g5
  rw [show Health.mark p s ticks u = (t.st, t.sn) by rw [← ht]; rfl] at g3 g4 g5
  obtain ⟨⟨k1, k2⟩, hk⟩ : ∃ r, Hlc.tick (t.st, t.sn) t.time = r := ⟨_, rfl⟩
  rw [hk] at g4 g5
  obtain ⟨q, hq⟩ : ∃ q, Health.stamped t = q := ⟨_, rfl⟩
  have hq1 : q.st = k1 := by rw [← hq]; unfold Health.stamped; rw [hk]
  have hq2 : q.sn = k2 := by rw [← hq]; unfold Health.stamped; rw [hk]
  have hqt : q.time = t.time := by rw [← hq]; rfl
  obtain ⟨z, hz⟩ : ∃ z, Health.listen p q (x1, x2) = z := ⟨_, rfl⟩
  have hzz : (Hlc.hear (k1, k2) t.time (x1, x2) (Health.most p q)).1 = (z.st, z.sn) := by rw [← hz]; unfold Health.listen; rw [hq1, hq2, hqt]
  have g6 := g5 (x1, x2) (Health.most p q) (by show x1 ≤ _; omega)
  rw [hzz] at g6
  have KFS := Lib.hid fun w g h hC => F.frontStep g p s A cap ticks u C cup w h hC HHL.out
  rw [ht] at KFS
  have KFT := Lib.hid fun w g A c h => F.frontStamp g p t A c w h
  rw [hk, hq] at KFT
  have KFL := Lib.hid fun w g A c h => F.frontListen g p q A c (x1, x2) w h
  rw [hz] at KFL
  have KL1 := Lib.hid fun w => ref20Less (s.st, s.sn) (t.st, t.sn) w
  have KL2 := Lib.hid fun w => ref20Less (t.st, t.sn) (k1, k2) w
  have KL3 := Lib.hid fun w => ref20Less (k1, k2) (z.st, z.sn) w
  rw [g4] at KL2
  rw [g6] at KL3
  have HG1 := Lib.hid g1
  have HG2 := Lib.hid g2
  have HG3 := Lib.hid g3
  have hk1 : IntKind.i64.wrap (s.life + 1) = s.life + 1 := IntWalk.i64_in _ ⟨by omega, by omega⟩
  clear g1 g2 g3 g4 g5 g6 ht hk hq hq1 hq2 hqt hz hzz
  obtain ⟨s0, s1, s2, s3, s4, s5, s6, s7, s8, s9, s10⟩ := hS.sta; have hSl := hS.lt
  obtain ⟨c0, c1, c2, c3, c4, c5, c6, c7, c8, c9, c10, c11⟩ := hP.pars; have hPl := hP.lt
  go_upto_region 12 with fail
  clear s0 s1 s2 s3 s4 s5 s6 s7 s8 s9 s10 hSl
  clear c0 c1 c2 c3 c4 c5 c6 c7 c8 c9 c10 c11 hPl
  clear hP
  generalize hWW : wc = W2 at hS hU hX hok ⊢
  clear hWW
  change Code.wp _ _ _ _ (W2.alloc (.cells (frontCells p s A cap) 39))
  have hXK := hX.lt
  have hwK := hok.size
  have hF := Own.new W2 (frontCells p s A cap) 39 rfl
  replace hS := hS.alloc (.cells (frontCells p s A cap) 39)
  replace hU := hU.alloc (.cells (frontCells p s A cap) 39)
  replace hX := hX.alloc (.cells (frontCells p s A cap) 39)
  replace hok := hok.alloc (.cells (frontCells p s A cap) 39)
  generalize W2.alloc (.cells (frontCells p s A cap) 39) = W5 at hS hU hX hok hF ⊢
  generalize W2.heap.size = K at hF hXK hwK ⊢
  have hPC := HC.out.below hok
  have hHK : H ≠ K := by omega
  have hXKe : X ≠ K := by omega
  obtain ⟨y0, y1, y2, y3, y4, y5, y6, y7, y8, y9, y10⟩ := hU.sta; have hUl := hU.lt
  go_upto_region 13 with (go_at_call 18; refine (KFS.out _ _ hF hPC).mono ?_; rintro e w6 ⟨rfl, A2, d2, hF6, -, hO⟩; clear y0 y1 y2 y3 y4 y5 y6 y7 y8 y9 y10 hUl; clear hF hPC; replace hS := hO.own hS hHK; replace hX := hO.own hX hXKe; replace hok := hO.then_ok hok hwK; clear hO; have hF := hF6; clear hF6)
  clear hU
  go_cut [114] from 76 to 114 (fun v wx => v = .bool false ∧ Own wx H (staCells s A cap) ∧ Own wx X #[.int .i64 x1, .int .i64 x2] ∧ Own wx K (frontCells p t A2 d2) ∧ Ok w wx)
  case first =>
    have s2 := hS.cell 2 (v := .int .i64 s.time) rfl
    have s10 := hS.cell 10 (v := .int .i64 s.life) rfl
    have hSl := hS.lt
    have q2 := hF.cell 14 (v := .int .i64 t.time) rfl
    have q10 := hF.cell 22 (v := .int .i64 t.life) rfl
    have hFl := hF.lt
    by_cases hA : t.life = s.life
    · have e1 : (t.life != s.life) = false := by rw [hA]; simp
      have e2 : decide (t.time < s.time) = false := decide_eq_false fun h => by have := HG2.out h; omega
      clear hA
      go_quiet (fail)
      go_wp2_with fail
      go_meet
      exact ⟨rfl, hS.drewN _, hX.drewN _, hF.drewN _, hok.drewN _⟩
    · have e1 : (t.life != s.life) = true := bne_iff_ne.2 hA
      have e3 : (t.life != s.life + 1) = false := by rw [HG1.out.resolve_left hA]; simp
      have e4 : (t.life == s.life) = false := beq_eq_false_iff_ne.2 hA
      clear hA
      by_cases hB : t.time < s.time
      · have e2 : decide (t.time < s.time) = true := decide_eq_true hB
        clear hB
        go_quiet (fail)
        go_wp2_with fail
        go_meet
        exact ⟨rfl, hS.drewN _, hX.drewN _, hF.drewN _, hok.drewN _⟩
      · have e2 : decide (t.time < s.time) = false := decide_eq_false hB
        clear hB
        go_quiet (fail)
        go_wp2_with fail
        go_meet
        exact ⟨rfl, hS.drewN _, hX.drewN _, hF.drewN _, hok.drewN _⟩
  case rest =>
  clear hS hX hF hok
  obtain ⟨rfl, hS, hX, hF, hok⟩ := hcut
  go_upto_region 15 with fail
  generalize hWW : wc = WA at hS hX hF hok ⊢
  clear hWW
  go_cut [133] from 115 to 133 (fun v wx => v = .bool false ∧ Own wx X #[.int .i64 x1, .int .i64 x2] ∧ Own wx K (frontCells p t A2 d2) ∧ Ok w wx)
  case first =>
    have HS := Lib.hid fun W' (k : Ok WA.drew W') => hS.drew.next k
    have HX := Lib.hid fun W' (k : Ok WA.drew W') => hX.drew.next k
    have HF := Lib.hid fun W' (k : Ok WA.drew W') => hF.drew.next k
    have HOK := Lib.hid hok
    clear hS hX hF hok
    by_cases hA : t.life = s.life
    · have HEQ := Lib.hid (show (t.life == s.life) = true from beq_iff_eq.2 hA)
      rw [HG3.out hA] at KL1
      clear hA
      refine wp_region_facts (by kernel_rfl) 159 rfl (VCA H K s t) Ok (by kernel_rfl) (fun i v w w' h k w'' k' => h w'' (k.trans k')) (fun a b c => Ok.trans) (Ok.refl _) [some 115, some 116, some 117, some 118, some 119, some 120, some 121, some 122, some 123, some 124, some 125, some 126, some 127, some 128, some 129, some 130, some 131, some 132, some 133] rfl 19 rfl ⟨?_, ?_, ?_, ?_, ?_, ?_, ?_, ?_, ?_, ?_, ?_, ?_, ?_, ?_, ?_, ?_, ?_, ?_, ?_, trivial⟩ ?_
      · intro a' w' hF hR
        have e13 : a'.tmps[13]? = some (.pointer (some ⟨K, 0, none⟩)) := hF.slot 13 (by kernel_rfl) rfl
        refine wpOp_run (v := .pointer (some ⟨K, 0, none⟩)) rfl rfl ?_ (fun _ _ => rfl) (Ok.refl _)
        clear hF
        go_simp
      · intro a' w' hF hR
        obtain ⟨v0, hv0, e115⟩ := hF.get 0 115 (by kernel_rfl) (by kernel_rfl)
        obtain rfl : v0 = _ := hv0 _ (Ok.refl _)
        refine wpOp_run (v := .pointer (some ⟨K, 0, none⟩)) rfl rfl ?_ (fun _ _ => rfl) (Ok.refl _)
        clear hF
        go_simp
      · intro a' w' hF hR
        obtain ⟨v1, hv1, e116⟩ := hF.get 1 116 (by kernel_rfl) (by kernel_rfl)
        obtain rfl : v1 = _ := hv1 _ (Ok.refl _)
        refine wpOp_run (v := .pointer (some ⟨K, 12, none⟩)) rfl rfl ?_ (fun _ _ => rfl) (Ok.refl _)
        clear hF
        go_simp
      · intro a' w' hF hR
        obtain ⟨v2, hv2, e117⟩ := hF.get 2 117 (by kernel_rfl) (by kernel_rfl)
        obtain rfl : v2 = _ := hv2 _ (Ok.refl _)
        refine wpOp_run (v := .pointer (some ⟨K, 22, none⟩)) rfl rfl ?_ (fun _ _ => rfl) (Ok.refl _)
        clear hF
        go_simp
      · intro a' w' hF hR
        obtain ⟨v3, hv3, e118⟩ := hF.get 3 118 (by kernel_rfl) (by kernel_rfl)
        obtain rfl : v3 = _ := hv3 _ (Ok.refl _)
        obtain ⟨y0, y1, y2, y3, y4, y5, y6, y7, y8, y9, y10⟩ := (HF.out _ hR).frS
        have hFl := (HF.out _ hR).lt
        refine wpOp_run (v := .int .i64 t.life) rfl rfl ?_ (fun _ _ => rfl) (Ok.refl _)
        clear hF
        go_simp
      · intro a' w' hF hR
        have e6 : a'.tmps[6]? = some (.pointer (some ⟨H, 0, none⟩)) := hF.slot 6 (by kernel_rfl) rfl
        refine wpOp_run (v := .pointer (some ⟨H, 10, none⟩)) rfl rfl ?_ (fun _ _ => rfl) (Ok.refl _)
        clear hF
        go_simp
      · intro a' w' hF hR
        obtain ⟨v5, hv5, e120⟩ := hF.get 5 120 (by kernel_rfl) (by kernel_rfl)
        obtain rfl : v5 = _ := hv5 _ (Ok.refl _)
        obtain ⟨s0, s1, s2, s3, s4, s5, s6, s7, s8, s9, s10⟩ := (HS.out _ hR).sta
        have hSl := (HS.out _ hR).lt
        refine wpOp_run (v := .int .i64 s.life) rfl rfl ?_ (fun _ _ => rfl) (Ok.refl _)
        clear hF
        go_simp
      · intro a' w' hF hR
        obtain ⟨v4, hv4, e119⟩ := hF.get 4 119 (by kernel_rfl) (by kernel_rfl)
        obtain rfl : v4 = _ := hv4 _ (Ok.refl _)
        obtain ⟨v6, hv6, e121⟩ := hF.get 6 121 (by kernel_rfl) (by kernel_rfl)
        obtain rfl : v6 = _ := hv6 _ (Ok.refl _)
        have he := HEQ.out
        refine wpOp_run (v := .bool true) rfl rfl ?_ (fun _ _ => rfl) (Ok.refl _)
        clear hF
        go_simp
      · intro a' w' hF hR
        obtain ⟨v7, hv7, e122⟩ := hF.get 7 122 (by kernel_rfl) (by kernel_rfl)
        obtain rfl : v7 = _ := hv7 _ (Ok.refl _)
        refine wpOp_run (v := .bool true) rfl rfl ?_ (fun _ _ => rfl) (Ok.refl _)
        clear hF
        go_simp
      · intro a' w' hF hR
        have e6 : a'.tmps[6]? = some (.pointer (some ⟨H, 0, none⟩)) := hF.slot 6 (by kernel_rfl) rfl
        obtain ⟨vg, hvg, eg⟩ := hF.get 8 123 (by kernel_rfl) (by kernel_rfl)
        obtain rfl : vg = _ := hvg _ (Ok.refl _)
        refine wpOp_runG (v := .pointer (some ⟨H, 8, none⟩)) rfl (wanted_yes rfl (by kernel_rfl) eg) ?_ (fun _ _ => rfl) (Ok.refl _)
        clear hF
        go_simp
      · intro a' w' hF hR
        obtain ⟨v9, hv9, e124⟩ := hF.get 9 124 (by kernel_rfl) (by kernel_rfl)
        obtain rfl : v9 = _ := hv9 _ (Ok.refl _)
        obtain ⟨vg, hvg, eg⟩ := hF.get 8 123 (by kernel_rfl) (by kernel_rfl)
        obtain rfl : vg = _ := hvg _ (Ok.refl _)
        obtain ⟨s0, s1, s2, s3, s4, s5, s6, s7, s8, s9, s10⟩ := (HS.out _ hR).sta
        have hSl := (HS.out _ hR).lt
        refine wpOp_runG (v := .agg #[.int .i64 s.st, .int .i64 s.sn]) rfl (wanted_yes rfl (by kernel_rfl) eg) ?_ (fun _ _ => rfl) (Ok.refl _)
        clear hF
        go_simp
      · intro a' w' hF hR
        have e13 : a'.tmps[13]? = some (.pointer (some ⟨K, 0, none⟩)) := hF.slot 13 (by kernel_rfl) rfl
        obtain ⟨vg, hvg, eg⟩ := hF.get 8 123 (by kernel_rfl) (by kernel_rfl)
        obtain rfl : vg = _ := hvg _ (Ok.refl _)
        refine wpOp_runG (v := .pointer (some ⟨K, 0, none⟩)) rfl (wanted_yes rfl (by kernel_rfl) eg) ?_ (fun _ _ => rfl) (Ok.refl _)
        clear hF
        go_simp
      · intro a' w' hF hR
        obtain ⟨v11, hv11, e126⟩ := hF.get 11 126 (by kernel_rfl) (by kernel_rfl)
        obtain rfl : v11 = _ := hv11 _ (Ok.refl _)
        obtain ⟨vg, hvg, eg⟩ := hF.get 8 123 (by kernel_rfl) (by kernel_rfl)
        obtain rfl : vg = _ := hvg _ (Ok.refl _)
        refine wpOp_runG (v := .pointer (some ⟨K, 0, none⟩)) rfl (wanted_yes rfl (by kernel_rfl) eg) ?_ (fun _ _ => rfl) (Ok.refl _)
        clear hF
        go_simp
      · intro a' w' hF hR
        obtain ⟨v12, hv12, e127⟩ := hF.get 12 127 (by kernel_rfl) (by kernel_rfl)
        obtain rfl : v12 = _ := hv12 _ (Ok.refl _)
        obtain ⟨vg, hvg, eg⟩ := hF.get 8 123 (by kernel_rfl) (by kernel_rfl)
        obtain rfl : vg = _ := hvg _ (Ok.refl _)
        refine wpOp_runG (v := .pointer (some ⟨K, 12, none⟩)) rfl (wanted_yes rfl (by kernel_rfl) eg) ?_ (fun _ _ => rfl) (Ok.refl _)
        clear hF
        go_simp
      · intro a' w' hF hR
        obtain ⟨v13, hv13, e128⟩ := hF.get 13 128 (by kernel_rfl) (by kernel_rfl)
        obtain rfl : v13 = _ := hv13 _ (Ok.refl _)
        obtain ⟨vg, hvg, eg⟩ := hF.get 8 123 (by kernel_rfl) (by kernel_rfl)
        obtain rfl : vg = _ := hvg _ (Ok.refl _)
        refine wpOp_runG (v := .pointer (some ⟨K, 20, none⟩)) rfl (wanted_yes rfl (by kernel_rfl) eg) ?_ (fun _ _ => rfl) (Ok.refl _)
        clear hF
        go_simp
      · intro a' w' hF hR
        obtain ⟨v14, hv14, e129⟩ := hF.get 14 129 (by kernel_rfl) (by kernel_rfl)
        obtain rfl : v14 = _ := hv14 _ (Ok.refl _)
        obtain ⟨vg, hvg, eg⟩ := hF.get 8 123 (by kernel_rfl) (by kernel_rfl)
        obtain rfl : vg = _ := hvg _ (Ok.refl _)
        obtain ⟨y0, y1, y2, y3, y4, y5, y6, y7, y8, y9, y10⟩ := (HF.out _ hR).frS
        have hFl := (HF.out _ hR).lt
        refine wpOp_runG (v := .agg #[.int .i64 t.st, .int .i64 t.sn]) rfl (wanted_yes rfl (by kernel_rfl) eg) ?_ (fun _ _ => rfl) (Ok.refl _)
        clear hF
        go_simp
      · intro a' w' hF hR
        obtain ⟨v10, hv10, e125⟩ := hF.get 10 125 (by kernel_rfl) (by kernel_rfl)
        obtain rfl : v10 = _ := hv10 _ (Ok.refl _)
        obtain ⟨v15, hv15, e130⟩ := hF.get 15 130 (by kernel_rfl) (by kernel_rfl)
        obtain rfl : v15 = _ := hv15 _ (Ok.refl _)
        obtain ⟨vg, hvg, eg⟩ := hF.get 8 123 (by kernel_rfl) (by kernel_rfl)
        obtain rfl : vg = _ := hvg _ (Ok.refl _)
        refine wpOp_callG (f := 26) (args := #[.agg #[.int .i64 s.st, .int .i64 s.sn], .agg #[.int .i64 t.st, .int .i64 t.sn]]) rfl (wanted_yes rfl (by kernel_rfl) eg) ?_ ((KL1.out _).mono ?_)
        · go_simp
        · rintro e w2 ⟨rfl, hb2⟩; exact ⟨_, rfl, fun _ _ => rfl, hb2⟩
      · intro a' w' hF hR
        obtain ⟨v16, hv16, e131⟩ := hF.get 16 131 (by kernel_rfl) (by kernel_rfl)
        obtain rfl : v16 = _ := hv16 _ (Ok.refl _)
        obtain ⟨vg, hvg, eg⟩ := hF.get 8 123 (by kernel_rfl) (by kernel_rfl)
        obtain rfl : vg = _ := hvg _ (Ok.refl _)
        refine wpOp_runG (v := .bool false) rfl (wanted_yes rfl (by kernel_rfl) eg) ?_ (fun _ _ => rfl) (Ok.refl _)
        clear hF
        go_simp
      · intro a' w' hF hR
        obtain ⟨v8, hv8, e123⟩ := hF.get 8 123 (by kernel_rfl) (by kernel_rfl)
        obtain rfl : v8 = _ := hv8 _ (Ok.refl _)
        obtain ⟨v17, hv17, e132⟩ := hF.get 17 132 (by kernel_rfl) (by kernel_rfl)
        obtain rfl : v17 = _ := hv17 _ (Ok.refl _)
        refine wpOp_run (v := .bool false) rfl rfl ?_ (fun _ _ => rfl) (Ok.refl _)
        clear hF
        go_simp
      intro vs w8 hV hR
      have eL : vs 18 = .bool false := hV 18 (by decide) _ (Ok.refl _)
      have hok := HOK.out.trans ((Ok.refl WA).drew.trans hR)
      have hX := HX.out _ hR
      have hF := HF.out _ hR
      clear hV HS HX HF HOK
      simp only [putFrom, eL]
      simp only [Act.put, List.setIfInBounds_toArray, List.set_cons_zero, List.set_cons_succ]
      go_wp2_with fail
      go_meet
      exact ⟨rfl, hX, hF, hok⟩
    · have HEQ := Lib.hid (show (t.life == s.life) = false from beq_eq_false_iff_ne.2 hA)
      clear hA
      refine wp_region_facts (by kernel_rfl) 159 rfl (VCB H K s t) Ok (by kernel_rfl) (fun i v w w' h k w'' k' => h w'' (k.trans k')) (fun a b c => Ok.trans) (Ok.refl _) [some 115, some 116, some 117, some 118, some 119, some 120, some 121, some 122, some 123, some 124, some 125, some 126, some 127, some 128, some 129, some 130, some 131, some 132, some 133] rfl 19 rfl ⟨?_, ?_, ?_, ?_, ?_, ?_, ?_, ?_, ?_, ?_, ?_, ?_, ?_, ?_, ?_, ?_, ?_, ?_, ?_, trivial⟩ ?_
      · intro a' w' hF hR
        have e13 : a'.tmps[13]? = some (.pointer (some ⟨K, 0, none⟩)) := hF.slot 13 (by kernel_rfl) rfl
        refine wpOp_run (v := .pointer (some ⟨K, 0, none⟩)) rfl rfl ?_ (fun _ _ => rfl) (Ok.refl _)
        clear hF
        go_simp
      · intro a' w' hF hR
        obtain ⟨v0, hv0, e115⟩ := hF.get 0 115 (by kernel_rfl) (by kernel_rfl)
        obtain rfl : v0 = _ := hv0 _ (Ok.refl _)
        refine wpOp_run (v := .pointer (some ⟨K, 0, none⟩)) rfl rfl ?_ (fun _ _ => rfl) (Ok.refl _)
        clear hF
        go_simp
      · intro a' w' hF hR
        obtain ⟨v1, hv1, e116⟩ := hF.get 1 116 (by kernel_rfl) (by kernel_rfl)
        obtain rfl : v1 = _ := hv1 _ (Ok.refl _)
        refine wpOp_run (v := .pointer (some ⟨K, 12, none⟩)) rfl rfl ?_ (fun _ _ => rfl) (Ok.refl _)
        clear hF
        go_simp
      · intro a' w' hF hR
        obtain ⟨v2, hv2, e117⟩ := hF.get 2 117 (by kernel_rfl) (by kernel_rfl)
        obtain rfl : v2 = _ := hv2 _ (Ok.refl _)
        refine wpOp_run (v := .pointer (some ⟨K, 22, none⟩)) rfl rfl ?_ (fun _ _ => rfl) (Ok.refl _)
        clear hF
        go_simp
      · intro a' w' hF hR
        obtain ⟨v3, hv3, e118⟩ := hF.get 3 118 (by kernel_rfl) (by kernel_rfl)
        obtain rfl : v3 = _ := hv3 _ (Ok.refl _)
        obtain ⟨y0, y1, y2, y3, y4, y5, y6, y7, y8, y9, y10⟩ := (HF.out _ hR).frS
        have hFl := (HF.out _ hR).lt
        refine wpOp_run (v := .int .i64 t.life) rfl rfl ?_ (fun _ _ => rfl) (Ok.refl _)
        clear hF
        go_simp
      · intro a' w' hF hR
        have e6 : a'.tmps[6]? = some (.pointer (some ⟨H, 0, none⟩)) := hF.slot 6 (by kernel_rfl) rfl
        refine wpOp_run (v := .pointer (some ⟨H, 10, none⟩)) rfl rfl ?_ (fun _ _ => rfl) (Ok.refl _)
        clear hF
        go_simp
      · intro a' w' hF hR
        obtain ⟨v5, hv5, e120⟩ := hF.get 5 120 (by kernel_rfl) (by kernel_rfl)
        obtain rfl : v5 = _ := hv5 _ (Ok.refl _)
        obtain ⟨s0, s1, s2, s3, s4, s5, s6, s7, s8, s9, s10⟩ := (HS.out _ hR).sta
        have hSl := (HS.out _ hR).lt
        refine wpOp_run (v := .int .i64 s.life) rfl rfl ?_ (fun _ _ => rfl) (Ok.refl _)
        clear hF
        go_simp
      · intro a' w' hF hR
        obtain ⟨v4, hv4, e119⟩ := hF.get 4 119 (by kernel_rfl) (by kernel_rfl)
        obtain rfl : v4 = _ := hv4 _ (Ok.refl _)
        obtain ⟨v6, hv6, e121⟩ := hF.get 6 121 (by kernel_rfl) (by kernel_rfl)
        obtain rfl : v6 = _ := hv6 _ (Ok.refl _)
        have he := HEQ.out
        refine wpOp_run (v := .bool false) rfl rfl ?_ (fun _ _ => rfl) (Ok.refl _)
        clear hF
        go_simp
      · intro a' w' hF hR
        obtain ⟨v7, hv7, e122⟩ := hF.get 7 122 (by kernel_rfl) (by kernel_rfl)
        obtain rfl : v7 = _ := hv7 _ (Ok.refl _)
        refine wpOp_run (v := .bool false) rfl rfl ?_ (fun _ _ => rfl) (Ok.refl _)
        clear hF
        go_simp
      · intro a' w' hF hR
        obtain ⟨vg, hvg, eg⟩ := hF.get 8 123 (by kernel_rfl) (by kernel_rfl)
        obtain rfl : vg = _ := hvg _ (Ok.refl _)
        exact wpOp_skip rfl (wanted_not rfl (by kernel_rfl) eg (by simp)) (fun _ _ => rfl) (Ok.refl _)
      · intro a' w' hF hR
        obtain ⟨vg, hvg, eg⟩ := hF.get 8 123 (by kernel_rfl) (by kernel_rfl)
        obtain rfl : vg = _ := hvg _ (Ok.refl _)
        exact wpOp_skip rfl (wanted_not rfl (by kernel_rfl) eg (by simp)) (fun _ _ => rfl) (Ok.refl _)
      · intro a' w' hF hR
        obtain ⟨vg, hvg, eg⟩ := hF.get 8 123 (by kernel_rfl) (by kernel_rfl)
        obtain rfl : vg = _ := hvg _ (Ok.refl _)
        exact wpOp_skip rfl (wanted_not rfl (by kernel_rfl) eg (by simp)) (fun _ _ => rfl) (Ok.refl _)
      · intro a' w' hF hR
        obtain ⟨vg, hvg, eg⟩ := hF.get 8 123 (by kernel_rfl) (by kernel_rfl)
        obtain rfl : vg = _ := hvg _ (Ok.refl _)
        exact wpOp_skip rfl (wanted_not rfl (by kernel_rfl) eg (by simp)) (fun _ _ => rfl) (Ok.refl _)
      · intro a' w' hF hR
        obtain ⟨vg, hvg, eg⟩ := hF.get 8 123 (by kernel_rfl) (by kernel_rfl)
        obtain rfl : vg = _ := hvg _ (Ok.refl _)
        exact wpOp_skip rfl (wanted_not rfl (by kernel_rfl) eg (by simp)) (fun _ _ => rfl) (Ok.refl _)
      · intro a' w' hF hR
        obtain ⟨vg, hvg, eg⟩ := hF.get 8 123 (by kernel_rfl) (by kernel_rfl)
        obtain rfl : vg = _ := hvg _ (Ok.refl _)
        exact wpOp_skip rfl (wanted_not rfl (by kernel_rfl) eg (by simp)) (fun _ _ => rfl) (Ok.refl _)
      · intro a' w' hF hR
        obtain ⟨vg, hvg, eg⟩ := hF.get 8 123 (by kernel_rfl) (by kernel_rfl)
        obtain rfl : vg = _ := hvg _ (Ok.refl _)
        exact wpOp_skip rfl (wanted_not rfl (by kernel_rfl) eg (by simp)) (fun _ _ => rfl) (Ok.refl _)
      · intro a' w' hF hR
        obtain ⟨vg, hvg, eg⟩ := hF.get 8 123 (by kernel_rfl) (by kernel_rfl)
        obtain rfl : vg = _ := hvg _ (Ok.refl _)
        exact wpOp_skip rfl (wanted_not rfl (by kernel_rfl) eg (by simp)) (fun _ _ => rfl) (Ok.refl _)
      · intro a' w' hF hR
        obtain ⟨vg, hvg, eg⟩ := hF.get 8 123 (by kernel_rfl) (by kernel_rfl)
        obtain rfl : vg = _ := hvg _ (Ok.refl _)
        exact wpOp_skip rfl (wanted_not rfl (by kernel_rfl) eg (by simp)) (fun _ _ => rfl) (Ok.refl _)
      · intro a' w' hF hR
        obtain ⟨v8, hv8, e123⟩ := hF.get 8 123 (by kernel_rfl) (by kernel_rfl)
        obtain rfl : v8 = _ := hv8 _ (Ok.refl _)
        obtain ⟨v17, hv17, e132⟩ := hF.get 17 132 (by kernel_rfl) (by kernel_rfl)
        obtain rfl : v17 = _ := hv17 _ (Ok.refl _)
        refine wpOp_run (v := .bool false) rfl rfl ?_ (fun _ _ => rfl) (Ok.refl _)
        clear hF
        go_simp
      intro vs w8 hV hR
      have eL : vs 18 = .bool false := hV 18 (by decide) _ (Ok.refl _)
      have hok := HOK.out.trans ((Ok.refl WA).drew.trans hR)
      have hX := HX.out _ hR
      have hF := HF.out _ hR
      clear hV HS HX HF HOK
      simp only [putFrom, eL]
      simp only [Act.put, List.setIfInBounds_toArray, List.set_cons_zero, List.set_cons_succ]
      go_wp2_with fail
      go_meet
      exact ⟨rfl, hX, hF, hok⟩
  case rest =>
  clear hS hX hF hok
  obtain ⟨rfl, hX, hF, hok⟩ := hcut
  have q8 := hF.cell 20 (v := .int .i64 t.st) rfl
  have q9 := hF.cell 21 (v := .int .i64 t.sn) rfl
  have hFl := hF.lt
  go_upto_region 18 with fail
  clear q8 q9 hFl
  generalize hWW : wc = WD at hX hF hok ⊢
  clear hWW
  change Code.wp _ _ _ _ (WD.alloc (.cells #[.int .i64 t.st, .int .i64 t.sn] 28))
  have hKA := hF.lt
  have hA1 := Own.new WD #[.int .i64 t.st, .int .i64 t.sn] 28 rfl
  replace hX := hX.alloc (.cells #[.int .i64 t.st, .int .i64 t.sn] 28)
  replace hF := hF.alloc (.cells #[.int .i64 t.st, .int .i64 t.sn] 28)
  replace hok := hok.alloc (.cells #[.int .i64 t.st, .int .i64 t.sn] 28)
  generalize WD.alloc (.cells #[.int .i64 t.st, .int .i64 t.sn] 28) = WE at hA1 hX hF hok ⊢
  generalize WD.heap.size = A1 at hA1 hKA ⊢
  have hAK : A1 ≠ K := by omega
  go_upto_region 19 with (go_at_call 20; refine (KFT.out _ _ _ _ hF).mono ?_; rintro e w9 ⟨rfl, hF9, hO⟩; clear hF; replace hA1 := hO.own hA1 hAK; replace hX := hO.own hX hXKe; replace hok := hO.then_ok hok hwK; clear hO; have hF := hF9; clear hF9)
  change Code.wp _ _ _ _ (w9.alloc (.cells #[.int .i64 k1, .int .i64 k2] 28))
  have hKB := hF.lt
  have hB1 := Own.new w9 #[.int .i64 k1, .int .i64 k2] 28 rfl
  replace hX := hX.alloc (.cells #[.int .i64 k1, .int .i64 k2] 28)
  replace hA1 := hA1.alloc (.cells #[.int .i64 k1, .int .i64 k2] 28)
  replace hF := hF.alloc (.cells #[.int .i64 k1, .int .i64 k2] 28)
  replace hok := hok.alloc (.cells #[.int .i64 k1, .int .i64 k2] 28)
  generalize w9.alloc (.cells #[.int .i64 k1, .int .i64 k2] 28) = WG at hA1 hB1 hX hF hok ⊢
  generalize w9.heap.size = B1 at hB1 hKB ⊢
  have hBK : B1 ≠ K := by omega
  have x0 := hX.cell 0 (v := .int .i64 x1) rfl
  have x9 := hX.cell 1 (v := .int .i64 x2) rfl
  have hXl := hX.lt
  go_upto_region 20 with (go_at_call 22; refine (KFL.out _ _ _ _ hF).mono ?_; rintro e w11 ⟨rfl, hF9, hO⟩; clear hF x0 x9 hXl hX; replace hA1 := hO.own hA1 hAK; replace hB1 := hO.own hB1 hBK; replace hok := hO.then_ok hok hwK; clear hO; have hF := hF9; clear hF9)
  have HA1 := Lib.hid fun W' (k : Ok w11.drew W') => hA1.drew.next k
  have HB1 := Lib.hid fun W' (k : Ok w11.drew W') => hB1.drew.next k
  have HF := Lib.hid fun W' (k : Ok w11.drew W') => hF.drew.next k
  have HOK := Lib.hid hok
  clear hA1 hB1 hF hok
  refine wp_region_facts (by kernel_rfl) 159 rfl (VCC A1 B1 K t z k1 k2) Ok (by kernel_rfl) (fun i v w w' h k w'' k' => h w'' (k.trans k')) (fun a b c => Ok.trans) (Ok.refl _) [some 147, some 148, some 149, some 150, some 151, some 152, some 153, some 154, some 155, some 156, some 157, some 158, some 10] rfl 13 rfl ⟨?_, ?_, ?_, ?_, ?_, ?_, ?_, ?_, ?_, ?_, ?_, ?_, ?_, trivial⟩ ?_
  · intro a' w' hF hR
    have e14 : a'.tmps[14]? = some (.pointer (some ⟨A1, 0, none⟩)) := hF.slot 14 (by kernel_rfl) rfl
    have x0 := (HA1.out _ hR).cell 0 (v := .int .i64 t.st) rfl
    have x9 := (HA1.out _ hR).cell 1 (v := .int .i64 t.sn) rfl
    have hXl := (HA1.out _ hR).lt
    refine wpOp_run (v := .agg #[.int .i64 t.st, .int .i64 t.sn]) rfl rfl ?_ (fun _ _ => rfl) (Ok.refl _)
    clear hF
    go_simp
  · intro a' w' hF hR
    have e15 : a'.tmps[15]? = some (.pointer (some ⟨B1, 0, none⟩)) := hF.slot 15 (by kernel_rfl) rfl
    have x0 := (HB1.out _ hR).cell 0 (v := .int .i64 k1) rfl
    have x9 := (HB1.out _ hR).cell 1 (v := .int .i64 k2) rfl
    have hXl := (HB1.out _ hR).lt
    refine wpOp_run (v := .agg #[.int .i64 k1, .int .i64 k2]) rfl rfl ?_ (fun _ _ => rfl) (Ok.refl _)
    clear hF
    go_simp
  · intro a' w' hF hR
    obtain ⟨v0, hv0, e147⟩ := hF.get 0 147 (by kernel_rfl) (by kernel_rfl)
    obtain rfl : v0 = _ := hv0 _ (Ok.refl _)
    obtain ⟨v1, hv1, e148⟩ := hF.get 1 148 (by kernel_rfl) (by kernel_rfl)
    obtain rfl : v1 = _ := hv1 _ (Ok.refl _)
    clear hF
    refine wpOp_call (f := 26) (args := #[.agg #[.int .i64 t.st, .int .i64 t.sn], .agg #[.int .i64 k1, .int .i64 k2]]) rfl rfl ?_ ((KL2.out _).mono ?_)
    · go_simp
    · rintro e w2 ⟨rfl, hb2⟩; exact ⟨_, rfl, fun _ _ => rfl, hb2⟩
  · intro a' w' hF hR
    obtain ⟨v2, hv2, e149⟩ := hF.get 2 149 (by kernel_rfl) (by kernel_rfl)
    obtain rfl : v2 = _ := hv2 _ (Ok.refl _)
    refine wpOp_run (v := .bool true) rfl rfl ?_ (fun _ _ => rfl) (Ok.refl _)
    clear hF
    go_simp
  · intro a' w' hF hR
    have e15 : a'.tmps[15]? = some (.pointer (some ⟨B1, 0, none⟩)) := hF.slot 15 (by kernel_rfl) rfl
    obtain ⟨vg, hvg, eg⟩ := hF.get 3 150 (by kernel_rfl) (by kernel_rfl)
    obtain rfl : vg = _ := hvg _ (Ok.refl _)
    have x0 := (HB1.out _ hR).cell 0 (v := .int .i64 k1) rfl
    have x9 := (HB1.out _ hR).cell 1 (v := .int .i64 k2) rfl
    have hXl := (HB1.out _ hR).lt
    refine wpOp_runG (v := .agg #[.int .i64 k1, .int .i64 k2]) rfl (wanted_yes rfl (by kernel_rfl) eg) ?_ (fun _ _ => rfl) (Ok.refl _)
    clear hF
    go_simp
  · intro a' w' hF hR
    have e13 : a'.tmps[13]? = some (.pointer (some ⟨K, 0, none⟩)) := hF.slot 13 (by kernel_rfl) rfl
    obtain ⟨vg, hvg, eg⟩ := hF.get 3 150 (by kernel_rfl) (by kernel_rfl)
    obtain rfl : vg = _ := hvg _ (Ok.refl _)
    refine wpOp_runG (v := .pointer (some ⟨K, 0, none⟩)) rfl (wanted_yes rfl (by kernel_rfl) eg) ?_ (fun _ _ => rfl) (Ok.refl _)
    clear hF
    go_simp
  · intro a' w' hF hR
    obtain ⟨v5, hv5, e152⟩ := hF.get 5 152 (by kernel_rfl) (by kernel_rfl)
    obtain rfl : v5 = _ := hv5 _ (Ok.refl _)
    obtain ⟨vg, hvg, eg⟩ := hF.get 3 150 (by kernel_rfl) (by kernel_rfl)
    obtain rfl : vg = _ := hvg _ (Ok.refl _)
    refine wpOp_runG (v := .pointer (some ⟨K, 0, none⟩)) rfl (wanted_yes rfl (by kernel_rfl) eg) ?_ (fun _ _ => rfl) (Ok.refl _)
    clear hF
    go_simp
  · intro a' w' hF hR
    obtain ⟨v6, hv6, e153⟩ := hF.get 6 153 (by kernel_rfl) (by kernel_rfl)
    obtain rfl : v6 = _ := hv6 _ (Ok.refl _)
    obtain ⟨vg, hvg, eg⟩ := hF.get 3 150 (by kernel_rfl) (by kernel_rfl)
    obtain rfl : vg = _ := hvg _ (Ok.refl _)
    refine wpOp_runG (v := .pointer (some ⟨K, 12, none⟩)) rfl (wanted_yes rfl (by kernel_rfl) eg) ?_ (fun _ _ => rfl) (Ok.refl _)
    clear hF
    go_simp
  · intro a' w' hF hR
    obtain ⟨v7, hv7, e154⟩ := hF.get 7 154 (by kernel_rfl) (by kernel_rfl)
    obtain rfl : v7 = _ := hv7 _ (Ok.refl _)
    obtain ⟨vg, hvg, eg⟩ := hF.get 3 150 (by kernel_rfl) (by kernel_rfl)
    obtain rfl : vg = _ := hvg _ (Ok.refl _)
    refine wpOp_runG (v := .pointer (some ⟨K, 20, none⟩)) rfl (wanted_yes rfl (by kernel_rfl) eg) ?_ (fun _ _ => rfl) (Ok.refl _)
    clear hF
    go_simp
  · intro a' w' hF hR
    obtain ⟨v8, hv8, e155⟩ := hF.get 8 155 (by kernel_rfl) (by kernel_rfl)
    obtain rfl : v8 = _ := hv8 _ (Ok.refl _)
    obtain ⟨vg, hvg, eg⟩ := hF.get 3 150 (by kernel_rfl) (by kernel_rfl)
    obtain rfl : vg = _ := hvg _ (Ok.refl _)
    obtain ⟨y0, y1, y2, y3, y4, y5, y6, y7, y8, y9, y10⟩ := (HF.out _ hR).frS
    have hFl := (HF.out _ hR).lt
    refine wpOp_runG (v := .agg #[.int .i64 z.st, .int .i64 z.sn]) rfl (wanted_yes rfl (by kernel_rfl) eg) ?_ (fun _ _ => rfl) (Ok.refl _)
    clear hF
    go_simp
  · intro a' w' hF hR
    obtain ⟨v4, hv4, e151⟩ := hF.get 4 151 (by kernel_rfl) (by kernel_rfl)
    obtain rfl : v4 = _ := hv4 _ (Ok.refl _)
    obtain ⟨v9, hv9, e156⟩ := hF.get 9 156 (by kernel_rfl) (by kernel_rfl)
    obtain rfl : v9 = _ := hv9 _ (Ok.refl _)
    obtain ⟨vg, hvg, eg⟩ := hF.get 3 150 (by kernel_rfl) (by kernel_rfl)
    obtain rfl : vg = _ := hvg _ (Ok.refl _)
    refine wpOp_callG (f := 26) (args := #[.agg #[.int .i64 k1, .int .i64 k2], .agg #[.int .i64 z.st, .int .i64 z.sn]]) rfl (wanted_yes rfl (by kernel_rfl) eg) ?_ ((KL3.out _).mono ?_)
    · go_simp
    · rintro e w2 ⟨rfl, hb2⟩; exact ⟨_, rfl, fun _ _ => rfl, hb2⟩
  · intro a' w' hF hR
    obtain ⟨v3, hv3, e150⟩ := hF.get 3 150 (by kernel_rfl) (by kernel_rfl)
    obtain rfl : v3 = _ := hv3 _ (Ok.refl _)
    obtain ⟨v10, hv10, e157⟩ := hF.get 10 157 (by kernel_rfl) (by kernel_rfl)
    obtain rfl : v10 = _ := hv10 _ (Ok.refl _)
    refine wpOp_run (v := .bool true) rfl rfl ?_ (fun _ _ => rfl) (Ok.refl _)
    clear hF
    go_simp
  · intro a' w' hF hR
    obtain ⟨v11, hv11, e158⟩ := hF.get 11 158 (by kernel_rfl) (by kernel_rfl)
    obtain rfl : v11 = _ := hv11 _ (Ok.refl _)
    refine wpOp_run (v := .bool true) rfl rfl ?_ (fun _ _ => rfl) (Ok.refl _)
    clear hF
    go_simp
  intro vs w13 hV hR
  have eL : vs 12 = .bool true := hV 12 (by decide) _ (Ok.refl _)
  have hok := HOK.out.trans ((Ok.refl w11).drew.trans hR)
  clear hV HA1 HB1 HF HOK
  simp only [putFrom, eL]
  simp only [Act.put, List.setIfInBounds_toArray, List.set_cons_zero, List.set_cons_succ]
  go_wp2_with fail
  go_ret
  exact ⟨rfl, hok⟩
theorem walk (w : World) (p : Par) (wp : ParWf p) (s : Sta) (A : Option Addr) (cap : Nat) (hA : PairsAt w A s.table) (hcs : s.table.length ≤ cap) (hms : cap ≤ maxLen) (ws : StaWf s) (ticks : Int) (wticks : (Lit.int .i64 ticks).wf = true) (u : Sta) (C : Option Addr) (cup : Nat) (hC : PairsAt w C u.table) (hcu : u.table.length ≤ cup) (hmu : cup ≤ maxLen) (wu : StaWf u) (x1 x2 : Int) (wx1 : (Lit.int .i64 x1).wf = true) (wx2 : (Lit.int .i64 x2).wf = true) :
    Calls Try.prog 6 #[parV p, staV s A cap, .int .i64 ticks, staV u C cup, .agg #[.int .i64 x1, .int .i64 x2]] w fun e w' => e = .returned (.bool true) ∧ Below w.heap.size w w' :=
  walkF front21 w p s A cap ticks u C cup x1 x2 hC (Nat.le_trans hcu (Nat.le_trans hmu (by decide)))
theorem own : ownKnob Try.prog.godebug = none := by kernel_rfl
theorem laidOut : laidOutB Try.prog = true := by kernel_rfl
set_option maxRecDepth 100000 in
theorem lifted (os : Os) (started : os.Started) (H : Type) (enc : TypeId × Value → H) :
    ReturnsInHanded {} Try.checked os 6 .any (Rows.healthRisesSpec.pre6 enc Try.prog Try.f6 Rows.healthRisesRow.domain false) (Rows.healthRisesSpec.post enc Try.prog Try.f6 false true false false) := by
  refine returnsInHanded_of_change (C := Try.checked) own started (by kernel_rfl) Try.func6
    (ChangeSpec.witness6 (enc := enc) (C := Try.checked) false ⟨#[], #[.agg #[.int .i64 0, .int .i64 0, .int .i64 0, .int .i64 0, .int .i64 0, .int .i64 0, .int .i64 0, .int .i64 0, .int .i64 0, .int .i64 0, .int .i64 0, .int .i64 0], .agg #[.int .i64 0, .int .i64 0, .int .i64 0, .bool false, .int .i64 0, .int .i64 0, .bool false, .slice none 0 0, .int .i64 0, .int .i64 0, .int .i64 0], .int .i64 0, .agg #[.int .i64 0, .int .i64 0, .int .i64 0, .bool false, .int .i64 0, .int .i64 0, .bool false, .slice none 0 0, .int .i64 0, .int .i64 0, .int .i64 0], .agg #[.int .i64 0, .int .i64 0]], []⟩ 8 (by kernel_rfl) (by kernel_rfl) (by kernel_rfl) (by kernel_rfl)) ?_
  intro W base args ds gs before hval0 hW _ _
  have hval : ∀ (j : Nat) t v, Try.f6.params[j]? = some t → args[j]? = some v → Value.okWide Try.prog W .any base t v := hval0
  have hW' := hW
  obtain ⟨p, q, hA, hV, rfl, _, _⟩ := hW
  obtain ⟨rfl, rfl⟩ := trodVars_none hV
  replace hA : DataW.TrodAll enc Try.prog W 0 (fun _ => true) true Try.f6.params.toList args.toList ds p := hA
  rw [Try.params6] at hA hval
  obtain ⟨v0, vs0, d0, ds0, p0, q0, hargs, rfl, rfl, h0, r0⟩ := trodAll_cons hA
  obtain ⟨v1, vs1, d1, ds1, p1, q1, rfl, rfl, rfl, h1, r1⟩ := trodAll_cons r0
  obtain ⟨v2, vs2, d2, ds2, p2, q2, rfl, rfl, rfl, h2, r2⟩ := trodAll_cons r1
  obtain ⟨v3, vs3, d3, ds3, p3, q3, rfl, rfl, rfl, h3, r3⟩ := trodAll_cons r2
  obtain ⟨v4, vs4, d4, ds4, p4, q4, rfl, rfl, rfl, h4, r4⟩ := trodAll_cons r3
  obtain ⟨rfl, rfl, rfl⟩ := trodAll_nil r4
  obtain rfl : args = #[v0, v1, v2, v3, v4] := by cases args; simp_all
  obtain ⟨p0, rfl, wp0⟩ := open_par Try.underlying23 rfl (by kernel_rfl) (by kernel_rfl) (by kernel_rfl) (hval 0 23 v0 rfl rfl) h0
  obtain ⟨s1, A1, c1, rfl, hA1, hc1, hm1, w1⟩ := open_sta (hval 1 30 v1 rfl rfl) h1
  obtain ⟨a2, rfl, rfl, rfl, w2⟩ := open_int Try.underlying3 (hval 2 3 v2 rfl rfl) h2
  obtain ⟨s3, A3, c3, rfl, hA3, hc3, hm3, w3⟩ := open_sta (hval 3 30 v3 rfl rfl) h3
  obtain ⟨s4_0, s4_1, rfl, ws4_0, ws4_1⟩ := open_pair Try.underlying28 (by kernel_rfl) (by kernel_rfl) (by kernel_rfl) (by kernel_rfl) (hval 4 28 v4 rfl rfl) h4
  refine (walk W p0 wp0 s1 A1 c1 hA1 hc1 hm1 w1 a2 w2 s3 A3 c3 hA3 hc3 hm3 w3 s4_0 s4_1 ws4_0 ws4_1).mono fun e W' ⟨he, hb⟩ => ?_
  subst he
  exact ⟨_, rfl, law_post hW' laidOut (by rw [Try.params6]; exact params_ok (by kernel_rfl)) rfl (by kernel_rfl) Try.underlying4 rfl rfl rfl hb⟩
theorem over : Rows.healthRisesRow.holds Try.pinned (OpenSpec.ofChange Rows.healthRisesSpec) :=
  OpenClaim.holds_of_wide 6 Try.f6 rfl rfl rfl rfl rfl rfl rfl ⟨rfl, rfl, rfl, rfl, rfl⟩ rfl rfl rfl rfl rfl (by kernel_rfl) Try.func6 (by kernel_rfl)
    (of_decide_eq_true (by kernel_rfl)) (by unfold Func.isWrapper; first | (rw [if_pos (by decide +kernel)]; kernel_rfl) | (rw [if_neg (by decide +kernel)]; exact ⟨rfl, rfl⟩))
    (fun os started H enc _ => lifted os started H enc)
theorem proved : Rows.HealthRisesSaid := over
end Go.Proofs.Ytlclfonlidcfiaa.healthRises
