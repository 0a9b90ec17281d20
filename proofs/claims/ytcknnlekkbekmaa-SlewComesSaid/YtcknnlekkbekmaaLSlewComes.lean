/- SlewComes: for all numbers the law answers true: a clock that is brought to one time again and again, on a true beat, comes there, and stays. No condition. -/
import Derived.Test.YtcknnlekkbekmaaC12c
import Derived.Test.YtcknnlekkbekmaaW06
namespace Go.Proofs.Ytcknnlekkbekmaa.slewComes
open Go.ChangeShapes Go.WideShapes Go.ChangeAt Go.RowKit
set_option linter.unusedVariables false
set_option maxRecDepth 100000
attribute [local go_sem ↓] Go.wp_at_zero Go.wp_at_succ
open Slew in
/-- So far off at most behind k beats. -/
def Near (mu E : Int) (k : Nat) : Prop := far_ E + (k : Int) * mu ≤ 50 * mu ∨ E = 0
open Slew in
theorem near_bd {mu E : Int} {k : Nat} (hm : 1 ≤ mu) (h : Near mu E k) : -50 * mu ≤ E ∧ E ≤ 50 * mu := by
  have : 0 ≤ (k : Int) * mu := Int.mul_nonneg (Int.natCast_nonneg k) (by omega)
  unfold Near far_ at h
  rcases h with h | h
  · split at h <;> omega
  · omega
open Slew in
theorem near_step {mu E : Int} {k : Nat} (hm : 1 ≤ mu) (h : Near mu E k) : Near mu (E + by_ mu (-E)) (k + 1) ∧ far_ (E + by_ mu (-E)) ≤ far_ E := by
  have hl := by_less (mu := mu) (by omega) E
  have hb := by_between (mu := mu) (by omega) (-E)
  have hk : ((k + 1 : Nat) : Int) * mu = (k : Int) * mu + mu := by rw [Int.natCast_succ, Int.add_mul, Int.one_mul]
  have hf : ∀ x : Int, 0 ≤ far_ x := fun x => by unfold far_; split <;> omega
  have hz : ∀ x : Int, far_ x = 0 → x = 0 := fun x => by unfold far_; split <;> omega
  unfold Near at h ⊢
  rw [hl, hk]
  have h0 := hf E
  by_cases hc : far_ E ≤ mu
  · rw [if_pos hc] at hl ⊢
    exact ⟨Or.inr (hz _ hl), h0⟩
  · rw [if_neg hc] at hl ⊢
    refine ⟨Or.inl ?_, by omega⟩
    rcases h with h | h
    · omega
    · subst h; unfold far_ at hc; simp at hc; omega
open Slew in
theorem near_end {mu E : Int} (hm : 1 ≤ mu) (h : Near mu E 51) : E = 0 := by
  have hf : 0 ≤ far_ E := by unfold far_; split <;> omega
  unfold Near at h
  omega
theorem abs_far {a b : Int} (ha : -2305843009213693952 ≤ a ∧ a ≤ 2305843009213693952) (hb : -2305843009213693952 ≤ b ∧ b ≤ 2305843009213693952) (h : -2305843009213693952 ≤ a - b ∧ a - b ≤ 2305843009213693952) : Sat.abs (Sat.sub a b) = Slew.far_ (a - b) := by
  rw [Lim.sub_in ha hb h]
  unfold Sat.abs Slew.far_
  rw [Sat.clip_in h.1 h.2]
theorem no0 (W0 : World) (p : Par) (now off : Int) (hm : ¬ Lim.May p) : Calls Try.prog 6 #[parV p, .int .i64 now, .int .i64 off] W0 fun e w' => e = .returned (.bool true) ∧ Ok W0 w' := by
  have HP := Lib.hid (Own.new W0 (parCells p) 23 rfl)
  have HK := Lib.hid ((Ok.refl W0).alloc (.cells (parCells p) 23))
  have KC := Lib.hid fun w => limCheck p w
  rw [show Lim.check p = 1 from if_neg hm] at KC
  clear hm
  go_enter Try.func6, Try.ntmps6
  go_wp2_with (first | (go_at_call 8; (with_reducible refine (law12Alive _).mono ?_); rintro e w1 ⟨rfl, hb1⟩; have hP := HP.out.next hb1; have hok := HK.out.trans hb1; clear hb1 HP HK; obtain ⟨c0, c1, c2, c3, c4, c5, c6, c7, c8, c9, c10, c11⟩ := hP.pars; have hPl := hP.lt) | (go_at_call 14; (with_reducible refine (KC.out _).mono ?_); rintro e w2 ⟨rfl, hb1⟩; clear c0 c1 c2 c3 c4 c5 c6 c7 c8 c9 c10 c11 hPl; replace hP := hP.next hb1; replace hok := hok.trans hb1; clear hb1; obtain ⟨c0, c1, c2, c3, c4, c5, c6, c7, c8, c9, c10, c11⟩ := hP.pars; have hPl := hP.lt))
  go_ret
  exact ⟨rfl, hok⟩
theorem no1 (W0 : World) (p : Par) (now off : Int) (hm : Lim.May p) (h0 : 1125899906842624 < now) : Calls Try.prog 6 #[parV p, .int .i64 now, .int .i64 off] W0 fun e w' => e = .returned (.bool true) ∧ Ok W0 w' := by
  have HP := Lib.hid (Own.new W0 (parCells p) 23 rfl)
  have HK := Lib.hid ((Ok.refl W0).alloc (.cells (parCells p) 23))
  have KC := Lib.hid fun w => limCheck p w
  rw [show Lim.check p = 0 from if_pos hm] at KC
  obtain ⟨⟨m1, m2⟩, ⟨m3, m4⟩, m5, m6⟩ := Slew.mu_bds hm
  clear hm
  go_enter Try.func6, Try.ntmps6
  go_wp2_with (first | (go_at_call 8; (with_reducible refine (law12Alive _).mono ?_); rintro e w1 ⟨rfl, hb1⟩; have hP := HP.out.next hb1; have hok := HK.out.trans hb1; clear hb1 HP HK; obtain ⟨c0, c1, c2, c3, c4, c5, c6, c7, c8, c9, c10, c11⟩ := hP.pars; have hPl := hP.lt) | (go_at_call 14; (with_reducible refine (KC.out _).mono ?_); rintro e w2 ⟨rfl, hb1⟩; clear c0 c1 c2 c3 c4 c5 c6 c7 c8 c9 c10 c11 hPl; replace hP := hP.next hb1; replace hok := hok.trans hb1; clear hb1; obtain ⟨c0, c1, c2, c3, c4, c5, c6, c7, c8, c9, c10, c11⟩ := hP.pars; have hPl := hP.lt))
  go_ret
  exact ⟨rfl, hok⟩
theorem no2 (W0 : World) (p : Par) (now off : Int) (hm : Lim.May p) (h0 : now ≤ 1125899906842624) (h1 : now < -1125899906842624) : Calls Try.prog 6 #[parV p, .int .i64 now, .int .i64 off] W0 fun e w' => e = .returned (.bool true) ∧ Ok W0 w' := by
  have HP := Lib.hid (Own.new W0 (parCells p) 23 rfl)
  have HK := Lib.hid ((Ok.refl W0).alloc (.cells (parCells p) 23))
  have KC := Lib.hid fun w => limCheck p w
  rw [show Lim.check p = 0 from if_pos hm] at KC
  obtain ⟨⟨m1, m2⟩, ⟨m3, m4⟩, m5, m6⟩ := Slew.mu_bds hm
  clear hm
  go_enter Try.func6, Try.ntmps6
  go_wp2_with (first | (go_at_call 8; (with_reducible refine (law12Alive _).mono ?_); rintro e w1 ⟨rfl, hb1⟩; have hP := HP.out.next hb1; have hok := HK.out.trans hb1; clear hb1 HP HK; obtain ⟨c0, c1, c2, c3, c4, c5, c6, c7, c8, c9, c10, c11⟩ := hP.pars; have hPl := hP.lt) | (go_at_call 14; (with_reducible refine (KC.out _).mono ?_); rintro e w2 ⟨rfl, hb1⟩; clear c0 c1 c2 c3 c4 c5 c6 c7 c8 c9 c10 c11 hPl; replace hP := hP.next hb1; replace hok := hok.trans hb1; clear hb1; obtain ⟨c0, c1, c2, c3, c4, c5, c6, c7, c8, c9, c10, c11⟩ := hP.pars; have hPl := hP.lt))
  go_ret
  exact ⟨rfl, hok⟩
theorem no3 (W0 : World) (p : Par) (now off : Int) (hm : Lim.May p) (h0 : now ≤ 1125899906842624) (h1 : -1125899906842624 ≤ now) (h2 : 50 * p.mu < off) : Calls Try.prog 6 #[parV p, .int .i64 now, .int .i64 off] W0 fun e w' => e = .returned (.bool true) ∧ Ok W0 w' := by
  have HP := Lib.hid (Own.new W0 (parCells p) 23 rfl)
  have HK := Lib.hid ((Ok.refl W0).alloc (.cells (parCells p) 23))
  have KC := Lib.hid fun w => limCheck p w
  rw [show Lim.check p = 0 from if_pos hm] at KC
  obtain ⟨⟨m1, m2⟩, ⟨m3, m4⟩, m5, m6⟩ := Slew.mu_bds hm
  clear hm
  go_enter Try.func6, Try.ntmps6
  go_wp2_with (first | (go_at_call 8; (with_reducible refine (law12Alive _).mono ?_); rintro e w1 ⟨rfl, hb1⟩; have hP := HP.out.next hb1; have hok := HK.out.trans hb1; clear hb1 HP HK; obtain ⟨c0, c1, c2, c3, c4, c5, c6, c7, c8, c9, c10, c11⟩ := hP.pars; have hPl := hP.lt) | (go_at_call 14; (with_reducible refine (KC.out _).mono ?_); rintro e w2 ⟨rfl, hb1⟩; clear c0 c1 c2 c3 c4 c5 c6 c7 c8 c9 c10 c11 hPl; replace hP := hP.next hb1; replace hok := hok.trans hb1; clear hb1; obtain ⟨c0, c1, c2, c3, c4, c5, c6, c7, c8, c9, c10, c11⟩ := hP.pars; have hPl := hP.lt))
  go_ret
  exact ⟨rfl, hok⟩
theorem no4 (W0 : World) (p : Par) (now off : Int) (hm : Lim.May p) (h0 : now ≤ 1125899906842624) (h1 : -1125899906842624 ≤ now) (h2 : off ≤ 50 * p.mu) (h3 : off < -50 * p.mu) : Calls Try.prog 6 #[parV p, .int .i64 now, .int .i64 off] W0 fun e w' => e = .returned (.bool true) ∧ Ok W0 w' := by
  have HP := Lib.hid (Own.new W0 (parCells p) 23 rfl)
  have HK := Lib.hid ((Ok.refl W0).alloc (.cells (parCells p) 23))
  have KC := Lib.hid fun w => limCheck p w
  rw [show Lim.check p = 0 from if_pos hm] at KC
  obtain ⟨⟨m1, m2⟩, ⟨m3, m4⟩, m5, m6⟩ := Slew.mu_bds hm
  clear hm
  go_enter Try.func6, Try.ntmps6
  go_wp2_with (first | (go_at_call 8; (with_reducible refine (law12Alive _).mono ?_); rintro e w1 ⟨rfl, hb1⟩; have hP := HP.out.next hb1; have hok := HK.out.trans hb1; clear hb1 HP HK; obtain ⟨c0, c1, c2, c3, c4, c5, c6, c7, c8, c9, c10, c11⟩ := hP.pars; have hPl := hP.lt) | (go_at_call 14; (with_reducible refine (KC.out _).mono ?_); rintro e w2 ⟨rfl, hb1⟩; clear c0 c1 c2 c3 c4 c5 c6 c7 c8 c9 c10 c11 hPl; replace hP := hP.next hb1; replace hok := hok.trans hb1; clear hb1; obtain ⟨c0, c1, c2, c3, c4, c5, c6, c7, c8, c9, c10, c11⟩ := hP.pars; have hPl := hP.lt))
  go_ret
  exact ⟨rfl, hok⟩
set_option maxHeartbeats 3200000 in
theorem yes (W0 : World) (p : Par) (now off : Int) (hm : Lim.May p) (h0 : now ≤ 1125899906842624) (h1 : -1125899906842624 ≤ now) (h2 : off ≤ 50 * p.mu) (h3 : -50 * p.mu ≤ off) : Calls Try.prog 6 #[parV p, .int .i64 now, .int .i64 off] W0 fun e w' => e = .returned (.bool true) ∧ Ok W0 w' := by
  have HP := Lib.hid (Own.new W0 (parCells p) 23 rfl)
  have HK := Lib.hid ((Ok.refl W0).alloc (.cells (parCells p) 23))
  have KC := Lib.hid fun w => limCheck p w
  rw [show Lim.check p = 0 from if_pos hm] at KC
  obtain ⟨⟨m1, m2⟩, ⟨m3, m4⟩, m5, m6⟩ := Slew.mu_bds hm
  clear hm
  go_enter Try.func6, Try.ntmps6
  go_wp2_with (first | (go_at_call 8; (with_reducible refine (law12Alive _).mono ?_); rintro e w1 ⟨rfl, hb1⟩; have hP := HP.out.next hb1; have hok := HK.out.trans hb1; clear hb1 HP HK; obtain ⟨c0, c1, c2, c3, c4, c5, c6, c7, c8, c9, c10, c11⟩ := hP.pars; have hPl := hP.lt) | (go_at_call 14; (with_reducible refine (KC.out _).mono ?_); rintro e w2 ⟨rfl, hb1⟩; clear c0 c1 c2 c3 c4 c5 c6 c7 c8 c9 c10 c11 hPl; replace hP := hP.next hb1; replace hok := hok.trans hb1; clear hb1; obtain ⟨c0, c1, c2, c3, c4, c5, c6, c7, c8, c9, c10, c11⟩ := hP.pars; have hPl := hP.lt))
  have hC0 := Own.new w2 #[.int .i64 (now + off), .bool true] 25 rfl
  have hP0 := hP.alloc (.cells #[.int .i64 (now + off), .bool true] 25)
  have hok0 := hok.alloc (.cells #[.int .i64 (now + off), .bool true] 25)
  clear c0 c1 c2 c3 c4 c5 c6 c7 c8 c9 c10 c11 KC
  have hg := hok.size
  clear hP hok
  obtain ⟨g, hge⟩ : ∃ g, w2.heap.size = g := ⟨_, rfl⟩
  obtain ⟨B, hBe⟩ : ∃ g, W0.heap.size = g := ⟨_, rfl⟩
  rw [hge] at hC0 hg hPl ⊢
  rw [hBe] at hP0 hPl ⊢
  generalize w2.alloc (.cells #[.int .i64 (now + off), .bool true] 25) = W2 at hC0 hP0 hok0 ⊢
  clear hge hBe
  go_loopw [1, 8] (fun n i wr => ∃ (k : Nat) (Nw E : Int), k ≤ 51 ∧ i = .int .i64 k ∧ n = .int .i64 Nw ∧ (-1125899906842624 ≤ Nw ∧ Nw ≤ 1125899906842624 + (k : Int) * 1099511627776) ∧ Near p.mu E k ∧ Own wr g #[.int .i64 (Nw + E), .bool true] ∧ Own wr B (parCells p) ∧ Ok W0 wr) (fun _ i _ => 51 - (intOf i).toNat)
  case atStart => exact ⟨0, now, off, by omega, rfl, rfl, ⟨by omega, by omega⟩, Or.inl (by unfold Slew.far_; split <;> omega), hC0, hP0, hok0⟩
  case round =>
    obtain ⟨k, Nw, E, hk, rfl, rfl, hN, hE, hC, hP, hok⟩ := hrel
    clear hC0 hP0 hok0
    by_cases hlt : k < 51
    · have hb := near_bd m5 hE
      have hs := near_step m5 hE
      clear hE
      obtain ⟨e, he⟩ : ∃ e, E + Slew.by_ p.mu (-E) = e := ⟨_, rfl⟩
      rw [he] at hs
      have hb2 := near_bd m5 hs.1
      have KS := Lib.hid fun w => slewStep p (Nw + E) p.beat (Nw + p.beat) w
      rw [Slew.step_in (p := p) (time := Nw + E) (ticks := p.beat) (to := Nw + p.beat) ⟨by omega, by omega⟩ ⟨by omega, by omega⟩ ⟨by omega, by omega⟩ ⟨by omega, by omega⟩, show Nw + p.beat - (Nw + E + p.beat) = -E by omega, show Nw + E + p.beat + Slew.by_ p.mu (-E) = Nw + p.beat + e by omega] at KS
      clear he
      have KO1 := Lib.hid fun w => slewOff (Nw + E) true Nw w
      have KO2 := Lib.hid fun w => slewOff (Nw + E) true (Nw + p.beat - p.beat) w
      have KO3 := Lib.hid fun w => slewOff (Nw + p.beat + e) true (Nw + p.beat) w
      rw [show Nw + p.beat - p.beat = Nw by omega] at KO2
      rw [abs_far ⟨by omega, by omega⟩ ⟨by omega, by omega⟩ ⟨by omega, by omega⟩, show Nw + E - Nw = E by omega] at KO1 KO2
      rw [abs_far ⟨by omega, by omega⟩ ⟨by omega, by omega⟩ ⟨by omega, by omega⟩, show Nw + p.beat + e - (Nw + p.beat) = e by omega] at KO3
      have hS := Lib.hid hs.1
      replace hs := hs.2
      generalize Slew.far_ E = q1 at KO1 KO2 hs
      generalize Slew.far_ e = q2 at KO3 hs
      obtain ⟨c0, c1, c2, c3, c4, c5, c6, c7, c8, c9, c10, c11⟩ := hP.pars; have d0 := hC.cell 0 rfl; have d1 := hC.cell 1 rfl; have f0 := hC.frozen 0; have f1 := hC.frozen 1; have hCl := hC.lt; have hPl := hP.lt
      go_wp2_with (first | (go_at_call 13; first | ((with_reducible refine (KO1.out _).mono ?_); rintro e w3 ⟨rfl, hb1⟩; clear c0 c1 c2 c3 c4 c5 c6 c7 c8 c9 c10 c11 d0 d1 f0 f1 hCl hPl; replace hP := hP.next hb1; replace hC := hC.next hb1; replace hok := hok.trans hb1; clear hb1; obtain ⟨c0, c1, c2, c3, c4, c5, c6, c7, c8, c9, c10, c11⟩ := hP.pars; have d0 := hC.cell 0 rfl; have d1 := hC.cell 1 rfl; have f0 := hC.frozen 0; have f1 := hC.frozen 1; have hCl := hC.lt; have hPl := hP.lt) | ((with_reducible refine (KO2.out _).mono ?_); rintro e w3 ⟨rfl, hb1⟩; clear c0 c1 c2 c3 c4 c5 c6 c7 c8 c9 c10 c11 d0 d1 f0 f1 hCl hPl; replace hP := hP.next hb1; replace hC := hC.next hb1; replace hok := hok.trans hb1; clear hb1; obtain ⟨c0, c1, c2, c3, c4, c5, c6, c7, c8, c9, c10, c11⟩ := hP.pars; have d0 := hC.cell 0 rfl; have d1 := hC.cell 1 rfl; have f0 := hC.frozen 0; have f1 := hC.frozen 1; have hCl := hC.lt; have hPl := hP.lt) | ((with_reducible refine (KO3.out _).mono ?_); rintro e w5 ⟨rfl, hb1⟩; clear d0 d1 f0 f1; replace hC := ((hC.set 0 _).set 1 _).next hb1; replace hP := ((hP.setOther (by show B ≠ g; omega) _).setOther (by show B ≠ g; omega) _).next hb1; replace hok := ((hok.setCell (by show W0.heap.size ≤ g; omega) _).setCell (by show W0.heap.size ≤ g; omega) _).trans hb1; clear hb1)) | (go_at_call 12; (with_reducible refine (KS.out _).mono ?_); rintro e w4 ⟨rfl, hb1⟩; clear c0 c1 c2 c3 c4 c5 c6 c7 c8 c9 c10 c11 d0 d1 f0 f1 hCl hPl; replace hP := hP.next hb1; replace hC := hC.next hb1; replace hok := hok.trans hb1; clear hb1; obtain ⟨c0, c1, c2, c3, c4, c5, c6, c7, c8, c9, c10, c11⟩ := hP.pars; have d0 := hC.cell 0 rfl; have d1 := hC.cell 1 rfl; have f0 := hC.frozen 0; have f1 := hC.frozen 1; have hCl := hC.lt; have hPl := hP.lt))
      go_roundw
      case rel => exact ⟨k + 1, Nw + p.beat, e, by omega, by go_num, rfl, ⟨by omega, by omega⟩, hS.out, by simpa using hC, hP, hok⟩
      case measure => simp [intOf]; omega
    · obtain rfl : k = 51 := by omega
      obtain rfl := near_end m5 hE
      rw [Int.add_zero] at hC
      have d0 := hC.cell 0 rfl
      have hCl := hC.lt
      go_wp2
      go_ret
      exact ⟨rfl, hok⟩
theorem walk (W0 : World) (p : Par) (_wp : ParWf p) (now : Int) (_w0 : (Lit.int .i64 now).wf = true) (off : Int) (_w1 : (Lit.int .i64 off).wf = true) :
    Calls Try.prog 6 #[parV p, .int .i64 now, .int .i64 off] W0 fun e w' => e = .returned (.bool true) ∧ Below W0.heap.size W0 w' := by
  show Calls Try.prog 6 #[parV p, .int .i64 now, .int .i64 off] W0 fun e w' => e = .returned (.bool true) ∧ Ok W0 w' 
  by_cases hm : Lim.May p
  rotate_left
  · exact no0 W0 p now off hm
  by_cases h0 : 1125899906842624 < now
  · exact no1 W0 p now off hm h0
  replace h0 : now ≤ 1125899906842624 := by omega
  by_cases h1 : now < -1125899906842624
  · exact no2 W0 p now off hm h0 h1
  replace h1 : -1125899906842624 ≤ now := by omega
  by_cases h2 : 50 * p.mu < off
  · exact no3 W0 p now off hm h0 h1 h2
  replace h2 : off ≤ 50 * p.mu := by omega
  by_cases h3 : off < -50 * p.mu
  · exact no4 W0 p now off hm h0 h1 h2 h3
  replace h3 : -50 * p.mu ≤ off := by omega
  exact yes W0 p now off hm h0 h1 h2 h3
theorem own : ownKnob Try.prog.godebug = none := by kernel_rfl
theorem laidOut : laidOutB Try.prog = true := by kernel_rfl
set_option maxRecDepth 100000 in
theorem lifted (os : Os) (started : os.Started) (H : Type) (enc : TypeId × Value → H) :
    ReturnsInHanded {} Try.checked os 6 .any (Rows.slewComesSpec.pre6 enc Try.prog Try.f6 Rows.slewComesRow.domain false) (Rows.slewComesSpec.post enc Try.prog Try.f6 false true false false) := by
  refine returnsInHanded_of_change (C := Try.checked) own started (by kernel_rfl) Try.func6
    (ChangeSpec.witness6 (enc := enc) (C := Try.checked) false ⟨#[], #[.agg #[.int .i64 0, .int .i64 0, .int .i64 0, .int .i64 0, .int .i64 0, .int .i64 0, .int .i64 0, .int .i64 0, .int .i64 0, .int .i64 0, .int .i64 0, .int .i64 0], .int .i64 0, .int .i64 0], []⟩ 8 (by kernel_rfl) (by kernel_rfl) (by kernel_rfl) (by kernel_rfl)) ?_
  intro W base args ds gs before hval0 hW _ _
  have hval : ∀ (j : Nat) t v, Try.f6.params[j]? = some t → args[j]? = some v → Value.okWide Try.prog W .any base t v := hval0
  have hW' := hW
  obtain ⟨p, q, hA, hV, rfl, _, _⟩ := hW
  obtain ⟨rfl, rfl⟩ := trodVars_none hV
  replace hA : DataW.TrodAll enc Try.prog W 0 (fun _ => true) true Try.f6.params.toList args.toList ds p := hA
  rw [Try.params6] at hA hval
  obtain ⟨v0, vs0, d0, ds0, p0, q0, hargs, rfl, rfl, h0, r0⟩ := trodAll_cons hA
  obtain ⟨v1, vs1, d1, ds1, p1, q1, rfl, rfl, rfl, h1, r1⟩ := trodAll_cons r0
  obtain ⟨v2, vs2, d2, ds2, p2, q2, rfl, rfl, rfl, h2, r2⟩ := trodAll_cons r1
  obtain ⟨rfl, rfl, rfl⟩ := trodAll_nil r2
  obtain rfl : args = #[v0, v1, v2] := by cases args; simp_all
  obtain ⟨p0, rfl, wp0⟩ := open_par Try.underlying23 rfl (by kernel_rfl) (by kernel_rfl) (by kernel_rfl) (hval 0 23 v0 rfl rfl) h0
  obtain ⟨a1, rfl, rfl, rfl, w1⟩ := open_int Try.underlying3 (hval 1 3 v1 rfl rfl) h1
  obtain ⟨a2, rfl, rfl, rfl, w2⟩ := open_int Try.underlying3 (hval 2 3 v2 rfl rfl) h2
  refine (walk W p0 wp0 a1 w1 a2 w2).mono fun e W' ⟨he, hb⟩ => ?_
  subst he
  exact ⟨_, rfl, law_post hW' laidOut (by rw [Try.params6]; exact params_ok (by kernel_rfl)) rfl (by kernel_rfl) Try.underlying4 rfl rfl rfl hb⟩
theorem over : Rows.slewComesRow.holds Try.pinned (OpenSpec.ofChange Rows.slewComesSpec) :=
  OpenClaim.holds_of_wide 6 Try.f6 rfl rfl rfl rfl rfl rfl rfl ⟨rfl, rfl, rfl, rfl, rfl⟩ rfl rfl rfl rfl rfl (by kernel_rfl) Try.func6 (by kernel_rfl)
    (of_decide_eq_true (by kernel_rfl)) (by unfold Func.isWrapper; first | (rw [if_pos (by decide +kernel)]; kernel_rfl) | (rw [if_neg (by decide +kernel)]; exact ⟨rfl, rfl⟩))
    (fun os started H enc _ => lifted os started H enc)
theorem proved : Rows.SlewComesSaid := over
end Go.Proofs.Ytcknnlekkbekmaa.slewComes
