/- Several texts of mine in one: C17a, C17b, C17c, C17d. -/
import Derived.Test.YtlclfonlidcfiaaDoorC02b
import Derived.Test.YtlclfonlidcfiaaDoorMA
import Derived.Deep.QuietTactic
import Derived.BigQuiet
import Derived.Deep.DrawnRows
import Derived.Test.YtlclfonlidcfiaaDoorWA
/- Contracts of layer 17: the program's Leap, Days, isDay, newYear, Weekday. -/
namespace Go.Proofs.YtlclfonlidcfiaaDoor
open Go.RowKit Go.Lib
set_option maxRecDepth 100000

/-- The table of the months' days, as it lies. -/
def Tab (w : World) : Prop := 0 < w.heap.size ∧ ∀ k : Nat, k < 12 → w.cell? ⟨0, k, none⟩ = some (.int .i64 (Civil.lens k))
theorem Tab.next {w w' : World} (h : Tab w) (hb : Ok w w') : Tab w' := ⟨Nat.lt_of_lt_of_le h.1 hb.size, fun k hk => (hb.cell h.1).trans (h.2 k hk)⟩

theorem civilLeap (y : Int) (w : World) : Calls Tryd.prog 91 #[.int .i64 y] w fun e w' => e = .returned (.bool (Civil.isLeap y)) ∧ w = w' := by
  have b4 : -4 < y.tmod 4 ∧ y.tmod 4 < 4 := Civil.tmod_bd y 4 (by omega)
  have b1 : -100 < y.tmod 100 ∧ y.tmod 100 < 100 := Civil.tmod_bd y 100 (by omega)
  have b5 : -400 < y.tmod 400 ∧ y.tmod 400 < 400 := Civil.tmod_bd y 400 (by omega)
  have z4 := Civil.tmod_zero y 4
  have z1 := Civil.tmod_zero y 100
  have z5 := Civil.tmod_zero y 400
  have K : Civil.isLeap y = decide (y.tmod 4 = 0 ∧ (y.tmod 100 ≠ 0 ∨ y.tmod 400 = 0)) := by
    unfold Civil.isLeap; rw [decide_eq_decide, ← z4, ← z5, Ne, Ne, ← z1]
  rw [K]
  clear K z4 z1 z5
  obtain ⟨A, hA⟩ : ∃ A, y.tmod 4 = A := ⟨_, rfl⟩
  obtain ⟨B, hB⟩ : ∃ B, y.tmod 100 = B := ⟨_, rfl⟩
  obtain ⟨C, hC⟩ : ∃ C, y.tmod 400 = C := ⟨_, rfl⟩
  rw [hA] at b4 ⊢
  rw [hB] at b1 ⊢
  rw [hC] at b5 ⊢
  by_cases d4 : A = 0 <;> by_cases d1 : B = 0 <;> by_cases d5 : C = 0
  all_goals
    simp only [d4, d1, d5, ne_eq, not_true, not_false_iff, false_and, true_and, or_true, true_or, or_self, decide_true, decide_false]
    go_enter Tryd.func91, Tryd.ntmps91
    go_wp2
    go_ret
    first | exact ⟨rfl, rfl⟩ | exact ⟨by simp [d5], rfl⟩ | exact ⟨by simp [d1], rfl⟩ | exact ⟨by simp [d4], rfl⟩ | exact ⟨by simp [d4, d1, d5], rfl⟩
theorem civilDays (y m : Int) (w : World) (hT : Tab w) : Calls Tryd.prog 84 #[.int .i64 y, .int .i64 m] w fun e w' => e = .returned (.int .i64 (Civil.days y m)) ∧ Ok w w' := by
  have hok := Ok.refl w
  by_cases h1 : m < 1
  · rw [Civil.days_no (Or.inl h1)]
    go_enter Tryd.func84, Tryd.ntmps84
    go_wp2
    go_ret
    exact ⟨rfl, hok⟩
  by_cases h2 : 12 < m
  · rw [Civil.days_no (Or.inr h2)]
    go_enter Tryd.func84, Tryd.ntmps84
    go_wp2
    go_ret
    exact ⟨rfl, hok⟩
  obtain ⟨k, rfl⟩ : ∃ k : Nat, m = (k : Int) + 1 := ⟨(m - 1).toNat, by omega⟩
  have hk : k < 12 := by omega
  have hc := hT.2 k hk
  have hlt := hT.1
  have hl := Civil.lens_bd k
  by_cases h3 : k = 1
  · subst h3
    have e : Civil.lens 1 = 28 := rfl
    rw [e] at hc
    clear e hl h1 h2 hk hT
    obtain ⟨L, hL⟩ : ∃ L, Civil.isLeap y = L := ⟨_, rfl⟩
    have KL := Lib.hid fun w => civilLeap y w
    rw [hL] at KL
    cases L
    · have e : Civil.days y (((1 : Nat) : Int) + 1) = 28 := by show Civil.days y 2 = 28; rw [Civil.days_feb, Civil.one_f hL]; rfl
      rw [e]
      clear e hL
      go_enter Tryd.func84, Tryd.ntmps84
      go_wp2_with (go_at_call 91; refine (KL.out _).mono ?_; rintro e w' ⟨rfl, rfl⟩)
      go_ret
      exact ⟨rfl, hok⟩
    · have e : Civil.days y (((1 : Nat) : Int) + 1) = 29 := by show Civil.days y 2 = 29; rw [Civil.days_feb, Civil.one_t hL]; rfl
      rw [e]
      clear e hL
      go_enter Tryd.func84, Tryd.ntmps84
      go_wp2_with (go_at_call 91; refine (KL.out _).mono ?_; rintro e w' ⟨rfl, rfl⟩)
      go_ret
      exact ⟨rfl, hok⟩
  · rw [Civil.days_lens y k hk h3]
    generalize Civil.lens k = n at hc hl ⊢
    go_enter Tryd.func84, Tryd.ntmps84
    go_wp2
    go_ret
    exact ⟨rfl, hok⟩
theorem civilIsDay (n : Int) (w : World) : Calls Tryd.prog 81 #[.int .i64 n] w fun e w' => e = .returned (.bool (decide (Civil.inn n))) ∧ w = w' := by
  by_cases h1 : -4294967296 ≤ n <;> by_cases h2 : n ≤ 4294967296
  all_goals
    first
    | rw [decide_eq_true (show Civil.inn n from ⟨h1, h2⟩)]
    | rw [decide_eq_false (show ¬ Civil.inn n from fun h => by unfold Civil.inn at h; omega)]
    go_enter Tryd.func81, Tryd.ntmps81
    go_wp2
    go_ret
    exact ⟨rfl, rfl⟩
end Go.Proofs.YtlclfonlidcfiaaDoor

/- Contracts of layer 17: the program's newYear, yearOf, Day, Date, Weekday. -/
namespace Go.Proofs.YtlclfonlidcfiaaDoor
open Go.RowKit
set_option maxRecDepth 100000
attribute [local go_sem ↓] Go.wp_at_zero Go.wp_at_succ

theorem civilNewYear (y : Int) (h1 : -100000000 ≤ y) (h2 : y ≤ 100000000) (w : World) : Calls Tryd.prog 83 #[.int .i64 y] w fun e w' => e = .returned (.int .i64 (Civil.first y)) ∧ Ok w w' := by
  have hok := Ok.refl w
  have K4 := Lib.hid fun w => wideDiv (y - 1) 4 w
  have K1 := Lib.hid fun w => wideDiv (y - 1) 100 w
  have K5 := Lib.hid fun w => wideDiv (y - 1) 400 w
  rw [Sat.clip_in (x := y - 1) (by omega) (by omega), show Wide.one 4 = 4 by decide] at K4
  rw [Sat.clip_in (x := y - 1) (by omega) (by omega), show Wide.one 100 = 100 by decide] at K1
  rw [Sat.clip_in (x := y - 1) (by omega) (by omega), show Wide.one 400 = 400 by decide] at K5
  have e : Civil.first y = -719162 + 365 * (y - 1) + (y - 1) / 4 - (y - 1) / 100 + (y - 1) / 400 := by rw [← Civil.first_bd]; omega
  have b4 : -100000000 ≤ (y - 1) / 4 ∧ (y - 1) / 4 ≤ 100000000 := by omega
  have b1 : -100000000 ≤ (y - 1) / 100 ∧ (y - 1) / 100 ≤ 100000000 := by omega
  have b5 : -100000000 ≤ (y - 1) / 400 ∧ (y - 1) / 400 ≤ 100000000 := by omega
  rw [e]
  clear e
  generalize (y - 1) / 4 = a at *
  generalize (y - 1) / 100 = b at *
  generalize (y - 1) / 400 = c at *
  generalize (y - 1) % 4 = r at *
  generalize (y - 1) % 100 = s at *
  generalize (y - 1) % 400 = t at *
  go_enter Tryd.func83, Tryd.ntmps83
  go_wp2_with (go_at_call 20; first | ((with_reducible refine (K4.out _).mono ?_); rintro e w1 ⟨rfl, hb1⟩; replace hok := hok.trans hb1; clear hb1) | ((with_reducible refine (K1.out _).mono ?_); rintro e w1 ⟨rfl, hb1⟩; replace hok := hok.trans hb1; clear hb1) | ((with_reducible refine (K5.out _).mono ?_); rintro e w1 ⟨rfl, hb1⟩; replace hok := hok.trans hb1; clear hb1))
  go_ret
  exact ⟨rfl, hok⟩
set_option maxHeartbeats 1600000 in
theorem civilYearOf (n y : Int) (hn : Civil.inn n) (h1 : Civil.first y ≤ n) (h2 : n < Civil.first (y + 1)) (w : World) : Calls Tryd.prog 82 #[.int .i64 n] w fun e w' => e = .returned (.int .i64 y) ∧ Ok w w' := by
  have hok := Ok.refl w
  have KM := Lib.hid fun w => wideMulDiv n 400 146097 w
  have hg := Civil.guess_bd hn
  unfold Civil.guess at hg
  generalize Wide.down n 400 146097 = q at KM hg
  have HY := Lib.hid fun z a b => Civil.year_one h1 h2 (z := z) a b
  obtain ⟨n1, n2⟩ := hn
  clear h1 h2
  go_enter Tryd.func82, Tryd.ntmps82
  go_wp2_with (go_at_call 90; refine (KM.out _).mono ?_; rintro e w1 ⟨rfl, hb1⟩; replace hok := hok.trans hb1; clear hb1)
  go_loopw [3] (fun z wr => ∃ z0 : Int, z = .int .i64 z0 ∧ -20000000 ≤ z0 ∧ z0 ≤ 20000000 ∧ Ok w wr) (fun z _ => (intOf z + 30000000).toNat)
  case atStart => exact ⟨1970 + q, rfl, by omega, by omega, hok⟩
  case round =>
    obtain ⟨z0, rfl, z1, z2, hokr⟩ := hrel
    clear hok hg KM
    have KZ := Lib.hid fun w => civilNewYear z0 (by omega) (by omega) w
    have f1 := Civil.first_gt (y := z0)
    have fb := Civil.first_in (y := z0) (by omega) (by omega)
    have EF := Lib.hid (show Civil.first z0 = Civil.first z0 from rfl)
    obtain ⟨F, hF⟩ : ∃ F, Civil.first z0 = F := ⟨_, rfl⟩
    rw [hF] at KZ f1 fb
    clear EF
    have HF := Lib.hid hF
    clear hF
    by_cases hlt : n < F
    · have z3 : -11757252 < z0 := f1 (by omega)
      clear f1
      go_wp2_with (go_at_call 83; refine (KZ.out _).mono ?_; rintro e w2 ⟨rfl, hb1⟩; replace hokr := hokr.trans hb1; clear hb1)
      go_roundw
      case rel => exact ⟨z0 - 1, by go_num, by omega, by omega, hokr⟩
      case measure => simp [intOf]; omega
    · clear f1
      go_wp2_with (go_at_call 83; refine (KZ.out _).mono ?_; rintro e w2 ⟨rfl, hb1⟩; replace hokr := hokr.trans hb1; clear hb1)
      have hle : Civil.first z0 ≤ n := by rw [HF.out]; omega
      clear HF KZ hlt fb
      go_loopw [3] (fun z wr => ∃ z0 : Int, z = .int .i64 z0 ∧ -20000000 ≤ z0 ∧ z0 ≤ 20000000 ∧ Civil.first z0 ≤ n ∧ Ok w wr) (fun z _ => (30000000 - intOf z).toNat)
      case atStart => exact ⟨z0, rfl, by omega, by omega, hle, hokr⟩
      case round =>
        clear hle hokr z1 z2
        obtain ⟨z1, rfl, z2, z3, hle, hok⟩ := hrel
        have KZ := Lib.hid fun w => civilNewYear (z1 + 1) (by omega) (by omega) w
        have f1 := Civil.first_lt (y := z1 + 1)
        have fb := Civil.first_in (y := z1 + 1) (by omega) (by omega)
        obtain ⟨F, hF⟩ : ∃ F, Civil.first (z1 + 1) = F := ⟨_, rfl⟩
        rw [hF] at KZ f1 fb
        have HF := Lib.hid hF
        have HL := Lib.hid hle
        clear hF hle
        by_cases hlt : F ≤ n
        · have z4 : z1 + 1 ≤ 11761191 := f1 (by omega)
          clear f1
          go_wp2_with (go_at_call 83; refine (KZ.out _).mono ?_; rintro e w2 ⟨rfl, hb1⟩; replace hok := hok.trans hb1; clear hb1)
          go_roundw
          case rel => exact ⟨z1 + 1, by go_num, by omega, by omega, by rw [HF.out]; exact hlt, hok⟩
          case measure => simp [intOf]; omega
        · clear f1
          go_wp2_with (go_at_call 83; refine (KZ.out _).mono ?_; rintro e w2 ⟨rfl, hb1⟩; replace hok := hok.trans hb1; clear hb1)
          go_ret
          exact ⟨by rw [HY.out z1 HL.out (by rw [HF.out]; omega)]; rfl, hok⟩
theorem civilDateNo (n : Int) (w : World) (h : ¬ Civil.inn n) : Calls Tryd.prog 68 #[.int .i64 n] w fun e w' => e = .returned (.tuple #[.int .i64 0, .int .i64 0, .int .i64 0, .bool false]) ∧ Ok w w' := by
  have hok := Ok.refl w
  have KI := Lib.hid fun w => civilIsDay n w
  rw [decide_eq_false h] at KI
  clear h
  go_enter Tryd.func68, Tryd.ntmps68
  go_wp2_with (go_at_call 81; refine (KI.out _).mono ?_; rintro e w2 ⟨rfl, rfl⟩)
  exact bodyPost_ret (v := .tuple #[.int .i64 0, .int .i64 0, .int .i64 0, .bool false]) (by simp [results, Tryd.results68, go_sem]) rfl ⟨rfl, hok⟩
set_option maxHeartbeats 1600000 in
theorem civilDate (n y m d : Int) (w : World) (hT : Tab w) (hn : Civil.inn n) (h : Civil.Is n y m d) : Calls Tryd.prog 68 #[.int .i64 n] w fun e w' => e = .returned (.tuple #[.int .i64 y, .int .i64 m, .int .i64 d, .bool true]) ∧ Ok w w' := by
  have hok := Ok.refl w
  have KI := Lib.hid fun w => civilIsDay n w
  rw [decide_eq_true hn] at KI
  have hy := h.year
  have KY := Lib.hid fun w => civilYearOf n y hn hy.1 hy.2 w
  have y1 := Civil.first_lt (y := y) (by have := hn.2; omega)
  have y2 := Civil.first_gt (y := y + 1) (by have := hn.1; omega)
  have KN := Lib.hid fun w => civilNewYear y (by omega) (by omega) w
  obtain ⟨⟨m1, m2⟩, ⟨d1, d2⟩, e⟩ := h
  have hfb := Civil.first_in (y := y) (by omega) (by omega)
  have hab := Civil.ahead_bd (y := y) (m := m) m1 (by omega)
  have hdl := Civil.days_le y m
  have HM := Lib.hid fun (k : Int) (a : 1 ≤ k) (b : k < m) => Civil.ahead_mono y (m := k) a b (by omega)
  have HX := Lib.hid fun (k : Int) (a : 1 ≤ k) (b : k ≤ 12) => Civil.ahead_next (y := y) (m := k) a b
  have HB := Lib.hid fun (k : Int) (a : 1 ≤ k) (b : k ≤ 13) => Civil.ahead_bd (y := y) (m := k) a b
  have HDL := Lib.hid fun k => Civil.days_le y k
  have KDs := Lib.hid fun k => civilDays y k
  have H1 := Lib.hid (Civil.ahead_one y)
  obtain ⟨n1, n2⟩ := hn
  generalize Civil.first y = F at *
  have E0 := Lib.hid e
  clear hy e
  go_enter Tryd.func68, Tryd.ntmps68
  go_wp2_with (first | (go_at_call 81; refine (KI.out _).mono ?_; rintro e w2 ⟨rfl, rfl⟩) | (go_at_call 82; refine (KY.out _).mono ?_; rintro e w2 ⟨rfl, hb1⟩; replace hok := hok.trans hb1; replace hT := hT.next hb1; clear hb1) | (go_at_call 83; refine (KN.out _).mono ?_; rintro e w2 ⟨rfl, hb1⟩; replace hok := hok.trans hb1; replace hT := hT.next hb1; clear hb1))
  go_loopw [7, 8] (fun i s wr => ∃ k : Int, i = .int .i64 k ∧ 1 ≤ k ∧ k ≤ m ∧ s = .int .i64 (Civil.ahead y m + d - Civil.ahead y k) ∧ Tab wr ∧ Ok w wr) (fun i _ _ => (m - intOf i).toNat)
  case atStart => exact ⟨1, rfl, by omega, by omega, by rw [H1.out, E0.out]; congr 1; omega, hT, hok⟩
  case round =>
    obtain ⟨k, rfl, k1, k2, rfl, hTr, hokr⟩ := hrel
    clear hok hT KN KI KY H1 E0
    have hA := HB.out k k1 (by omega)
    have KK := Lib.hid (KDs.out k)
    by_cases hlt : k < m
    · have hD := HDL.out k
      have E := HX.out k k1 (by omega)
      have hMo := HM.out k k1 hlt
      have EA := Lib.hid E
      clear E
      generalize Civil.ahead y k = A at hA EA hMo ⊢
      generalize Civil.ahead y m = M at *
      generalize Civil.days y k = DD at KK hD EA hMo
      clear HM HX HDL KDs HB
      go_wp2_with (go_at_call 84; refine (KK.out _ hTr).mono ?_; rintro e w2 ⟨rfl, hb1⟩; replace hokr := hokr.trans hb1; replace hTr := hTr.next hb1; clear hb1)
      go_roundw
      case rel => exact ⟨k + 1, by go_num, by omega, by omega, by rw [EA.out]; go_num, hTr, hokr⟩
      case measure => simp [intOf]; omega
    · have e : k = m := by omega
      subst e
      clear HM HX HDL KDs HB
      rw [show Civil.ahead y k + d - Civil.ahead y k = d by omega]
      generalize Civil.days y k = D at *
      go_wp2_with (go_at_call 84; refine (KK.out _ hTr).mono ?_; rintro e w2 ⟨rfl, hb1⟩; replace hokr := hokr.trans hb1; clear hb1)
      exact bodyPost_ret (v := .tuple #[.int .i64 y, .int .i64 k, .int .i64 d, .bool true]) (by simp [results, Tryd.results68, go_sem]) rfl ⟨rfl, hokr⟩
end Go.Proofs.YtlclfonlidcfiaaDoor

/- Contracts of layer 17: the document's Leap, Days, Year, Begin, Day. -/
namespace Go.Proofs.YtlclfonlidcfiaaDoor
open Go.RowKit
set_option maxRecDepth 100000
attribute [local go_sem ↓] Go.wp_at_zero Go.wp_at_succ

theorem ref17Leap (y : Int) (w : World) : Calls Tryd.prog 85 #[.int .i64 y] w fun e w' => e = .returned (.bool (Civil.isLeap y)) ∧ w = w' := by
  have b4 : -4 < y.tmod 4 ∧ y.tmod 4 < 4 := Civil.tmod_bd y 4 (by omega)
  have b1 : -100 < y.tmod 100 ∧ y.tmod 100 < 100 := Civil.tmod_bd y 100 (by omega)
  have b5 : -400 < y.tmod 400 ∧ y.tmod 400 < 400 := Civil.tmod_bd y 400 (by omega)
  have z4 := Civil.tmod_zero y 4
  have z1 := Civil.tmod_zero y 100
  have z5 := Civil.tmod_zero y 400
  have K : Civil.isLeap y = decide (y.tmod 4 = 0 ∧ (y.tmod 100 ≠ 0 ∨ y.tmod 400 = 0)) := by
    unfold Civil.isLeap; rw [decide_eq_decide, ← z4, ← z5, Ne, Ne, ← z1]
  have K5 : y.tmod 400 = 0 → y.tmod 4 = 0 := fun h => by rw [z4]; have := z5.1 h; omega
  rw [K]
  clear K z4 z1 z5
  obtain ⟨A, hA⟩ : ∃ A, y.tmod 4 = A := ⟨_, rfl⟩
  obtain ⟨B, hB⟩ : ∃ B, y.tmod 100 = B := ⟨_, rfl⟩
  obtain ⟨C, hC⟩ : ∃ C, y.tmod 400 = C := ⟨_, rfl⟩
  rw [hA] at b4 K5 ⊢
  rw [hB] at b1 ⊢
  rw [hC] at b5 K5 ⊢
  by_cases d4 : A = 0 <;> by_cases d1 : B = 0 <;> by_cases d5 : C = 0
  all_goals first
    | (exfalso; exact d4 (K5 d5))
    | (clear K5
       simp only [d4, d1, d5, ne_eq, not_true, not_false_iff, false_and, true_and, or_true, true_or, or_self, decide_true, decide_false]
       go_enter Tryd.func85, Tryd.ntmps85
       go_wp2
       go_ret
       first | exact ⟨rfl, rfl⟩ | (refine ⟨?_, rfl⟩; simp [d1]; done))
theorem ref17Days (y m : Int) (w : World) : Calls Tryd.prog 70 #[.int .i64 y, .int .i64 m] w fun e w' => e = .returned (.int .i64 (Civil.days y m)) ∧ Ok w w' := by
  have hok := Ok.refl w
  by_cases h1 : m < 1
  · rw [Civil.days_no (Or.inl h1)]
    go_enter Tryd.func70, Tryd.ntmps70
    go_wp2
    go_ret
    exact ⟨rfl, hok⟩
  by_cases h2 : 12 < m
  · rw [Civil.days_no (Or.inr h2)]
    go_enter Tryd.func70, Tryd.ntmps70
    go_wp2
    go_ret
    exact ⟨rfl, hok⟩
  by_cases h3 : m = 2
  · subst h3
    obtain ⟨L, hL⟩ : ∃ L, Civil.isLeap y = L := ⟨_, rfl⟩
    have KL := Lib.hid fun w => ref17Leap y w
    rw [hL] at KL
    cases L
    · rw [show Civil.days y 2 = 28 by rw [Civil.days_feb, Civil.one_f hL]; rfl]
      clear hL h1 h2
      go_enter Tryd.func70, Tryd.ntmps70
      go_wp2_with (go_at_call 85; refine (KL.out _).mono ?_; rintro e w' ⟨rfl, rfl⟩)
      go_ret
      exact ⟨rfl, hok⟩
    · rw [show Civil.days y 2 = 29 by rw [Civil.days_feb, Civil.one_t hL]; rfl]
      clear hL h1 h2
      go_enter Tryd.func70, Tryd.ntmps70
      go_wp2_with (go_at_call 85; refine (KL.out _).mono ?_; rintro e w' ⟨rfl, rfl⟩)
      go_ret
      exact ⟨rfl, hok⟩
  · have hc : m = 1 ∨ m = 3 ∨ m = 4 ∨ m = 5 ∨ m = 6 ∨ m = 7 ∨ m = 8 ∨ m = 9 ∨ m = 10 ∨ m = 11 ∨ m = 12 := by omega
    clear h1 h2 h3
    rcases hc with rfl | rfl | rfl | rfl | rfl | rfl | rfl | rfl | rfl | rfl | rfl
    all_goals
      simp only [Civil.days]
      simp only [Int.reduceLT, Int.reduceEq, or_self, or_true, or_false, if_true, if_false]
      go_enter Tryd.func70, Tryd.ntmps70
      go_wp2
      go_ret
      exact ⟨rfl, hok⟩
theorem ref17Year (y : Int) (w : World) : Calls Tryd.prog 69 #[.int .i64 y] w fun e w' => e = .returned (.int .i64 (365 + Civil.one y)) ∧ Ok w w' := by
  have hok := Ok.refl w
  have KL := Lib.hid fun w => ref17Leap y w
  obtain ⟨L, hL⟩ : ∃ L, Civil.isLeap y = L := ⟨_, rfl⟩
  rw [hL] at KL
  cases L
  · rw [Civil.one_f hL]
    clear hL
    go_enter Tryd.func69, Tryd.ntmps69
    go_wp2_with (go_at_call 85; refine (KL.out _).mono ?_; rintro e w' ⟨rfl, rfl⟩)
    go_ret
    exact ⟨rfl, hok⟩
  · rw [Civil.one_t hL]
    clear hL
    go_enter Tryd.func69, Tryd.ntmps69
    go_wp2_with (go_at_call 85; refine (KL.out _).mono ?_; rintro e w' ⟨rfl, rfl⟩)
    go_ret
    exact ⟨rfl, hok⟩
end Go.Proofs.YtlclfonlidcfiaaDoor

/- Contracts of layer 17: the document's Date. -/
namespace Go.Proofs.YtlclfonlidcfiaaDoor
open Go.RowKit
set_option maxRecDepth 100000
attribute [local go_sem ↓] Go.wp_at_zero Go.wp_at_succ
theorem first_wide {z c n : Int} (hn : Civil.inn n) (h : Civil.first z + c = n) (h1 : -4294967296 ≤ c) (h2 : c ≤ 4294967296) : -24000000 ≤ z ∧ z ≤ 24000000 := by
  obtain ⟨n1, n2⟩ := hn
  rw [← Civil.first_bd] at h; omega
theorem ref17DateNo (n : Int) (w : World) (h : ¬ Civil.inn n) : Calls Tryd.prog 47 #[.int .i64 n] w fun e w' => e = .returned (.tuple #[.int .i64 0, .int .i64 0, .int .i64 0, .bool false]) ∧ Ok w w' := by
  have hok := Ok.refl w
  by_cases h1 : 4294967296 < n
  · clear h
    go_enter Tryd.func47, Tryd.ntmps47
    go_wp2_with fail
    exact bodyPost_ret (v := .tuple #[.int .i64 0, .int .i64 0, .int .i64 0, .bool false]) (by simp [results, Tryd.results47, go_sem]) rfl ⟨rfl, hok⟩
  · have h2 : n < -4294967296 := by
      rcases Int.lt_or_le n (-4294967296) with g | g
      · exact g
      · exact absurd ⟨g, by omega⟩ h
    clear h
    go_enter Tryd.func47, Tryd.ntmps47
    go_wp2_with fail
    exact bodyPost_ret (v := .tuple #[.int .i64 0, .int .i64 0, .int .i64 0, .bool false]) (by simp [results, Tryd.results47, go_sem]) rfl ⟨rfl, hok⟩
set_option maxHeartbeats 3200000 in
theorem ref17Date (n y m d : Int) (w : World) (hn : Civil.inn n) (h : Civil.Is n y m d) : Calls Tryd.prog 47 #[.int .i64 n] w fun e w' => e = .returned (.tuple #[.int .i64 y, .int .i64 m, .int .i64 d, .bool true]) ∧ Ok w w' := by
  have hok := Ok.refl w
  have hy := h.year
  have HY := Lib.hid fun z a b => Civil.year_one hy.1 hy.2 (z := z) a b
  have HW := Lib.hid fun z c a b e => first_wide (z := z) (c := c) hn a b e
  obtain ⟨⟨m1, m2⟩, ⟨d1, d2⟩, e⟩ := h
  have hab := Civil.ahead_bd (y := y) (m := m) m1 (by omega)
  have hdl := Civil.days_le y m
  have HM := Lib.hid fun (k : Int) (a : 1 ≤ k) (b : k < m) => Civil.ahead_mono y (m := k) a b (by omega)
  have HX := Lib.hid fun (k : Int) (a : 1 ≤ k) (b : k ≤ 12) => Civil.ahead_next (y := y) (m := k) a b
  have HB := Lib.hid fun (k : Int) (a : 1 ≤ k) (b : k ≤ 13) => Civil.ahead_bd (y := y) (m := k) a b
  have HDL := Lib.hid fun k => Civil.days_le y k
  have KDs := Lib.hid fun k => ref17Days y k
  have KY := Lib.hid ref17Year
  have HO := Lib.hid Civil.one_bd
  have HN := Lib.hid fun z => Civil.first_next z
  have H4 := Lib.hid fun z q => Civil.first_400 z q
  have H1 := Lib.hid (Civil.ahead_one y)
  obtain ⟨n1, n2⟩ := hn
  have E0 := Lib.hid e
  clear hy e
  go_enter Tryd.func47, Tryd.ntmps47
  go_wp2_with fail
  go_loopw [0, 6, 7] (fun s i u wr => ∃ c z : Int, s = .int .i64 c ∧ i = .int .i64 z ∧ -4294967296 ≤ c ∧ c ≤ 4294967296 ∧ Civil.first z + c = n ∧ Ok w wr) (fun s _ _ _ => (-(intOf s)).toNat)
  case atStart => exact ⟨n, 1970, rfl, rfl, n1, n2, by rw [Civil.first_1970]; omega, hok⟩
  case round =>
    obtain ⟨c, z, rfl, rfl, c1, c2, hc, hokr⟩ := hrel
    clear hok
    obtain ⟨z1, z2⟩ := HW.out z c hc c1 c2
    by_cases hlt : c < 0
    · obtain ⟨k, hk⟩ : ∃ k, (-c + 146096).tdiv 146097 = k := ⟨_, rfl⟩
      have hk2 : (-c + 146096) / 146097 = k := by rw [← Int.tdiv_eq_ediv_of_nonneg (by omega)]; exact hk
      have hkb : 0 ≤ k ∧ k ≤ 30000 ∧ 0 ≤ c + k * 146097 ∧ c + k * 146097 ≤ 146096 := by omega
      clear hk2
      obtain ⟨k1, k2, k3, k4⟩ := hkb
      have e4 : Civil.first (z - 400 * k) + (c + k * 146097) = n := by
        rw [show z - 400 * k = z + 400 * -k by omega, H4.out z (-k), ← hc]; omega
      have E4 := Lib.hid e4
      clear e4 hc
      go_wp2_with fail
      go_roundw
      case rel => exact ⟨c + k * 146097, z - 400 * k, by go_num, by go_num, by omega, by omega, E4.out, hokr⟩
      case measure => simp [intOf]; omega
    · obtain ⟨q, hq⟩ : ∃ q, c.tdiv 146097 = q := ⟨_, rfl⟩
      obtain ⟨r, hr⟩ : ∃ r, c.tmod 146097 = r := ⟨_, rfl⟩
      have hq2 : c / 146097 = q := by rw [← Int.tdiv_eq_ediv_of_nonneg (by omega)]; exact hq
      have hr2 : c % 146097 = r := by rw [← Int.tmod_eq_emod_of_nonneg (by omega)]; exact hr
      have hqb : 0 ≤ q ∧ q ≤ 30000 ∧ 0 ≤ r ∧ r ≤ 146096 ∧ c = q * 146097 + r := by omega
      clear hq2 hr2
      obtain ⟨q1, q2, r1, r2, e5⟩ := hqb
      have e4 : Civil.first (z + q * 400) + r = n := by
        rw [show z + q * 400 = z + 400 * q by omega, H4.out z q]; omega
      have E4 := Lib.hid e4
      clear e4 hc e5
      go_wp2_with fail
      go_loopw [0, 6] (fun s i wr => ∃ c z : Int, s = .int .i64 c ∧ i = .int .i64 z ∧ 0 ≤ c ∧ c ≤ 146096 ∧ Civil.first z + c = n ∧ Ok w wr) (fun s _ _ => (intOf s).toNat)
      case atStart => exact ⟨r, z + q * 400, rfl, rfl, r1, r2, E4.out, hokr⟩
      case round =>
        clear hq hr q1 q2 r1 r2 E4 hokr c1 c2 z1 z2 hlt
        obtain ⟨c, z, rfl, rfl, c1, c2, hc, hok⟩ := hrel
        obtain ⟨z1, z2⟩ := HW.out z c hc (by omega) (by omega)
        have hO := HO.out z
        have K := Lib.hid (KY.out z)
        have hN := HN.out z
        by_cases hlt : 365 + Civil.one z ≤ c
        · have e4 : Civil.first (z + 1) + (c - (365 + Civil.one z)) = n := by omega
          have E4 := Lib.hid e4
          clear e4 hc hN
          generalize Civil.one z = o at *
          go_wp2_with (go_at_call 69; refine (K.out _).mono ?_; rintro e w2 ⟨rfl, hb1⟩; replace hok := hok.trans hb1; clear hb1)
          go_roundw
          case rel => exact ⟨c - (365 + o), z + 1, by go_num, by go_num, by omega, by omega, E4.out, hok⟩
          case measure => simp [intOf]; omega
        · have ez : z = y := HY.out z (by omega) (by omega)
          subst ez
          have ec : c = Civil.ahead z m + d - 1 := by have := E0.out; omega
          have EC := Lib.hid ec
          clear hc hN ec HY HW H4 HN HO KY E0
          generalize Civil.one z = o at *
          go_wp2_with (go_at_call 69; refine (K.out _).mono ?_; rintro e w2 ⟨rfl, hb1⟩; replace hok := hok.trans hb1; clear hb1)
          go_loopw [0, 8] (fun s i wr => ∃ k : Int, i = .int .i64 k ∧ 1 ≤ k ∧ k ≤ m ∧ s = .int .i64 (Civil.ahead z m + d - 1 - Civil.ahead z k) ∧ Ok w wr) (fun _ i _ => (m - intOf i).toNat)
          case atStart => exact ⟨1, rfl, by omega, by omega, by rw [H1.out, EC.out]; congr 1; omega, hok⟩
          case round =>
            clear K H1 EC hok hlt hO c1 c2
            obtain ⟨k, rfl, k1, k2, rfl, hok⟩ := hrel
            have hA := HB.out k k1 (by omega)
            have KK := Lib.hid (KDs.out k)
            by_cases hlt : k < m
            · have hD := HDL.out k
              have E := HX.out k k1 (by omega)
              have hMo := HM.out k k1 hlt
              have EA := Lib.hid E
              clear E
              generalize Civil.ahead z k = A at hA EA hMo ⊢
              generalize Civil.ahead z m = M at *
              generalize Civil.days z k = DD at KK hD EA hMo
              clear HM HX HDL KDs HB
              go_wp2_with (go_at_call 70; refine (KK.out _).mono ?_; rintro e w2 ⟨rfl, hb1⟩; replace hok := hok.trans hb1; clear hb1)
              go_roundw
              case rel => exact ⟨k + 1, by go_num, by omega, by omega, by rw [EA.out]; go_num, hok⟩
              case measure => simp [intOf]; omega
            · have e : k = m := by omega
              subst e
              clear HM HX HDL KDs HB
              rw [show Civil.ahead z k + d - 1 - Civil.ahead z k = d - 1 by omega]
              generalize Civil.days z k = D at *
              go_wp2_with (go_at_call 70; refine (KK.out _).mono ?_; rintro e w2 ⟨rfl, hb1⟩; replace hok := hok.trans hb1; clear hb1)
              exact bodyPost_ret (v := .tuple #[.int .i64 z, .int .i64 k, .int .i64 d, .bool true]) (by simp [results, Tryd.results47, go_sem]) rfl ⟨rfl, hok⟩
end Go.Proofs.YtlclfonlidcfiaaDoor
