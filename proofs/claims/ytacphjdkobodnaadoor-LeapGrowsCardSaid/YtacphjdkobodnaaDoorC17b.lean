/- Contracts of layer 17: the program's newYear, yearOf, Day, Date, Weekday. -/
import Derived.Test.YtacphjdkobodnaaDoorC17a
import Derived.Deep.DrawnRows
namespace Go.Proofs.YtacphjdkobodnaaDoor
open Go.RowKit
set_option maxRecDepth 100000
attribute [local go_sem ↓] Go.wp_at_zero Go.wp_at_succ

theorem civilNewYear (y : Int) (h1 : -100000000 ≤ y) (h2 : y ≤ 100000000) (w : World) : Calls Tryd.prog 47 #[.int .i64 y] w fun e w' => e = .returned (.int .i64 (Civil.first y)) ∧ Ok w w' := by
  have hok := Ok.refl w
  have K4 := Lib.hid fun w => wideDiv (y - 1) 4 w
  have K1 := Lib.hid fun w => wideDiv (y - 1) 100 w
  have K5 := Lib.hid fun w => wideDiv (y - 1) 400 w
  rw [Sat.clip_in (x := y - 1) (by omega) (by omega), show Wide.one 4 = 4 by decide] at K4
  rw [Sat.clip_in (x := y - 1) (by omega) (by omega), show Wide.one 100 = 100 by decide] at K1
  rw [Sat.clip_in (x := y - 1) (by omega) (by omega), show Wide.one 400 = 400 by decide] at K5
  have e : Civil.first y = -719162 + 365 * (y - 1) + (y - 1) / 4 - (y - 1) / 100 + (y - 1) / 400 := by rw [← Civil.first_bd]; omega
  have b4 : -100000000 ≤ (y - 1) / 4 ∧ (y - 1) / 4 ≤ 100000000 := by omega
  have b1 : -100000000 ≤ (y - 1) / 100 ∧ (y - 1) / 100 ≤ 100000000 := by omega
  have b5 : -100000000 ≤ (y - 1) / 400 ∧ (y - 1) / 400 ≤ 100000000 := by omega
  rw [e]
  clear e
  generalize (y - 1) / 4 = a at *
  generalize (y - 1) / 100 = b at *
  generalize (y - 1) / 400 = c at *
  generalize (y - 1) % 4 = r at *
  generalize (y - 1) % 100 = s at *
  generalize (y - 1) % 400 = t at *
  go_enter Tryd.func47, Tryd.ntmps47
  go_wp2_with (go_at_call 27; first | ((with_reducible refine (K4.out _).mono ?_); rintro e w1 ⟨rfl, hb1⟩; replace hok := hok.trans hb1; clear hb1) | ((with_reducible refine (K1.out _).mono ?_); rintro e w1 ⟨rfl, hb1⟩; replace hok := hok.trans hb1; clear hb1) | ((with_reducible refine (K5.out _).mono ?_); rintro e w1 ⟨rfl, hb1⟩; replace hok := hok.trans hb1; clear hb1))
  go_ret
  exact ⟨rfl, hok⟩
set_option maxHeartbeats 1600000 in
theorem civilYearOf (n y : Int) (hn : Civil.inn n) (h1 : Civil.first y ≤ n) (h2 : n < Civil.first (y + 1)) (w : World) : Calls Tryd.prog 53 #[.int .i64 n] w fun e w' => e = .returned (.int .i64 y) ∧ Ok w w' := by
  have hok := Ok.refl w
  have KM := Lib.hid fun w => wideMulDiv n 400 146097 w
  have hg := Civil.guess_bd hn
  unfold Civil.guess at hg
  generalize Wide.down n 400 146097 = q at KM hg
  have HY := Lib.hid fun z a b => Civil.year_one h1 h2 (z := z) a b
  obtain ⟨n1, n2⟩ := hn
  clear h1 h2
  go_enter Tryd.func53, Tryd.ntmps53
  go_wp2_with (go_at_call 60; refine (KM.out _).mono ?_; rintro e w1 ⟨rfl, hb1⟩; replace hok := hok.trans hb1; clear hb1)
  go_loopw [3] (fun z wr => ∃ z0 : Int, z = .int .i64 z0 ∧ -20000000 ≤ z0 ∧ z0 ≤ 20000000 ∧ Ok w wr) (fun z _ => (intOf z + 30000000).toNat)
  case atStart => exact ⟨1970 + q, rfl, by omega, by omega, hok⟩
  case round =>
    obtain ⟨z0, rfl, z1, z2, hokr⟩ := hrel
    clear hok hg KM
    have KZ := Lib.hid fun w => civilNewYear z0 (by omega) (by omega) w
    have f1 := Civil.first_gt (y := z0)
    have fb := Civil.first_in (y := z0) (by omega) (by omega)
    have EF := Lib.hid (show Civil.first z0 = Civil.first z0 from rfl)
    obtain ⟨F, hF⟩ : ∃ F, Civil.first z0 = F := ⟨_, rfl⟩
    rw [hF] at KZ f1 fb
    clear EF
    have HF := Lib.hid hF
    clear hF
    by_cases hlt : n < F
    · have z3 : -11757252 < z0 := f1 (by omega)
      clear f1
      go_wp2_with (go_at_call 47; refine (KZ.out _).mono ?_; rintro e w2 ⟨rfl, hb1⟩; replace hokr := hokr.trans hb1; clear hb1)
      go_roundw
      case rel => exact ⟨z0 - 1, by go_num, by omega, by omega, hokr⟩
      case measure => simp [intOf]; omega
    · clear f1
      go_wp2_with (go_at_call 47; refine (KZ.out _).mono ?_; rintro e w2 ⟨rfl, hb1⟩; replace hokr := hokr.trans hb1; clear hb1)
      have hle : Civil.first z0 ≤ n := by rw [HF.out]; omega
      clear HF KZ hlt fb
      go_loopw [3] (fun z wr => ∃ z0 : Int, z = .int .i64 z0 ∧ -20000000 ≤ z0 ∧ z0 ≤ 20000000 ∧ Civil.first z0 ≤ n ∧ Ok w wr) (fun z _ => (30000000 - intOf z).toNat)
      case atStart => exact ⟨z0, rfl, by omega, by omega, hle, hokr⟩
      case round =>
        clear hle hokr z1 z2
        obtain ⟨z1, rfl, z2, z3, hle, hok⟩ := hrel
        have KZ := Lib.hid fun w => civilNewYear (z1 + 1) (by omega) (by omega) w
        have f1 := Civil.first_lt (y := z1 + 1)
        have fb := Civil.first_in (y := z1 + 1) (by omega) (by omega)
        obtain ⟨F, hF⟩ : ∃ F, Civil.first (z1 + 1) = F := ⟨_, rfl⟩
        rw [hF] at KZ f1 fb
        have HF := Lib.hid hF
        have HL := Lib.hid hle
        clear hF hle
        by_cases hlt : F ≤ n
        · have z4 : z1 + 1 ≤ 11761191 := f1 (by omega)
          clear f1
          go_wp2_with (go_at_call 47; refine (KZ.out _).mono ?_; rintro e w2 ⟨rfl, hb1⟩; replace hok := hok.trans hb1; clear hb1)
          go_roundw
          case rel => exact ⟨z1 + 1, by go_num, by omega, by omega, by rw [HF.out]; exact hlt, hok⟩
          case measure => simp [intOf]; omega
        · clear f1
          go_wp2_with (go_at_call 47; refine (KZ.out _).mono ?_; rintro e w2 ⟨rfl, hb1⟩; replace hok := hok.trans hb1; clear hb1)
          go_ret
          exact ⟨by rw [HY.out z1 HL.out (by rw [HF.out]; omega)]; rfl, hok⟩
theorem civilDayNo (y m d : Int) (w : World) (hT : Tab w) (h : ¬ Civil.real y m d) : Calls Tryd.prog 31 #[.int .i64 y, .int .i64 m, .int .i64 d] w fun e w' => e = .returned (.tuple #[.int .i64 0, .bool false]) ∧ Ok w w' := by
  have hok := Ok.refl w
  by_cases h1 : 11767033 < y
  · clear h
    go_enter Tryd.func31, Tryd.ntmps31
    go_wp2_with fail
    go_ret2
    exact ⟨rfl, hok⟩
  by_cases h2 : y < -11767033
  · clear h
    go_enter Tryd.func31, Tryd.ntmps31
    go_wp2_with fail
    go_ret2
    exact ⟨rfl, hok⟩
  by_cases h3 : d < 1
  · clear h
    go_enter Tryd.func31, Tryd.ntmps31
    go_wp2_with fail
    go_ret2
    exact ⟨rfl, hok⟩
  · have h4 : Civil.days y m < d := by
      rcases Int.lt_or_le (Civil.days y m) d with g | g
      · exact g
      · exact absurd ⟨⟨by omega, by omega⟩, by omega, g⟩ h
    have KD := Lib.hid (civilDays y m)
    have hb := Civil.days_le y m
    generalize Civil.days y m = D at KD h4 hb
    clear h
    go_enter Tryd.func31, Tryd.ntmps31
    go_wp2_with (go_at_call 46; refine (KD.out _ hT).mono ?_; rintro e w2 ⟨rfl, hb1⟩; replace hok := hok.trans hb1; clear hb1)
    go_ret2
    exact ⟨rfl, hok⟩
set_option maxHeartbeats 1600000 in
theorem civilDayReal (y m d : Int) (w : World) (hT : Tab w) (h : Civil.real y m d) : Calls Tryd.prog 31 #[.int .i64 y, .int .i64 m, .int .i64 d] w fun e w' => e = .returned (.tuple #[.int .i64 (if Civil.inn (Civil.num y m d) then Civil.num y m d else 0), .bool (decide (Civil.inn (Civil.num y m d)))]) ∧ Ok w w' := by
  have hok := Ok.refl w
  obtain ⟨m1, m2⟩ := h.month
  obtain ⟨⟨y1, y2⟩, d1, d2⟩ := h
  have KN := Lib.hid fun w => civilNewYear y (by omega) (by omega) w
  have KD := Lib.hid (civilDays y m)
  have KI := Lib.hid fun w => civilIsDay (Civil.num y m d) w
  have hfb := Civil.first_in (y := y) (by omega) (by omega)
  have hab := Civil.ahead_bd (y := y) (m := m) m1 (by omega)
  have hdl := Civil.days_le y m
  have HM := Lib.hid fun (k : Int) (a : 1 ≤ k) (b : k ≤ 13) => Civil.ahead_bd (y := y) (m := k) a b
  have HX := Lib.hid fun (k : Int) (a : 1 ≤ k) (b : k ≤ 12) => Civil.ahead_next (y := y) (m := k) a b
  have HDL := Lib.hid fun k => Civil.days_le y k
  have KDs := Lib.hid fun k => civilDays y k
  have H1 := Lib.hid (Civil.ahead_one y)
  unfold Civil.num at KI ⊢
  generalize Civil.first y = F at *
  generalize Civil.days y m = D at KD d2 hdl
  have key : ∀ q : Bool, decide (Civil.inn (F + Civil.ahead y m + d - 1)) = q → Calls Tryd.prog 31 #[.int .i64 y, .int .i64 m, .int .i64 d] w fun e w' => e = .returned (.tuple #[.int .i64 (if q = true then F + Civil.ahead y m + d - 1 else 0), .bool q]) ∧ Ok w w' := by
    intro q hq
    rw [hq] at KI
    clear hq
    cases q
    all_goals
      simp only [if_true, if_false, reduceCtorEq]
      go_enter Tryd.func31, Tryd.ntmps31
      go_wp2_with (first | (go_at_call 46; refine (KD.out _ hT).mono ?_; rintro e w2 ⟨rfl, hb1⟩; replace hok := hok.trans hb1; replace hT := hT.next hb1; clear hb1) | (go_at_call 47; refine (KN.out _).mono ?_; rintro e w2 ⟨rfl, hb1⟩; replace hok := hok.trans hb1; replace hT := hT.next hb1; clear hb1))
      go_loopw [8, 9] (fun s i wr => ∃ k : Int, i = .int .i64 k ∧ 1 ≤ k ∧ k ≤ m ∧ s = .int .i64 (F + Civil.ahead y k + d - 1) ∧ Tab wr ∧ Ok w wr) (fun _ i _ => (m - intOf i).toNat)
      case atStart => exact ⟨1, rfl, by omega, by omega, by rw [H1.out]; simp, hT, hok⟩
      case round =>
        obtain ⟨k, rfl, k1, k2, rfl, hTr, hokr⟩ := hrel
        clear hok hT KN KD H1
        have hA := HM.out k k1 (by omega)
        by_cases hlt : k < m
        · have KK := Lib.hid (KDs.out k)
          have hD := HDL.out k
          have E := HX.out k k1 (by omega)
          have EA := Lib.hid E
          clear E
          generalize Civil.ahead y k = A at hA EA ⊢
          generalize Civil.days y k = DD at KK hD EA
          clear KI HM HX HDL KDs hab
          go_wp2_with (go_at_call 46; refine (KK.out _ hTr).mono ?_; rintro e w2 ⟨rfl, hb1⟩; replace hokr := hokr.trans hb1; replace hTr := hTr.next hb1; clear hb1)
          go_roundw
          case rel => exact ⟨k + 1, by go_num, by omega, by omega, by rw [EA.out]; go_num, hTr, hokr⟩
          case measure => simp [intOf]; omega
        · have e : k = m := by omega
          subst e
          clear HM HX HDL KDs
          go_wp2_with (go_at_call 48; refine (KI.out _).mono ?_; rintro e w2 ⟨rfl, rfl⟩)
          go_ret2
          exact ⟨rfl, hokr⟩
  have hk := key _ rfl
  simpa only [decide_eq_true_eq] using hk
theorem civilDateNo (n : Int) (w : World) (h : ¬ Civil.inn n) : Calls Tryd.prog 37 #[.int .i64 n] w fun e w' => e = .returned (.tuple #[.int .i64 0, .int .i64 0, .int .i64 0, .bool false]) ∧ Ok w w' := by
  have hok := Ok.refl w
  have KI := Lib.hid fun w => civilIsDay n w
  rw [decide_eq_false h] at KI
  clear h
  go_enter Tryd.func37, Tryd.ntmps37
  go_wp2_with (go_at_call 48; refine (KI.out _).mono ?_; rintro e w2 ⟨rfl, rfl⟩)
  exact bodyPost_ret (v := .tuple #[.int .i64 0, .int .i64 0, .int .i64 0, .bool false]) (by simp [results, Tryd.results37, go_sem]) rfl ⟨rfl, hok⟩
set_option maxHeartbeats 1600000 in
theorem civilDate (n y m d : Int) (w : World) (hT : Tab w) (hn : Civil.inn n) (h : Civil.Is n y m d) : Calls Tryd.prog 37 #[.int .i64 n] w fun e w' => e = .returned (.tuple #[.int .i64 y, .int .i64 m, .int .i64 d, .bool true]) ∧ Ok w w' := by
  have hok := Ok.refl w
  have KI := Lib.hid fun w => civilIsDay n w
  rw [decide_eq_true hn] at KI
  have hy := h.year
  have KY := Lib.hid fun w => civilYearOf n y hn hy.1 hy.2 w
  have y1 := Civil.first_lt (y := y) (by have := hn.2; omega)
  have y2 := Civil.first_gt (y := y + 1) (by have := hn.1; omega)
  have KN := Lib.hid fun w => civilNewYear y (by omega) (by omega) w
  obtain ⟨⟨m1, m2⟩, ⟨d1, d2⟩, e⟩ := h
  have hfb := Civil.first_in (y := y) (by omega) (by omega)
  have hab := Civil.ahead_bd (y := y) (m := m) m1 (by omega)
  have hdl := Civil.days_le y m
  have HM := Lib.hid fun (k : Int) (a : 1 ≤ k) (b : k < m) => Civil.ahead_mono y (m := k) a b (by omega)
  have HX := Lib.hid fun (k : Int) (a : 1 ≤ k) (b : k ≤ 12) => Civil.ahead_next (y := y) (m := k) a b
  have HB := Lib.hid fun (k : Int) (a : 1 ≤ k) (b : k ≤ 13) => Civil.ahead_bd (y := y) (m := k) a b
  have HDL := Lib.hid fun k => Civil.days_le y k
  have KDs := Lib.hid fun k => civilDays y k
  have H1 := Lib.hid (Civil.ahead_one y)
  obtain ⟨n1, n2⟩ := hn
  generalize Civil.first y = F at *
  have E0 := Lib.hid e
  clear hy e
  go_enter Tryd.func37, Tryd.ntmps37
  go_wp2_with (first | (go_at_call 48; refine (KI.out _).mono ?_; rintro e w2 ⟨rfl, rfl⟩) | (go_at_call 53; refine (KY.out _).mono ?_; rintro e w2 ⟨rfl, hb1⟩; replace hok := hok.trans hb1; replace hT := hT.next hb1; clear hb1) | (go_at_call 47; refine (KN.out _).mono ?_; rintro e w2 ⟨rfl, hb1⟩; replace hok := hok.trans hb1; replace hT := hT.next hb1; clear hb1))
  go_loopw [7, 8] (fun i s wr => ∃ k : Int, i = .int .i64 k ∧ 1 ≤ k ∧ k ≤ m ∧ s = .int .i64 (Civil.ahead y m + d - Civil.ahead y k) ∧ Tab wr ∧ Ok w wr) (fun i _ _ => (m - intOf i).toNat)
  case atStart => exact ⟨1, rfl, by omega, by omega, by rw [H1.out, E0.out]; congr 1; omega, hT, hok⟩
  case round =>
    obtain ⟨k, rfl, k1, k2, rfl, hTr, hokr⟩ := hrel
    clear hok hT KN KI KY H1 E0
    have hA := HB.out k k1 (by omega)
    have KK := Lib.hid (KDs.out k)
    by_cases hlt : k < m
    · have hD := HDL.out k
      have E := HX.out k k1 (by omega)
      have hMo := HM.out k k1 hlt
      have EA := Lib.hid E
      clear E
      generalize Civil.ahead y k = A at hA EA hMo ⊢
      generalize Civil.ahead y m = M at *
      generalize Civil.days y k = DD at KK hD EA hMo
      clear HM HX HDL KDs HB
      go_wp2_with (go_at_call 46; refine (KK.out _ hTr).mono ?_; rintro e w2 ⟨rfl, hb1⟩; replace hokr := hokr.trans hb1; replace hTr := hTr.next hb1; clear hb1)
      go_roundw
      case rel => exact ⟨k + 1, by go_num, by omega, by omega, by rw [EA.out]; go_num, hTr, hokr⟩
      case measure => simp [intOf]; omega
    · have e : k = m := by omega
      subst e
      clear HM HX HDL KDs HB
      rw [show Civil.ahead y k + d - Civil.ahead y k = d by omega]
      generalize Civil.days y k = D at *
      go_wp2_with (go_at_call 46; refine (KK.out _ hTr).mono ?_; rintro e w2 ⟨rfl, hb1⟩; replace hokr := hokr.trans hb1; clear hb1)
      exact bodyPost_ret (v := .tuple #[.int .i64 y, .int .i64 k, .int .i64 d, .bool true]) (by simp [results, Tryd.results37, go_sem]) rfl ⟨rfl, hokr⟩
end Go.Proofs.YtacphjdkobodnaaDoor
