/- Contracts of layer 17: the document's Leap, Days, Year, Begin, Day. -/
import Derived.Test.YtpblehdkkdjfoaaDoorW02
import Derived.Test.YtpblehdkkdjfoaaDoorM33
import Derived.Deep.QuietTactic
import Derived.BigQuiet
import Derived.Deep.DrawnRows
namespace Go.Proofs.YtpblehdkkdjfoaaDoor
open Go.RowKit
set_option maxRecDepth 100000
attribute [local go_sem ↓] Go.wp_at_zero Go.wp_at_succ

theorem ref17Leap (y : Int) (w : World) : Calls Tryd.prog 11 #[.int .i64 y] w fun e w' => e = .returned (.bool (Civil.isLeap y)) ∧ w = w' := by
  have b4 : -4 < y.tmod 4 ∧ y.tmod 4 < 4 := Civil.tmod_bd y 4 (by omega)
  have b1 : -100 < y.tmod 100 ∧ y.tmod 100 < 100 := Civil.tmod_bd y 100 (by omega)
  have b5 : -400 < y.tmod 400 ∧ y.tmod 400 < 400 := Civil.tmod_bd y 400 (by omega)
  have z4 := Civil.tmod_zero y 4
  have z1 := Civil.tmod_zero y 100
  have z5 := Civil.tmod_zero y 400
  have K : Civil.isLeap y = decide (y.tmod 4 = 0 ∧ (y.tmod 100 ≠ 0 ∨ y.tmod 400 = 0)) := by
    unfold Civil.isLeap; rw [decide_eq_decide, ← z4, ← z5, Ne, Ne, ← z1]
  have K5 : y.tmod 400 = 0 → y.tmod 4 = 0 := fun h => by rw [z4]; have := z5.1 h; omega
  rw [K]
  clear K z4 z1 z5
  obtain ⟨A, hA⟩ : ∃ A, y.tmod 4 = A := ⟨_, rfl⟩
  obtain ⟨B, hB⟩ : ∃ B, y.tmod 100 = B := ⟨_, rfl⟩
  obtain ⟨C, hC⟩ : ∃ C, y.tmod 400 = C := ⟨_, rfl⟩
  rw [hA] at b4 K5 ⊢
  rw [hB] at b1 ⊢
  rw [hC] at b5 K5 ⊢
  by_cases d4 : A = 0 <;> by_cases d1 : B = 0 <;> by_cases d5 : C = 0
  all_goals first
    | (exfalso; exact d4 (K5 d5))
    | (clear K5
       simp only [d4, d1, d5, ne_eq, not_true, not_false_iff, false_and, true_and, or_true, true_or, or_self, decide_true, decide_false]
       go_enter Tryd.func11, Tryd.ntmps11
       go_wp2
       go_ret
       first | exact ⟨rfl, rfl⟩ | (refine ⟨?_, rfl⟩; simp [d1]; done))
theorem ref17Days (y m : Int) (w : World) : Calls Tryd.prog 12 #[.int .i64 y, .int .i64 m] w fun e w' => e = .returned (.int .i64 (Civil.days y m)) ∧ Ok w w' := by
  have hok := Ok.refl w
  by_cases h1 : m < 1
  · rw [Civil.days_no (Or.inl h1)]
    go_enter Tryd.func12, Tryd.ntmps12
    go_wp2
    go_ret
    exact ⟨rfl, hok⟩
  by_cases h2 : 12 < m
  · rw [Civil.days_no (Or.inr h2)]
    go_enter Tryd.func12, Tryd.ntmps12
    go_wp2
    go_ret
    exact ⟨rfl, hok⟩
  by_cases h3 : m = 2
  · subst h3
    obtain ⟨L, hL⟩ : ∃ L, Civil.isLeap y = L := ⟨_, rfl⟩
    have KL := Lib.hid fun w => ref17Leap y w
    rw [hL] at KL
    cases L
    · rw [show Civil.days y 2 = 28 by rw [Civil.days_feb, Civil.one_f hL]; rfl]
      clear hL h1 h2
      go_enter Tryd.func12, Tryd.ntmps12
      go_wp2_with (go_at_call 11; refine (KL.out _).mono ?_; rintro e w' ⟨rfl, rfl⟩)
      go_ret
      exact ⟨rfl, hok⟩
    · rw [show Civil.days y 2 = 29 by rw [Civil.days_feb, Civil.one_t hL]; rfl]
      clear hL h1 h2
      go_enter Tryd.func12, Tryd.ntmps12
      go_wp2_with (go_at_call 11; refine (KL.out _).mono ?_; rintro e w' ⟨rfl, rfl⟩)
      go_ret
      exact ⟨rfl, hok⟩
  · have hc : m = 1 ∨ m = 3 ∨ m = 4 ∨ m = 5 ∨ m = 6 ∨ m = 7 ∨ m = 8 ∨ m = 9 ∨ m = 10 ∨ m = 11 ∨ m = 12 := by omega
    clear h1 h2 h3
    rcases hc with rfl | rfl | rfl | rfl | rfl | rfl | rfl | rfl | rfl | rfl | rfl
    all_goals
      simp only [Civil.days]
      simp only [Int.reduceLT, Int.reduceEq, or_self, or_true, or_false, if_true, if_false]
      go_enter Tryd.func12, Tryd.ntmps12
      go_wp2
      go_ret
      exact ⟨rfl, hok⟩
theorem ref17Year (y : Int) (w : World) : Calls Tryd.prog 23 #[.int .i64 y] w fun e w' => e = .returned (.int .i64 (365 + Civil.one y)) ∧ Ok w w' := by
  have hok := Ok.refl w
  have KL := Lib.hid fun w => ref17Leap y w
  obtain ⟨L, hL⟩ : ∃ L, Civil.isLeap y = L := ⟨_, rfl⟩
  rw [hL] at KL
  cases L
  · rw [Civil.one_f hL]
    clear hL
    go_enter Tryd.func23, Tryd.ntmps23
    go_wp2_with (go_at_call 11; refine (KL.out _).mono ?_; rintro e w' ⟨rfl, rfl⟩)
    go_ret
    exact ⟨rfl, hok⟩
  · rw [Civil.one_t hL]
    clear hL
    go_enter Tryd.func23, Tryd.ntmps23
    go_wp2_with (go_at_call 11; refine (KL.out _).mono ?_; rintro e w' ⟨rfl, rfl⟩)
    go_ret
    exact ⟨rfl, hok⟩
set_option maxHeartbeats 1600000 in
theorem ref17Begin (y : Int) (h1 : -20000000 ≤ y) (h2 : y ≤ 20000000) (w : World) : Calls Tryd.prog 21 #[.int .i64 y] w fun e w' => e = .returned (.int .i64 (Civil.first y)) ∧ Ok w w' := by
  have hok := Ok.refl w
  have HN := Lib.hid fun z => Civil.first_next z
  have HB := Lib.hid fun z (a : -100000000 ≤ z) b => Civil.first_in (y := z) a b
  have HO := Lib.hid Civil.one_bd
  have KY := Lib.hid ref17Year
  have H0 := Lib.hid fun q => Civil.first_400 1970 q
  by_cases hc : 1970 ≤ y
  · obtain ⟨q, hq⟩ : ∃ q, (y - 1970).tdiv 400 = q := ⟨_, rfl⟩
    have hq2 : (y - 1970) / 400 = q := by rw [← Int.tdiv_eq_ediv_of_nonneg (by omega)]; exact hq
    have hqb : 0 ≤ q ∧ q ≤ 50000 ∧ 1970 + q * 400 ≤ y := by omega
    clear hq2
    obtain ⟨q1, q2, q3⟩ := hqb
    go_enter Tryd.func21, Tryd.ntmps21
    go_wp2_with fail
    go_loopw [3, 4] (fun s i wr => ∃ z : Int, i = .int .i64 z ∧ -21000000 ≤ z ∧ z ≤ y ∧ s = .int .i64 (Civil.first z) ∧ Ok w wr) (fun _ i _ => (y - intOf i).toNat)
    case atStart =>
      refine ⟨1970 + q * 400, rfl, by omega, q3, ?_, hok⟩
      have := H0.out q
      rw [show (1970 : Int) + q * 400 = 1970 + 400 * q by omega, this, Civil.first_1970]
      congr 1; omega
    case round =>
      clear hq q1 q2 q3 hok
      obtain ⟨z, rfl, z1, z2, rfl, hokr⟩ := hrel
      have hF := HB.out z (by omega) (by omega)
      by_cases hlt : z < y
      · have hO := HO.out z
        have K := Lib.hid (KY.out z)
        have E := Lib.hid (HN.out z)
        generalize Civil.first z = F at hF E ⊢
        generalize Civil.one z = o at *
        clear H0 KY HO HB HN
        go_wp2_with (go_at_call 23; refine (K.out _).mono ?_; rintro e w2 ⟨rfl, hb1⟩; replace hokr := hokr.trans hb1; clear hb1)
        go_roundw
        case rel => exact ⟨z + 1, by go_num, by omega, by omega, by rw [E.out]; go_num, hokr⟩
        case measure => simp [intOf]; omega
      · have e : z = y := by omega
        subst e
        clear H0 KY HO HB HN
        go_wp2_with fail
        go_ret
        exact ⟨rfl, hokr⟩
  · obtain ⟨q, hq⟩ : ∃ q, (1970 - y + 399).tdiv 400 = q := ⟨_, rfl⟩
    have hq2 : (1970 - y + 399) / 400 = q := by rw [← Int.tdiv_eq_ediv_of_nonneg (by omega)]; exact hq
    have hq3 : (-(1970 - y + 399)).tdiv 400 = -q := by rw [Int.neg_tdiv, hq]
    have hqb : 0 ≤ q ∧ q ≤ 60000 ∧ 1970 - q * 400 ≤ y ∧ -20010000 ≤ 1970 - q * 400 := by omega
    clear hq2
    obtain ⟨q1, q2, q3, q4⟩ := hqb
    go_enter Tryd.func21, Tryd.ntmps21
    go_wp2_with fail
    go_loopw [3, 4] (fun s i wr => ∃ z : Int, i = .int .i64 z ∧ -21000000 ≤ z ∧ z ≤ y ∧ s = .int .i64 (Civil.first z) ∧ Ok w wr) (fun _ i _ => (y - intOf i).toNat)
    case atStart =>
      refine ⟨1970 - q * 400, rfl, by omega, q3, ?_, hok⟩
      have := H0.out (-q)
      rw [show (1970 : Int) - q * 400 = 1970 + 400 * -q by omega, this, Civil.first_1970]
      congr 1; omega
    case round =>
      clear hq hq3 q1 q2 q3 q4 hok
      obtain ⟨z, rfl, z1, z2, rfl, hokr⟩ := hrel
      have hF := HB.out z (by omega) (by omega)
      by_cases hlt : z < y
      · have hO := HO.out z
        have K := Lib.hid (KY.out z)
        have E := Lib.hid (HN.out z)
        generalize Civil.first z = F at hF E ⊢
        generalize Civil.one z = o at *
        clear H0 KY HO HB HN
        go_wp2_with (go_at_call 23; refine (K.out _).mono ?_; rintro e w2 ⟨rfl, hb1⟩; replace hokr := hokr.trans hb1; clear hb1)
        go_roundw
        case rel => exact ⟨z + 1, by go_num, by omega, by omega, by rw [E.out]; go_num, hokr⟩
        case measure => simp [intOf]; omega
      · have e : z = y := by omega
        subst e
        clear H0 KY HO HB HN
        go_wp2_with fail
        go_ret
        exact ⟨rfl, hokr⟩
theorem ref17DayNo (y m d : Int) (w : World) (h : ¬ Civil.real y m d) : Calls Tryd.prog 15 #[.int .i64 y, .int .i64 m, .int .i64 d] w fun e w' => e = .returned (.tuple #[.int .i64 0, .bool false]) ∧ Ok w w' := by
  have hok := Ok.refl w
  by_cases h1 : 11767033 < y
  · clear h
    go_enter Tryd.func15, Tryd.ntmps15
    go_wp2_with fail
    go_ret2
    exact ⟨rfl, hok⟩
  by_cases h2 : y < -11767033
  · clear h
    go_enter Tryd.func15, Tryd.ntmps15
    go_wp2_with fail
    go_ret2
    exact ⟨rfl, hok⟩
  by_cases h3 : d < 1
  · clear h
    go_enter Tryd.func15, Tryd.ntmps15
    go_wp2_with fail
    go_ret2
    exact ⟨rfl, hok⟩
  · have h4 : Civil.days y m < d := by
      rcases Int.lt_or_le (Civil.days y m) d with g | g
      · exact g
      · exact absurd ⟨⟨by omega, by omega⟩, by omega, g⟩ h
    have KD := Lib.hid (ref17Days y m)
    have hb := Civil.days_le y m
    generalize Civil.days y m = D at KD h4 hb
    clear h
    go_enter Tryd.func15, Tryd.ntmps15
    go_wp2_with (go_at_call 12; refine (KD.out _).mono ?_; rintro e w2 ⟨rfl, hb1⟩; replace hok := hok.trans hb1; clear hb1)
    go_ret2
    exact ⟨rfl, hok⟩
set_option maxHeartbeats 1600000 in
theorem ref17DayReal (y m d : Int) (w : World) (h : Civil.real y m d) : Calls Tryd.prog 15 #[.int .i64 y, .int .i64 m, .int .i64 d] w fun e w' => e = .returned (.tuple #[.int .i64 (if Civil.inn (Civil.num y m d) then Civil.num y m d else 0), .bool (decide (Civil.inn (Civil.num y m d)))]) ∧ Ok w w' := by
  have hok := Ok.refl w
  obtain ⟨m1, m2⟩ := h.month
  obtain ⟨⟨y1, y2⟩, d1, d2⟩ := h
  have KN := Lib.hid fun w => ref17Begin y (by omega) (by omega) w
  have KD := Lib.hid (ref17Days y m)
  have hfb := Civil.first_in (y := y) (by omega) (by omega)
  have hab := Civil.ahead_bd (y := y) (m := m) m1 (by omega)
  have hdl := Civil.days_le y m
  have HM := Lib.hid fun (k : Int) (a : 1 ≤ k) (b : k ≤ 13) => Civil.ahead_bd (y := y) (m := k) a b
  have HX := Lib.hid fun (k : Int) (a : 1 ≤ k) (b : k ≤ 12) => Civil.ahead_next (y := y) (m := k) a b
  have HDL := Lib.hid fun k => Civil.days_le y k
  have KDs := Lib.hid fun k => ref17Days y k
  have H1 := Lib.hid (Civil.ahead_one y)
  have HIN : Civil.inn (Civil.num y m d) ↔ -4294967296 ≤ Civil.num y m d ∧ Civil.num y m d ≤ 4294967296 := Iff.rfl
  unfold Civil.num at HIN ⊢
  generalize Civil.first y = F at *
  generalize Civil.days y m = D at KD d2 hdl
  have key : ∀ q : Bool, decide (Civil.inn (F + Civil.ahead y m + d - 1)) = q → Calls Tryd.prog 15 #[.int .i64 y, .int .i64 m, .int .i64 d] w fun e w' => e = .returned (.tuple #[.int .i64 (if q = true then F + Civil.ahead y m + d - 1 else 0), .bool q]) ∧ Ok w w' := by
    intro q hq
    cases q
    · have hno : F + Civil.ahead y m + d - 1 < -4294967296 ∨ 4294967296 < F + Civil.ahead y m + d - 1 := by
        have := of_decide_eq_false hq; rw [HIN] at this; omega
      clear hq HIN
      simp only [if_false, reduceCtorEq]
      rcases hno with hno | hno
      all_goals
        go_enter Tryd.func15, Tryd.ntmps15
        go_wp2_with (first | (go_at_call 12; refine (KD.out _).mono ?_; rintro e w2 ⟨rfl, hb1⟩; replace hok := hok.trans hb1; clear hb1) | (go_at_call 21; refine (KN.out _).mono ?_; rintro e w2 ⟨rfl, hb1⟩; replace hok := hok.trans hb1; clear hb1))
        go_loopw [8, 9] (fun s i wr => ∃ k : Int, i = .int .i64 k ∧ 1 ≤ k ∧ k ≤ m ∧ s = .int .i64 (F + Civil.ahead y k + d - 1) ∧ Ok w wr) (fun _ i _ => (m - intOf i).toNat)
        case atStart => exact ⟨1, rfl, by omega, by omega, by rw [H1.out]; simp, hok⟩
        case round =>
          obtain ⟨k, rfl, k1, k2, rfl, hokr⟩ := hrel
          clear hok KN KD H1
          have hA := HM.out k k1 (by omega)
          by_cases hlt : k < m
          · have KK := Lib.hid (KDs.out k)
            have hD := HDL.out k
            have E := HX.out k k1 (by omega)
            have EA := Lib.hid E
            clear E hno
            generalize Civil.ahead y k = A at hA EA ⊢
            generalize Civil.days y k = DD at KK hD EA
            clear HM HX HDL KDs hab
            go_wp2_with (go_at_call 12; refine (KK.out _).mono ?_; rintro e w2 ⟨rfl, hb1⟩; replace hokr := hokr.trans hb1; clear hb1)
            go_roundw
            case rel => exact ⟨k + 1, by go_num, by omega, by omega, by rw [EA.out]; go_num, hokr⟩
            case measure => simp [intOf]; omega
          · have e : k = m := by omega
            subst e
            clear HM HX HDL KDs
            go_wp2_with fail
            go_ret2
            exact ⟨rfl, hokr⟩
    · obtain ⟨i1, i2⟩ := HIN.1 (of_decide_eq_true hq)
      clear hq HIN
      simp only [if_true]
      go_enter Tryd.func15, Tryd.ntmps15
      go_wp2_with (first | (go_at_call 12; refine (KD.out _).mono ?_; rintro e w2 ⟨rfl, hb1⟩; replace hok := hok.trans hb1; clear hb1) | (go_at_call 21; refine (KN.out _).mono ?_; rintro e w2 ⟨rfl, hb1⟩; replace hok := hok.trans hb1; clear hb1))
      go_loopw [8, 9] (fun s i wr => ∃ k : Int, i = .int .i64 k ∧ 1 ≤ k ∧ k ≤ m ∧ s = .int .i64 (F + Civil.ahead y k + d - 1) ∧ Ok w wr) (fun _ i _ => (m - intOf i).toNat)
      case atStart => exact ⟨1, rfl, by omega, by omega, by rw [H1.out]; simp, hok⟩
      case round =>
        obtain ⟨k, rfl, k1, k2, rfl, hokr⟩ := hrel
        clear hok KN KD H1
        have hA := HM.out k k1 (by omega)
        by_cases hlt : k < m
        · have KK := Lib.hid (KDs.out k)
          have hD := HDL.out k
          have E := HX.out k k1 (by omega)
          have EA := Lib.hid E
          clear E i1 i2
          generalize Civil.ahead y k = A at hA EA ⊢
          generalize Civil.days y k = DD at KK hD EA
          clear HM HX HDL KDs hab
          go_wp2_with (go_at_call 12; refine (KK.out _).mono ?_; rintro e w2 ⟨rfl, hb1⟩; replace hokr := hokr.trans hb1; clear hb1)
          go_roundw
          case rel => exact ⟨k + 1, by go_num, by omega, by omega, by rw [EA.out]; go_num, hokr⟩
          case measure => simp [intOf]; omega
        · have e : k = m := by omega
          subst e
          clear HM HX HDL KDs
          go_wp2_with fail
          go_ret2
          exact ⟨rfl, hokr⟩
  have hk := key _ rfl
  simpa only [decide_eq_true_eq] using hk
end Go.Proofs.YtpblehdkkdjfoaaDoor
