/- Contracts of layer 17: the document's Date. -/
import Derived.Test.YtacphjdkobodnaaDoorC17c
namespace Go.Proofs.YtacphjdkobodnaaDoor
open Go.RowKit
set_option maxRecDepth 100000
attribute [local go_sem ↓] Go.wp_at_zero Go.wp_at_succ
theorem first_wide {z c n : Int} (hn : Civil.inn n) (h : Civil.first z + c = n) (h1 : -4294967296 ≤ c) (h2 : c ≤ 4294967296) : -24000000 ≤ z ∧ z ≤ 24000000 := by
  obtain ⟨n1, n2⟩ := hn
  rw [← Civil.first_bd] at h; omega
theorem ref17DateNo (n : Int) (w : World) (h : ¬ Civil.inn n) : Calls Tryd.prog 30 #[.int .i64 n] w fun e w' => e = .returned (.tuple #[.int .i64 0, .int .i64 0, .int .i64 0, .bool false]) ∧ Ok w w' := by
  have hok := Ok.refl w
  by_cases h1 : 4294967296 < n
  · clear h
    go_enter Tryd.func30, Tryd.ntmps30
    go_wp2_with fail
    exact bodyPost_ret (v := .tuple #[.int .i64 0, .int .i64 0, .int .i64 0, .bool false]) (by simp [results, Tryd.results30, go_sem]) rfl ⟨rfl, hok⟩
  · have h2 : n < -4294967296 := by
      rcases Int.lt_or_le n (-4294967296) with g | g
      · exact g
      · exact absurd ⟨g, by omega⟩ h
    clear h
    go_enter Tryd.func30, Tryd.ntmps30
    go_wp2_with fail
    exact bodyPost_ret (v := .tuple #[.int .i64 0, .int .i64 0, .int .i64 0, .bool false]) (by simp [results, Tryd.results30, go_sem]) rfl ⟨rfl, hok⟩
set_option maxHeartbeats 3200000 in
theorem ref17Date (n y m d : Int) (w : World) (hn : Civil.inn n) (h : Civil.Is n y m d) : Calls Tryd.prog 30 #[.int .i64 n] w fun e w' => e = .returned (.tuple #[.int .i64 y, .int .i64 m, .int .i64 d, .bool true]) ∧ Ok w w' := by
  have hok := Ok.refl w
  have hy := h.year
  have HY := Lib.hid fun z a b => Civil.year_one hy.1 hy.2 (z := z) a b
  have HW := Lib.hid fun z c a b e => first_wide (z := z) (c := c) hn a b e
  obtain ⟨⟨m1, m2⟩, ⟨d1, d2⟩, e⟩ := h
  have hab := Civil.ahead_bd (y := y) (m := m) m1 (by omega)
  have hdl := Civil.days_le y m
  have HM := Lib.hid fun (k : Int) (a : 1 ≤ k) (b : k < m) => Civil.ahead_mono y (m := k) a b (by omega)
  have HX := Lib.hid fun (k : Int) (a : 1 ≤ k) (b : k ≤ 12) => Civil.ahead_next (y := y) (m := k) a b
  have HB := Lib.hid fun (k : Int) (a : 1 ≤ k) (b : k ≤ 13) => Civil.ahead_bd (y := y) (m := k) a b
  have HDL := Lib.hid fun k => Civil.days_le y k
  have KDs := Lib.hid fun k => ref17Days y k
  have KY := Lib.hid ref17Year
  have HO := Lib.hid Civil.one_bd
  have HN := Lib.hid fun z => Civil.first_next z
  have H4 := Lib.hid fun z q => Civil.first_400 z q
  have H1 := Lib.hid (Civil.ahead_one y)
  obtain ⟨n1, n2⟩ := hn
  have E0 := Lib.hid e
  clear hy e
  go_enter Tryd.func30, Tryd.ntmps30
  go_wp2_with fail
  go_loopw [0, 6, 7] (fun s i u wr => ∃ c z : Int, s = .int .i64 c ∧ i = .int .i64 z ∧ -4294967296 ≤ c ∧ c ≤ 4294967296 ∧ Civil.first z + c = n ∧ Ok w wr) (fun s _ _ _ => (-(intOf s)).toNat)
  case atStart => exact ⟨n, 1970, rfl, rfl, n1, n2, by rw [Civil.first_1970]; omega, hok⟩
  case round =>
    obtain ⟨c, z, rfl, rfl, c1, c2, hc, hokr⟩ := hrel
    clear hok
    obtain ⟨z1, z2⟩ := HW.out z c hc c1 c2
    by_cases hlt : c < 0
    · obtain ⟨k, hk⟩ : ∃ k, (-c + 146096).tdiv 146097 = k := ⟨_, rfl⟩
      have hk2 : (-c + 146096) / 146097 = k := by rw [← Int.tdiv_eq_ediv_of_nonneg (by omega)]; exact hk
      have hkb : 0 ≤ k ∧ k ≤ 30000 ∧ 0 ≤ c + k * 146097 ∧ c + k * 146097 ≤ 146096 := by omega
      clear hk2
      obtain ⟨k1, k2, k3, k4⟩ := hkb
      have e4 : Civil.first (z - 400 * k) + (c + k * 146097) = n := by
        rw [show z - 400 * k = z + 400 * -k by omega, H4.out z (-k), ← hc]; omega
      have E4 := Lib.hid e4
      clear e4 hc
      go_wp2_with fail
      go_roundw
      case rel => exact ⟨c + k * 146097, z - 400 * k, by go_num, by go_num, by omega, by omega, E4.out, hokr⟩
      case measure => simp [intOf]; omega
    · obtain ⟨q, hq⟩ : ∃ q, c.tdiv 146097 = q := ⟨_, rfl⟩
      obtain ⟨r, hr⟩ : ∃ r, c.tmod 146097 = r := ⟨_, rfl⟩
      have hq2 : c / 146097 = q := by rw [← Int.tdiv_eq_ediv_of_nonneg (by omega)]; exact hq
      have hr2 : c % 146097 = r := by rw [← Int.tmod_eq_emod_of_nonneg (by omega)]; exact hr
      have hqb : 0 ≤ q ∧ q ≤ 30000 ∧ 0 ≤ r ∧ r ≤ 146096 ∧ c = q * 146097 + r := by omega
      clear hq2 hr2
      obtain ⟨q1, q2, r1, r2, e5⟩ := hqb
      have e4 : Civil.first (z + q * 400) + r = n := by
        rw [show z + q * 400 = z + 400 * q by omega, H4.out z q]; omega
      have E4 := Lib.hid e4
      clear e4 hc e5
      go_wp2_with fail
      go_loopw [0, 6] (fun s i wr => ∃ c z : Int, s = .int .i64 c ∧ i = .int .i64 z ∧ 0 ≤ c ∧ c ≤ 146096 ∧ Civil.first z + c = n ∧ Ok w wr) (fun s _ _ => (intOf s).toNat)
      case atStart => exact ⟨r, z + q * 400, rfl, rfl, r1, r2, E4.out, hokr⟩
      case round =>
        clear hq hr q1 q2 r1 r2 E4 hokr c1 c2 z1 z2 hlt
        obtain ⟨c, z, rfl, rfl, c1, c2, hc, hok⟩ := hrel
        obtain ⟨z1, z2⟩ := HW.out z c hc (by omega) (by omega)
        have hO := HO.out z
        have K := Lib.hid (KY.out z)
        have hN := HN.out z
        by_cases hlt : 365 + Civil.one z ≤ c
        · have e4 : Civil.first (z + 1) + (c - (365 + Civil.one z)) = n := by omega
          have E4 := Lib.hid e4
          clear e4 hc hN
          generalize Civil.one z = o at *
          go_wp2_with (go_at_call 44; refine (K.out _).mono ?_; rintro e w2 ⟨rfl, hb1⟩; replace hok := hok.trans hb1; clear hb1)
          go_roundw
          case rel => exact ⟨c - (365 + o), z + 1, by go_num, by go_num, by omega, by omega, E4.out, hok⟩
          case measure => simp [intOf]; omega
        · have ez : z = y := HY.out z (by omega) (by omega)
          subst ez
          have ec : c = Civil.ahead z m + d - 1 := by have := E0.out; omega
          have EC := Lib.hid ec
          clear hc hN ec HY HW H4 HN HO KY E0
          generalize Civil.one z = o at *
          go_wp2_with (go_at_call 44; refine (K.out _).mono ?_; rintro e w2 ⟨rfl, hb1⟩; replace hok := hok.trans hb1; clear hb1)
          go_loopw [0, 8] (fun s i wr => ∃ k : Int, i = .int .i64 k ∧ 1 ≤ k ∧ k ≤ m ∧ s = .int .i64 (Civil.ahead z m + d - 1 - Civil.ahead z k) ∧ Ok w wr) (fun _ i _ => (m - intOf i).toNat)
          case atStart => exact ⟨1, rfl, by omega, by omega, by rw [H1.out, EC.out]; congr 1; omega, hok⟩
          case round =>
            clear K H1 EC hok hlt hO c1 c2
            obtain ⟨k, rfl, k1, k2, rfl, hok⟩ := hrel
            have hA := HB.out k k1 (by omega)
            have KK := Lib.hid (KDs.out k)
            by_cases hlt : k < m
            · have hD := HDL.out k
              have E := HX.out k k1 (by omega)
              have hMo := HM.out k k1 hlt
              have EA := Lib.hid E
              clear E
              generalize Civil.ahead z k = A at hA EA hMo ⊢
              generalize Civil.ahead z m = M at *
              generalize Civil.days z k = DD at KK hD EA hMo
              clear HM HX HDL KDs HB
              go_wp2_with (go_at_call 45; refine (KK.out _).mono ?_; rintro e w2 ⟨rfl, hb1⟩; replace hok := hok.trans hb1; clear hb1)
              go_roundw
              case rel => exact ⟨k + 1, by go_num, by omega, by omega, by rw [EA.out]; go_num, hok⟩
              case measure => simp [intOf]; omega
            · have e : k = m := by omega
              subst e
              clear HM HX HDL KDs HB
              rw [show Civil.ahead z k + d - 1 - Civil.ahead z k = d - 1 by omega]
              generalize Civil.days z k = D at *
              go_wp2_with (go_at_call 45; refine (KK.out _).mono ?_; rintro e w2 ⟨rfl, hb1⟩; replace hok := hok.trans hb1; clear hb1)
              exact bodyPost_ret (v := .tuple #[.int .i64 z, .int .i64 k, .int .i64 d, .bool true]) (by simp [results, Tryd.results30, go_sem]) rfl ⟨rfl, hok⟩
end Go.Proofs.YtacphjdkobodnaaDoor
