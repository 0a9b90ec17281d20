/- Contracts of layer 2's document functions: how rates stand. -/
import Derived.Test.YtpikbcdghmmocaaC02d
import Derived.Deep.QuietTactic
import Derived.BigQuiet
namespace Go.Proofs.Ytpikbcdghmmocaa
open Go.RowKit
set_option maxRecDepth 100000

theorem rates_one (an ad bn bd : Int) : (Sat.clip an < 0 → 0 ≤ Sat.clip bn → Wide.rates an ad bn bd = -1) ∧ (0 ≤ Sat.clip an → Sat.clip bn < 0 → Wide.rates an ad bn bd = 1) := by
  have h1 := (Wide.one_bd ad).1
  have h2 := (Wide.one_bd bd).1
  unfold Wide.rates Wide.cmp
  constructor <;> intro ha hb
  · have a1 := Int.mul_neg_of_neg_of_pos ha (show 0 < Wide.one bd by omega)
    have a2 := Int.mul_nonneg hb (show 0 ≤ Wide.one ad by omega)
    rw [if_pos (by omega)]
  · have a1 := Int.mul_nonneg ha (show 0 ≤ Wide.one bd by omega)
    have a2 := Int.mul_neg_of_neg_of_pos hb (show 0 < Wide.one ad by omega)
    rw [if_neg (by omega), if_pos (by omega)]
theorem rates_neg (an ad bn bd : Int) : Wide.rates an ad bn bd = -Wide.rates (-Sat.clip an) ad (-Sat.clip bn) bd := by
  unfold Wide.rates
  rw [Sat.clip_neg, Sat.clip_neg, Sat.clip_clip, Sat.clip_clip, Int.neg_mul, Int.neg_mul, Wide.cmp_neg, Int.neg_neg]
set_option maxHeartbeats 1600000 in
theorem refComparePos (an ad bn bd : Int) (ha : 0 ≤ Sat.clip an) (hb : 0 ≤ Sat.clip bn) (w : World) :
    Calls Try.prog 18 #[.int .i64 an, .int .i64 ad, .int .i64 bn, .int .i64 bd] w fun e w' => e = .returned (.int .i64 (Wide.rates an ad bn bd)) ∧ Ok w w' := by
  have ca := Sat.clip_bd an
  have cb := Sat.clip_bd bn
  have oa := Wide.one_bd ad
  have ob := Wide.one_bd bd
  obtain ⟨x, hx⟩ := Int.eq_ofNat_of_zero_le ha
  obtain ⟨y, hy⟩ := Int.eq_ofNat_of_zero_le hb
  obtain ⟨p, hp⟩ := Int.eq_ofNat_of_zero_le (show 0 ≤ Wide.one bd by omega)
  obtain ⟨q, hq⟩ := Int.eq_ofNat_of_zero_le (show 0 ≤ Wide.one ad by omega)
  have hr : Wide.rates an ad bn bd = Wide.cmp ((x * p : Nat) : Int) ((y * q : Nat) : Int) := by unfold Wide.rates; rw [hx, hy, hp, hq, Int.natCast_mul, Int.natCast_mul]
  rw [hr]
  have D1 := Lib.hid fun w => refDigits x p (by omega) (by omega) w
  have D2 := Lib.hid fun w => refDigits y q (by omega) (by omega) w
  clear hr ca cb oa ob ha hb
  go_enter Try.func18, Try.ntmps18
  go_wp2_with (first | (go_at_call 21; refine (refClip _ _).mono ?_; rintro e w' ⟨rfl, rfl⟩) | (go_at_call 22; refine (refOne _ _).mono ?_; rintro e w' ⟨rfl, rfl⟩))
  refine (D1.out _).mono ?_
  rintro e w1 ⟨A, l, rfl, hl, hlb, hlv, hli, hok1⟩
  have HLB := Lib.hid hlb
  have HLV := Lib.hid hlv
  have HLI := Lib.hid hli
  have HL := Lib.hid hl
  clear hlb hlv hli hl
  go_wp2_with (first | (go_at_call 22; refine (refOne _ _).mono ?_; rintro e w' ⟨rfl, rfl⟩))
  refine (D2.out _).mono ?_
  rintro e w2 ⟨B, m, rfl, hm, hmb, hmv, hmi, hok2⟩
  have HMB := Lib.hid hmb
  have HMV := Lib.hid hmv
  have HMI := Lib.hid hmi
  have hlm : l.length = m.length := by rw [HL.out, hm]
  have l200 : l.length ≤ 200 := by rw [HL.out]; decide
  have HM := Lib.hid hm
  have HLM := Lib.hid hlm
  have hok := hok1.trans hok2
  have HLI2 := Lib.hid (hok2.ints HLI.out)
  clear hmb hmv hmi hm hlm hok1 hok2 HLI
  go_wp2_with fail
  go_loopw [48] (fun i wx => ∃ k : Nat, k ≤ l.length ∧ i = .int .i64 k ∧ l.take k = m.take k ∧ Ok w2 wx) (fun i _ => l.length - (intOf i).toNat)
  case atStart => exact ⟨0, Nat.zero_le _, rfl, rfl, Ok.refl _⟩
  case round =>
    obtain ⟨k, hk, rfl, htk, hokr⟩ := hrel
    have HTK := Lib.hid htk
    clear htk
    by_cases hlt : k < l.length
    · have hlt' : k < m.length := by have := HLM.out; omega
      obtain ⟨b1, off1, hA, hb1, hc1⟩ := hokr.ints HLI2.out k hlt
      obtain ⟨b2, off2, hB, hb2, hc2⟩ := hokr.ints HMI.out k hlt'
      subst hA
      subst hB
      have hd1 := Wide.bits_get HLB.out hlt
      have hd2 := Wide.bits_get HMB.out hlt'
      obtain ⟨d1, hdd1⟩ : ∃ d, l[k] = d := ⟨_, rfl⟩
      obtain ⟨d2, hdd2⟩ : ∃ d, m[k] = d := ⟨_, rfl⟩
      have hcmp := Wide.bits_cmp HLB.out HMB.out HLM.out hlt hlt' HTK.out
      rw [hdd1] at hc1 hd1 hcmp
      rw [hdd2] at hc2 hd2 hcmp
      rw [HLV.out, HMV.out] at hcmp
      have HD1 := Lib.hid hdd1
      have HD2 := Lib.hid hdd2
      have HCMP := Lib.hid hcmp
      have b10 : 0 ≤ d1 := by omega
      have b11 : d1 ≤ 1 := by omega
      have b20 : 0 ≤ d2 := by omega
      have b21 : d2 ≤ 1 := by omega
      have hki : (k : Int) < (l.length : Int) := by omega
      have hki' : (k : Int) < (m.length : Int) := by omega
      clear hdd1 hdd2 hcmp hd1 hd2 hb1 hb2
      by_cases he : d1 = d2
      · subst he
        go_wp2_with fail
        go_quiet (fail)
        go_wp2_with fail
        go_roundw
        case rel => exact ⟨k + 1, by omega, by go_num, by rw [take_more hlt, take_more hlt', HD1.out, HD2.out, HTK.out], hokr.drewN _⟩
        case measure => simp [intOf]; omega
      · have he1 : (d1 == d2) = false := by rw [beq_eq_false_iff_ne]; exact he
        have he2 : (d1 != d2) = true := by rw [bne_iff_ne]; exact he
        have E := Lib.hid (HCMP.out he)
        clear he
        go_wp2_with fail
        go_quiet (fail)
        go_wp2_with fail
        go_quiet (fail)
        go_wp2_with fail
        go_ret
        exact ⟨ret_int E.out, ((hok.trans hokr).drewN _).drewN _⟩
    · have hkk : l.take k = l := List.take_of_length_le (by omega)
      have hmm : m.take k = m := List.take_of_length_le (by have := HLM.out; omega)
      have hlm : l = m := by have := HTK.out; rw [hkk, hmm] at this; exact this
      have e0 : Wide.cmp ((x * p : Nat) : Int) ((y * q : Nat) : Int) = 0 := by rw [← HLV.out, ← HMV.out, hlm, Wide.cmp_self]
      have E0 := Lib.hid e0
      clear hkk hmm hlm e0
      go_wp2_with fail
      go_ret
      exact ⟨ret_int E0.out.symm, hok.trans hokr⟩
set_option maxHeartbeats 1600000 in
theorem refCompare (an ad bn bd : Int) (w : World) :
    Calls Try.prog 18 #[.int .i64 an, .int .i64 ad, .int .i64 bn, .int .i64 bd] w fun e w' => e = .returned (.int .i64 (Wide.rates an ad bn bd)) ∧ Ok w w' := by
  have ca := Sat.clip_bd an
  have cb := Sat.clip_bd bn
  obtain ⟨k1, k2⟩ := rates_one an ad bn bd
  by_cases ha : Sat.clip an < 0
  · by_cases hb : Sat.clip bn < 0
    · have pa : 0 ≤ Sat.clip (-Sat.clip an) := by rw [Sat.clip_neg, Sat.clip_clip]; omega
      have pb : 0 ≤ Sat.clip (-Sat.clip bn) := by rw [Sat.clip_neg, Sat.clip_clip]; omega
      have K := Lib.hid fun w => refComparePos (-Sat.clip an) ad (-Sat.clip bn) bd pa pb w
      have hr := rates_neg an ad bn bd
      have bd' := Wide.cmp_bd (Sat.clip (-Sat.clip an) * Wide.one bd) (Sat.clip (-Sat.clip bn) * Wide.one ad)
      obtain ⟨R, hR⟩ : ∃ R, Wide.rates (-Sat.clip an) ad (-Sat.clip bn) bd = R := ⟨_, rfl⟩
      rw [hR] at K hr
      have bR : -1 ≤ R ∧ R ≤ 1 := by rw [← hR]; exact bd'
      rw [hr]
      have hok := Ok.refl w
      clear k1 k2 pa pb hr hR bd'
      go_enter Try.func18, Try.ntmps18
      go_wp2_with (first | (go_at_call 21; refine (refClip _ _).mono ?_; rintro e w' ⟨rfl, rfl⟩) | (go_at_call 18; refine (K.out _).mono ?_; rintro e w1 ⟨rfl, hb1⟩; replace hok := hok.trans hb1; clear hb1))
      go_ret
      exact ⟨rfl, hok⟩
    · rw [k1 ha (by omega)]
      clear k1 k2
      go_enter Try.func18, Try.ntmps18
      go_wp2_with (first | (go_at_call 21; refine (refClip _ _).mono ?_; rintro e w' ⟨rfl, rfl⟩))
      go_ret
      exact ⟨rfl, Ok.refl w⟩
  · by_cases hb : Sat.clip bn < 0
    · rw [k2 (by omega) hb]
      clear k1 k2
      go_enter Try.func18, Try.ntmps18
      go_wp2_with (first | (go_at_call 21; refine (refClip _ _).mono ?_; rintro e w' ⟨rfl, rfl⟩))
      go_ret
      exact ⟨rfl, Ok.refl w⟩
    · exact refComparePos an ad bn bd (by omega) (by omega) w
end Go.Proofs.Ytpikbcdghmmocaa
