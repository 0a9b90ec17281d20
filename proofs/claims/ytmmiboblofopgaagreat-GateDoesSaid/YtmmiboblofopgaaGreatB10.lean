/- Several texts of mine in one: C18a, C18d. -/
import Derived.Test.YtmmiboblofopgaaGreatB01
import Derived.Test.YtmmiboblofopgaaGreatB03
import Derived.Test.YtmmiboblofopgaaGreatB00
import Derived.Test.YtmmiboblofopgaaGreatMA
import Derived.Deep.QuietTactic
import Derived.Deep.DrawnRows
import Derived.BigQuiet
import Derived.Deep.RegionHeld3
/- Contracts of layer 18: where an entry stands, Good, the offset, Next, isCount: the program's. -/
namespace Go.Proofs.YtmmiboblofopgaaGreat
open Go.RowKit
set_option maxRecDepth 100000
attribute [local go_sem ↓] Go.wp_at_zero Go.wp_at_succ
theorem makeFn : ∀ (fn : Fn) (first cap : Array Value) (w : World), (Instr.makeFunc fn first cap).run Tryz.prog w = .ok (.func fn first cap) w := fun _ _ _ _ => rfl
/-- What IndexFunc answers. -/
def Leap.idx (p : Int × Int → Bool) (l : List (Int × Int)) : Int := if l.findIdx p < l.length then (l.findIdx p : Int) else -1
theorem Leap.idx_at {p : Int × Int → Bool} {l : List (Int × Int)} {k : Nat} (hk : k < l.length) (hp : p l[k] = true) (hb : ∀ j (hj : j < l.length), j < k → p l[j] = false) : Leap.idx p l = k := by
  have e : l.findIdx p = k := (List.findIdx_eq hk).2 ⟨hp, fun j hj => hb j (by omega) hj⟩
  unfold Leap.idx; rw [e, if_pos hk]
theorem Leap.idx_none {p : Int × Int → Bool} {l : List (Int × Int)} (hb : ∀ j (hj : j < l.length), p l[j] = false) : Leap.idx p l = -1 := by
  have e : l.findIdx p = l.length := List.findIdx_eq_length.2 fun x hx => by
    obtain ⟨j, hj, rfl⟩ := List.mem_iff_getElem.1 hx
    exact hb j hj
  unfold Leap.idx; rw [e, if_neg (Nat.lt_irrefl _)]
/-- The first entry behind a count, if there is one. -/
def Leap.nx (c : Int) (l : List (Int × Int)) : Int × Int := match l[Leap.gone c l]? with
  | some e => e
  | none => (0, 0)
def Leap.nxIs (c : Int) (l : List (Int × Int)) : Bool := decide (Leap.gone c l < l.length)
/-- A leap that isn't at the end of a day. -/
def Leap.odd (e : Int × Int) : Bool := !(decide ((e.1 - e.2) % 86400 = 0))
theorem Leap.good_odd (l : List (Int × Int)) : Leap.good l = (Wire.tab l && decide (Leap.idx Leap.odd l < 0)) := by
  unfold Leap.good
  congr 1
  unfold Leap.idx
  by_cases h : l.findIdx Leap.odd < l.length
  · rw [if_pos h, decide_eq_false (by omega)]
    have h1 := List.findIdx_getElem (xs := l) (p := Leap.odd) (w := h)
    rw [List.all_eq_false]
    refine ⟨_, List.getElem_mem h, ?_⟩
    generalize l[l.findIdx Leap.odd] = x at h1 ⊢
    unfold Leap.odd at h1
    simpa using h1
  · rw [if_neg h, decide_eq_true (by omega)]
    have h2 : l.findIdx Leap.odd = l.length := by have := List.findIdx_le_length (xs := l) (p := Leap.odd); omega
    rw [List.all_eq_true]
    intro x hx
    have := List.findIdx_eq_length.1 h2 x hx
    unfold Leap.odd at this
    simpa using this
theorem goodIs (a b : Int) (h1 : 0 ≤ a ∧ a ≤ 1099511627776) (h2 : -32 ≤ b ∧ b ≤ 32) (w : World) : Calls Tryz.prog 126 #[.agg #[.int .i64 a, .int .i64 b]] w fun e w' => e = .returned (.bool (Leap.odd (a, b))) ∧ Ok w w' := by
  have hok := (Ok.refl w).alloc (.cells #[.int .i64 a, .int .i64 b] 68)
  have K := Lib.hid fun w => wideDiv (a - b) 86400 w
  rw [Sat.clip_in (x := a - b) (by omega) (by omega), show Wide.one 86400 = 86400 by decide] at K
  unfold Leap.odd
  show Calls _ _ _ _ fun e w' => e = .returned (.bool (!(decide ((a - b) % 86400 = 0)))) ∧ Ok w w'
  obtain ⟨r, hr⟩ : ∃ r, (a - b) % 86400 = r := ⟨_, rfl⟩
  obtain ⟨q, hq⟩ : ∃ r, (a - b) / 86400 = r := ⟨_, rfl⟩
  rw [hr, hq] at K
  rw [hr]
  clear hr hq
  by_cases h0 : r = 0
  all_goals
    simp only [h0, decide_true, decide_false, Bool.not_true, Bool.not_false]
    go_enter Tryz.func126, Tryz.ntmps126
    go_wp2_with (go_at_call 122; (with_reducible refine (K.out _).mono ?_); rintro e w1 ⟨rfl, hb1⟩; replace hok := hok.trans hb1; clear hb1)
    go_ret
    first | exact ⟨rfl, hok⟩ | exact ⟨by simp [h0], hok⟩
set_option maxHeartbeats 800000 in
theorem indexGood (A : Option Addr) (l : List (Int × Int)) (cap : Nat) (w : World) (h : PairsAt w A l) (hl : l.length ≤ 32) (hb : ∀ e ∈ l, (0 ≤ e.1 ∧ e.1 ≤ 1099511627776) ∧ -32 ≤ e.2 ∧ e.2 ≤ 32) :
    Calls Tryz.prog 143 #[.slice A l.length cap, .func (.func 126) #[] #[]] w fun e w' => e = .returned (.int .i64 (Leap.idx Leap.odd l)) ∧ Ok w w' := by
  have hok := Ok.refl w
  have KP := Lib.hid h
  have HB := Lib.hid hb
  obtain ⟨R, hR⟩ : ∃ R, Leap.idx Leap.odd l = R := ⟨_, rfl⟩
  rw [hR]
  have HR := Lib.hid hR
  clear h hR hb
  go_enter Tryz.func143, Tryz.ntmps143
  go_wp2_with fail
  go_loopw [8] (fun v wr => ∃ k : Nat, k ≤ l.length ∧ v = .int .i64 k ∧ Hid (∀ j (hj : j < l.length), j < k → Leap.odd l[j] = false) ∧ Ok w wr) (fun v _ => l.length - (intOf v).toNat)
  case atStart => exact ⟨0, Nat.zero_le _, rfl, Lib.hid (fun j _ h => absurd h (Nat.not_lt_zero _)), hok⟩
  case round =>
    obtain ⟨k, hk, rfl, hrel, hok1⟩ := hrel
    clear hok
    by_cases hlt : k < l.length
    · obtain ⟨b, off, hA, hbs, c1, c2⟩ := KP.out.below hok1 k hlt
      subst hA
      have hbd := HB.out l[k] (List.getElem_mem hlt)
      obtain ⟨x, hx⟩ : ∃ x, l[k] = x := ⟨_, rfl⟩
      rw [hx] at hbd c1 c2
      have HX := Lib.hid hx
      clear hx
      obtain ⟨a, o⟩ := x
      simp only at hbd c1 c2
      have K := Lib.hid (goodIs a o hbd.1 hbd.2 wr)
      clear hbd
      obtain ⟨r, hr⟩ : ∃ r, Leap.odd (a, o) = r := ⟨_, rfl⟩
      rw [hr] at K
      have HO := Lib.hid hr
      clear hr
      cases r
      · go_wp2_with (go_at_call 126; (with_reducible refine (K.out).mono ?_); rintro e w1 ⟨rfl, hb1⟩)
        go_roundw
        case rel =>
          refine ⟨k + 1, by omega, by go_num, Lib.hid fun j hj hjk => ?_, hok1.trans hb1⟩
          by_cases e : j = k
          · subst e; rw [HX.out]; exact HO.out
          · exact hrel.out j hj (by omega)
        case measure => simp [intOf]; omega
      · have HE : Hid (R = k) := Lib.hid (HR.out ▸ Leap.idx_at hlt (by rw [HX.out]; exact HO.out) hrel.out)
        clear hrel HR
        go_wp2_with (go_at_call 126; (with_reducible refine (K.out).mono ?_); rintro e w1 ⟨rfl, hb1⟩)
        go_ret
        exact ⟨by rw [HE.out]; rfl, hok1.trans hb1⟩
    · have HE : Hid (R = -1) := Lib.hid (HR.out ▸ Leap.idx_none fun j hj => hrel.out j hj (by omega))
      clear HR hrel
      go_wp2_with fail
      go_ret
      exact ⟨by rw [HE.out]; rfl, hok1⟩
theorem containsGood (A : Option Addr) (l : List (Int × Int)) (cap : Nat) (w : World) (h : PairsAt w A l) (hl : l.length ≤ 32) (hb : ∀ e ∈ l, (0 ≤ e.1 ∧ e.1 ≤ 1099511627776) ∧ -32 ≤ e.2 ∧ e.2 ≤ 32) :
    Calls Tryz.prog 125 #[.slice A l.length cap, .func (.func 126) #[] #[]] w fun e w' => e = .returned (.bool (!(decide (Leap.idx Leap.odd l < 0)))) ∧ Ok w w' := by
  have hok := Ok.refl w
  have K := Lib.hid (indexGood A l cap w h hl hb)
  generalize Leap.idx Leap.odd l = R at *
  clear h hb
  by_cases h0 : R < 0
  all_goals
    simp only [h0, decide_true, decide_false, Bool.not_true, Bool.not_false]
    go_enter Tryz.func125, Tryz.ntmps125
    go_wp2_with (go_at_call 143; (with_reducible refine (K.out).mono ?_); rintro e w1 ⟨rfl, hb1⟩; replace hok := hok.trans hb1; clear hb1)
    go_ret
    first | exact ⟨rfl, hok⟩ | exact ⟨by simp; omega, hok⟩
theorem leapGood (A : Option Addr) (l : List (Int × Int)) (cap : Nat) (w : World) (h : PairsAt w A l) (hl : l.length ≤ 9223372036854775807) :
    Calls Tryz.prog 97 #[.slice A l.length cap] w fun e w' => e = .returned (.bool (Leap.good l)) ∧ Ok w w' := by
  have hok := Ok.refl w
  have K := Lib.hid (wireTable A l cap w h hl)
  rw [Leap.good_odd]
  by_cases ht : Wire.tab l = true
  · obtain ⟨t1, t2⟩ := Leap.tab_bd ht
    have KC := Lib.hid fun w h => containsGood A l cap w h t1 t2
    rw [ht] at K ⊢
    rw [Bool.true_and]
    have HP := Lib.hid h
    clear t2 ht h
    obtain ⟨r, hr⟩ : ∃ r, decide (Leap.idx Leap.odd l < 0) = r := ⟨_, rfl⟩
    rw [hr] at KC ⊢
    clear hr
    cases r
    all_goals
      simp only [Bool.not_true, Bool.not_false] at KC
      go_enter Tryz.func97, Tryz.ntmps97
      go_wp2_with (first | (go_at_call 124; (with_reducible refine (K.out).mono ?_); rintro e w1 ⟨rfl, hb1⟩; replace hok := hok.trans hb1; clear hb1) | (go_at_call 125; (with_reducible refine (KC.out _ (HP.out.below hok)).mono ?_); rintro e w1 ⟨rfl, hb1⟩; replace hok := hok.trans hb1; clear hb1))
      go_ret
      exact ⟨rfl, hok⟩
  · have ht' : Wire.tab l = false := by simpa using ht
    rw [ht'] at K ⊢
    rw [Bool.false_and]
    clear ht ht' h
    go_enter Tryz.func97, Tryz.ntmps97
    go_wp2_with (first | (go_at_call 124; (with_reducible refine (K.out).mono ?_); rintro e w1 ⟨rfl, hb1⟩; replace hok := hok.trans hb1; clear hb1))
    go_ret
    exact ⟨rfl, hok⟩
end Go.Proofs.YtmmiboblofopgaaGreat

/- Contracts of layer 18's document functions: Good, Offset, More. -/
namespace Go.Proofs.YtmmiboblofopgaaGreat
open Go.RowKit
set_option maxRecDepth 100000
attribute [local go_sem ↓] Go.wp_at_zero Go.wp_at_succ
theorem Leap.off_drop (v c : Int) (l : List (Int × Int)) (k : Nat) (hk : k < l.length) : Leap.off v c (l.drop k) = if l[k].1 ≤ c then Leap.off l[k].2 c (l.drop (k + 1)) else Leap.off v c (l.drop (k + 1)) := by
  rw [List.drop_eq_getElem_cons hk, Leap.off]
theorem Box1.okk {g : Nat} {w w' : World} {x y : Int} (h : Box1 g w x y w') : Ok w w' := h.2.2.2
theorem Leap.more_from (l : List (Int × Int)) (c : Int) : Leap.more l c = (l.drop 0).any fun e => decide (e.1 - 1 = c) && decide (Leap.off 0 c l < e.2) := rfl
set_option maxHeartbeats 1600000 in
theorem ref18Good (A : Option Addr) (l : List (Int × Int)) (cap : Nat) (w : World) (h : PairsAt w A l) (hl : l.length ≤ 9223372036854775807) :
    Calls Tryz.prog 31 #[.slice A l.length cap] w fun e w' => e = .returned (.bool (Leap.good l)) ∧ Ok w w' := by
  have hok := Ok.refl w
  have K := Lib.hid (ref6Table A l cap w h hl)
  by_cases ht : Wire.tab l = true
  · obtain ⟨t1, t2⟩ := Leap.tab_bd ht
    have HR : Hid (Leap.good l = (l.drop 0).all fun e => decide ((e.1 - e.2) % 86400 = 0)) := Lib.hid (by unfold Leap.good; rw [ht]; rfl)
    generalize Leap.good l = R at HR ⊢
    rw [ht] at K
    have KP := Lib.hid h
    have KB := Lib.hid t2
    clear t2 ht h
    go_enter Tryz.func31, Tryz.ntmps31
    go_wp2_with (go_at_call 66; (with_reducible refine (K.out).mono ?_); rintro e w1 ⟨rfl, hb1⟩; replace hok := hok.trans hb1; clear hb1)
    go_loopw [10] (fun v wr => ∃ k : Nat, k ≤ l.length ∧ v = .int .i64 k ∧ Hid (R = (l.drop k).all fun e => decide ((e.1 - e.2) % 86400 = 0)) ∧ Ok w wr) (fun v _ => l.length - (intOf v).toNat)
    case atStart => exact ⟨0, Nat.zero_le _, rfl, HR, hok⟩
    case round =>
      obtain ⟨k, hk, rfl, hrel, hok1⟩ := hrel
      clear hok HR K
      by_cases hlt : k < l.length
      · obtain ⟨b, off, hA, hbs, c1, c2⟩ := KP.out.below hok1 k hlt
        have hbd := KB.out l[k] (List.getElem_mem hlt)
        have HN := hrel.out
        rw [List.drop_eq_getElem_cons hlt, List.all_cons] at HN
        obtain ⟨a, ea⟩ : ∃ x, l[k].1 = x := ⟨_, rfl⟩
        obtain ⟨o, eo⟩ : ∃ x, l[k].2 = x := ⟨_, rfl⟩
        rw [ea] at c1 HN hbd
        rw [eo] at c2 HN hbd
        subst hA
        clear ea eo hrel
        obtain ⟨t, hT⟩ : ∃ t, (a - o).tmod 86400 = t := ⟨_, rfl⟩
        have hz := Civil.tmod_zero (a - o) 86400
        have htb := Civil.tmod_bd (a - o) 86400 (by omega)
        rw [show (((86400 : Nat) : Int)) = 86400 from rfl] at htb
        rw [hT] at hz htb
        by_cases he : (a - o) % 86400 = 0
        · have e0 := hz.2 he
          rw [decide_eq_true he, Bool.true_and] at HN
          replace HN := Lib.hid HN
          subst e0
          clear he hz htb
          go_wp2_with fail
          go_roundw
          case rel => exact ⟨k + 1, by omega, by go_num, HN, hok1.alloc _⟩
          case measure => simp [intOf]; omega
        · have e0 : ¬ t = 0 := fun g => he (hz.1 g)
          rw [decide_eq_false he, Bool.false_and] at HN
          replace HN := Lib.hid HN
          clear he hz
          go_wp2_with fail
          go_ret
          exact ⟨by rw [HN.out]; rfl, hok1.alloc _⟩
      · have e : k = l.length := by omega
        subst e
        have HE : Hid (R = true) := Lib.hid (by have := hrel.out; rw [List.drop_length] at this; exact this)
        clear hrel
        go_wp2_with fail
        go_ret
        exact ⟨by rw [HE.out]; rfl, hok1⟩
  · have ht' : Wire.tab l = false := by simpa using ht
    have e : Leap.good l = false := by unfold Leap.good; rw [ht']; rfl
    rw [e]
    rw [ht'] at K
    clear ht ht' h e
    go_enter Tryz.func31, Tryz.ntmps31
    go_wp2_with (go_at_call 66; (with_reducible refine (K.out).mono ?_); rintro e w1 ⟨rfl, hb1⟩; replace hok := hok.trans hb1; clear hb1)
    go_ret
    exact ⟨rfl, hok⟩
end Go.Proofs.YtmmiboblofopgaaGreat
