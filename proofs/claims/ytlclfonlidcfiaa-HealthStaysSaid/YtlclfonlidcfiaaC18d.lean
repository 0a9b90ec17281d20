/- Contracts of layer 18's document functions: Good, Offset, More. -/
import Derived.Test.YtlclfonlidcfiaaC06a
import Derived.Test.YtlclfonlidcfiaaC02b
import Derived.Test.YtlclfonlidcfiaaWA
import Derived.Test.YtlclfonlidcfiaaMA
import Derived.Deep.QuietTactic
import Derived.BigQuiet
import Derived.Deep.RegionHeld3
import Derived.Deep.DrawnRows
namespace Go.Proofs.Ytlclfonlidcfiaa
open Go.RowKit
set_option maxRecDepth 100000
attribute [local go_sem ↓] Go.wp_at_zero Go.wp_at_succ
theorem Leap.off_drop (v c : Int) (l : List (Int × Int)) (k : Nat) (hk : k < l.length) : Leap.off v c (l.drop k) = if l[k].1 ≤ c then Leap.off l[k].2 c (l.drop (k + 1)) else Leap.off v c (l.drop (k + 1)) := by
  rw [List.drop_eq_getElem_cons hk, Leap.off]
theorem Box1.okk {g : Nat} {w w' : World} {x y : Int} (h : Box1 g w x y w') : Ok w w' := h.2.2.2
theorem Leap.more_from (l : List (Int × Int)) (c : Int) : Leap.more l c = (l.drop 0).any fun e => decide (e.1 - 1 = c) && decide (Leap.off 0 c l < e.2) := rfl
set_option maxHeartbeats 1600000 in
theorem ref18Good (A : Option Addr) (l : List (Int × Int)) (cap : Nat) (w : World) (h : PairsAt w A l) (hl : l.length ≤ 9223372036854775807) :
    Calls Try.prog 45 #[.slice A l.length cap] w fun e w' => e = .returned (.bool (Leap.good l)) ∧ Ok w w' := by
  have hok := Ok.refl w
  have K := Lib.hid (ref6Table A l cap w h hl)
  by_cases ht : Wire.tab l = true
  · obtain ⟨t1, t2⟩ := Leap.tab_bd ht
    have HR : Hid (Leap.good l = (l.drop 0).all fun e => decide ((e.1 - e.2) % 86400 = 0)) := Lib.hid (by unfold Leap.good; rw [ht]; rfl)
    generalize Leap.good l = R at HR ⊢
    rw [ht] at K
    have KP := Lib.hid h
    have KB := Lib.hid t2
    clear t2 ht h
    go_enter Try.func45, Try.ntmps45
    go_wp2_with (go_at_call 71; (with_reducible refine (K.out).mono ?_); rintro e w1 ⟨rfl, hb1⟩; replace hok := hok.trans hb1; clear hb1)
    go_loopw [10] (fun v wr => ∃ k : Nat, k ≤ l.length ∧ v = .int .i64 k ∧ Hid (R = (l.drop k).all fun e => decide ((e.1 - e.2) % 86400 = 0)) ∧ Ok w wr) (fun v _ => l.length - (intOf v).toNat)
    case atStart => exact ⟨0, Nat.zero_le _, rfl, HR, hok⟩
    case round =>
      obtain ⟨k, hk, rfl, hrel, hok1⟩ := hrel
      clear hok HR K
      by_cases hlt : k < l.length
      · obtain ⟨b, off, hA, hbs, c1, c2⟩ := KP.out.below hok1 k hlt
        have hbd := KB.out l[k] (List.getElem_mem hlt)
        have HN := hrel.out
        rw [List.drop_eq_getElem_cons hlt, List.all_cons] at HN
        obtain ⟨a, ea⟩ : ∃ x, l[k].1 = x := ⟨_, rfl⟩
        obtain ⟨o, eo⟩ : ∃ x, l[k].2 = x := ⟨_, rfl⟩
        rw [ea] at c1 HN hbd
        rw [eo] at c2 HN hbd
        subst hA
        clear ea eo hrel
        obtain ⟨t, hT⟩ : ∃ t, (a - o).tmod 86400 = t := ⟨_, rfl⟩
        have hz := Civil.tmod_zero (a - o) 86400
        have htb := Civil.tmod_bd (a - o) 86400 (by omega)
        rw [show (((86400 : Nat) : Int)) = 86400 from rfl] at htb
        rw [hT] at hz htb
        by_cases he : (a - o) % 86400 = 0
        · have e0 := hz.2 he
          rw [decide_eq_true he, Bool.true_and] at HN
          replace HN := Lib.hid HN
          subst e0
          clear he hz htb
          go_wp2_with fail
          go_roundw
          case rel => exact ⟨k + 1, by omega, by go_num, HN, hok1.alloc _⟩
          case measure => simp [intOf]; omega
        · have e0 : ¬ t = 0 := fun g => he (hz.1 g)
          rw [decide_eq_false he, Bool.false_and] at HN
          replace HN := Lib.hid HN
          clear he hz
          go_wp2_with fail
          go_ret
          exact ⟨by rw [HN.out]; rfl, hok1.alloc _⟩
      · have e : k = l.length := by omega
        subst e
        have HE : Hid (R = true) := Lib.hid (by have := hrel.out; rw [List.drop_length] at this; exact this)
        clear hrel
        go_wp2_with fail
        go_ret
        exact ⟨by rw [HE.out]; rfl, hok1⟩
  · have ht' : Wire.tab l = false := by simpa using ht
    have e : Leap.good l = false := by unfold Leap.good; rw [ht']; rfl
    rw [e]
    rw [ht'] at K
    clear ht ht' h e
    go_enter Try.func45, Try.ntmps45
    go_wp2_with (go_at_call 71; (with_reducible refine (K.out).mono ?_); rintro e w1 ⟨rfl, hb1⟩; replace hok := hok.trans hb1; clear hb1)
    go_ret
    exact ⟨rfl, hok⟩
end Go.Proofs.Ytlclfonlidcfiaa
