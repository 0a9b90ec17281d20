/- Contracts of layer 18's document functions: Good, Offset, More. -/
import Derived.Test.YtlclfonlidcfiaaDoorC06a
import Derived.Test.YtlclfonlidcfiaaDoorCQ
import Derived.Test.YtlclfonlidcfiaaDoorC02b
import Derived.Test.YtlclfonlidcfiaaDoorWA
import Derived.Test.YtlclfonlidcfiaaDoorMA
import Derived.Deep.QuietTactic
import Derived.BigQuiet
import Derived.Deep.RegionHeld3
import Derived.Deep.DrawnRows
namespace Go.Proofs.YtlclfonlidcfiaaDoor
open Go.RowKit
set_option maxRecDepth 100000
attribute [local go_sem ↓] Go.wp_at_zero Go.wp_at_succ
theorem Leap.off_drop (v c : Int) (l : List (Int × Int)) (k : Nat) (hk : k < l.length) : Leap.off v c (l.drop k) = if l[k].1 ≤ c then Leap.off l[k].2 c (l.drop (k + 1)) else Leap.off v c (l.drop (k + 1)) := by
  rw [List.drop_eq_getElem_cons hk, Leap.off]
set_option maxHeartbeats 800000 in
theorem ref18Offset (A : Option Addr) (l : List (Int × Int)) (cap : Nat) (c : Int) (w : World) (h : PairsAt w A l) (hl : l.length ≤ 9223372036854775807) :
    Calls Tryd.prog 46 #[.slice A l.length cap, .int .i64 c] w fun e w' => e = .returned (.int .i64 (Leap.off 0 c l)) ∧ Ok w w' := by
  have hok := Ok.refl w
  have KP := Lib.hid h
  have H0 : Leap.off 0 c l = Leap.off 0 c (l.drop 0) := rfl
  obtain ⟨R, hR⟩ : ∃ R, Leap.off 0 c l = R := ⟨_, rfl⟩
  rw [hR]
  have HR := Lib.hid (hR.symm.trans H0)
  clear h hR H0
  go_enter Tryd.func46, Tryd.ntmps46
  go_wp2_with fail
  go_loopw [5, 10] (fun o v wr => ∃ k : Nat, ∃ x : Int, k ≤ l.length ∧ v = .int .i64 k ∧ o = .int .i64 x ∧ Hid (R = Leap.off x c (l.drop k)) ∧ Ok w wr) (fun _ v _ => l.length - (intOf v).toNat)
  case atStart => exact ⟨0, 0, Nat.zero_le _, rfl, rfl, HR, hok⟩
  case round =>
    obtain ⟨k, x, hk, rfl, rfl, hrel, hok1⟩ := hrel
    clear hok HR
    by_cases hlt : k < l.length
    · obtain ⟨b, off, hA, hbs, c1, c2⟩ := KP.out.below hok1 k hlt
      subst hA
      have HN := hrel.out.trans (Leap.off_drop x c l k hlt)
      obtain ⟨a, ea⟩ : ∃ x, l[k].1 = x := ⟨_, rfl⟩
      obtain ⟨o, eo⟩ : ∃ x, l[k].2 = x := ⟨_, rfl⟩
      rw [ea] at c1 HN
      rw [eo] at c2 HN
      clear ea eo hrel
      by_cases he : a ≤ c
      · rw [if_pos he] at HN
        replace HN := Lib.hid HN
        go_wp2_with fail
        go_roundw
        case rel => exact ⟨k + 1, o, by omega, by go_num, rfl, HN, hok1.alloc _⟩
        case measure => simp [intOf]; omega
      · rw [if_neg he] at HN
        replace HN := Lib.hid HN
        go_wp2_with fail
        go_roundw
        case rel => exact ⟨k + 1, x, by omega, by go_num, rfl, HN, hok1.alloc _⟩
        case measure => simp [intOf]; omega
    · have e : k = l.length := by omega
      subst e
      have HE : Hid (R = x) := Lib.hid (by have := hrel.out; rw [List.drop_length] at this; exact this)
      clear hrel
      go_wp2_with fail
      go_ret
      exact ⟨by rw [HE.out]; rfl, hok1⟩
theorem Box1.okk {g : Nat} {w w' : World} {x y : Int} (h : Box1 g w x y w') : Ok w w' := h.2.2.2
theorem Leap.more_from (l : List (Int × Int)) (c : Int) : Leap.more l c = (l.drop 0).any fun e => decide (e.1 - 1 = c) && decide (Leap.off 0 c l < e.2) := rfl
set_option maxHeartbeats 1600000 in
theorem ref18More (A : Option Addr) (l : List (Int × Int)) (cap : Nat) (c : Int) (w : World) (h : PairsAt w A l) (hl : l.length ≤ 32) (hb : ∀ e ∈ l, (0 ≤ e.1 ∧ e.1 ≤ 1099511627776) ∧ -32 ≤ e.2 ∧ e.2 ≤ 32) :
    Calls Tryd.prog 45 #[.slice A l.length cap, .int .i64 c] w fun e w' => e = .returned (.bool (Leap.more l c)) ∧ Ok w w' := by
  have hok := Ok.refl w
  have KP := Lib.hid h
  have KB := Lib.hid hb
  have H0 := Leap.more_from l c
  have KO := Lib.hid fun w h => ref18Offset A l cap c w h (by omega)
  obtain ⟨R, hR⟩ : ∃ R, Leap.more l c = R := ⟨_, rfl⟩
  rw [hR] at H0 ⊢
  generalize Leap.off 0 c l = O at H0 KO
  have HR := Lib.hid H0
  clear h hR H0 hb
  go_enter Tryd.func45, Tryd.ntmps45
  go_wp2_with fail
  go_loopw [9] (fun v wr => ∃ k : Nat, k ≤ l.length ∧ v = .int .i64 k ∧ Hid (R = (l.drop k).any fun e => decide (e.1 - 1 = c) && decide (O < e.2)) ∧ Ok w wr) (fun v _ => l.length - (intOf v).toNat)
  case atStart => exact ⟨0, Nat.zero_le _, rfl, HR, hok⟩
  case round =>
    obtain ⟨k, hk, rfl, hrel, hok1⟩ := hrel
    clear hok HR
    by_cases hlt : k < l.length
    · obtain ⟨b, off, hA, hbs, c1, c2⟩ := KP.out.below hok1 k hlt
      have hbd := KB.out l[k] (List.getElem_mem hlt)
      have HN := hrel.out
      rw [List.drop_eq_getElem_cons hlt, List.any_cons] at HN
      obtain ⟨a, ea⟩ : ∃ x, l[k].1 = x := ⟨_, rfl⟩
      obtain ⟨o, eo⟩ : ∃ x, l[k].2 = x := ⟨_, rfl⟩
      rw [ea] at c1 HN hbd
      rw [eo] at c2 HN hbd
      clear ea eo hrel
      have hP := Own.new wr #[.int .i64 a, .int .i64 o] 77 rfl
      have hok2 := hok1.alloc (.cells #[.int .i64 a, .int .i64 o] 77)
      by_cases he : a - 1 = c
      · have g3 : (a - 1 == c) = true := beq_iff_eq.2 he
        have hwr : IntKind.i64.wrap (a - 1) = a - 1 := IntWalk.i64_in _ ⟨by omega, by omega⟩
        subst hA
        rw [decide_eq_true he, Bool.true_and] at HN
        clear he
        by_cases hq : O < o
        · rw [decide_eq_true hq, Bool.true_or] at HN
          replace HN := Lib.hid HN
          go_upto_region 4 with fail
          have hB : Box1 wr.heap.size w a o (wr.alloc (.cells #[.int .i64 a, .int .i64 o] 77)) := ⟨hP.cell 0 rfl, hP.cell 1 rfl, hP.lt, hok2⟩
          generalize wr.alloc (.cells #[.int .i64 a, .int .i64 o] 77) = W at *
          generalize wr.heap.size = g at *
          clear hP hok1 c1 c2 hbs hok2
          go_region_held3 (fun w' => w'.cell? ⟨g, 0, none⟩ = some (.int .i64 a) ∧ w'.cell? ⟨g, 1, none⟩ = some (.int .i64 o) ∧ g < w'.heap.size ∧ Ok w w')
            (first | assumption | exact hB.drew | exact Box1.next (by assumption) hB.drew | exact Box1.next (by assumption) (by assumption))
            ((go_at_call 46; refine (KO.out _ (KP.out.below ?_)).mono ?_; (focus (first | exact (Box1.drew hB).2.2.2 | exact Box1.okk (by assumption))); rintro e w5 ⟨rfl, hb2⟩))
          all_goals
            rename_i hS
            have hok := hS.2.2.2
            clear hS
            go_wp2
            go_ret
            exact ⟨by rw [HN.out]; rfl, hok⟩
        · rw [decide_eq_false hq, Bool.false_or] at HN
          replace HN := Lib.hid HN
          go_upto_region 4 with fail
          have hB : Box1 wr.heap.size w a o (wr.alloc (.cells #[.int .i64 a, .int .i64 o] 77)) := ⟨hP.cell 0 rfl, hP.cell 1 rfl, hP.lt, hok2⟩
          generalize wr.alloc (.cells #[.int .i64 a, .int .i64 o] 77) = W at *
          generalize wr.heap.size = g at *
          clear hP hok1 c1 c2 hbs hok2
          go_region_held3 (fun w' => w'.cell? ⟨g, 0, none⟩ = some (.int .i64 a) ∧ w'.cell? ⟨g, 1, none⟩ = some (.int .i64 o) ∧ g < w'.heap.size ∧ Ok w w')
            (first | assumption | exact hB.drew | exact Box1.next (by assumption) hB.drew | exact Box1.next (by assumption) (by assumption))
            ((go_at_call 46; refine (KO.out _ (KP.out.below ?_)).mono ?_; (focus (first | exact (Box1.drew hB).2.2.2 | exact Box1.okk (by assumption))); rintro e w5 ⟨rfl, hb2⟩))
          all_goals
            rename_i hS
            have hok := hS.2.2.2
            clear hS
            go_wp2
            go_roundw
            case rel => exact ⟨k + 1, by omega, by go_num, HN, hok⟩
            case measure => simp [intOf]; omega
      · have g3 : (a - 1 == c) = false := by rw [beq_eq_false_iff_ne]; exact he
        subst hA
        rw [decide_eq_false he, Bool.false_and, Bool.false_or] at HN
        replace HN := Lib.hid HN
        clear he
        go_wp2_with fail
        go_quiet (fail)
        go_wp2
        go_roundw
        case rel => exact ⟨k + 1, by omega, by go_num, HN, (hok1.alloc _).drewN _⟩
        case measure => simp [intOf]; omega
    · have e : k = l.length := by omega
      subst e
      have HE : Hid (R = false) := Lib.hid (by have := hrel.out; rw [List.drop_length] at this; exact this)
      clear hrel
      go_wp2_with fail
      go_ret
      exact ⟨by rw [HE.out]; rfl, hok1⟩
set_option maxHeartbeats 1600000 in
theorem ref18Good (A : Option Addr) (l : List (Int × Int)) (cap : Nat) (w : World) (h : PairsAt w A l) (hl : l.length ≤ 9223372036854775807) :
    Calls Tryd.prog 23 #[.slice A l.length cap] w fun e w' => e = .returned (.bool (Leap.good l)) ∧ Ok w w' := by
  have hok := Ok.refl w
  have K := Lib.hid (ref6Table A l cap w h hl)
  by_cases ht : Wire.tab l = true
  · obtain ⟨t1, t2⟩ := Leap.tab_bd ht
    have HR : Hid (Leap.good l = (l.drop 0).all fun e => decide ((e.1 - e.2) % 86400 = 0)) := Lib.hid (by unfold Leap.good; rw [ht]; rfl)
    generalize Leap.good l = R at HR ⊢
    rw [ht] at K
    have KP := Lib.hid h
    have KB := Lib.hid t2
    clear t2 ht h
    go_enter Tryd.func23, Tryd.ntmps23
    go_wp2_with (go_at_call 44; (with_reducible refine (K.out).mono ?_); rintro e w1 ⟨rfl, hb1⟩; replace hok := hok.trans hb1; clear hb1)
    go_loopw [10] (fun v wr => ∃ k : Nat, k ≤ l.length ∧ v = .int .i64 k ∧ Hid (R = (l.drop k).all fun e => decide ((e.1 - e.2) % 86400 = 0)) ∧ Ok w wr) (fun v _ => l.length - (intOf v).toNat)
    case atStart => exact ⟨0, Nat.zero_le _, rfl, HR, hok⟩
    case round =>
      obtain ⟨k, hk, rfl, hrel, hok1⟩ := hrel
      clear hok HR K
      by_cases hlt : k < l.length
      · obtain ⟨b, off, hA, hbs, c1, c2⟩ := KP.out.below hok1 k hlt
        have hbd := KB.out l[k] (List.getElem_mem hlt)
        have HN := hrel.out
        rw [List.drop_eq_getElem_cons hlt, List.all_cons] at HN
        obtain ⟨a, ea⟩ : ∃ x, l[k].1 = x := ⟨_, rfl⟩
        obtain ⟨o, eo⟩ : ∃ x, l[k].2 = x := ⟨_, rfl⟩
        rw [ea] at c1 HN hbd
        rw [eo] at c2 HN hbd
        subst hA
        clear ea eo hrel
        obtain ⟨t, hT⟩ : ∃ t, (a - o).tmod 86400 = t := ⟨_, rfl⟩
        have hz := Civil.tmod_zero (a - o) 86400
        have htb := Civil.tmod_bd (a - o) 86400 (by omega)
        rw [show (((86400 : Nat) : Int)) = 86400 from rfl] at htb
        rw [hT] at hz htb
        by_cases he : (a - o) % 86400 = 0
        · have e0 := hz.2 he
          rw [decide_eq_true he, Bool.true_and] at HN
          replace HN := Lib.hid HN
          subst e0
          clear he hz htb
          go_wp2_with fail
          go_roundw
          case rel => exact ⟨k + 1, by omega, by go_num, HN, hok1.alloc _⟩
          case measure => simp [intOf]; omega
        · have e0 : ¬ t = 0 := fun g => he (hz.1 g)
          rw [decide_eq_false he, Bool.false_and] at HN
          replace HN := Lib.hid HN
          clear he hz
          go_wp2_with fail
          go_ret
          exact ⟨by rw [HN.out]; rfl, hok1.alloc _⟩
      · have e : k = l.length := by omega
        subst e
        have HE : Hid (R = true) := Lib.hid (by have := hrel.out; rw [List.drop_length] at this; exact this)
        clear hrel
        go_wp2_with fail
        go_ret
        exact ⟨by rw [HE.out]; rfl, hok1⟩
  · have ht' : Wire.tab l = false := by simpa using ht
    have e : Leap.good l = false := by unfold Leap.good; rw [ht']; rfl
    rw [e]
    rw [ht'] at K
    clear ht ht' h e
    go_enter Tryd.func23, Tryd.ntmps23
    go_wp2_with (go_at_call 44; (with_reducible refine (K.out).mono ?_); rintro e w1 ⟨rfl, hb1⟩; replace hok := hok.trans hb1; clear hb1)
    go_ret
    exact ⟨rfl, hok⟩
end Go.Proofs.YtlclfonlidcfiaaDoor
