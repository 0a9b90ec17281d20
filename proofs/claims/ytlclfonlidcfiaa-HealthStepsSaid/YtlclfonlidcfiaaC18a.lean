/- Contracts of layer 18: where an entry stands, Good, the offset, Next, isCount: the program's. -/
import Derived.Test.YtlclfonlidcfiaaC02b
import Derived.Test.YtlclfonlidcfiaaC06h
import Derived.Test.YtlclfonlidcfiaaWA
import Derived.Test.YtlclfonlidcfiaaMA
import Derived.Deep.QuietTactic
import Derived.Deep.DrawnRows
import Derived.BigQuiet
namespace Go.Proofs.Ytlclfonlidcfiaa
open Go.RowKit
set_option maxRecDepth 100000
attribute [local go_sem ↓] Go.wp_at_zero Go.wp_at_succ
theorem makeFn : ∀ (fn : Fn) (first cap : Array Value) (w : World), (Instr.makeFunc fn first cap).run Try.prog w = .ok (.func fn first cap) w := fun _ _ _ _ => rfl
/-- What IndexFunc answers. -/
def Leap.idx (p : Int × Int → Bool) (l : List (Int × Int)) : Int := if l.findIdx p < l.length then (l.findIdx p : Int) else -1
theorem Leap.idx_at {p : Int × Int → Bool} {l : List (Int × Int)} {k : Nat} (hk : k < l.length) (hp : p l[k] = true) (hb : ∀ j (hj : j < l.length), j < k → p l[j] = false) : Leap.idx p l = k := by
  have e : l.findIdx p = k := (List.findIdx_eq hk).2 ⟨hp, fun j hj => hb j (by omega) hj⟩
  unfold Leap.idx; rw [e, if_pos hk]
theorem Leap.idx_none {p : Int × Int → Bool} {l : List (Int × Int)} (hb : ∀ j (hj : j < l.length), p l[j] = false) : Leap.idx p l = -1 := by
  have e : l.findIdx p = l.length := List.findIdx_eq_length.2 fun x hx => by
    obtain ⟨j, hj, rfl⟩ := List.mem_iff_getElem.1 hx
    exact hb j hj
  unfold Leap.idx; rw [e, if_neg (Nat.lt_irrefl _)]
/-- The first entry behind a count, if there is one. -/
def Leap.nx (c : Int) (l : List (Int × Int)) : Int × Int := match l[Leap.gone c l]? with
  | some e => e
  | none => (0, 0)
def Leap.nxIs (c : Int) (l : List (Int × Int)) : Bool := decide (Leap.gone c l < l.length)
/-- A leap that isn't at the end of a day. -/
def Leap.odd (e : Int × Int) : Bool := !(decide ((e.1 - e.2) % 86400 = 0))
theorem Leap.good_odd (l : List (Int × Int)) : Leap.good l = (Wire.tab l && decide (Leap.idx Leap.odd l < 0)) := by
  unfold Leap.good
  congr 1
  unfold Leap.idx
  by_cases h : l.findIdx Leap.odd < l.length
  · rw [if_pos h, decide_eq_false (by omega)]
    have h1 := List.findIdx_getElem (xs := l) (p := Leap.odd) (w := h)
    rw [List.all_eq_false]
    refine ⟨_, List.getElem_mem h, ?_⟩
    generalize l[l.findIdx Leap.odd] = x at h1 ⊢
    unfold Leap.odd at h1
    simpa using h1
  · rw [if_neg h, decide_eq_true (by omega)]
    have h2 : l.findIdx Leap.odd = l.length := by have := List.findIdx_le_length (xs := l) (p := Leap.odd); omega
    rw [List.all_eq_true]
    intro x hx
    have := List.findIdx_eq_length.1 h2 x hx
    unfold Leap.odd at this
    simpa using this
theorem goodIs (a b : Int) (h1 : 0 ≤ a ∧ a ≤ 1099511627776) (h2 : -32 ≤ b ∧ b ≤ 32) (w : World) : Calls Try.prog 91 #[.agg #[.int .i64 a, .int .i64 b]] w fun e w' => e = .returned (.bool (Leap.odd (a, b))) ∧ Ok w w' := by
  have hok := (Ok.refl w).alloc (.cells #[.int .i64 a, .int .i64 b] 55)
  have K := Lib.hid fun w => wideDiv (a - b) 86400 w
  rw [Sat.clip_in (x := a - b) (by omega) (by omega), show Wide.one 86400 = 86400 by decide] at K
  unfold Leap.odd
  show Calls _ _ _ _ fun e w' => e = .returned (.bool (!(decide ((a - b) % 86400 = 0)))) ∧ Ok w w'
  obtain ⟨r, hr⟩ : ∃ r, (a - b) % 86400 = r := ⟨_, rfl⟩
  obtain ⟨q, hq⟩ : ∃ r, (a - b) / 86400 = r := ⟨_, rfl⟩
  rw [hr, hq] at K
  rw [hr]
  clear hr hq
  by_cases h0 : r = 0
  all_goals
    simp only [h0, decide_true, decide_false, Bool.not_true, Bool.not_false]
    go_enter Try.func91, Try.ntmps91
    go_wp2_with (go_at_call 92; (with_reducible refine (K.out _).mono ?_); rintro e w1 ⟨rfl, hb1⟩; replace hok := hok.trans hb1; clear hb1)
    go_ret
    first | exact ⟨rfl, hok⟩ | exact ⟨by simp [h0], hok⟩
set_option maxHeartbeats 800000 in
theorem indexGood (A : Option Addr) (l : List (Int × Int)) (cap : Nat) (w : World) (h : PairsAt w A l) (hl : l.length ≤ 32) (hb : ∀ e ∈ l, (0 ≤ e.1 ∧ e.1 ≤ 1099511627776) ∧ -32 ≤ e.2 ∧ e.2 ≤ 32) :
    Calls Try.prog 98 #[.slice A l.length cap, .func (.func 91) #[] #[]] w fun e w' => e = .returned (.int .i64 (Leap.idx Leap.odd l)) ∧ Ok w w' := by
  have hok := Ok.refl w
  have KP := Lib.hid h
  have HB := Lib.hid hb
  obtain ⟨R, hR⟩ : ∃ R, Leap.idx Leap.odd l = R := ⟨_, rfl⟩
  rw [hR]
  have HR := Lib.hid hR
  clear h hR hb
  go_enter Try.func98, Try.ntmps98
  go_wp2_with fail
  go_loopw [8] (fun v wr => ∃ k : Nat, k ≤ l.length ∧ v = .int .i64 k ∧ Hid (∀ j (hj : j < l.length), j < k → Leap.odd l[j] = false) ∧ Ok w wr) (fun v _ => l.length - (intOf v).toNat)
  case atStart => exact ⟨0, Nat.zero_le _, rfl, Lib.hid (fun j _ h => absurd h (Nat.not_lt_zero _)), hok⟩
  case round =>
    obtain ⟨k, hk, rfl, hrel, hok1⟩ := hrel
    clear hok
    by_cases hlt : k < l.length
    · obtain ⟨b, off, hA, hbs, c1, c2⟩ := KP.out.below hok1 k hlt
      subst hA
      have hbd := HB.out l[k] (List.getElem_mem hlt)
      obtain ⟨x, hx⟩ : ∃ x, l[k] = x := ⟨_, rfl⟩
      rw [hx] at hbd c1 c2
      have HX := Lib.hid hx
      clear hx
      obtain ⟨a, o⟩ := x
      simp only at hbd c1 c2
      have K := Lib.hid (goodIs a o hbd.1 hbd.2 wr)
      clear hbd
      obtain ⟨r, hr⟩ : ∃ r, Leap.odd (a, o) = r := ⟨_, rfl⟩
      rw [hr] at K
      have HO := Lib.hid hr
      clear hr
      cases r
      · go_wp2_with (go_at_call 91; (with_reducible refine (K.out).mono ?_); rintro e w1 ⟨rfl, hb1⟩)
        go_roundw
        case rel =>
          refine ⟨k + 1, by omega, by go_num, Lib.hid fun j hj hjk => ?_, hok1.trans hb1⟩
          by_cases e : j = k
          · subst e; rw [HX.out]; exact HO.out
          · exact hrel.out j hj (by omega)
        case measure => simp [intOf]; omega
      · have HE : Hid (R = k) := Lib.hid (HR.out ▸ Leap.idx_at hlt (by rw [HX.out]; exact HO.out) hrel.out)
        clear hrel HR
        go_wp2_with (go_at_call 91; (with_reducible refine (K.out).mono ?_); rintro e w1 ⟨rfl, hb1⟩)
        go_ret
        exact ⟨by rw [HE.out]; rfl, hok1.trans hb1⟩
    · have HE : Hid (R = -1) := Lib.hid (HR.out ▸ Leap.idx_none fun j hj => hrel.out j hj (by omega))
      clear HR hrel
      go_wp2_with fail
      go_ret
      exact ⟨by rw [HE.out]; rfl, hok1⟩
theorem containsGood (A : Option Addr) (l : List (Int × Int)) (cap : Nat) (w : World) (h : PairsAt w A l) (hl : l.length ≤ 32) (hb : ∀ e ∈ l, (0 ≤ e.1 ∧ e.1 ≤ 1099511627776) ∧ -32 ≤ e.2 ∧ e.2 ≤ 32) :
    Calls Try.prog 90 #[.slice A l.length cap, .func (.func 91) #[] #[]] w fun e w' => e = .returned (.bool (!(decide (Leap.idx Leap.odd l < 0)))) ∧ Ok w w' := by
  have hok := Ok.refl w
  have K := Lib.hid (indexGood A l cap w h hl hb)
  generalize Leap.idx Leap.odd l = R at *
  clear h hb
  by_cases h0 : R < 0
  all_goals
    simp only [h0, decide_true, decide_false, Bool.not_true, Bool.not_false]
    go_enter Try.func90, Try.ntmps90
    go_wp2_with (go_at_call 98; (with_reducible refine (K.out).mono ?_); rintro e w1 ⟨rfl, hb1⟩; replace hok := hok.trans hb1; clear hb1)
    go_ret
    first | exact ⟨rfl, hok⟩ | exact ⟨by simp; omega, hok⟩
theorem leapGood (A : Option Addr) (l : List (Int × Int)) (cap : Nat) (w : World) (h : PairsAt w A l) (hl : l.length ≤ 9223372036854775807) :
    Calls Try.prog 69 #[.slice A l.length cap] w fun e w' => e = .returned (.bool (Leap.good l)) ∧ Ok w w' := by
  have hok := Ok.refl w
  have K := Lib.hid (wireTable A l cap w h hl)
  rw [Leap.good_odd]
  by_cases ht : Wire.tab l = true
  · obtain ⟨t1, t2⟩ := Leap.tab_bd ht
    have KC := Lib.hid fun w h => containsGood A l cap w h t1 t2
    rw [ht] at K ⊢
    rw [Bool.true_and]
    have HP := Lib.hid h
    clear t2 ht h
    obtain ⟨r, hr⟩ : ∃ r, decide (Leap.idx Leap.odd l < 0) = r := ⟨_, rfl⟩
    rw [hr] at KC ⊢
    clear hr
    cases r
    all_goals
      simp only [Bool.not_true, Bool.not_false] at KC
      go_enter Try.func69, Try.ntmps69
      go_wp2_with (first | (go_at_call 89; (with_reducible refine (K.out).mono ?_); rintro e w1 ⟨rfl, hb1⟩; replace hok := hok.trans hb1; clear hb1) | (go_at_call 90; (with_reducible refine (KC.out _ (HP.out.below hok)).mono ?_); rintro e w1 ⟨rfl, hb1⟩; replace hok := hok.trans hb1; clear hb1))
      go_ret
      exact ⟨rfl, hok⟩
  · have ht' : Wire.tab l = false := by simpa using ht
    rw [ht'] at K ⊢
    rw [Bool.false_and]
    clear ht ht' h
    go_enter Try.func69, Try.ntmps69
    go_wp2_with (first | (go_at_call 89; (with_reducible refine (K.out).mono ?_); rintro e w1 ⟨rfl, hb1⟩; replace hok := hok.trans hb1; clear hb1))
    go_ret
    exact ⟨rfl, hok⟩
end Go.Proofs.Ytlclfonlidcfiaa
