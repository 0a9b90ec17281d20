/- Contracts of layer 6: the document's leap table. -/
import Derived.Test.YtlclfonlidcfiaaDoorWA
import Derived.Test.YtlclfonlidcfiaaDoorMA
import Derived.Test.YtlclfonlidcfiaaDoorRows
import Derived.Test.YtlclfonlidcfiaaDoorProg
import Derived.WalkKit
import Derived.ProofKit
import Derived.OpenShut
import Derived.WalkLawsBesides
import Derived.IntWalk
import Derived.Lib.Hide
import Derived.Deep.QuietTactic
import Derived.BigQuiet
namespace Go.Proofs.YtlclfonlidcfiaaDoor
open Go.RowKit
set_option maxRecDepth 100000
/-- The earliest second of the next entry, the offset ahead of it. -/
def loAt (l : List (Int × Int)) (k : Nat) : Int := match k with
  | 0 => 0
  | k + 1 => match l[k]? with
    | some e => e.1 + 86400
    | none => 0
def offAt (l : List (Int × Int)) (k : Nat) : Int := match k with
  | 0 => 0
  | k + 1 => match l[k]? with
    | some e => e.2
    | none => 0
theorem tab_step (l : List (Int × Int)) (k : Nat) (hk : k < l.length) : Wire.tabFrom (loAt l k) (offAt l k) (l.drop k) = (decide (loAt l k ≤ l[k].1 ∧ l[k].1 ≤ 1099511627776 ∧ -32 ≤ l[k].2 ∧ l[k].2 ≤ 32 ∧ (l[k].2 = offAt l k + 1 ∨ l[k].2 = offAt l k - 1)) && Wire.tabFrom (loAt l (k + 1)) (offAt l (k + 1)) (l.drop (k + 1))) := by
  rw [List.drop_eq_getElem_cons hk]
  simp only [Wire.tabFrom, loAt, offAt, List.getElem?_eq_getElem hk]
set_option maxHeartbeats 1600000 in
theorem ref6Table (A : Option Addr) (l : List (Int × Int)) (cap : Nat) (w : World) (h : PairsAt w A l) (hl : l.length ≤ 9223372036854775807) :
    Calls Tryd.prog 44 #[.slice A l.length cap] w fun e w' => e = .returned (.bool (Wire.tab l)) ∧ Ok w w' := by
  have hok := Ok.refl w
  by_cases h32 : 32 < l.length
  · have e : Wire.tab l = false := by unfold Wire.tab; rw [decide_eq_false (by omega)]; rfl
    rw [e]
    have hd : decide ((32 : Int) < (l.length : Int)) = true := decide_eq_true (by omega)
    go_enter Tryd.func44, Tryd.ntmps44
    go_wp2
    go_ret
    exact ⟨rfl, hok⟩
  have e0 : Wire.tab l = Wire.tabFrom (loAt l 0) (offAt l 0) (l.drop 0) := by unfold Wire.tab; rw [decide_eq_true (by omega)]; rfl
  rw [e0]
  clear e0
  obtain ⟨R, hR⟩ : ∃ R, Wire.tabFrom (loAt l 0) (offAt l 0) (l.drop 0) = R := ⟨_, rfl⟩
  rw [hR]
  have HR0 := Lib.hid hR.symm
  clear hR
  have hd : decide ((32 : Int) < (l.length : Int)) = false := decide_eq_false (by omega)
  go_enter Tryd.func44, Tryd.ntmps44
  go_wp2
  go_loopw [3, 11] (fun c i wx => ∃ k : Nat, k ≤ l.length ∧ i = .int .i64 k ∧ c = .int .i64 (offAt l k) ∧ Hid (R = Wire.tabFrom (loAt l k) (offAt l k) (l.drop k)) ∧ 0 ≤ loAt l k ∧ loAt l k ≤ 1099511714176 ∧ -32 ≤ offAt l k ∧ offAt l k ≤ 32 ∧ Ok w wx) (fun _ i _ => l.length - (intOf i).toNat)
  case atStart => exact ⟨0, Nat.zero_le _, rfl, rfl, HR0, by show (0 : Int) ≤ 0; decide, by show (0 : Int) ≤ _; decide, by show _ ≤ (0 : Int); decide, by show (0 : Int) ≤ _; decide, hok⟩
  case round =>
    obtain ⟨k, hk, rfl, rfl, heq, b1, b2, b3, b4, hok⟩ := hrel
    by_cases hlt : k < l.length
    · have hst := tab_step l k hlt
      obtain ⟨b, off, hA, hbs, c1, c2⟩ := h.below hok k hlt
      subst hA
      have HR := Lib.hid (heq.out.trans hst)
      have HP := Lib.hid h
      have n1 : loAt l (k + 1) = l[k].1 + 86400 := by simp only [loAt, List.getElem?_eq_getElem hlt]
      have n2 : offAt l (k + 1) = l[k].2 := by simp only [offAt, List.getElem?_eq_getElem hlt]
      have N1 := Lib.hid n1
      have N2 := Lib.hid n2
      have hprev : 0 < k → ∃ p : Int, wr.cell? ⟨b, off + (k - 1) * 2, none⟩ = some (.int .i64 p) ∧ loAt l k = p + 86400 := by
        intro hk0
        obtain ⟨_, _, e, _, c3, _⟩ := h.below hok (k - 1) (by omega)
        cases e
        obtain ⟨j, rfl⟩ : ∃ j, k = j + 1 := ⟨k - 1, by omega⟩
        exact ⟨_, c3, by simp only [loAt, List.getElem?_eq_getElem (show j < l.length by omega), Nat.add_sub_cancel]⟩
      have HPR := Lib.hid hprev
      have HZ := Lib.hid (show ¬ 0 < k → loAt l k = 0 by intro g; obtain rfl : k = 0 := by omega
                                                         rfl)
      obtain ⟨lo, elo⟩ : ∃ x, loAt l k = x := ⟨_, rfl⟩
      obtain ⟨of, eof⟩ : ∃ x, offAt l k = x := ⟨_, rfl⟩
      obtain ⟨a, ea⟩ : ∃ x, l[k].1 = x := ⟨_, rfl⟩
      obtain ⟨o, eo⟩ : ∃ x, l[k].2 = x := ⟨_, rfl⟩
      rw [elo] at HPR HZ
      simp only [elo, eof, ea, eo] at HR b1 b2 b3 b4 c1 c2 N1 N2 ⊢
      clear n1 n2 hprev heq hst h elo eof ea eo
      by_cases p1 : 0 ≤ a ∧ a ≤ 1099511627776 ∧ -32 ≤ o ∧ o ≤ 32
      · obtain ⟨q1, q2, q3, q4⟩ := p1
        have d1 : decide (a < 0) = false := decide_eq_false (by omega)
        have d2 : decide (1099511627776 < a) = false := decide_eq_false (by omega)
        have d3 : decide (o < -32) = false := decide_eq_false (by omega)
        have d4 : decide (32 < o) = false := decide_eq_false (by omega)
        have key : (lo ≤ a ∧ (o = of + 1 ∨ o = of - 1) ∧ Hid (R = Wire.tabFrom (loAt l (k + 1)) (offAt l (k + 1)) (l.drop (k + 1)))) ∨ (R = false ∧ ¬ (lo ≤ a ∧ (o = of + 1 ∨ o = of - 1))) := by
          by_cases g : lo ≤ a ∧ (o = of + 1 ∨ o = of - 1)
          · left
            refine ⟨g.1, g.2, ?_⟩
            have hf : (decide (lo ≤ a ∧ a ≤ 1099511627776 ∧ -32 ≤ o ∧ o ≤ 32 ∧ (o = of + 1 ∨ o = of - 1))) = true := decide_eq_true (by omega)
            rw [hf, Bool.true_and] at HR
            exact HR
          · right
            refine ⟨?_, g⟩
            have hf : (decide (lo ≤ a ∧ a ≤ 1099511627776 ∧ -32 ≤ o ∧ o ≤ 32 ∧ (o = of + 1 ∨ o = of - 1))) = false := decide_eq_false (by omega)
            rw [hf, Bool.false_and] at HR
            exact HR.out
        clear HR
        have KEY := Lib.hid key
        clear key
        have NX := Lib.hid (show loAt l (k + 1) = a + 86400 ∧ offAt l (k + 1) = o from ⟨N1.out, N2.out⟩)
        clear N1 N2
        by_cases hk0 : 0 < k
        · obtain ⟨p, c3, hp⟩ := HPR.out hk0
          have dk : decide ((0 : Int) < (k : Int)) = true := decide_eq_true (by omega)
          have i1 : IntKind.i64.wrap ((k : Int) - 1) = (k : Int) - 1 := IntWalk.i64_in _ ⟨by omega, by omega⟩
          have i2 : IntKind.i64.wrap (p + 86400) = p + 86400 := IntWalk.i64_in _ ⟨by omega, by omega⟩
          have i3 : (0 : Int) ≤ (k : Int) - 1 := by omega
          have i4 : (k : Int) - 1 < (l.length : Int) := by omega
          have i5 : ((k : Int) - 1).toNat = k - 1 := by omega
          have i6 : k - 1 < l.length := by omega
          clear HPR
          by_cases p2 : lo ≤ a
          · have dp : decide (a < p + 86400) = false := decide_eq_false (by omega)
            have HH := Lib.hid hp
            clear hp HZ
            by_cases p3 : o = of + 1
            · obtain ⟨_, _, hn⟩ | ⟨_, g⟩ := KEY.out
              rotate_left
              · exact absurd ⟨p2, .inl p3⟩ g
              have d5 : (o != of + 1) = false := by simp [p3]
              clear p3 p2 KEY HR0 
              go_wp2_with fail
              go_quiet (fail)
              go_wp2
              go_roundw
              case rel => exact ⟨k + 1, by omega, by go_num, by rw [NX.out.2], hn, by rw [NX.out.1]; omega, by rw [NX.out.1]; omega, by rw [NX.out.2]; omega, by rw [NX.out.2]; omega, (hok.alloc _).drewN _⟩
              case measure => simp [intOf]; omega
            · have d5 : (o != of + 1) = true := by simp [p3]
              by_cases p4 : o = of - 1
              · obtain ⟨_, _, hn⟩ | ⟨_, g⟩ := KEY.out
                rotate_left
                · exact absurd ⟨p2, .inr p4⟩ g
                have d6 : (o != of - 1) = false := by simp [p4]
                clear p3 p4 p2 KEY HR0 
                go_wp2_with fail
                go_quiet (fail)
                go_wp2
                go_roundw
                case rel => exact ⟨k + 1, by omega, by go_num, by rw [NX.out.2], hn, by rw [NX.out.1]; omega, by rw [NX.out.1]; omega, by rw [NX.out.2]; omega, by rw [NX.out.2]; omega, (hok.alloc _).drewN _⟩
                case measure => simp [intOf]; omega
              · obtain ⟨_, g, _⟩ | ⟨hr, _⟩ := KEY.out
                · exact absurd g (by omega)
                obtain rfl := hr
                have d6 : (o != of - 1) = true := by simp [p4]
                clear p3 p4 p2 KEY HR0 
                go_wp2_with fail
                go_quiet (fail)
                go_wp2
                go_ret
                exact ⟨rfl, (hok.alloc _).drewN _⟩
          · have dp : decide (a < p + 86400) = true := decide_eq_true (by omega)
            obtain ⟨g, _⟩ | ⟨hr, _⟩ := KEY.out
            · exact absurd g p2
            obtain rfl := hr
            clear hp HZ p2 KEY HR0
            go_wp2_with fail
            go_quiet (fail)
            go_wp2
            go_ret
            exact ⟨rfl, (hok.alloc _).drewN _⟩
        · have p2 : lo ≤ a := by rw [HZ.out hk0]; exact q1
          have dk : decide ((0 : Int) < (k : Int)) = false := decide_eq_false (by omega)
          clear HPR HZ
          by_cases p3 : o = of + 1
          · obtain ⟨_, _, hn⟩ | ⟨_, g⟩ := KEY.out
            rotate_left
            · exact absurd ⟨p2, .inl p3⟩ g
            have d5 : (o != of + 1) = false := by simp [p3]
            clear p3 p2 KEY HR0 
            go_wp2_with fail
            go_quiet (fail)
            go_wp2
            go_roundw
            case rel => exact ⟨k + 1, by omega, by go_num, by rw [NX.out.2], hn, by rw [NX.out.1]; omega, by rw [NX.out.1]; omega, by rw [NX.out.2]; omega, by rw [NX.out.2]; omega, (hok.alloc _).drewN _⟩
            case measure => simp [intOf]; omega
          · have d5 : (o != of + 1) = true := by simp [p3]
            by_cases p4 : o = of - 1
            · obtain ⟨_, _, hn⟩ | ⟨_, g⟩ := KEY.out
              rotate_left
              · exact absurd ⟨p2, .inr p4⟩ g
              have d6 : (o != of - 1) = false := by simp [p4]
              clear p3 p4 p2 KEY HR0 
              go_wp2_with fail
              go_quiet (fail)
              go_wp2
              go_roundw
              case rel => exact ⟨k + 1, by omega, by go_num, by rw [NX.out.2], hn, by rw [NX.out.1]; omega, by rw [NX.out.1]; omega, by rw [NX.out.2]; omega, by rw [NX.out.2]; omega, (hok.alloc _).drewN _⟩
              case measure => simp [intOf]; omega
            · obtain ⟨_, g, _⟩ | ⟨hr, _⟩ := KEY.out
              · exact absurd g (by omega)
              obtain rfl := hr
              have d6 : (o != of - 1) = true := by simp [p4]
              clear p3 p4 p2 KEY HR0 
              go_wp2_with fail
              go_quiet (fail)
              go_wp2
              go_ret
              exact ⟨rfl, (hok.alloc _).drewN _⟩
      · have hf : (decide (lo ≤ a ∧ a ≤ 1099511627776 ∧ -32 ≤ o ∧ o ≤ 32 ∧ (o = of + 1 ∨ o = of - 1))) = false := decide_eq_false (by omega)
        rw [hf, Bool.false_and] at HR
        obtain rfl : R = false := HR.out
        clear hf HPR HZ N1 N2 HR HR0
        go_wp2
        all_goals
          first
            | (exfalso; omega)
            | (go_ret; exact ⟨rfl, hok.alloc _⟩)
    · obtain rfl : k = l.length := by omega
      obtain rfl : R = true := by rw [heq.out, List.drop_length]; rfl
      clear heq HR0 b1 b2 b3 b4 hlt
      go_wp2
      go_ret
      exact ⟨rfl, hok⟩
end Go.Proofs.YtlclfonlidcfiaaDoor
