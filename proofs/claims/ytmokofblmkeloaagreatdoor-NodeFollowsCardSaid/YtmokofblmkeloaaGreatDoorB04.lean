/- Contracts of layer 1: over lists of numbers. -/
import Derived.Test.YtmokofblmkeloaaGreatDoorC01a
import Derived.Test.YtmokofblmkeloaaGreatDoorB00
import Derived.Test.YtmokofblmkeloaaGreatDoorMA
import Derived.Test.YtmokofblmkeloaaGreatDoorB03
import Derived.Test.YtmokofblmkeloaaGreatDoorB01
import Derived.Deep.QuietTactic
import Derived.BigQuiet
import Derived.Deep.CutBlock
import Derived.Deep.DeepCutAuto
import Derived.Laws.BitsAllLaws
import Derived.Lib.ItoaNum
import Derived.Deep.RegionWith
import Derived.Deep.RegionHeld3
import Derived.Deep.DrawnRows
namespace Go.Proofs.YtmokofblmkeloaaGreatDoor
open Go.RowKit Go.Lib

set_option maxHeartbeats 400000 in
theorem satAdd (A : Option Addr) (l : List Int) (cap : Nat) (w : World) (h : IntsAt w A l) (hl : l.length ≤ 9223372036854775807) :
    Calls Tryz.prog 49 #[.slice A l.length cap] w fun e w' => e = .returned (.int .i64 (Sat.sum l)) ∧ w = w' := by
  go_enter Tryz.func49, Tryz.ntmps49
  go_wp2
  go_loop [3, 8] (fun s i => ∃ k : Nat, k ≤ l.length ∧ i = .int .i64 k ∧ s = .int .i64 (Sat.sum (l.take k))) (fun _ i => l.length - (intOf i).toNat)
  case atStart => exact ⟨0, Nat.zero_le _, rfl, rfl⟩
  case round =>
    obtain ⟨k, hk, rfl, rfl⟩ := hrel
    have hb := Sat.sum_bd (l.take k)
    by_cases hlt : k < l.length
    · obtain ⟨b, off, hA, hb, hc⟩ := h k hlt
      subst hA
      have hs := Lib.hid (Sat.sum_snoc (l.take k) l[k])
      have hbk := Sat.clip_bd l[k]
      go_wp2_with (go_at_call 54; refine (satClip _ _).mono ?_; rintro e w' ⟨rfl, rfl⟩)
      go_round
      case rel => exact ⟨k + 1, by omega, by go_num, by rw [take_more hlt, hs.out]⟩
      case measure => simp [intOf]; omega
    · go_wp2
      go_ret
      exact ⟨by rw [List.take_of_length_le (by omega)]; rfl, rfl⟩
theorem satAdd2 (x y : Int) (w : World) (t : TypeId) (b : Nat) (hb : b = w.heap.size) : Calls Tryz.prog 49 #[.slice (some ⟨b, 0, none⟩) 2 2] (w.alloc (.cells #[.int .i64 x, .int .i64 y] t)) fun e w' => e = .returned (.int .i64 (Sat.sum [x, y])) ∧ (w.alloc (.cells #[.int .i64 x, .int .i64 y] t)) = w' :=
  satAdd _ [x, y] 2 _ (ints_new w [x, y] t _ rfl hb) (by simp)
theorem satAdd3 (x y z : Int) (w : World) (t : TypeId) (b : Nat) (hb : b = w.heap.size) : Calls Tryz.prog 49 #[.slice (some ⟨b, 0, none⟩) 3 3] (w.alloc (.cells #[.int .i64 x, .int .i64 y, .int .i64 z] t)) fun e w' => e = .returned (.int .i64 (Sat.sum [x, y, z])) ∧ (w.alloc (.cells #[.int .i64 x, .int .i64 y, .int .i64 z] t)) = w' :=
  satAdd _ [x, y, z] 3 _ (ints_new w [x, y, z] t _ rfl hb) (by simp)
set_option maxHeartbeats 400000 in
theorem satMax (A : Option Addr) (l : List Int) (cap : Nat) (w : World) (h : IntsAt w A l) (hl : l.length ≤ 9223372036854775807) :
    Calls Tryz.prog 61 #[.slice A l.length cap] w fun e w' => e = .returned (.int .i64 (Sat.most l)) ∧ w = w' := by
  go_enter Tryz.func61, Tryz.ntmps61
  go_wp2
  go_loop [3, 8] (fun s i => ∃ k : Nat, k ≤ l.length ∧ i = .int .i64 k ∧ s = .int .i64 (Sat.most (l.take k))) (fun _ i => l.length - (intOf i).toNat)
  case atStart => exact ⟨0, Nat.zero_le _, rfl, rfl⟩
  case round =>
    obtain ⟨k, hk, rfl, rfl⟩ := hrel
    have hb := Sat.most_bd (l.take k)
    by_cases hlt : k < l.length
    · obtain ⟨b, off, hA, hb, hc⟩ := h k hlt
      subst hA
      have hs := Lib.hid (Sat.most_snoc (l.take k) l[k])
      have hbk := Sat.clip_bd l[k]
      by_cases hc : Sat.most (l.take k) < Sat.clip l[k]
      all_goals
        go_wp2_with (go_at_call 54; refine (satClip _ _).mono ?_; rintro e w' ⟨rfl, rfl⟩)
        go_round
        case rel => exact ⟨k + 1, by omega, by go_num, by rw [take_more hlt, hs.out]; first | rw [if_pos (by omega)] | rw [if_neg (by omega)]⟩
        case measure => simp [intOf]; omega
    · go_wp2
      go_ret
      exact ⟨by rw [List.take_of_length_le (by omega)]; rfl, rfl⟩
theorem satMax2 (x y : Int) (w : World) (t : TypeId) (b : Nat) (hb : b = w.heap.size) : Calls Tryz.prog 61 #[.slice (some ⟨b, 0, none⟩) 2 2] (w.alloc (.cells #[.int .i64 x, .int .i64 y] t)) fun e w' => e = .returned (.int .i64 (Sat.most [x, y])) ∧ (w.alloc (.cells #[.int .i64 x, .int .i64 y] t)) = w' :=
  satMax _ [x, y] 2 _ (ints_new w [x, y] t _ rfl hb) (by simp)
end Go.Proofs.YtmokofblmkeloaaGreatDoor

/- math/bits.Div64: what it answers, of a high word below the divisor. -/
namespace Go.Proofs.YtmokofblmkeloaaGreatDoor
open Go.RowKit Go.Lib
set_option maxRecDepth 100000

end Go.Proofs.YtmokofblmkeloaaGreatDoor

/- Contracts of layer 2's functions of the program: wide. -/
namespace Go.Proofs.YtmokofblmkeloaaGreatDoor
open Go.RowKit Go.Lib
set_option maxRecDepth 100000

theorem wideDivisor (c : Int) (w : World) : Calls Tryz.prog 180 #[.int .i64 c] w fun e w' => e = .returned (.int .i64 (Wide.one c)) ∧ Ok w w' := by
  have h1 := Lib.hid (Wide.most_one c)
  go_enter Tryz.func180, Tryz.ntmps180
  go_wp2_with (go_at_call 61; (with_reducible refine (satMax2 _ _ _ _ _ (by simp)).mono ?_); rintro e w' ⟨rfl, rfl⟩; rw [h1.out])
  go_ret
  exact ⟨rfl, (Ok.refl w).alloc _⟩
set_option maxHeartbeats 400000 in
theorem wideDiv (a c : Int) (w : World) : Calls Tryz.prog 147 #[.int .i64 a, .int .i64 c] w fun e w' => e = .returned (.tuple #[.int .i64 (Sat.clip a / Wide.one c), .int .i64 (Sat.clip a % Wide.one c)]) ∧ Ok w w' := by
  have ha := Sat.clip_bd a
  have hc := Wide.one_bd c
  obtain ⟨⟨t1, t2⟩, ⟨r1, r2⟩, k1, k2⟩ := Wide.trunc (Sat.clip a) (Wide.one c) hc.1 hc.2 ha.1 ha.2
  obtain ⟨T, hT⟩ : ∃ T, (Sat.clip a).tdiv (Wide.one c) = T := ⟨_, rfl⟩
  obtain ⟨R, hR⟩ : ∃ R, (Sat.clip a).tmod (Wide.one c) = R := ⟨_, rfl⟩
  rw [hT] at t1 t2 k1 k2
  rw [hR] at r1 r2 k1 k2
  have K1 := Lib.hid k1
  have K2 := Lib.hid k2
  clear k1 k2
  have hb := Ok.refl w
  have e0 : ((Wide.one c) == 0) = false := by rw [beq_eq_false_iff_ne]; omega
  by_cases hn : R < 0
  all_goals
    go_enter Tryz.func147, Tryz.ntmps147
    go_wp2_with (first | (go_at_call 54; refine (satClip _ _).mono ?_; rintro e w' ⟨rfl, rfl⟩) | (go_at_call 180; refine (wideDivisor _ _).mono ?_; rintro e w1 ⟨rfl, hb1⟩; replace hb := hb.trans hb1; clear hb1))
    go_quiet (fail)
    go_wp2
    go_ret2
    first
    | (obtain ⟨x, y⟩ := K1.out hn; exact ⟨by rw [x, y]; rfl, hb.drewN _⟩)
    | (obtain ⟨x, y⟩ := K2.out (by omega); exact ⟨by rw [x, y]; rfl, hb.drewN _⟩)
end Go.Proofs.YtmokofblmkeloaaGreatDoor

/- Contracts of layer 18's document functions: Good, Offset, More. -/
namespace Go.Proofs.YtmokofblmkeloaaGreatDoor
open Go.RowKit
set_option maxRecDepth 100000
attribute [local go_sem ↓] Go.wp_at_zero Go.wp_at_succ
end Go.Proofs.YtmokofblmkeloaaGreatDoor
