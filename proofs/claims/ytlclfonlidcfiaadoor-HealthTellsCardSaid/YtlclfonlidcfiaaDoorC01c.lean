/- Contracts of layer 1: over lists of numbers. -/
import Derived.Test.YtlclfonlidcfiaaDoorC01a
import Derived.Test.YtlclfonlidcfiaaDoorWA
namespace Go.Proofs.YtlclfonlidcfiaaDoor
open Go.RowKit Go.Lib

set_option maxHeartbeats 400000 in
theorem satAdd (A : Option Addr) (l : List Int) (cap : Nat) (w : World) (h : IntsAt w A l) (hl : l.length ≤ 9223372036854775807) :
    Calls Tryd.prog 36 #[.slice A l.length cap] w fun e w' => e = .returned (.int .i64 (Sat.sum l)) ∧ w = w' := by
  go_enter Tryd.func36, Tryd.ntmps36
  go_wp2
  go_loop [3, 8] (fun s i => ∃ k : Nat, k ≤ l.length ∧ i = .int .i64 k ∧ s = .int .i64 (Sat.sum (l.take k))) (fun _ i => l.length - (intOf i).toNat)
  case atStart => exact ⟨0, Nat.zero_le _, rfl, rfl⟩
  case round =>
    obtain ⟨k, hk, rfl, rfl⟩ := hrel
    have hb := Sat.sum_bd (l.take k)
    by_cases hlt : k < l.length
    · obtain ⟨b, off, hA, hb, hc⟩ := h k hlt
      subst hA
      have hs := Lib.hid (Sat.sum_snoc (l.take k) l[k])
      have hbk := Sat.clip_bd l[k]
      go_wp2_with (go_at_call 37; refine (satClip _ _).mono ?_; rintro e w' ⟨rfl, rfl⟩)
      go_round
      case rel => exact ⟨k + 1, by omega, by go_num, by rw [take_more hlt, hs.out]⟩
      case measure => simp [intOf]; omega
    · go_wp2
      go_ret
      exact ⟨by rw [List.take_of_length_le (by omega)]; rfl, rfl⟩
theorem satAdd1 (x : Int) (w : World) (t : TypeId) (b : Nat) (hb : b = w.heap.size) : Calls Tryd.prog 36 #[.slice (some ⟨b, 0, none⟩) 1 1] (w.alloc (.cells #[.int .i64 x] t)) fun e w' => e = .returned (.int .i64 (Sat.sum [x])) ∧ (w.alloc (.cells #[.int .i64 x] t)) = w' :=
  satAdd _ [x] 1 _ (ints_new w [x] t _ rfl hb) (by simp)
theorem satAdd2 (x y : Int) (w : World) (t : TypeId) (b : Nat) (hb : b = w.heap.size) : Calls Tryd.prog 36 #[.slice (some ⟨b, 0, none⟩) 2 2] (w.alloc (.cells #[.int .i64 x, .int .i64 y] t)) fun e w' => e = .returned (.int .i64 (Sat.sum [x, y])) ∧ (w.alloc (.cells #[.int .i64 x, .int .i64 y] t)) = w' :=
  satAdd _ [x, y] 2 _ (ints_new w [x, y] t _ rfl hb) (by simp)
theorem satAdd3 (x y z : Int) (w : World) (t : TypeId) (b : Nat) (hb : b = w.heap.size) : Calls Tryd.prog 36 #[.slice (some ⟨b, 0, none⟩) 3 3] (w.alloc (.cells #[.int .i64 x, .int .i64 y, .int .i64 z] t)) fun e w' => e = .returned (.int .i64 (Sat.sum [x, y, z])) ∧ (w.alloc (.cells #[.int .i64 x, .int .i64 y, .int .i64 z] t)) = w' :=
  satAdd _ [x, y, z] 3 _ (ints_new w [x, y, z] t _ rfl hb) (by simp)
theorem satAdd4 (x y z u : Int) (w : World) (t : TypeId) (b : Nat) (hb : b = w.heap.size) : Calls Tryd.prog 36 #[.slice (some ⟨b, 0, none⟩) 4 4] (w.alloc (.cells #[.int .i64 x, .int .i64 y, .int .i64 z, .int .i64 u] t)) fun e w' => e = .returned (.int .i64 (Sat.sum [x, y, z, u])) ∧ (w.alloc (.cells #[.int .i64 x, .int .i64 y, .int .i64 z, .int .i64 u] t)) = w' :=
  satAdd _ [x, y, z, u] 4 _ (ints_new w [x, y, z, u] t _ rfl hb) (by simp)
set_option maxHeartbeats 400000 in
theorem satMax (A : Option Addr) (l : List Int) (cap : Nat) (w : World) (h : IntsAt w A l) (hl : l.length ≤ 9223372036854775807) :
    Calls Tryd.prog 62 #[.slice A l.length cap] w fun e w' => e = .returned (.int .i64 (Sat.most l)) ∧ w = w' := by
  go_enter Tryd.func62, Tryd.ntmps62
  go_wp2
  go_loop [3, 8] (fun s i => ∃ k : Nat, k ≤ l.length ∧ i = .int .i64 k ∧ s = .int .i64 (Sat.most (l.take k))) (fun _ i => l.length - (intOf i).toNat)
  case atStart => exact ⟨0, Nat.zero_le _, rfl, rfl⟩
  case round =>
    obtain ⟨k, hk, rfl, rfl⟩ := hrel
    have hb := Sat.most_bd (l.take k)
    by_cases hlt : k < l.length
    · obtain ⟨b, off, hA, hb, hc⟩ := h k hlt
      subst hA
      have hs := Lib.hid (Sat.most_snoc (l.take k) l[k])
      have hbk := Sat.clip_bd l[k]
      by_cases hc : Sat.most (l.take k) < Sat.clip l[k]
      all_goals
        go_wp2_with (go_at_call 37; refine (satClip _ _).mono ?_; rintro e w' ⟨rfl, rfl⟩)
        go_round
        case rel => exact ⟨k + 1, by omega, by go_num, by rw [take_more hlt, hs.out]; first | rw [if_pos (by omega)] | rw [if_neg (by omega)]⟩
        case measure => simp [intOf]; omega
    · go_wp2
      go_ret
      exact ⟨by rw [List.take_of_length_le (by omega)]; rfl, rfl⟩
theorem satMax1 (x : Int) (w : World) (t : TypeId) (b : Nat) (hb : b = w.heap.size) : Calls Tryd.prog 62 #[.slice (some ⟨b, 0, none⟩) 1 1] (w.alloc (.cells #[.int .i64 x] t)) fun e w' => e = .returned (.int .i64 (Sat.most [x])) ∧ (w.alloc (.cells #[.int .i64 x] t)) = w' :=
  satMax _ [x] 1 _ (ints_new w [x] t _ rfl hb) (by simp)
theorem satMax2 (x y : Int) (w : World) (t : TypeId) (b : Nat) (hb : b = w.heap.size) : Calls Tryd.prog 62 #[.slice (some ⟨b, 0, none⟩) 2 2] (w.alloc (.cells #[.int .i64 x, .int .i64 y] t)) fun e w' => e = .returned (.int .i64 (Sat.most [x, y])) ∧ (w.alloc (.cells #[.int .i64 x, .int .i64 y] t)) = w' :=
  satMax _ [x, y] 2 _ (ints_new w [x, y] t _ rfl hb) (by simp)
theorem satMax3 (x y z : Int) (w : World) (t : TypeId) (b : Nat) (hb : b = w.heap.size) : Calls Tryd.prog 62 #[.slice (some ⟨b, 0, none⟩) 3 3] (w.alloc (.cells #[.int .i64 x, .int .i64 y, .int .i64 z] t)) fun e w' => e = .returned (.int .i64 (Sat.most [x, y, z])) ∧ (w.alloc (.cells #[.int .i64 x, .int .i64 y, .int .i64 z] t)) = w' :=
  satMax _ [x, y, z] 3 _ (ints_new w [x, y, z] t _ rfl hb) (by simp)
theorem satMax4 (x y z u : Int) (w : World) (t : TypeId) (b : Nat) (hb : b = w.heap.size) : Calls Tryd.prog 62 #[.slice (some ⟨b, 0, none⟩) 4 4] (w.alloc (.cells #[.int .i64 x, .int .i64 y, .int .i64 z, .int .i64 u] t)) fun e w' => e = .returned (.int .i64 (Sat.most [x, y, z, u])) ∧ (w.alloc (.cells #[.int .i64 x, .int .i64 y, .int .i64 z, .int .i64 u] t)) = w' :=
  satMax _ [x, y, z, u] 4 _ (ints_new w [x, y, z, u] t _ rfl hb) (by simp)
end Go.Proofs.YtlclfonlidcfiaaDoor
