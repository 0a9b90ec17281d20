/- Contracts of layer 1: over lists of numbers. -/
import Derived.Test.YtlclfonlidcfiaaC01a
import Derived.Test.YtlclfonlidcfiaaWA
namespace Go.Proofs.Ytlclfonlidcfiaa
open Go.RowKit Go.Lib

set_option maxHeartbeats 400000 in
theorem satAdd (A : Option Addr) (l : List Int) (cap : Nat) (w : World) (h : IntsAt w A l) (hl : l.length ≤ 9223372036854775807) :
    Calls Try.prog 37 #[.slice A l.length cap] w fun e w' => e = .returned (.int .i64 (Sat.sum l)) ∧ w = w' := by
  go_enter Try.func37, Try.ntmps37
  go_wp2
  go_loop [3, 8] (fun s i => ∃ k : Nat, k ≤ l.length ∧ i = .int .i64 k ∧ s = .int .i64 (Sat.sum (l.take k))) (fun _ i => l.length - (intOf i).toNat)
  case atStart => exact ⟨0, Nat.zero_le _, rfl, rfl⟩
  case round =>
    obtain ⟨k, hk, rfl, rfl⟩ := hrel
    have hb := Sat.sum_bd (l.take k)
    by_cases hlt : k < l.length
    · obtain ⟨b, off, hA, hb, hc⟩ := h k hlt
      subst hA
      have hs := Lib.hid (Sat.sum_snoc (l.take k) l[k])
      have hbk := Sat.clip_bd l[k]
      go_wp2_with (go_at_call 35; refine (satClip _ _).mono ?_; rintro e w' ⟨rfl, rfl⟩)
      go_round
      case rel => exact ⟨k + 1, by omega, by go_num, by rw [take_more hlt, hs.out]⟩
      case measure => simp [intOf]; omega
    · go_wp2
      go_ret
      exact ⟨by rw [List.take_of_length_le (by omega)]; rfl, rfl⟩
theorem satAdd1 (x : Int) (w : World) (t : TypeId) (b : Nat) (hb : b = w.heap.size) : Calls Try.prog 37 #[.slice (some ⟨b, 0, none⟩) 1 1] (w.alloc (.cells #[.int .i64 x] t)) fun e w' => e = .returned (.int .i64 (Sat.sum [x])) ∧ (w.alloc (.cells #[.int .i64 x] t)) = w' :=
  satAdd _ [x] 1 _ (ints_new w [x] t _ rfl hb) (by simp)
theorem satAdd2 (x y : Int) (w : World) (t : TypeId) (b : Nat) (hb : b = w.heap.size) : Calls Try.prog 37 #[.slice (some ⟨b, 0, none⟩) 2 2] (w.alloc (.cells #[.int .i64 x, .int .i64 y] t)) fun e w' => e = .returned (.int .i64 (Sat.sum [x, y])) ∧ (w.alloc (.cells #[.int .i64 x, .int .i64 y] t)) = w' :=
  satAdd _ [x, y] 2 _ (ints_new w [x, y] t _ rfl hb) (by simp)
theorem satAdd3 (x y z : Int) (w : World) (t : TypeId) (b : Nat) (hb : b = w.heap.size) : Calls Try.prog 37 #[.slice (some ⟨b, 0, none⟩) 3 3] (w.alloc (.cells #[.int .i64 x, .int .i64 y, .int .i64 z] t)) fun e w' => e = .returned (.int .i64 (Sat.sum [x, y, z])) ∧ (w.alloc (.cells #[.int .i64 x, .int .i64 y, .int .i64 z] t)) = w' :=
  satAdd _ [x, y, z] 3 _ (ints_new w [x, y, z] t _ rfl hb) (by simp)
theorem satAdd4 (x y z u : Int) (w : World) (t : TypeId) (b : Nat) (hb : b = w.heap.size) : Calls Try.prog 37 #[.slice (some ⟨b, 0, none⟩) 4 4] (w.alloc (.cells #[.int .i64 x, .int .i64 y, .int .i64 z, .int .i64 u] t)) fun e w' => e = .returned (.int .i64 (Sat.sum [x, y, z, u])) ∧ (w.alloc (.cells #[.int .i64 x, .int .i64 y, .int .i64 z, .int .i64 u] t)) = w' :=
  satAdd _ [x, y, z, u] 4 _ (ints_new w [x, y, z, u] t _ rfl hb) (by simp)
set_option maxHeartbeats 400000 in
theorem refAdd (A : Option Addr) (l : List Int) (cap : Nat) (w : World) (h : IntsAt w A l) (hl : l.length ≤ 9223372036854775807) :
    Calls Try.prog 44 #[.slice A l.length cap] w fun e w' => e = .returned (.int .i64 (Sat.sum l)) ∧ w = w' := by
  go_enter Try.func44, Try.ntmps44
  go_wp2
  go_loop [3, 8] (fun s i => ∃ k : Nat, k ≤ l.length ∧ i = .int .i64 k ∧ s = .int .i64 (Sat.sum (l.take k))) (fun _ i => l.length - (intOf i).toNat)
  case atStart => exact ⟨0, Nat.zero_le _, rfl, rfl⟩
  case round =>
    obtain ⟨k, hk, rfl, rfl⟩ := hrel
    have hb := Sat.sum_bd (l.take k)
    by_cases hlt : k < l.length
    · obtain ⟨b, off, hA, hb, hc⟩ := h k hlt
      subst hA
      have hs := Lib.hid (Sat.sum_snoc (l.take k) l[k])
      have hbk := Sat.clip_bd l[k]
      go_wp2_with (go_at_call 42; refine (refClip _ _).mono ?_; rintro e w' ⟨rfl, rfl⟩)
      go_round
      case rel => exact ⟨k + 1, by omega, by go_num, by rw [take_more hlt, hs.out]⟩
      case measure => simp [intOf]; omega
    · go_wp2
      go_ret
      exact ⟨by rw [List.take_of_length_le (by omega)]; rfl, rfl⟩
set_option maxHeartbeats 400000 in
theorem satMax (A : Option Addr) (l : List Int) (cap : Nat) (w : World) (h : IntsAt w A l) (hl : l.length ≤ 9223372036854775807) :
    Calls Try.prog 48 #[.slice A l.length cap] w fun e w' => e = .returned (.int .i64 (Sat.most l)) ∧ w = w' := by
  go_enter Try.func48, Try.ntmps48
  go_wp2
  go_loop [3, 8] (fun s i => ∃ k : Nat, k ≤ l.length ∧ i = .int .i64 k ∧ s = .int .i64 (Sat.most (l.take k))) (fun _ i => l.length - (intOf i).toNat)
  case atStart => exact ⟨0, Nat.zero_le _, rfl, rfl⟩
  case round =>
    obtain ⟨k, hk, rfl, rfl⟩ := hrel
    have hb := Sat.most_bd (l.take k)
    by_cases hlt : k < l.length
    · obtain ⟨b, off, hA, hb, hc⟩ := h k hlt
      subst hA
      have hs := Lib.hid (Sat.most_snoc (l.take k) l[k])
      have hbk := Sat.clip_bd l[k]
      by_cases hc : Sat.most (l.take k) < Sat.clip l[k]
      all_goals
        go_wp2_with (go_at_call 35; refine (satClip _ _).mono ?_; rintro e w' ⟨rfl, rfl⟩)
        go_round
        case rel => exact ⟨k + 1, by omega, by go_num, by rw [take_more hlt, hs.out]; first | rw [if_pos (by omega)] | rw [if_neg (by omega)]⟩
        case measure => simp [intOf]; omega
    · go_wp2
      go_ret
      exact ⟨by rw [List.take_of_length_le (by omega)]; rfl, rfl⟩
theorem satMax1 (x : Int) (w : World) (t : TypeId) (b : Nat) (hb : b = w.heap.size) : Calls Try.prog 48 #[.slice (some ⟨b, 0, none⟩) 1 1] (w.alloc (.cells #[.int .i64 x] t)) fun e w' => e = .returned (.int .i64 (Sat.most [x])) ∧ (w.alloc (.cells #[.int .i64 x] t)) = w' :=
  satMax _ [x] 1 _ (ints_new w [x] t _ rfl hb) (by simp)
theorem satMax2 (x y : Int) (w : World) (t : TypeId) (b : Nat) (hb : b = w.heap.size) : Calls Try.prog 48 #[.slice (some ⟨b, 0, none⟩) 2 2] (w.alloc (.cells #[.int .i64 x, .int .i64 y] t)) fun e w' => e = .returned (.int .i64 (Sat.most [x, y])) ∧ (w.alloc (.cells #[.int .i64 x, .int .i64 y] t)) = w' :=
  satMax _ [x, y] 2 _ (ints_new w [x, y] t _ rfl hb) (by simp)
theorem satMax3 (x y z : Int) (w : World) (t : TypeId) (b : Nat) (hb : b = w.heap.size) : Calls Try.prog 48 #[.slice (some ⟨b, 0, none⟩) 3 3] (w.alloc (.cells #[.int .i64 x, .int .i64 y, .int .i64 z] t)) fun e w' => e = .returned (.int .i64 (Sat.most [x, y, z])) ∧ (w.alloc (.cells #[.int .i64 x, .int .i64 y, .int .i64 z] t)) = w' :=
  satMax _ [x, y, z] 3 _ (ints_new w [x, y, z] t _ rfl hb) (by simp)
theorem satMax4 (x y z u : Int) (w : World) (t : TypeId) (b : Nat) (hb : b = w.heap.size) : Calls Try.prog 48 #[.slice (some ⟨b, 0, none⟩) 4 4] (w.alloc (.cells #[.int .i64 x, .int .i64 y, .int .i64 z, .int .i64 u] t)) fun e w' => e = .returned (.int .i64 (Sat.most [x, y, z, u])) ∧ (w.alloc (.cells #[.int .i64 x, .int .i64 y, .int .i64 z, .int .i64 u] t)) = w' :=
  satMax _ [x, y, z, u] 4 _ (ints_new w [x, y, z, u] t _ rfl hb) (by simp)
set_option maxHeartbeats 400000 in
theorem refMax (A : Option Addr) (l : List Int) (cap : Nat) (w : World) (h : IntsAt w A l) (hl : l.length ≤ 9223372036854775807) :
    Calls Try.prog 51 #[.slice A l.length cap] w fun e w' => e = .returned (.int .i64 (Sat.most l)) ∧ w = w' := by
  go_enter Try.func51, Try.ntmps51
  go_wp2
  go_loop [3, 8] (fun s i => ∃ k : Nat, k ≤ l.length ∧ i = .int .i64 k ∧ s = .int .i64 (Sat.most (l.take k))) (fun _ i => l.length - (intOf i).toNat)
  case atStart => exact ⟨0, Nat.zero_le _, rfl, rfl⟩
  case round =>
    obtain ⟨k, hk, rfl, rfl⟩ := hrel
    have hb := Sat.most_bd (l.take k)
    by_cases hlt : k < l.length
    · obtain ⟨b, off, hA, hb, hc⟩ := h k hlt
      subst hA
      have hs := Lib.hid (Sat.most_snoc (l.take k) l[k])
      have hbk := Sat.clip_bd l[k]
      by_cases hc : Sat.most (l.take k) < Sat.clip l[k]
      all_goals
        go_wp2_with (go_at_call 42; refine (refClip _ _).mono ?_; rintro e w' ⟨rfl, rfl⟩)
        go_round
        case rel => exact ⟨k + 1, by omega, by go_num, by rw [take_more hlt, hs.out]; first | rw [if_pos (by omega)] | rw [if_neg (by omega)]⟩
        case measure => simp [intOf]; omega
    · go_wp2
      go_ret
      exact ⟨by rw [List.take_of_length_le (by omega)]; rfl, rfl⟩
set_option maxHeartbeats 400000 in
theorem refMulPos (a b : Int) (w : World) (hp : 0 ≤ Sat.clip b) : Calls Try.prog 49 #[.int .i64 a, .int .i64 b] w fun e w' => e = .returned (.int .i64 (Sat.mul a b)) ∧ w = w' := by
  have ha := Sat.clip_bd a
  have hb := Sat.clip_bd b
  obtain ⟨m, hm⟩ := Int.eq_ofNat_of_zero_le hp
  have hmb : m ≤ 2305843009213693952 := by omega
  have HM := Lib.hid hm
  clear hm
  go_enter Try.func49, Try.ntmps49
  go_wp2_with (go_at_call 42; refine (refClip _ _).mono ?_; rintro e w' ⟨rfl, rfl⟩)
  go_loop [5, 6] (fun n i => ∃ k : Nat, k ≤ 62 ∧ i = .int .i64 ((k : Int) - 1) ∧ n = .int .i64 (Sat.clip (Sat.clip a * Sat.top m k))) (fun _ i => (intOf i + 1).toNat)
  case atStart => exact ⟨62, by omega, by go_num, by rw [Sat.top_high m 62 (by omega), Int.mul_zero]; rfl⟩
  case round =>
    obtain ⟨k, hk, rfl, rfl⟩ := hrel
    have hbn := Sat.clip_bd (Sat.clip a * Sat.top m k)
    cases k with
    | zero =>
      go_wp2
      go_ret
      exact ⟨ret_int (by rw [Sat.top_zero]; unfold Sat.mul; rw [HM.out]), rfl⟩
    | succ k =>
      have hq : m / 2 ^ k < 9223372036854775808 := Nat.lt_of_le_of_lt (Nat.div_le_self _ _) (by omega)
      have hand := and_one (m / 2 ^ k) hq
      have h62 := Sat.clip_bd (2 * Sat.clip (Sat.clip a * Sat.top m (k + 1)))
      rcases Nat.mod_two_eq_zero_or_one (m / 2 ^ k) with hm | hm
      · rw [hm] at hand
        have hr := Lib.hid (Sat.mul_round0 (Sat.clip a) m k hm)
        have hbit : (bits BinOp.and IntKind.i64 (Sat.clip b / 2 ^ k) 1 == 1) = false := by push_cast at hand; rw [HM.out]; rw [hand]; rfl
        clear hand hm
        go_wp2_with (go_at_call 42; refine (refClip _ _).mono ?_; rintro e w' ⟨rfl, rfl⟩)
        go_round
        case rel => exact ⟨k, by omega, by go_num, by rw [hr.out]⟩
        case measure => simp [intOf]
      · rw [hm] at hand
        have hr := Lib.hid (Sat.mul_round1 (Sat.clip a) m k hm)
        have hbit : (bits BinOp.and IntKind.i64 (Sat.clip b / 2 ^ k) 1 == 1) = true := by push_cast at hand; rw [HM.out]; rw [hand]; rfl
        clear hand hm
        go_wp2_with (go_at_call 42; refine (refClip _ _).mono ?_; rintro e w' ⟨rfl, rfl⟩)
        go_round
        case rel => exact ⟨k, by omega, by go_num, by rw [hr.out]⟩
        case measure => simp [intOf]
theorem refMul (a b : Int) (w : World) : Calls Try.prog 49 #[.int .i64 a, .int .i64 b] w fun e w' => e = .returned (.int .i64 (Sat.mul a b)) ∧ w = w' := by
  by_cases hp : 0 ≤ Sat.clip b
  · exact refMulPos a b w hp
  · have hn : Sat.clip b < 0 := by omega
    have hb := Sat.clip_bd b
    have hp' : 0 ≤ Sat.clip (-Sat.clip b) := by rw [Sat.clip_neg, Sat.clip_clip]; omega
    have e : Hid (Sat.mul a b = -Sat.mul (Sat.clip a) (-Sat.clip b)) := by
      refine Lib.hid ?_
      unfold Sat.mul; rw [Sat.clip_clip, Sat.clip_neg, Sat.clip_clip, Int.mul_neg, Sat.clip_neg, Int.neg_neg]
    have hmb := Sat.mul_bd (Sat.clip a) (-Sat.clip b)
    have hr := Lib.hid fun w => refMulPos (Sat.clip a) (-Sat.clip b) w hp'
    clear hp hp'
    go_enter Try.func49, Try.ntmps49
    go_wp2_with (first | (go_at_call 42; refine (refClip _ _).mono ?_; rintro e w' ⟨rfl, rfl⟩) | (go_at_call 49; refine (hr.out _).mono ?_; rintro e w' ⟨rfl, rfl⟩))
    go_ret
    exact ⟨ret_int e.out.symm, rfl⟩
end Go.Proofs.Ytlclfonlidcfiaa
