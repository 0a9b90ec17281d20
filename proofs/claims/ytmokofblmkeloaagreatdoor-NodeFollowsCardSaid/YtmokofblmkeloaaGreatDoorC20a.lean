import Derived.Test.YtmokofblmkeloaaGreatDoorC01a
import Derived.Test.YtmokofblmkeloaaGreatDoorB04
import Derived.Test.YtmokofblmkeloaaGreatDoorB00
import Derived.Test.YtmokofblmkeloaaGreatDoorB01
import Derived.Test.YtmokofblmkeloaaGreatDoorMA
import Derived.Deep.QuietTactic
import Derived.BigQuiet
import Derived.Deep.RegionHeld3
import Derived.Deep.DrawnRows
namespace Go.Proofs.YtmokofblmkeloaaGreatDoor
open Go.RowKit
set_option maxRecDepth 100000
attribute [local go_sem ↓] Go.wp_at_zero Go.wp_at_succ
/-- A stamp, or a clock, as a value. -/
abbrev stV (s : Int × Int) : Value := .agg #[.int .i64 s.1, .int .i64 s.2]
theorem hlcLess (a b : Int × Int) (w : World) : Calls Tryz.prog 192 #[stV a, stV b] w fun e w' => e = .returned (.bool (Hlc.less a b)) ∧ Ok w w' := by
  have hok := Ok.refl w
  obtain ⟨a1, a2⟩ := a
  obtain ⟨b1, b2⟩ := b
  by_cases h1 : a1 < b1
  · rw [show Hlc.less (a1, a2) (b1, b2) = true from (Hlc.less_iff _ _).2 (Or.inl h1)]
    go_enter Tryz.func192, Tryz.ntmps192
    go_wp2
    go_ret
    exact ⟨rfl, (hok.alloc _).alloc _⟩
  · by_cases h2 : a1 = b1
    · subst h2
      by_cases h3 : a2 < b2
      · rw [show Hlc.less (a1, a2) (a1, b2) = true from (Hlc.less_iff _ _).2 (Or.inr ⟨rfl, h3⟩)]
        go_enter Tryz.func192, Tryz.ntmps192
        go_wp2
        go_ret
        exact ⟨rfl, (hok.alloc _).alloc _⟩
      · rw [show Hlc.less (a1, a2) (a1, b2) = false from by rw [Bool.eq_false_iff, ne_eq, Hlc.less_iff]; omega]
        go_enter Tryz.func192, Tryz.ntmps192
        go_wp2
        go_ret
        exact ⟨rfl, (hok.alloc _).alloc _⟩
    · rw [show Hlc.less (a1, a2) (b1, b2) = false from by rw [Bool.eq_false_iff, ne_eq, Hlc.less_iff]; omega]
      go_enter Tryz.func192, Tryz.ntmps192
      go_wp2
      go_ret
      exact ⟨rfl, (hok.alloc _).alloc _⟩
theorem hlcRight (s : Int × Int) (w : World) : Calls Tryz.prog 57 #[stV s] w fun e w' => e = .returned (.bool (Hlc.right s)) ∧ Ok w w' := by
  have hok := Ok.refl w
  obtain ⟨t, n⟩ := s
  have KC := Lib.hid fun w => satClip t w
  have e : Hlc.right (t, n) = (decide (Sat.clip t = t) && decide (0 ≤ n ∧ n ≤ 1073741824)) := rfl
  rw [e]
  clear e
  generalize Sat.clip t = c at KC ⊢
  by_cases h1 : c = t
  · subst h1
    by_cases h2 : 0 ≤ n
    · by_cases h3 : n ≤ 1073741824
      · rw [decide_eq_true rfl, decide_eq_true ⟨h2, h3⟩]
        go_enter Tryz.func57, Tryz.ntmps57
        go_wp2
        go_quiet ((go_at_call 54; exact Calls.quiet_of_same ((KC.out _).mono fun _ _ h => ⟨h.1, h.2.symm⟩)))
        go_wp2
        go_ret
        exact ⟨rfl, (hok.alloc _).drewN _⟩
      · rw [decide_eq_true rfl, decide_eq_false (fun g => h3 g.2)]
        have d3 : decide (n ≤ 1073741824) = false := decide_eq_false h3
        clear h3
        go_enter Tryz.func57, Tryz.ntmps57
        go_wp2
        go_quiet ((go_at_call 54; exact Calls.quiet_of_same ((KC.out _).mono fun _ _ h => ⟨h.1, h.2.symm⟩)))
        go_wp2
        go_ret
        exact ⟨rfl, (hok.alloc _).drewN _⟩
    · rw [decide_eq_true rfl, decide_eq_false (fun g => h2 g.1)]
      have d2 : decide (0 ≤ n) = false := decide_eq_false h2
      clear h2
      go_enter Tryz.func57, Tryz.ntmps57
      go_wp2
      go_quiet ((go_at_call 54; exact Calls.quiet_of_same ((KC.out _).mono fun _ _ h => ⟨h.1, h.2.symm⟩)))
      go_wp2
      go_ret
      exact ⟨rfl, (hok.alloc _).drewN _⟩
  · rw [decide_eq_false h1]
    have e1 : (t == c) = false := beq_eq_false_iff_ne.2 fun g => h1 g.symm
    have e2 : (c == t) = false := beq_eq_false_iff_ne.2 h1
    clear h1
    go_enter Tryz.func57, Tryz.ntmps57
    go_wp2
    go_quiet ((go_at_call 54; exact Calls.quiet_of_same ((KC.out _).mono fun _ _ h => ⟨h.1, h.2.symm⟩)))
    go_wp2
    go_ret
    exact ⟨rfl, (hok.alloc _).drewN _⟩
theorem next_top (t n : Int) (h : 1073741824 ≤ n) : Hlc.next (t, n) = (Sat.sum [t, 1], 0) := if_pos h
theorem next_pos (t n : Int) (h : ¬ 1073741824 ≤ n) (h0 : 0 < n) : Hlc.next (t, n) = (Sat.clip t, n + 1) := by unfold Hlc.next; rw [if_neg h, if_pos h0]
theorem next_neg (t n : Int) (h : ¬ 1073741824 ≤ n) (h0 : ¬ 0 < n) : Hlc.next (t, n) = (Sat.clip t, 1) := by unfold Hlc.next; rw [if_neg h, if_neg h0]
theorem next_some (t n : Int) (h : ¬ 1073741824 ≤ n) (h0 : 0 ≤ n) : Hlc.next (t, n) = (Sat.clip t, n + 1) := by
  by_cases g : 0 < n
  · exact next_pos t n h g
  · rw [next_neg t n h g]
    obtain rfl : n = 0 := by omega
    rfl
set_option maxHeartbeats 800000 in
theorem hlcNext (s : Int × Int) (w : World) : Calls Tryz.prog 119 #[stV s] w fun e w' => e = .returned (stV (Hlc.next s)) ∧ Ok w w' := by
  have hok := Ok.refl w
  obtain ⟨t, n⟩ := s
  have KC := Lib.hid fun w => satClip t w
  have KS := Lib.hid fun w A h => satAdd A [t, 1] 2 w h (by simp)
  by_cases h : 1073741824 ≤ n
  · rw [next_top t n h]
    generalize Sat.sum [t, 1] = u at KS ⊢
    go_enter Tryz.func119, Tryz.ntmps119
    go_wp2_with (go_at_call 49; refine (KS.out _ _ (ints_new _ [t, 1] _ _ rfl (by simp))).mono ?_; rintro e w' ⟨rfl, rfl⟩)
    refine bodyPost_ret (v := stV (u, 0)) (by simp [results, Tryz.results119, go_sem]) rfl ⟨rfl, ?_⟩
    repeat (first | (with_reducible exact hok) | ((with_reducible refine Ok.setCell ?_ ?_ _); focus (simp; done)) | (with_reducible refine Ok.drew ?_) | (with_reducible refine Ok.drewN ?_ _) | (with_reducible refine Ok.alloc ?_ _))
  · by_cases h0 : n < 0
    · rw [next_neg t n h (by omega)]
      have hw : IntKind.i64.wrap 1 = 1 := by decide
      generalize Sat.clip t = c at KC ⊢
      go_enter Tryz.func119, Tryz.ntmps119
      go_wp2
      go_region_held3 (fun w' => w'.cell? ⟨w.heap.size, 0, none⟩ = some (.int .i64 t) ∧ w'.cell? ⟨w.heap.size, 1, none⟩ = some (.int .i64 n))
        (go_keep) ((go_at_call 54; refine (KC.out _).mono ?_; rintro e w' ⟨rfl, rfl⟩))
      all_goals
        go_wp2
        exact bodyPost_ret (v := stV (c, 1)) (by simp [results, Tryz.results119, go_sem]) rfl ⟨rfl, by repeat (first | (with_reducible exact hok) | ((with_reducible refine Ok.setCell ?_ ?_ _); focus (simp; done)) | (with_reducible refine Ok.drew ?_) | (with_reducible refine Ok.drewN ?_ _) | (with_reducible refine Ok.alloc ?_ _))⟩
    · rw [next_some t n h (by omega)]
      have hw : IntKind.i64.wrap (n + 1) = n + 1 := IntWalk.i64_in _ ⟨by omega, by omega⟩
      generalize Sat.clip t = c at KC ⊢
      go_enter Tryz.func119, Tryz.ntmps119
      go_wp2
      go_region_held3 (fun w' => w'.cell? ⟨w.heap.size, 0, none⟩ = some (.int .i64 t) ∧ w'.cell? ⟨w.heap.size, 1, none⟩ = some (.int .i64 n))
        (go_keep) ((go_at_call 54; refine (KC.out _).mono ?_; rintro e w' ⟨rfl, rfl⟩))
      all_goals
        go_wp2
        exact bodyPost_ret (v := stV (c, n + 1)) (by simp [results, Tryz.results119, go_sem]) rfl ⟨rfl, by repeat (first | (with_reducible exact hok) | ((with_reducible refine Ok.setCell ?_ ?_ _); focus (simp; done)) | (with_reducible refine Ok.drew ?_) | (with_reducible refine Ok.drewN ?_ _) | (with_reducible refine Ok.alloc ?_ _))⟩
end Go.Proofs.YtmokofblmkeloaaGreatDoor
