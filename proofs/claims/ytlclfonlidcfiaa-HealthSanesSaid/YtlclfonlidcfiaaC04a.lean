/- Contracts of layer 4's functions: what numbers may be. -/
import Derived.Test.YtlclfonlidcfiaaC01a
import Derived.Test.YtlclfonlidcfiaaWA
import Derived.Test.YtlclfonlidcfiaaMA
import Derived.Deep.QuietTactic
import Derived.BigQuiet
import Derived.Deep.RegionHeld3
import Derived.Deep.DrawnRows
namespace Go.Proofs.Ytlclfonlidcfiaa
open Go.RowKit
set_option maxRecDepth 100000
attribute [local go_sem ↓] Go.wp_at_zero Go.wp_at_succ
/-- A fabric's numbers, as a value. -/
abbrev parV (p : Par) : Value := .agg #[.int .i64 p.n, .int .i64 p.f, .int .i64 p.d, .int .i64 p.beat, .int .i64 p.rho, .int .i64 p.delay, .int .i64 p.jit, .int .i64 p.eps, .int .i64 p.mu, .int .i64 p.hold, .int .i64 p.pulse, .int .i64 p.sec]

theorem limWithin (x lo hi : Int) (w : World) : Calls Try.prog 88 #[.int .i64 x, .int .i64 lo, .int .i64 hi] w fun e w' => e = .returned (.bool (Lim.win x lo hi)) ∧ w = w' := by
  by_cases h : lo ≤ x
  · by_cases h2 : x ≤ hi
    · rw [show Lim.win x lo hi = true from decide_eq_true ⟨h, h2⟩]
      go_enter Try.func88, Try.ntmps88
      go_wp2
      go_ret
      exact ⟨rfl, rfl⟩
    · rw [show Lim.win x lo hi = false from decide_eq_false fun g => h2 g.2]
      go_enter Try.func88, Try.ntmps88
      go_wp2
      go_ret
      exact ⟨rfl, rfl⟩
  · rw [show Lim.win x lo hi = false from decide_eq_false fun g => h g.1]
    go_enter Try.func88, Try.ntmps88
    go_wp2
    go_ret
    exact ⟨rfl, rfl⟩
theorem limUsers (p : Par) (w : World) : Calls Try.prog 67 #[parV p] w fun e w' => e = .returned (.bool (decide (Lim.Users p))) ∧ Ok w w' := by
  have hok := Ok.refl w
  by_cases h1 : 1 ≤ p.pulse ∧ p.pulse ≤ 1099511627776
  · have e1 := Lib.hid (Lim.win_true.2 h1)
    by_cases h2 : 1 ≤ p.sec ∧ p.sec ≤ 1099511627776
    · have e2 := Lib.hid (Lim.win_true.2 h2)
      rw [show decide (Lim.Users p) = true from decide_eq_true ⟨h1, h2⟩]
      go_enter Try.func67, Try.ntmps67
      go_wp2_with (go_at_call 88; refine (limWithin _ _ _ _).mono ?_; rintro e w' ⟨rfl, rfl⟩; first | rw [e1.out] | rw [e2.out])
      go_ret
      exact ⟨rfl, hok.alloc _⟩
    · have e2 := Lib.hid (Lim.win_false.2 h2)
      rw [show decide (Lim.Users p) = false from decide_eq_false fun g => h2 g.2]
      go_enter Try.func67, Try.ntmps67
      go_wp2_with (go_at_call 88; refine (limWithin _ _ _ _).mono ?_; rintro e w' ⟨rfl, rfl⟩; first | rw [e1.out] | rw [e2.out])
      go_ret
      exact ⟨rfl, hok.alloc _⟩
  · have e1 := Lib.hid (Lim.win_false.2 h1)
    rw [show decide (Lim.Users p) = false from decide_eq_false fun g => h1 g.1]
    go_enter Try.func67, Try.ntmps67
    go_wp2_with (go_at_call 88; refine (limWithin _ _ _ _).mono ?_; rintro e w' ⟨rfl, rfl⟩; rw [e1.out])
    go_ret
    exact ⟨rfl, hok.alloc _⟩
theorem limGates (p : Par) (w : World) : Calls Try.prog 64 #[parV p] w fun e w' => e = .returned (.bool (decide (Lim.Gates p))) ∧ Ok w w' := by
  have hok := Ok.refl w
  by_cases h1 : 1 ≤ p.n ∧ p.n ≤ 16
  · have e1 := Lib.hid (show Lim.win p.n 1 16 = true from Lim.win_true.2 (by omega))
    by_cases h2 : 0 ≤ p.f ∧ 3 * p.f + 1 ≤ p.n
    · have e2 := Lib.hid (show Lim.win p.f 0 ((p.n - 1) / 3) = true from Lim.win_true.2 (by omega))
      rw [show decide (Lim.Gates p) = true from decide_eq_true ⟨h1, h2⟩]
      go_enter Try.func64, Try.ntmps64
      go_wp2_with (go_at_call 88; refine (limWithin _ _ _ _).mono ?_; rintro e w' ⟨rfl, rfl⟩; first | rw [e1.out] | rw [e2.out])
      go_ret
      exact ⟨rfl, hok.alloc _⟩
    · have e2 := Lib.hid (show Lim.win p.f 0 ((p.n - 1) / 3) = false from Lim.win_false.2 (by omega))
      rw [show decide (Lim.Gates p) = false from decide_eq_false fun g => h2 g.2]
      go_enter Try.func64, Try.ntmps64
      go_wp2_with (go_at_call 88; refine (limWithin _ _ _ _).mono ?_; rintro e w' ⟨rfl, rfl⟩; first | rw [e1.out] | rw [e2.out])
      go_ret
      exact ⟨rfl, hok.alloc _⟩
  · have e1 := Lib.hid (show Lim.win p.n 1 16 = false from Lim.win_false.2 (by omega))
    rw [show decide (Lim.Gates p) = false from decide_eq_false fun g => h1 g.1]
    go_enter Try.func64, Try.ntmps64
    go_wp2_with (go_at_call 88; refine (limWithin _ _ _ _).mono ?_; rintro e w' ⟨rfl, rfl⟩; first | rw [e1.out])
    go_ret
    exact ⟨rfl, hok.alloc _⟩
theorem limBeats (p : Par) (w : World) : Calls Try.prog 66 #[parV p] w fun e w' => e = .returned (.bool (decide (Lim.Beats p))) ∧ Ok w w' := by
  have hok := Ok.refl w
  by_cases h1 : 0 ≤ p.d ∧ p.d ≤ 16
  · have e1 := Lib.hid (show Lim.win p.d 0 16 = true from Lim.win_true.2 (by omega))
    by_cases h2 : p.d + 2 ≤ p.hold ∧ p.hold ≤ 1048576
    · have e2 := Lib.hid (show Lim.win p.hold (p.d + 2) 1048576 = true from Lim.win_true.2 (by omega))
      rw [show decide (Lim.Beats p) = true from decide_eq_true ⟨h1, h2⟩]
      go_enter Try.func66, Try.ntmps66
      go_wp2_with (go_at_call 88; refine (limWithin _ _ _ _).mono ?_; rintro e w' ⟨rfl, rfl⟩; first | rw [e1.out] | rw [e2.out])
      go_ret
      exact ⟨rfl, hok.alloc _⟩
    · have e2 := Lib.hid (show Lim.win p.hold (p.d + 2) 1048576 = false from Lim.win_false.2 (by omega))
      rw [show decide (Lim.Beats p) = false from decide_eq_false fun g => h2 g.2]
      go_enter Try.func66, Try.ntmps66
      go_wp2_with (go_at_call 88; refine (limWithin _ _ _ _).mono ?_; rintro e w' ⟨rfl, rfl⟩; first | rw [e1.out] | rw [e2.out])
      go_ret
      exact ⟨rfl, hok.alloc _⟩
  · have e1 := Lib.hid (show Lim.win p.d 0 16 = false from Lim.win_false.2 (by omega))
    rw [show decide (Lim.Beats p) = false from decide_eq_false fun g => h1 g.1]
    go_enter Try.func66, Try.ntmps66
    go_wp2_with (go_at_call 88; refine (limWithin _ _ _ _).mono ?_; rintro e w' ⟨rfl, rfl⟩; first | rw [e1.out])
    go_ret
    exact ⟨rfl, hok.alloc _⟩
set_option maxHeartbeats 1600000 in
theorem limBeat (p : Par) (w : World) : Calls Try.prog 65 #[parV p] w fun e w' => e = .returned (.bool (decide (Lim.Beat p))) ∧ Ok w w' := by
  have hok := Ok.refl w
  by_cases h1 : 1 ≤ p.beat ∧ p.beat ≤ 1099511627776
  · have e1 := Lib.hid (show Lim.win p.beat 1 1099511627776 = true from Lim.win_true.2 (by omega))
    by_cases h2 : 0 ≤ p.rho ∧ 8 * p.rho ≤ p.beat
    · have e2 := Lib.hid (show Lim.win p.rho 0 (p.beat / 8) = true from Lim.win_true.2 (by omega))
      by_cases h3 : 0 ≤ p.delay ∧ 2 * p.delay ≤ p.beat
      · have e3 := Lib.hid (show Lim.win p.delay 0 (p.beat / 2) = true from Lim.win_true.2 (by omega))
        by_cases h4 : 0 ≤ p.jit ∧ p.jit ≤ p.delay
        · have e4 := Lib.hid (show Lim.win p.jit 0 p.delay = true from Lim.win_true.2 (by omega))
          by_cases h5 : 0 ≤ p.eps ∧ p.eps ≤ 1099511627776
          · have e5 := Lib.hid (show Lim.win p.eps 0 1099511627776 = true from Lim.win_true.2 (by omega))
            by_cases h6 : p.rho < p.mu ∧ 4 * p.mu ≤ p.beat
            · have e6 := Lib.hid (show Lim.win p.mu (p.rho + 1) (p.beat / 4) = true from Lim.win_true.2 (by omega))
              rw [show decide (Lim.Beat p) = true from decide_eq_true ⟨h1, h2, h3, h4, h5, h6⟩]
              go_enter Try.func65, Try.ntmps65
              go_wp2_with (go_at_call 88; refine (limWithin _ _ _ _).mono ?_; rintro e w' ⟨rfl, rfl⟩; first | rw [e1.out] | rw [e2.out] | rw [e3.out] | rw [e4.out] | rw [e5.out] | rw [e6.out])
              go_ret
              exact ⟨rfl, hok.alloc _⟩
            · have e6 := Lib.hid (show Lim.win p.mu (p.rho + 1) (p.beat / 4) = false from Lim.win_false.2 (by omega))
              rw [show decide (Lim.Beat p) = false from decide_eq_false fun g => h6 g.2.2.2.2.2]
              go_enter Try.func65, Try.ntmps65
              go_wp2_with (go_at_call 88; refine (limWithin _ _ _ _).mono ?_; rintro e w' ⟨rfl, rfl⟩; first | rw [e1.out] | rw [e2.out] | rw [e3.out] | rw [e4.out] | rw [e5.out] | rw [e6.out])
              go_ret
              exact ⟨rfl, hok.alloc _⟩
          · have e5 := Lib.hid (show Lim.win p.eps 0 1099511627776 = false from Lim.win_false.2 (by omega))
            rw [show decide (Lim.Beat p) = false from decide_eq_false fun g => h5 g.2.2.2.2.1]
            go_enter Try.func65, Try.ntmps65
            go_wp2_with (go_at_call 88; refine (limWithin _ _ _ _).mono ?_; rintro e w' ⟨rfl, rfl⟩; first | rw [e1.out] | rw [e2.out] | rw [e3.out] | rw [e4.out] | rw [e5.out])
            go_ret
            exact ⟨rfl, hok.alloc _⟩
        · have e4 := Lib.hid (show Lim.win p.jit 0 p.delay = false from Lim.win_false.2 (by omega))
          rw [show decide (Lim.Beat p) = false from decide_eq_false fun g => h4 g.2.2.2.1]
          go_enter Try.func65, Try.ntmps65
          go_wp2_with (go_at_call 88; refine (limWithin _ _ _ _).mono ?_; rintro e w' ⟨rfl, rfl⟩; first | rw [e1.out] | rw [e2.out] | rw [e3.out] | rw [e4.out])
          go_ret
          exact ⟨rfl, hok.alloc _⟩
      · have e3 := Lib.hid (show Lim.win p.delay 0 (p.beat / 2) = false from Lim.win_false.2 (by omega))
        rw [show decide (Lim.Beat p) = false from decide_eq_false fun g => h3 g.2.2.1]
        go_enter Try.func65, Try.ntmps65
        go_wp2_with (go_at_call 88; refine (limWithin _ _ _ _).mono ?_; rintro e w' ⟨rfl, rfl⟩; first | rw [e1.out] | rw [e2.out] | rw [e3.out])
        go_ret
        exact ⟨rfl, hok.alloc _⟩
    · have e2 := Lib.hid (show Lim.win p.rho 0 (p.beat / 8) = false from Lim.win_false.2 (by omega))
      rw [show decide (Lim.Beat p) = false from decide_eq_false fun g => h2 g.2.1]
      go_enter Try.func65, Try.ntmps65
      go_wp2_with (go_at_call 88; refine (limWithin _ _ _ _).mono ?_; rintro e w' ⟨rfl, rfl⟩; first | rw [e1.out] | rw [e2.out])
      go_ret
      exact ⟨rfl, hok.alloc _⟩
  · have e1 := Lib.hid (show Lim.win p.beat 1 1099511627776 = false from Lim.win_false.2 (by omega))
    rw [show decide (Lim.Beat p) = false from decide_eq_false fun g => h1 g.1]
    go_enter Try.func65, Try.ntmps65
    go_wp2_with (go_at_call 88; refine (limWithin _ _ _ _).mono ?_; rintro e w' ⟨rfl, rfl⟩; first | rw [e1.out])
    go_ret
    exact ⟨rfl, hok.alloc _⟩
end Go.Proofs.Ytlclfonlidcfiaa
