/- Contracts of layer 4's functions: what numbers may be. -/
import Derived.Test.YtmokofblmkeloaaGreatDoorC01a
import Derived.Test.YtmokofblmkeloaaGreatDoorB00
import Derived.Test.YtmokofblmkeloaaGreatDoorMA
import Derived.Test.YtmokofblmkeloaaGreatDoorB01
import Derived.Test.YtmokofblmkeloaaGreatDoorP22
import Derived.Test.YtmokofblmkeloaaGreatDoorRows
import Derived.Test.YtmokofblmkeloaaGreatDoorProg
import Derived.Deep.QuietTactic
import Derived.BigQuiet
import Derived.Deep.RegionHeld3
import Derived.Deep.DrawnRows
import Derived.SizedLaws
import Derived.Deep.CutRange
import Derived.Laws.StructEq
import Derived.Laws.Tables
import Derived.WalkKit
import Derived.ProofKit
import Derived.OpenShut
import Derived.WalkLawsBesides
import Derived.IntWalk
import Derived.Lib.Hide
namespace Go.Proofs.YtmokofblmkeloaaGreatDoor
open Go.RowKit
set_option maxRecDepth 100000
attribute [local go_sem ↓] Go.wp_at_zero Go.wp_at_succ
/-- A fabric's numbers, as a value. -/
abbrev parV (p : Par) : Value := .agg #[.int .i64 p.n, .int .i64 p.f, .int .i64 p.d, .int .i64 p.beat, .int .i64 p.rho, .int .i64 p.delay, .int .i64 p.jit, .int .i64 p.eps, .int .i64 p.mu, .int .i64 p.hold, .int .i64 p.pulse, .int .i64 p.sec]

theorem limWithin (x lo hi : Int) (w : World) : Calls Tryz.prog 103 #[.int .i64 x, .int .i64 lo, .int .i64 hi] w fun e w' => e = .returned (.bool (Lim.win x lo hi)) ∧ w = w' := by
  by_cases h : lo ≤ x
  · by_cases h2 : x ≤ hi
    · rw [show Lim.win x lo hi = true from decide_eq_true ⟨h, h2⟩]
      go_enter Tryz.func103, Tryz.ntmps103
      go_wp2
      go_ret
      exact ⟨rfl, rfl⟩
    · rw [show Lim.win x lo hi = false from decide_eq_false fun g => h2 g.2]
      go_enter Tryz.func103, Tryz.ntmps103
      go_wp2
      go_ret
      exact ⟨rfl, rfl⟩
  · rw [show Lim.win x lo hi = false from decide_eq_false fun g => h g.1]
    go_enter Tryz.func103, Tryz.ntmps103
    go_wp2
    go_ret
    exact ⟨rfl, rfl⟩
theorem limUsers (p : Par) (w : World) : Calls Tryz.prog 48 #[parV p] w fun e w' => e = .returned (.bool (decide (Lim.Users p))) ∧ Ok w w' := by
  have hok := Ok.refl w
  by_cases h1 : 1 ≤ p.pulse ∧ p.pulse ≤ 1099511627776
  · have e1 := Lib.hid (Lim.win_true.2 h1)
    by_cases h2 : 1 ≤ p.sec ∧ p.sec ≤ 1099511627776
    · have e2 := Lib.hid (Lim.win_true.2 h2)
      rw [show decide (Lim.Users p) = true from decide_eq_true ⟨h1, h2⟩]
      go_enter Tryz.func48, Tryz.ntmps48
      go_wp2_with (go_at_call 103; refine (limWithin _ _ _ _).mono ?_; rintro e w' ⟨rfl, rfl⟩; first | rw [e1.out] | rw [e2.out])
      go_ret
      exact ⟨rfl, hok.alloc _⟩
    · have e2 := Lib.hid (Lim.win_false.2 h2)
      rw [show decide (Lim.Users p) = false from decide_eq_false fun g => h2 g.2]
      go_enter Tryz.func48, Tryz.ntmps48
      go_wp2_with (go_at_call 103; refine (limWithin _ _ _ _).mono ?_; rintro e w' ⟨rfl, rfl⟩; first | rw [e1.out] | rw [e2.out])
      go_ret
      exact ⟨rfl, hok.alloc _⟩
  · have e1 := Lib.hid (Lim.win_false.2 h1)
    rw [show decide (Lim.Users p) = false from decide_eq_false fun g => h1 g.1]
    go_enter Tryz.func48, Tryz.ntmps48
    go_wp2_with (go_at_call 103; refine (limWithin _ _ _ _).mono ?_; rintro e w' ⟨rfl, rfl⟩; rw [e1.out])
    go_ret
    exact ⟨rfl, hok.alloc _⟩
theorem limGates (p : Par) (w : World) : Calls Tryz.prog 45 #[parV p] w fun e w' => e = .returned (.bool (decide (Lim.Gates p))) ∧ Ok w w' := by
  have hok := Ok.refl w
  by_cases h1 : 1 ≤ p.n ∧ p.n ≤ 16
  · have e1 := Lib.hid (show Lim.win p.n 1 16 = true from Lim.win_true.2 (by omega))
    by_cases h2 : 0 ≤ p.f ∧ 3 * p.f + 1 ≤ p.n
    · have e2 := Lib.hid (show Lim.win p.f 0 ((p.n - 1) / 3) = true from Lim.win_true.2 (by omega))
      rw [show decide (Lim.Gates p) = true from decide_eq_true ⟨h1, h2⟩]
      go_enter Tryz.func45, Tryz.ntmps45
      go_wp2_with (go_at_call 103; refine (limWithin _ _ _ _).mono ?_; rintro e w' ⟨rfl, rfl⟩; first | rw [e1.out] | rw [e2.out])
      go_ret
      exact ⟨rfl, hok.alloc _⟩
    · have e2 := Lib.hid (show Lim.win p.f 0 ((p.n - 1) / 3) = false from Lim.win_false.2 (by omega))
      rw [show decide (Lim.Gates p) = false from decide_eq_false fun g => h2 g.2]
      go_enter Tryz.func45, Tryz.ntmps45
      go_wp2_with (go_at_call 103; refine (limWithin _ _ _ _).mono ?_; rintro e w' ⟨rfl, rfl⟩; first | rw [e1.out] | rw [e2.out])
      go_ret
      exact ⟨rfl, hok.alloc _⟩
  · have e1 := Lib.hid (show Lim.win p.n 1 16 = false from Lim.win_false.2 (by omega))
    rw [show decide (Lim.Gates p) = false from decide_eq_false fun g => h1 g.1]
    go_enter Tryz.func45, Tryz.ntmps45
    go_wp2_with (go_at_call 103; refine (limWithin _ _ _ _).mono ?_; rintro e w' ⟨rfl, rfl⟩; first | rw [e1.out])
    go_ret
    exact ⟨rfl, hok.alloc _⟩
theorem limBeats (p : Par) (w : World) : Calls Tryz.prog 47 #[parV p] w fun e w' => e = .returned (.bool (decide (Lim.Beats p))) ∧ Ok w w' := by
  have hok := Ok.refl w
  by_cases h1 : 0 ≤ p.d ∧ p.d ≤ 16
  · have e1 := Lib.hid (show Lim.win p.d 0 16 = true from Lim.win_true.2 (by omega))
    by_cases h2 : p.d + 2 ≤ p.hold ∧ p.hold ≤ 1048576
    · have e2 := Lib.hid (show Lim.win p.hold (p.d + 2) 1048576 = true from Lim.win_true.2 (by omega))
      rw [show decide (Lim.Beats p) = true from decide_eq_true ⟨h1, h2⟩]
      go_enter Tryz.func47, Tryz.ntmps47
      go_wp2_with (go_at_call 103; refine (limWithin _ _ _ _).mono ?_; rintro e w' ⟨rfl, rfl⟩; first | rw [e1.out] | rw [e2.out])
      go_ret
      exact ⟨rfl, hok.alloc _⟩
    · have e2 := Lib.hid (show Lim.win p.hold (p.d + 2) 1048576 = false from Lim.win_false.2 (by omega))
      rw [show decide (Lim.Beats p) = false from decide_eq_false fun g => h2 g.2]
      go_enter Tryz.func47, Tryz.ntmps47
      go_wp2_with (go_at_call 103; refine (limWithin _ _ _ _).mono ?_; rintro e w' ⟨rfl, rfl⟩; first | rw [e1.out] | rw [e2.out])
      go_ret
      exact ⟨rfl, hok.alloc _⟩
  · have e1 := Lib.hid (show Lim.win p.d 0 16 = false from Lim.win_false.2 (by omega))
    rw [show decide (Lim.Beats p) = false from decide_eq_false fun g => h1 g.1]
    go_enter Tryz.func47, Tryz.ntmps47
    go_wp2_with (go_at_call 103; refine (limWithin _ _ _ _).mono ?_; rintro e w' ⟨rfl, rfl⟩; first | rw [e1.out])
    go_ret
    exact ⟨rfl, hok.alloc _⟩
set_option maxHeartbeats 1600000 in
theorem limBeat (p : Par) (w : World) : Calls Tryz.prog 46 #[parV p] w fun e w' => e = .returned (.bool (decide (Lim.Beat p))) ∧ Ok w w' := by
  have hok := Ok.refl w
  by_cases h1 : 1 ≤ p.beat ∧ p.beat ≤ 1099511627776
  · have e1 := Lib.hid (show Lim.win p.beat 1 1099511627776 = true from Lim.win_true.2 (by omega))
    by_cases h2 : 0 ≤ p.rho ∧ 8 * p.rho ≤ p.beat
    · have e2 := Lib.hid (show Lim.win p.rho 0 (p.beat / 8) = true from Lim.win_true.2 (by omega))
      by_cases h3 : 0 ≤ p.delay ∧ 2 * p.delay ≤ p.beat
      · have e3 := Lib.hid (show Lim.win p.delay 0 (p.beat / 2) = true from Lim.win_true.2 (by omega))
        by_cases h4 : 0 ≤ p.jit ∧ p.jit ≤ p.delay
        · have e4 := Lib.hid (show Lim.win p.jit 0 p.delay = true from Lim.win_true.2 (by omega))
          by_cases h5 : 0 ≤ p.eps ∧ p.eps ≤ 1099511627776
          · have e5 := Lib.hid (show Lim.win p.eps 0 1099511627776 = true from Lim.win_true.2 (by omega))
            by_cases h6 : p.rho < p.mu ∧ 4 * p.mu ≤ p.beat
            · have e6 := Lib.hid (show Lim.win p.mu (p.rho + 1) (p.beat / 4) = true from Lim.win_true.2 (by omega))
              rw [show decide (Lim.Beat p) = true from decide_eq_true ⟨h1, h2, h3, h4, h5, h6⟩]
              go_enter Tryz.func46, Tryz.ntmps46
              go_wp2_with (go_at_call 103; refine (limWithin _ _ _ _).mono ?_; rintro e w' ⟨rfl, rfl⟩; first | rw [e1.out] | rw [e2.out] | rw [e3.out] | rw [e4.out] | rw [e5.out] | rw [e6.out])
              go_ret
              exact ⟨rfl, hok.alloc _⟩
            · have e6 := Lib.hid (show Lim.win p.mu (p.rho + 1) (p.beat / 4) = false from Lim.win_false.2 (by omega))
              rw [show decide (Lim.Beat p) = false from decide_eq_false fun g => h6 g.2.2.2.2.2]
              go_enter Tryz.func46, Tryz.ntmps46
              go_wp2_with (go_at_call 103; refine (limWithin _ _ _ _).mono ?_; rintro e w' ⟨rfl, rfl⟩; first | rw [e1.out] | rw [e2.out] | rw [e3.out] | rw [e4.out] | rw [e5.out] | rw [e6.out])
              go_ret
              exact ⟨rfl, hok.alloc _⟩
          · have e5 := Lib.hid (show Lim.win p.eps 0 1099511627776 = false from Lim.win_false.2 (by omega))
            rw [show decide (Lim.Beat p) = false from decide_eq_false fun g => h5 g.2.2.2.2.1]
            go_enter Tryz.func46, Tryz.ntmps46
            go_wp2_with (go_at_call 103; refine (limWithin _ _ _ _).mono ?_; rintro e w' ⟨rfl, rfl⟩; first | rw [e1.out] | rw [e2.out] | rw [e3.out] | rw [e4.out] | rw [e5.out])
            go_ret
            exact ⟨rfl, hok.alloc _⟩
        · have e4 := Lib.hid (show Lim.win p.jit 0 p.delay = false from Lim.win_false.2 (by omega))
          rw [show decide (Lim.Beat p) = false from decide_eq_false fun g => h4 g.2.2.2.1]
          go_enter Tryz.func46, Tryz.ntmps46
          go_wp2_with (go_at_call 103; refine (limWithin _ _ _ _).mono ?_; rintro e w' ⟨rfl, rfl⟩; first | rw [e1.out] | rw [e2.out] | rw [e3.out] | rw [e4.out])
          go_ret
          exact ⟨rfl, hok.alloc _⟩
      · have e3 := Lib.hid (show Lim.win p.delay 0 (p.beat / 2) = false from Lim.win_false.2 (by omega))
        rw [show decide (Lim.Beat p) = false from decide_eq_false fun g => h3 g.2.2.1]
        go_enter Tryz.func46, Tryz.ntmps46
        go_wp2_with (go_at_call 103; refine (limWithin _ _ _ _).mono ?_; rintro e w' ⟨rfl, rfl⟩; first | rw [e1.out] | rw [e2.out] | rw [e3.out])
        go_ret
        exact ⟨rfl, hok.alloc _⟩
    · have e2 := Lib.hid (show Lim.win p.rho 0 (p.beat / 8) = false from Lim.win_false.2 (by omega))
      rw [show decide (Lim.Beat p) = false from decide_eq_false fun g => h2 g.2.1]
      go_enter Tryz.func46, Tryz.ntmps46
      go_wp2_with (go_at_call 103; refine (limWithin _ _ _ _).mono ?_; rintro e w' ⟨rfl, rfl⟩; first | rw [e1.out] | rw [e2.out])
      go_ret
      exact ⟨rfl, hok.alloc _⟩
  · have e1 := Lib.hid (show Lim.win p.beat 1 1099511627776 = false from Lim.win_false.2 (by omega))
    rw [show decide (Lim.Beat p) = false from decide_eq_false fun g => h1 g.1]
    go_enter Tryz.func46, Tryz.ntmps46
    go_wp2_with (go_at_call 103; refine (limWithin _ _ _ _).mono ?_; rintro e w' ⟨rfl, rfl⟩; first | rw [e1.out])
    go_ret
    exact ⟨rfl, hok.alloc _⟩
end Go.Proofs.YtmokofblmkeloaaGreatDoor

/- Contracts of layer 4's Check, the program's and the document's. -/
namespace Go.Proofs.YtmokofblmkeloaaGreatDoor
open Go.RowKit
set_option maxRecDepth 100000
attribute [local go_sem ↓] Go.wp_at_zero Go.wp_at_succ
/-- The block g holds a fabric's numbers. -/
abbrev parCells (p : Par) : Array Value := #[.int .i64 p.n, .int .i64 p.f, .int .i64 p.d, .int .i64 p.beat, .int .i64 p.rho, .int .i64 p.delay, .int .i64 p.jit, .int .i64 p.eps, .int .i64 p.mu, .int .i64 p.hold, .int .i64 p.pulse, .int .i64 p.sec]
theorem Own.pars {w : World} {g : Nat} {p : Par} (h : Own w g (parCells p)) :
    w.cell? ⟨g, 0, none⟩ = some (.int .i64 p.n) ∧ w.cell? ⟨g, 1, none⟩ = some (.int .i64 p.f) ∧ w.cell? ⟨g, 2, none⟩ = some (.int .i64 p.d) ∧ w.cell? ⟨g, 3, none⟩ = some (.int .i64 p.beat) ∧
    w.cell? ⟨g, 4, none⟩ = some (.int .i64 p.rho) ∧ w.cell? ⟨g, 5, none⟩ = some (.int .i64 p.delay) ∧ w.cell? ⟨g, 6, none⟩ = some (.int .i64 p.jit) ∧ w.cell? ⟨g, 7, none⟩ = some (.int .i64 p.eps) ∧
    w.cell? ⟨g, 8, none⟩ = some (.int .i64 p.mu) ∧ w.cell? ⟨g, 9, none⟩ = some (.int .i64 p.hold) ∧ w.cell? ⟨g, 10, none⟩ = some (.int .i64 p.pulse) ∧ w.cell? ⟨g, 11, none⟩ = some (.int .i64 p.sec) :=
  ⟨h.cell 0 rfl, h.cell 1 rfl, h.cell 2 rfl, h.cell 3 rfl, h.cell 4 rfl, h.cell 5 rfl, h.cell 6 rfl, h.cell 7 rfl, h.cell 8 rfl, h.cell 9 rfl, h.cell 10 rfl, h.cell 11 rfl⟩

set_option maxHeartbeats 1600000 in
theorem limCheck (p : Par) (w : World) : Calls Tryz.prog 19 #[parV p] w fun e w' => e = .returned (.int .i64 (Lim.check p)) ∧ Ok w w' := by
  have K1 := Lib.hid fun w => limGates p w
  have K2 := Lib.hid fun w => limBeat p w
  have K3 := Lib.hid fun w => limBeats p w
  have K4 := Lib.hid fun w => limUsers p w
  have key : ∀ b1 b2 b3 b4 : Bool, decide (Lim.Gates p) = b1 → decide (Lim.Beat p) = b2 → decide (Lim.Beats p) = b3 → decide (Lim.Users p) = b4 → Calls Tryz.prog 19 #[parV p] w fun e w' => e = .returned (.int .i64 (if (b1 && b2 && b3 && b4) = true then 0 else 1)) ∧ Ok w w' := by
    intro b1 b2 b3 b4 h1 h2 h3 h4
    rw [h1] at K1
    rw [h2] at K2
    rw [h3] at K3
    rw [h4] at K4
    clear h1 h2 h3 h4
    have hok := Ok.refl w
    cases b1
    case' true => cases b2
    case' true.true => cases b3
    case' true.true.true => cases b4
    all_goals
      simp only [Bool.and_true, Bool.and_false, Bool.false_and, if_true, if_false, reduceCtorEq]
      go_enter Tryz.func19, Tryz.ntmps19
      go_wp2_with (first
        | (go_at_call 45; refine (K1.out _).mono ?_; rintro e w1 ⟨rfl, hb1⟩; have hS := (Own.new _ _ _ rfl).next hb1; replace hok := (hok.alloc _).trans hb1; clear hb1; obtain ⟨c0, c1, c2, c3, c4, c5, c6, c7, c8, c9, c10, c11⟩ := hS.pars)
        | (go_at_call 46; refine (K2.out _).mono ?_; rintro e w1 ⟨rfl, hb1⟩; replace hS := hS.next hb1; replace hok := hok.trans hb1; clear hb1 c0 c1 c2 c3 c4 c5 c6 c7 c8 c9 c10 c11; obtain ⟨c0, c1, c2, c3, c4, c5, c6, c7, c8, c9, c10, c11⟩ := hS.pars)
        | (go_at_call 47; refine (K3.out _).mono ?_; rintro e w1 ⟨rfl, hb1⟩; replace hS := hS.next hb1; replace hok := hok.trans hb1; clear hb1 c0 c1 c2 c3 c4 c5 c6 c7 c8 c9 c10 c11; obtain ⟨c0, c1, c2, c3, c4, c5, c6, c7, c8, c9, c10, c11⟩ := hS.pars)
        | (go_at_call 48; refine (K4.out _).mono ?_; rintro e w1 ⟨rfl, hb1⟩; replace hS := hS.next hb1; replace hok := hok.trans hb1; clear hb1 c0 c1 c2 c3 c4 c5 c6 c7 c8 c9 c10 c11))
      go_ret
      exact ⟨rfl, hok⟩
  have hk := key _ _ _ _ rfl rfl rfl rfl
  have e : (if (decide (Lim.Gates p) && decide (Lim.Beat p) && decide (Lim.Beats p) && decide (Lim.Users p)) = true then (0 : Int) else 1) = Lim.check p := by
    unfold Lim.check Lim.May
    simp only [Bool.and_eq_true, decide_eq_true_eq, and_assoc]
  rw [e] at hk
  exact hk
end Go.Proofs.YtmokofblmkeloaaGreatDoor

/- Words of my own: a message (api.Msg) that came in by value. -/
namespace Go.Proofs.YtmokofblmkeloaaGreatDoor
open Go.RowKit Go.WideShapes Go.ChangeShapes Go.Joins Go.Deep
set_option maxRecDepth 100000
section
variable {H : Type} {enc : TypeId × Value → H} {P : Program} {w : World}
end
/-- A message's value: its table lies at A. -/
def msgV (m : Msg) (A : Option Addr) (cap : Nat) : Value := .agg #[.int .i64 m.kind, .int .i64 m.frm, .int .i64 m.lo, .int .i64 m.hi, .int .i64 m.held, .int .i64 m.hops, .bool m.good, .bool m.ref, .int .i64 m.slo, .int .i64 m.shi, .int .i64 m.pulse, .int .i64 m.time, .int .i64 m.num, .slice A m.table.length cap]
/-- The cells of a message in a block. -/
def msgCells (m : Msg) (A : Option Addr) (cap : Nat) : Array Value := #[.int .i64 m.kind, .int .i64 m.frm, .int .i64 m.lo, .int .i64 m.hi, .int .i64 m.held, .int .i64 m.hops, .bool m.good, .bool m.ref, .int .i64 m.slo, .int .i64 m.shi, .int .i64 m.pulse, .int .i64 m.time, .int .i64 m.num, .slice A m.table.length cap]
/-- No message. -/
def zeroMsg : Msg := ⟨0, 0, 0, 0, 0, 0, false, false, 0, 0, 0, 0, 0, []⟩
/-- No message's cells. -/
def zeroCells : Array Value := #[.int .i64 0, .int .i64 0, .int .i64 0, .int .i64 0, .int .i64 0, .int .i64 0, .bool false, .bool false, .int .i64 0, .int .i64 0, .int .i64 0, .int .i64 0, .int .i64 0, .slice none 0 0]
theorem zeroMsgV (w : World) : Sem.run Tryz.prog (zeroValue 51) w = .ok (msgV zeroMsg none 0) w := by kernel_rfl
/-- All of its numbers are numbers of 64 bits. -/
def MsgWf (m : Msg) : Prop := (∀ x ∈ Wire.nine m, (Lit.int .i64 x).wf = true) ∧ (Lit.int .i64 m.kind).wf = true ∧ (Lit.int .i64 m.frm).wf = true ∧ ∀ s ∈ m.table, (Lit.int .i64 s.1).wf = true ∧ (Lit.int .i64 s.2).wf = true
/-- A message's cells, as they were read. -/
theorem trod_msg {H : Type} {enc : TypeId × Value → H} {w : World} {fuel : Nat} {l : List Value} {x : DataW H × List MemPlace} (hcl : l.length = 14) (hf : DataW.trod enc Tryz.prog w 0 (fun _ => true) true fuel 51 l = some x) :
    ∃ (m : Msg) (A : Option Addr) (cap : Nat), l = (msgCells m A cap).toList ∧ PairsAt w A m.table ∧ m.table.length ≤ cap ∧ cap ≤ maxLen ∧ MsgWf m ∧ ((∀ n ∈ x.1.weights Tryz.prog 51, n ≤ reachBytes) → m.table.length ≤ 8796093022208) := by
  obtain ⟨ys, n', hn', hy, hlen, hyl, hfl⟩ := DataW.trod_struct Tryz.underlying51 hf
  have hys : ys.length = 11 := hyl
  have cI : Tryz.prog.cellsOf 3 = 1 := by kernel_rfl
  have cB : Tryz.prog.cellsOf 4 = 1 := by kernel_rfl
  have cS : Tryz.prog.cellsOf 25 = 2 := by kernel_rfl
  have cT : Tryz.prog.cellsOf 28 = 2 := by kernel_rfl
  have cL : Tryz.prog.cellsOf 26 = 1 := by kernel_rfl
  match l, hcl with
  | [c0, c1, c2, c3, c4, c5, c6, c7, c8, c9, c10, c11, c12, c13], _ =>
    have get : ∀ i, i < 11 → ∃ y, ys[i]? = some y := fun i hi => ⟨ys[i]'(by omega), List.getElem?_eq_getElem _⟩
    have int1 : ∀ (i : Nat) (c : Value), DataW.trod enc Tryz.prog w 0 (fun _ => true) true n' 3 [c] = ys[i]? → i < 11 → ∃ z, c = .int .i64 z ∧ (Lit.int .i64 z).wf = true := by
      intro i c h hi
      obtain ⟨y, hy⟩ := get i hi
      rw [hy] at h
      obtain ⟨z, h1, _, h3⟩ := DataW.trod_int Tryz.underlying3 h
      exact ⟨z, by simpa using h1, h3⟩
    have bool1 : ∀ (i : Nat) (c : Value), DataW.trod enc Tryz.prog w 0 (fun _ => true) true n' 4 [c] = ys[i]? → i < 11 → ∃ z, c = .bool z := by
      intro i c h hi
      obtain ⟨y, hy⟩ := get i hi
      rw [hy] at h
      obtain ⟨z, h1, _⟩ := DataW.trod_bool Tryz.underlying4 h
      exact ⟨z, by simpa using h1⟩
    have pair1 : ∀ (i : Nat) (t : TypeId) (f0 f1 : Field) (c d : Value), Tryz.prog.underlying t = some (.struct #[f0, f1]) → f0.type = 3 → f1.type = 3 → f0.offset = 0 → f1.offset = 1 → DataW.trod enc Tryz.prog w 0 (fun _ => true) true n' t [c, d] = ys[i]? → i < 11 →
        ∃ x y, c = .int .i64 x ∧ d = .int .i64 y ∧ (Lit.int .i64 x).wf = true ∧ (Lit.int .i64 y).wf = true := by
      intro i t f0 f1 c d hu t0 t1 o0 o1 h hi
      obtain ⟨y, hy⟩ := get i hi
      rw [hy] at h
      obtain ⟨zs, n2, _, _, _, hzl, hz⟩ := DataW.trod_struct hu h
      have hzs : zs.length = 2 := hzl
      have a0 := hz 0 f0 rfl
      have a1 := hz 1 f1 rfl
      rw [t0, o0, cI, List.getElem?_eq_getElem (by omega)] at a0
      rw [t1, o1, cI, List.getElem?_eq_getElem (by omega)] at a1
      obtain ⟨x, e1, _, w1⟩ := DataW.trod_int Tryz.underlying3 a0
      obtain ⟨z, e2, _, w2⟩ := DataW.trod_int Tryz.underlying3 a1
      exact ⟨x, z, by simpa using e1, by simpa using e2, w1, w2⟩
    have g0 : DataW.trod enc Tryz.prog w 0 (fun _ => true) true n' 3 (([c0, c1, c2, c3, c4, c5, c6, c7, c8, c9, c10, c11, c12, c13].drop 0).take (Tryz.prog.cellsOf 3)) = ys[0]? := hfl 0 _ rfl
    rw [cI] at g0
    have g1 : DataW.trod enc Tryz.prog w 0 (fun _ => true) true n' 3 (([c0, c1, c2, c3, c4, c5, c6, c7, c8, c9, c10, c11, c12, c13].drop 1).take (Tryz.prog.cellsOf 3)) = ys[1]? := hfl 1 _ rfl
    rw [cI] at g1
    have g2 : DataW.trod enc Tryz.prog w 0 (fun _ => true) true n' 25 (([c0, c1, c2, c3, c4, c5, c6, c7, c8, c9, c10, c11, c12, c13].drop 2).take (Tryz.prog.cellsOf 25)) = ys[2]? := hfl 2 _ rfl
    rw [cS] at g2
    have g3 : DataW.trod enc Tryz.prog w 0 (fun _ => true) true n' 3 (([c0, c1, c2, c3, c4, c5, c6, c7, c8, c9, c10, c11, c12, c13].drop 4).take (Tryz.prog.cellsOf 3)) = ys[3]? := hfl 3 _ rfl
    rw [cI] at g3
    have g4 : DataW.trod enc Tryz.prog w 0 (fun _ => true) true n' 3 (([c0, c1, c2, c3, c4, c5, c6, c7, c8, c9, c10, c11, c12, c13].drop 5).take (Tryz.prog.cellsOf 3)) = ys[4]? := hfl 4 _ rfl
    rw [cI] at g4
    have g5 : DataW.trod enc Tryz.prog w 0 (fun _ => true) true n' 4 (([c0, c1, c2, c3, c4, c5, c6, c7, c8, c9, c10, c11, c12, c13].drop 6).take (Tryz.prog.cellsOf 4)) = ys[5]? := hfl 5 _ rfl
    rw [cB] at g5
    have g6 : DataW.trod enc Tryz.prog w 0 (fun _ => true) true n' 4 (([c0, c1, c2, c3, c4, c5, c6, c7, c8, c9, c10, c11, c12, c13].drop 7).take (Tryz.prog.cellsOf 4)) = ys[6]? := hfl 6 _ rfl
    rw [cB] at g6
    have g7 : DataW.trod enc Tryz.prog w 0 (fun _ => true) true n' 25 (([c0, c1, c2, c3, c4, c5, c6, c7, c8, c9, c10, c11, c12, c13].drop 8).take (Tryz.prog.cellsOf 25)) = ys[7]? := hfl 7 _ rfl
    rw [cS] at g7
    have g8 : DataW.trod enc Tryz.prog w 0 (fun _ => true) true n' 3 (([c0, c1, c2, c3, c4, c5, c6, c7, c8, c9, c10, c11, c12, c13].drop 10).take (Tryz.prog.cellsOf 3)) = ys[8]? := hfl 8 _ rfl
    rw [cI] at g8
    have g9 : DataW.trod enc Tryz.prog w 0 (fun _ => true) true n' 28 (([c0, c1, c2, c3, c4, c5, c6, c7, c8, c9, c10, c11, c12, c13].drop 11).take (Tryz.prog.cellsOf 28)) = ys[9]? := hfl 9 _ rfl
    rw [cT] at g9
    have g10 : DataW.trod enc Tryz.prog w 0 (fun _ => true) true n' 26 (([c0, c1, c2, c3, c4, c5, c6, c7, c8, c9, c10, c11, c12, c13].drop 13).take (Tryz.prog.cellsOf 26)) = ys[10]? := hfl 10 _ rfl
    rw [cL] at g10
    obtain ⟨kind, rfl, wk⟩ := int1 0 _ g0 (by omega)
    obtain ⟨frm, rfl, wf⟩ := int1 1 _ g1 (by omega)
    obtain ⟨lo, hi, rfl, rfl, wlo, whi⟩ := pair1 2 _ _ _ _ _ Tryz.underlying25 rfl rfl rfl rfl g2 (by omega)
    obtain ⟨held, rfl, whe⟩ := int1 3 _ g3 (by omega)
    obtain ⟨hops, rfl, who⟩ := int1 4 _ g4 (by omega)
    obtain ⟨good, rfl⟩ := bool1 5 _ g5 (by omega)
    obtain ⟨ref, rfl⟩ := bool1 6 _ g6 (by omega)
    obtain ⟨slo, shi, rfl, rfl, wsl, wsh⟩ := pair1 7 _ _ _ _ _ Tryz.underlying25 rfl rfl rfl rfl g7 (by omega)
    obtain ⟨pulse, rfl, wp⟩ := int1 8 _ g8 (by omega)
    obtain ⟨time, num, rfl, rfl, wt, wn⟩ := pair1 9 _ _ _ _ _ Tryz.underlying28 rfl rfl rfl rfl g9 (by omega)
    obtain ⟨y, hy10⟩ := get 10 (by omega)
    rw [hy10] at g10
    obtain ⟨A, tb, cap, e, hA, hc1, hc2, hw, hbig⟩ := trod_pairs Tryz.underlying26 Tryz.underlying81 (by kernel_rfl) (by kernel_rfl) Tryz.underlying3 Tryz.underlying3 g10
    obtain rfl : c13 = .slice A tb.length cap := by simpa using e
    refine ⟨⟨kind, frm, lo, hi, held, hops, good, ref, slo, shi, pulse, time, num, tb⟩, A, cap, rfl, hA, hc1, hc2, ⟨?_, wk, wf, hw⟩, fun hn => ?_⟩
    · intro x hx
      simp only [Wire.nine, List.mem_cons, List.not_mem_nil, or_false] at hx
      rcases hx with rfl | rfl | rfl | rfl | rfl | rfl | rfl | rfl | rfl <;> assumption
    · have hT : tb.length * Tryz.prog.bytesOf 81 ≤ reachBytes := hbig fun n hn2 => hn n (by
        have hyx : x.1 = .agg (ys.map (·.1)) := by rw [hy]
        rw [hyx]
        simp only [DataW.weights, Tryz.underlying51]
        exact DataW.weights_mem_each (j := 10) (t := 26) (d := y.1) rfl (by rw [List.getElem?_map, hy10]; rfl) n hn2)
      rw [show Tryz.prog.bytesOf 81 = 16 by kernel_rfl] at hT
      simp only [reachBytes] at hT
      show tb.length ≤ 8796093022208
      omega
end Go.Proofs.YtmokofblmkeloaaGreatDoor

/- Words of my own: a message in a block, kept through a region. -/
namespace Go.Proofs.YtmokofblmkeloaaGreatDoor
open Go.RowKit
set_option maxRecDepth 100000
/-- A message in the block g, and nothing turned since w. -/
def MB (g : Nat) (w : World) (m : Msg) (A : Option Addr) (cap : Nat) (w' : World) : Prop := w'.cell? ⟨g, 0, none⟩ = some (.int .i64 m.kind) ∧ w'.cell? ⟨g, 1, none⟩ = some (.int .i64 m.frm) ∧ w'.cell? ⟨g, 2, none⟩ = some (.int .i64 m.lo) ∧ w'.cell? ⟨g, 3, none⟩ = some (.int .i64 m.hi) ∧ w'.cell? ⟨g, 4, none⟩ = some (.int .i64 m.held) ∧ w'.cell? ⟨g, 5, none⟩ = some (.int .i64 m.hops) ∧ w'.cell? ⟨g, 6, none⟩ = some (.bool m.good) ∧ w'.cell? ⟨g, 7, none⟩ = some (.bool m.ref) ∧ w'.cell? ⟨g, 8, none⟩ = some (.int .i64 m.slo) ∧ w'.cell? ⟨g, 9, none⟩ = some (.int .i64 m.shi) ∧ w'.cell? ⟨g, 10, none⟩ = some (.int .i64 m.pulse) ∧ w'.cell? ⟨g, 11, none⟩ = some (.int .i64 m.time) ∧ w'.cell? ⟨g, 12, none⟩ = some (.int .i64 m.num) ∧ w'.cell? ⟨g, 13, none⟩ = some (.slice A m.table.length cap) ∧ g < w'.heap.size ∧ Ok w w'
namespace MB
variable {g : Nat} {w w' w1 : World} {m : Msg} {A : Option Addr} {cap : Nat}
theorem ok (h : MB g w m A cap w') : Ok w w' := by
  obtain ⟨-, -, -, -, -, -, -, -, -, -, -, -, -, -, -, h⟩ := h
  exact h
theorem of_own (h : Own w' g (msgCells m A cap)) (k : Ok w w') : MB g w m A cap w' :=
  ⟨h.cell 0 rfl, h.cell 1 rfl, h.cell 2 rfl, h.cell 3 rfl, h.cell 4 rfl, h.cell 5 rfl, h.cell 6 rfl, h.cell 7 rfl, h.cell 8 rfl, h.cell 9 rfl, h.cell 10 rfl, h.cell 11 rfl, h.cell 12 rfl, h.cell 13 rfl, h.lt, k⟩
theorem new (w : World) (m : Msg) (A : Option Addr) (cap : Nat) (t : TypeId) {g : Nat} (hg : g = w.heap.size) : MB g w m A cap (w.alloc (.cells (msgCells m A cap) t)) :=
  of_own (Own.new w (msgCells m A cap) t hg) ((Ok.refl w).alloc _)
theorem next (k : Ok w' w1) (h : MB g w m A cap w') : MB g w m A cap w1 := by
  obtain ⟨c0, c1, c2, c3, c4, c5, c6, c7, c8, c9, c10, c11, c12, c13, hl, hok⟩ := h
  have key : ∀ i, w1.cell? ⟨g, i, none⟩ = w'.cell? ⟨g, i, none⟩ := fun i => k.cell (p := ⟨g, i, none⟩) hl
  refine ⟨?_, ?_, ?_, ?_, ?_, ?_, ?_, ?_, ?_, ?_, ?_, ?_, ?_, ?_, Nat.lt_of_lt_of_le hl k.size, hok.trans k⟩ <;> (rw [key]; assumption)
theorem drew (h : MB g w m A cap w') : MB g w m A cap w'.drew := h.next (Ok.refl w').drew
theorem alloc (h : MB g w m A cap w') (o : Obj) : MB g w m A cap (w'.alloc o) := h.next ((Ok.refl w').alloc o)
end MB
end Go.Proofs.YtmokofblmkeloaaGreatDoor

/- Contracts of layer 6: the document's Tables and Same. -/
namespace Go.Proofs.YtmokofblmkeloaaGreatDoor
open Go.RowKit
set_option maxRecDepth 100000
end Go.Proofs.YtmokofblmkeloaaGreatDoor

/- Contracts of layer 6: the document's leap table. -/
namespace Go.Proofs.YtmokofblmkeloaaGreatDoor
open Go.RowKit
set_option maxRecDepth 100000
/-- The earliest second of the next entry, the offset ahead of it. -/
def loAt (l : List (Int × Int)) (k : Nat) : Int := match k with
  | 0 => 0
  | k + 1 => match l[k]? with
    | some e => e.1 + 86400
    | none => 0
def offAt (l : List (Int × Int)) (k : Nat) : Int := match k with
  | 0 => 0
  | k + 1 => match l[k]? with
    | some e => e.2
    | none => 0
theorem tab_step (l : List (Int × Int)) (k : Nat) (hk : k < l.length) : Wire.tabFrom (loAt l k) (offAt l k) (l.drop k) = (decide (loAt l k ≤ l[k].1 ∧ l[k].1 ≤ 1099511627776 ∧ -32 ≤ l[k].2 ∧ l[k].2 ≤ 32 ∧ (l[k].2 = offAt l k + 1 ∨ l[k].2 = offAt l k - 1)) && Wire.tabFrom (loAt l (k + 1)) (offAt l (k + 1)) (l.drop (k + 1))) := by
  rw [List.drop_eq_getElem_cons hk]
  simp only [Wire.tabFrom, loAt, offAt, List.getElem?_eq_getElem hk]
end Go.Proofs.YtmokofblmkeloaaGreatDoor
