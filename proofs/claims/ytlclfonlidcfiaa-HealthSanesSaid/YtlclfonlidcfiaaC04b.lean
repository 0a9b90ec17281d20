/- Contracts of layer 4's Check, the program's and the document's. -/
import Derived.Test.YtlclfonlidcfiaaC04a
import Derived.Test.YtlclfonlidcfiaaWA
namespace Go.Proofs.Ytlclfonlidcfiaa
open Go.RowKit
set_option maxRecDepth 100000
attribute [local go_sem ↓] Go.wp_at_zero Go.wp_at_succ
/-- The block g holds a fabric's numbers. -/
abbrev parCells (p : Par) : Array Value := #[.int .i64 p.n, .int .i64 p.f, .int .i64 p.d, .int .i64 p.beat, .int .i64 p.rho, .int .i64 p.delay, .int .i64 p.jit, .int .i64 p.eps, .int .i64 p.mu, .int .i64 p.hold, .int .i64 p.pulse, .int .i64 p.sec]
theorem Own.pars {w : World} {g : Nat} {p : Par} (h : Own w g (parCells p)) :
    w.cell? ⟨g, 0, none⟩ = some (.int .i64 p.n) ∧ w.cell? ⟨g, 1, none⟩ = some (.int .i64 p.f) ∧ w.cell? ⟨g, 2, none⟩ = some (.int .i64 p.d) ∧ w.cell? ⟨g, 3, none⟩ = some (.int .i64 p.beat) ∧
    w.cell? ⟨g, 4, none⟩ = some (.int .i64 p.rho) ∧ w.cell? ⟨g, 5, none⟩ = some (.int .i64 p.delay) ∧ w.cell? ⟨g, 6, none⟩ = some (.int .i64 p.jit) ∧ w.cell? ⟨g, 7, none⟩ = some (.int .i64 p.eps) ∧
    w.cell? ⟨g, 8, none⟩ = some (.int .i64 p.mu) ∧ w.cell? ⟨g, 9, none⟩ = some (.int .i64 p.hold) ∧ w.cell? ⟨g, 10, none⟩ = some (.int .i64 p.pulse) ∧ w.cell? ⟨g, 11, none⟩ = some (.int .i64 p.sec) :=
  ⟨h.cell 0 rfl, h.cell 1 rfl, h.cell 2 rfl, h.cell 3 rfl, h.cell 4 rfl, h.cell 5 rfl, h.cell 6 rfl, h.cell 7 rfl, h.cell 8 rfl, h.cell 9 rfl, h.cell 10 rfl, h.cell 11 rfl⟩

set_option maxHeartbeats 1600000 in
theorem limCheck (p : Par) (w : World) : Calls Try.prog 24 #[parV p] w fun e w' => e = .returned (.int .i64 (Lim.check p)) ∧ Ok w w' := by
  have K1 := Lib.hid fun w => limGates p w
  have K2 := Lib.hid fun w => limBeat p w
  have K3 := Lib.hid fun w => limBeats p w
  have K4 := Lib.hid fun w => limUsers p w
  have key : ∀ b1 b2 b3 b4 : Bool, decide (Lim.Gates p) = b1 → decide (Lim.Beat p) = b2 → decide (Lim.Beats p) = b3 → decide (Lim.Users p) = b4 → Calls Try.prog 24 #[parV p] w fun e w' => e = .returned (.int .i64 (if (b1 && b2 && b3 && b4) = true then 0 else 1)) ∧ Ok w w' := by
    intro b1 b2 b3 b4 h1 h2 h3 h4
    rw [h1] at K1
    rw [h2] at K2
    rw [h3] at K3
    rw [h4] at K4
    clear h1 h2 h3 h4
    have hok := Ok.refl w
    cases b1
    case' true => cases b2
    case' true.true => cases b3
    case' true.true.true => cases b4
    all_goals
      simp only [Bool.and_true, Bool.and_false, Bool.false_and, if_true, if_false, reduceCtorEq]
      go_enter Try.func24, Try.ntmps24
      go_wp2_with (first
        | (go_at_call 64; refine (K1.out _).mono ?_; rintro e w1 ⟨rfl, hb1⟩; have hS := (Own.new _ _ _ rfl).next hb1; replace hok := (hok.alloc _).trans hb1; clear hb1; obtain ⟨c0, c1, c2, c3, c4, c5, c6, c7, c8, c9, c10, c11⟩ := hS.pars)
        | (go_at_call 65; refine (K2.out _).mono ?_; rintro e w1 ⟨rfl, hb1⟩; replace hS := hS.next hb1; replace hok := hok.trans hb1; clear hb1 c0 c1 c2 c3 c4 c5 c6 c7 c8 c9 c10 c11; obtain ⟨c0, c1, c2, c3, c4, c5, c6, c7, c8, c9, c10, c11⟩ := hS.pars)
        | (go_at_call 66; refine (K3.out _).mono ?_; rintro e w1 ⟨rfl, hb1⟩; replace hS := hS.next hb1; replace hok := hok.trans hb1; clear hb1 c0 c1 c2 c3 c4 c5 c6 c7 c8 c9 c10 c11; obtain ⟨c0, c1, c2, c3, c4, c5, c6, c7, c8, c9, c10, c11⟩ := hS.pars)
        | (go_at_call 67; refine (K4.out _).mono ?_; rintro e w1 ⟨rfl, hb1⟩; replace hS := hS.next hb1; replace hok := hok.trans hb1; clear hb1 c0 c1 c2 c3 c4 c5 c6 c7 c8 c9 c10 c11))
      go_ret
      exact ⟨rfl, hok⟩
  have hk := key _ _ _ _ rfl rfl rfl rfl
  have e : (if (decide (Lim.Gates p) && decide (Lim.Beat p) && decide (Lim.Beats p) && decide (Lim.Users p)) = true then (0 : Int) else 1) = Lim.check p := by
    unfold Lim.check Lim.May
    simp only [Bool.and_eq_true, decide_eq_true_eq, and_assoc]
  rw [e] at hk
  exact hk
end Go.Proofs.Ytlclfonlidcfiaa
