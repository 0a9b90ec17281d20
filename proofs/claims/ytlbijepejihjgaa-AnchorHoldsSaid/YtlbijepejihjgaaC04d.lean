/- Contracts of layer 4's bounds: the program's. -/
import Derived.Test.YtlbijepejihjgaaC04b
import Derived.Test.YtlbijepejihjgaaC01b
import Derived.Test.YtlbijepejihjgaaC01c
namespace Go.Proofs.Ytlbijepejihjgaa
open Go.RowKit
set_option maxRecDepth 100000
attribute [local go_sem ↓] Go.wp_at_zero Go.wp_at_succ
/-- A fabric's numbers in a block g, and nothing turned since w: what a region of calls keeps. -/
def BoxP (g : Nat) (w : World) (p : Par) (w' : World) : Prop := w'.cell? ⟨g, 0, none⟩ = some (.int .i64 p.n) ∧ w'.cell? ⟨g, 1, none⟩ = some (.int .i64 p.f) ∧ w'.cell? ⟨g, 2, none⟩ = some (.int .i64 p.d) ∧ w'.cell? ⟨g, 3, none⟩ = some (.int .i64 p.beat) ∧ w'.cell? ⟨g, 4, none⟩ = some (.int .i64 p.rho) ∧ w'.cell? ⟨g, 5, none⟩ = some (.int .i64 p.delay) ∧ w'.cell? ⟨g, 6, none⟩ = some (.int .i64 p.jit) ∧ w'.cell? ⟨g, 7, none⟩ = some (.int .i64 p.eps) ∧ w'.cell? ⟨g, 8, none⟩ = some (.int .i64 p.mu) ∧ w'.cell? ⟨g, 9, none⟩ = some (.int .i64 p.hold) ∧ w'.cell? ⟨g, 10, none⟩ = some (.int .i64 p.pulse) ∧ w'.cell? ⟨g, 11, none⟩ = some (.int .i64 p.sec) ∧ g < w'.heap.size ∧ Ok w w'
theorem BoxP.ok {g : Nat} {w w' : World} {p : Par} (h : BoxP g w p w') : Ok w w' := by
  obtain ⟨-, -, -, -, -, -, -, -, -, -, -, -, -, h⟩ := h
  exact h
theorem BoxP.new (w : World) (p : Par) (t : TypeId) {g : Nat} (hg : g = w.heap.size) : BoxP g w p (w.alloc (.cells (parCells p) t)) := by
  have hS := Own.new w (parCells p) t hg
  obtain ⟨c0, c1, c2, c3, c4, c5, c6, c7, c8, c9, c10, c11⟩ := hS.pars
  exact ⟨c0, c1, c2, c3, c4, c5, c6, c7, c8, c9, c10, c11, hS.lt, (Ok.refl w).alloc _⟩
theorem BoxP.next {g : Nat} {w w' w1 : World} {p : Par} (k : Ok w' w1) (h : BoxP g w p w') : BoxP g w p w1 := by
  obtain ⟨c0, c1, c2, c3, c4, c5, c6, c7, c8, c9, c10, c11, hl, hok⟩ := h
  have key : ∀ i, w1.cell? ⟨g, i, none⟩ = w'.cell? ⟨g, i, none⟩ := fun i => k.cell (p := ⟨g, i, none⟩) hl
  refine ⟨?_, ?_, ?_, ?_, ?_, ?_, ?_, ?_, ?_, ?_, ?_, ?_, Nat.lt_of_lt_of_le hl k.size, hok.trans k⟩ <;> (rw [key]; assumption)
theorem BoxP.drew {g : Nat} {w w' : World} {p : Par} (h : BoxP g w p w') : BoxP g w p w'.drew := h.next (Ok.refl w').drew
theorem BoxP.alloc {g : Nat} {w w' : World} {p : Par} (h : BoxP g w p w') (o : Obj) : BoxP g w p (w'.alloc o) := h.next ((Ok.refl w').alloc o)

set_option maxHeartbeats 1600000 in
theorem limHop (p : Par) (w : World) : Calls Try.prog 18 #[parV p] w fun e w' => e = .returned (.int .i64 (Lim.hop p)) ∧ Ok w w' := by
  have KM := Lib.hid fun w => satMul 2 p.rho w
  unfold Lim.hop
  obtain ⟨m, hm⟩ : ∃ m, Sat.mul 2 p.rho = m := ⟨_, rfl⟩
  rw [hm] at KM ⊢
  clear hm
  go_enter Try.func18, Try.ntmps18
  go_wp2_with fail
  have hB : BoxP w.heap.size w p (w.alloc (.cells (parCells p) 23)) := BoxP.new w p _ rfl
  obtain ⟨g, hg⟩ : ∃ g, w.heap.size = g := ⟨_, rfl⟩
  rw [hg] at hB ⊢
  generalize w.alloc (.cells (parCells p) 23) = W at hB ⊢
  clear hg
  go_region_held3 (fun w' => w'.cell? ⟨g, 0, none⟩ = some (.int .i64 p.n) ∧ w'.cell? ⟨g, 1, none⟩ = some (.int .i64 p.f) ∧ w'.cell? ⟨g, 2, none⟩ = some (.int .i64 p.d) ∧ w'.cell? ⟨g, 3, none⟩ = some (.int .i64 p.beat) ∧ w'.cell? ⟨g, 4, none⟩ = some (.int .i64 p.rho) ∧ w'.cell? ⟨g, 5, none⟩ = some (.int .i64 p.delay) ∧ w'.cell? ⟨g, 6, none⟩ = some (.int .i64 p.jit) ∧ w'.cell? ⟨g, 7, none⟩ = some (.int .i64 p.eps) ∧ w'.cell? ⟨g, 8, none⟩ = some (.int .i64 p.mu) ∧ w'.cell? ⟨g, 9, none⟩ = some (.int .i64 p.hold) ∧ w'.cell? ⟨g, 10, none⟩ = some (.int .i64 p.pulse) ∧ w'.cell? ⟨g, 11, none⟩ = some (.int .i64 p.sec) ∧ g < w'.heap.size ∧ Ok w w')
    (first | assumption | exact BoxP.drew (by assumption) | exact BoxP.alloc (by assumption) _ | exact BoxP.next (by assumption) (by assumption) | exact BoxP.next (by assumption) (BoxP.drew (by assumption)) | exact BoxP.next (by assumption) (BoxP.alloc (by assumption) _)) (first | (go_at_call 39; refine (KM.out _).mono ?_; rintro e w2 ⟨rfl, rfl⟩) | (go_at_call 22; refine (satAdd _ [p.jit, m] 2 _ ?_ (by simp)).mono ?_; (focus ((repeat (first | ((with_reducible refine ints_new _ _ _ _ ?_ ?_) <;> (simp; done)) | (with_reducible refine IntsAt.drew ?_) | (with_reducible refine Ok.ints (by assumption) ?_) | (with_reducible refine IntsAt.alloc ?_ _))); done)); rintro e w2 ⟨rfl, rfl⟩))
  all_goals
    rename_i hS
    have hok := BoxP.ok hS
    clear hS
    go_wp2
    go_ret
    exact ⟨rfl, hok⟩
end Go.Proofs.Ytlbijepejihjgaa
