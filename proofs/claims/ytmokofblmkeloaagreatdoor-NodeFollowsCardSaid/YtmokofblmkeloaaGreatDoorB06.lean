/- Contracts of layer 2's document functions: divisors, division. -/
import Derived.Test.YtmokofblmkeloaaGreatDoorC01a
import Derived.Test.YtmokofblmkeloaaGreatDoorMA
import Derived.Test.YtmokofblmkeloaaGreatDoorB00
import Derived.Test.YtmokofblmkeloaaGreatDoorB04
import Derived.Test.YtmokofblmkeloaaGreatDoorB03
import Derived.Test.YtmokofblmkeloaaGreatDoorC01b
import Derived.Deep.OwnRows
import Derived.RegionTactic
import Derived.ChangeAlike
import Derived.Deep.QuietTactic
import Derived.BigQuiet
import Derived.Deep.RegionHeld3
import Derived.Deep.DrawnRows
import Derived.Deep.CutRange
namespace Go.Proofs.YtmokofblmkeloaaGreatDoor
open Go.RowKit Go.Lib
set_option maxRecDepth 100000

end Go.Proofs.YtmokofblmkeloaaGreatDoor

/- Contracts of layer 2's document functions: products by digits. -/
namespace Go.Proofs.YtmokofblmkeloaaGreatDoor
open Go.RowKit
set_option maxRecDepth 100000

end Go.Proofs.YtmokofblmkeloaaGreatDoor

/- Contracts of layer 3's functions: those of one span. -/
namespace Go.Proofs.YtmokofblmkeloaaGreatDoor
open Go.RowKit
set_option maxRecDepth 100000
attribute [local go_sem ↓] Go.wp_at_zero Go.wp_at_succ
/-- A span, as a value. -/
abbrev spanV (lo hi : Int) : Value := .agg #[.int .i64 lo, .int .i64 hi]

theorem spanAll (w : World) : Calls Tryz.prog 53 #[] w fun e w' => e = .returned (spanV (-2305843009213693952) 2305843009213693952) ∧ Ok w w' := by
  have hok := Ok.refl w
  go_enter Tryz.func53, Tryz.ntmps53
  go_wp2
  exact bodyPost_ret (v := spanV (-2305843009213693952) 2305843009213693952) (by simp [results, Tryz.results53, go_sem]) rfl ⟨rfl, hok.alloc _⟩
theorem spanOf (lo hi : Int) (w : World) : Calls Tryz.prog 51 #[.int .i64 lo, .int .i64 hi] w fun e w' => e = .returned (spanV (Sat.clip lo) (Sat.clip hi)) ∧ Ok w w' := by
  have hok := Ok.refl w
  go_enter Tryz.func51, Tryz.ntmps51
  go_wp2_with (go_at_call 54; refine (satClip _ _).mono ?_; rintro e w' ⟨rfl, rfl⟩)
  exact bodyPost_ret (v := spanV (Sat.clip lo) (Sat.clip hi)) (by simp [results, Tryz.results51, go_sem]) rfl ⟨rfl, hok.alloc _⟩
theorem spanEmpty (lo hi : Int) (w : World) : Calls Tryz.prog 52 #[spanV lo hi] w fun e w' => e = .returned (.bool (decide (hi < lo))) ∧ Ok w w' := by
  have hok := Ok.refl w
  go_enter Tryz.func52, Tryz.ntmps52
  go_wp2
  go_ret
  exact ⟨rfl, hok.alloc _⟩
theorem spanMid (lo hi : Int) (w : World) : Calls Tryz.prog 113 #[spanV lo hi] w fun e w' => e = .returned (.int .i64 ((Sat.clip lo + Sat.clip hi) / 2)) ∧ Ok w w' := by
  have hok := Ok.refl w
  have b1 := Sat.clip_bd lo
  have b2 := Sat.clip_bd hi
  go_enter Tryz.func113, Tryz.ntmps113
  go_wp2
  go_quiet ((go_at_call 54; exact Calls.quiet_of_same ((satClip _ _).mono fun _ _ h => ⟨h.1, h.2.symm⟩)))
  go_wp2
  go_ret
  exact ⟨rfl, (hok.alloc _).drewN _⟩
set_option maxHeartbeats 800000 in
theorem spanShift (a b lo hi : Int) (w : World) : Calls Tryz.prog 154 #[spanV a b, .int .i64 lo, .int .i64 hi] w fun e w' => e = .returned (spanV (Sat.sum [a, lo]) (Sat.sum [b, hi])) ∧ Ok w w' := by
  have hok := Ok.refl w
  go_enter Tryz.func154, Tryz.ntmps154
  go_wp2
  go_region_held3 (fun w' => w'.cell? ⟨w.heap.size, 0, none⟩ = some (.int .i64 a) ∧ w'.cell? ⟨w.heap.size, 1, none⟩ = some (.int .i64 b))
    (go_keep) (first | (go_at_call 49; refine (satAdd _ [a, lo] 2 _ ?_ (by simp)).mono ?_; (focus ((repeat (first | ((with_reducible refine ints_new _ _ _ _ ?_ ?_) <;> (simp; done)) | (with_reducible refine IntsAt.drew ?_) | (with_reducible refine IntsAt.alloc ?_ _))); done)); rintro e w' ⟨rfl, rfl⟩) | (go_at_call 49; refine (satAdd _ [b, hi] 2 _ ?_ (by simp)).mono ?_; (focus ((repeat (first | ((with_reducible refine ints_new _ _ _ _ ?_ ?_) <;> (simp; done)) | (with_reducible refine IntsAt.drew ?_) | (with_reducible refine IntsAt.alloc ?_ _))); done)); rintro e w' ⟨rfl, rfl⟩))
  all_goals
    go_wp2
    exact bodyPost_ret (v := spanV _ _) (by simp [results, Tryz.results154, go_sem]) rfl ⟨rfl, by repeat (first | (with_reducible exact hok) | ((with_reducible refine Ok.setCell ?_ ?_ _); focus (simp; done)) | (with_reducible refine Ok.drew ?_) | (with_reducible refine Ok.alloc ?_ _))⟩
end Go.Proofs.YtmokofblmkeloaaGreatDoor

/- Contracts of layer 4's bounds: the program's. -/
namespace Go.Proofs.YtmokofblmkeloaaGreatDoor
open Go.RowKit
set_option maxRecDepth 100000
attribute [local go_sem ↓] Go.wp_at_zero Go.wp_at_succ
/-- A fabric's numbers in a block g, and nothing turned since w: what a region of calls keeps. -/
def BoxP (g : Nat) (w : World) (p : Par) (w' : World) : Prop := w'.cell? ⟨g, 0, none⟩ = some (.int .i64 p.n) ∧ w'.cell? ⟨g, 1, none⟩ = some (.int .i64 p.f) ∧ w'.cell? ⟨g, 2, none⟩ = some (.int .i64 p.d) ∧ w'.cell? ⟨g, 3, none⟩ = some (.int .i64 p.beat) ∧ w'.cell? ⟨g, 4, none⟩ = some (.int .i64 p.rho) ∧ w'.cell? ⟨g, 5, none⟩ = some (.int .i64 p.delay) ∧ w'.cell? ⟨g, 6, none⟩ = some (.int .i64 p.jit) ∧ w'.cell? ⟨g, 7, none⟩ = some (.int .i64 p.eps) ∧ w'.cell? ⟨g, 8, none⟩ = some (.int .i64 p.mu) ∧ w'.cell? ⟨g, 9, none⟩ = some (.int .i64 p.hold) ∧ w'.cell? ⟨g, 10, none⟩ = some (.int .i64 p.pulse) ∧ w'.cell? ⟨g, 11, none⟩ = some (.int .i64 p.sec) ∧ g < w'.heap.size ∧ Ok w w'
theorem BoxP.ok {g : Nat} {w w' : World} {p : Par} (h : BoxP g w p w') : Ok w w' := by
  obtain ⟨-, -, -, -, -, -, -, -, -, -, -, -, -, h⟩ := h
  exact h
theorem BoxP.new (w : World) (p : Par) (t : TypeId) {g : Nat} (hg : g = w.heap.size) : BoxP g w p (w.alloc (.cells (parCells p) t)) := by
  have hS := Own.new w (parCells p) t hg
  obtain ⟨c0, c1, c2, c3, c4, c5, c6, c7, c8, c9, c10, c11⟩ := hS.pars
  exact ⟨c0, c1, c2, c3, c4, c5, c6, c7, c8, c9, c10, c11, hS.lt, (Ok.refl w).alloc _⟩
theorem BoxP.next {g : Nat} {w w' w1 : World} {p : Par} (k : Ok w' w1) (h : BoxP g w p w') : BoxP g w p w1 := by
  obtain ⟨c0, c1, c2, c3, c4, c5, c6, c7, c8, c9, c10, c11, hl, hok⟩ := h
  have key : ∀ i, w1.cell? ⟨g, i, none⟩ = w'.cell? ⟨g, i, none⟩ := fun i => k.cell (p := ⟨g, i, none⟩) hl
  refine ⟨?_, ?_, ?_, ?_, ?_, ?_, ?_, ?_, ?_, ?_, ?_, ?_, Nat.lt_of_lt_of_le hl k.size, hok.trans k⟩ <;> (rw [key]; assumption)
theorem BoxP.drew {g : Nat} {w w' : World} {p : Par} (h : BoxP g w p w') : BoxP g w p w'.drew := h.next (Ok.refl w').drew
theorem BoxP.alloc {g : Nat} {w w' : World} {p : Par} (h : BoxP g w p w') (o : Obj) : BoxP g w p (w'.alloc o) := h.next ((Ok.refl w').alloc o)

set_option maxHeartbeats 1600000 in
theorem limHop (p : Par) (w : World) : Calls Tryz.prog 20 #[parV p] w fun e w' => e = .returned (.int .i64 (Lim.hop p)) ∧ Ok w w' := by
  have KM := Lib.hid fun w => satMul 2 p.rho w
  unfold Lim.hop
  obtain ⟨m, hm⟩ : ∃ m, Sat.mul 2 p.rho = m := ⟨_, rfl⟩
  rw [hm] at KM ⊢
  clear hm
  go_enter Tryz.func20, Tryz.ntmps20
  go_wp2_with fail
  have hB : BoxP w.heap.size w p (w.alloc (.cells (parCells p) 23)) := BoxP.new w p _ rfl
  obtain ⟨g, hg⟩ : ∃ g, w.heap.size = g := ⟨_, rfl⟩
  rw [hg] at hB ⊢
  generalize w.alloc (.cells (parCells p) 23) = W at hB ⊢
  clear hg
  go_region_held3 (fun w' => w'.cell? ⟨g, 0, none⟩ = some (.int .i64 p.n) ∧ w'.cell? ⟨g, 1, none⟩ = some (.int .i64 p.f) ∧ w'.cell? ⟨g, 2, none⟩ = some (.int .i64 p.d) ∧ w'.cell? ⟨g, 3, none⟩ = some (.int .i64 p.beat) ∧ w'.cell? ⟨g, 4, none⟩ = some (.int .i64 p.rho) ∧ w'.cell? ⟨g, 5, none⟩ = some (.int .i64 p.delay) ∧ w'.cell? ⟨g, 6, none⟩ = some (.int .i64 p.jit) ∧ w'.cell? ⟨g, 7, none⟩ = some (.int .i64 p.eps) ∧ w'.cell? ⟨g, 8, none⟩ = some (.int .i64 p.mu) ∧ w'.cell? ⟨g, 9, none⟩ = some (.int .i64 p.hold) ∧ w'.cell? ⟨g, 10, none⟩ = some (.int .i64 p.pulse) ∧ w'.cell? ⟨g, 11, none⟩ = some (.int .i64 p.sec) ∧ g < w'.heap.size ∧ Ok w w')
    (first | assumption | exact BoxP.drew (by assumption) | exact BoxP.alloc (by assumption) _ | exact BoxP.next (by assumption) (by assumption) | exact BoxP.next (by assumption) (BoxP.drew (by assumption)) | exact BoxP.next (by assumption) (BoxP.alloc (by assumption) _)) (first | (go_at_call 50; refine (KM.out _).mono ?_; rintro e w2 ⟨rfl, rfl⟩) | (go_at_call 49; refine (satAdd _ [p.jit, m] 2 _ ?_ (by simp)).mono ?_; (focus ((repeat (first | ((with_reducible refine ints_new _ _ _ _ ?_ ?_) <;> (simp; done)) | (with_reducible refine IntsAt.drew ?_) | (with_reducible refine Ok.ints (by assumption) ?_) | (with_reducible refine IntsAt.alloc ?_ _))); done)); rintro e w2 ⟨rfl, rfl⟩))
  all_goals
    rename_i hS
    have hok := BoxP.ok hS
    clear hS
    go_wp2
    go_ret
    exact ⟨rfl, hok⟩
set_option maxHeartbeats 1600000 in
theorem limGate (p : Par) (w : World) : Calls Tryz.prog 108 #[parV p] w fun e w' => e = .returned (.int .i64 (Lim.gate p)) ∧ Ok w w' := by
  have KM := Lib.hid fun w => satMul 2 p.eps w
  have KH := Lib.hid fun w => limHop p w
  unfold Lim.gate
  obtain ⟨m, hm⟩ : ∃ m, Sat.mul 2 p.eps = m := ⟨_, rfl⟩
  obtain ⟨h, hh⟩ : ∃ h, Lim.hop p = h := ⟨_, rfl⟩
  rw [hm] at KM ⊢
  rw [hh] at KH ⊢
  clear hm hh
  obtain ⟨s, hs⟩ : ∃ s, Sat.sum [m, h] = s := ⟨_, rfl⟩
  have HS := Lib.hid hs
  have KM2 := Lib.hid fun w => satMul 2 s w
  rw [hs]
  clear hs
  obtain ⟨q, hq⟩ : ∃ q, Sat.mul 2 s = q := ⟨_, rfl⟩
  rw [hq] at KM2 ⊢
  clear hq
  go_enter Tryz.func108, Tryz.ntmps108
  go_wp2_with fail
  have hB : BoxP w.heap.size w p (w.alloc (.cells (parCells p) 23)) := BoxP.new w p _ rfl
  obtain ⟨g, hg⟩ : ∃ g, w.heap.size = g := ⟨_, rfl⟩
  rw [hg] at hB ⊢
  generalize w.alloc (.cells (parCells p) 23) = W at hB ⊢
  clear hg
  go_region_held3 (fun w' => w'.cell? ⟨g, 0, none⟩ = some (.int .i64 p.n) ∧ w'.cell? ⟨g, 1, none⟩ = some (.int .i64 p.f) ∧ w'.cell? ⟨g, 2, none⟩ = some (.int .i64 p.d) ∧ w'.cell? ⟨g, 3, none⟩ = some (.int .i64 p.beat) ∧ w'.cell? ⟨g, 4, none⟩ = some (.int .i64 p.rho) ∧ w'.cell? ⟨g, 5, none⟩ = some (.int .i64 p.delay) ∧ w'.cell? ⟨g, 6, none⟩ = some (.int .i64 p.jit) ∧ w'.cell? ⟨g, 7, none⟩ = some (.int .i64 p.eps) ∧ w'.cell? ⟨g, 8, none⟩ = some (.int .i64 p.mu) ∧ w'.cell? ⟨g, 9, none⟩ = some (.int .i64 p.hold) ∧ w'.cell? ⟨g, 10, none⟩ = some (.int .i64 p.pulse) ∧ w'.cell? ⟨g, 11, none⟩ = some (.int .i64 p.sec) ∧ g < w'.heap.size ∧ Ok w w')
    (first | assumption | exact BoxP.drew (by assumption) | exact BoxP.alloc (by assumption) _ | exact BoxP.next (by assumption) (by assumption) | exact BoxP.next (by assumption) (BoxP.drew (by assumption)) | exact BoxP.next (by assumption) (BoxP.alloc (by assumption) _)) (first | (go_at_call 20; refine (KH.out _).mono ?_; rintro e w2 ⟨rfl, hb2⟩) | (go_at_call 49; refine (satAdd _ [m, h] 2 _ ?_ (by simp)).mono ?_; (focus ((repeat (first | ((with_reducible refine ints_new _ _ _ _ ?_ ?_) <;> (simp; done)) | (with_reducible refine IntsAt.drew ?_) | (with_reducible refine Ok.ints (by assumption) ?_) | (with_reducible refine IntsAt.alloc ?_ _))); done)); rintro e w2 ⟨rfl, rfl⟩; rw [HS.out]) | (go_at_call 50; (with_reducible refine (KM.out _).mono ?_); rintro e w2 ⟨rfl, rfl⟩) | (go_at_call 50; (with_reducible refine (KM2.out _).mono ?_); rintro e w2 ⟨rfl, rfl⟩))
  all_goals
    rename_i hS
    have hok := BoxP.ok hS
    clear hS
    go_wp2
    go_ret
    exact ⟨rfl, hok⟩
set_option maxHeartbeats 1600000 in
theorem limWidth (p : Par) (held hops : Int) (w : World) : Calls Tryz.prog 60 #[parV p, .int .i64 held, .int .i64 hops] w fun e w' => e = .returned (.int .i64 (Lim.width p held hops)) ∧ Ok w w' := by
  have KM := Lib.hid fun w => satMul 2 p.rho w
  have KH := Lib.hid fun w => limHop p w
  have KG := Lib.hid fun w => limGate p w
  unfold Lim.width
  obtain ⟨m, hm⟩ : ∃ m, Sat.mul 2 p.rho = m := ⟨_, rfl⟩
  obtain ⟨h, hh⟩ : ∃ h, Lim.hop p = h := ⟨_, rfl⟩
  obtain ⟨q, hq⟩ : ∃ q, Lim.gate p = q := ⟨_, rfl⟩
  rw [hm] at KM ⊢
  rw [hh] at KH ⊢
  rw [hq] at KG ⊢
  clear hm hh hq
  have KD := Lib.hid fun w => satMul m held w
  obtain ⟨d, hd⟩ : ∃ d, Sat.mul m held = d := ⟨_, rfl⟩
  rw [hd] at KD ⊢
  clear hd
  obtain ⟨s, hs⟩ : ∃ s, Sat.sum [hops, 1] = s := ⟨_, rfl⟩
  have HS := Lib.hid hs
  rw [hs]
  clear hs
  have KW := Lib.hid fun w => satMul s h w
  obtain ⟨y, hy⟩ : ∃ y, Sat.mul s h = y := ⟨_, rfl⟩
  rw [hy] at KW ⊢
  clear hy
  go_enter Tryz.func60, Tryz.ntmps60
  go_upto_region 1 with fail
  have hB : BoxP w.heap.size w p (w.alloc (.cells (parCells p) 23)) := BoxP.new w p _ rfl
  obtain ⟨g, hg⟩ : ∃ g, w.heap.size = g := ⟨_, rfl⟩
  rw [hg] at hB ⊢
  generalize w.alloc (.cells (parCells p) 23) = W at hB ⊢
  clear hg
  have hS := hB
  obtain ⟨c0, c1, c2, c3, c4, c5, c6, c7, c8, c9, c10, c11, -, -⟩ := hS
  go_wp2_with (first | (go_at_call 50; (with_reducible refine (KM.out _).mono ?_); rintro e w2 ⟨rfl, rfl⟩) | (go_at_call 50; (with_reducible refine (KD.out _).mono ?_); rintro e w2 ⟨rfl, rfl⟩))
  clear c0 c1 c2 c3 c4 c5 c6 c7 c8 c9 c10 c11 KM KD
  go_region_held3 (fun w' => w'.cell? ⟨g, 0, none⟩ = some (.int .i64 p.n) ∧ w'.cell? ⟨g, 1, none⟩ = some (.int .i64 p.f) ∧ w'.cell? ⟨g, 2, none⟩ = some (.int .i64 p.d) ∧ w'.cell? ⟨g, 3, none⟩ = some (.int .i64 p.beat) ∧ w'.cell? ⟨g, 4, none⟩ = some (.int .i64 p.rho) ∧ w'.cell? ⟨g, 5, none⟩ = some (.int .i64 p.delay) ∧ w'.cell? ⟨g, 6, none⟩ = some (.int .i64 p.jit) ∧ w'.cell? ⟨g, 7, none⟩ = some (.int .i64 p.eps) ∧ w'.cell? ⟨g, 8, none⟩ = some (.int .i64 p.mu) ∧ w'.cell? ⟨g, 9, none⟩ = some (.int .i64 p.hold) ∧ w'.cell? ⟨g, 10, none⟩ = some (.int .i64 p.pulse) ∧ w'.cell? ⟨g, 11, none⟩ = some (.int .i64 p.sec) ∧ g < w'.heap.size ∧ Ok w w')
    (first | assumption | exact BoxP.drew (by assumption) | exact BoxP.alloc (by assumption) _ | exact BoxP.next (by assumption) (by assumption) | exact BoxP.next (by assumption) (BoxP.drew (by assumption)) | exact BoxP.next (by assumption) (BoxP.alloc (by assumption) _)) (first | (go_at_call 20; refine (KH.out _).mono ?_; rintro e w2 ⟨rfl, hb2⟩) | (go_at_call 49; refine (satAdd _ [hops, 1] 2 _ ?_ (by simp)).mono ?_; (focus ((repeat (first | ((with_reducible refine ints_new _ _ _ _ ?_ ?_) <;> (simp; done)) | (with_reducible refine IntsAt.drew ?_) | (with_reducible refine Ok.ints (by assumption) ?_) | (with_reducible refine IntsAt.alloc ?_ _))); done)); rintro e w2 ⟨rfl, rfl⟩; rw [HS.out]) | (go_at_call 50; refine (KW.out _).mono ?_; rintro e w2 ⟨rfl, rfl⟩))
  all_goals
    rename_i hS
    obtain ⟨c0, c1, c2, c3, c4, c5, c6, c7, c8, c9, c10, c11, -, hok⟩ := hS
    go_wp2_with (first | (go_at_call 108; (with_reducible refine (KG.out _).mono ?_); rintro e w3 ⟨rfl, hb3⟩; replace hok := hok.trans hb3; clear hb3 c0 c1 c2 c3 c4 c5 c6 c7 c8 c9 c10 c11) | (go_at_call 49; (with_reducible refine (satAdd3 _ _ _ _ _ _ (by simp)).mono ?_); rintro e w3 ⟨rfl, rfl⟩))
    go_ret
    exact ⟨rfl, hok.alloc _⟩
end Go.Proofs.YtmokofblmkeloaaGreatDoor
