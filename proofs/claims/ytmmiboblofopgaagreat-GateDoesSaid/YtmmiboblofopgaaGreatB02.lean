/- Several texts of mine in one: C03a, C04d, C04e, W37. -/
import Derived.Test.YtmmiboblofopgaaGreatC01a
import Derived.Test.YtmmiboblofopgaaGreatB00
import Derived.Test.YtmmiboblofopgaaGreatB00
import Derived.Deep.QuietTactic
import Derived.BigQuiet
import Derived.Deep.RegionHeld3
import Derived.Deep.DrawnRows
import Derived.Test.YtmmiboblofopgaaGreatMA
import Derived.Deep.CutRange
import Derived.Test.YtmmiboblofopgaaGreatC01b
import Derived.Test.YtmmiboblofopgaaGreatB01
import Derived.SizedLaws
/- Contracts of layer 3's functions: those of one span. -/
namespace Go.Proofs.YtmmiboblofopgaaGreat
open Go.RowKit
set_option maxRecDepth 100000
attribute [local go_sem ↓] Go.wp_at_zero Go.wp_at_succ
/-- A span, as a value. -/
abbrev spanV (lo hi : Int) : Value := .agg #[.int .i64 lo, .int .i64 hi]

theorem spanAll (w : World) : Calls Tryz.prog 59 #[] w fun e w' => e = .returned (spanV (-2305843009213693952) 2305843009213693952) ∧ Ok w w' := by
  have hok := Ok.refl w
  go_enter Tryz.func59, Tryz.ntmps59
  go_wp2
  exact bodyPost_ret (v := spanV (-2305843009213693952) 2305843009213693952) (by simp [results, Tryz.results59, go_sem]) rfl ⟨rfl, hok.alloc _⟩
theorem spanOf (lo hi : Int) (w : World) : Calls Tryz.prog 57 #[.int .i64 lo, .int .i64 hi] w fun e w' => e = .returned (spanV (Sat.clip lo) (Sat.clip hi)) ∧ Ok w w' := by
  have hok := Ok.refl w
  go_enter Tryz.func57, Tryz.ntmps57
  go_wp2_with (go_at_call 60; refine (satClip _ _).mono ?_; rintro e w' ⟨rfl, rfl⟩)
  exact bodyPost_ret (v := spanV (Sat.clip lo) (Sat.clip hi)) (by simp [results, Tryz.results57, go_sem]) rfl ⟨rfl, hok.alloc _⟩
theorem spanEmpty (lo hi : Int) (w : World) : Calls Tryz.prog 58 #[spanV lo hi] w fun e w' => e = .returned (.bool (decide (hi < lo))) ∧ Ok w w' := by
  have hok := Ok.refl w
  go_enter Tryz.func58, Tryz.ntmps58
  go_wp2
  go_ret
  exact ⟨rfl, hok.alloc _⟩
theorem spanMid (lo hi : Int) (w : World) : Calls Tryz.prog 111 #[spanV lo hi] w fun e w' => e = .returned (.int .i64 ((Sat.clip lo + Sat.clip hi) / 2)) ∧ Ok w w' := by
  have hok := Ok.refl w
  have b1 := Sat.clip_bd lo
  have b2 := Sat.clip_bd hi
  go_enter Tryz.func111, Tryz.ntmps111
  go_wp2
  go_quiet ((go_at_call 60; exact Calls.quiet_of_same ((satClip _ _).mono fun _ _ h => ⟨h.1, h.2.symm⟩)))
  go_wp2
  go_ret
  exact ⟨rfl, (hok.alloc _).drewN _⟩
set_option maxHeartbeats 800000 in
theorem spanShift (a b lo hi : Int) (w : World) : Calls Tryz.prog 109 #[spanV a b, .int .i64 lo, .int .i64 hi] w fun e w' => e = .returned (spanV (Sat.sum [a, lo]) (Sat.sum [b, hi])) ∧ Ok w w' := by
  have hok := Ok.refl w
  go_enter Tryz.func109, Tryz.ntmps109
  go_wp2
  go_region_held3 (fun w' => w'.cell? ⟨w.heap.size, 0, none⟩ = some (.int .i64 a) ∧ w'.cell? ⟨w.heap.size, 1, none⟩ = some (.int .i64 b))
    (go_keep) (first | (go_at_call 55; refine (satAdd _ [a, lo] 2 _ ?_ (by simp)).mono ?_; (focus ((repeat (first | ((with_reducible refine ints_new _ _ _ _ ?_ ?_) <;> (simp; done)) | (with_reducible refine IntsAt.drew ?_) | (with_reducible refine IntsAt.alloc ?_ _))); done)); rintro e w' ⟨rfl, rfl⟩) | (go_at_call 55; refine (satAdd _ [b, hi] 2 _ ?_ (by simp)).mono ?_; (focus ((repeat (first | ((with_reducible refine ints_new _ _ _ _ ?_ ?_) <;> (simp; done)) | (with_reducible refine IntsAt.drew ?_) | (with_reducible refine IntsAt.alloc ?_ _))); done)); rintro e w' ⟨rfl, rfl⟩))
  all_goals
    go_wp2
    exact bodyPost_ret (v := spanV _ _) (by simp [results, Tryz.results109, go_sem]) rfl ⟨rfl, by repeat (first | (with_reducible exact hok) | ((with_reducible refine Ok.setCell ?_ ?_ _); focus (simp; done)) | (with_reducible refine Ok.drew ?_) | (with_reducible refine Ok.alloc ?_ _))⟩
theorem ref3Of (lo hi : Int) (w : World) : Calls Tryz.prog 27 #[.int .i64 lo, .int .i64 hi] w fun e w' => e = .returned (spanV (Sat.clip lo) (Sat.clip hi)) ∧ Ok w w' := by
  have hok := Ok.refl w
  go_enter Tryz.func27, Tryz.ntmps27
  go_wp2_with (go_at_call 28; refine (refClip _ _).mono ?_; rintro e w' ⟨rfl, rfl⟩)
  exact bodyPost_ret (v := spanV (Sat.clip lo) (Sat.clip hi)) (by simp [results, Tryz.results27, go_sem]) rfl ⟨rfl, hok.alloc _⟩
theorem ref3Mid (lo hi : Int) (w : World) : Calls Tryz.prog 88 #[spanV lo hi] w fun e w' => e = .returned (.int .i64 ((Sat.clip lo + Sat.clip hi) / 2)) ∧ Ok w w' := by
  have hok := Ok.refl w
  have b1 := Sat.clip_bd lo
  have b2 := Sat.clip_bd hi
  obtain ⟨n, hn⟩ : ∃ n, Sat.clip lo + Sat.clip hi = n := ⟨_, rfl⟩
  rw [hn]
  have hb : -4611686018427387904 ≤ n ∧ n ≤ 4611686018427387904 := by omega
  clear b1 b2
  by_cases h : n % 2 = 0
  · have h1 : n.tmod 2 = 0 := (Span.half_even h).1
    have h2 : n.tdiv 2 = n / 2 := (Span.half_even h).2
    go_enter Tryz.func88, Tryz.ntmps88
    go_wp2
    go_quiet ((go_at_call 28; exact Calls.quiet_of_same ((refClip _ _).mono fun _ _ h => ⟨h.1, h.2.symm⟩)))
    go_wp2
    go_ret
    exact ⟨rfl, (hok.alloc _).drewN _⟩
  · have h1 : n.tmod 2 ≠ 0 := (Span.half_odd h).1
    have h2 : (n - 1).tdiv 2 = n / 2 := (Span.half_odd h).2
    go_enter Tryz.func88, Tryz.ntmps88
    go_wp2
    go_quiet ((go_at_call 28; exact Calls.quiet_of_same ((refClip _ _).mono fun _ _ h => ⟨h.1, h.2.symm⟩)))
    go_wp2
    go_ret
    exact ⟨rfl, (hok.alloc _).drewN _⟩
set_option maxHeartbeats 800000 in
theorem ref3Shift (a b lo hi : Int) (w : World) : Calls Tryz.prog 81 #[spanV a b, .int .i64 lo, .int .i64 hi] w fun e w' => e = .returned (spanV (Sat.sum [a, lo]) (Sat.sum [b, hi])) ∧ Ok w w' := by
  have hok := Ok.refl w
  go_enter Tryz.func81, Tryz.ntmps81
  go_wp2
  go_region_held3 (fun w' => w'.cell? ⟨w.heap.size, 0, none⟩ = some (.int .i64 a) ∧ w'.cell? ⟨w.heap.size, 1, none⟩ = some (.int .i64 b))
    (go_keep) (first | (go_at_call 30; refine (refAdd _ [a, lo] 2 _ ?_ (by simp)).mono ?_; (focus ((repeat (first | ((with_reducible refine ints_new _ _ _ _ ?_ ?_) <;> (simp; done)) | (with_reducible refine IntsAt.drew ?_) | (with_reducible refine IntsAt.alloc ?_ _))); done)); rintro e w' ⟨rfl, rfl⟩) | (go_at_call 30; refine (refAdd _ [b, hi] 2 _ ?_ (by simp)).mono ?_; (focus ((repeat (first | ((with_reducible refine ints_new _ _ _ _ ?_ ?_) <;> (simp; done)) | (with_reducible refine IntsAt.drew ?_) | (with_reducible refine IntsAt.alloc ?_ _))); done)); rintro e w' ⟨rfl, rfl⟩))
  all_goals
    go_wp2
    exact bodyPost_ret (v := spanV _ _) (by simp [results, Tryz.results81, go_sem]) rfl ⟨rfl, by repeat (first | (with_reducible exact hok) | ((with_reducible refine Ok.setCell ?_ ?_ _); focus (simp; done)) | (with_reducible refine Ok.drew ?_) | (with_reducible refine Ok.alloc ?_ _))⟩
end Go.Proofs.YtmmiboblofopgaaGreat

/- Contracts of layer 4's bounds: the program's. -/
namespace Go.Proofs.YtmmiboblofopgaaGreat
open Go.RowKit
set_option maxRecDepth 100000
attribute [local go_sem ↓] Go.wp_at_zero Go.wp_at_succ
/-- A fabric's numbers in a block g, and nothing turned since w: what a region of calls keeps. -/
def BoxP (g : Nat) (w : World) (p : Par) (w' : World) : Prop := w'.cell? ⟨g, 0, none⟩ = some (.int .i64 p.n) ∧ w'.cell? ⟨g, 1, none⟩ = some (.int .i64 p.f) ∧ w'.cell? ⟨g, 2, none⟩ = some (.int .i64 p.d) ∧ w'.cell? ⟨g, 3, none⟩ = some (.int .i64 p.beat) ∧ w'.cell? ⟨g, 4, none⟩ = some (.int .i64 p.rho) ∧ w'.cell? ⟨g, 5, none⟩ = some (.int .i64 p.delay) ∧ w'.cell? ⟨g, 6, none⟩ = some (.int .i64 p.jit) ∧ w'.cell? ⟨g, 7, none⟩ = some (.int .i64 p.eps) ∧ w'.cell? ⟨g, 8, none⟩ = some (.int .i64 p.mu) ∧ w'.cell? ⟨g, 9, none⟩ = some (.int .i64 p.hold) ∧ w'.cell? ⟨g, 10, none⟩ = some (.int .i64 p.pulse) ∧ w'.cell? ⟨g, 11, none⟩ = some (.int .i64 p.sec) ∧ g < w'.heap.size ∧ Ok w w'
theorem BoxP.ok {g : Nat} {w w' : World} {p : Par} (h : BoxP g w p w') : Ok w w' := by
  obtain ⟨-, -, -, -, -, -, -, -, -, -, -, -, -, h⟩ := h
  exact h
theorem BoxP.new (w : World) (p : Par) (t : TypeId) {g : Nat} (hg : g = w.heap.size) : BoxP g w p (w.alloc (.cells (parCells p) t)) := by
  have hS := Own.new w (parCells p) t hg
  obtain ⟨c0, c1, c2, c3, c4, c5, c6, c7, c8, c9, c10, c11⟩ := hS.pars
  exact ⟨c0, c1, c2, c3, c4, c5, c6, c7, c8, c9, c10, c11, hS.lt, (Ok.refl w).alloc _⟩
theorem BoxP.next {g : Nat} {w w' w1 : World} {p : Par} (k : Ok w' w1) (h : BoxP g w p w') : BoxP g w p w1 := by
  obtain ⟨c0, c1, c2, c3, c4, c5, c6, c7, c8, c9, c10, c11, hl, hok⟩ := h
  have key : ∀ i, w1.cell? ⟨g, i, none⟩ = w'.cell? ⟨g, i, none⟩ := fun i => k.cell (p := ⟨g, i, none⟩) hl
  refine ⟨?_, ?_, ?_, ?_, ?_, ?_, ?_, ?_, ?_, ?_, ?_, ?_, Nat.lt_of_lt_of_le hl k.size, hok.trans k⟩ <;> (rw [key]; assumption)
theorem BoxP.drew {g : Nat} {w w' : World} {p : Par} (h : BoxP g w p w') : BoxP g w p w'.drew := h.next (Ok.refl w').drew
theorem BoxP.alloc {g : Nat} {w w' : World} {p : Par} (h : BoxP g w p w') (o : Obj) : BoxP g w p (w'.alloc o) := h.next ((Ok.refl w').alloc o)

set_option maxHeartbeats 1600000 in
theorem limHop (p : Par) (w : World) : Calls Tryz.prog 20 #[parV p] w fun e w' => e = .returned (.int .i64 (Lim.hop p)) ∧ Ok w w' := by
  have KM := Lib.hid fun w => satMul 2 p.rho w
  unfold Lim.hop
  obtain ⟨m, hm⟩ : ∃ m, Sat.mul 2 p.rho = m := ⟨_, rfl⟩
  rw [hm] at KM ⊢
  clear hm
  go_enter Tryz.func20, Tryz.ntmps20
  go_wp2_with fail
  have hB : BoxP w.heap.size w p (w.alloc (.cells (parCells p) 23)) := BoxP.new w p _ rfl
  obtain ⟨g, hg⟩ : ∃ g, w.heap.size = g := ⟨_, rfl⟩
  rw [hg] at hB ⊢
  generalize w.alloc (.cells (parCells p) 23) = W at hB ⊢
  clear hg
  go_region_held3 (fun w' => w'.cell? ⟨g, 0, none⟩ = some (.int .i64 p.n) ∧ w'.cell? ⟨g, 1, none⟩ = some (.int .i64 p.f) ∧ w'.cell? ⟨g, 2, none⟩ = some (.int .i64 p.d) ∧ w'.cell? ⟨g, 3, none⟩ = some (.int .i64 p.beat) ∧ w'.cell? ⟨g, 4, none⟩ = some (.int .i64 p.rho) ∧ w'.cell? ⟨g, 5, none⟩ = some (.int .i64 p.delay) ∧ w'.cell? ⟨g, 6, none⟩ = some (.int .i64 p.jit) ∧ w'.cell? ⟨g, 7, none⟩ = some (.int .i64 p.eps) ∧ w'.cell? ⟨g, 8, none⟩ = some (.int .i64 p.mu) ∧ w'.cell? ⟨g, 9, none⟩ = some (.int .i64 p.hold) ∧ w'.cell? ⟨g, 10, none⟩ = some (.int .i64 p.pulse) ∧ w'.cell? ⟨g, 11, none⟩ = some (.int .i64 p.sec) ∧ g < w'.heap.size ∧ Ok w w')
    (first | assumption | exact BoxP.drew (by assumption) | exact BoxP.alloc (by assumption) _ | exact BoxP.next (by assumption) (by assumption) | exact BoxP.next (by assumption) (BoxP.drew (by assumption)) | exact BoxP.next (by assumption) (BoxP.alloc (by assumption) _)) (first | (go_at_call 56; refine (KM.out _).mono ?_; rintro e w2 ⟨rfl, rfl⟩) | (go_at_call 55; refine (satAdd _ [p.jit, m] 2 _ ?_ (by simp)).mono ?_; (focus ((repeat (first | ((with_reducible refine ints_new _ _ _ _ ?_ ?_) <;> (simp; done)) | (with_reducible refine IntsAt.drew ?_) | (with_reducible refine Ok.ints (by assumption) ?_) | (with_reducible refine IntsAt.alloc ?_ _))); done)); rintro e w2 ⟨rfl, rfl⟩))
  all_goals
    rename_i hS
    have hok := BoxP.ok hS
    clear hS
    go_wp2
    go_ret
    exact ⟨rfl, hok⟩
set_option maxHeartbeats 1600000 in
theorem limGate (p : Par) (w : World) : Calls Tryz.prog 145 #[parV p] w fun e w' => e = .returned (.int .i64 (Lim.gate p)) ∧ Ok w w' := by
  have KM := Lib.hid fun w => satMul 2 p.eps w
  have KH := Lib.hid fun w => limHop p w
  unfold Lim.gate
  obtain ⟨m, hm⟩ : ∃ m, Sat.mul 2 p.eps = m := ⟨_, rfl⟩
  obtain ⟨h, hh⟩ : ∃ h, Lim.hop p = h := ⟨_, rfl⟩
  rw [hm] at KM ⊢
  rw [hh] at KH ⊢
  clear hm hh
  obtain ⟨s, hs⟩ : ∃ s, Sat.sum [m, h] = s := ⟨_, rfl⟩
  have HS := Lib.hid hs
  have KM2 := Lib.hid fun w => satMul 2 s w
  rw [hs]
  clear hs
  obtain ⟨q, hq⟩ : ∃ q, Sat.mul 2 s = q := ⟨_, rfl⟩
  rw [hq] at KM2 ⊢
  clear hq
  go_enter Tryz.func145, Tryz.ntmps145
  go_wp2_with fail
  have hB : BoxP w.heap.size w p (w.alloc (.cells (parCells p) 23)) := BoxP.new w p _ rfl
  obtain ⟨g, hg⟩ : ∃ g, w.heap.size = g := ⟨_, rfl⟩
  rw [hg] at hB ⊢
  generalize w.alloc (.cells (parCells p) 23) = W at hB ⊢
  clear hg
  go_region_held3 (fun w' => w'.cell? ⟨g, 0, none⟩ = some (.int .i64 p.n) ∧ w'.cell? ⟨g, 1, none⟩ = some (.int .i64 p.f) ∧ w'.cell? ⟨g, 2, none⟩ = some (.int .i64 p.d) ∧ w'.cell? ⟨g, 3, none⟩ = some (.int .i64 p.beat) ∧ w'.cell? ⟨g, 4, none⟩ = some (.int .i64 p.rho) ∧ w'.cell? ⟨g, 5, none⟩ = some (.int .i64 p.delay) ∧ w'.cell? ⟨g, 6, none⟩ = some (.int .i64 p.jit) ∧ w'.cell? ⟨g, 7, none⟩ = some (.int .i64 p.eps) ∧ w'.cell? ⟨g, 8, none⟩ = some (.int .i64 p.mu) ∧ w'.cell? ⟨g, 9, none⟩ = some (.int .i64 p.hold) ∧ w'.cell? ⟨g, 10, none⟩ = some (.int .i64 p.pulse) ∧ w'.cell? ⟨g, 11, none⟩ = some (.int .i64 p.sec) ∧ g < w'.heap.size ∧ Ok w w')
    (first | assumption | exact BoxP.drew (by assumption) | exact BoxP.alloc (by assumption) _ | exact BoxP.next (by assumption) (by assumption) | exact BoxP.next (by assumption) (BoxP.drew (by assumption)) | exact BoxP.next (by assumption) (BoxP.alloc (by assumption) _)) (first | (go_at_call 20; refine (KH.out _).mono ?_; rintro e w2 ⟨rfl, hb2⟩) | (go_at_call 55; refine (satAdd _ [m, h] 2 _ ?_ (by simp)).mono ?_; (focus ((repeat (first | ((with_reducible refine ints_new _ _ _ _ ?_ ?_) <;> (simp; done)) | (with_reducible refine IntsAt.drew ?_) | (with_reducible refine Ok.ints (by assumption) ?_) | (with_reducible refine IntsAt.alloc ?_ _))); done)); rintro e w2 ⟨rfl, rfl⟩; rw [HS.out]) | (go_at_call 56; (with_reducible refine (KM.out _).mono ?_); rintro e w2 ⟨rfl, rfl⟩) | (go_at_call 56; (with_reducible refine (KM2.out _).mono ?_); rintro e w2 ⟨rfl, rfl⟩))
  all_goals
    rename_i hS
    have hok := BoxP.ok hS
    clear hS
    go_wp2
    go_ret
    exact ⟨rfl, hok⟩
set_option maxHeartbeats 1600000 in
theorem limWidth (p : Par) (held hops : Int) (w : World) : Calls Tryz.prog 132 #[parV p, .int .i64 held, .int .i64 hops] w fun e w' => e = .returned (.int .i64 (Lim.width p held hops)) ∧ Ok w w' := by
  have KM := Lib.hid fun w => satMul 2 p.rho w
  have KH := Lib.hid fun w => limHop p w
  have KG := Lib.hid fun w => limGate p w
  unfold Lim.width
  obtain ⟨m, hm⟩ : ∃ m, Sat.mul 2 p.rho = m := ⟨_, rfl⟩
  obtain ⟨h, hh⟩ : ∃ h, Lim.hop p = h := ⟨_, rfl⟩
  obtain ⟨q, hq⟩ : ∃ q, Lim.gate p = q := ⟨_, rfl⟩
  rw [hm] at KM ⊢
  rw [hh] at KH ⊢
  rw [hq] at KG ⊢
  clear hm hh hq
  have KD := Lib.hid fun w => satMul m held w
  obtain ⟨d, hd⟩ : ∃ d, Sat.mul m held = d := ⟨_, rfl⟩
  rw [hd] at KD ⊢
  clear hd
  obtain ⟨s, hs⟩ : ∃ s, Sat.sum [hops, 1] = s := ⟨_, rfl⟩
  have HS := Lib.hid hs
  rw [hs]
  clear hs
  have KW := Lib.hid fun w => satMul s h w
  obtain ⟨y, hy⟩ : ∃ y, Sat.mul s h = y := ⟨_, rfl⟩
  rw [hy] at KW ⊢
  clear hy
  go_enter Tryz.func132, Tryz.ntmps132
  go_upto_region 1 with fail
  have hB : BoxP w.heap.size w p (w.alloc (.cells (parCells p) 23)) := BoxP.new w p _ rfl
  obtain ⟨g, hg⟩ : ∃ g, w.heap.size = g := ⟨_, rfl⟩
  rw [hg] at hB ⊢
  generalize w.alloc (.cells (parCells p) 23) = W at hB ⊢
  clear hg
  have hS := hB
  obtain ⟨c0, c1, c2, c3, c4, c5, c6, c7, c8, c9, c10, c11, -, -⟩ := hS
  go_wp2_with (first | (go_at_call 56; (with_reducible refine (KM.out _).mono ?_); rintro e w2 ⟨rfl, rfl⟩) | (go_at_call 56; (with_reducible refine (KD.out _).mono ?_); rintro e w2 ⟨rfl, rfl⟩))
  clear c0 c1 c2 c3 c4 c5 c6 c7 c8 c9 c10 c11 KM KD
  go_region_held3 (fun w' => w'.cell? ⟨g, 0, none⟩ = some (.int .i64 p.n) ∧ w'.cell? ⟨g, 1, none⟩ = some (.int .i64 p.f) ∧ w'.cell? ⟨g, 2, none⟩ = some (.int .i64 p.d) ∧ w'.cell? ⟨g, 3, none⟩ = some (.int .i64 p.beat) ∧ w'.cell? ⟨g, 4, none⟩ = some (.int .i64 p.rho) ∧ w'.cell? ⟨g, 5, none⟩ = some (.int .i64 p.delay) ∧ w'.cell? ⟨g, 6, none⟩ = some (.int .i64 p.jit) ∧ w'.cell? ⟨g, 7, none⟩ = some (.int .i64 p.eps) ∧ w'.cell? ⟨g, 8, none⟩ = some (.int .i64 p.mu) ∧ w'.cell? ⟨g, 9, none⟩ = some (.int .i64 p.hold) ∧ w'.cell? ⟨g, 10, none⟩ = some (.int .i64 p.pulse) ∧ w'.cell? ⟨g, 11, none⟩ = some (.int .i64 p.sec) ∧ g < w'.heap.size ∧ Ok w w')
    (first | assumption | exact BoxP.drew (by assumption) | exact BoxP.alloc (by assumption) _ | exact BoxP.next (by assumption) (by assumption) | exact BoxP.next (by assumption) (BoxP.drew (by assumption)) | exact BoxP.next (by assumption) (BoxP.alloc (by assumption) _)) (first | (go_at_call 20; refine (KH.out _).mono ?_; rintro e w2 ⟨rfl, hb2⟩) | (go_at_call 55; refine (satAdd _ [hops, 1] 2 _ ?_ (by simp)).mono ?_; (focus ((repeat (first | ((with_reducible refine ints_new _ _ _ _ ?_ ?_) <;> (simp; done)) | (with_reducible refine IntsAt.drew ?_) | (with_reducible refine Ok.ints (by assumption) ?_) | (with_reducible refine IntsAt.alloc ?_ _))); done)); rintro e w2 ⟨rfl, rfl⟩; rw [HS.out]) | (go_at_call 56; refine (KW.out _).mono ?_; rintro e w2 ⟨rfl, rfl⟩))
  all_goals
    rename_i hS
    obtain ⟨c0, c1, c2, c3, c4, c5, c6, c7, c8, c9, c10, c11, -, hok⟩ := hS
    go_wp2_with (first | (go_at_call 145; (with_reducible refine (KG.out _).mono ?_); rintro e w3 ⟨rfl, hb3⟩; replace hok := hok.trans hb3; clear hb3 c0 c1 c2 c3 c4 c5 c6 c7 c8 c9 c10 c11) | (go_at_call 55; (with_reducible refine (satAdd3 _ _ _ _ _ _ (by simp)).mono ?_); rintro e w3 ⟨rfl, rfl⟩))
    go_ret
    exact ⟨rfl, hok.alloc _⟩
end Go.Proofs.YtmmiboblofopgaaGreat

/- Contracts of layer 4's bounds: the document's. -/
namespace Go.Proofs.YtmmiboblofopgaaGreat
open Go.RowKit
set_option maxRecDepth 100000
attribute [local go_sem ↓] Go.wp_at_zero Go.wp_at_succ
theorem ref4Add (a b : Int) (w : World) : Calls Tryz.prog 149 #[.int .i64 a, .int .i64 b] w fun e w' => e = .returned (.int .i64 (Sat.sum [a, b])) ∧ Ok w w' := by
  have hok := Ok.refl w
  go_enter Tryz.func149, Tryz.ntmps149
  go_wp2_with (go_at_call 30; refine (refAdd _ [a, b] 2 _ (ints_new _ _ _ _ (by simp) (by simp)) (by simp)).mono ?_; rintro e w2 ⟨rfl, rfl⟩)
  go_ret
  exact ⟨rfl, hok.alloc _⟩
set_option maxHeartbeats 1600000 in
theorem ref4Hop (p : Par) (w : World) : Calls Tryz.prog 151 #[parV p] w fun e w' => e = .returned (.int .i64 (Lim.hop p)) ∧ Ok w w' := by
  unfold Lim.hop
  have KM := Lib.hid fun w => refMul 2 p.rho w
  obtain ⟨m, hm⟩ : ∃ xx, Sat.mul 2 p.rho = xx := ⟨_, rfl⟩
  rw [hm] at KM ⊢
  clear hm
  have KA := Lib.hid fun w => ref4Add p.jit m w
  obtain ⟨y, hy⟩ : ∃ xx, Sat.sum [p.jit, m] = xx := ⟨_, rfl⟩
  rw [hy] at KA ⊢
  clear hy
  go_enter Tryz.func151, Tryz.ntmps151
  go_wp2_with fail
  have hB : BoxP w.heap.size w p (w.alloc (.cells (parCells p) 23)) := BoxP.new w p _ rfl
  obtain ⟨g, hg⟩ : ∃ g, w.heap.size = g := ⟨_, rfl⟩
  rw [hg] at hB ⊢
  generalize w.alloc (.cells (parCells p) 23) = W at hB ⊢
  clear hg
  go_region_held3 (fun w' => w'.cell? ⟨g, 0, none⟩ = some (.int .i64 p.n) ∧ w'.cell? ⟨g, 1, none⟩ = some (.int .i64 p.f) ∧ w'.cell? ⟨g, 2, none⟩ = some (.int .i64 p.d) ∧ w'.cell? ⟨g, 3, none⟩ = some (.int .i64 p.beat) ∧ w'.cell? ⟨g, 4, none⟩ = some (.int .i64 p.rho) ∧ w'.cell? ⟨g, 5, none⟩ = some (.int .i64 p.delay) ∧ w'.cell? ⟨g, 6, none⟩ = some (.int .i64 p.jit) ∧ w'.cell? ⟨g, 7, none⟩ = some (.int .i64 p.eps) ∧ w'.cell? ⟨g, 8, none⟩ = some (.int .i64 p.mu) ∧ w'.cell? ⟨g, 9, none⟩ = some (.int .i64 p.hold) ∧ w'.cell? ⟨g, 10, none⟩ = some (.int .i64 p.pulse) ∧ w'.cell? ⟨g, 11, none⟩ = some (.int .i64 p.sec) ∧ g < w'.heap.size ∧ Ok w w')
    (first | assumption | exact BoxP.drew (by assumption) | exact BoxP.alloc (by assumption) _ | exact BoxP.next (by assumption) (by assumption) | exact BoxP.next (by assumption) (BoxP.drew (by assumption)) | exact BoxP.next (by assumption) (BoxP.alloc (by assumption) _)) (first | (go_at_call 138; (with_reducible refine (KM.out _).mono ?_); rintro e w2 ⟨rfl, rfl⟩) | (go_at_call 149; (with_reducible refine (KA.out _).mono ?_); rintro e w2 ⟨rfl, hb2⟩))
  all_goals
    rename_i hS
    have hok := BoxP.ok hS
    clear hS
    go_wp2
    go_ret
    exact ⟨rfl, hok⟩
set_option maxHeartbeats 1600000 in
theorem ref4Gate (p : Par) (w : World) : Calls Tryz.prog 150 #[parV p] w fun e w' => e = .returned (.int .i64 (Lim.gate p)) ∧ Ok w w' := by
  unfold Lim.gate
  have KM := Lib.hid fun w => refMul 2 p.eps w
  obtain ⟨m, hm⟩ : ∃ xx, Sat.mul 2 p.eps = xx := ⟨_, rfl⟩
  rw [hm] at KM ⊢
  clear hm
  have KH := Lib.hid fun w => ref4Hop p w
  obtain ⟨h, hh⟩ : ∃ xx, Lim.hop p = xx := ⟨_, rfl⟩
  rw [hh] at KH ⊢
  clear hh
  have KA := Lib.hid fun w => ref4Add m h w
  obtain ⟨y, hy⟩ : ∃ xx, Sat.sum [m, h] = xx := ⟨_, rfl⟩
  rw [hy] at KA ⊢
  clear hy
  have KN := Lib.hid fun w => refMul 2 y w
  obtain ⟨z, hz⟩ : ∃ xx, Sat.mul 2 y = xx := ⟨_, rfl⟩
  rw [hz] at KN ⊢
  clear hz
  go_enter Tryz.func150, Tryz.ntmps150
  go_wp2_with fail
  have hB : BoxP w.heap.size w p (w.alloc (.cells (parCells p) 23)) := BoxP.new w p _ rfl
  obtain ⟨g, hg⟩ : ∃ g, w.heap.size = g := ⟨_, rfl⟩
  rw [hg] at hB ⊢
  generalize w.alloc (.cells (parCells p) 23) = W at hB ⊢
  clear hg
  go_region_held3 (fun w' => w'.cell? ⟨g, 0, none⟩ = some (.int .i64 p.n) ∧ w'.cell? ⟨g, 1, none⟩ = some (.int .i64 p.f) ∧ w'.cell? ⟨g, 2, none⟩ = some (.int .i64 p.d) ∧ w'.cell? ⟨g, 3, none⟩ = some (.int .i64 p.beat) ∧ w'.cell? ⟨g, 4, none⟩ = some (.int .i64 p.rho) ∧ w'.cell? ⟨g, 5, none⟩ = some (.int .i64 p.delay) ∧ w'.cell? ⟨g, 6, none⟩ = some (.int .i64 p.jit) ∧ w'.cell? ⟨g, 7, none⟩ = some (.int .i64 p.eps) ∧ w'.cell? ⟨g, 8, none⟩ = some (.int .i64 p.mu) ∧ w'.cell? ⟨g, 9, none⟩ = some (.int .i64 p.hold) ∧ w'.cell? ⟨g, 10, none⟩ = some (.int .i64 p.pulse) ∧ w'.cell? ⟨g, 11, none⟩ = some (.int .i64 p.sec) ∧ g < w'.heap.size ∧ Ok w w')
    (first | assumption | exact BoxP.drew (by assumption) | exact BoxP.alloc (by assumption) _ | exact BoxP.next (by assumption) (by assumption) | exact BoxP.next (by assumption) (BoxP.drew (by assumption)) | exact BoxP.next (by assumption) (BoxP.alloc (by assumption) _)) (first | (go_at_call 138; (with_reducible refine (KM.out _).mono ?_); rintro e w2 ⟨rfl, rfl⟩) | (go_at_call 138; (with_reducible refine (KN.out _).mono ?_); rintro e w2 ⟨rfl, rfl⟩) | (go_at_call 151; (with_reducible refine (KH.out _).mono ?_); rintro e w2 ⟨rfl, hb2⟩) | (go_at_call 149; (with_reducible refine (KA.out _).mono ?_); rintro e w2 ⟨rfl, hb2⟩))
  all_goals
    rename_i hS
    have hok := BoxP.ok hS
    clear hS
    go_wp2
    go_ret
    exact ⟨rfl, hok⟩
set_option maxHeartbeats 1600000 in
theorem ref4Width (p : Par) (held hops : Int) (w : World) : Calls Tryz.prog 139 #[parV p, .int .i64 held, .int .i64 hops] w fun e w' => e = .returned (.int .i64 (Lim.width p held hops)) ∧ Ok w w' := by
  unfold Lim.width
  rw [← Lim.sum_sum2]
  have KM := Lib.hid fun w => refMul 2 p.rho w
  obtain ⟨m, hm⟩ : ∃ xx, Sat.mul 2 p.rho = xx := ⟨_, rfl⟩
  rw [hm] at KM ⊢
  clear hm
  have KD := Lib.hid fun w => refMul m held w
  obtain ⟨d, hd⟩ : ∃ xx, Sat.mul m held = xx := ⟨_, rfl⟩
  rw [hd] at KD ⊢
  clear hd
  have KH := Lib.hid fun w => ref4Hop p w
  obtain ⟨h, hh⟩ : ∃ xx, Lim.hop p = xx := ⟨_, rfl⟩
  rw [hh] at KH ⊢
  clear hh
  have KG := Lib.hid fun w => ref4Gate p w
  obtain ⟨q, hq⟩ : ∃ xx, Lim.gate p = xx := ⟨_, rfl⟩
  rw [hq] at KG ⊢
  clear hq
  have KS := Lib.hid fun w => ref4Add hops 1 w
  obtain ⟨s, hs⟩ : ∃ xx, Sat.sum [hops, 1] = xx := ⟨_, rfl⟩
  rw [hs] at KS ⊢
  clear hs
  have KY := Lib.hid fun w => refMul s h w
  obtain ⟨y, hy⟩ : ∃ xx, Sat.mul s h = xx := ⟨_, rfl⟩
  rw [hy] at KY ⊢
  clear hy
  have KU := Lib.hid fun w => ref4Add q d w
  obtain ⟨u, hu⟩ : ∃ xx, Sat.sum [q, d] = xx := ⟨_, rfl⟩
  rw [hu] at KU ⊢
  clear hu
  have KV := Lib.hid fun w => ref4Add u y w
  obtain ⟨v, hv⟩ : ∃ xx, Sat.sum [u, y] = xx := ⟨_, rfl⟩
  rw [hv] at KV ⊢
  clear hv
  go_enter Tryz.func139, Tryz.ntmps139
  go_upto_region 1 with fail
  have hB : BoxP w.heap.size w p (w.alloc (.cells (parCells p) 23)) := BoxP.new w p _ rfl
  obtain ⟨g, hg⟩ : ∃ g, w.heap.size = g := ⟨_, rfl⟩
  rw [hg] at hB ⊢
  generalize w.alloc (.cells (parCells p) 23) = W at hB ⊢
  clear hg
  have hS := hB
  obtain ⟨c0, c1, c2, c3, c4, c5, c6, c7, c8, c9, c10, c11, -, -⟩ := hS
  go_wp2_with (first | (go_at_call 138; (with_reducible refine (KM.out _).mono ?_); rintro e w2 ⟨rfl, rfl⟩) | (go_at_call 138; (with_reducible refine (KD.out _).mono ?_); rintro e w2 ⟨rfl, rfl⟩))
  clear c0 c1 c2 c3 c4 c5 c6 c7 c8 c9 c10 c11 KM KD
  go_region_held3 (fun w' => w'.cell? ⟨g, 0, none⟩ = some (.int .i64 p.n) ∧ w'.cell? ⟨g, 1, none⟩ = some (.int .i64 p.f) ∧ w'.cell? ⟨g, 2, none⟩ = some (.int .i64 p.d) ∧ w'.cell? ⟨g, 3, none⟩ = some (.int .i64 p.beat) ∧ w'.cell? ⟨g, 4, none⟩ = some (.int .i64 p.rho) ∧ w'.cell? ⟨g, 5, none⟩ = some (.int .i64 p.delay) ∧ w'.cell? ⟨g, 6, none⟩ = some (.int .i64 p.jit) ∧ w'.cell? ⟨g, 7, none⟩ = some (.int .i64 p.eps) ∧ w'.cell? ⟨g, 8, none⟩ = some (.int .i64 p.mu) ∧ w'.cell? ⟨g, 9, none⟩ = some (.int .i64 p.hold) ∧ w'.cell? ⟨g, 10, none⟩ = some (.int .i64 p.pulse) ∧ w'.cell? ⟨g, 11, none⟩ = some (.int .i64 p.sec) ∧ g < w'.heap.size ∧ Ok w w')
    (first | assumption | exact BoxP.drew (by assumption) | exact BoxP.alloc (by assumption) _ | exact BoxP.next (by assumption) (by assumption) | exact BoxP.next (by assumption) (BoxP.drew (by assumption)) | exact BoxP.next (by assumption) (BoxP.alloc (by assumption) _)) (first | (go_at_call 150; (with_reducible refine (KG.out _).mono ?_); rintro e w2 ⟨rfl, hb2⟩) | (go_at_call 151; (with_reducible refine (KH.out _).mono ?_); rintro e w2 ⟨rfl, hb2⟩) | (go_at_call 138; (with_reducible refine (KY.out _).mono ?_); rintro e w2 ⟨rfl, rfl⟩) | (go_at_call 149; (with_reducible refine (KS.out _).mono ?_); rintro e w2 ⟨rfl, hb2⟩) | (go_at_call 149; (with_reducible refine (KU.out _).mono ?_); rintro e w2 ⟨rfl, hb2⟩) | (go_at_call 149; (with_reducible refine (KV.out _).mono ?_); rintro e w2 ⟨rfl, hb2⟩))
  all_goals
    rename_i hS
    have hok := BoxP.ok hS
    clear hS
    go_wp2
    go_ret
    exact ⟨rfl, hok⟩
end Go.Proofs.YtmmiboblofopgaaGreat

/- Words of my own: slices of slices of structs of two integers that came in. -/
namespace Go.Proofs.YtmmiboblofopgaaGreat
open Go.RowKit Go.WideShapes Go.ChangeShapes Go.Joins Go.Deep
set_option maxRecDepth 100000
section
variable {H : Type} {enc : TypeId × Value → H} {P : Program} {w : World}
/-- A slice of structs of two integers, as cells that came in. -/
theorem trod_pairs {t e : TypeId} {f0 f1 : Field} {fuel : Nat} {cs : List Value} {x : DataW H × List MemPlace} (ht : P.underlying t = some (.slice e)) (he : P.underlying e = some (.struct #[f0, f1])) (hone : oneCellFields P #[f0, f1] = true) (hC : P.cellsOf e = 2)
    (h0 : P.underlying f0.type = some (.int .i64)) (h1 : P.underlying f1.type = some (.int .i64)) (hf : DataW.trod enc P w 0 (fun _ => true) true fuel t cs = some x) :
    ∃ (A : Option Addr) (l : List (Int × Int)) (cap : Nat), cs = [.slice A l.length cap] ∧ PairsAt w A l ∧ l.length ≤ cap ∧ cap ≤ maxLen ∧ (∀ s ∈ l, (Lit.int .i64 s.1).wf = true ∧ (Lit.int .i64 s.2).wf = true) ∧ ((∀ n ∈ x.1.weights P t, n ≤ reachBytes) → l.length * P.bytesOf e ≤ reachBytes) := by
  rcases open_slice ht hf with h2 | ⟨a, len', cap', m, n, D, Pl, hcs, hb, hl, hm, hmm, hx, hi⟩
  · exact ⟨none, [], 0, h2.1, PairsAt.empty _ _, by simp, by unfold maxLen; simp, by simp, fun _ => by simp⟩
  · subst hcs
    simp only [if_true] at hmm
    subst hmm
    have key : ∀ i, i < len' → ∃ x y : Int, w.cell? (a.add (i * 2)) = some (.int .i64 x) ∧ w.cell? (a.add (i * 2 + 1)) = some (.int .i64 y) ∧ (Lit.int .i64 x).wf = true ∧ (Lit.int .i64 y).wf = true := by
      intro i hlt
      obtain ⟨cs', hc, ht'⟩ := hi i (by omega)
      rw [hC] at hc
      obtain ⟨ys, n', hn', hy, hlen, hyl, hfl⟩ := DataW.trod_struct he ht'
      obtain ⟨_, hcl, hat⟩ := World.cells?_some hc
      have one : ∀ (j : Nat) (f : Field), #[f0, f1][j]? = some f → P.underlying f.type = some (.int .i64) → ∃ z : Int, w.cell? (a.add (i * 2 + j)) = some (.int .i64 z) ∧ (Lit.int .i64 z).wf = true := by
        intro j f hj hu
        obtain ⟨ho, hk⟩ := hone_of hone j f hj
        have hjl : j < 2 := (Array.getElem?_eq_some_iff.1 hj).1
        have hcell := hat j hjl
        have h1 := hfl j f hj
        rw [ho, hk] at h1
        have e1 : (cs'.drop j).take 1 = [cs'[j]'(by omega)] := by
          rw [List.drop_eq_getElem_cons (by omega)]
          rfl
        have hjs : j < ys.length := by rw [hyl]; exact hjl
        rw [e1, List.getElem?_eq_getElem hjs] at h1
        obtain ⟨z, h2, _, h3⟩ := DataW.trod_int hu h1
        refine ⟨z, ?_, h3⟩
        rw [← Go.Deep.add_add, hcell, List.getElem?_eq_getElem (show j < cs'.length by omega)]
        simpa using h2
      obtain ⟨x, hx, wx⟩ := one 0 f0 rfl h0
      obtain ⟨y, hy, wy⟩ := one 1 f1 rfl h1
      exact ⟨x, y, hx, hy, wx, wy⟩
    have key' : ∀ i : Fin len', ∃ s : Int × Int, w.cell? (a.add (i * 2)) = some (.int .i64 s.1) ∧ w.cell? (a.add (i * 2 + 1)) = some (.int .i64 s.2) ∧ (Lit.int .i64 s.1).wf = true ∧ (Lit.int .i64 s.2).wf = true := fun i => by
      obtain ⟨x, y, h⟩ := key i i.2
      exact ⟨(x, y), h⟩
    obtain ⟨F, hF⟩ := Classical.axiomOfChoice key'
    have hlen : (List.ofFn F).length = len' := by simp
    refine ⟨some a, List.ofFn F, _, by rw [hlen], fun k hk => ?_, by omega, hm, fun s hs => ?_, fun hn => ?_⟩
    · have hk' : k < len' := by omega
      have h := hF ⟨k, hk'⟩
      obtain ⟨b, off, spot⟩ := a
      have hspot : spot = none := by
        have h0 := hF ⟨0, by omega⟩
        simpa [Addr.add] using World.cell?_spot h0.1
      subst hspot
      simp only [Go.WideShapes.add_plain, ← Nat.add_assoc] at h
      have e : (List.ofFn F)[k] = F ⟨k, hk'⟩ := by simp
      rw [e]
      exact ⟨b, off, rfl, cell_lt h.1, h.1, h.2.1⟩
    · obtain ⟨i, rfl⟩ := List.mem_ofFn.1 hs
      exact (hF i).2.2
    · have h1 := hn ((len' + (m - len')) * P.bytesOf e) (by rw [hx]; simp [DataW.weights, ht])
      refine Nat.le_trans (Nat.mul_le_mul_right _ ?_) h1
      rw [hlen]
      omega
end
/-- A table, and where it lies. -/
structure TA where
  l : List (Int × Int)
  A : Option Addr
  cap : Nat
abbrev taV (x : TA) : Value := .slice x.A x.l.length x.cap
/-- The slice at B reads as these tables. -/
structure TabsAt (w : World) (B : Option Addr) (ts : List TA) : Prop where
  cells : ∀ k (h : k < ts.length), ∃ b off, B = some ⟨b, off, none⟩ ∧ b < w.heap.size ∧ w.cell? ⟨b, off + k, none⟩ = some (taV ts[k])
  tabs : ∀ x ∈ ts, PairsAt w x.A x.l
namespace TabsAt
variable {w w' : World} {B : Option Addr} {ts : List TA}
theorem below (h : TabsAt w B ts) (k : Ok w w') : TabsAt w' B ts := ⟨fun j hj => by
  obtain ⟨b, off, hA, hlt, hc⟩ := h.cells j hj
  exact ⟨b, off, hA, Nat.lt_of_lt_of_le hlt k.size, (k.cell (p := ⟨b, off + j, none⟩) hlt).trans hc⟩, fun x hx => (h.tabs x hx).below k⟩
theorem empty (w : World) (B : Option Addr) : TabsAt w B [] := ⟨fun k h => absurd h (Nat.not_lt_zero k), by simp⟩
end TabsAt
/-- What is so of each table that came in. -/
def TFit (x : TA) : Prop := x.l.length ≤ 9223372036854775807 ∧ ∀ e ∈ x.l, (-9223372036854775808 ≤ e.1 ∧ e.1 ≤ 9223372036854775807) ∧ -9223372036854775808 ≤ e.2 ∧ e.2 ≤ 9223372036854775807
section
variable {H : Type} {enc : TypeId × Value → H} {P : Program} {w : World} {base : Nat}
theorem wf_two {k : Int} (h : (Lit.int .i64 k).wf = true) : -9223372036854775808 ≤ k ∧ k ≤ 9223372036854775807 := by
  have e : IntKind.i64.min = -9223372036854775808 := rfl
  simp [Lit.wf] at h
  omega
/-- A slice of tables that came in. -/
theorem open_tabsC {tt t e : TypeId} {f0 f1 : Field} {v : Value} {d : DataW H} {ps : List MemPlace} (htt : P.underlying tt = some (.slice t)) (hCt : P.cellsOf t = 1) (ht : P.underlying t = some (.slice e)) (he : P.underlying e = some (.struct #[f0, f1])) (hone : oneCellFields P #[f0, f1] = true) (hC : P.cellsOf e = 2)
    (h0 : P.underlying f0.type = some (.int .i64)) (h1 : P.underlying f1.type = some (.int .i64)) (hv : Value.okWide P w .any base tt v) (h : DataW.Trod enc P w 0 (fun _ => true) true tt v d ps) :
    ∃ (B : Option Addr) (ts : List TA) (cap : Nat), v = .slice B ts.length cap ∧ TabsAt w B ts ∧ ts.length ≤ 9223372036854775807 ∧ (∀ x ∈ ts, TFit x) ∧ ts.length ≤ cap := by
  obtain ⟨a0, len, cap, rfl⟩ := okWide_slice htt hv
  obtain ⟨fuel, hf⟩ := h
  rcases open_slice htt hf with h2 | ⟨a, len', cap', m, n, D, Pl, hcs, hb, hl, hm, hmm, hx, hi⟩
  · simp [Value.cells] at h2
    obtain ⟨⟨rfl, rfl, rfl⟩, -⟩ := h2
    exact ⟨none, [], 0, rfl, TabsAt.empty _ _, by simp, by simp, by simp⟩
  · simp [Value.cells] at hcs
    obtain ⟨rfl, rfl, rfl⟩ := hcs
    simp only [if_true] at hmm
    subst hmm
    have key : ∀ i : Fin len, ∃ x : TA, w.cell? (a.add i) = some (taV x) ∧ PairsAt w x.A x.l ∧ TFit x := by
      intro i
      obtain ⟨cs', hc, ht'⟩ := hi i (by omega)
      rw [hCt, Nat.mul_one] at hc
      obtain ⟨hlen, hcl, hat⟩ := World.cells?_some hc
      obtain ⟨A, l, c, e2, hA, hc1, hc2, hw, _⟩ := trod_pairs ht he hone hC h0 h1 ht'
      have hz := hat 0 (by omega)
      rw [e2] at hz
      refine ⟨⟨l, A, c⟩, ?_, hA, ?_, fun s hs => ⟨wf_two (hw s hs).1, wf_two (hw s hs).2⟩⟩
      · rw [Go.Deep.add_add] at hz
        simpa using hz
      · show l.length ≤ 9223372036854775807
        unfold maxLen at hc2
        omega
    obtain ⟨F, hF⟩ := Classical.axiomOfChoice key
    have hlen : (List.ofFn F).length = len := by simp
    refine ⟨some a, List.ofFn F, _, by rw [hlen], ⟨fun k hk => ?_, fun x hx => ?_⟩, by unfold maxLen at hm; omega, fun x hx => ?_, by omega⟩
    · have hk' : k < len := by simpa using hk
      have h := (hF ⟨k, hk'⟩).1
      obtain ⟨b, off, spot⟩ := a
      have hspot : spot = none := by
        have h0 := (hF ⟨0, by omega⟩).1
        simpa [Addr.add] using World.cell?_spot h0
      subst hspot
      rw [Go.WideShapes.add_plain] at h
      exact ⟨b, off, rfl, cell_lt h, by simpa using h⟩
    · obtain ⟨i, rfl⟩ := List.mem_ofFn.1 hx
      exact (hF i).2.1
    · obtain ⟨i, rfl⟩ := List.mem_ofFn.1 hx
      exact (hF i).2.2
/-- A slice of tables that came in. -/
theorem open_tabs {tt t e : TypeId} {f0 f1 : Field} {v : Value} {d : DataW H} {ps : List MemPlace} (htt : P.underlying tt = some (.slice t)) (hCt : P.cellsOf t = 1) (ht : P.underlying t = some (.slice e)) (he : P.underlying e = some (.struct #[f0, f1])) (hone : oneCellFields P #[f0, f1] = true) (hC : P.cellsOf e = 2)
    (h0 : P.underlying f0.type = some (.int .i64)) (h1 : P.underlying f1.type = some (.int .i64)) (hv : Value.okWide P w .any base tt v) (h : DataW.Trod enc P w 0 (fun _ => true) true tt v d ps) :
    ∃ (B : Option Addr) (ts : List TA) (cap : Nat), v = .slice B ts.length cap ∧ TabsAt w B ts ∧ ts.length ≤ 9223372036854775807 ∧ ∀ x ∈ ts, TFit x := by
  obtain ⟨B, ts, cap, e1, h2, h3, h4, _⟩ := open_tabsC htt hCt ht he hone hC h0 h1 hv h
  exact ⟨B, ts, cap, e1, h2, h3, h4⟩
end
end Go.Proofs.YtmmiboblofopgaaGreat
