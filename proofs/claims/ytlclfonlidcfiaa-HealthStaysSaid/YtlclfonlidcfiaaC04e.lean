/- Contracts of layer 4's bounds: the document's. -/
import Derived.Test.YtlclfonlidcfiaaC04d
import Derived.Test.YtlclfonlidcfiaaC02d
namespace Go.Proofs.Ytlclfonlidcfiaa
open Go.RowKit
set_option maxRecDepth 100000
attribute [local go_sem ↓] Go.wp_at_zero Go.wp_at_succ
theorem ref4Add (a b : Int) (w : World) : Calls Try.prog 76 #[.int .i64 a, .int .i64 b] w fun e w' => e = .returned (.int .i64 (Sat.sum [a, b])) ∧ Ok w w' := by
  have hok := Ok.refl w
  go_enter Try.func76, Try.ntmps76
  go_wp2_with (go_at_call 44; refine (refAdd _ [a, b] 2 _ (ints_new _ _ _ _ (by simp) (by simp)) (by simp)).mono ?_; rintro e w2 ⟨rfl, rfl⟩)
  go_ret
  exact ⟨rfl, hok.alloc _⟩
set_option maxHeartbeats 1600000 in
theorem ref4Hop (p : Par) (w : World) : Calls Try.prog 78 #[parV p] w fun e w' => e = .returned (.int .i64 (Lim.hop p)) ∧ Ok w w' := by
  unfold Lim.hop
  have KM := Lib.hid fun w => refMul 2 p.rho w
  obtain ⟨m, hm⟩ : ∃ xx, Sat.mul 2 p.rho = xx := ⟨_, rfl⟩
  rw [hm] at KM ⊢
  clear hm
  have KA := Lib.hid fun w => ref4Add p.jit m w
  obtain ⟨y, hy⟩ : ∃ xx, Sat.sum [p.jit, m] = xx := ⟨_, rfl⟩
  rw [hy] at KA ⊢
  clear hy
  go_enter Try.func78, Try.ntmps78
  go_wp2_with fail
  have hB : BoxP w.heap.size w p (w.alloc (.cells (parCells p) 23)) := BoxP.new w p _ rfl
  obtain ⟨g, hg⟩ : ∃ g, w.heap.size = g := ⟨_, rfl⟩
  rw [hg] at hB ⊢
  generalize w.alloc (.cells (parCells p) 23) = W at hB ⊢
  clear hg
  go_region_held3 (fun w' => w'.cell? ⟨g, 0, none⟩ = some (.int .i64 p.n) ∧ w'.cell? ⟨g, 1, none⟩ = some (.int .i64 p.f) ∧ w'.cell? ⟨g, 2, none⟩ = some (.int .i64 p.d) ∧ w'.cell? ⟨g, 3, none⟩ = some (.int .i64 p.beat) ∧ w'.cell? ⟨g, 4, none⟩ = some (.int .i64 p.rho) ∧ w'.cell? ⟨g, 5, none⟩ = some (.int .i64 p.delay) ∧ w'.cell? ⟨g, 6, none⟩ = some (.int .i64 p.jit) ∧ w'.cell? ⟨g, 7, none⟩ = some (.int .i64 p.eps) ∧ w'.cell? ⟨g, 8, none⟩ = some (.int .i64 p.mu) ∧ w'.cell? ⟨g, 9, none⟩ = some (.int .i64 p.hold) ∧ w'.cell? ⟨g, 10, none⟩ = some (.int .i64 p.pulse) ∧ w'.cell? ⟨g, 11, none⟩ = some (.int .i64 p.sec) ∧ g < w'.heap.size ∧ Ok w w')
    (first | assumption | exact BoxP.drew (by assumption) | exact BoxP.alloc (by assumption) _ | exact BoxP.next (by assumption) (by assumption) | exact BoxP.next (by assumption) (BoxP.drew (by assumption)) | exact BoxP.next (by assumption) (BoxP.alloc (by assumption) _)) (first | (go_at_call 49; (with_reducible refine (KM.out _).mono ?_); rintro e w2 ⟨rfl, rfl⟩) | (go_at_call 76; (with_reducible refine (KA.out _).mono ?_); rintro e w2 ⟨rfl, hb2⟩))
  all_goals
    rename_i hS
    have hok := BoxP.ok hS
    clear hS
    go_wp2
    go_ret
    exact ⟨rfl, hok⟩
set_option maxHeartbeats 1600000 in
theorem ref4Gate (p : Par) (w : World) : Calls Try.prog 77 #[parV p] w fun e w' => e = .returned (.int .i64 (Lim.gate p)) ∧ Ok w w' := by
  unfold Lim.gate
  have KM := Lib.hid fun w => refMul 2 p.eps w
  obtain ⟨m, hm⟩ : ∃ xx, Sat.mul 2 p.eps = xx := ⟨_, rfl⟩
  rw [hm] at KM ⊢
  clear hm
  have KH := Lib.hid fun w => ref4Hop p w
  obtain ⟨h, hh⟩ : ∃ xx, Lim.hop p = xx := ⟨_, rfl⟩
  rw [hh] at KH ⊢
  clear hh
  have KA := Lib.hid fun w => ref4Add m h w
  obtain ⟨y, hy⟩ : ∃ xx, Sat.sum [m, h] = xx := ⟨_, rfl⟩
  rw [hy] at KA ⊢
  clear hy
  have KN := Lib.hid fun w => refMul 2 y w
  obtain ⟨z, hz⟩ : ∃ xx, Sat.mul 2 y = xx := ⟨_, rfl⟩
  rw [hz] at KN ⊢
  clear hz
  go_enter Try.func77, Try.ntmps77
  go_wp2_with fail
  have hB : BoxP w.heap.size w p (w.alloc (.cells (parCells p) 23)) := BoxP.new w p _ rfl
  obtain ⟨g, hg⟩ : ∃ g, w.heap.size = g := ⟨_, rfl⟩
  rw [hg] at hB ⊢
  generalize w.alloc (.cells (parCells p) 23) = W at hB ⊢
  clear hg
  go_region_held3 (fun w' => w'.cell? ⟨g, 0, none⟩ = some (.int .i64 p.n) ∧ w'.cell? ⟨g, 1, none⟩ = some (.int .i64 p.f) ∧ w'.cell? ⟨g, 2, none⟩ = some (.int .i64 p.d) ∧ w'.cell? ⟨g, 3, none⟩ = some (.int .i64 p.beat) ∧ w'.cell? ⟨g, 4, none⟩ = some (.int .i64 p.rho) ∧ w'.cell? ⟨g, 5, none⟩ = some (.int .i64 p.delay) ∧ w'.cell? ⟨g, 6, none⟩ = some (.int .i64 p.jit) ∧ w'.cell? ⟨g, 7, none⟩ = some (.int .i64 p.eps) ∧ w'.cell? ⟨g, 8, none⟩ = some (.int .i64 p.mu) ∧ w'.cell? ⟨g, 9, none⟩ = some (.int .i64 p.hold) ∧ w'.cell? ⟨g, 10, none⟩ = some (.int .i64 p.pulse) ∧ w'.cell? ⟨g, 11, none⟩ = some (.int .i64 p.sec) ∧ g < w'.heap.size ∧ Ok w w')
    (first | assumption | exact BoxP.drew (by assumption) | exact BoxP.alloc (by assumption) _ | exact BoxP.next (by assumption) (by assumption) | exact BoxP.next (by assumption) (BoxP.drew (by assumption)) | exact BoxP.next (by assumption) (BoxP.alloc (by assumption) _)) (first | (go_at_call 49; (with_reducible refine (KM.out _).mono ?_); rintro e w2 ⟨rfl, rfl⟩) | (go_at_call 49; (with_reducible refine (KN.out _).mono ?_); rintro e w2 ⟨rfl, rfl⟩) | (go_at_call 78; (with_reducible refine (KH.out _).mono ?_); rintro e w2 ⟨rfl, hb2⟩) | (go_at_call 76; (with_reducible refine (KA.out _).mono ?_); rintro e w2 ⟨rfl, hb2⟩))
  all_goals
    rename_i hS
    have hok := BoxP.ok hS
    clear hS
    go_wp2
    go_ret
    exact ⟨rfl, hok⟩
set_option maxHeartbeats 1600000 in
theorem ref4Width (p : Par) (held hops : Int) (w : World) : Calls Try.prog 50 #[parV p, .int .i64 held, .int .i64 hops] w fun e w' => e = .returned (.int .i64 (Lim.width p held hops)) ∧ Ok w w' := by
  unfold Lim.width
  rw [← Lim.sum_sum2]
  have KM := Lib.hid fun w => refMul 2 p.rho w
  obtain ⟨m, hm⟩ : ∃ xx, Sat.mul 2 p.rho = xx := ⟨_, rfl⟩
  rw [hm] at KM ⊢
  clear hm
  have KD := Lib.hid fun w => refMul m held w
  obtain ⟨d, hd⟩ : ∃ xx, Sat.mul m held = xx := ⟨_, rfl⟩
  rw [hd] at KD ⊢
  clear hd
  have KH := Lib.hid fun w => ref4Hop p w
  obtain ⟨h, hh⟩ : ∃ xx, Lim.hop p = xx := ⟨_, rfl⟩
  rw [hh] at KH ⊢
  clear hh
  have KG := Lib.hid fun w => ref4Gate p w
  obtain ⟨q, hq⟩ : ∃ xx, Lim.gate p = xx := ⟨_, rfl⟩
  rw [hq] at KG ⊢
  clear hq
  have KS := Lib.hid fun w => ref4Add hops 1 w
  obtain ⟨s, hs⟩ : ∃ xx, Sat.sum [hops, 1] = xx := ⟨_, rfl⟩
  rw [hs] at KS ⊢
  clear hs
  have KY := Lib.hid fun w => refMul s h w
  obtain ⟨y, hy⟩ : ∃ xx, Sat.mul s h = xx := ⟨_, rfl⟩
  rw [hy] at KY ⊢
  clear hy
  have KU := Lib.hid fun w => ref4Add q d w
  obtain ⟨u, hu⟩ : ∃ xx, Sat.sum [q, d] = xx := ⟨_, rfl⟩
  rw [hu] at KU ⊢
  clear hu
  have KV := Lib.hid fun w => ref4Add u y w
  obtain ⟨v, hv⟩ : ∃ xx, Sat.sum [u, y] = xx := ⟨_, rfl⟩
  rw [hv] at KV ⊢
  clear hv
  go_enter Try.func50, Try.ntmps50
  go_upto_region 1 with fail
  have hB : BoxP w.heap.size w p (w.alloc (.cells (parCells p) 23)) := BoxP.new w p _ rfl
  obtain ⟨g, hg⟩ : ∃ g, w.heap.size = g := ⟨_, rfl⟩
  rw [hg] at hB ⊢
  generalize w.alloc (.cells (parCells p) 23) = W at hB ⊢
  clear hg
  have hS := hB
  obtain ⟨c0, c1, c2, c3, c4, c5, c6, c7, c8, c9, c10, c11, -, -⟩ := hS
  go_wp2_with (first | (go_at_call 49; (with_reducible refine (KM.out _).mono ?_); rintro e w2 ⟨rfl, rfl⟩) | (go_at_call 49; (with_reducible refine (KD.out _).mono ?_); rintro e w2 ⟨rfl, rfl⟩))
  clear c0 c1 c2 c3 c4 c5 c6 c7 c8 c9 c10 c11 KM KD
  go_region_held3 (fun w' => w'.cell? ⟨g, 0, none⟩ = some (.int .i64 p.n) ∧ w'.cell? ⟨g, 1, none⟩ = some (.int .i64 p.f) ∧ w'.cell? ⟨g, 2, none⟩ = some (.int .i64 p.d) ∧ w'.cell? ⟨g, 3, none⟩ = some (.int .i64 p.beat) ∧ w'.cell? ⟨g, 4, none⟩ = some (.int .i64 p.rho) ∧ w'.cell? ⟨g, 5, none⟩ = some (.int .i64 p.delay) ∧ w'.cell? ⟨g, 6, none⟩ = some (.int .i64 p.jit) ∧ w'.cell? ⟨g, 7, none⟩ = some (.int .i64 p.eps) ∧ w'.cell? ⟨g, 8, none⟩ = some (.int .i64 p.mu) ∧ w'.cell? ⟨g, 9, none⟩ = some (.int .i64 p.hold) ∧ w'.cell? ⟨g, 10, none⟩ = some (.int .i64 p.pulse) ∧ w'.cell? ⟨g, 11, none⟩ = some (.int .i64 p.sec) ∧ g < w'.heap.size ∧ Ok w w')
    (first | assumption | exact BoxP.drew (by assumption) | exact BoxP.alloc (by assumption) _ | exact BoxP.next (by assumption) (by assumption) | exact BoxP.next (by assumption) (BoxP.drew (by assumption)) | exact BoxP.next (by assumption) (BoxP.alloc (by assumption) _)) (first | (go_at_call 77; (with_reducible refine (KG.out _).mono ?_); rintro e w2 ⟨rfl, hb2⟩) | (go_at_call 78; (with_reducible refine (KH.out _).mono ?_); rintro e w2 ⟨rfl, hb2⟩) | (go_at_call 49; (with_reducible refine (KY.out _).mono ?_); rintro e w2 ⟨rfl, rfl⟩) | (go_at_call 76; (with_reducible refine (KS.out _).mono ?_); rintro e w2 ⟨rfl, hb2⟩) | (go_at_call 76; (with_reducible refine (KU.out _).mono ?_); rintro e w2 ⟨rfl, hb2⟩) | (go_at_call 76; (with_reducible refine (KV.out _).mono ?_); rintro e w2 ⟨rfl, hb2⟩))
  all_goals
    rename_i hS
    have hok := BoxP.ok hS
    clear hS
    go_wp2
    go_ret
    exact ⟨rfl, hok⟩
end Go.Proofs.Ytlclfonlidcfiaa
