/- LimitRises: for every fabric's numbers, held beats, hops and a number more the law answers true: nothing is less wide later, further off, or with a greater error. No condition. -/
import Derived.Test.YtcelhpocegmpgaaC04f
import Derived.Test.YtcelhpocegmpgaaW06
import Derived.Test.YtcelhpocegmpgaaM06
import Derived.BigGuardPart
namespace Go.Proofs.Ytcelhpocegmpgaa.limitRises
open Go.ChangeShapes Go.WideShapes Go.ChangeAt Go.RowKit
set_option linter.unusedVariables false
set_option maxRecDepth 100000
/-- Four fabrics' numbers in four blocks, and nothing turned since w: what the law's last statement keeps. -/
def Box4 (g g1 g2 g3 : Nat) (w : World) (p q r s : Par) (w' : World) : Prop := w'.cell? ⟨g, 0, none⟩ = some (.int .i64 p.n) ∧ w'.cell? ⟨g, 1, none⟩ = some (.int .i64 p.f) ∧ w'.cell? ⟨g, 2, none⟩ = some (.int .i64 p.d) ∧ w'.cell? ⟨g, 3, none⟩ = some (.int .i64 p.beat) ∧ w'.cell? ⟨g, 4, none⟩ = some (.int .i64 p.rho) ∧ w'.cell? ⟨g, 5, none⟩ = some (.int .i64 p.delay) ∧ w'.cell? ⟨g, 6, none⟩ = some (.int .i64 p.jit) ∧ w'.cell? ⟨g, 7, none⟩ = some (.int .i64 p.eps) ∧ w'.cell? ⟨g, 8, none⟩ = some (.int .i64 p.mu) ∧ w'.cell? ⟨g, 9, none⟩ = some (.int .i64 p.hold) ∧ w'.cell? ⟨g, 10, none⟩ = some (.int .i64 p.pulse) ∧ w'.cell? ⟨g, 11, none⟩ = some (.int .i64 p.sec) ∧ w'.cell? ⟨g1, 0, none⟩ = some (.int .i64 q.n) ∧ w'.cell? ⟨g1, 1, none⟩ = some (.int .i64 q.f) ∧ w'.cell? ⟨g1, 2, none⟩ = some (.int .i64 q.d) ∧ w'.cell? ⟨g1, 3, none⟩ = some (.int .i64 q.beat) ∧ w'.cell? ⟨g1, 4, none⟩ = some (.int .i64 q.rho) ∧ w'.cell? ⟨g1, 5, none⟩ = some (.int .i64 q.delay) ∧ w'.cell? ⟨g1, 6, none⟩ = some (.int .i64 q.jit) ∧ w'.cell? ⟨g1, 7, none⟩ = some (.int .i64 q.eps) ∧ w'.cell? ⟨g1, 8, none⟩ = some (.int .i64 q.mu) ∧ w'.cell? ⟨g1, 9, none⟩ = some (.int .i64 q.hold) ∧ w'.cell? ⟨g1, 10, none⟩ = some (.int .i64 q.pulse) ∧ w'.cell? ⟨g1, 11, none⟩ = some (.int .i64 q.sec) ∧ w'.cell? ⟨g2, 0, none⟩ = some (.int .i64 r.n) ∧ w'.cell? ⟨g2, 1, none⟩ = some (.int .i64 r.f) ∧ w'.cell? ⟨g2, 2, none⟩ = some (.int .i64 r.d) ∧ w'.cell? ⟨g2, 3, none⟩ = some (.int .i64 r.beat) ∧ w'.cell? ⟨g2, 4, none⟩ = some (.int .i64 r.rho) ∧ w'.cell? ⟨g2, 5, none⟩ = some (.int .i64 r.delay) ∧ w'.cell? ⟨g2, 6, none⟩ = some (.int .i64 r.jit) ∧ w'.cell? ⟨g2, 7, none⟩ = some (.int .i64 r.eps) ∧ w'.cell? ⟨g2, 8, none⟩ = some (.int .i64 r.mu) ∧ w'.cell? ⟨g2, 9, none⟩ = some (.int .i64 r.hold) ∧ w'.cell? ⟨g2, 10, none⟩ = some (.int .i64 r.pulse) ∧ w'.cell? ⟨g2, 11, none⟩ = some (.int .i64 r.sec) ∧ w'.cell? ⟨g3, 0, none⟩ = some (.int .i64 s.n) ∧ w'.cell? ⟨g3, 1, none⟩ = some (.int .i64 s.f) ∧ w'.cell? ⟨g3, 2, none⟩ = some (.int .i64 s.d) ∧ w'.cell? ⟨g3, 3, none⟩ = some (.int .i64 s.beat) ∧ w'.cell? ⟨g3, 4, none⟩ = some (.int .i64 s.rho) ∧ w'.cell? ⟨g3, 5, none⟩ = some (.int .i64 s.delay) ∧ w'.cell? ⟨g3, 6, none⟩ = some (.int .i64 s.jit) ∧ w'.cell? ⟨g3, 7, none⟩ = some (.int .i64 s.eps) ∧ w'.cell? ⟨g3, 8, none⟩ = some (.int .i64 s.mu) ∧ w'.cell? ⟨g3, 9, none⟩ = some (.int .i64 s.hold) ∧ w'.cell? ⟨g3, 10, none⟩ = some (.int .i64 s.pulse) ∧ w'.cell? ⟨g3, 11, none⟩ = some (.int .i64 s.sec) ∧ g < w'.heap.size ∧ g1 < w'.heap.size ∧ g2 < w'.heap.size ∧ g3 < w'.heap.size ∧ Ok w w'
theorem Box4.mk {g g1 g2 g3 : Nat} {w w' : World} {p q r s : Par} (h : BoxP g w p w') (h1 : Own w' g1 (parCells q)) (h2 : Own w' g2 (parCells r)) (h3 : Own w' g3 (parCells s)) : Box4 g g1 g2 g3 w p q r s w' := by
  obtain ⟨c0, c1, c2, c3, c4, c5, c6, c7, c8, c9, c10, c11, hl, hok⟩ := h
  exact ⟨c0, c1, c2, c3, c4, c5, c6, c7, c8, c9, c10, c11, h1.cell 0 rfl, h1.cell 1 rfl, h1.cell 2 rfl, h1.cell 3 rfl, h1.cell 4 rfl, h1.cell 5 rfl, h1.cell 6 rfl, h1.cell 7 rfl, h1.cell 8 rfl, h1.cell 9 rfl, h1.cell 10 rfl, h1.cell 11 rfl,
    h2.cell 0 rfl, h2.cell 1 rfl, h2.cell 2 rfl, h2.cell 3 rfl, h2.cell 4 rfl, h2.cell 5 rfl, h2.cell 6 rfl, h2.cell 7 rfl, h2.cell 8 rfl, h2.cell 9 rfl, h2.cell 10 rfl, h2.cell 11 rfl,
    h3.cell 0 rfl, h3.cell 1 rfl, h3.cell 2 rfl, h3.cell 3 rfl, h3.cell 4 rfl, h3.cell 5 rfl, h3.cell 6 rfl, h3.cell 7 rfl, h3.cell 8 rfl, h3.cell 9 rfl, h3.cell 10 rfl, h3.cell 11 rfl, hl, h1.lt, h2.lt, h3.lt, hok⟩
theorem Box4.next {g g1 g2 g3 : Nat} {w w' w1 : World} {p q r s : Par} (k : Ok w' w1) (h : Box4 g g1 g2 g3 w p q r s w') : Box4 g g1 g2 g3 w p q r s w1 := by
  obtain ⟨c0, c1, c2, c3, c4, c5, c6, c7, c8, c9, c10, c11, d0, d1, d2, d3, d4, d5, d6, d7, d8, d9, d10, d11, e0, e1, e2, e3, e4, e5, e6, e7, e8, e9, e10, e11, f0, f1, f2, f3, f4, f5, f6, f7, f8, f9, f10, f11, l0, l1, l2, l3, hok⟩ := h
  have key : ∀ b, b < w'.heap.size → ∀ i, w1.cell? ⟨b, i, none⟩ = w'.cell? ⟨b, i, none⟩ := fun b hl i => k.cell (p := ⟨b, i, none⟩) hl
  refine ⟨?_, ?_, ?_, ?_, ?_, ?_, ?_, ?_, ?_, ?_, ?_, ?_, ?_, ?_, ?_, ?_, ?_, ?_, ?_, ?_, ?_, ?_, ?_, ?_, ?_, ?_, ?_, ?_, ?_, ?_, ?_, ?_, ?_, ?_, ?_, ?_, ?_, ?_, ?_, ?_, ?_, ?_, ?_, ?_, ?_, ?_, ?_, ?_, Nat.lt_of_lt_of_le l0 k.size, Nat.lt_of_lt_of_le l1 k.size, Nat.lt_of_lt_of_le l2 k.size, Nat.lt_of_lt_of_le l3 k.size, hok.trans k⟩ <;> (rw [key _ (by assumption)]; assumption)
theorem Box4.drew {g g1 g2 g3 : Nat} {w w' : World} {p q r s : Par} (h : Box4 g g1 g2 g3 w p q r s w') : Box4 g g1 g2 g3 w p q r s w'.drew := h.next (Ok.refl w').drew
theorem Box4.alloc {g g1 g2 g3 : Nat} {w w' : World} {p q r s : Par} (h : Box4 g g1 g2 g3 w p q r s w') (o : Obj) : Box4 g g1 g2 g3 w p q r s (w'.alloc o) := h.next ((Ok.refl w').alloc o)
theorem Box4.ok {g g1 g2 g3 : Nat} {w w' : World} {p q r s : Par} (h : Box4 g g1 g2 g3 w p q r s w') : Ok w w' := by
  obtain ⟨-, -, -, -, -, -, -, -, -, -, -, -, -, -, -, -, -, -, -, -, -, -, -, -, -, -, -, -, -, -, -, -, -, -, -, -, -, -, -, -, -, -, -, -, -, -, -, -, l0, l1, l2, l3, hok⟩ := h
  exact hok
set_option maxHeartbeats 12800000 in
theorem walk (w : World) (p : Par) (wp : ParWf p) (held : Int) (wh : (Lit.int .i64 held).wf = true) (hops : Int) (wo : (Lit.int .i64 hops).wf = true) (n : Int) (wn : (Lit.int .u8 n).wf = true) :
    Calls Try.prog 6 #[parV p, .int .i64 held, .int .i64 hops, .int .u8 n] w fun e w' => e = .returned (.bool true) ∧ Below w.heap.size w w' := by
  clear wp wh wo
  have hn : 0 ≤ n ∧ n ≤ 255 := by simp [Lit.wf] at wn; exact wn
  clear wn
  by_cases hm : Lim.May p
  rotate_left
  · have KC := Lib.hid fun w => limCheck p w
    rw [show Lim.check p = 1 from if_neg hm] at KC
    clear hm
    go_enter Try.func6, Try.ntmps6
    go_upto_region 1 with fail
    have hB : BoxP w.heap.size w p (w.alloc (.cells (parCells p) 23)) := BoxP.new w p _ rfl
    obtain ⟨g, hg⟩ : ∃ g, w.heap.size = g := ⟨_, rfl⟩
    rw [hg] at hB ⊢
    generalize w.alloc (.cells (parCells p) 23) = W at hB ⊢
    clear hg
    obtain ⟨c0, c1, c2, c3, c4, c5, c6, c7, c8, c9, c10, c11, -, -⟩ := id hB
    go_wp2_with (first | (go_at_call 11; (with_reducible refine (law4Alive _).mono ?_); rintro e w1 ⟨rfl, hb1⟩; replace hB := BoxP.next hb1 hB; clear hb1 c0 c1 c2 c3 c4 c5 c6 c7 c8 c9 c10 c11; obtain ⟨c0, c1, c2, c3, c4, c5, c6, c7, c8, c9, c10, c11, -, -⟩ := id hB) | (go_at_call 8; (with_reducible refine (KC.out _).mono ?_); rintro e w1 ⟨rfl, hb1⟩; replace hB := BoxP.next hb1 hB; clear hb1 c0 c1 c2 c3 c4 c5 c6 c7 c8 c9 c10 c11; obtain ⟨c0, c1, c2, c3, c4, c5, c6, c7, c8, c9, c10, c11, -, -⟩ := id hB))
    go_ret
    exact ⟨rfl, BoxP.ok hB⟩
  have KC := Lib.hid fun w => limCheck p w
  rw [show Lim.check p = 0 from if_pos hm] at KC
  by_cases hr : (0 ≤ held ∧ held ≤ 1048576) ∧ (0 ≤ hops ∧ hops ≤ 1048576)
  rotate_left
  · clear hm
    go_enter Try.func6, Try.ntmps6
    go_upto_region 1 with fail
    have hB : BoxP w.heap.size w p (w.alloc (.cells (parCells p) 23)) := BoxP.new w p _ rfl
    obtain ⟨g, hg⟩ : ∃ g, w.heap.size = g := ⟨_, rfl⟩
    rw [hg] at hB ⊢
    generalize w.alloc (.cells (parCells p) 23) = W at hB ⊢
    clear hg
    obtain ⟨c0, c1, c2, c3, c4, c5, c6, c7, c8, c9, c10, c11, -, -⟩ := id hB
    go_wp2_with (first | (go_at_call 11; (with_reducible refine (law4Alive _).mono ?_); rintro e w1 ⟨rfl, hb1⟩; replace hB := BoxP.next hb1 hB; clear hb1 c0 c1 c2 c3 c4 c5 c6 c7 c8 c9 c10 c11; obtain ⟨c0, c1, c2, c3, c4, c5, c6, c7, c8, c9, c10, c11, -, -⟩ := id hB) | (go_at_call 8; (with_reducible refine (KC.out _).mono ?_); rintro e w1 ⟨rfl, hb1⟩; replace hB := BoxP.next hb1 hB; clear hb1 c0 c1 c2 c3 c4 c5 c6 c7 c8 c9 c10 c11; obtain ⟨c0, c1, c2, c3, c4, c5, c6, c7, c8, c9, c10, c11, -, -⟩ := id hB))
    all_goals
      go_ret
      exact ⟨rfl, BoxP.ok hB⟩
  have hsm := hm.small
  obtain ⟨n1, n2⟩ := hn
  obtain ⟨⟨i1, i2⟩, o1, o2⟩ := hr
  obtain ⟨q, hq⟩ : ∃ q : Par, q = ⟨p.n, p.f, p.d, p.beat, p.rho, p.delay, p.jit, p.eps + n, p.mu, p.hold, p.pulse, p.sec⟩ := ⟨_, rfl⟩
  obtain ⟨r, hr⟩ : ∃ q : Par, q = ⟨p.n, p.f, p.d, p.beat, p.rho + n, p.delay, p.jit, p.eps, p.mu, p.hold, p.pulse, p.sec⟩ := ⟨_, rfl⟩
  obtain ⟨s, hs⟩ : ∃ q : Par, q = ⟨p.n, p.f, p.d, p.beat, p.rho, p.delay, p.jit + n, p.eps, p.mu, p.hold, p.pulse, p.sec⟩ := ⟨_, rfl⟩
  have bp := And.intro hsm.1 (And.intro hsm.2.1 hsm.2.2)
  have bm : p.rho ≤ 137438953472 ∧ p.jit ≤ 549755813888 ∧ p.eps ≤ 1099511627776 := by
    obtain ⟨-, ⟨⟨b1, b2⟩, ⟨r1, r2⟩, ⟨y1, y2⟩, ⟨j1, j2⟩, ⟨e1, e2⟩, -⟩, -, -⟩ := hm
    omega
  have sq : Lim.Small q := by subst hq; unfold Lim.Small; simp only; omega
  have sr : Lim.Small r := by subst hr; unfold Lim.Small; simp only; omega
  have ss : Lim.Small s := by subst hs; unfold Lim.Small; simp only; omega
  have x1 := Lim.wide_held p held hops n (by omega) n1
  have x2 := Lim.wide_hops p held hops n (by omega) (by omega) n1
  have x3 := Lim.wide_more p q held hops i1 o1 (by subst hq; simp only; omega) (by subst hq; simp only; omega) (by subst hq; simp only; omega)
  have x4 := Lim.wide_more p r held hops i1 o1 (by subst hr; simp only; omega) (by subst hr; simp only; omega) (by subst hr; simp only; omega)
  have x5 := Lim.wide_more p s held hops i1 o1 (by subst hs; simp only; omega) (by subst hs; simp only; omega) (by subst hs; simp only; omega)
  have x6 := Lim.wide_pos hsm (held := held) (hops := hops) (by omega) (by omega)
  have x7 := Lim.skew_more hm (held := held) (by omega)
  have K0 := Lib.hid fun w => limWidth p held hops w
  have K1 := Lib.hid fun w => limWidth p (held + n) hops w
  have K2 := Lib.hid fun w => limWidth p held (hops + n) w
  have K3 := Lib.hid fun w => limWidth q held hops w
  have K4 := Lib.hid fun w => limWidth r held hops w
  have K5 := Lib.hid fun w => limWidth s held hops w
  have KG := Lib.hid fun w => limGate p w
  have KS := Lib.hid fun w => limSkew p held w
  rw [Lim.width_in hsm (by omega) (by omega)] at K0 K1 K2
  rw [Lim.width_in sq (by omega) (by omega)] at K3
  rw [Lim.width_in sr (by omega) (by omega)] at K4
  rw [Lim.width_in ss (by omega) (by omega)] at K5
  obtain ⟨y0, hy⟩ : ∃ xx, Lim.wide p held hops = xx := ⟨_, rfl⟩
  rw [hy] at K0 x1 x2 x3 x4 x5 x6
  clear hy
  obtain ⟨y1, hy⟩ : ∃ xx, Lim.wide p (held + n) hops = xx := ⟨_, rfl⟩
  rw [hy] at K1 x1
  clear hy
  obtain ⟨y2, hy⟩ : ∃ xx, Lim.wide p held (hops + n) = xx := ⟨_, rfl⟩
  rw [hy] at K2 x2
  clear hy
  obtain ⟨y3, hy⟩ : ∃ xx, Lim.wide q held hops = xx := ⟨_, rfl⟩
  rw [hy] at K3 x3
  clear hy
  obtain ⟨y4, hy⟩ : ∃ xx, Lim.wide r held hops = xx := ⟨_, rfl⟩
  rw [hy] at K4 x4
  clear hy
  obtain ⟨y5, hy⟩ : ∃ xx, Lim.wide s held hops = xx := ⟨_, rfl⟩
  rw [hy] at K5 x5
  clear hy
  obtain ⟨G, hy⟩ : ∃ xx, Lim.gate p = xx := ⟨_, rfl⟩
  rw [hy] at KG x6 x7
  clear hy
  obtain ⟨k, hy⟩ : ∃ xx, Lim.skew p held = xx := ⟨_, rfl⟩
  rw [hy] at KS x7
  clear hy
  have HQ := Lib.hid hq
  have HR := Lib.hid hr
  have HS := Lib.hid hs
  clear hq hr hs sq sr ss hm hsm
  have X := Lib.hid (And.intro x1 (And.intro x2 (And.intro x3 (And.intro x4 (And.intro x5 (And.intro x6 x7))))))
  clear x1 x2 x3 x4 x5 x6 x7
  go_enter Try.func6, Try.ntmps6
  go_upto_region 1 with fail
  have hB : BoxP w.heap.size w p (w.alloc (.cells (parCells p) 23)) := BoxP.new w p _ rfl
  obtain ⟨g, hg⟩ : ∃ g, w.heap.size = g := ⟨_, rfl⟩
  rw [hg] at hB ⊢
  generalize w.alloc (.cells (parCells p) 23) = W at hB ⊢
  clear hg
  obtain ⟨c0, c1, c2, c3, c4, c5, c6, c7, c8, c9, c10, c11, -, -⟩ := id hB
  go_upto_region 8 with (first | (go_at_call 11; (with_reducible refine (law4Alive _).mono ?_); rintro e w1 ⟨rfl, hb1⟩; replace hB := BoxP.next hb1 hB; clear hb1 c0 c1 c2 c3 c4 c5 c6 c7 c8 c9 c10 c11; obtain ⟨c0, c1, c2, c3, c4, c5, c6, c7, c8, c9, c10, c11, -, -⟩ := id hB) | (go_at_call 8; (with_reducible refine (KC.out _).mono ?_); rintro e w1 ⟨rfl, hb1⟩; replace hB := BoxP.next hb1 hB; clear hb1 c0 c1 c2 c3 c4 c5 c6 c7 c8 c9 c10 c11; obtain ⟨c0, c1, c2, c3, c4, c5, c6, c7, c8, c9, c10, c11, -, -⟩ := id hB) | (go_at_call 16; (with_reducible refine (K0.out _).mono ?_); rintro e w1 ⟨rfl, hb1⟩; replace hB := BoxP.next hb1 hB; clear hb1 c0 c1 c2 c3 c4 c5 c6 c7 c8 c9 c10 c11; obtain ⟨c0, c1, c2, c3, c4, c5, c6, c7, c8, c9, c10, c11, -, -⟩ := id hB))
  clear c0 c1 c2 c3 c4 c5 c6 c7 c8 c9 c10 c11
  have hQ : Own (w1.alloc (.cells #[.int .i64 p.n, .int .i64 p.f, .int .i64 p.d, .int .i64 p.beat, .int .i64 p.rho, .int .i64 p.delay, .int .i64 p.jit, .int .i64 (p.eps + n), .int .i64 p.mu, .int .i64 p.hold, .int .i64 p.pulse, .int .i64 p.sec] 23)) w1.heap.size (parCells q) := by
    have h := Own.new w1 (parCells q) 23 rfl
    rw [HQ.out] at h ⊢
    exact h
  clear HQ
  replace hB := BoxP.alloc hB (.cells #[.int .i64 p.n, .int .i64 p.f, .int .i64 p.d, .int .i64 p.beat, .int .i64 p.rho, .int .i64 p.delay, .int .i64 p.jit, .int .i64 (p.eps + n), .int .i64 p.mu, .int .i64 p.hold, .int .i64 p.pulse, .int .i64 p.sec] 23)
  generalize w1.alloc (.cells #[.int .i64 p.n, .int .i64 p.f, .int .i64 p.d, .int .i64 p.beat, .int .i64 p.rho, .int .i64 p.delay, .int .i64 p.jit, .int .i64 (p.eps + n), .int .i64 p.mu, .int .i64 p.hold, .int .i64 p.pulse, .int .i64 p.sec] 23) = W1 at hB hQ  ⊢
  obtain ⟨g1, hg⟩ : ∃ xx, w1.heap.size = xx := ⟨_, rfl⟩
  rw [hg] at hQ ⊢
  clear hg
  obtain ⟨c0, c1, c2, c3, c4, c5, c6, c7, c8, c9, c10, c11, -, -⟩ := id hB
  go_upto_region 10 with fail
  clear c0 c1 c2 c3 c4 c5 c6 c7 c8 c9 c10 c11
  have hR : Own (W1.alloc (.cells #[.int .i64 p.n, .int .i64 p.f, .int .i64 p.d, .int .i64 p.beat, .int .i64 (p.rho + n), .int .i64 p.delay, .int .i64 p.jit, .int .i64 p.eps, .int .i64 p.mu, .int .i64 p.hold, .int .i64 p.pulse, .int .i64 p.sec] 23)) W1.heap.size (parCells r) := by
    have h := Own.new W1 (parCells r) 23 rfl
    rw [HR.out] at h ⊢
    exact h
  clear HR
  replace hB := BoxP.alloc hB (.cells #[.int .i64 p.n, .int .i64 p.f, .int .i64 p.d, .int .i64 p.beat, .int .i64 (p.rho + n), .int .i64 p.delay, .int .i64 p.jit, .int .i64 p.eps, .int .i64 p.mu, .int .i64 p.hold, .int .i64 p.pulse, .int .i64 p.sec] 23)
  replace hQ := Own.alloc hQ (.cells #[.int .i64 p.n, .int .i64 p.f, .int .i64 p.d, .int .i64 p.beat, .int .i64 (p.rho + n), .int .i64 p.delay, .int .i64 p.jit, .int .i64 p.eps, .int .i64 p.mu, .int .i64 p.hold, .int .i64 p.pulse, .int .i64 p.sec] 23)
  generalize W1.alloc (.cells #[.int .i64 p.n, .int .i64 p.f, .int .i64 p.d, .int .i64 p.beat, .int .i64 (p.rho + n), .int .i64 p.delay, .int .i64 p.jit, .int .i64 p.eps, .int .i64 p.mu, .int .i64 p.hold, .int .i64 p.pulse, .int .i64 p.sec] 23) = W2 at hB hR hQ ⊢
  obtain ⟨g2, hg⟩ : ∃ xx, W1.heap.size = xx := ⟨_, rfl⟩
  rw [hg] at hR ⊢
  clear hg
  obtain ⟨c0, c1, c2, c3, c4, c5, c6, c7, c8, c9, c10, c11, -, -⟩ := id hB
  go_upto_region 12 with fail
  clear c0 c1 c2 c3 c4 c5 c6 c7 c8 c9 c10 c11
  have hS : Own (W2.alloc (.cells #[.int .i64 p.n, .int .i64 p.f, .int .i64 p.d, .int .i64 p.beat, .int .i64 p.rho, .int .i64 p.delay, .int .i64 (p.jit + n), .int .i64 p.eps, .int .i64 p.mu, .int .i64 p.hold, .int .i64 p.pulse, .int .i64 p.sec] 23)) W2.heap.size (parCells s) := by
    have h := Own.new W2 (parCells s) 23 rfl
    rw [HS.out] at h ⊢
    exact h
  clear HS
  replace hB := BoxP.alloc hB (.cells #[.int .i64 p.n, .int .i64 p.f, .int .i64 p.d, .int .i64 p.beat, .int .i64 p.rho, .int .i64 p.delay, .int .i64 (p.jit + n), .int .i64 p.eps, .int .i64 p.mu, .int .i64 p.hold, .int .i64 p.pulse, .int .i64 p.sec] 23)
  replace hQ := Own.alloc hQ (.cells #[.int .i64 p.n, .int .i64 p.f, .int .i64 p.d, .int .i64 p.beat, .int .i64 p.rho, .int .i64 p.delay, .int .i64 (p.jit + n), .int .i64 p.eps, .int .i64 p.mu, .int .i64 p.hold, .int .i64 p.pulse, .int .i64 p.sec] 23)
  replace hR := Own.alloc hR (.cells #[.int .i64 p.n, .int .i64 p.f, .int .i64 p.d, .int .i64 p.beat, .int .i64 p.rho, .int .i64 p.delay, .int .i64 (p.jit + n), .int .i64 p.eps, .int .i64 p.mu, .int .i64 p.hold, .int .i64 p.pulse, .int .i64 p.sec] 23)
  generalize W2.alloc (.cells #[.int .i64 p.n, .int .i64 p.f, .int .i64 p.d, .int .i64 p.beat, .int .i64 p.rho, .int .i64 p.delay, .int .i64 (p.jit + n), .int .i64 p.eps, .int .i64 p.mu, .int .i64 p.hold, .int .i64 p.pulse, .int .i64 p.sec] 23) = W3 at hB hS hQ hR ⊢
  obtain ⟨g3, hg⟩ : ∃ xx, W2.heap.size = xx := ⟨_, rfl⟩
  rw [hg] at hS ⊢
  clear hg
  obtain ⟨c0, c1, c2, c3, c4, c5, c6, c7, c8, c9, c10, c11, -, -⟩ := id hB
  clear c0 c1 c2 c3 c4 c5 c6 c7 c8 c9 c10 c11
  have hB4 := Box4.mk hB hQ hR hS
  clear hB hQ hR hS
  obtain ⟨x1, x2, x3, x4, x5, ⟨x6, x7, x8, x9⟩, x10⟩ := X.out
  have w0 : IntKind.i64.wrap (held + n) = held + n := IntWalk.i64_in _ ⟨by omega, by omega⟩
  have w1 : IntKind.i64.wrap (hops + n) = hops + n := IntWalk.i64_in _ ⟨by omega, by omega⟩
  have w2 : IntKind.i64.wrap (2 * G) = 2 * G := IntWalk.i64_in _ ⟨by omega, by omega⟩
  clear x7 x8 x9 n1 n2 i1 i2 o1 o2 bp bm X
  go_region_held3 (fun w' => w'.cell? ⟨g, 0, none⟩ = some (.int .i64 p.n) ∧ w'.cell? ⟨g, 1, none⟩ = some (.int .i64 p.f) ∧ w'.cell? ⟨g, 2, none⟩ = some (.int .i64 p.d) ∧ w'.cell? ⟨g, 3, none⟩ = some (.int .i64 p.beat) ∧ w'.cell? ⟨g, 4, none⟩ = some (.int .i64 p.rho) ∧ w'.cell? ⟨g, 5, none⟩ = some (.int .i64 p.delay) ∧ w'.cell? ⟨g, 6, none⟩ = some (.int .i64 p.jit) ∧ w'.cell? ⟨g, 7, none⟩ = some (.int .i64 p.eps) ∧ w'.cell? ⟨g, 8, none⟩ = some (.int .i64 p.mu) ∧ w'.cell? ⟨g, 9, none⟩ = some (.int .i64 p.hold) ∧ w'.cell? ⟨g, 10, none⟩ = some (.int .i64 p.pulse) ∧ w'.cell? ⟨g, 11, none⟩ = some (.int .i64 p.sec) ∧ w'.cell? ⟨g1, 0, none⟩ = some (.int .i64 q.n) ∧ w'.cell? ⟨g1, 1, none⟩ = some (.int .i64 q.f) ∧ w'.cell? ⟨g1, 2, none⟩ = some (.int .i64 q.d) ∧ w'.cell? ⟨g1, 3, none⟩ = some (.int .i64 q.beat) ∧ w'.cell? ⟨g1, 4, none⟩ = some (.int .i64 q.rho) ∧ w'.cell? ⟨g1, 5, none⟩ = some (.int .i64 q.delay) ∧ w'.cell? ⟨g1, 6, none⟩ = some (.int .i64 q.jit) ∧ w'.cell? ⟨g1, 7, none⟩ = some (.int .i64 q.eps) ∧ w'.cell? ⟨g1, 8, none⟩ = some (.int .i64 q.mu) ∧ w'.cell? ⟨g1, 9, none⟩ = some (.int .i64 q.hold) ∧ w'.cell? ⟨g1, 10, none⟩ = some (.int .i64 q.pulse) ∧ w'.cell? ⟨g1, 11, none⟩ = some (.int .i64 q.sec) ∧ w'.cell? ⟨g2, 0, none⟩ = some (.int .i64 r.n) ∧ w'.cell? ⟨g2, 1, none⟩ = some (.int .i64 r.f) ∧ w'.cell? ⟨g2, 2, none⟩ = some (.int .i64 r.d) ∧ w'.cell? ⟨g2, 3, none⟩ = some (.int .i64 r.beat) ∧ w'.cell? ⟨g2, 4, none⟩ = some (.int .i64 r.rho) ∧ w'.cell? ⟨g2, 5, none⟩ = some (.int .i64 r.delay) ∧ w'.cell? ⟨g2, 6, none⟩ = some (.int .i64 r.jit) ∧ w'.cell? ⟨g2, 7, none⟩ = some (.int .i64 r.eps) ∧ w'.cell? ⟨g2, 8, none⟩ = some (.int .i64 r.mu) ∧ w'.cell? ⟨g2, 9, none⟩ = some (.int .i64 r.hold) ∧ w'.cell? ⟨g2, 10, none⟩ = some (.int .i64 r.pulse) ∧ w'.cell? ⟨g2, 11, none⟩ = some (.int .i64 r.sec) ∧ w'.cell? ⟨g3, 0, none⟩ = some (.int .i64 s.n) ∧ w'.cell? ⟨g3, 1, none⟩ = some (.int .i64 s.f) ∧ w'.cell? ⟨g3, 2, none⟩ = some (.int .i64 s.d) ∧ w'.cell? ⟨g3, 3, none⟩ = some (.int .i64 s.beat) ∧ w'.cell? ⟨g3, 4, none⟩ = some (.int .i64 s.rho) ∧ w'.cell? ⟨g3, 5, none⟩ = some (.int .i64 s.delay) ∧ w'.cell? ⟨g3, 6, none⟩ = some (.int .i64 s.jit) ∧ w'.cell? ⟨g3, 7, none⟩ = some (.int .i64 s.eps) ∧ w'.cell? ⟨g3, 8, none⟩ = some (.int .i64 s.mu) ∧ w'.cell? ⟨g3, 9, none⟩ = some (.int .i64 s.hold) ∧ w'.cell? ⟨g3, 10, none⟩ = some (.int .i64 s.pulse) ∧ w'.cell? ⟨g3, 11, none⟩ = some (.int .i64 s.sec) ∧ g < w'.heap.size ∧ g1 < w'.heap.size ∧ g2 < w'.heap.size ∧ g3 < w'.heap.size ∧ Ok w w')
    (first | assumption | exact Box4.drew (by assumption) | exact Box4.alloc (by assumption) _ | exact Box4.next (by assumption) (by assumption) | exact Box4.next (by assumption) (Box4.drew (by assumption)) | exact Box4.next (by assumption) (Box4.alloc (by assumption) _)) (first | (go_at_call 16; (with_reducible refine (K1.out _).mono ?_); rintro e w2 ⟨rfl, hb2⟩) | (go_at_call 16; (with_reducible refine (K2.out _).mono ?_); rintro e w2 ⟨rfl, hb2⟩) | (go_at_call 16; (with_reducible refine (K3.out _).mono ?_); rintro e w2 ⟨rfl, hb2⟩) | (go_at_call 16; (with_reducible refine (K4.out _).mono ?_); rintro e w2 ⟨rfl, hb2⟩) | (go_at_call 16; (with_reducible refine (K5.out _).mono ?_); rintro e w2 ⟨rfl, hb2⟩) | (go_at_call 14; (with_reducible refine (KG.out _).mono ?_); rintro e w2 ⟨rfl, hb2⟩) | (go_at_call 18; (with_reducible refine (KS.out _).mono ?_); rintro e w2 ⟨rfl, hb2⟩))
  all_goals
    rename_i hS
    have hok := Box4.ok hS
    clear hS
    go_wp2
    go_ret
    exact ⟨rfl, hok⟩
theorem own : ownKnob Try.prog.godebug = none := by kernel_rfl
theorem laidOut : laidOutB Try.prog = true := by kernel_rfl
set_option maxRecDepth 100000 in
theorem lifted (os : Os) (started : os.Started) (H : Type) (enc : TypeId × Value → H) :
    ReturnsInHanded {} Try.checked os 6 .any (Rows.limitRisesSpec.pre6 enc Try.prog Try.f6 Rows.limitRisesRow.domain false) (Rows.limitRisesSpec.post enc Try.prog Try.f6 false true false false) := by
  refine returnsInHanded_of_change (C := Try.checked) own started (by kernel_rfl) Try.func6
    (ChangeSpec.witness6 (enc := enc) (C := Try.checked) false ⟨#[], #[.agg #[.int .i64 0, .int .i64 0, .int .i64 0, .int .i64 0, .int .i64 0, .int .i64 0, .int .i64 0, .int .i64 0, .int .i64 0, .int .i64 0, .int .i64 0, .int .i64 0], .int .i64 0, .int .i64 0, .int .u8 0], []⟩ 8 (by kernel_rfl) (by kernel_rfl) (by kernel_rfl) (by kernel_rfl)) ?_
  intro W base args ds gs before hval0 hW _ _
  have hval : ∀ (j : Nat) t v, Try.f6.params[j]? = some t → args[j]? = some v → Value.okWide Try.prog W .any base t v := hval0
  have hW' := hW
  obtain ⟨p, q, hA, hV, rfl, _, _⟩ := hW
  obtain ⟨rfl, rfl⟩ := trodVars_none hV
  replace hA : DataW.TrodAll enc Try.prog W 0 (fun _ => true) true Try.f6.params.toList args.toList ds p := hA
  rw [Try.params6] at hA hval
  obtain ⟨v0, vs0, d0, ds0, p0, q0, hargs, rfl, rfl, h0, r0⟩ := trodAll_cons hA
  obtain ⟨v1, vs1, d1, ds1, p1, q1, rfl, rfl, rfl, h1, r1⟩ := trodAll_cons r0
  obtain ⟨v2, vs2, d2, ds2, p2, q2, rfl, rfl, rfl, h2, r2⟩ := trodAll_cons r1
  obtain ⟨v3, vs3, d3, ds3, p3, q3, rfl, rfl, rfl, h3, r3⟩ := trodAll_cons r2
  obtain ⟨rfl, rfl, rfl⟩ := trodAll_nil r3
  obtain rfl : args = #[v0, v1, v2, v3] := by cases args; simp_all
  obtain ⟨p0, rfl, wp0⟩ := open_par Try.underlying23 rfl (by kernel_rfl) (by kernel_rfl) (by kernel_rfl) (hval 0 23 v0 rfl rfl) h0
  obtain ⟨a1, rfl, rfl, rfl, w1⟩ := open_int Try.underlying3 (hval 1 3 v1 rfl rfl) h1
  obtain ⟨a2, rfl, rfl, rfl, w2⟩ := open_int Try.underlying3 (hval 2 3 v2 rfl rfl) h2
  obtain ⟨a3, rfl, rfl, rfl, w3⟩ := open_int Try.underlying5 (hval 3 5 v3 rfl rfl) h3
  refine (walk W p0 wp0 a1 w1 a2 w2 a3 w3).mono fun e W' ⟨he, hb⟩ => ?_
  subst he
  exact ⟨_, rfl, law_post hW' laidOut (by rw [Try.params6]; exact params_ok (by kernel_rfl)) rfl (by kernel_rfl) Try.underlying4 rfl rfl rfl hb⟩
theorem over : Rows.limitRisesRow.holds Try.pinned (OpenSpec.ofChange Rows.limitRisesSpec) :=
  OpenClaim.holds_of_wide 6 Try.f6 rfl rfl rfl rfl rfl rfl rfl ⟨rfl, rfl, rfl, rfl, rfl⟩ rfl rfl rfl rfl rfl (by kernel_rfl) Try.func6 (by kernel_rfl)
    (of_decide_eq_true (by kernel_rfl)) (by unfold Func.isWrapper; first | (rw [if_pos (by decide +kernel)]; kernel_rfl) | (rw [if_neg (by decide +kernel)]; exact ⟨rfl, rfl⟩))
    (fun os started H enc _ => lifted os started H enc)
theorem proved : Rows.LimitRisesSaid := over
end Go.Proofs.Ytcelhpocegmpgaa.limitRises
