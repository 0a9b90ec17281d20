/- Plain mathematics of layer 4: where numbers may be so, nothing is clipped; what rises. It names no program. -/
import Derived.Test.YtgfnfjkajahoaaaM05
namespace Go.Proofs.Ytgfnfjkajahoaaa
namespace Lim
theorem sum2 (a b : Int) : Sat.sum [a, b] = Sat.clip (Sat.clip a + Sat.clip b) := by
  have e1 : Sat.sum [a, b] = Sat.clip (Sat.sum [a] + Sat.clip b) := Sat.sum_snoc [a] b
  have e2 : Sat.sum [a] = Sat.clip (Sat.sum [] + Sat.clip a) := Sat.sum_snoc [] a
  rw [e1, e2, Sat.sum_nil, Int.zero_add, Sat.clip_clip]
theorem sum3 (a b c : Int) : Sat.sum [a, b, c] = Sat.clip (Sat.clip (Sat.clip a + Sat.clip b) + Sat.clip c) := by
  have e3 : Sat.sum [a, b, c] = Sat.clip (Sat.sum [a, b] + Sat.clip c) := Sat.sum_snoc [a, b] c
  rw [e3, sum2]
theorem mul_in {a b : Int} (ha : -2305843009213693952 ≤ a ∧ a ≤ 2305843009213693952) (hb : -2305843009213693952 ≤ b ∧ b ≤ 2305843009213693952) (h : -2305843009213693952 ≤ a * b ∧ a * b ≤ 2305843009213693952) : Sat.mul a b = a * b := by
  unfold Sat.mul; rw [Sat.clip_in ha.1 ha.2, Sat.clip_in hb.1 hb.2, Sat.clip_in h.1 h.2]
/-- Numbers that may be, and a little more of each. -/
def Small (p : Par) : Prop := (0 ≤ p.rho ∧ p.rho ≤ 137438953728) ∧ (0 ≤ p.jit ∧ p.jit ≤ 549755814144) ∧ (0 ≤ p.eps ∧ p.eps ≤ 1099511628032)
theorem May.small {p : Par} (h : May p) : Small p := by
  obtain ⟨-, ⟨⟨b1, b2⟩, ⟨r1, r2⟩, ⟨y1, y2⟩, ⟨j1, j2⟩, ⟨e1, e2⟩, -⟩, -, -⟩ := h
  unfold Small; omega
theorem hop_in {p : Par} (h : Small p) : hop p = p.jit + 2 * p.rho := by
  obtain ⟨⟨r1, r2⟩, ⟨j1, j2⟩, e1, e2⟩ := h
  unfold hop
  rw [mul_in (by omega) (by omega) (by omega), sum2, Sat.clip_in (x := p.jit) (by omega) (by omega), Sat.clip_in (x := 2 * p.rho) (by omega) (by omega), Sat.clip_in (by omega) (by omega)]
theorem gate_in {p : Par} (h : Small p) : gate p = 2 * (2 * p.eps + (p.jit + 2 * p.rho)) := by
  unfold gate
  rw [hop_in h]
  obtain ⟨⟨r1, r2⟩, ⟨j1, j2⟩, e1, e2⟩ := h
  rw [mul_in (a := 2) (b := p.eps) (by omega) (by omega) (by omega), sum2, Sat.clip_in (x := 2 * p.eps) (by omega) (by omega), Sat.clip_in (x := p.jit + 2 * p.rho) (by omega) (by omega), Sat.clip_in (by omega) (by omega)]
  exact mul_in (by omega) (by omega) (by omega)
theorem mul_bd {a b A B : Int} (a0 : 0 ≤ a) (b0 : 0 ≤ b) (ha : a ≤ A) (hb : b ≤ B) : 0 ≤ a * b ∧ a * b ≤ A * B :=
  ⟨Int.mul_nonneg a0 b0, Int.mul_le_mul ha hb b0 (by omega)⟩
/-- The width, reckoned without bounds. -/
def wide (p : Par) (held hops : Int) : Int := 2 * (2 * p.eps + (p.jit + 2 * p.rho)) + 2 * p.rho * held + (hops + 1) * (p.jit + 2 * p.rho)
theorem wide_bd {p : Par} (h : Small p) {held hops : Int} (h1 : 0 ≤ held ∧ held ≤ 1048831) (h2 : 0 ≤ hops ∧ hops ≤ 1048831) :
    (0 ≤ 2 * p.rho * held ∧ 2 * p.rho * held ≤ 288300470554983936) ∧ (0 ≤ (hops + 1) * (p.jit + 2 * p.rho) ∧ (hops + 1) * (p.jit + 2 * p.rho) ≤ 864902235493171200) := by
  obtain ⟨⟨r1, r2⟩, ⟨j1, j2⟩, e1, e2⟩ := h
  have m1 := mul_bd (a := 2 * p.rho) (b := held) (A := 274877907456) (B := 1048831) (by omega) h1.1 (by omega) h1.2
  have m2 := mul_bd (a := hops + 1) (b := p.jit + 2 * p.rho) (A := 1048832) (B := 824633721600) (by omega) (by omega) (by omega) (by omega)
  omega
theorem width_in {p : Par} (h : Small p) {held hops : Int} (h1 : 0 ≤ held ∧ held ≤ 1048831) (h2 : 0 ≤ hops ∧ hops ≤ 1048831) : width p held hops = wide p held hops := by
  have hb := wide_bd h h1 h2
  unfold width wide
  rw [hop_in h, gate_in h]
  obtain ⟨⟨r1, r2⟩, ⟨j1, j2⟩, e1, e2⟩ := h
  rw [mul_in (a := 2) (b := p.rho) (by omega) (by omega) (by omega), mul_in (a := 2 * p.rho) (b := held) (by omega) (by omega) (by omega), sum2, Sat.clip_in (x := hops) (by omega) (by omega), Sat.clip_in (x := 1) (by omega) (by omega), Sat.clip_in (x := hops + 1) (by omega) (by omega),
    mul_in (a := hops + 1) (by omega) (by omega) (by omega), sum3]
  obtain ⟨A, hA⟩ : ∃ A, 2 * p.rho * held = A := ⟨_, rfl⟩
  obtain ⟨B, hB⟩ : ∃ B, (hops + 1) * (p.jit + 2 * p.rho) = B := ⟨_, rfl⟩
  rw [hA, hB] at hb ⊢
  rw [Sat.clip_in (x := 2 * (2 * p.eps + (p.jit + 2 * p.rho))) (by omega) (by omega), Sat.clip_in (x := A) (by omega) (by omega), Sat.clip_in (x := B) (by omega) (by omega), Sat.clip_in (x := 2 * (2 * p.eps + (p.jit + 2 * p.rho)) + A) (by omega) (by omega), Sat.clip_in (by omega) (by omega)]
theorem wide_pos {p : Par} (h : Small p) {held hops : Int} (h1 : 0 ≤ held ∧ held ≤ 1048831) (h2 : 0 ≤ hops ∧ hops ≤ 1048831) : gate p ≤ wide p held hops ∧ 0 ≤ gate p ∧ gate p ≤ 8796093022208 ∧ wide p held hops ≤ 1224979098644774912 := by
  have hb := wide_bd h h1 h2
  rw [gate_in h]
  obtain ⟨⟨r1, r2⟩, ⟨j1, j2⟩, e1, e2⟩ := h
  unfold wide
  omega
theorem wide_held (p : Par) (held hops n : Int) (h : 0 ≤ p.rho) (hn : 0 ≤ n) : wide p held hops ≤ wide p (held + n) hops := by
  unfold wide
  have e : 2 * p.rho * (held + n) = 2 * p.rho * held + 2 * p.rho * n := Int.mul_add _ _ _
  have := Int.mul_nonneg (show 0 ≤ 2 * p.rho by omega) hn
  rw [e]; omega
theorem wide_hops (p : Par) (held hops n : Int) (h : 0 ≤ p.rho) (hj : 0 ≤ p.jit) (hn : 0 ≤ n) : wide p held hops ≤ wide p held (hops + n) := by
  unfold wide
  have e : (hops + n + 1) * (p.jit + 2 * p.rho) = (hops + 1) * (p.jit + 2 * p.rho) + n * (p.jit + 2 * p.rho) := by rw [← Int.add_mul]; congr 1; omega
  have := Int.mul_nonneg hn (show 0 ≤ p.jit + 2 * p.rho by omega)
  rw [e]; omega
theorem wide_more (p q : Par) (held hops : Int) (h1 : 0 ≤ held) (h2 : 0 ≤ hops) (hr : p.rho ≤ q.rho) (hj : p.jit ≤ q.jit) (he : p.eps ≤ q.eps) : wide p held hops ≤ wide q held hops := by
  unfold wide
  have m1 := Int.mul_le_mul_of_nonneg_right (show 2 * p.rho ≤ 2 * q.rho by omega) h1
  have m2 := Int.mul_le_mul_of_nonneg_left (show p.jit + 2 * p.rho ≤ q.jit + 2 * q.rho by omega) (show 0 ≤ hops + 1 by omega)
  omega
theorem skew_more {p : Par} (h : May p) {held : Int} (h1 : 0 ≤ held ∧ held ≤ 1048831) : 2 * gate p ≤ skew p held := by
  have hd : 0 ≤ p.d ∧ p.d ≤ 1048831 := by obtain ⟨-, -, ⟨⟨d1, d2⟩, -⟩, -⟩ := h; omega
  have hp := wide_pos h.small h1 hd
  unfold skew Sat.mul
  rw [width_in h.small h1 hd, Sat.clip_in (x := 2) (by omega) (by omega), Sat.clip_in (x := wide p held p.d) (by omega) (by omega)]
  unfold Sat.clip; repeat' split
  all_goals omega
theorem clip_pos {x : Int} (h : 0 ≤ x) : 0 ≤ Sat.clip x := by
  unfold Sat.clip; repeat' split
  all_goals omega
theorem up_pos {x s : Int} (h : 0 ≤ x) : 0 ≤ Wide.up x 1 s := by
  have h1 := (Wide.one_bd s).1
  unfold Wide.up Wide.cdiv
  refine clip_pos ?_
  rw [show Sat.clip 1 = 1 from rfl, Int.mul_one]
  have hc := clip_pos h
  have h2 := Int.ediv_le_ediv (show 0 < Wide.one s by omega) (show -Sat.clip x ≤ 0 by omega)
  rw [Int.zero_ediv] at h2
  omega
theorem far_pos {p : Par} (h : May p) : 0 ≤ far p := by
  have hs := h.small
  obtain ⟨-, -, ⟨⟨d1, d2⟩, o1, o2⟩, -⟩ := h
  have hp := wide_pos hs (held := p.hold) (hops := p.d) (by omega) (by omega)
  unfold far Sat.mul
  rw [width_in hs (by omega) (by omega), Sat.clip_in (x := 3) (by omega) (by omega), Sat.clip_in (x := wide p p.hold p.d) (by omega) (by omega)]
  exact clip_pos (by omega)
theorem sum3_more {a u : Int} (ha : 0 ≤ a ∧ a ≤ 100) (hu : 0 ≤ u ∧ u ≤ 2305843009213693952) : a + 6 ≤ Sat.sum [a, 6, u] := by
  rw [sum3, Sat.clip_in (x := a) (by omega) (by omega), Sat.clip_in (x := 6) (by omega) (by omega), Sat.clip_in (x := a + 6) (by omega) (by omega), Sat.clip_in (x := u) (by omega) (by omega)]
  unfold Sat.clip; repeat' split
  all_goals omega
theorem settle_more {p : Par} (h : May p) : 2 * p.d + 6 ≤ settle p := by
  have hu : 0 ≤ Wide.up (far p) 1 (Sat.sub p.mu p.rho) := up_pos (far_pos h)
  have hub := Wide.up_bd (far p) 1 (Sat.sub p.mu p.rho)
  obtain ⟨-, -, ⟨⟨d1, d2⟩, -⟩, -⟩ := h
  unfold settle
  rw [mul_in (by omega) (by omega) (by omega)]
  exact sum3_more (by omega) ⟨hu, hub.2⟩
end Lim
end Go.Proofs.Ytgfnfjkajahoaaa
