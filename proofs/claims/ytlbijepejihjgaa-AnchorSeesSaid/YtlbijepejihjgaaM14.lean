/- Plain mathematics of layers 10 to 12: what a trip tells, what a span becomes while time goes by, a clock that is slewed. It names no program. -/
import Derived.Test.YtlbijepejihjgaaM04
import Derived.Test.YtlbijepejihjgaaM06
namespace Go.Proofs.Ytlbijepejihjgaa
namespace Lim
theorem sub_in {a b : Int} (ha : -2305843009213693952 ≤ a ∧ a ≤ 2305843009213693952) (hb : -2305843009213693952 ≤ b ∧ b ≤ 2305843009213693952) (h : -2305843009213693952 ≤ a - b ∧ a - b ≤ 2305843009213693952) : Sat.sub a b = a - b := by
  unfold Sat.sub; rw [Sat.clip_in ha.1 ha.2, Sat.clip_in hb.1 hb.2, Sat.clip_in h.1 h.2]
theorem sum2_in {a b : Int} (ha : -2305843009213693952 ≤ a ∧ a ≤ 2305843009213693952) (hb : -2305843009213693952 ≤ b ∧ b ≤ 2305843009213693952) (h : -2305843009213693952 ≤ a + b ∧ a + b ≤ 2305843009213693952) : Sat.sum [a, b] = a + b := by
  rw [sum2, Sat.clip_in ha.1 ha.2, Sat.clip_in hb.1 hb.2, Sat.clip_in h.1 h.2]
theorem sum3_in {a b c : Int} (ha : -2305843009213693952 ≤ a ∧ a ≤ 2305843009213693952) (hb : -2305843009213693952 ≤ b ∧ b ≤ 2305843009213693952) (hc : -2305843009213693952 ≤ c ∧ c ≤ 2305843009213693952) (h2 : -2305843009213693952 ≤ a + b ∧ a + b ≤ 2305843009213693952) (h : -2305843009213693952 ≤ a + b + c ∧ a + b + c ≤ 2305843009213693952) : Sat.sum [a, b, c] = a + b + c := by
  rw [sum3, Sat.clip_in ha.1 ha.2, Sat.clip_in hb.1 hb.2, Sat.clip_in h2.1 h2.2, Sat.clip_in hc.1 hc.2, Sat.clip_in h.1 h.2]
/-- The bounds of numbers that may be, as a walk and omega want them. -/
theorem May.bds {p : Par} (h : May p) : (1 ≤ p.beat ∧ p.beat ≤ 1099511627776) ∧ (0 ≤ p.rho ∧ 8 * p.rho ≤ p.beat) ∧ (0 ≤ p.delay ∧ 2 * p.delay ≤ p.beat) ∧ (0 ≤ p.jit ∧ p.jit ≤ p.delay) ∧ (0 ≤ p.eps ∧ p.eps ≤ 1099511627776) := by
  obtain ⟨-, ⟨b, r, d, j, e, -⟩, -, -⟩ := h
  exact ⟨b, r, d, j, e⟩
end Lim
namespace Probe
/-- What a trip tells. -/
def way1 (p : Par) (asked got : Int) : Int × Int := (Sat.sum [Sat.sub (Sat.sub got asked) p.delay, -Sat.mul 2 p.rho], Sat.sum [Sat.sub (Sat.sub got asked) (Sat.sub p.delay p.jit), Sat.mul 2 p.rho])
def way2 (p : Par) (said heard : Int) : Int × Int := (Sat.sum [Sat.sum [Sat.sub said heard, Sat.sub p.delay p.jit], -Sat.mul 2 p.rho], Sat.sum [Sat.sum [Sat.sub said heard, p.delay], Sat.mul 2 p.rho])
def ahead (p : Par) (asked got said heard : Int) : Int × Int := (Sat.clip (Span.mLo [way1 p asked got, way2 p said heard]), Sat.clip (Span.mHi [way1 p asked got, way2 p said heard]))
theorem holds {p : Par} (h : Lim.May p) {asked ad there rest back dr : Int} (ha : -1125899906842624 ≤ asked ∧ asked ≤ 1125899906842624) (hb : -1125899906842624 ≤ ad ∧ ad ≤ 1125899906842624) (hr : -1125899906842624 ≤ rest ∧ rest ≤ 1125899906842624)
    (ht : p.delay - p.jit ≤ there ∧ there ≤ p.delay) (hk : p.delay - p.jit ≤ back ∧ back ≤ p.delay) (hd : -(2 * p.rho) ≤ dr ∧ dr ≤ 2 * p.rho) :
    let s := ahead p asked (asked + there + ad) (asked + there + rest + ad + dr) (asked + there + rest + back)
    s.1 ≤ ad ∧ ad ≤ s.2 ∧ s.2 - s.1 ≤ p.jit + 4 * p.rho ∧ -2305843009213693952 ≤ s.1 ∧ s.2 ≤ 2305843009213693952 := by
  obtain ⟨b1, r1, d1, j1, -⟩ := Lim.May.bds h
  have m2 : Sat.mul 2 p.rho = 2 * p.rho := Lim.mul_in (by omega) (by omega) (by omega)
  have l1 : Sat.sub p.delay p.jit = p.delay - p.jit := Lim.sub_in (by omega) (by omega) (by omega)
  have e1 : Sat.sub (asked + there + ad) asked = there + ad := by rw [Lim.sub_in (by omega) (by omega) (by omega)]; omega
  have e2 : Sat.sub (asked + there + rest + ad + dr) (asked + there + rest + back) = ad + dr - back := by rw [Lim.sub_in (by omega) (by omega) (by omega)]; omega
  have w1 : way1 p asked (asked + there + ad) = (there + ad - p.delay - 2 * p.rho, there + ad - (p.delay - p.jit) + 2 * p.rho) := by
    unfold way1
    rw [e1, l1, m2, Lim.sub_in (a := there + ad) (b := p.delay) (by omega) (by omega) (by omega), Lim.sub_in (a := there + ad) (b := p.delay - p.jit) (by omega) (by omega) (by omega), Lim.sum2_in (by omega) (by omega) (by omega), Lim.sum2_in (by omega) (by omega) (by omega)]
    rfl
  have w2 : way2 p (asked + there + rest + ad + dr) (asked + there + rest + back) = (ad + dr - back + (p.delay - p.jit) - 2 * p.rho, ad + dr - back + p.delay + 2 * p.rho) := by
    unfold way2
    rw [e2, l1, m2, Lim.sum2_in (a := ad + dr - back) (b := p.delay - p.jit) (by omega) (by omega) (by omega), Lim.sum2_in (a := ad + dr - back) (b := p.delay) (by omega) (by omega) (by omega), Lim.sum2_in (by omega) (by omega) (by omega), Lim.sum2_in (by omega) (by omega) (by omega)]
    rfl
  unfold ahead
  rw [w1, w2]
  have g1 := Span.mLo_iff [(there + ad - p.delay - 2 * p.rho, there + ad - (p.delay - p.jit) + 2 * p.rho), (ad + dr - back + (p.delay - p.jit) - 2 * p.rho, ad + dr - back + p.delay + 2 * p.rho)]
  have g2 := Span.mHi_iff [(there + ad - p.delay - 2 * p.rho, there + ad - (p.delay - p.jit) + 2 * p.rho), (ad + dr - back + (p.delay - p.jit) - 2 * p.rho, ad + dr - back + p.delay + 2 * p.rho)]
  have k1 := (g1 ad).2 ⟨by omega, fun s hs => by simp at hs; rcases hs with rfl | rfl <;> simp <;> omega⟩
  have k2 := (g2 ad).2 ⟨by omega, fun s hs => by simp at hs; rcases hs with rfl | rfl <;> simp <;> omega⟩
  have k3 := ((g1 _).1 (Int.le_refl _)).2 (there + ad - p.delay - 2 * p.rho, there + ad - (p.delay - p.jit) + 2 * p.rho) (by simp)
  have k4 := ((g2 _).1 (Int.le_refl _)).2 (there + ad - p.delay - 2 * p.rho, there + ad - (p.delay - p.jit) + 2 * p.rho) (by simp)
  have k5 := ((g1 _).1 (Int.le_refl _)).1
  have k6 := ((g2 _).1 (Int.le_refl _)).1
  simp only at k3 k4
  rw [Sat.clip_in (by omega) (by omega), Sat.clip_in (by omega) (by omega)]
  exact ⟨k1, k2, by simp only; omega, by simp only; omega, by simp only; omega⟩
end Probe
namespace Carry
def hold (p : Par) (s : Int × Int) (n : Int) : Int × Int := (Sat.sum [s.1, Sat.sub n p.rho], Sat.sum [s.2, Sat.sum [n, p.rho]])
def way (p : Par) (s : Int × Int) (age : Int) : Int × Int := (Sat.sum [s.1, Sat.sum [Sat.sub p.delay p.jit, age, -Sat.clip p.rho]], Sat.sum [s.2, Sat.sum [p.delay, age, p.rho]])
def ticks (p : Par) : Int × Int := (Sat.sub p.beat p.rho, Sat.sum [p.beat, p.rho])
def ages (p : Par) : Int × Int := (Sat.sub (Sat.sub p.beat p.delay) p.rho, Sat.sum [Sat.sub p.beat p.delay, p.jit, p.rho])
theorem ticks_in {p : Par} (h : Lim.May p) : ticks p = (p.beat - p.rho, p.beat + p.rho) := by
  obtain ⟨b1, r1, d1, j1, -⟩ := Lim.May.bds h
  unfold ticks
  rw [Lim.sub_in (by omega) (by omega) (by omega), Lim.sum2_in (by omega) (by omega) (by omega)]
theorem ages_in {p : Par} (h : Lim.May p) : ages p = (p.beat - p.delay - p.rho, p.beat - p.delay + p.jit + p.rho) := by
  obtain ⟨b1, r1, d1, j1, -⟩ := Lim.May.bds h
  unfold ages
  rw [Lim.sub_in (a := p.beat) (b := p.delay) (by omega) (by omega) (by omega), Lim.sub_in (by omega) (by omega) (by omega), Lim.sum3_in (by omega) (by omega) (by omega) (by omega) (by omega)]
theorem hold_in {p : Par} (h : Lim.May p) (s : Int × Int) {n : Int} (hn : -1152921504606846976 ≤ n ∧ n ≤ 1152921504606846976) : hold p s n = (Sat.clip (Sat.clip s.1 + (n - p.rho)), Sat.clip (Sat.clip s.2 + (n + p.rho))) := by
  obtain ⟨b1, r1, d1, j1, -⟩ := Lim.May.bds h
  unfold hold
  rw [Lim.sub_in (by omega) (by omega) (by omega), Lim.sum2_in (a := n) (b := p.rho) (by omega) (by omega) (by omega), Lim.sum2, Lim.sum2, Sat.clip_in (x := n - p.rho) (by omega) (by omega), Sat.clip_in (x := n + p.rho) (by omega) (by omega)]
theorem way_in {p : Par} (h : Lim.May p) (s : Int × Int) {n : Int} (hn : -1152921504606846976 ≤ n ∧ n ≤ 1152921504606846976) : way p s n = (Sat.clip (Sat.clip s.1 + (p.delay - p.jit + n - p.rho)), Sat.clip (Sat.clip s.2 + (p.delay + n + p.rho))) := by
  obtain ⟨b1, r1, d1, j1, -⟩ := Lim.May.bds h
  unfold way
  rw [Sat.clip_in (x := p.rho) (by omega) (by omega), Lim.sub_in (by omega) (by omega) (by omega), Lim.sum3_in (a := p.delay - p.jit) (by omega) (by omega) (by omega) (by omega) (by omega), Lim.sum3_in (a := p.delay) (by omega) (by omega) (by omega) (by omega) (by omega), Lim.sum2, Lim.sum2, Sat.clip_in (x := p.delay - p.jit + n + -p.rho) (by omega) (by omega), Sat.clip_in (x := p.delay + n + p.rho) (by omega) (by omega)]
  rfl
/-- A span that has a time, moved: it has the time moved as far, or less and more. -/
theorem moved {lo hi now x y d : Int} (h1 : lo ≤ now) (h2 : now ≤ hi) (hn : -1152921504606846976 ≤ now ∧ now ≤ 1152921504606846976) (hd : -1152921504606846976 ≤ d ∧ d ≤ 1152921504606846976) (hx : x ≤ d) (hy : d ≤ y) : Sat.clip (Sat.clip lo + x) ≤ now + d ∧ now + d ≤ Sat.clip (Sat.clip hi + y) := by
  have m1 := Sat.clip_mono h1
  have m2 := Sat.clip_mono h2
  rw [Sat.clip_in (x := now) (by omega) (by omega)] at m1 m2
  have m3 := Sat.clip_mono (show Sat.clip lo + x ≤ now + d by omega)
  have m4 := Sat.clip_mono (show now + d ≤ Sat.clip hi + y by omega)
  rw [Sat.clip_in (x := now + d) (by omega) (by omega)] at m3 m4
  exact ⟨m3, m4⟩
theorem holds {p : Par} (h : Lim.May p) {s : Int × Int} {now off : Int} (hn : -1152921504606846976 ≤ now ∧ now ≤ 1152921504606846976) (h1 : s.1 ≤ now) (h2 : now ≤ s.2) (ho : -p.rho ≤ off ∧ off ≤ p.rho) :
    (hold p s (p.beat + off)).1 ≤ now + p.beat ∧ now + p.beat ≤ (hold p s (p.beat + off)).2 := by
  obtain ⟨b1, r1, d1, j1, -⟩ := Lim.May.bds h
  rw [hold_in h s (by omega)]
  exact moved h1 h2 hn (by omega) (by omega) (by omega)
theorem brings {p : Par} (h : Lim.May p) {s : Int × Int} {now age : Int} (hn : -1152921504606846976 ≤ now ∧ now ≤ 1152921504606846976) (h1 : s.1 ≤ now) (h2 : now ≤ s.2) (ha : p.beat - p.delay - p.rho ≤ age ∧ age ≤ p.beat - p.delay + p.jit + p.rho) :
    (way p s age).1 ≤ now + p.beat ∧ now + p.beat ≤ (way p s age).2 := by
  obtain ⟨b1, r1, d1, j1, -⟩ := Lim.May.bds h
  rw [way_in h s (by omega)]
  exact moved h1 h2 hn (by omega) (by omega) (by omega)
end Carry
namespace Slew
def step (p : Par) (time ticks to : Int) : Int := Sat.sum [Sat.sum [time, ticks], Sat.bound (Sat.sub to (Sat.sum [time, ticks])) (-Sat.clip p.mu) p.mu]
/-- Where nothing is clipped. -/
def by_ (mu d : Int) : Int := if d < -mu then -mu else if mu < d then mu else d
theorem step_in {p : Par} (hm : 0 ≤ p.mu ∧ p.mu ≤ 1152921504606846976) {time ticks to : Int} (h1 : -288230376151711744 ≤ time ∧ time ≤ 288230376151711744) (h2 : -288230376151711744 ≤ ticks ∧ ticks ≤ 288230376151711744) (h3 : -288230376151711744 ≤ to ∧ to ≤ 288230376151711744) : step p time ticks to = time + ticks + by_ p.mu (to - (time + ticks)) := by
  unfold step by_ Sat.bound
  rw [Lim.sum2_in (a := time) (by omega) (by omega) (by omega), Lim.sub_in (by omega) (by omega) (by omega), Sat.clip_in (x := p.mu) (by omega) (by omega)]
  by_cases c1 : to - (time + ticks) < -p.mu
  · rw [if_pos (Or.inr c1), if_pos c1, Lim.sum2_in (by omega) (by omega) (by omega)]
  · rw [if_neg (by omega), if_neg c1]
    by_cases c2 : p.mu < to - (time + ticks)
    · rw [if_pos c2, Lim.sum2_in (by omega) (by omega) (by omega)]
    · rw [if_neg c2, Lim.sum2_in (by omega) (by omega) (by omega)]
end Slew
end Go.Proofs.Ytlbijepejihjgaa
