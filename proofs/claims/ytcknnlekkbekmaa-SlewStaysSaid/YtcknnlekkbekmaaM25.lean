/- Plain mathematics of layer 12: what a slewed clock's steps come to. It names no program. -/
import Derived.Test.YtcknnlekkbekmaaM14
namespace Go.Proofs.Ytcknnlekkbekmaa
namespace Slew
/-- Without sign. -/
def far_ (x : Int) : Int := if x < 0 then -x else x
/-- The slewing's bound, of numbers that may be. -/
theorem mu_bds {p : Par} (h : Lim.May p) : (1 ≤ p.beat ∧ p.beat ≤ 1099511627776) ∧ (0 ≤ p.rho ∧ p.rho < p.mu) ∧ (1 ≤ p.mu ∧ 4 * p.mu ≤ p.beat) := by
  obtain ⟨-, ⟨b, r, d, j, e, m⟩, -, -⟩ := h
  omega
theorem by_bd {mu : Int} (h : 0 ≤ mu) (d : Int) : -mu ≤ by_ mu d ∧ by_ mu d ≤ mu := by
  unfold by_; split
  · omega
  · split <;> omega
/-- It never goes past where it is brought to. -/
theorem by_between {mu : Int} (h : 0 ≤ mu) (d : Int) : (0 ≤ d → 0 ≤ by_ mu d ∧ by_ mu d ≤ d) ∧ (d ≤ 0 → d ≤ by_ mu d ∧ by_ mu d ≤ 0) := by
  unfold by_; split
  · omega
  · split <;> omega
/-- At most so far from the time, and again. -/
theorem by_stays {mu w e to : Int} (h1 : -w - mu ≤ e) (h2 : e ≤ w + mu) (h3 : -w ≤ to) (h4 : to ≤ w) : -w ≤ e + by_ mu (to - e) ∧ e + by_ mu (to - e) ≤ w := by
  unfold by_; split
  · omega
  · split <;> omega
/-- On a true beat what it is off by gets less. -/
theorem by_less {mu : Int} (h : 0 ≤ mu) (x : Int) : far_ (x + by_ mu (-x)) = (if far_ x ≤ mu then 0 else far_ x - mu) := by
  unfold by_ far_
  split <;> split <;> (try split) <;> (try split) <;> omega
/-- Two clocks come no further from one another, and keep their places. -/
theorem by_near {mu a b t : Int} (h : 0 ≤ mu) (hab : a ≤ b) : a + by_ mu (t - a) ≤ b + by_ mu (t - b) ∧ b + by_ mu (t - b) - (a + by_ mu (t - a)) ≤ b - a := by
  unfold by_; split <;> split <;> (try split) <;> (try split) <;> omega
end Slew
end Go.Proofs.Ytcknnlekkbekmaa
