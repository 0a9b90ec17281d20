/- Plain mathematics of layer 4: a fabric's numbers, and what they bound. It names no program. -/
import Derived.Test.YtgfnfjkajahoaaaM02
import Derived.KernelRfl
namespace Go.Proofs.Ytgfnfjkajahoaaa
/-- A fabric's numbers. -/
structure Par where
  n : Int
  f : Int
  d : Int
  beat : Int
  rho : Int
  delay : Int
  jit : Int
  eps : Int
  mu : Int
  hold : Int
  pulse : Int
  sec : Int
namespace Lim
def win (x lo hi : Int) : Bool := decide (lo ≤ x ∧ x ≤ hi)
theorem win_true {x lo hi : Int} : win x lo hi = true ↔ lo ≤ x ∧ x ≤ hi := by simp [win]
theorem win_false {x lo hi : Int} : win x lo hi = false ↔ ¬ (lo ≤ x ∧ x ≤ hi) := by simp [win]
def Gates (p : Par) : Prop := (1 ≤ p.n ∧ p.n ≤ 16) ∧ (0 ≤ p.f ∧ 3 * p.f + 1 ≤ p.n)
def Beat (p : Par) : Prop := (1 ≤ p.beat ∧ p.beat ≤ 1099511627776) ∧ (0 ≤ p.rho ∧ 8 * p.rho ≤ p.beat) ∧ (0 ≤ p.delay ∧ 2 * p.delay ≤ p.beat) ∧ (0 ≤ p.jit ∧ p.jit ≤ p.delay) ∧ (0 ≤ p.eps ∧ p.eps ≤ 1099511627776) ∧ (p.rho < p.mu ∧ 4 * p.mu ≤ p.beat)
def Beats (p : Par) : Prop := (0 ≤ p.d ∧ p.d ≤ 16) ∧ (p.d + 2 ≤ p.hold ∧ p.hold ≤ 1048576)
def Users (p : Par) : Prop := (1 ≤ p.pulse ∧ p.pulse ≤ 1099511627776) ∧ (1 ≤ p.sec ∧ p.sec ≤ 1099511627776)
instance (p : Par) : Decidable (Gates p) := by unfold Gates; infer_instance
instance (p : Par) : Decidable (Beat p) := by unfold Beat; infer_instance
instance (p : Par) : Decidable (Beats p) := by unfold Beats; infer_instance
instance (p : Par) : Decidable (Users p) := by unfold Users; infer_instance
def May (p : Par) : Prop := Gates p ∧ Beat p ∧ Beats p ∧ Users p
instance (p : Par) : Decidable (May p) := by unfold May; infer_instance
def check (p : Par) : Int := if May p then 0 else 1
def hop (p : Par) : Int := Sat.sum [p.jit, Sat.mul 2 p.rho]
def gate (p : Par) : Int := Sat.mul 2 (Sat.sum [Sat.mul 2 p.eps, hop p])
def width (p : Par) (held hops : Int) : Int := Sat.sum [gate p, Sat.mul (Sat.mul 2 p.rho) held, Sat.mul (Sat.sum [hops, 1]) (hop p)]
def skew (p : Par) (held : Int) : Int := Sat.mul 2 (width p held p.d)
def far (p : Par) : Int := Sat.mul 3 (width p p.hold p.d)
def settle (p : Par) : Int := Sat.sum [Sat.mul 2 p.d, 6, Wide.up (far p) 1 (Sat.sub p.mu p.rho)]
theorem sum_sum2 (a b c : Int) : Sat.sum [Sat.sum [a, b], c] = Sat.sum [a, b, c] := by
  have e1 : Sat.sum [Sat.sum [a, b], c] = Sat.clip (Sat.sum [Sat.sum [a, b]] + Sat.clip c) := Sat.sum_snoc [Sat.sum [a, b]] c
  have e2 : Sat.sum [Sat.sum [a, b]] = Sat.clip (Sat.sum [] + Sat.clip (Sat.sum [a, b])) := Sat.sum_snoc [] (Sat.sum [a, b])
  have e3 : Sat.sum [a, b, c] = Sat.clip (Sat.sum [a, b] + Sat.clip c) := Sat.sum_snoc [a, b] c
  have hb := Sat.sum_bd [a, b]
  rw [e1, e2, e3, Sat.sum_nil, Int.zero_add, Sat.clip_clip, Sat.clip_in hb.1 hb.2]
theorem up_neg (x s : Int) : -(Wide.down (-x) 1 s) = Wide.up x 1 s := by
  unfold Wide.down Wide.up
  rw [Sat.clip_neg, Int.neg_mul, Wide.fdiv_neg, Int.neg_neg]
end Lim
end Go.Proofs.Ytgfnfjkajahoaaa
