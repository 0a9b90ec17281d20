/- Plain mathematics of layer 16: what a reference's reading tells, what becomes of it by a message, and what is fused of that, whoever lies. It names no program. -/
import Derived.Test.YtlbijepejihjgaaM12
import Derived.Test.YtlbijepejihjgaaM14
namespace Go.Proofs.Ytlbijepejihjgaa
/-- Fused of spans, of which more than twice f are right in some way (r): one of these begins at or ahead of it, and ends at or behind it. -/
theorem Trim.fuse_by {f : Nat} {l : List (Int × Int)} {lo hi x : Int} (hf : f < l.length) (hlo : Trim.PickMost f (l.map (·.1)) lo) (hhi : Trim.Pick f (l.map (·.2)) hi) (hx : l.countP (fun s => !decide (s.1 ≤ x ∧ x ≤ s.2)) ≤ f) (r : Int × Int → Bool) (hr : 2 * f + 1 ≤ l.countP r) :
    lo ≤ x ∧ x ≤ hi ∧ ∃ s ∈ l, r s = true ∧ s.1 ≤ lo ∧ hi ≤ s.2 := by
  obtain ⟨h1, h2, -⟩ := Trim.fuse_holds hf hlo hhi hx
  have a1 := (Trim.most_above (by simpa using hf) hlo).1
  have a2 := hhi.2.1
  unfold Trim.lt at a2
  rw [List.countP_map] at a1 a2
  obtain ⟨s, hs, k1, k2, k3⟩ := Trim.both (p := fun s => decide (s.1 ≤ lo)) (q := fun s : Int × Int => decide (hi ≤ s.2)) (r := r) (l := l) (m := f) (n := f)
    (Nat.le_trans (Trim.countP_mono fun s _ hs => by simp at *; omega) a1) (Nat.le_trans (Trim.countP_mono fun s _ hs => by simp at *; omega) a2) (by omega)
  exact ⟨h1, h2, s, hs, k1, by simpa using k2, by simpa using k3⟩
/-- What a gateway sees, and how what it tells is carried. -/
structure Tld where
  err : Int
  way : Int
  off : Int
namespace Anchor
/-- Whether it is a reading, of an error that may be. -/
def is (p : Par) (x : Int) : Bool := decide (0 ≤ p.eps ∧ -1152921504606846976 ≤ x ∧ x ≤ 1152921504606846976)
def seen (p : Par) (x : Int) : Int × Int := if is p x = true then (Sat.sub x p.eps, Sat.sum [x, p.eps]) else (0, 0)
def more (h : Int) : Int := Sat.bound (Sat.sum [h, 1]) 0 1073741824
def held (f : Int) (l : List Int) : Int := if Trim.is f l.length = true then more (Trim.val f l) else 1073741824
theorem abs_le (x : Int) : Sat.abs x ≤ 1152921504606846976 ↔ -1152921504606846976 ≤ x ∧ x ≤ 1152921504606846976 := by
  unfold Sat.abs Sat.clip
  by_cases h1 : 2305843009213693952 < x
  · rw [if_pos h1]; omega
  · rw [if_neg h1]
    by_cases h2 : x < -2305843009213693952
    · rw [if_pos h2]; omega
    · rw [if_neg h2]; omega
theorem more_in {v : Int} (h : 0 ≤ v ∧ v ≤ 536870912) : more v = v + 1 := by
  unfold more
  rw [Lim.sum2_in (by omega) (by omega) (by omega)]
  unfold Sat.bound
  rw [if_neg (by omega), if_neg (by omega)]
/-- What becomes of what is seen. -/
def carried (p : Par) (now : Int) (t : Tld) : Int × Int := Carry.way p (seen p (now + t.err)) (p.beat - t.way + t.off)
def Fine (p : Par) (t : Tld) : Prop := (-p.eps ≤ t.err ∧ t.err ≤ p.eps) ∧ (p.delay - p.jit ≤ t.way ∧ t.way ≤ p.delay) ∧ -p.rho ≤ t.off ∧ t.off ≤ p.rho
theorem seen_in {p : Par} (h : Lim.May p) {x : Int} (hx : -1152921504606846976 ≤ x ∧ x ≤ 1152921504606846976) : is p x = true ∧ seen p x = (x - p.eps, x + p.eps) := by
  obtain ⟨b1, r1, d1, j1, e1⟩ := Lim.May.bds h
  have hi : is p x = true := decide_eq_true ⟨e1.1, hx⟩
  refine ⟨hi, ?_⟩
  unfold seen
  rw [if_pos hi, Lim.sub_in (by omega) (by omega) (by omega), Lim.sum2_in (by omega) (by omega) (by omega)]
/-- Right: it has the time, and isn't too wide. -/
def right (x W : Int) (s : Int × Int) : Bool := decide ((s.1 ≤ x ∧ x ≤ s.2) ∧ s.2 - s.1 ≤ W ∧ -2305843009213693952 ≤ s.1 ∧ s.2 ≤ 2305843009213693952)
theorem carried_right {p : Par} (h : Lim.May p) {now : Int} (hn : -576460752303423488 ≤ now ∧ now ≤ 576460752303423488) {t : Tld} (ht : Fine p t) : right (now + p.beat) (2 * p.eps + Lim.hop p) (carried p now t) = true := by
  obtain ⟨b1, r1, d1, j1, e1⟩ := Lim.May.bds h
  obtain ⟨t1, t2, t3⟩ := ht
  obtain ⟨-, hs⟩ := seen_in h (x := now + t.err) (by omega)
  unfold carried
  rw [hs]
  have hb := Carry.brings h (s := (now + t.err - p.eps, now + t.err + p.eps)) (now := now) (age := p.beat - t.way + t.off) (by omega) (by simp only; omega) (by simp only; omega) (by omega)
  have hw := Carry.way_in h (now + t.err - p.eps, now + t.err + p.eps) (n := p.beat - t.way + t.off) (by omega)
  rw [Sat.clip_in (x := (now + t.err - p.eps, now + t.err + p.eps).1) (by simp only; omega) (by simp only; omega), Sat.clip_in (x := (now + t.err - p.eps, now + t.err + p.eps).2) (by simp only; omega) (by simp only; omega),
    Sat.clip_in (x := (now + t.err - p.eps, now + t.err + p.eps).1 + _) (by simp only; omega) (by simp only; omega), Sat.clip_in (x := (now + t.err - p.eps, now + t.err + p.eps).2 + _) (by simp only; omega) (by simp only; omega)] at hw
  rw [hw] at hb ⊢
  rw [Lim.hop_in (Lim.May.small h)]
  simp only at hb
  exact decide_eq_true ⟨hb, by simp only; omega, by simp only; omega, by simp only; omega⟩
theorem all_right {p : Par} (h : Lim.May p) {now : Int} (hn : -576460752303423488 ≤ now ∧ now ≤ 576460752303423488) {l : List Tld} (hl : ∀ t ∈ l, Fine p t) : ∀ s ∈ l.map (carried p now), right (now + p.beat) (2 * p.eps + Lim.hop p) s = true := by
  intro s hs
  obtain ⟨t, ht, rfl⟩ := List.mem_map.1 hs
  exact carried_right h hn (hl t ht)
end Anchor
end Go.Proofs.Ytlbijepejihjgaa
