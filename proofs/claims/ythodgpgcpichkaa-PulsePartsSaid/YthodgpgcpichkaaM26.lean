/- Plain mathematics of layer 13: pulses and their numbers. It names no program. -/
import Derived.Test.YthodgpgcpichkaaM02
namespace Go.Proofs.Ythodgpgcpichkaa
namespace Pulse
/-- The number of a time's pulse, and the ticks since it began (q: a pulse's ticks). -/
def num (q t : Int) : Int := Sat.clip t / Wide.one q
def ph (q t : Int) : Int := Sat.clip t % Wide.one q
theorem num_bd (q t : Int) : -2305843009213693952 ≤ num q t ∧ num q t ≤ 2305843009213693952 := by
  have hc := Sat.clip_bd t
  have hq := (Wide.one_bd q).1
  unfold num
  constructor
  · rw [Int.le_ediv_iff_mul_le (by omega)]
    have := Int.mul_le_mul_of_nonneg_left hq (show (0 : Int) ≤ 2305843009213693952 by omega)
    omega
  · rw [Int.ediv_le_iff_le_mul (by omega)]
    have := Int.mul_le_mul_of_nonneg_left hq (show (0 : Int) ≤ 2305843009213693952 by omega)
    omega
theorem num_mono {q a b : Int} (h : a ≤ b) : num q a ≤ num q b :=
  Int.ediv_le_ediv (by have := (Wide.one_bd q).1; omega) (Sat.clip_mono h)
theorem ph_bd (q t : Int) : 0 ≤ ph q t ∧ ph q t < Wide.one q := by
  have hq := (Wide.one_bd q).1
  exact ⟨Int.emod_nonneg _ (by omega), Int.emod_lt_of_pos _ (by omega)⟩
theorem num_ph (q t : Int) : num q t * Wide.one q + ph q t = Sat.clip t := by
  unfold num ph
  rw [Int.mul_comm]
  exact Int.mul_ediv_add_emod _ _
/-- n numbers above x. -/
def above (x : Int) (n : Nat) : List Int := (List.range n).map fun i : Nat => x + 1 + (i : Int)
theorem above_length (x : Int) (n : Nat) : (above x n).length = n := by simp [above]
theorem above_zero (x : Int) : above x 0 = [] := rfl
theorem above_succ (x : Int) (n : Nat) : above x (n + 1) = above x n ++ [x + 1 + n] := by simp [above, List.range_succ]
theorem above_at {x : Int} {n k : Nat} (h : k < (above x n).length) : (above x n)[k] = x + 1 + k := by simp [above]
theorem above_add (x : Int) (n m : Nat) : above x (n + m) = above x n ++ above (x + n) m := by
  induction m with
  | zero => simp [above_zero]
  | succ m ih =>
    rw [← Nat.add_assoc, above_succ, ih, above_succ, List.append_assoc]
    congr 3
    omega
/-- How many fire. -/
def count (q a b most : Int) : Nat := (min most (num q b - num q a)).toNat
/-- What fires. -/
def fired (q a b most : Int) : List Int := above (num q a) (count q a b most)
theorem fired_length (q a b most : Int) : (fired q a b most).length = count q a b most := above_length _ _
/-- What fires up to a time between, and then from there. -/
theorem fired_parts {q a b c m : Int} (hab : a ≤ b) (hbc : b ≤ c) (h1 : count q a b m ≠ m.toNat) (h2 : count q a b m + count q b c m ≤ m.toNat) (h3 : count q b c m ≠ m.toNat) :
    fired q a c m = fired q a b m ++ fired q b c m := by
  have n1 := num_mono (q := q) hab
  have n2 := num_mono (q := q) hbc
  unfold fired
  unfold count at h1 h2 h3 ⊢
  generalize num q a = x at *
  generalize num q b = y at *
  generalize num q c = z at *
  obtain ⟨i, hi⟩ : ∃ i, (min m (y - x)).toNat = i := ⟨_, rfl⟩
  obtain ⟨j, hj⟩ : ∃ j, (min m (z - y)).toNat = j := ⟨_, rfl⟩
  rw [hi] at h1 h2 ⊢
  rw [hj] at h2 h3 ⊢
  have e : (min m (z - x)).toNat = i + j := by omega
  rw [e, above_add]
  congr 2
  omega
/-- Times not further from one another than a pulse. -/
theorem near {q a b : Int} (hq : 1 ≤ q) (ha : -1152921504606846976 ≤ a) (hab : a ≤ b) (hb : b ≤ 1152921504606846976) (hn : b - a ≤ q) :
    (0 ≤ num q b - num q a ∧ num q b - num q a ≤ 1) ∧ Sat.mul (num q a) (Wide.one q) + ph q a = a := by
  have n1 := num_mono (q := q) hab
  have e1 := num_ph q a
  have e2 := num_ph q b
  have p1 := ph_bd q a
  have p2 := ph_bd q b
  rw [Sat.clip_in (by omega) (by omega)] at e1 e2
  have ho := Wide.one_bd q
  have h1 : b - a ≤ Wide.one q := by
    unfold Wide.one
    by_cases h : q ≤ 2305843009213693952
    · rw [Sat.clip_in (by omega) h, if_neg (by omega)]; exact hn
    · rw [Sat.clip_hi (by omega)]; simp; omega
  have hbd := num_bd q a
  generalize hO : Wide.one q = o at *
  generalize num q a = x at *
  generalize num q b = y at *
  generalize ph q a = r at *
  generalize ph q b = s at *
  have hy : y - x ≤ 1 := by
    apply Classical.byContradiction
    intro h
    have := Int.mul_le_mul_of_nonneg_right (show x + 2 ≤ y by omega) (show 0 ≤ o by omega)
    rw [Int.add_mul] at this
    omega
  refine ⟨⟨by omega, hy⟩, ?_⟩
  have hx : -2305843009213693952 ≤ x * o := by
    by_cases h : o ≤ 1152921504606846976
    · omega
    · apply Classical.byContradiction
      intro h'
      have hx2 : x ≤ -2 := by
        apply Classical.byContradiction
        intro h2
        have := Int.mul_le_mul_of_nonneg_right (show -1 ≤ x by omega) (show 0 ≤ o by omega)
        omega
      have := Int.mul_le_mul_of_nonneg_right hx2 (show 0 ≤ o by omega)
      omega
  unfold Sat.mul
  rw [Sat.clip_in (x := x) hbd.1 hbd.2, Sat.clip_in (x := o) (by omega) ho.2, Sat.clip_in hx (by omega)]
  exact e1
theorem near_fired {q a b : Int} (h : 0 ≤ num q b - num q a ∧ num q b - num q a ≤ 1) : fired q a b 5 = if num q b = num q a then [] else [num q b] := by
  unfold fired count
  by_cases e : num q b = num q a
  · rw [if_pos e, show (min 5 (num q b - num q a)).toNat = 0 by omega]; rfl
  · rw [if_neg e, show (min 5 (num q b - num q a)).toNat = 0 + 1 by omega, above_succ, above_zero, List.nil_append]
    congr 1
    omega
end Pulse
end Go.Proofs.Ythodgpgcpichkaa
