/- Plain mathematics of layer 20: stamps. It names no program. -/
import Derived.Test.YtgfnfjkajahoaaaM06
namespace Go.Proofs.Ytgfnfjkajahoaaa
namespace Hlc
def less (a b : Int × Int) : Bool := if a.1 = b.1 then decide (a.2 < b.2) else decide (a.1 < b.1)
def right (s : Int × Int) : Bool := decide (Sat.clip s.1 = s.1) && decide (0 ≤ s.2 ∧ s.2 ≤ 1073741824)
def next (s : Int × Int) : Int × Int := if 1073741824 ≤ s.2 then (Sat.sum [s.1, 1], 0) else (Sat.clip s.1, if 0 < s.2 then s.2 + 1 else 1)
def tick (c : Int × Int) (now : Int) : Int × Int := if c.1 < Sat.clip now then (Sat.clip now, 0) else next c
def best2 (a b : Int × Int) : Int × Int := if less a b = true then b else a
def hear (c : Int × Int) (now : Int) (s : Int × Int) (most : Int) : (Int × Int) × Bool := if right s = true ∧ s.1 ≤ most then (next (best2 (best2 c s) (Sat.clip now, -1)), true) else (tick c now, false)
theorem less_iff (a b : Int × Int) : less a b = true ↔ a.1 < b.1 ∨ a.1 = b.1 ∧ a.2 < b.2 := by
  unfold less
  by_cases h : a.1 = b.1
  · rw [if_pos h]; simp; omega
  · rw [if_neg h]; simp; omega
theorem clip_fix {x : Int} : Sat.clip x = x ↔ -2305843009213693952 ≤ x ∧ x ≤ 2305843009213693952 := by
  constructor
  · intro h; have := Sat.clip_bd x; omega
  · intro h; exact Sat.clip_in h.1 h.2
theorem right_iff (s : Int × Int) : right s = true ↔ (-2305843009213693952 ≤ s.1 ∧ s.1 ≤ 2305843009213693952) ∧ 0 ≤ s.2 ∧ s.2 ≤ 1073741824 := by
  unfold right
  rw [Bool.and_eq_true, decide_eq_true_iff, decide_eq_true_iff, clip_fix]
/-- The next one, where nothing is clipped: of a number from -1 on. -/
theorem next_in {s : Int × Int} (h1 : -2305843009213693952 ≤ s.1 ∧ s.1 < 2305843009213693952) (h2 : -1 ≤ s.2 ∧ s.2 ≤ 1073741824) :
    next s = if s.2 = 1073741824 then (s.1 + 1, 0) else (s.1, if 0 < s.2 then s.2 + 1 else 1) := by
  unfold next
  by_cases c : s.2 = 1073741824
  · rw [if_pos (by omega), if_pos c, Lim.sum2, Sat.clip_in (x := s.1) (by omega) (by omega), show Sat.clip (1 : Int) = 1 from by decide, Sat.clip_in (by omega) (by omega)]
  · rw [if_neg (by omega), if_neg c, Sat.clip_in (by omega) (by omega)]
theorem next_less {s : Int × Int} (h1 : -2305843009213693952 ≤ s.1 ∧ s.1 < 2305843009213693952) (h2 : -1 ≤ s.2 ∧ s.2 ≤ 1073741824) : less s (next s) = true ∧ right (next s) = true ∧ s.1 ≤ (next s).1 ∧ (next s).1 ≤ s.1 + (if s.2 = 1073741824 then 1 else 0) := by
  rw [less_iff, right_iff, next_in h1 h2]
  by_cases c : s.2 = 1073741824
  · simp only [c, if_true]; omega
  · simp only [c, if_false]
    by_cases d : 0 < s.2
    · simp only [d, if_true, true_and]; omega
    · simp only [d, if_false, true_and]; omega
theorem less_trans {a b c : Int × Int} (h : less a b = true) (g : less b c = true) : less a c = true := by
  rw [less_iff] at *; omega
theorem best2_or (a b : Int × Int) : best2 a b = a ∨ best2 a b = b := by unfold best2; split <;> simp
theorem best2_le (a b : Int × Int) : less (best2 a b) a = false ∧ less (best2 a b) b = false := by
  have key : ∀ x y : Int × Int, less x y = false ↔ ¬ (x.1 < y.1 ∨ x.1 = y.1 ∧ x.2 < y.2) := fun x y => by rw [← less_iff]; simp
  unfold best2
  by_cases h : less a b = true
  · rw [if_pos h, key, key]; rw [less_iff] at h; omega
  · rw [if_neg h, key, key]; rw [less_iff] at h; omega
theorem tick_in {c : Int × Int} {now : Int} (hc : right c = true) (h1 : c.1 < 2305843009213693952) (hn : -2305843009213693952 ≤ now ∧ now < 2305843009213693952) :
    less c (tick c now) = true ∧ right (tick c now) = true ∧ now ≤ (tick c now).1 ∧ ∀ T, c.1 ≤ T → now ≤ T → (tick c now).1 ≤ T + (if c.2 = 1073741824 then 1 else 0) := by
  rw [right_iff] at hc
  unfold tick
  rw [Sat.clip_in (x := now) (by omega) (by omega)]
  by_cases g : c.1 < now
  · rw [if_pos g, less_iff, right_iff]
    refine ⟨by simp only; omega, by simp only; omega, Int.le_refl _, fun T h2 h3 => ?_⟩
    simp only; split <;> omega
  · rw [if_neg g]
    obtain ⟨a1, a2, a3, a4⟩ := next_less (s := c) (by omega) (by omega)
    refine ⟨a1, a2, by omega, fun T h2 h3 => ?_⟩
    split at a4 <;> omega
theorem hear_in {c : Int × Int} {now : Int} {s : Int × Int} (hc : right c = true) (h1 : c.1 < 2305843009213693952) (hn : -2305843009213693952 ≤ now ∧ now < 2305843009213693952) (hs : right s = true) (h2 : s.1 < 2305843009213693952) :
    let x := next (best2 (best2 c s) (Sat.clip now, -1))
    less c x = true ∧ less s x = true ∧ right x = true ∧ now ≤ x.1 ∧ (∀ T, c.1 ≤ T → now ≤ T → s.1 ≤ T → x.1 ≤ T + (if c.2 = 1073741824 ∨ s.2 = 1073741824 then 1 else 0)) ∧ less x (tick c now) = false := by
  rw [Sat.clip_in (x := now) (by omega) (by omega)]
  have hc' := (right_iff c).1 hc
  have hs' := (right_iff s).1 hs
  have key : ∀ x y : Int × Int, less x y = false ↔ ¬ (x.1 < y.1 ∨ x.1 = y.1 ∧ x.2 < y.2) := fun x y => by rw [← less_iff]; simp
  obtain ⟨b1, b2⟩ := best2_le c s
  obtain ⟨b3, b4⟩ := best2_le (best2 c s) (now, -1)
  have o1 := best2_or c s
  have o2 := best2_or (best2 c s) (now, -1)
  generalize hb : best2 (best2 c s) (now, -1) = b at *
  generalize best2 c s = d at *
  rw [key] at b1 b2 b3 b4
  have hbd : (-2305843009213693952 ≤ b.1 ∧ b.1 < 2305843009213693952) ∧ -1 ≤ b.2 ∧ b.2 ≤ 1073741824 ∧ (∀ T, c.1 ≤ T → now ≤ T → s.1 ≤ T → b.1 ≤ T) ∧ (b.2 = 1073741824 → c.2 = 1073741824 ∨ s.2 = 1073741824) := by
    rcases o2 with rfl | rfl
    · rcases o1 with rfl | rfl
      · exact ⟨by omega, by omega, by omega, fun T a _ _ => a, fun g => .inl g⟩
      · exact ⟨by omega, by omega, by omega, fun T _ _ a => a, fun g => .inr g⟩
    · exact ⟨hn, by simp, by simp, fun T _ a _ => a, fun g => by simp at g⟩
  obtain ⟨q1, q2, q3, q4, q5⟩ := hbd
  obtain ⟨a1, a2, a3, a4⟩ := next_less (s := b) q1 ⟨q2, q3⟩
  have a1' := (less_iff _ _).1 a1
  simp only at b4
  refine ⟨?_, ?_, a2, by omega, ?_, ?_⟩
  · rw [less_iff]; omega
  · rw [less_iff]; omega
  · intro T t1 t2 t3
    have := q4 T t1 t2 t3
    split at a4
    · rename_i g; rw [if_pos (q5 g)]; omega
    · split <;> omega
  · rw [key]
    unfold tick
    rw [Sat.clip_in (x := now) (by omega) (by omega)]
    have hr := (right_iff _).1 a2
    by_cases g : c.1 < now
    · rw [if_pos g]; simp only; omega
    · rw [if_neg g, next_in (s := c) (by omega) (by omega)]
      rw [next_in q1 ⟨q2, q3⟩] at a1' ⊢
      by_cases cb : b.2 = 1073741824 <;> by_cases db : 0 < b.2 <;> by_cases cc : c.2 = 1073741824 <;> by_cases dc : 0 < c.2
      all_goals
        simp only [cb, db, cc, dc, if_true, if_false, Int.reduceLT, true_and, and_true, and_false, or_false] at a1' ⊢
        omega
end Hlc
end Go.Proofs.Ytgfnfjkajahoaaa
