/- Plain mathematics of layer 20, more: stamps along a chain of things that happen, where times aren't beyond 2^60 and numbers are small. It names no program. -/
import Derived.Test.YtgfnfjkajahoaaaM16
namespace Go.Proofs.Ytgfnfjkajahoaaa
namespace Hlc
/-- A stamp that stands behind at most k things. -/
structure Wf (k : Nat) (s : Int × Int) : Prop where
  t : -1152921504606846976 ≤ s.1 ∧ s.1 ≤ 1152921504606846976
  n : 0 ≤ s.2 ∧ s.2 ≤ k
theorem Wf.right {k : Nat} {s : Int × Int} (h : Wf k s) (hk : k ≤ 1000) : right s = true := by
  rw [right_iff]
  have := h.t; have := h.n
  omega
theorem Wf.mono {j k : Nat} {s : Int × Int} (h : Wf j s) (hjk : j ≤ k) : Wf k s := ⟨h.t, by have := h.n; omega⟩
theorem wf_start {x : Int} (h : -1152921504606846976 ≤ x ∧ x ≤ 1152921504606846976) : Wf 0 (x, 0) := ⟨h, by simp⟩
theorem next_wf {k : Nat} {s : Int × Int} (hk : k ≤ 1000) (h1 : -1152921504606846976 ≤ s.1 ∧ s.1 ≤ 1152921504606846976) (h2 : -1 ≤ s.2 ∧ s.2 ≤ k) : Wf (k + 1) (next s) := by
  rw [next_in ⟨by omega, by omega⟩ ⟨h2.1, by omega⟩, if_neg (by omega)]
  by_cases d : 0 < s.2
  · rw [if_pos d]; exact ⟨h1, by simp only; omega⟩
  · rw [if_neg d]; exact ⟨h1, by simp only; omega⟩
/-- Something happens. -/
theorem tick_wf {k : Nat} {c : Int × Int} {now : Int} (hk : k ≤ 1000) (hc : Wf k c) (hn : -1152921504606846976 ≤ now ∧ now ≤ 1152921504606846976) : Wf (k + 1) (tick c now) ∧ less c (tick c now) = true := by
  have h1 := hc.t
  have h2 := hc.n
  obtain ⟨a, -⟩ := tick_in (hc.right hk) (by omega) (now := now) ⟨by omega, by omega⟩
  refine ⟨?_, a⟩
  unfold tick
  rw [Sat.clip_in (x := now) (by omega) (by omega)]
  by_cases g : c.1 < now
  · rw [if_pos g]; exact ⟨hn, by simp only; omega⟩
  · rw [if_neg g]; exact next_wf hk h1 ⟨by omega, h2.2⟩
/-- A message is heard. -/
theorem hear_wf {k : Nat} {c : Int × Int} {now : Int} {s : Int × Int} (hk : k ≤ 1000) (hc : Wf k c) (hs : Wf k s) (hn : -1152921504606846976 ≤ now ∧ now ≤ 1152921504606846976) :
    Wf (k + 1) (hear c now s 1152921504606846976).1 ∧ less c (hear c now s 1152921504606846976).1 = true ∧ less s (hear c now s 1152921504606846976).1 = true := by
  have h1 := hc.t
  have h2 := hc.n
  have h3 := hs.t
  have h4 := hs.n
  obtain ⟨a, b, -⟩ := hear_in (hc.right hk) (by omega) (now := now) ⟨by omega, by omega⟩ (hs.right hk) (by omega)
  have e : hear c now s 1152921504606846976 = (next (best2 (best2 c s) (Sat.clip now, -1)), true) := by
    unfold hear
    rw [if_pos ⟨hs.right hk, h3.2⟩]
  rw [e]
  refine ⟨?_, a, b⟩
  rw [Sat.clip_in (x := now) (by omega) (by omega)]
  rcases best2_or (best2 c s) (now, -1) with g | g
  · rcases best2_or c s with g2 | g2
    · rw [g, g2]; exact next_wf hk h1 ⟨by omega, h2.2⟩
    · rw [g, g2]; exact next_wf hk h3 ⟨by omega, h4.2⟩
  · rw [g]; exact next_wf (s := (now, -1)) hk hn ⟨by simp, by simp only; omega⟩
/-- The node that a number names. -/
def node (a : Int) : Nat := (a % 8).toNat
theorem node_lt (a : Int) : node a < 8 := by unfold node; omega
theorem node_mod (a : Int) : (a % 18446744073709551616) % 8 = (node a : Int) := by unfold node; omega
end Hlc
end Go.Proofs.Ytgfnfjkajahoaaa
