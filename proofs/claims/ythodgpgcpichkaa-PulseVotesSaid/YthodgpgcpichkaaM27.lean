/- Plain mathematics of layer 13: the vote is from the number of one time to that of another. It names no program. -/
import Derived.Test.YthodgpgcpichkaaM26
import Derived.Test.YthodgpgcpichkaaM12
namespace Go.Proofs.Ythodgpgcpichkaa
namespace Pulse
def out (lo hi : Int) (y : Int) : Bool := decide (y < lo ∨ hi < y)
theorem amid {f : Nat} {l : List Int} {lo hi : Int} (hlo : -2305843009213693952 ≤ lo) (hhi : hi ≤ 2305843009213693952) (hl : 2 * f + 1 ≤ l.length) (hc : l.countP (out lo hi) ≤ f) :
    lo ≤ Trim.mid f l Sat.clip ∧ Trim.mid f l Sat.clip ≤ hi := by
  have hm : Trim.many f l.length = true := decide_eq_true (by omega)
  have h1 : Trim.Pick f l (Trim.val f l) := by
    have := Trim.val_pick (k := (f : Int)) (l := l) (by omega)
    rwa [Int.toNat_natCast] at this
  have h2 : Trim.PickMost f l (Trim.val ((l.length : Int) - 1 - f) l) := by
    unfold Trim.PickMost
    have := Trim.val_pick (k := (l.length : Int) - 1 - f) (l := l) (by omega)
    rwa [show ((l.length : Int) - 1 - f).toNat = l.length - 1 - f by omega] at this
  have e : l.countP (fun y => !decide (lo ≤ y ∧ y ≤ hi)) = l.countP (out lo hi) := by
    congr 1
    funext y
    unfold out
    by_cases a : lo ≤ y <;> by_cases b : y ≤ hi <;> simp [a, b] <;> omega
  obtain ⟨⟨a1, a2⟩, b1, b2⟩ := Trim.between hl h1 h2 (by rw [e]; exact hc)
  unfold Trim.mid
  rw [if_pos hm, Sat.clip_in (by omega) (by omega), Sat.clip_in (by omega) (by omega)]
  omega
/-- The vote of the numbers of times, and of f at most that lie. -/
theorem voted {q f lo hi : Int} {ts ls : List Int} (ht : ∀ t ∈ ts, lo ≤ t ∧ t ≤ hi) (hf : (ls.length : Int) ≤ f) (hm : Trim.many f (ts.map (num q) ++ ls).length = true) :
    num q lo ≤ Trim.mid f (ts.map (num q) ++ ls) Sat.clip ∧ Trim.mid f (ts.map (num q) ++ ls) Sat.clip ≤ num q hi := by
  obtain ⟨n, rfl⟩ : ∃ n : Nat, f = n := ⟨f.toNat, by omega⟩
  have hm2 : 0 ≤ (n : Int) ∧ (n : Int) < ((ts.map (num q) ++ ls).length : Int) - n := of_decide_eq_true hm
  refine amid (num_bd q lo).1 (num_bd q hi).2 (by omega) ?_
  have h0 : (ts.map (num q)).countP (out (num q lo) (num q hi)) = 0 := by
    rw [List.countP_eq_zero]
    intro y hy
    obtain ⟨t, htm, rfl⟩ := List.mem_map.1 hy
    obtain ⟨a, b⟩ := ht t htm
    have h1 := num_mono (q := q) a
    have h2 := num_mono (q := q) b
    simp [out]
    omega
  have h1 : ls.countP (out (num q lo) (num q hi)) ≤ ls.length := List.countP_le_length
  rw [List.countP_append, h0]
  omega
end Pulse
end Go.Proofs.Ythodgpgcpichkaa
