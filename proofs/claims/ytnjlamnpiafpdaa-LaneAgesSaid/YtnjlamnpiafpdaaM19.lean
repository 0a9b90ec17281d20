/- Plain mathematics of layer 8: a script of pushes; ages. It names no program. -/
import Derived.Test.YtnjlamnpiafpdaaM18
import Derived.Test.YtnjlamnpiafpdaaW21
namespace Go.Proofs.Ytnjlamnpiafpdaa
namespace Lane
theorem total_bd {q : Nat → List (ByteArray × Int)} (h : ∀ k, (q k).length ≤ 64) : ∀ n, total q n ≤ n * 64
  | 0 => Nat.le_refl _
  | n + 1 => by
    unfold total
    have := total_bd h n
    have := h n
    omega
theorem Good.bd {N : Int} {L : List It} (h : Good N L) (n : Nat) : Lane.total (fun k => row L k) n ≤ n * 64 := total_bd (fun k => h.short k) n
theorem Good.small {N : Int} {L : List It} (h : Good N L) : L.length ≤ 3072 := by
  rw [← h.total]
  exact h.bd 48
/-- All are older by i. -/
def up (i : Int) (L : List It) : List It := L.map fun x => { x with age := x.age + i }
theorem up_zero (L : List It) : up 0 L = L := by
  unfold up
  conv => rhs; rw [← List.map_id L]
  apply List.map_congr_left
  intro x _
  simp
theorem up_length (i : Int) (L : List It) : (up i L).length = L.length := by simp [up]
theorem tick_up {n i : Int} {L : List It} (h0 : ∀ x ∈ L, x.age = 0) (hi : i + 1 ≤ n) : tick n (up i L) = up (i + 1) L := by
  unfold tick up
  rw [List.map_map, List.filter_eq_self.2]
  · apply List.map_congr_left
    intro x _
    simp [Int.add_assoc]
  · intro y hy
    obtain ⟨x, hx, rfl⟩ := List.mem_map.1 hy
    simp [h0 x hx]; omega
theorem tick_end {n i : Int} {L : List It} (h0 : ∀ x ∈ L, x.age = 0) (hi : n < i + 1) : tick n (up i L) = [] := by
  unfold tick up
  rw [List.map_map, List.filter_eq_nil_iff]
  intro y hy
  obtain ⟨x, hx, rfl⟩ := List.mem_map.1 hy
  simp [h0 x hx]; omega
/-- What waits behind i Ticks of n. -/
def behind (n : Int) (L : List It) (i : Nat) : List It := if (i : Int) ≤ n then up i L else []
/-- How many are gone behind i Ticks of n. -/
def lost (n : Int) (L : List It) (i : Nat) : Nat := if (i : Int) ≤ n then 0 else L.length
theorem behind_zero {n : Int} (hn : 0 ≤ n) (L : List It) : behind n L 0 = L := by unfold behind; rw [if_pos (by simpa using hn)]; exact up_zero L
theorem behind_next {n : Int} {L : List It} (h0 : ∀ x ∈ L, x.age = 0) {i : Nat} (hi : (i : Int) ≤ n) : tick n (behind n L i) = behind n L (i + 1) := by
  unfold behind
  rw [if_pos hi]
  by_cases h : ((i + 1 : Nat) : Int) ≤ n
  · rw [if_pos h, tick_up h0 (by omega)]; rfl
  · rw [if_neg h, tick_end h0 (by omega)]
theorem lost_next {n : Int} {L : List It} (h0 : ∀ x ∈ L, x.age = 0) {i : Nat} (hi : (i : Int) ≤ n) : lost n L i + ((behind n L i).length - (tick n (behind n L i)).length) = lost n L (i + 1) := by
  rw [behind_next h0 hi]
  unfold lost behind
  rw [if_pos hi, if_pos hi, up_length]
  by_cases h : ((i + 1 : Nat) : Int) ≤ n
  · rw [if_pos h, if_pos h, up_length]; omega
  · rw [if_neg h, if_neg h]; simp
theorem behind_good {n : Int} {L : List It} (hn : 0 ≤ n) (h0 : ∀ x ∈ L, x.age = 0) (hG : Good 0 L) : ∀ i : Nat, (i : Int) ≤ n + 1 → Good i (behind n L i)
  | 0, _ => by rw [behind_zero hn]; exact hG
  | i + 1, h => by
    rw [← behind_next h0 (by omega)]
    have := (behind_good hn h0 hG i (by omega)).tick n
    simpa using this
/-- A call that pushes. -/
def step (L : List It) (c : Cal) : List It := if c.k = 0 then pushL L c.a c.s else L
def play (l : List Cal) : List It := l.foldl step []
theorem play_more {l : List Cal} {k : Nat} (hk : k < l.length) : play (l.take (k + 1)) = step (play (l.take k)) l[k] := by
  rw [take_more hk]
  unfold play
  rw [List.foldl_append]
  rfl
theorem step_good {N : Int} (hN : 0 ≤ N) {L : List It} (h : Good N L) (c : Cal) : Good N (step L c) := by
  unfold step
  split
  · exact h.push hN _ _
  · exact h
theorem fold_good {N : Int} (hN : 0 ≤ N) : ∀ (l : List Cal) (L : List It), Good N L → Good N (l.foldl step L)
  | [], _, h => h
  | c :: l, L, h => by
    rw [List.foldl_cons]
    exact fold_good hN l _ (step_good hN h c)
theorem play_good (l : List Cal) : Good 0 (play l) := fold_good (Int.le_refl 0) l [] (Good.nil 0)
theorem Good.fresh {L : List It} (h : Good 0 L) : ∀ x ∈ L, x.age = 0 := fun x hx => by have := h.age x hx; omega
end Lane
end Go.Proofs.Ytnjlamnpiafpdaa
