/- Contracts of layer 8: new lanes. -/
import Derived.Test.YtnjlamnpiafpdaaW22
namespace Go.Proofs.Ytnjlamnpiafpdaa
open Go.RowKit
set_option maxRecDepth 100000
/-- The cells of a ring in which nothing waits. -/
def zeroRow : List Value := (List.replicate 64 [Value.string ⟨#[]⟩, Value.int .i64 0]).flatten ++ [.int .i64 0, .int .i64 0]
def zeroLanes : Array Value := (List.replicate 48 zeroRow).flatten.toArray
theorem zeroL : (Sem.run Try.prog (zeroValue 53) ) = (fun w => .ok (.agg zeroLanes) w) := by
  funext w
  kernel_rfl
theorem flatten_at {α : Type} (r : List α) (n : Nat) (hr : r.length = n) : ∀ (m k j : Nat), k < m → j < n → (List.replicate m r).flatten[k * n + j]? = r[j]?
  | 0, _, _, h, _ => absurd h (Nat.not_lt_zero _)
  | m + 1, 0, j, _, hj => by
    rw [List.replicate_succ, List.flatten_cons, Nat.zero_mul, Nat.zero_add, List.getElem?_append_left (by omega)]
  | m + 1, k + 1, j, h, hj => by
    rw [List.replicate_succ, List.flatten_cons, List.getElem?_append_right (by rw [hr, Nat.add_mul]; omega), hr, show (k + 1) * n + j - n = k * n + j by rw [Nat.add_mul]; omega]
    exact flatten_at r n hr m k j (by omega) hj
theorem zeroRow_length : zeroRow.length = 130 := by decide +kernel
theorem zero_at (w j : Nat) (hw : w < 48) (hj : j < 130) : zeroLanes[w * 130 + j]? = zeroRow[j]? := by
  unfold zeroLanes
  rw [List.getElem?_toArray]
  exact flatten_at zeroRow 130 zeroRow_length 48 w j hw hj
theorem zero_size : zeroLanes.size = 6240 := by unfold zeroLanes; rw [List.size_toArray, List.length_flatten, List.map_replicate, zeroRow_length]; decide +kernel
theorem zero_laid : Laid zeroLanes (fun _ => []) := ⟨zero_size, fun w hw => ⟨0, by decide, by decide, by rw [zero_size]; omega, by rw [zero_at w 128 hw (by decide)]; rfl, by rw [zero_at w 129 hw (by decide)]; rfl, fun i h => absurd h (Nat.not_lt_zero _), fun i h => absurd h (Nat.not_lt_zero _)⟩⟩
theorem laneNew (w : World) : Calls Try.prog 9 #[] w fun e w' => e = .returned (.pointer (some ⟨w.heap.size, 0, none⟩)) ∧ Ok w w' ∧ LanesAt w' w.heap.size (fun _ => []) := by
  have hok := Ok.refl w
  have hz := zeroL
  go_enter Try.func9, Try.ntmps9
  go_wp2
  go_ret
  exact ⟨rfl, hok.alloc _, zeroLanes, Own.new _ _ _ rfl, zero_laid⟩
end Go.Proofs.Ytnjlamnpiafpdaa
