/- Contracts of layer 8: the program's Lanes. -/
import Derived.Test.YtnjlamnpiafpdaaC08b
import Derived.Test.YtnjlamnpiafpdaaC08c
import Derived.Test.YtnjlamnpiafpdaaC08n
namespace Go.Proofs.Ytnjlamnpiafpdaa
open Go.RowKit
set_option maxRecDepth 100000
theorem lanesRow (g k : Nat) (w : World) (hk : k < 48) : Calls Try.prog 20 #[.pointer (some ⟨g, 0, none⟩), .int .i64 (k : Nat)] w fun e w' => e = .returned (.pointer (some ⟨g, k * 130, none⟩)) ∧ w = w' := by
  go_enter Try.func20, Try.ntmps20
  go_wp2
  go_ret
  exact ⟨by simp, rfl⟩
theorem lanesRowNobody (g : Nat) (k : Int) (w : World) (hk : k < 0 ∨ 48 ≤ k) : Calls Try.prog 20 #[.pointer (some ⟨g, 0, none⟩), .int .i64 k] w fun e w' => e = .returned (.pointer none) ∧ w = w' := by
  by_cases h : k < 0
  · go_enter Try.func20, Try.ntmps20
    go_wp2
    go_ret
    exact ⟨rfl, rfl⟩
  · have h48 : 48 ≤ k := by omega
    clear hk
    go_enter Try.func20, Try.ntmps20
    go_wp2
    go_ret
    exact ⟨rfl, rfl⟩
theorem lanesRowNil (k : Int) (w : World) : Calls Try.prog 20 #[.pointer none, .int .i64 k] w fun e w' => e = .returned (.pointer none) ∧ w = w' := by
  go_enter Try.func20, Try.ntmps20
  go_wp2
  go_ret
  exact ⟨rfl, rfl⟩
end Go.Proofs.Ytnjlamnpiafpdaa
