/- Contracts of layer 8: the law's great. -/
import Derived.Test.YtnjlamnpiafpdaaW21
import Derived.Test.YtnjlamnpiafpdaaW02
namespace Go.Proofs.Ytnjlamnpiafpdaa
open Go.RowKit
set_option maxRecDepth 100000
/-- What great answers: if it says no, there aren't more calls than are played. -/
def GreatEnd (l : List Cal) (w : World) (e : Ending) (w' : World) : Prop := ∃ b : Bool, e = .returned (.bool b) ∧ (b = false → l.length ≤ 400) ∧ Ok w w'
theorem greatEnd_true {l : List Cal} {w w' : World} (h : Ok w w') : GreatEnd l w (.returned (.bool true)) w' := ⟨true, rfl, fun h => (by cases h), h⟩
theorem greatEnd_len {l : List Cal} {w w' : World} (h : Ok w w') : GreatEnd l w (.returned (.bool (decide ((400 : Int) < (l.length : Int))))) w' := ⟨_, rfl, fun h => by have := of_decide_eq_false h; omega, h⟩
set_option maxHeartbeats 1600000 in
theorem laneGreat (A : Option Addr) (l : List Cal) (cap : Nat) (w : World) (hA : CellsAt w A (l.flatMap calcells)) (hl : l.length ≤ 9223372036854775807) :
    Calls Try.prog 8 #[.slice A l.length cap] w (GreatEnd l w) := by
  have HC := Lib.hid hA
  have hok := Ok.refl w
  clear hA
  go_enter Try.func8, Try.ntmps8
  go_wp2_with fail
  go_loopw [3, 8] (fun v i wr => ∃ (k : Nat) (n : Int), k ≤ l.length ∧ i = .int .i64 k ∧ v = .int .i64 n ∧ Ok w wr) (fun _ i _ => l.length - (intOf i).toNat)
  case atStart => exact ⟨0, 0, Nat.zero_le _, rfl, rfl, hok⟩
  case round =>
    obtain ⟨k, n, hk, rfl, rfl, hok1⟩ := hrel
    clear hok
    by_cases hlt : k < l.length
    · obtain ⟨b, off, hAe, hb, hc⟩ := (HC.out.below hok1).at callen (by decide) k hlt
      subst hAe
      obtain ⟨x, hx⟩ : ∃ x, l[k] = x := ⟨_, rfl⟩
      rw [hx] at hc
      have c0 := hc 0 _ rfl
      have c1 := hc 1 _ rfl
      have c2 := hc 2 _ rfl
      have c3 := hc 3 _ rfl
      obtain ⟨xk, xa, xb, xs⟩ := x
      simp only [calkinds, List.length_cons, List.length_nil, Nat.zero_add, Nat.reduceAdd, Nat.add_zero] at c0 c1 c2 c3
      clear hc hx hb
      go_wp2_with fail
      · go_ret
        exact greatEnd_true (hok1.alloc _)
      · go_roundw
        case rel => exact ⟨k + 1, _, by omega, by go_num, rfl, hok1.alloc _⟩
        case measure => simp [intOf]; omega
    · go_wp2_with fail
      go_ret
      exact greatEnd_len hok1
end Go.Proofs.Ytnjlamnpiafpdaa
