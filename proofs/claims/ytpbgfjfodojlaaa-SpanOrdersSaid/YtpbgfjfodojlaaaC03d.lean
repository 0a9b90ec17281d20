/- Layer 3: what every law asks first. -/
import Derived.Test.YtpbgfjfodojlaaaC03b
namespace Go.Proofs.Ytpbgfjfodojlaaa
open Go.RowKit
set_option maxRecDepth 100000

theorem alive_meet (w : World) (t : TypeId) {b : Nat} (hb : b = w.heap.size) :
    Calls Try.prog 22 #[.slice (some ⟨b, 0, none⟩) 2 2] (w.alloc (.cells #[.int .i64 1, .int .i64 5, .int .i64 4, .int .i64 9] t)) fun e w' => e = .returned (spanV 4 5) ∧ Ok (w.alloc (.cells #[.int .i64 1, .int .i64 5, .int .i64 4, .int .i64 9] t)) w' := by
  have h := spanMeet (some ⟨b, 0, none⟩) [(1, 5), (4, 9)] 2 _ (pairs_new w [(1, 5), (4, 9)] t #[.int .i64 1, .int .i64 5, .int .i64 4, .int .i64 9] rfl hb) (by decide)
  exact h
set_option maxHeartbeats 800000 in
theorem law3Alive (w : World) : Calls Try.prog 21 #[] w fun e w' => e = .returned (.bool true) ∧ Ok w w' := by
  have hok := Ok.refl w
  go_enter Try.func21, Try.ntmps21
  go_wp2_with (first
    | (go_at_call 22; (with_reducible refine (alive_meet _ _ (by simp)).mono ?_); rintro e w1 ⟨rfl, hb1⟩; replace hok := (hok.alloc _).trans hb1; clear hb1)
    | (go_at_call 10; refine (spanAll _).mono ?_; rintro e w2 ⟨rfl, hb1⟩; replace hok := hok.trans hb1; clear hb1)
    | (go_at_call 14; refine (spanHas _ _ _ _).mono ?_; rintro e w3 ⟨rfl, hb1⟩; replace hok := hok.trans hb1; clear hb1))
  go_ret
  exact ⟨rfl, hok⟩
end Go.Proofs.Ytpbgfjfodojlaaa
