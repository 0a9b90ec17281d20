/- Contracts of layer 8: the law's alive. -/
import Derived.Test.YtnjlamnpiafpdaaC08f
namespace Go.Proofs.Ytnjlamnpiafpdaa
open Go.RowKit
set_option maxRecDepth 100000
def sa : ByteArray := ⟨#[97]⟩
def sb : ByteArray := ⟨#[98]⟩
theorem live1 : Lane.pushE [] 3 sa = 0 ∧ Lane.pushL [] 3 sa = [⟨3, sa, 0⟩] := ⟨by rfl, by rfl⟩
theorem live2 : Lane.pushE [⟨3, sa, 0⟩] 3 sb = 0 ∧ Lane.pushL [⟨3, sa, 0⟩] 3 sb = [⟨3, sa, 0⟩, ⟨3, sb, 0⟩] := ⟨by rfl, by rfl⟩
theorem live3 : Lane.row [⟨3, sa, 0⟩, ⟨3, sb, 0⟩] 3 = [(sa, 0), (sb, 0)] ∧ Lane.drop 3 [⟨3, sa, 0⟩, ⟨3, sb, 0⟩] = [⟨3, sb, 0⟩] := ⟨by rfl, by rfl⟩
theorem live4 : Lane.row [⟨3, sb, 0⟩] 3 = [(sb, 0)] ∧ Lane.tick 0 [⟨3, sb, 0⟩] = [] := ⟨by rfl, by rfl⟩
theorem good2 : Lane.Good 0 [⟨3, sa, 0⟩, ⟨3, sb, 0⟩] := by
  have h := ((Lane.Good.nil 0).push (Int.le_refl 0) 3 sa).push (Int.le_refl 0) 3 sb
  rwa [live1.2, live2.2] at h
theorem good3 : Lane.Good 0 [⟨3, sb, 0⟩] := by
  have h := good2.drop 3
  rwa [live3.2] at h
set_option maxHeartbeats 1600000 in
theorem laneAlive (w : World) : Calls Try.prog 7 #[] w fun e w' => e = .returned (.bool true) ∧ Ok w w' := by
  have K1 : ∀ W g, LaneL W g [] → Calls Try.prog 10 #[.pointer (some ⟨g, 0, none⟩), .int .i64 3, .string ⟨#[97]⟩] W fun e w' => e = .returned (.int .i64 0) ∧ Only g W w' ∧ LaneL w' g [⟨3, sa, 0⟩] := fun W g h => by
    have h := lanesPush g [] 3 sa W h (by decide)
    rwa [live1.1, live1.2] at h
  have K2 : ∀ W g, LaneL W g [⟨3, sa, 0⟩] → Calls Try.prog 10 #[.pointer (some ⟨g, 0, none⟩), .int .i64 3, .string ⟨#[98]⟩] W fun e w' => e = .returned (.int .i64 0) ∧ Only g W w' ∧ LaneL w' g [⟨3, sa, 0⟩, ⟨3, sb, 0⟩] := fun W g h => by
    have h := lanesPush g _ 3 sb W h (by decide)
    rwa [live2.1, live2.2] at h
  have K3 : ∀ W g, LaneL W g [⟨3, sa, 0⟩, ⟨3, sb, 0⟩] → Calls Try.prog 12 #[.pointer (some ⟨g, 0, none⟩), .int .i64 3] W fun e w' => e = .returned (.tuple #[.agg #[.string ⟨#[97]⟩, .int .i64 0], .bool true]) ∧ Only g W w' ∧ LaneL w' g [⟨3, sb, 0⟩] := fun W g h => by
    have h := lanesPopSome g _ 3 0 (sa, 0) [(sb, 0)] W h good2 live3.1
    rwa [live3.2] at h
  have K4 : ∀ W g, LaneL W g [⟨3, sb, 0⟩] → Calls Try.prog 18 #[.pointer (some ⟨g, 0, none⟩), .int .i64 3] W fun e w' => e = .returned (.int .i64 1) ∧ W = w' := fun W g h => by
    have h := lanesLen g _ 3 0 W h good3
    rwa [live4.1] at h
  have K5 : ∀ W g, LaneL W g [⟨3, sb, 0⟩] → Calls Try.prog 14 #[.pointer (some ⟨g, 0, none⟩), .int .i64 0] W fun e w' => e = .returned (.int .i64 1) ∧ Only g W w' ∧ LaneL w' g [] := fun W g h => by
    have h := lanesTick g _ 0 0 W h good3 (by decide)
    rwa [live4.2] at h
  have H1 := Lib.hid K1
  have H2 := Lib.hid K2
  have H3 := Lib.hid K3
  have H4 := Lib.hid K4
  have H5 := Lib.hid K5
  clear K1 K2 K3 K4 K5
  go_enter Try.func7, Try.ntmps7
  go_wp2_with (first
    | (go_at_call 9; (with_reducible refine (laneNew _).mono ?_); rintro e w1 ⟨rfl, hok, hL0⟩; have HOK := Lib.hid hok; have hL1 : LaneL w1 w.heap.size [] := hL0; clear hok hL0)
    | (go_at_call 10; (with_reducible refine (H1.out _ _ hL1).mono ?_); rintro e w2 ⟨rfl, hB, hL2⟩; have HB2 := Lib.hid hB; clear hB)
    | (go_at_call 10; (with_reducible refine (H2.out _ _ hL2).mono ?_); rintro e w3 ⟨rfl, hB, hL3⟩; have HB3 := Lib.hid hB; clear hB)
    | (go_at_call 12; (with_reducible refine (H3.out _ _ hL3).mono ?_); rintro e w4 ⟨rfl, hB, hL4⟩; have HB4 := Lib.hid hB; clear hB)
    | (go_at_call 18; (with_reducible refine (H4.out _ _ (hL4.next ((Ok.refl _).alloc _))).mono ?_); rintro e w5 ⟨rfl, rfl⟩)
    | (go_at_call 14; (with_reducible refine (H5.out _ _ (hL4.next ((Ok.refl _).alloc _))).mono ?_); rintro e w6 ⟨rfl, hB, hL6⟩; have HB6 := Lib.hid hB; clear hB))
  go_ret
  exact ⟨rfl, Only.then_ok (Ok.alloc (Only.then_ok (Only.then_ok (Only.then_ok HOK.out HB2.out (Nat.le_refl _)) HB3.out (Nat.le_refl _)) HB4.out (Nat.le_refl _)) _) HB6.out (Nat.le_refl _)⟩
end Go.Proofs.Ytnjlamnpiafpdaa
