/- Contracts of layer 16: the document's Fuse in one sentence; what every law asks first. -/
import Derived.Test.YtlbijepejihjgaaC16b
import Derived.Test.YtlbijepejihjgaaW06
import Derived.Test.YtlbijepejihjgaaC07e
namespace Go.Proofs.Ytlbijepejihjgaa
open Go.RowKit
set_option maxRecDepth 100000
/-- The document's Fuse, in one sentence. -/
theorem ref7Fuse (f : Int) (A : Option Addr) (l : List (Int × Int)) (cap : Nat) (w : World) (hA : PairsAt w A l) (hl : l.length ≤ 1099511627776) :
    Calls Try.prog 13 #[.int .i64 f, .slice A l.length cap] w fun e w' => e = .returned (.tuple #[spanV (fz f l).1 (fz f l).2, .bool (fLeft f l)]) ∧ Ok w w' := by
  cases hm : Trim.many f l.length
  · have h1 : fLeft f l = false := by unfold fLeft; rw [hm]; rfl
    have h2 : fz f l = (0, 0) := by unfold fz; rw [h1]; rfl
    rw [h1, h2]
    exact ref7FuseFew f A l cap w hl hm
  · by_cases h : fHi f l < fLo f l
    · have h1 : fLeft f l = false := by unfold fLeft; rw [hm, decide_eq_true h]; rfl
      have h2 : fz f l = (0, 0) := by unfold fz; rw [h1]; rfl
      rw [h1, h2]
      refine (ref7FuseMany f A l cap w hA hl hm).mono fun e w' ⟨h3, h4⟩ => ⟨?_, h4⟩
      rw [h3, if_pos h, decide_eq_true h]
      rfl
    · have h1 : fLeft f l = true := by unfold fLeft; rw [hm, decide_eq_false h]; rfl
      have h2 : fz f l = (Sat.clip (fLo f l), Sat.clip (fHi f l)) := by unfold fz; rw [h1]; rfl
      rw [h1, h2]
      refine (ref7FuseMany f A l cap w hA hl hm).mono fun e w' ⟨h3, h4⟩ => ⟨?_, h4⟩
      rw [h3, if_neg h, decide_eq_false h]
      rfl
def parEps (x : Int) : Par := ⟨0, 0, 0, 0, 0, 0, 0, x, 0, 0, 0, 0⟩
def parF (x : Int) : Par := ⟨0, x, 0, 0, 0, 0, 0, 0, 0, 0, 0, 0⟩
theorem aliveHeld : Anchor.held 1 [7, 3, 9] = 8 := by
  have h : Trim.val 1 [7, 3, 9] = 7 := Trim.val_of_pick (by decide) (by refine ⟨by decide, by decide, by decide⟩)
  unfold Anchor.held
  rw [h]
  decide
set_option maxHeartbeats 800000 in
theorem law16Alive (w : World) : Calls Try.prog 7 #[] w fun e w' => e = .returned (.bool true) ∧ Ok w w' := by
  have hok := Ok.refl w
  have KS := Lib.hid fun w => anchorSeen (parEps 50) 1000 w
  rw [show Anchor.seen (parEps 50) 1000 = (950, 1050) by decide +kernel, show Anchor.is (parEps 50) 1000 = true by decide +kernel] at KS
  have KH := Lib.hid fun A w h => anchorHeld (parF 1) A [7, 3, 9] 3 w h (by simp)
  rw [show (parF 1).f = 1 from rfl, aliveHeld, show Trim.is 1 ([7, 3, 9] : List Int).length = true by decide] at KH
  have hz : ∀ w, Sem.run Try.prog (zeroValue 23) w = .ok (.agg #[.int .i64 0, .int .i64 0, .int .i64 0, .int .i64 0, .int .i64 0, .int .i64 0, .int .i64 0, .int .i64 0, .int .i64 0, .int .i64 0, .int .i64 0, .int .i64 0]) w := fun w => by kernel_rfl
  go_enter Try.func7, Try.ntmps7
  go_wp2_with (first
    | (go_at_call 8; (refine (KS.out _).mono ?_); rintro e w1 ⟨rfl, hb1⟩; replace hok := (hok.trans hb1).alloc (.cells #[.int .i64 950, .int .i64 1050] 28); have hS := Own.new w1 #[.int .i64 950, .int .i64 1050] 28 rfl; clear hb1)
    | (go_at_call 10; (refine (KH.out _ _ (ints_new _ [7, 3, 9] _ _ rfl (by simp))).mono ?_); rintro e w2 ⟨rfl, hb1⟩; replace hS := (hS.alloc _).next hb1; replace hok := (hok.alloc _).trans hb1; clear hb1; have s0 := hS.cell 0 rfl; have s1 := hS.cell 1 rfl))
  go_ret
  exact ⟨rfl, hok⟩
end Go.Proofs.Ytlbijepejihjgaa
