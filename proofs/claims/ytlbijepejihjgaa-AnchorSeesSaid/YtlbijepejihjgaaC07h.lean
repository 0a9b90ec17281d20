/- Contracts of layer 7: Fuse in one sentence; what every law asks first. -/
import Derived.Test.YtlbijepejihjgaaC07d
namespace Go.Proofs.Ytlbijepejihjgaa
open Go.RowKit
set_option maxRecDepth 100000
/-- Whether something is left, as the program finds it. -/
def fLeft (f : Int) (l : List (Int × Int)) : Bool := Trim.many f l.length && !decide (fHi f l < fLo f l)
/-- What the program's Fuse answers. -/
def fz (f : Int) (l : List (Int × Int)) : Int × Int := if fLeft f l = true then (Sat.clip (fLo f l), Sat.clip (fHi f l)) else (0, 0)
theorem trimFuse (f : Int) (A : Option Addr) (l : List (Int × Int)) (cap : Nat) (w : World) (hA : PairsAt w A l) (hl : l.length ≤ 1099511627776) (hf : -9223372036854775808 ≤ f ∧ f ≤ 9223372036854775807) :
    Calls Try.prog 27 #[.int .i64 f, .slice A l.length cap] w fun e w' => e = .returned (.tuple #[spanV (fz f l).1 (fz f l).2, .bool (fLeft f l)]) ∧ Ok w w' := by
  cases hm : Trim.many f l.length
  · have h1 : fLeft f l = false := by unfold fLeft; rw [hm]; rfl
    have h2 : fz f l = (0, 0) := by unfold fz; rw [h1]; rfl
    rw [h1, h2]
    exact trimFuseFew f A l cap w hl hf hm
  · by_cases h : fHi f l < fLo f l
    · have h1 : fLeft f l = false := by unfold fLeft; rw [hm, decide_eq_true h]; rfl
      have h2 : fz f l = (0, 0) := by unfold fz; rw [h1]; rfl
      rw [h1, h2]
      refine (trimFuseMany f A l cap w hA hl hf hm).mono fun e w' ⟨h3, h4⟩ => ⟨?_, h4⟩
      rw [h3, if_pos h, decide_eq_true h]
      rfl
    · have h1 : fLeft f l = true := by unfold fLeft; rw [hm, decide_eq_false h]; rfl
      have h2 : fz f l = (Sat.clip (fLo f l), Sat.clip (fHi f l)) := by unfold fz; rw [h1]; rfl
      rw [h1, h2]
      refine (trimFuseMany f A l cap w hA hl hf hm).mono fun e w' ⟨h3, h4⟩ => ⟨?_, h4⟩
      rw [h3, if_neg h, decide_eq_false h]
      rfl
theorem fLeft_t {f : Int} {l : List (Int × Int)} (hm : Trim.many f l.length = true) (h : fLo f l ≤ fHi f l) : fLeft f l = true ∧ fz f l = (Sat.clip (fLo f l), Sat.clip (fHi f l)) := by
  have h1 : fLeft f l = true := by
    unfold fLeft
    rw [hm, decide_eq_false (by omega)]; rfl
  exact ⟨h1, by unfold fz; rw [h1]; rfl⟩
theorem aliveLo : fLo 1 [(1, 5), (4, 9), (100, 200)] = 4 := Trim.val_of_pick (by decide) (by refine ⟨by decide, by decide, by decide⟩)
theorem aliveHi : fHi 1 [(1, 5), (4, 9), (100, 200)] = 9 := Trim.val_of_pick (by decide) (by refine ⟨by decide, by decide, by decide⟩)
theorem alive_fuse (w : World) (t : TypeId) {b : Nat} (hb : b = w.heap.size) :
    Calls Try.prog 27 #[.int .i64 1, .slice (some ⟨b, 0, none⟩) 3 3] (w.alloc (.cells #[.int .i64 1, .int .i64 5, .int .i64 4, .int .i64 9, .int .i64 100, .int .i64 200] t)) fun e w' => e = .returned (.tuple #[spanV 4 9, .bool true]) ∧ Ok (w.alloc (.cells #[.int .i64 1, .int .i64 5, .int .i64 4, .int .i64 9, .int .i64 100, .int .i64 200] t)) w' := by
  have h := trimFuse 1 (some ⟨b, 0, none⟩) [(1, 5), (4, 9), (100, 200)] 3 _ (pairs_new w [(1, 5), (4, 9), (100, 200)] t #[.int .i64 1, .int .i64 5, .int .i64 4, .int .i64 9, .int .i64 100, .int .i64 200] rfl hb) (by decide) (by decide)
  obtain ⟨h1, h2⟩ := fLeft_t (f := 1) (l := [(1, 5), (4, 9), (100, 200)]) (by decide) (by rw [aliveLo, aliveHi]; decide)
  rw [h1, h2, aliveLo, aliveHi] at h
  exact h
end Go.Proofs.Ytlbijepejihjgaa
