/- Plain mathematics of layer 10: trips, and the best of some. It names no program. -/
import Derived.Test.YtfhagccelkjflaaM14
namespace Go.Proofs.Ytfhagccelkjflaa
/-- A trip's four times. -/
structure Trp where
  asked : Int
  got : Int
  said : Int
  heard : Int
namespace Probe
def ah (p : Par) (t : Trp) : Int × Int := ahead p t.asked t.got t.said t.heard
def wide (s : Int × Int) : Int := if s.2 < s.1 then -1 else Sat.sub s.2 s.1
def takes (p : Par) (b : (Int × Int) × Bool) (t : Trp) : Bool := decide ((ah p t).1 ≤ (ah p t).2) && (!b.2 || decide (wide (ah p t) < wide b.1))
def bstep (p : Par) (b : (Int × Int) × Bool) (t : Trp) : (Int × Int) × Bool := if takes p b t = true then (ah p t, true) else b
def best (p : Par) (l : List Trp) : (Int × Int) × Bool := l.foldl (bstep p) ((0, 0), false)
theorem best_nil (p : Par) : best p [] = ((0, 0), false) := rfl
theorem best_snoc (p : Par) (l : List Trp) (t : Trp) : best p (l ++ [t]) = bstep p (best p l) t := by simp [best]
theorem bstep_yes {p : Par} {b : (Int × Int) × Bool} {t : Trp} (h : takes p b t = true) : bstep p b t = (ah p t, true) := if_pos h
theorem bstep_no {p : Par} {b : (Int × Int) × Bool} {t : Trp} (h : takes p b t = false) : bstep p b t = b := if_neg (by rw [h]; decide)
/-- One more never makes it wider. -/
theorem bstep_le (p : Par) (b : (Int × Int) × Bool) (t : Trp) (h : b.2 = true) : (bstep p b t).2 = true ∧ wide (bstep p b t).1 ≤ wide b.1 := by
  by_cases g : takes p b t = true
  · rw [bstep_yes g]
    refine ⟨rfl, ?_⟩
    unfold takes at g
    simp only [h, Bool.not_true, Bool.false_or, Bool.and_eq_true, decide_eq_true_eq] at g
    exact Int.le_of_lt g.2
  · rw [bstep_no (by simpa using g)]
    exact ⟨h, Int.le_refl _⟩
theorem bstep_own (p : Par) (b : (Int × Int) × Bool) (t : Trp) (h : (ah p t).1 ≤ (ah p t).2) : (bstep p b t).2 = true ∧ wide (bstep p b t).1 ≤ wide (ah p t) := by
  by_cases g : takes p b t = true
  · rw [bstep_yes g]
    exact ⟨rfl, Int.le_refl _⟩
  · rw [bstep_no (by simpa using g)]
    unfold takes at g
    simp only [decide_eq_true h, Bool.true_and, Bool.or_eq_true, Bool.not_eq_true', decide_eq_true_eq, not_or, Bool.not_eq_false] at g
    exact ⟨g.1, by omega⟩
theorem best_le (p : Par) (l : List Trp) : ∀ t ∈ l, (ah p t).1 ≤ (ah p t).2 → (best p l).2 = true ∧ wide (best p l).1 ≤ wide (ah p t) := by
  have key : ∀ (l : List Trp) (b : (Int × Int) × Bool), (b.2 = true → (l.foldl (bstep p) b).2 = true ∧ wide (l.foldl (bstep p) b).1 ≤ wide b.1) ∧ ∀ t ∈ l, (ah p t).1 ≤ (ah p t).2 → (l.foldl (bstep p) b).2 = true ∧ wide (l.foldl (bstep p) b).1 ≤ wide (ah p t) := by
    intro l
    induction l with
    | nil => intro b; exact ⟨fun h => ⟨h, Int.le_refl _⟩, by simp⟩
    | cons x l ih =>
      intro b
      simp only [List.foldl_cons]
      obtain ⟨i1, i2⟩ := ih (bstep p b x)
      refine ⟨fun h => ?_, fun t ht hl => ?_⟩
      · obtain ⟨h1, h2⟩ := bstep_le p b x h
        obtain ⟨h3, h4⟩ := i1 h1
        exact ⟨h3, Int.le_trans h4 h2⟩
      · rcases List.mem_cons.1 ht with rfl | ht
        · obtain ⟨h1, h2⟩ := bstep_own p b t hl
          obtain ⟨h3, h4⟩ := i1 h1
          exact ⟨h3, Int.le_trans h4 h2⟩
        · exact i2 t ht hl
  exact (key l _).2
/-- The ways' ends are clipped, and so is what they make. -/
theorem neg_drift (p : Par) : Sat.neg (Sat.mul 2 p.rho) = -Sat.mul 2 p.rho := by
  unfold Sat.neg; rw [Sat.clip_in (Sat.mul_bd _ _).1 (Sat.mul_bd _ _).2]
theorem clip_sub (a b : Int) : Sat.clip (Sat.sub a b) = Sat.sub a b := Sat.clip_in (Sat.sub_bd _ _).1 (Sat.sub_bd _ _).2
theorem clip_sum (l : List Int) : Sat.clip (Sat.sum l) = Sat.sum l := Sat.clip_in (Sat.sum_bd _).1 (Sat.sum_bd _).2
end Probe
end Go.Proofs.Ytfhagccelkjflaa
