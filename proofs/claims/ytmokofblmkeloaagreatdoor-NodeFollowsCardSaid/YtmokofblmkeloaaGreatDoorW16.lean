import Derived.Test.YtmokofblmkeloaaGreatDoorB00
import Derived.Test.YtmokofblmkeloaaGreatDoorB01
import Derived.Laws.AppendOwn
import Derived.Laws.OwnMore
import Derived.OwnWalk
namespace Go.Proofs.YtmokofblmkeloaaGreatDoor
open Go.RowKit Go.WideShapes Go.ChangeShapes
theorem cells_pairs_append (l m : List (Int × Int)) : cellsOfPairs (l ++ m) = cellsOfPairs l ++ cellsOfPairs m := by simp [cellsOfPairs]
/-- A row of pairs at B or behind, that may be written; what it holds is not told. -/
def PairRow (w : World) (B : Nat) (A : Option Addr) (n : Nat) : Prop :=
  ∀ k, k < n → ∃ b off, A = some ⟨b, off, none⟩ ∧ B ≤ b ∧ b < w.heap.size ∧ (∃ x : Int, w.cell? ⟨b, off + k * 2, none⟩ = some (.int .i64 x)) ∧ (∃ y : Int, w.cell? ⟨b, off + k * 2 + 1, none⟩ = some (.int .i64 y)) ∧ ∀ j, w.frozen? ⟨b, j, none⟩ = false
theorem PairRow.of_own {w : World} {B : Nat} {e : TypeId} {A : Option Addr} {cap : Nat} {l : List (Int × Int)} (h : w.ownsRow B e 2 (.slice A l.length cap) l.length (cellsOfPairs l)) : PairRow w B A l.length := fun k hk => by
  obtain ⟨A', c', e1, hp⟩ := PairsAt.of_own h
  cases e1
  obtain ⟨b, off, e2, hlt, h1, h2⟩ := hp k hk
  subst e2
  rcases h.2 with ⟨e3, _⟩ | ⟨g, cp, cur, e3, hb, hh, _⟩
  · cases e3
  · cases e3
    exact ⟨b, 0, rfl, hb, hlt, ⟨_, h1⟩, ⟨_, h2⟩, fun j => by simp only [World.frozen?, hh]; simp⟩
theorem PairRow.set {w : World} {B n : Nat} {b off : Nat} (h : PairRow w B (some ⟨b, off, none⟩) n) (p : Nat) (x : Int) : PairRow (w.setCell ⟨b, p, none⟩ (.int .i64 x)) B (some ⟨b, off, none⟩) n := fun k hk => by
  obtain ⟨b', off', e, hB, hlt, ⟨u, h1⟩, ⟨v, h2⟩, hf⟩ := h k hk
  cases e
  refine ⟨b, off, rfl, hB, by simpa using hlt, ?_, ?_, fun j => by rw [World.frozen?_setCell]; exact hf j⟩
  · by_cases e : p = off + k * 2
    · subst e; exact ⟨x, World.cell?_setCell_same w _ _ h1⟩
    · exact ⟨u, by rw [World.cell?_setCell_other (h := by intro g; simp only [Addr.mk.injEq, and_true, true_and] at g; omega), h1]⟩
  · by_cases e : p = off + k * 2 + 1
    · subst e; exact ⟨x, World.cell?_setCell_same w _ _ h2⟩
    · exact ⟨v, by rw [World.cell?_setCell_other (h := by intro g; simp only [Addr.mk.injEq, and_true, true_and] at g; omega), h2]⟩
theorem PairRow.next {w w1 : World} {B n : Nat} {A : Option Addr} (h : PairRow w B A n) (k : Ok w w1) : PairRow w1 B A n := fun j hj => by
  obtain ⟨b, off, e, hB, hlt, ⟨u, h1⟩, ⟨v, h2⟩, hf⟩ := h j hj
  exact ⟨b, off, e, hB, Nat.lt_of_lt_of_le hlt k.size, ⟨u, (k.cell (p := ⟨b, off + j * 2, none⟩) hlt).trans h1⟩, ⟨v, (k.cell (p := ⟨b, off + j * 2 + 1, none⟩) hlt).trans h2⟩, fun i => (Below.frozen k.below (p := ⟨b, i, none⟩) hlt).trans (hf i)⟩
end Go.Proofs.YtmokofblmkeloaaGreatDoor
