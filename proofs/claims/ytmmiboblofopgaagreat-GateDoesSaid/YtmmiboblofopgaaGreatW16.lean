/- Words of my own: append of pairs that came in, nil or not, to a row of one's own; a row of pairs, read and written. -/
import Derived.Test.YtmmiboblofopgaaGreatB00
import Derived.Laws.AppendOwn
import Derived.Laws.OwnMore
import Derived.OwnWalk
namespace Go.Proofs.YtmmiboblofopgaaGreat
open Go.RowKit Go.WideShapes Go.ChangeShapes
theorem cells_pairs_length (l : List (Int × Int)) : (cellsOfPairs l).length = l.length * 2 := by
  induction l with
  | nil => rfl
  | cons x l ih => simp only [cellsOfPairs, List.flatMap_cons, List.length_append, List.length_cons, List.length_nil] at *; omega
theorem cells_pairs_append (l m : List (Int × Int)) : cellsOfPairs (l ++ m) = cellsOfPairs l ++ cellsOfPairs m := by simp [cellsOfPairs]
theorem cells_pairs_one (l : List (Int × Int)) : ∀ u ∈ cellsOfPairs l, u.oneCell' = true := by
  intro u hu
  simp only [cellsOfPairs, List.mem_flatMap, List.mem_cons, List.not_mem_nil, or_false] at hu
  obtain ⟨s, _, rfl | rfl⟩ := hu <;> rfl
theorem pairs_src {w : World} {ad : Addr} {l : List (Int × Int)} (h : PairsAt w (some ad) l) : ∀ (j : Nat) (u : Value), (cellsOfPairs l)[j]? = some u → w.cell? (ad.add j) = some u := fun j u hj => by
  have hlt : j < l.length * 2 := by rw [← cells_pairs_length]; exact (List.getElem?_eq_some_iff.1 hj).1
  have hk : j / 2 < l.length := by omega
  obtain ⟨b, off, e, _, h1, h2⟩ := h (j / 2) hk
  cases e
  obtain ⟨a1, a2⟩ := cellsOfPairs_at l (j / 2) hk
  rw [Go.WideShapes.add_plain]
  rcases Nat.mod_two_eq_zero_or_one j with e | e
  · rw [show j = j / 2 * 2 by omega] at hj ⊢
    rw [a1] at hj
    cases hj
    exact h1
  · rw [show j = j / 2 * 2 + 1 by omega] at hj ⊢
    rw [a2] at hj
    cases hj
    rw [← Nat.add_assoc]
    exact h2
/-- append of pairs that came in, nil or not, to a row of one's own. -/
theorem wpList_append_pairs {P : Program} {w : World} {ops : Array Oper} {rest : List Oper} {o : Oper} {a : Act} {Q : Exit → Act → World → Prop} (hgd : o.guard = none) (s x : Operand) (t : TypeId)
    (ho : o.op = .call { callee := .builtin .append, args := #[s, x], argTypes := #[t, t] })
    (base : Nat) (e : TypeId) (ht : P.underlying t = some (.slice e)) (hi : (P.info? e).map (fun i => (i.zero, i.size, i.bytes)) = some (some (.agg #[.int .i64 0, .int .i64 0]), 2, 16))
    (v : Value) (xs : List (Int × Int)) (n : Nat) (hn : n = xs.length) (hs : a.eval s = v) (hown : w.ownsRow base e 2 v n (cellsOfPairs xs)) (A : Option Addr) (l : List (Int × Int)) (m c : Nat) (hm : m = l.length) (hx : a.eval x = .slice A m c) (hA : PairsAt w A l)
    (h63 : xs.length + l.length ≤ 1000000) (hbase : base ≤ w.heap.size)
    (h : ∀ v' w', w'.ownsRow base e 2 v' (xs ++ l).length (cellsOfPairs (xs ++ l)) → w.grownBy w' v.ownBlock → wpList P ops Q rest (a.put o.dst v') w') : wpList P ops Q (o :: rest) a w := by
  subst hn
  subst hm
  obtain ⟨i, i0, i1, i2, i3⟩ := info_parts hi
  cases A with
  | some ad =>
    exact wpList_append_own w hgd s x t ho base e i (.agg #[.int .i64 0, .int .i64 0]) 2 16 ht i0 i1 i2 i3 rfl (by decide) v xs.length (cellsOfPairs xs) hs hown ad l.length c (cellsOfPairs l) hx (cells_pairs_length l) (pairs_src hA) (cells_pairs_one l) (by unfold maxLen; omega) (by omega) hbase fun v' w' h1 h2 _ => h v' w' (by rw [List.length_append, cells_pairs_append]; exact h1) h2
  | none =>
    have hl : l = [] := by
      cases l with
      | nil => rfl
      | cons b l => obtain ⟨_, _, e, _⟩ := hA 0 (by simp); cases e
    subst hl
    refine wpList_plain hgd fun K hK => ?_
    have hrun : (Builtin.append_ #[t, t] o.type #[v, .slice none 0 c]).run P w = .ok v w := by
      rcases hown.2 with ⟨rfl, _⟩ | ⟨g, cap, cur, rfl, _, _, hnc, _⟩
      · simp [Builtin.append_, run_underlying ht, sizeOf, typeInfo, i0, Builtin.lenOf, Builtin.firstCells]
      · simp [Builtin.append_, run_underlying ht, sizeOf, typeInfo, i0, Builtin.lenOf, Builtin.firstCells, hnc, storeCells]
    have hk := h v w (by simpa using hown) ⟨rfl, rfl, rfl, Nat.le_refl _, fun _ _ _ => rfl⟩
    unfold Oper.wp
    simp at hx
    simp [execOp, ho, resolve, invoke, builtin, hs, hx, hrun, Result.andThen]
    exact hK _ _ hk
/-- A row of pairs at B or behind, that may be written; what it holds is not told. -/
def PairRow (w : World) (B : Nat) (A : Option Addr) (n : Nat) : Prop :=
  ∀ k, k < n → ∃ b off, A = some ⟨b, off, none⟩ ∧ B ≤ b ∧ b < w.heap.size ∧ (∃ x : Int, w.cell? ⟨b, off + k * 2, none⟩ = some (.int .i64 x)) ∧ (∃ y : Int, w.cell? ⟨b, off + k * 2 + 1, none⟩ = some (.int .i64 y)) ∧ ∀ j, w.frozen? ⟨b, j, none⟩ = false
theorem PairRow.of_own {w : World} {B : Nat} {e : TypeId} {A : Option Addr} {cap : Nat} {l : List (Int × Int)} (h : w.ownsRow B e 2 (.slice A l.length cap) l.length (cellsOfPairs l)) : PairRow w B A l.length := fun k hk => by
  obtain ⟨A', c', e1, hp⟩ := PairsAt.of_own h
  cases e1
  obtain ⟨b, off, e2, hlt, h1, h2⟩ := hp k hk
  subst e2
  rcases h.2 with ⟨e3, _⟩ | ⟨g, cp, cur, e3, hb, hh, _⟩
  · cases e3
  · cases e3
    exact ⟨b, 0, rfl, hb, hlt, ⟨_, h1⟩, ⟨_, h2⟩, fun j => by simp only [World.frozen?, hh]; simp⟩
theorem PairRow.set {w : World} {B n : Nat} {b off : Nat} (h : PairRow w B (some ⟨b, off, none⟩) n) (p : Nat) (x : Int) : PairRow (w.setCell ⟨b, p, none⟩ (.int .i64 x)) B (some ⟨b, off, none⟩) n := fun k hk => by
  obtain ⟨b', off', e, hB, hlt, ⟨u, h1⟩, ⟨v, h2⟩, hf⟩ := h k hk
  cases e
  refine ⟨b, off, rfl, hB, by simpa using hlt, ?_, ?_, fun j => by rw [World.frozen?_setCell]; exact hf j⟩
  · by_cases e : p = off + k * 2
    · subst e; exact ⟨x, World.cell?_setCell_same w _ _ h1⟩
    · exact ⟨u, by rw [World.cell?_setCell_other (h := by intro g; simp only [Addr.mk.injEq, and_true, true_and] at g; omega), h1]⟩
  · by_cases e : p = off + k * 2 + 1
    · subst e; exact ⟨x, World.cell?_setCell_same w _ _ h2⟩
    · exact ⟨v, by rw [World.cell?_setCell_other (h := by intro g; simp only [Addr.mk.injEq, and_true, true_and] at g; omega), h2]⟩
theorem PairRow.next {w w1 : World} {B n : Nat} {A : Option Addr} (h : PairRow w B A n) (k : Ok w w1) : PairRow w1 B A n := fun j hj => by
  obtain ⟨b, off, e, hB, hlt, ⟨u, h1⟩, ⟨v, h2⟩, hf⟩ := h j hj
  exact ⟨b, off, e, hB, Nat.lt_of_lt_of_le hlt k.size, ⟨u, (k.cell (p := ⟨b, off + j * 2, none⟩) hlt).trans h1⟩, ⟨v, (k.cell (p := ⟨b, off + j * 2 + 1, none⟩) hlt).trans h2⟩, fun i => (Below.frozen k.below (p := ⟨b, i, none⟩) hlt).trans (hf i)⟩
end Go.Proofs.YtmmiboblofopgaaGreat
