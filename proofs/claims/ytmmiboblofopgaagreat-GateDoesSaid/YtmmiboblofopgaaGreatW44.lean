/- Words of my own: rows of what was heard (api.Heard) of one's own: appended to, kept, read. -/
import Derived.Test.YtmmiboblofopgaaGreatB22
import Derived.Test.YtmmiboblofopgaaGreatW16
import Derived.Test.YtmmiboblofopgaaGreatB15
import Derived.Test.YtmmiboblofopgaaGreatB08
namespace Go.Proofs.YtmmiboblofopgaaGreat
open Go.RowKit Go.WideShapes Go.ChangeShapes
set_option maxRecDepth 100000
theorem infoHeard : (Tryz.prog.info? 49).map (fun i => (i.zero, i.size, i.bytes)) = some (some (.agg #[.int .i64 0, .int .i64 0, .int .i64 0, .int .i64 0, .int .i64 0, .int .i64 0, .bool false, .bool false, .int .i64 0, .int .i64 0, .int .i64 0, .int .i64 0, .int .i64 0, .slice none 0 0, .int .i64 0]), 15, 128) := by kernel_rfl
theorem haL_one (y : HA) : ∀ u ∈ haL y, u.oneCell' = true := by
  intro u hu
  simp only [haL, msgCells, List.mem_append, List.mem_cons, List.not_mem_nil, or_false] at hu
  rcases hu with (rfl | rfl | rfl | rfl | rfl | rfl | rfl | rfl | rfl | rfl | rfl | rfl | rfl | rfl) | rfl <;> rfl
/-- A row of one's own stays where only a block ahead of it changes. -/
theorem row_only {w w1 : World} {B r : Nat} {e : TypeId} {k n : Nat} {v : Value} {xs : List Value} (h : w.ownsRow B e k v n xs) (j : Only r w w1) (hr : r < B) : w1.ownsRow B e k v n xs := by
  refine World.ownsRow.kept h (w' := w1) (row := some r) ⟨j.os, j.tape, j.output, j.size, fun i hi hn => j.block i hi fun e => hn (by rw [e])⟩ ?_
  rcases h.2 with ⟨e, _⟩ | ⟨g, c2, cur, e, hb, _⟩
  · rw [e]; exact .inl rfl
  · rw [e]
    refine .inr fun e2 => ?_
    simp only [Value.ownBlock, Option.some.injEq] at e2
    omega
/-- One that was heard is put behind a row of one's own. -/
theorem wpList_append_heard {w : World} {ops : Array Oper} {rest : List Oper} {o : Oper} {a : Act} {Q : Exit → Act → World → Prop} (hgd : o.guard = none) (s x : Operand)
    (ho : o.op = .call { callee := .builtin .append, args := #[s, x], argTypes := #[42, 42] })
    (base : Nat) (v : Value) (l : List HA) (n : Nat) (hs : a.eval s = v) (hown : w.ownsRow base 49 15 v n (l.flatMap haL)) (g : Nat) (y : HA) (hx : a.eval x = .slice (some ⟨g, 0, none⟩) 1 1) (hy : Own w g (haL y).toArray)
    (h63 : n ≤ 100000) (hbase : base ≤ w.heap.size)
    (h : ∀ v' w', w'.ownsRow base 49 15 v' (n + 1) ((l ++ [y]).flatMap haL) → w.grownBy w' v.ownBlock → wpList Tryz.prog ops Q rest (a.put o.dst v') w') : wpList Tryz.prog ops Q (o :: rest) a w := by
  obtain ⟨i, i0, i1, i2, i3⟩ := info_parts infoHeard
  refine wpList_append_own w hgd s x 42 ho base 49 i _ 15 128 Tryz.underlying42 i0 i1 i2 i3 rfl (by decide) v n (l.flatMap haL) hs hown ⟨g, 0, none⟩ 1 1 (haL y) hx rfl (fun j u hj => ?_) (haL_one y) (by unfold maxLen; omega) (by omega) hbase fun v' w' h1 h2 _ => h v' w' (by rw [List.flatMap_append]; simpa using h1) h2
  rw [Go.WideShapes.add_plain, Nat.zero_add]
  exact hy.cell j (by rw [List.getElem?_toArray]; exact hj)
/-- Such a row reads so. -/
theorem heards_of_row {w : World} {B : Nat} {v : Value} {l : List HA} {n : Nat} (hn : n = l.length) (h : w.ownsRow B 49 15 v n (l.flatMap haL)) (ht : ∀ x ∈ l, PairsAt w x.A x.m.table) : ∃ A c, v = .slice A l.length c ∧ HeardsAt w A l := by
  subst hn
  obtain ⟨A, c, e, hc⟩ := CellsAt.of_own h (by
    have : ∀ m : List HA, (m.flatMap haL).length = m.length * 15 := fun m => by
      induction m with
      | nil => rfl
      | cons a m ih => rw [List.flatMap_cons, List.length_append, ih, haL_len, List.length_cons]; omega
    exact (this l).symm) (by decide)
  exact ⟨A, c, e, hc, ht⟩
end Go.Proofs.YtmmiboblofopgaaGreat
