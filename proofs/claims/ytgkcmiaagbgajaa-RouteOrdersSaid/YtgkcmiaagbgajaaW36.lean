/- Words of my own: a row of messages and two rows of integers of one's own that grow side by side, and a fabric's numbers beside them. -/
import Derived.Test.YtgkcmiaagbgajaaW35
import Derived.Test.YtgkcmiaagbgajaaC04b
import Derived.Laws.AppendOwn
import Derived.Deep.AppendLies
namespace Go.Proofs.Ytgkcmiaagbgajaa
open Go.RowKit Go.WideShapes Go.ChangeShapes
set_option maxRecDepth 100000
theorem infoMsg : (Try.prog.info? 38).map (fun i => (i.zero, i.size, i.bytes)) = some (some (.agg #[.int .i64 0, .int .i64 0, .int .i64 0, .int .i64 0, .int .i64 0, .int .i64 0, .bool false, .bool false, .int .i64 0, .int .i64 0, .int .i64 0, .int .i64 0, .int .i64 0, .slice none 0 0]), 14, 120) := by kernel_rfl
theorem infoIntR : (Try.prog.info? 3).map (fun i => (i.zero, i.size, i.bytes)) = some (some (.int .i64 0), 1, 8) := by kernel_rfl
theorem row_next {w w1 : World} {B : Nat} {e : TypeId} {k n : Nat} {v : Value} {xs : List Value} (h : w.ownsRow B e k v n xs) (j : Ok w w1) : w1.ownsRow B e k v n xs :=
  h.kept (w' := w1) (row := none) ⟨j.below.os, j.below.tape, j.below.output, j.size, fun i hi _ => j.below.block i hi⟩ (by cases v.ownBlock <;> simp)
/-- Where a row's value lies behind an append. -/
def Near2 (v v' : Value) (H : Nat) : Prop := ∃ g cap n, v' = .slice (some ⟨g, 0, none⟩) n cap ∧ (v.ownBlock = some g ∨ g = H)
structure Trio (K : Nat) (w W : World) (P : Nat) (p : Par) (vt va vb : Value) (ts : List MA) (la lb : List Int) : Prop where
  rt : W.ownsRow K 38 14 vt ts.length (ts.flatMap maL)
  ra : W.ownsRow K 3 1 va la.length (la.map (Value.int .i64))
  rb : W.ownsRow K 3 1 vb lb.length (lb.map (Value.int .i64))
  ta : ∀ g, vt.ownBlock = some g → va.ownBlock ≠ some g
  tb : ∀ g, vt.ownBlock = some g → vb.ownBlock ≠ some g
  ab : ∀ g, va.ownBlock = some g → vb.ownBlock ≠ some g
  par : Own W P (parCells p)
  lt : P < K
  low : w.heap.size ≤ K
  high : K ≤ W.heap.size
  ok : Ok w W
namespace Trio
variable {K : Nat} {w W W1 : World} {P : Nat} {p : Par} {vt va vb : Value} {ts : List MA} {la lb : List Int}
theorem next (h : Trio K w W P p vt va vb ts la lb) (k : Ok W W1) : Trio K w W1 P p vt va vb ts la lb :=
  ⟨row_next h.rt k, row_next h.ra k, row_next h.rb k, h.ta, h.tb, h.ab, h.par.next k, h.lt, h.low, Nat.le_trans h.high k.size, h.ok.trans k⟩
theorem alloc (h : Trio K w W P p vt va vb ts la lb) (o : Obj) : Trio K w (W.alloc o) P p vt va vb ts la lb := h.next ((Ok.refl W).alloc o)
theorem start (hP : Own W P (parCells p)) (h1 : P < K) (h2 : w.heap.size ≤ K) (h3 : K ≤ W.heap.size) (hok : Ok w W) : Trio K w W P p (.slice none 0 0) (.slice none 0 0) (.slice none 0 0) [] [] [] :=
  ⟨World.ownsRow_nil _ _ _ _, World.ownsRow_nil _ _ _ _, World.ownsRow_nil _ _ _ _, by simp [Value.ownBlock], by simp [Value.ownBlock], by simp [Value.ownBlock], hP, h1, h2, h3, hok⟩
theorem other {e : TypeId} {k n B : Nat} {xs : List Value} {v u u' : Value} {W' : World} {g cap m : Nat} (h : W.ownsRow B e k v n xs) (hg : W.grownBy W' u.ownBlock) (hne : ∀ g, u.ownBlock = some g → v.ownBlock ≠ some g) (hu : u' = .slice (some ⟨g, 0, none⟩) m cap) (hl : u.ownBlock = some g ∨ g = W.heap.size) :
    W'.ownsRow B e k v n xs ∧ ∀ j, u'.ownBlock = some j → v.ownBlock ≠ some j := by
  subst hu
  refine ⟨h.kept hg ?_, fun j hj hv => ?_⟩
  · cases hb : v.ownBlock with
    | none => exact .inl rfl
    | some k => exact .inr fun e => hne k e.symm hb
  · simp [Value.ownBlock] at hj
    subst hj
    rcases hl with hl | hl
    · exact hne _ hl hv
    · have := (h.lt _ hv).2; omega
theorem parGrown {W' : World} {v : Value} {e : TypeId} {k n : Nat} {xs : List Value} (h : Trio K w W P p vt va vb ts la lb) (hr : W.ownsRow K e k v n xs) (hg : W.grownBy W' v.ownBlock) : Own W' P (parCells p) ∧ K ≤ W'.heap.size ∧ Ok w W' := by
  have hrow : ∀ k, v.ownBlock = some k → K ≤ k := fun k hk => (hr.lt k hk).1
  refine ⟨?_, Nat.le_trans h.high hg.size, Below.grown h.ok hg h.ok.size fun k hk => Nat.le_trans h.low (hrow k hk)⟩
  obtain ⟨t, ht⟩ := h.par
  refine ⟨t, (hg.block P (Array.getElem?_eq_some_iff.1 ht).1 fun e => ?_).trans ht⟩
  have := hrow P e.symm
  have := h.lt
  omega
theorem listT {ops : Array Oper} {rest : List Oper} {o : Oper} {a : Act} {Q : Exit → Act → World → Prop} (h : Trio K w W P p vt va vb ts la lb) (hgd : o.guard = none) (s q : Operand)
    (ho : o.op = .call { callee := .builtin .append, args := #[s, q], argTypes := #[31, 31] })
    (hs : a.eval s = vt) (b m : Nat) (hq : a.eval q = .slice (some ⟨b, 0, none⟩) 1 m) (x : MA) (hb : Own W b (msgCells x.m x.A x.cap)) (hl : ts.length ≤ 1000000)
    (hK : ∀ g cap W', Trio K w W' P p (.slice (some ⟨g, 0, none⟩) (ts.length + 1) cap) va vb (ts ++ [x]) la lb → wpList Try.prog ops Q rest (a.put o.dst (.slice (some ⟨g, 0, none⟩) (ts.length + 1) cap)) W') :
    wpList Try.prog ops Q (o :: rest) a W := by
  obtain ⟨i, i0, i1, i2, i3⟩ := info_parts infoMsg
  refine wpList_append_lies W hgd s q _ ho K _ i _ 14 120 Try.underlying31 i0 i1 i2 i3 rfl (by decide) vt ts.length _ hs h.rt ⟨b, 0, none⟩ 1 m (maL x) hq rfl (fun j u hj => ?_) (fun u hu => ?_) (by decide) (by unfold maxLen; omega) (by omega) h.high W.heap.size rfl fun g cap W' h1 h2 h3 _ => hK g cap W' ?_
  · rw [Go.WideShapes.add_plain, Nat.zero_add]
    exact hb.cell j (by unfold maL at hj; rwa [Array.getElem?_toList] at hj)
  · unfold maL msgCells at hu
    simp only [List.mem_cons, List.not_mem_nil, or_false] at hu
    rcases hu with rfl | rfl | rfl | rfl | rfl | rfl | rfl | rfl | rfl | rfl | rfl | rfl | rfl | rfl <;> rfl
  · obtain ⟨p1, p2, p3⟩ := h.parGrown h.rt h2
    obtain ⟨a1, a2⟩ := other h.ra h2 h.ta rfl h3
    obtain ⟨b1, b2⟩ := other h.rb h2 h.tb rfl h3
    refine ⟨?_, a1, b1, a2, b2, h.ab, p1, h.lt, h.low, p2, p3⟩
    rw [List.flatMap_append, List.length_append, List.flatMap_singleton]
    exact h1
theorem listA {ops : Array Oper} {rest : List Oper} {o : Oper} {a : Act} {Q : Exit → Act → World → Prop} (h : Trio K w W P p vt va vb ts la lb) (hgd : o.guard = none) (s q : Operand)
    (ho : o.op = .call { callee := .builtin .append, args := #[s, q], argTypes := #[24, 24] })
    (hs : a.eval s = va) (b m : Nat) (hq : a.eval q = .slice (some ⟨b, 0, none⟩) 1 m) (z : Int) (hb : W.cell? ⟨b, 0, none⟩ = some (.int .i64 z)) (hl : la.length ≤ 1000000)
    (hK : ∀ g cap W', Trio K w W' P p vt (.slice (some ⟨g, 0, none⟩) (la.length + 1) cap) vb ts (la ++ [z]) lb → wpList Try.prog ops Q rest (a.put o.dst (.slice (some ⟨g, 0, none⟩) (la.length + 1) cap)) W') :
    wpList Try.prog ops Q (o :: rest) a W := by
  obtain ⟨i, i0, i1, i2, i3⟩ := info_parts infoIntR
  refine wpList_append_lies W hgd s q _ ho K _ i (.int .i64 0) 1 8 Try.underlying24 i0 i1 i2 i3 rfl (by decide) va la.length _ hs h.ra ⟨b, 0, none⟩ 1 m [.int .i64 z] hq rfl (fun j u hj => ?_) (fun u hu => by simp at hu; subst hu; rfl) (by decide) (by unfold maxLen; omega) (by omega) h.high W.heap.size rfl fun g cap W' h1 h2 h3 _ => hK g cap W' ?_
  · cases j with
    | zero => simp at hj; subst hj; rw [Go.WideShapes.add_plain]; exact hb
    | succ j => simp at hj
  · obtain ⟨p1, p2, p3⟩ := h.parGrown h.ra h2
    obtain ⟨a1, a2⟩ := other h.rt h2 (fun g e1 e2 => h.ta g e2 e1) rfl h3
    obtain ⟨b1, b2⟩ := other h.rb h2 h.ab rfl h3
    exact ⟨a1, by simpa using h1, b1, fun g e1 e2 => a2 g e2 e1, h.tb, b2, p1, h.lt, h.low, p2, p3⟩
theorem swap (h : Trio K w W P p vt va vb ts la lb) : Trio K w W P p vt vb va ts lb la := ⟨h.rt, h.rb, h.ra, h.tb, h.ta, fun g e1 e2 => h.ab g e2 e1, h.par, h.lt, h.low, h.high, h.ok⟩
theorem listB {ops : Array Oper} {rest : List Oper} {o : Oper} {a : Act} {Q : Exit → Act → World → Prop} (h : Trio K w W P p vt va vb ts la lb) (hgd : o.guard = none) (s q : Operand)
    (ho : o.op = .call { callee := .builtin .append, args := #[s, q], argTypes := #[24, 24] })
    (hs : a.eval s = vb) (b m : Nat) (hq : a.eval q = .slice (some ⟨b, 0, none⟩) 1 m) (z : Int) (hb : W.cell? ⟨b, 0, none⟩ = some (.int .i64 z)) (hl : lb.length ≤ 1000000)
    (hK : ∀ g cap W', Trio K w W' P p vt va (.slice (some ⟨g, 0, none⟩) (lb.length + 1) cap) ts la (lb ++ [z]) → wpList Try.prog ops Q rest (a.put o.dst (.slice (some ⟨g, 0, none⟩) (lb.length + 1) cap)) W') :
    wpList Try.prog ops Q (o :: rest) a W :=
  h.swap.listA hgd s q ho hs b m hq z hb hl fun g cap W' h1 => hK g cap W' h1.swap
/-- What the row of messages reads as. -/
theorem msgs (h : Trio K w W P p vt va vb ts la lb) (ht : ∀ x ∈ ts, PairsAt W x.A x.m.table) : ∃ A c, vt = .slice A ts.length c ∧ MsgsAt W A ts := by
  obtain ⟨A, c, e, hc⟩ := CellsAt.of_own h.rt (by rw [flatMap_length maL 14 maL_len]) (by decide)
  exact ⟨A, c, e, hc, ht⟩
theorem intsA (h : Trio K w W P p vt va vb ts la lb) : ∃ A c, va = .slice A la.length c ∧ IntsAt W A la := IntsAt.of_own h.ra
theorem intsB (h : Trio K w W P p vt va vb ts la lb) : ∃ A c, vb = .slice A lb.length c ∧ IntsAt W A lb := IntsAt.of_own h.rb
end Trio
end Go.Proofs.Ytgkcmiaagbgajaa
