/- Words of my own: two rows of integers of one's own that grow side by side, and a struct of two integers beside them. -/
import Derived.Test.YtlbijepejihjgaaW05
import Derived.Laws.AppendOwn
import Derived.Deep.AppendLies
namespace Go.Proofs.Ytlbijepejihjgaa
open Go.RowKit Go.WideShapes Go.ChangeShapes
/-- Two rows of integers of one's own, va and vb, in blocks that differ; nothing of w has turned; the struct (x, y) lies in block c. -/
structure Duo (w W : World) (e : TypeId) (c : Nat) (x y : Int) (va vb : Value) (la lb : List Int) : Prop where
  ra : W.ownsRow w.heap.size e 1 va la.length (la.map (Value.int .i64))
  rb : W.ownsRow w.heap.size e 1 vb lb.length (lb.map (Value.int .i64))
  apart : ∀ g, va.ownBlock = some g → vb.ownBlock ≠ some g
  na : va.ownBlock ≠ some c
  nb : vb.ownBlock ≠ some c
  c0 : W.cell? ⟨c, 0, none⟩ = some (.int .i64 x)
  c1 : W.cell? ⟨c, 1, none⟩ = some (.int .i64 y)
  lt : c < W.heap.size
  ok : Ok w W
namespace Duo
variable {w W : World} {e : TypeId} {c : Nat} {x y : Int} {va vb : Value} {la lb : List Int}
theorem cells (h : Duo w W e c x y va vb la lb) : W.cell? ⟨c, 0, none⟩ = some (.int .i64 x) ∧ W.cell? ⟨c, 1, none⟩ = some (.int .i64 y) ∧ c < W.heap.size := ⟨h.c0, h.c1, h.lt⟩
theorem start (t : TypeId) (hok : Ok w W) (ra : W.ownsRow w.heap.size e 1 va la.length (la.map (Value.int .i64))) (rb : W.ownsRow w.heap.size e 1 vb lb.length (lb.map (Value.int .i64))) (ap : ∀ g, va.ownBlock = some g → vb.ownBlock ≠ some g) :
    Duo w (W.alloc (.cells #[.int .i64 x, .int .i64 y] t)) e W.heap.size x y va vb la lb :=
  ⟨ra.alloc _, rb.alloc _, ap, fun h => by have := (ra.lt _ h).2; omega, fun h => by have := (rb.lt _ h).2; omega, (Slab.new W x y t rfl).c0, (Slab.new W x y t rfl).c1, (Slab.new W x y t rfl).lt, hok.alloc _⟩
theorem alloc (h : Duo w W e c x y va vb la lb) (o : Obj) : Duo w (W.alloc o) e c x y va vb la lb :=
  ⟨h.ra.alloc o, h.rb.alloc o, h.apart, h.na, h.nb, ((below_alloc W o).cell (p := ⟨c, 0, none⟩) h.lt).trans h.c0, ((below_alloc W o).cell (p := ⟨c, 1, none⟩) h.lt).trans h.c1, Nat.lt_of_lt_of_le h.lt (below_alloc W o).size, h.ok.alloc o⟩
theorem drew (h : Duo w W e c x y va vb la lb) : Duo w W.drew e c x y va vb la lb :=
  ⟨h.ra, h.rb, h.apart, h.na, h.nb, h.c0, h.c1, h.lt, h.ok.drew⟩
theorem swap (h : Duo w W e c x y va vb la lb) : Duo w W e c x y vb va lb la :=
  ⟨h.rb, h.ra, fun g hg hg' => h.apart g hg' hg, h.nb, h.na, h.c0, h.c1, h.lt, h.ok⟩
/-- Behind an append to the first. -/
theorem grown {W' : World} {g cap : Nat} {z : Int} {H : Nat} (h : Duo w W e c x y va vb la lb) (hH : W.heap.size = H) (hr : W'.ownsRow w.heap.size e 1 (.slice (some ⟨g, 0, none⟩) (la.length + 1) cap) (la.length + 1) (la.map (Value.int .i64) ++ [.int .i64 z])) (hg : W.grownBy W' va.ownBlock) (hl : va.ownBlock = some g ∨ g = H) :
    Duo w W' e c x y (.slice (some ⟨g, 0, none⟩) (la.length + 1) cap) vb (la ++ [z]) lb := by
  have hgB : w.heap.size ≤ g := (hr.lt g rfl).1
  have hrow : ∀ k, va.ownBlock = some k → w.heap.size ≤ k := fun k hk => (h.ra.lt k hk).1
  refine ⟨by simpa using hr, h.rb.kept hg ?_, ?_, ?_, h.nb, hg.cell h.c0 fun e => h.na e.symm, hg.cell h.c1 fun e => h.na e.symm, Nat.lt_of_lt_of_le h.lt hg.size, Below.grown h.ok hg h.ok.size hrow⟩
  · cases hb : vb.ownBlock with
    | none => exact .inl rfl
    | some k => exact .inr fun e => h.apart k e.symm hb
  · intro k hk hk'
    simp [Value.ownBlock] at hk
    subst hk
    rcases hl with hl | hl
    · exact h.apart _ hl hk'
    · have := (h.rb.lt _ hk').2; omega
  · intro hk
    simp [Value.ownBlock] at hk
    rcases hl with hl | hl
    · exact h.na (hk ▸ hl)
    · have := h.lt; omega
theorem stepA {P : Program} {ops : Array Oper} {o : Oper} {a : Act} {K : Act → World → Prop} {Q : Exit → Act → World → Prop} {E : Prop} (h : Duo w W e c x y va vb la lb) (hgd : o.guard = none) (s q : Operand) (t : TypeId)
    (ho : o.op = .call { callee := .builtin .append, args := #[s, q], argTypes := #[t, t] }) (ht : P.underlying t = some (.slice e)) (hi : (P.info? e).map (fun i => (i.zero, i.size, i.bytes)) = some (some (.int .i64 0), 1, 8))
    (hs : a.eval s = va) (b m : Nat) (hq : a.eval q = .slice (some ⟨b, 0, none⟩) 1 m) (z : Int) (hb : W.cell? ⟨b, 0, none⟩ = some (.int .i64 z)) (hl : la.length ≤ 1099511627776)
    (hK : ∀ g cap W', Duo w W' e c x y (.slice (some ⟨g, 0, none⟩) (la.length + 1) cap) vb (la ++ [z]) lb → (∀ k v, W.cell? ⟨k, 0, none⟩ = some v → some k ≠ va.ownBlock → W'.cell? ⟨k, 0, none⟩ = some v) → K (a.put o.dst (.slice (some ⟨g, 0, none⟩) (la.length + 1) cap)) W') :
    if Region.wanted o (yielded ops a.tmps) = true then Oper.wp P o a W K Q else E := by
  obtain ⟨i, i0, i1, i2, i3⟩ := info_parts hi
  refine step_append_lies W hgd s q t ho w.heap.size e i (.int .i64 0) 1 8 ht i0 i1 i2 i3 rfl (by decide) va la.length _ hs h.ra ⟨b, 0, none⟩ 1 m [.int .i64 z] hq rfl (fun j u hj => ?_) (fun u hu => by simp at hu; subst hu; rfl) (by decide) (by unfold maxLen; omega) (by omega) h.ok.size W.heap.size rfl fun g cap W' h1 h2 h3 _ => hK g cap W' (h.grown rfl h1 h2 h3) fun k v hk hne => h2.cell hk hne
  cases j with
  | zero => simp at hj; subst hj; rw [Go.WideShapes.add_plain]; exact hb
  | succ j => simp at hj
theorem stepB {P : Program} {ops : Array Oper} {o : Oper} {a : Act} {K : Act → World → Prop} {Q : Exit → Act → World → Prop} {E : Prop} (h : Duo w W e c x y va vb la lb) (hgd : o.guard = none) (s q : Operand) (t : TypeId)
    (ho : o.op = .call { callee := .builtin .append, args := #[s, q], argTypes := #[t, t] }) (ht : P.underlying t = some (.slice e)) (hi : (P.info? e).map (fun i => (i.zero, i.size, i.bytes)) = some (some (.int .i64 0), 1, 8))
    (hs : a.eval s = vb) (b m : Nat) (hq : a.eval q = .slice (some ⟨b, 0, none⟩) 1 m) (z : Int) (hb : W.cell? ⟨b, 0, none⟩ = some (.int .i64 z)) (hl : lb.length ≤ 1099511627776)
    (hK : ∀ g cap W', Duo w W' e c x y va (.slice (some ⟨g, 0, none⟩) (lb.length + 1) cap) la (lb ++ [z]) → (∀ k v, W.cell? ⟨k, 0, none⟩ = some v → some k ≠ vb.ownBlock → W'.cell? ⟨k, 0, none⟩ = some v) → K (a.put o.dst (.slice (some ⟨g, 0, none⟩) (lb.length + 1) cap)) W') :
    if Region.wanted o (yielded ops a.tmps) = true then Oper.wp P o a W K Q else E :=
  h.swap.stepA hgd s q t ho ht hi hs b m hq z hb hl fun g cap W' h1 h2 => hK g cap W' h1.swap h2
theorem listA {P : Program} {ops : Array Oper} {rest : List Oper} {o : Oper} {a : Act} {Q : Exit → Act → World → Prop} (h : Duo w W e c x y va vb la lb) (hgd : o.guard = none) (s q : Operand) (t : TypeId)
    (ho : o.op = .call { callee := .builtin .append, args := #[s, q], argTypes := #[t, t] }) (ht : P.underlying t = some (.slice e)) (hi : (P.info? e).map (fun i => (i.zero, i.size, i.bytes)) = some (some (.int .i64 0), 1, 8))
    (hs : a.eval s = va) (b m : Nat) (hq : a.eval q = .slice (some ⟨b, 0, none⟩) 1 m) (z : Int) (hb : W.cell? ⟨b, 0, none⟩ = some (.int .i64 z)) (hl : la.length ≤ 1099511627776)
    (hK : ∀ g cap W', Duo w W' e c x y (.slice (some ⟨g, 0, none⟩) (la.length + 1) cap) vb (la ++ [z]) lb → wpList P ops Q rest (a.put o.dst (.slice (some ⟨g, 0, none⟩) (la.length + 1) cap)) W') :
    wpList P ops Q (o :: rest) a W := by
  obtain ⟨i, i0, i1, i2, i3⟩ := info_parts hi
  refine wpList_append_lies W hgd s q t ho w.heap.size e i (.int .i64 0) 1 8 ht i0 i1 i2 i3 rfl (by decide) va la.length _ hs h.ra ⟨b, 0, none⟩ 1 m [.int .i64 z] hq rfl (fun j u hj => ?_) (fun u hu => by simp at hu; subst hu; rfl) (by decide) (by unfold maxLen; omega) (by omega) h.ok.size W.heap.size rfl fun g cap W' h1 h2 h3 _ => hK g cap W' (h.grown rfl h1 h2 h3)
  cases j with
  | zero => simp at hj; subst hj; rw [Go.WideShapes.add_plain]; exact hb
  | succ j => simp at hj
theorem listB {P : Program} {ops : Array Oper} {rest : List Oper} {o : Oper} {a : Act} {Q : Exit → Act → World → Prop} (h : Duo w W e c x y va vb la lb) (hgd : o.guard = none) (s q : Operand) (t : TypeId)
    (ho : o.op = .call { callee := .builtin .append, args := #[s, q], argTypes := #[t, t] }) (ht : P.underlying t = some (.slice e)) (hi : (P.info? e).map (fun i => (i.zero, i.size, i.bytes)) = some (some (.int .i64 0), 1, 8))
    (hs : a.eval s = vb) (b m : Nat) (hq : a.eval q = .slice (some ⟨b, 0, none⟩) 1 m) (z : Int) (hb : W.cell? ⟨b, 0, none⟩ = some (.int .i64 z)) (hl : lb.length ≤ 1099511627776)
    (hK : ∀ g cap W', Duo w W' e c x y va (.slice (some ⟨g, 0, none⟩) (lb.length + 1) cap) la (lb ++ [z]) → wpList P ops Q rest (a.put o.dst (.slice (some ⟨g, 0, none⟩) (lb.length + 1) cap)) W') :
    wpList P ops Q (o :: rest) a W :=
  h.swap.listA hgd s q t ho ht hi hs b m hq z hb hl fun g cap W' h1 => hK g cap W' h1.swap
/-- A block behind all that was there is none of theirs. -/
theorem farA (h : Duo w W e c x y va vb la lb) {k : Nat} (hk : W.heap.size ≤ k) : some k ≠ va.ownBlock := fun e => by have := (h.ra.lt k e.symm).2; omega
theorem farB (h : Duo w W e c x y va vb la lb) {k : Nat} (hk : W.heap.size ≤ k) : some k ≠ vb.ownBlock := h.swap.farA hk
end Duo
end Go.Proofs.Ytlbijepejihjgaa
