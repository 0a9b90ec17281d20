/- Contracts of layer 6: the program's message. -/
import Derived.Test.YtacnoakbcilmfaaC06m
import Derived.Test.YtacnoakbcilmfaaC06f
import Derived.Test.YtacnoakbcilmfaaW13
import Derived.OwnWalk
import Derived.Deep.Onto
namespace Go.Proofs.Ytacnoakbcilmfaa
open Go.RowKit
set_option maxRecDepth 100000
attribute [local go_sem ↓] Go.wp_at_zero Go.wp_at_succ
/-- Of the blocks that were there only r may have changed. -/
structure But (r : Nat) (w w' : World) : Prop where
  os : w'.os = w.os
  tape : w'.tape = w.tape
  output : w'.output = w.output
  size : w.heap.size ≤ w'.heap.size
  block : ∀ k, k < w.heap.size → k ≠ r → w'.heap[k]? = w.heap[k]?
namespace But
variable {r M : Nat} {w w1 w2 : World}
theorem refl (r : Nat) (w : World) : But r w w := ⟨rfl, rfl, rfl, Nat.le_refl _, fun _ _ _ => rfl⟩
theorem ok (h : But r w w1) (k : Ok w1 w2) : But r w w2 := ⟨k.below.os.trans h.os, k.below.tape.trans h.tape, k.below.output.trans h.output, Nat.le_trans h.size k.size, fun i a b => (k.below.block i (Nat.lt_of_lt_of_le a h.size)).trans (h.block i a b)⟩
theorem two {a b : Nat} (h : But r w w1) (T : Two a b w1 w2) (ha : a = r ∨ w.heap.size ≤ a) (hb : b = r ∨ w.heap.size ≤ b) : But r w w2 := ⟨T.os.trans h.os, T.tape.trans h.tape, T.output.trans h.output, by rw [T.size]; exact h.size, fun i x y => (T.block i (by omega) (by omega)).trans (h.block i x y)⟩
theorem set (h : But r w w1) {a : Addr} (ha : a.block = r ∨ w.heap.size ≤ a.block) (v : Value) : But r w (w1.setCell a v) :=
  ⟨h.os, h.tape, h.output, by simpa using h.size, fun i h1 h2 => (Below.heap_setCell w1 a v i (by rcases ha with e | e <;> omega)).trans (h.block i h1 h2)⟩
theorem grow (h : But r w w1) {row : Option Nat} (g : w1.grownBy w2 row) (hr : ∀ k, row = some k → w.heap.size ≤ k) : But r w w2 :=
  ⟨g.os.trans h.os, g.tape.trans h.tape, g.output.trans h.output, Nat.le_trans h.size g.size, fun i a b => (g.block i (Nat.lt_of_lt_of_le a h.size) (fun e => by have := hr i e.symm; omega)).trans (h.block i a b)⟩
theorem own (h : But r w w1) {g : Nat} {cs : Array Value} (hO : Own w g cs) (h1 : g ≠ r) : Own w1 g cs := by
  have hl := hO.lt
  obtain ⟨t, ht⟩ := hO
  exact ⟨t, (h.block g hl h1).trans ht⟩
end But
theorem Rd.next {w w1 : World} {r c : Nat} {l : List Nat} (h : Rd w r c l) (k : Ok w w1) : Rd w1 r c l := by
  obtain ⟨A, cap, hO, hB, hl, hm, hA⟩ := h
  exact ⟨A, cap, hO.next k, hB.below k, hl, hm, hA⟩
theorem Rd.grow {w w1 : World} {r c : Nat} {l : List Nat} {row : Option Nat} (h : Rd w r c l) (g : w.grownBy w1 row) (h1 : some r ≠ row) (h2 : some c ≠ row) : Rd w1 r c l := by
  obtain ⟨A, cap, hO, hB, hl, hm, hA⟩ := h
  have hrl := hO.lt
  refine ⟨A, cap, ?_, fun k hk => ?_, hl, hm, hA⟩
  · obtain ⟨t, ht⟩ := hO
    exact ⟨t, (g.block r hrl h1).trans ht⟩
  · obtain ⟨b, off, e, hlt, hc⟩ := hB k hk
    obtain rfl : b = c := hA _ e
    exact ⟨b, off, e, Nat.lt_of_lt_of_le hlt g.size, (g.cell_far ⟨b, off + k, none⟩ hlt h2).trans hc⟩
/-- The cells of a message whose table is v. -/
def mCells (m : Msg) (v : Value) : Array Value := #[.int .i64 m.kind, .int .i64 m.frm, .int .i64 m.lo, .int .i64 m.hi, .int .i64 m.held, .int .i64 m.hops, .bool m.good, .bool m.ref, .int .i64 m.slo, .int .i64 m.shi, .int .i64 m.pulse, .int .i64 m.time, .int .i64 m.num, v]
/-- No message's cells. -/
def zeroCells0 : Array Value := #[.int .i64 0, .int .i64 0, .int .i64 0, .int .i64 0, .int .i64 0, .int .i64 0, .bool false, .bool false, .int .i64 0, .int .i64 0, .int .i64 0, .int .i64 0, .int .i64 0, .slice none 0 0]
/-- Cells behind the head. -/
def hCells (l : List Nat) : Array Value := #[.int .i64 (Wire.byteAt l 0 : Nat), .int .i64 (Wire.byteAt l 1 : Nat), .int .i64 0, .int .i64 0, .int .i64 0, .int .i64 0, .bool (Wire.byteAt l 2 % 2 == 1), .bool (Wire.byteAt l 2 / 2 % 2 == 1), .int .i64 0, .int .i64 0, .int .i64 0, .int .i64 0, .int .i64 0, .slice none 0 0]
theorem hCells_set (l : List Nat) : setAll (hCells l) [2, 3, 4, 5, 8, 9, 10, 11, 12] (l.drop 4) 9 = mCells (Wire.parse l) (.slice none 0 0) := by
  unfold hCells mCells Wire.parse Wire.rest8
  simp only [setAll]
  generalize Wire.at8 (l.drop 4) 0 = a0
  generalize Wire.at8 (l.drop 4) 1 = a1
  generalize Wire.at8 (l.drop 4) 2 = a2
  generalize Wire.at8 (l.drop 4) 3 = a3
  generalize Wire.at8 (l.drop 4) 4 = a4
  generalize Wire.at8 (l.drop 4) 5 = a5
  generalize Wire.at8 (l.drop 4) 6 = a6
  generalize Wire.at8 (l.drop 4) 7 = a7
  generalize Wire.at8 (l.drop 4) 8 = a8
  generalize Wire.byteAt l 0 = b0
  generalize Wire.byteAt l 1 = b1
  generalize Wire.byteAt l 2 = b2
  simp
theorem two_set (l : List Nat) : setAll #[.int .i64 0, .int .i64 0] [0, 1] l 2 = #[.int .i64 (Wire.at8 l 0), .int .i64 (Wire.at8 l 1)] := rfl
/-- The first k entries. -/
def entAt (l : List Nat) (i : Nat) : Int × Int := (Wire.rest8 l (9 + 2 * i), Wire.rest8 l (10 + 2 * i))
theorem parse_table (l : List Nat) : (Wire.parse l).table = (List.range (Wire.byteAt l 3)).map (entAt l) := rfl
theorem entAt_read (l : List Nat) (i : Nat) : entAt l i = (Wire.at8 (l.drop (76 + 16 * i)) 0, Wire.at8 (l.drop (76 + 16 * i)) 1) := by
  unfold entAt Wire.rest8 Wire.at8
  simp only [List.drop_drop]
  congr 4
  · omega
  · omega
theorem cells_snoc (l : List (Int × Int)) (e : Int × Int) : cellsOfPairs (l ++ [e]) = cellsOfPairs l ++ [.int .i64 e.1, .int .i64 e.2] := by simp [cellsOfPairs]
theorem and8_1 (b : Nat) (h : b < 4) : (bits .and .u8 (b : Int) 1 != 0) = (b % 2 == 1) := by
  match b, h with
  | 0, _ => rfl
  | 1, _ => rfl
  | 2, _ => rfl
  | 3, _ => rfl
theorem and8_2 (b : Nat) (h : b < 4) : (bits .and .u8 (b : Int) 2 != 0) = (b / 2 % 2 == 1) := by
  match b, h with
  | 0, _ => rfl
  | 1, _ => rfl
  | 2, _ => rfl
  | 3, _ => rfl
theorem head_byte {l : List Nat} {k : Nat} (h : k < l.length) : Wire.byteAt l k = l[k] := by
  unfold Wire.byteAt
  rw [List.getElem?_eq_getElem h]
  rfl
theorem Two.drew {r M : Nat} {w w1 : World} (h : Two r M w w1) : Two r M w w1.drew := ⟨h.os, h.tape, h.output, h.size, h.block⟩
theorem Rd.two {w w1 : World} {r c a : Nat} {l : List Nat} (h : Rd w r c l) (T : Two a a w w1) (h1 : r ≠ a) (h2 : c ≠ a) : Rd w1 r c l := by
  obtain ⟨A, cap, hO, hB, hl, hm, hA⟩ := h
  exact ⟨A, cap, T.own hO h1 h1, T.bytes hB hA h2 h2, hl, hm, hA⟩
theorem wireNumbersG (r M c p cp n : Nat) (l os : List Nat) (hnn : n = os.length) (cs : Array Value) (w : World) (hR : Rd w r c l) (hM : Own w M cs) (hP : ∀ k (h : k < os.length), w.cell? ⟨p, k, none⟩ = some (.pointer (some ⟨M, os[k], none⟩))) (hos : ∀ o ∈ os, o < cs.size) (hb : ∀ b ∈ l, b < 256)
    (hrM : r ≠ M) (hcr : c ≠ r) (hcM : c ≠ M) (hpr : p ≠ r) (hpM : p ≠ M) (hn : os.length ≤ 100) (hlen : 8 * os.length ≤ l.length) :
    Calls Try.prog 42 #[.pointer (some ⟨r, 0, none⟩), .slice (some ⟨p, 0, none⟩) n cp] w fun e w' => e = .returned (.tuple #[]) ∧ Two r M w w' ∧ Rd w' r c (l.drop (8 * os.length)) ∧ Own w' M (setAll cs os l os.length) :=
  (wireNumbers r M c p cp n l os hnn cs w hR hM hP hos hb hrM hcr hcM hpr hpM hn).mono fun e w' ⟨h1, h2⟩ => by
    rcases h2 with ⟨_, h3, h4, h5⟩ | ⟨h3, _⟩
    · exact ⟨h3, h1, h4, h5⟩
    · omega
theorem wireNumbersB (r M c p cp n : Nat) (l os : List Nat) (hnn : n = os.length) (cs : Array Value) (w : World) (hR : Rd w r c l) (hM : Own w M cs) (hP : ∀ k (h : k < os.length), w.cell? ⟨p, k, none⟩ = some (.pointer (some ⟨M, os[k], none⟩))) (hos : ∀ o ∈ os, o < cs.size) (hb : ∀ b ∈ l, b < 256)
    (hrM : r ≠ M) (hcr : c ≠ r) (hcM : c ≠ M) (hpr : p ≠ r) (hpM : p ≠ M) (hn : os.length ≤ 100) (hlen : l.length < 8 * os.length) :
    Calls Try.prog 42 #[.pointer (some ⟨r, 0, none⟩), .slice (some ⟨p, 0, none⟩) n cp] w fun e w' => e = .panicked (why 4) ∧ Two r M w w' :=
  (wireNumbers r M c p cp n l os hnn cs w hR hM hP hos hb hrM hcr hcM hpr hpM hn).mono fun e w' ⟨h1, h2⟩ => by
    rcases h2 with ⟨h3, _⟩ | ⟨_, h3⟩
    · omega
    · exact ⟨h3, h1⟩
theorem nine_ptrs {w : World} {p M : Nat} (hp : Own w p #[.pointer (some ⟨M, 2, none⟩), .pointer (some ⟨M, 3, none⟩), .pointer (some ⟨M, 4, none⟩), .pointer (some ⟨M, 5, none⟩), .pointer (some ⟨M, 8, none⟩), .pointer (some ⟨M, 9, none⟩), .pointer (some ⟨M, 10, none⟩), .pointer (some ⟨M, 11, none⟩), .pointer (some ⟨M, 12, none⟩)]) :
    ∀ k (h : k < [2, 3, 4, 5, 8, 9, 10, 11, 12].length), w.cell? ⟨p, k, none⟩ = some (.pointer (some ⟨M, [2, 3, 4, 5, 8, 9, 10, 11, 12][k], none⟩)) := fun k hk => by
  have hk9 : k < 9 := hk
  match k, hk9 with
  | 0, _ => exact hp.cell 0 rfl
  | 1, _ => exact hp.cell 1 rfl
  | 2, _ => exact hp.cell 2 rfl
  | 3, _ => exact hp.cell 3 rfl
  | 4, _ => exact hp.cell 4 rfl
  | 5, _ => exact hp.cell 5 rfl
  | 6, _ => exact hp.cell 6 rfl
  | 7, _ => exact hp.cell 7 rfl
  | 8, _ => exact hp.cell 8 rfl
theorem two_ptrs {w : World} {p M : Nat} (hp : Own w p #[.pointer (some ⟨M, 0, none⟩), .pointer (some ⟨M, 1, none⟩)]) :
    ∀ k (h : k < [0, 1].length), w.cell? ⟨p, k, none⟩ = some (.pointer (some ⟨M, [0, 1][k], none⟩)) := fun k hk => by
  have hk9 : k < 2 := hk
  match k, hk9 with
  | 0, _ => exact hp.cell 0 rfl
  | 1, _ => exact hp.cell 1 rfl
theorem leapInfo : (Try.prog.info? 45).map (fun i => (i.zero, i.size, i.bytes)) = some (some (.agg #[.int .i64 0, .int .i64 0]), 2, 16) := by kernel_rfl
theorem row_slice {w : World} {B : Nat} {e : TypeId} {s n : Nat} {v : Value} {xs : List Value} (h : w.ownsRow B e s v n xs) : ∃ A cap, v = .slice A n cap := by
  rcases h.2 with ⟨rfl, rfl⟩ | ⟨g, cap, _, rfl, _⟩
  · exact ⟨none, 0, rfl⟩
  · exact ⟨_, cap, rfl⟩
/-- The message in the making: its numbers in the block M, j entries in a row of its own, the bytes q left. -/
structure Msgs (l q : List Nat) (r c G M j : Nat) (v : Value) (w0 w : World) : Prop where
  own : Own w M (mCells (Wire.parse l) v)
  row : w.ownsRow (M + 1) 45 2 v j (cellsOfPairs ((List.range j).map (entAt l)))
  rd : Rd w r c q
  but : But r w0 w
  res : Own w G zeroCells0
namespace Msgs
variable {l q : List Nat} {r c G M j : Nat} {v : Value} {w0 w w1 : World}
theorem ok (h : Msgs l q r c G M j v w0 w) (k : Ok w w1) : Msgs l q r c G M j v w0 w1 :=
  ⟨h.own.next k, h.row.kept (w' := w1) (row := none) ⟨k.below.os, k.below.tape, k.below.output, k.size, fun i hi _ => k.below.block i hi⟩ (by cases h : v.ownBlock <;> simp), h.rd.next k, h.but.ok k, h.res.next k⟩
theorem row_block (h : Msgs l q r c G M j v w0 w) {b : Nat} (hb : v.ownBlock = some b) : M + 1 ≤ b ∧ b < w.heap.size := h.row.lt b hb
theorem two {X : Nat} {q' : List Nat} (h : Msgs l q r c G M j v w0 w) (T : Two r X w w1) (hr : Rd w1 r c q') (hrM : r < M) (hX : ∀ b, v.ownBlock = some b → b ≠ X) (hXM : M ≠ X) (hXG : G ≠ X) (hGr : G ≠ r) (hX0 : w0.heap.size ≤ X) : Msgs l q' r c G M j v w0 w1 := by
  refine ⟨T.own h.own (by omega) hXM, ?_, hr, h.but.two T (.inl rfl) (.inr hX0), T.own h.res hGr hXG⟩
  obtain ⟨x1, x2⟩ := h.row
  refine ⟨x1, ?_⟩
  rcases x2 with x2 | ⟨g', cp, cur, e1, e2, e3, e4⟩
  · exact .inl x2
  · have hb : v.ownBlock = some g' := by rw [e1]; rfl
    exact .inr ⟨g', cp, cur, e1, e2, (T.block g' (by have := h.row_block hb; omega) (hX g' hb)).trans e3, e4⟩
/-- One entry more. -/
theorem push {W : World} {h2 cap2 H : Nat} (h : Msgs l q r c G M j v w0 w) (k : Ok w W) (hH : W.heap.size = H) (hg : W.grownBy w1 v.ownBlock) (hown : w1.ownsRow (M + 1) 45 2 (.slice (some ⟨h2, 0, none⟩) (j + 1) cap2) (j + 1) (cellsOfPairs ((List.range (j + 1)).map (entAt l)))) (hat : v.ownBlock = some h2 ∨ h2 = H)
    (hrM : r < M) (hcM : c < M) (hGM : G < M) (hw0 : w0.heap.size ≤ G) : Msgs l q r c G M (j + 1) (.slice (some ⟨h2, 0, none⟩) (j + 1) cap2) w0 (w1.setCell ⟨M, 13, none⟩ (.slice (some ⟨h2, 0, none⟩) (j + 1) cap2)) := by
  have hne : ∀ b, b ≤ M → some b ≠ v.ownBlock := fun b hb e => by
    have := h.row_block e.symm
    omega
  have hW := h.ok k
  have hMl := hW.own.lt
  have h2M : h2 ≠ M := by
    rcases hat with e | e
    · have := h.row_block e; omega
    · omega
  refine ⟨?_, ?_, ?_, ?_, ?_⟩
  · have hO1 : Own w1 M (mCells (Wire.parse l) v) := by
      obtain ⟨t, ht⟩ := hW.own
      exact ⟨t, (hg.block M hMl (hne M (Nat.le_refl _))).trans ht⟩
    exact hO1.set 13 _
  · obtain ⟨x1, x2⟩ := hown
    refine ⟨x1, ?_⟩
    rcases x2 with ⟨x2, _⟩ | ⟨g', cp, cur, e1, e2, e3, e4⟩
    · cases x2
    · cases e1
      exact .inr ⟨h2, _, cur, rfl, e2, (Below.heap_setCell w1 ⟨M, 13, none⟩ _ h2 h2M).trans e3, e4⟩
  · exact (hW.rd.grow hg (hne r (by omega)) (hne c (by omega))).setOther (a := ⟨M, 13, none⟩) (by show M ≠ r; omega) (by show M ≠ c; omega) _
  · exact (hW.but.grow hg (fun b hb => by have := h.row_block hb; omega)).set (.inr (by show w0.heap.size ≤ M; omega)) _
  · have hGl := hW.res.lt
    have hG1 : Own w1 G zeroCells0 := by
      obtain ⟨t, ht⟩ := hW.res
      exact ⟨t, (hg.block G hGl (hne G (by omega))).trans ht⟩
    exact hG1.setOther (a := ⟨M, 13, none⟩) (by show G ≠ M; omega) _
/-- append of one entry, in a plain region. -/
theorem append {ops : Array Oper} {rest : List Oper} {o : Oper} {a : Act} {Q : Exit → Act → World → Prop} {W : World} {B n : Nat} {t : TypeId} {x y : Int} (h : Msgs l q r c G M j v w0 w) (k : Ok w W) (hgd : o.guard = none) (s u : Operand) (ho : o.op = .call { callee := .builtin .append, args := #[s, u], argTypes := #[26, 26] })
    (hs : a.eval s = v) (hu : a.eval u = .slice (some ⟨B, 0, none⟩) 1 1) (hB : W.heap[B]? = some (.cells #[.int .i64 x, .int .i64 y] t (0, 0))) (he : entAt l j = (x, y)) (hj : j ≤ 1000) (hrM : r < M) (hcM : c < M) (hGM : G < M) (hw0 : w0.heap.size ≤ G) (hn : n = j + 1)
    (hK : ∀ h2 cap2 w1, w1.cell? ⟨M, 13, none⟩ = some v → w1.frozen? ⟨M, 13, none⟩ = false → Msgs l q r c G M (j + 1) (.slice (some ⟨h2, 0, none⟩) n cap2) w0 (w1.setCell ⟨M, 13, none⟩ (.slice (some ⟨h2, 0, none⟩) n cap2)) → wpList Try.prog ops Q rest (a.put o.dst (.slice (some ⟨h2, 0, none⟩) n cap2)) w1) : wpList Try.prog ops Q (o :: rest) a W := by
  subst hn
  obtain ⟨i, i0, i1, i2, i3⟩ := info_parts leapInfo
  have hW := h.ok k
  have hMl := hW.own.lt
  refine wpList_append_lies W hgd s u 26 ho (M + 1) 45 i (.agg #[.int .i64 0, .int .i64 0]) 2 16 Try.underlying26 i0 i1 i2 i3 rfl (by decide) v j _ hs hW.row ⟨B, 0, none⟩ 1 1 [.int .i64 x, .int .i64 y] hu rfl (World.news_of_block hB) (fun z hz => ?_) (by decide) (by unfold maxLen; omega) (by omega) (by omega) _ rfl ?_
  · simp only [List.mem_cons, List.not_mem_nil, or_false] at hz
    rcases hz with rfl | rfl <;> rfl
  intro g2 cap2 w1 hown hgrow hat hlt
  have hne : some M ≠ v.ownBlock := fun e => by
    have := h.row_block e.symm
    omega
  rw [show cellsOfPairs ((List.range j).map (entAt l)) ++ [.int .i64 x, .int .i64 y] = cellsOfPairs ((List.range (j + 1)).map (entAt l)) by
    rw [List.range_succ, List.map_append, List.map_cons, List.map_nil, cells_snoc, he]] at hown
  exact hK g2 cap2 w1 ((hgrow.cell_far ⟨M, 13, none⟩ hMl hne).trans (hW.own.cell 13 rfl)) ((hgrow.frozen_far ⟨M, 13, none⟩ hMl hne).trans (hW.own.frozen 13)) (h.push k rfl hgrow hown hat hrM hcM hGM hw0)
end Msgs
theorem entry_read (l : List Nat) (j : Nat) : setAll #[.int .i64 0, .int .i64 0] [0, 1] (l.drop (76 + 16 * j)) 2 = #[.int .i64 (entAt l j).1, .int .i64 (entAt l j).2] := by
  rw [entAt_read]; rfl
theorem row_two {w w1 : World} {r X B n sz : Nat} {e : TypeId} {v : Value} {xs : List Value} (h : w.ownsRow B e sz v n xs) (T : Two r X w w1) (hb : ∀ b, v.ownBlock = some b → b ≠ r ∧ b ≠ X) : w1.ownsRow B e sz v n xs := by
  obtain ⟨x1, x2⟩ := h
  refine ⟨x1, ?_⟩
  rcases x2 with x2 | ⟨g', cp, cur, e1, e2, e3, e4⟩
  · exact .inl x2
  · obtain ⟨h1, h2⟩ := hb g' (by rw [e1]; rfl)
    exact .inr ⟨g', cp, cur, e1, e2, (T.block g' h1 h2).trans e3, e4⟩
/-- A message is stored whole over no message. -/
theorem msg_over {w1 : World} {G : Nat} (m : Msg) (v : Value) (hO : Own w1 G zeroCells0) : Own ((((((((((((((w1.setCell ⟨G, 0, none⟩ (.int .i64 m.kind)).setCell ⟨G, 1, none⟩ (.int .i64 m.frm)).setCell ⟨G, 2, none⟩ (.int .i64 m.lo)).setCell ⟨G, 3, none⟩ (.int .i64 m.hi)).setCell ⟨G, 4, none⟩ (.int .i64 m.held)).setCell ⟨G, 5, none⟩ (.int .i64 m.hops)).setCell ⟨G, 6, none⟩ (.bool m.good)).setCell ⟨G, 7, none⟩ (.bool m.ref)).setCell ⟨G, 8, none⟩ (.int .i64 m.slo)).setCell ⟨G, 9, none⟩ (.int .i64 m.shi)).setCell ⟨G, 10, none⟩ (.int .i64 m.pulse)).setCell ⟨G, 11, none⟩ (.int .i64 m.time)).setCell ⟨G, 12, none⟩ (.int .i64 m.num)).setCell ⟨G, 13, none⟩ v) G (mCells m v) ∧ Two G G w1 ((((((((((((((w1.setCell ⟨G, 0, none⟩ (.int .i64 m.kind)).setCell ⟨G, 1, none⟩ (.int .i64 m.frm)).setCell ⟨G, 2, none⟩ (.int .i64 m.lo)).setCell ⟨G, 3, none⟩ (.int .i64 m.hi)).setCell ⟨G, 4, none⟩ (.int .i64 m.held)).setCell ⟨G, 5, none⟩ (.int .i64 m.hops)).setCell ⟨G, 6, none⟩ (.bool m.good)).setCell ⟨G, 7, none⟩ (.bool m.ref)).setCell ⟨G, 8, none⟩ (.int .i64 m.slo)).setCell ⟨G, 9, none⟩ (.int .i64 m.shi)).setCell ⟨G, 10, none⟩ (.int .i64 m.pulse)).setCell ⟨G, 11, none⟩ (.int .i64 m.time)).setCell ⟨G, 12, none⟩ (.int .i64 m.num)).setCell ⟨G, 13, none⟩ v) := by
  refine ⟨?_, (((((((((((((((Two.refl G G w1).set (a := ⟨G, 0, none⟩) (.inl rfl) (.int .i64 m.kind)).set (a := ⟨G, 1, none⟩) (.inl rfl) (.int .i64 m.frm)).set (a := ⟨G, 2, none⟩) (.inl rfl) (.int .i64 m.lo)).set (a := ⟨G, 3, none⟩) (.inl rfl) (.int .i64 m.hi)).set (a := ⟨G, 4, none⟩) (.inl rfl) (.int .i64 m.held)).set (a := ⟨G, 5, none⟩) (.inl rfl) (.int .i64 m.hops)).set (a := ⟨G, 6, none⟩) (.inl rfl) (.bool m.good)).set (a := ⟨G, 7, none⟩) (.inl rfl) (.bool m.ref)).set (a := ⟨G, 8, none⟩) (.inl rfl) (.int .i64 m.slo)).set (a := ⟨G, 9, none⟩) (.inl rfl) (.int .i64 m.shi)).set (a := ⟨G, 10, none⟩) (.inl rfl) (.int .i64 m.pulse)).set (a := ⟨G, 11, none⟩) (.inl rfl) (.int .i64 m.time)).set (a := ⟨G, 12, none⟩) (.inl rfl) (.int .i64 m.num)).set (a := ⟨G, 13, none⟩) (.inl rfl) v)⟩
  have h := ((((((((((((((hO.set 0 (.int .i64 m.kind)).set 1 (.int .i64 m.frm)).set 2 (.int .i64 m.lo)).set 3 (.int .i64 m.hi)).set 4 (.int .i64 m.held)).set 5 (.int .i64 m.hops)).set 6 (.bool m.good)).set 7 (.bool m.ref)).set 8 (.int .i64 m.slo)).set 9 (.int .i64 m.shi)).set 10 (.int .i64 m.pulse)).set 11 (.int .i64 m.time)).set 12 (.int .i64 m.num)).set 13 v)
  unfold zeroCells0 at h
  simp only [Array.set!_eq_setIfInBounds, List.setIfInBounds_toArray, List.set_cons_zero, List.set_cons_succ] at h
  exact h
/-- May a message be read of these bytes? -/
def reads (l : List Nat) : Bool := Wire.fits l && decide (Wire.byteAt l 2 < 4)
set_option maxHeartbeats 3200000 in
theorem wireMessage (r c : Nat) (l : List Nat) (w : World) (hR : Rd w r c l) (hb : ∀ b ∈ l, b < 256) (hcr : c ≠ r) (hcw : c < w.heap.size) :
    Calls Try.prog 35 #[.pointer (some ⟨r, 0, none⟩)] w fun e w' => But r w w' ∧ ((reads l = true ∧ ∃ A cap, e = .returned (msgV (Wire.parse l) A cap) ∧ w'.ownsRow w.heap.size 45 2 (.slice A (Wire.parse l).table.length cap) (Wire.parse l).table.length (cellsOfPairs (Wire.parse l).table)) ∨ (reads l = false ∧ e = .panicked (why 4))) := by
  have hz : ∀ w, Sem.run Try.prog (zeroValue 28) w = .ok (.agg #[.int .i64 0, .int .i64 0, .int .i64 0, .int .i64 0, .int .i64 0, .int .i64 0, .bool false, .bool false, .int .i64 0, .int .i64 0, .int .i64 0, .int .i64 0, .int .i64 0, .slice none 0 0]) w := fun w => by kernel_rfl
  obtain ⟨A, cap, hO, hB, hlc, hcm, hAc⟩ := hR
  have hrw := hO.lt
  have hok2 : Ok w ((w.alloc (.cells #[.int .i64 0, .int .i64 0, .int .i64 0, .int .i64 0, .int .i64 0, .int .i64 0, .bool false, .bool false, .int .i64 0, .int .i64 0, .int .i64 0, .int .i64 0, .int .i64 0, .slice none 0 0] 28)).alloc (.cells #[.int .i64 0, .int .i64 0, .int .i64 0, .int .i64 0, .int .i64 0, .int .i64 0, .bool false, .bool false, .int .i64 0, .int .i64 0, .int .i64 0, .int .i64 0, .int .i64 0, .slice none 0 0] 28)) := ((Ok.refl w).alloc _).alloc _
  by_cases h4 : l.length < 4
  · have hf : reads l = false := by
      unfold reads Wire.fits
      rw [decide_eq_false (by omega)]; rfl
    have KT := Lib.hid fun W (h : Own W r #[.slice A l.length cap]) => wireTakeNot A r cap 4 l.length 4 rfl W h h4
    have HO := Lib.hid hO
    have HF := Lib.hid hf
    have HK := Lib.hid hok2
    clear hB hlc hcm hAc hf hok2 hO
    go_enter Try.func35, Try.ntmps35
    go_wp2_with ((go_at_call 41; (with_reducible refine (KT.out _ (HO.out.next HK.out)).mono ?_); rintro e w1 ⟨rfl, rfl⟩))
    exact ⟨rfl, (But.refl r w).ok HK.out, .inr ⟨HF.out, rfl⟩⟩
  · obtain ⟨b0, o, hAe, hb0, -⟩ := hB 0 (by omega)
    obtain rfl : b0 = c := hAc _ hAe
    subst hAe
    have HO := Lib.hid (hO.next hok2)
    have HB := Lib.hid (hB.below hok2)
    have HK := Lib.hid hok2
    have KT := Lib.hid (wireTake r b0 o cap 4 l.length 4 rfl _ HO.out (by omega) hlc hcm)
    have hsz : (w.alloc (.cells zeroCells0 28)).heap.size = w.heap.size + 1 := by simp
    have hM0 : Own ((w.alloc (.cells zeroCells0 28)).alloc (.cells zeroCells0 28)) (w.heap.size + 1) zeroCells0 := hsz ▸ Own.new (w.alloc (.cells zeroCells0 28)) zeroCells0 28 rfl
    have KK := Lib.hid fun (W1 : World) (X : Option Addr) (hW1 : W1 = (((w.alloc (.cells zeroCells0 28)).alloc (.cells zeroCells0 28)).setCell ⟨r, 0, none⟩ (.slice X (l.length - 4) (cap - 4)))) (hX1 : 4 < l.length → X = some ⟨b0, o + 4, none⟩) (hX2 : ∀ a, X = some a → a.block = b0) =>
      (⟨by rw [hW1]; exact Rd.taken (n := 4) HO.out HB.out hcr hlc hcm hX1 hX2,
        by rw [hW1]; exact ((Two.refl r r _).set (a := ⟨r, 0, none⟩) (.inl rfl) _).bytes HB.out hAc hcr hcr,
        by rw [hW1]; exact hM0.setOther (a := ⟨r, 0, none⟩) (by show w.heap.size + 1 ≠ r; omega) _,
        by rw [hW1]; exact ((Own.new w zeroCells0 28 rfl).alloc (.cells zeroCells0 28)).setOther (a := ⟨r, 0, none⟩) (by show w.heap.size ≠ r; omega) _,
        by rw [hW1]; exact ((But.refl r w).ok HK.out).set (.inl rfl) _⟩ : Rd W1 r b0 (l.drop 4) ∧ BytesAt W1 (some ⟨b0, o, none⟩) l ∧ Own W1 (w.heap.size + 1) zeroCells0 ∧ Own W1 w.heap.size zeroCells0 ∧ But r w W1)
    clear hO hB hlc hcm hok2 hM0 hsz
    go_enter Try.func35, Try.ntmps35
    go_upto_region 3 with ((go_at_call 41; (with_reducible refine KT.out.mono ?_); rintro e W1 ⟨rfl, X, hw, hX1, hX2⟩; obtain ⟨hRd1, hB1, hM1, hG1, hBut1⟩ := KK.out W1 X hw hX1 hX2; clear hw hX1 hX2 KK))
    obtain ⟨G, hG⟩ : ∃ G, w.heap.size = G := ⟨_, rfl⟩
    have HG := Lib.hid hG
    rw [hG] at hM1 hG1 hrw hcw hb0 ⊢
    obtain ⟨M, hM⟩ : ∃ M, G + 1 = M := ⟨_, rfl⟩
    rw [hM] at hM1 ⊢
    have hrM : r ≠ M := by omega
    have hcM : b0 ≠ M := by omega
    have hGM : G ≠ M := by omega
    have hMG : G < M := by omega
    have HRd1 := Lib.hid hRd1
    have HB1 := Lib.hid hB1
    have HM1 := Lib.hid hM1
    have HG1 := Lib.hid hG1
    have HBut1 := Lib.hid hBut1
    clear hG hM HO HB HK KT hRd1 hB1 hG1 hBut1
    have byte : ∀ k (h : k < l.length), W1.cell? ⟨b0, o + k, none⟩ = some (.int .u8 (Wire.byteAt l k : Nat)) := fun k h => by
      obtain ⟨_, _, e, _, hc⟩ := HB1.out k h
      cases e
      rw [hc, head_byte h]
    have y0 := byte 0 (by omega)
    have y1 := byte 1 (by omega)
    have y2 := byte 2 (by omega)
    have y3 := byte 3 (by omega)
    rw [Nat.add_zero] at y0
    have z0 := Wire.byteAt_lt hb 0
    have z1 := Wire.byteAt_lt hb 1
    have z2 := Wire.byteAt_lt hb 2
    have z3 := Wire.byteAt_lt hb 3
    obtain ⟨x0, h0⟩ : ∃ x, Wire.byteAt l 0 = x := ⟨_, rfl⟩
    obtain ⟨x1, h1⟩ : ∃ x, Wire.byteAt l 1 = x := ⟨_, rfl⟩
    obtain ⟨x2, h2⟩ : ∃ x, Wire.byteAt l 2 = x := ⟨_, rfl⟩
    obtain ⟨x3, h3⟩ : ∃ x, Wire.byteAt l 3 = x := ⟨_, rfl⟩
    rw [h0] at y0 z0
    rw [h1] at y1 z1
    rw [h2] at y2 z2
    rw [h3] at y3 z3
    have m0 := hM1.cell 0 (v := .int .i64 0) rfl
    have m1 := hM1.cell 1 (v := .int .i64 0) rfl
    have m6 := hM1.cell 6 (v := .bool false) rfl
    have m7 := hM1.cell 7 (v := .bool false) rfl
    have n0 := hM1.frozen 0
    have n1 := hM1.frozen 1
    have n6 := hM1.frozen 6
    have n7 := hM1.frozen 7
    clear byte hM1
    go_region
    have T2 : Two M M W1 ((W1.setCell ⟨M, 0, none⟩ (.int .i64 x0)).setCell ⟨M, 1, none⟩ (.int .i64 x1)).drew := (((Two.refl M M W1).set (a := ⟨M, 0, none⟩) (.inl rfl) _).set (a := ⟨M, 1, none⟩) (.inl rfl) _).drew
    have hM2 : Own ((W1.setCell ⟨M, 0, none⟩ (.int .i64 x0)).setCell ⟨M, 1, none⟩ (.int .i64 x1)).drew M ((zeroCells0.set! 0 (.int .i64 x0)).set! 1 (.int .i64 x1)) := ((HM1.out.set 0 _).set 1 _).drew
    generalize ((W1.setCell ⟨M, 0, none⟩ (.int .i64 x0)).setCell ⟨M, 1, none⟩ (.int .i64 x1)).drew = W2 at T2 hM2 ⊢
    have HRd2 := Lib.hid (HRd1.out.two T2 hrM hcM)
    have HB2 := Lib.hid (T2.bytes HB1.out hAc hcM hcM)
    have HBut2 := Lib.hid (HBut1.out.two T2 (.inr (by have := HG.out; omega)) (.inr (by have := HG.out; omega)))
    have HG2 := Lib.hid (T2.own HG1.out hGM hGM)
    replace y2 := (T2.cell (a := ⟨b0, o + 2, none⟩) hcM hcM).trans y2
    replace y3 := (T2.cell (a := ⟨b0, o + 3, none⟩) hcM hcM).trans y3
    replace m6 := hM2.cell 6 (v := .bool false) rfl
    replace m7 := hM2.cell 7 (v := .bool false) rfl
    replace n6 := hM2.frozen 6
    replace n7 := hM2.frozen 7
    have HM2 := Lib.hid hM2
    have H0 := Lib.hid h0
    have H1 := Lib.hid h1
    have H2 := Lib.hid h2
    have H3 := Lib.hid h3
    clear T2 hM2 HRd1 HB1 HM1 HG1 HBut1 y0 y1 m0 m1 n0 n1 h0 h1 h2 h3
    by_cases hx2 : 4 ≤ x2
    · have d1 : decide ((x2 : Int) ≤ 3) = false := decide_eq_false (by omega)
      have d2 : ((x2 : Int) ≤ 3) = False := eq_false (by omega)
      have d3 : (x2 ≤ 3) = False := eq_false (by omega)
      have hf : reads l = false := by
        unfold reads
        rw [H2.out, decide_eq_false (p := x2 < 4) (by omega), Bool.and_false]
      have HF := Lib.hid hf
      clear hf
      go_wp2_with ((go_at_call 33; (with_reducible refine (wireMustNot _ _).mono ?_); rintro e w1 ⟨rfl, rfl⟩))
      exact ⟨rfl, HBut2.out, .inr ⟨HF.out, rfl⟩⟩
    have d1 : decide ((x2 : Int) ≤ 3) = true := decide_eq_true (by omega)
    have d2 : (x2 : Int) ≤ 3 := by omega
    go_wp2_with ((go_at_call 33; (with_reducible refine (wireMust _ _).mono ?_); rintro e w1 ⟨rfl, rfl⟩))
    obtain ⟨g1, hg1⟩ : ∃ g : Bool, (x2 % 2 == 1) = g := ⟨_, rfl⟩
    obtain ⟨g2, hg2⟩ : ∃ g : Bool, (x2 / 2 % 2 == 1) = g := ⟨_, rfl⟩
    have f1 : (bits .and .u8 (x2 : Int) 1 != 0) = g1 := (and8_1 x2 (by omega)).trans hg1
    have f2 : (bits .and .u8 (x2 : Int) 2 != 0) = g2 := (and8_2 x2 (by omega)).trans hg2
    have HG1 := Lib.hid hg1
    have HG2' := Lib.hid hg2
    have HX2 := Lib.hid (show x2 < 4 by omega)
    clear d1 d2 hg1 hg2 hx2 z2
    go_region
    have T3 : Two M M W2 ((W2.setCell ⟨M, 6, none⟩ (.bool g1)).setCell ⟨M, 7, none⟩ (.bool g2)).drew := (((Two.refl M M W2).set (a := ⟨M, 6, none⟩) (.inl rfl) _).set (a := ⟨M, 7, none⟩) (.inl rfl) _).drew
    have hM3 : Own ((W2.setCell ⟨M, 6, none⟩ (.bool g1)).setCell ⟨M, 7, none⟩ (.bool g2)).drew M (hCells l) := by
      have hh := ((HM2.out.set 6 (.bool g1)).set 7 (.bool g2)).drew
      have e : (((zeroCells0.set! 0 (.int .i64 x0)).set! 1 (.int .i64 x1)).set! 6 (.bool g1)).set! 7 (.bool g2) = hCells l := by
        unfold hCells zeroCells0
        rw [H0.out, H1.out, H2.out, HG1.out, HG2'.out]
        simp
      rw [e] at hh
      exact hh
    generalize ((W2.setCell ⟨M, 6, none⟩ (.bool g1)).setCell ⟨M, 7, none⟩ (.bool g2)).drew = W3 at T3 hM3 ⊢
    have HRd3 := Lib.hid (HRd2.out.two T3 hrM hcM)
    have HBut3 := Lib.hid (HBut2.out.two T3 (.inr (by have := HG.out; omega)) (.inr (by have := HG.out; omega)))
    have HG3 := Lib.hid (T3.own HG2.out hGM hGM)
    replace y3 := (T3.cell (a := ⟨b0, o + 3, none⟩) hcM hcM).trans y3
    have HM3 := Lib.hid hM3
    have hrl : r < W3.heap.size := by have := hM3.lt; omega
    have hcl : b0 < W3.heap.size := by have := hM3.lt; omega
    have hMl : M < W3.heap.size := hM3.lt
    have KP := Lib.hid fun W => wireFields M W
    have hb4 : ∀ b ∈ l.drop 4, b < 256 := fun b h => hb b (List.mem_of_mem_drop h)
    have HB4 := Lib.hid hb4
    clear T3 hM3 HRd2 HM2 HB2 HG2 HBut2 m6 m7 n6 n7 y2 f1 f2 hb4
    by_cases h76 : l.length < 76
    · have hf : reads l = false := by
        unfold reads Wire.fits
        rw [decide_eq_false (by omega)]; rfl
      have HF := Lib.hid hf
      have KN := Lib.hid fun (w3 : World) (p : Nat) (hpw : W3.heap.size ≤ p) (hOp : Own w3 p #[.pointer (some ⟨M, 2, none⟩), .pointer (some ⟨M, 3, none⟩), .pointer (some ⟨M, 4, none⟩), .pointer (some ⟨M, 5, none⟩), .pointer (some ⟨M, 8, none⟩), .pointer (some ⟨M, 9, none⟩), .pointer (some ⟨M, 10, none⟩), .pointer (some ⟨M, 11, none⟩), .pointer (some ⟨M, 12, none⟩)]) (hb3 : Ok W3 w3) =>
        wireNumbersB r M b0 p 9 9 (l.drop 4) [2, 3, 4, 5, 8, 9, 10, 11, 12] rfl (hCells l) w3 (HRd3.out.next hb3) (HM3.out.next hb3) (nine_ptrs hOp) (by intro o ho; show o < 14; simp at ho; omega) HB4.out hrM hcr hcM (by omega) (by omega) (by decide) (by rw [List.length_drop]; show _ < 72; omega)
      clear hf y3
      go_wp2_with (first | (go_at_call 27; (with_reducible refine (KP.out _).mono ?_); rintro e w3 ⟨p, rfl, hpw, hOp, hb3⟩; have KE := Lib.hid (KN.out _ _ hpw hOp hb3); clear KN) | (go_at_call 42; (with_reducible refine KE.out.mono ?_); rintro e w4 ⟨rfl, T4⟩))
      exact ⟨rfl, (HBut3.out.ok hb3).two T4 (.inl rfl) (.inr (by have := HG.out; omega)), .inr ⟨HF.out, rfl⟩⟩
    have KN := Lib.hid fun (w3 : World) (p : Nat) (hpw : W3.heap.size ≤ p) (hOp : Own w3 p #[.pointer (some ⟨M, 2, none⟩), .pointer (some ⟨M, 3, none⟩), .pointer (some ⟨M, 4, none⟩), .pointer (some ⟨M, 5, none⟩), .pointer (some ⟨M, 8, none⟩), .pointer (some ⟨M, 9, none⟩), .pointer (some ⟨M, 10, none⟩), .pointer (some ⟨M, 11, none⟩), .pointer (some ⟨M, 12, none⟩)]) (hb3 : Ok W3 w3) =>
      wireNumbersG r M b0 p 9 9 (l.drop 4) [2, 3, 4, 5, 8, 9, 10, 11, 12] rfl (hCells l) w3 (HRd3.out.next hb3) (HM3.out.next hb3) (nine_ptrs hOp) (by intro o ho; show o < 14; simp at ho; omega) HB4.out hrM hcr hcM (by omega) (by omega) (by decide) (by rw [List.length_drop]; show 72 ≤ _; omega)
    have H76 := Lib.hid h76
    have H4 := Lib.hid h4
    clear h76 h4
    go_wp2_with (first | (go_at_call 27; (with_reducible refine (KP.out _).mono ?_); rintro e w3 ⟨p, rfl, hpw, hOp, hb3⟩; have KE := Lib.hid (KN.out _ _ hpw hOp hb3); have y3a := (hb3.cell (p := ⟨b0, o + 3, none⟩) hcl).trans y3; clear KN hpw hOp) | (go_at_call 42; (with_reducible refine KE.out.mono ?_); rintro e w4 ⟨rfl, T4, hRd4, hM4⟩; have y3b := (T4.cell (a := ⟨b0, o + 3, none⟩) hcr hcM).trans y3a; clear KE))
    have hS4 : Msgs l (l.drop (76 + 16 * 0)) r b0 G M 0 (.slice none 0 0) w w4 := by
      refine ⟨by rw [← hCells_set]; exact hM4, ⟨rfl, .inl ⟨rfl, rfl⟩⟩, ?_, (HBut3.out.ok hb3).two T4 (.inl rfl) (.inr (by have := HG.out; omega)), T4.own (HG3.out.next hb3) (by omega) hGM⟩
      rw [List.drop_drop] at hRd4
      exact hRd4
    have HZ := Lib.hid (fun w => show Sem.run Try.prog (zeroValue 45) w = .ok (.agg #[.int .i64 0, .int .i64 0]) w by kernel_rfl)
    have hz2 := HZ.out
    have HGW : Hid (w.heap.size ≤ G) := Lib.hid (by have := HG.out; omega)
    clear hRd4 hM4 T4 hb3 y3a y3b y3 HM3 HRd3 HBut3 HG3 HB4 KP hMl hcl hrl H0 H1
    go_loopw [41] (fun i wx => ∃ j : Nat, j ≤ x3 ∧ i = .int .u8 j ∧ 76 + 16 * j ≤ l.length ∧ ∃ v, Msgs l (l.drop (76 + 16 * j)) r b0 G M j v w wx) (fun i _ => x3 - (intOf i).toNat)
    case atStart => exact ⟨0, Nat.zero_le _, rfl, by have := H76.out; omega, _, hS4⟩
    case round =>
      clear hS4
      obtain ⟨j, hj, rfl, hjl, v, hS⟩ := hrel
      by_cases hlt : j < x3
      · have hMl := hS.own.lt
        have HS := Lib.hid hS
        have hrM' : r < M := by omega
        have KY := Lib.hid fun W => wireEntry wr.heap.size W
        have hbj : ∀ b ∈ l.drop (76 + 16 * j), b < 256 := fun b h => hb b (List.mem_of_mem_drop h)
        have HBJ := Lib.hid hbj
        have hrd := Lib.hid (fun (w3 : World) (hb3 : Ok (wr.alloc (.cells #[.int .i64 0, .int .i64 0] 45)) w3) => (HS.out.ok (((Ok.refl wr).alloc (.cells #[.int .i64 0, .int .i64 0] 45)).trans hb3)))
        have hsz : (wr.alloc (.cells #[.int .i64 0, .int .i64 0] 45)).heap.size = wr.heap.size + 1 := by simp
        have HSZ := Lib.hid hsz
        clear hsz hbj hS
        by_cases h92 : l.length < 76 + 16 * j + 16
        · have hf : reads l = false := by
            unfold reads Wire.fits
            rw [H3.out, decide_eq_false (by omega)]; rfl
          have HF := Lib.hid hf
          have KN := Lib.hid fun (w3 : World) (p : Nat) (hpw : (wr.alloc (.cells #[.int .i64 0, .int .i64 0] 45)).heap.size ≤ p) (hOp : Own w3 p #[.pointer (some ⟨wr.heap.size, 0, none⟩), .pointer (some ⟨wr.heap.size, 1, none⟩)]) (hb3 : Ok (wr.alloc (.cells #[.int .i64 0, .int .i64 0] 45)) w3) =>
            wireNumbersB r wr.heap.size b0 p 2 2 (l.drop (76 + 16 * j)) [0, 1] rfl #[.int .i64 0, .int .i64 0] w3 (hrd.out w3 hb3).rd ((Own.new wr #[.int .i64 0, .int .i64 0] 45 rfl).next hb3) (two_ptrs hOp) (by intro o ho; show o < 2; simp at ho; omega) HBJ.out (by omega) hcr (by omega) (by have := HSZ.out; omega) (by have := HSZ.out; omega) (by decide) (by rw [List.length_drop]; show _ < 16; omega)
          clear hf
          go_wp2_with (first | (go_at_call 28; (with_reducible refine (KY.out _).mono ?_); rintro e w3 ⟨p, rfl, hpw, hOp, hb3⟩; have KE := Lib.hid (KN.out _ _ hpw hOp hb3); clear KN) | (go_at_call 42; (with_reducible refine KE.out.mono ?_); rintro e w4 ⟨rfl, T4⟩))
          exact ⟨rfl, (hrd.out w3 hb3).but.two T4 (.inl rfl) (.inr (by have := HGW.out; omega)), .inr ⟨HF.out, rfl⟩⟩
        · have KN := Lib.hid fun (w3 : World) (p : Nat) (hpw : (wr.alloc (.cells #[.int .i64 0, .int .i64 0] 45)).heap.size ≤ p) (hOp : Own w3 p #[.pointer (some ⟨wr.heap.size, 0, none⟩), .pointer (some ⟨wr.heap.size, 1, none⟩)]) (hb3 : Ok (wr.alloc (.cells #[.int .i64 0, .int .i64 0] 45)) w3) =>
            wireNumbersG r wr.heap.size b0 p 2 2 (l.drop (76 + 16 * j)) [0, 1] rfl #[.int .i64 0, .int .i64 0] w3 (hrd.out w3 hb3).rd ((Own.new wr #[.int .i64 0, .int .i64 0] 45 rfl).next hb3) (two_ptrs hOp) (by intro o ho; show o < 2; simp at ho; omega) HBJ.out (by omega) hcr (by omega) (by have := HSZ.out; omega) (by have := HSZ.out; omega) (by decide) (by rw [List.length_drop]; show 16 ≤ _; omega)
          have HEJ := Lib.hid (entry_read l j)
          obtain ⟨x, hx⟩ : ∃ x, (entAt l j).1 = x := ⟨_, rfl⟩
          obtain ⟨y, hy⟩ : ∃ y, (entAt l j).2 = y := ⟨_, rfl⟩
          have HE := Lib.hid (show entAt l j = (x, y) by rw [← hx, ← hy])
          rw [hx, hy] at HEJ
          have HST := Lib.hid (fun (w3 w4 : World) (hb3 : Ok (wr.alloc (.cells #[.int .i64 0, .int .i64 0] 45)) w3) (T4 : Two r wr.heap.size w3 w4) (hR : Rd w4 r b0 ((l.drop (76 + 16 * j)).drop (8 * [0, 1].length))) =>
            (hrd.out w3 hb3).two T4 hR hrM' (fun b hb' => by have := HS.out.row_block hb'; omega) (by omega) (by omega) (by omega) (by have := HGW.out; omega))
          clear hx hy
          go_wp2_with (first | (go_at_call 28; (with_reducible refine (KY.out _).mono ?_); rintro e w3 ⟨p, rfl, hpw, hOp, hb3⟩; have KE := Lib.hid (KN.out _ _ hpw hOp hb3); clear KN hpw hOp) | (go_at_call 42; (with_reducible refine KE.out.mono ?_); rintro e w4 ⟨rfl, T4, hRd4, hM4⟩; have HS4 := Lib.hid (HST.out _ _ hb3 T4 hRd4); replace hM4 : Own w4 wr.heap.size #[.int .i64 x, .int .i64 y] := HEJ.out ▸ hM4; have cX0 := hM4.cell 0 (v := .int .i64 x) rfl; have cX1 := hM4.cell 1 (v := .int .i64 y) rfl; have c13 := HS4.out.own.cell 13 (v := v) rfl; clear T4 hRd4 hM4 KE HST) | (at_builtin; go_loud (refine Msgs.append HS4.out ((Ok.refl w4).alloc _) rfl (.tmp 47) (.tmp 49) rfl rfl rfl (heap_alloc_new _ _) HE.out (by omega) hrM' (by omega) (by omega) HGW.out rfl ?_; intro h2 cap2 w5 c5 f5 HP5)))
          refine ⟨⟨j + 1, by omega, by simp, by omega, .slice (some ⟨h2, 0, none⟩) (j + 1) cap2, ?_⟩, by simp [intOf]; omega⟩
          have e : (l.drop (76 + 16 * j)).drop (8 * [0, 1].length) = l.drop (76 + 16 * (j + 1)) := by
            rw [List.drop_drop]
            rfl
          rw [e] at HP5
          exact HP5
      · obtain rfl : j = x3 := by omega
        obtain ⟨A', capr, hOr, -, -, -, -⟩ := hS.rd
        have cr := hOr.cell 0 (v := .slice A' (l.drop (76 + 16 * j)).length capr) rfl
        have hdl : (l.drop (76 + 16 * j)).length = l.length - (76 + 16 * j) := List.length_drop
        obtain ⟨n, hn⟩ : ∃ n, (l.drop (76 + 16 * j)).length = n := ⟨_, rfl⟩
        rw [hn] at cr hdl
        have HS := Lib.hid hS
        clear hOr hn hS
        by_cases hn0 : n = 0
        · subst hn0
          have hf : reads l = true := by
            unfold reads Wire.fits
            rw [H3.out, H2.out, decide_eq_true (by omega), decide_eq_true HX2.out]; rfl
          have HF := Lib.hid hf
          obtain ⟨TA, tc, rfl⟩ := row_slice HS.out.row
          obtain ⟨m, hm⟩ : ∃ m, Wire.parse l = m := ⟨_, rfl⟩
          have HM := Lib.hid hm
          have hO := HS.out.own
          have hG := HS.out.res
          rw [hm] at hO
          have p0 := hO.cell 0 (v := .int .i64 m.kind) rfl
          have q0 := hG.cell 0 (v := .int .i64 0) rfl
          have r0 := hG.frozen 0
          have p1 := hO.cell 1 (v := .int .i64 m.frm) rfl
          have q1 := hG.cell 1 (v := .int .i64 0) rfl
          have r1 := hG.frozen 1
          have p2 := hO.cell 2 (v := .int .i64 m.lo) rfl
          have q2 := hG.cell 2 (v := .int .i64 0) rfl
          have r2 := hG.frozen 2
          have p3 := hO.cell 3 (v := .int .i64 m.hi) rfl
          have q3 := hG.cell 3 (v := .int .i64 0) rfl
          have r3 := hG.frozen 3
          have p4 := hO.cell 4 (v := .int .i64 m.held) rfl
          have q4 := hG.cell 4 (v := .int .i64 0) rfl
          have r4 := hG.frozen 4
          have p5 := hO.cell 5 (v := .int .i64 m.hops) rfl
          have q5 := hG.cell 5 (v := .int .i64 0) rfl
          have r5 := hG.frozen 5
          have p6 := hO.cell 6 (v := .bool m.good) rfl
          have q6 := hG.cell 6 (v := .bool false) rfl
          have r6 := hG.frozen 6
          have p7 := hO.cell 7 (v := .bool m.ref) rfl
          have q7 := hG.cell 7 (v := .bool false) rfl
          have r7 := hG.frozen 7
          have p8 := hO.cell 8 (v := .int .i64 m.slo) rfl
          have q8 := hG.cell 8 (v := .int .i64 0) rfl
          have r8 := hG.frozen 8
          have p9 := hO.cell 9 (v := .int .i64 m.shi) rfl
          have q9 := hG.cell 9 (v := .int .i64 0) rfl
          have r9 := hG.frozen 9
          have p10 := hO.cell 10 (v := .int .i64 m.pulse) rfl
          have q10 := hG.cell 10 (v := .int .i64 0) rfl
          have r10 := hG.frozen 10
          have p11 := hO.cell 11 (v := .int .i64 m.time) rfl
          have q11 := hG.cell 11 (v := .int .i64 0) rfl
          have r11 := hG.frozen 11
          have p12 := hO.cell 12 (v := .int .i64 m.num) rfl
          have q12 := hG.cell 12 (v := .int .i64 0) rfl
          have r12 := hG.frozen 12
          have p13 := hO.cell 13 (v := .slice TA j tc) rfl
          have q13 := hG.cell 13 (v := .slice none 0 0) rfl
          have r13 := hG.frozen 13
          have HGm := Lib.hid (msg_over m (.slice TA j tc) HS.out.res)
          clear hO hG hm hf hdl hlt hj hjl
          go_wp2_with ((go_at_call 33; (with_reducible refine (wireMust _ _).mono ?_); rintro e w1 ⟨rfl, rfl⟩))
          obtain ⟨hO5, T5⟩ := HGm.out
          generalize ((((((((((((((wr.setCell ⟨G, 0, none⟩ (.int .i64 m.kind)).setCell ⟨G, 1, none⟩ (.int .i64 m.frm)).setCell ⟨G, 2, none⟩ (.int .i64 m.lo)).setCell ⟨G, 3, none⟩ (.int .i64 m.hi)).setCell ⟨G, 4, none⟩ (.int .i64 m.held)).setCell ⟨G, 5, none⟩ (.int .i64 m.hops)).setCell ⟨G, 6, none⟩ (.bool m.good)).setCell ⟨G, 7, none⟩ (.bool m.ref)).setCell ⟨G, 8, none⟩ (.int .i64 m.slo)).setCell ⟨G, 9, none⟩ (.int .i64 m.shi)).setCell ⟨G, 10, none⟩ (.int .i64 m.pulse)).setCell ⟨G, 11, none⟩ (.int .i64 m.time)).setCell ⟨G, 12, none⟩ (.int .i64 m.num)).setCell ⟨G, 13, none⟩ (.slice TA j tc)) = W5 at hO5 T5 ⊢
          clear p0 q0 r0 p1 q1 r1 p2 q2 r2 p3 q3 r3 p4 q4 r4 p5 q5 r5 p6 q6 r6 p7 q7 r7 p8 q8 r8 p9 q9 r9 p10 q10 r10 p11 q11 r11 p12 q12 r12 p13 q13 r13
          have c0 := hO5.cell 0 (v := .int .i64 m.kind) rfl
          have c1 := hO5.cell 1 (v := .int .i64 m.frm) rfl
          have c2 := hO5.cell 2 (v := .int .i64 m.lo) rfl
          have c3 := hO5.cell 3 (v := .int .i64 m.hi) rfl
          have c4 := hO5.cell 4 (v := .int .i64 m.held) rfl
          have c5 := hO5.cell 5 (v := .int .i64 m.hops) rfl
          have c6 := hO5.cell 6 (v := .bool m.good) rfl
          have c7 := hO5.cell 7 (v := .bool m.ref) rfl
          have c8 := hO5.cell 8 (v := .int .i64 m.slo) rfl
          have c9 := hO5.cell 9 (v := .int .i64 m.shi) rfl
          have c10 := hO5.cell 10 (v := .int .i64 m.pulse) rfl
          have c11 := hO5.cell 11 (v := .int .i64 m.time) rfl
          have c12 := hO5.cell 12 (v := .int .i64 m.num) rfl
          have c13 := hO5.cell 13 (v := .slice TA j tc) rfl
          have hrow := (row_two HS.out.row T5 (fun b hb' => by have := HS.out.row_block hb'; omega)).mono (base' := w.heap.size) (by have := HG.out; omega)
          have hlen : (Wire.parse l).table.length = j := by rw [parse_table, H3.out]; simp
          have htab : (Wire.parse l).table = (List.range j).map (entAt l) := by rw [parse_table, H3.out]
          rw [← htab] at hrow
          have hBut := HS.out.but.two T5 (.inr HGW.out) (.inr HGW.out)
          exact bodyPost_ret (v := .agg #[.int .i64 m.kind, .int .i64 m.frm, .int .i64 m.lo, .int .i64 m.hi, .int .i64 m.held, .int .i64 m.hops, .bool m.good, .bool m.ref, .int .i64 m.slo, .int .i64 m.shi, .int .i64 m.pulse, .int .i64 m.time, .int .i64 m.num, .slice TA j tc]) (by simp [results, Try.results35, go_sem, c0, c1, c2, c3, c4, c5, c6, c7, c8, c9, c10, c11, c12, c13]) rfl ⟨hBut, .inl ⟨HF.out, TA, tc, by unfold msgV; rw [hlen, HM.out], by rw [hlen]; exact hrow⟩⟩
        · have hf : reads l = false := by
            unfold reads Wire.fits
            rw [H3.out, decide_eq_false (by omega)]; rfl
          have HF := Lib.hid hf
          have d1 : ((n : Int) == 0) = false := by rw [beq_eq_false_iff_ne]; omega
          have d2 : (n == 0) = false := by rw [beq_eq_false_iff_ne]; omega
          clear hf hdl hlt hj hjl
          go_wp2_with ((go_at_call 33; (with_reducible refine (wireMustNot _ _).mono ?_); rintro e w1 ⟨rfl, rfl⟩))
          exact ⟨rfl, HS.out.but, .inr ⟨HF.out, rfl⟩⟩
end Go.Proofs.Ytacnoakbcilmfaa
