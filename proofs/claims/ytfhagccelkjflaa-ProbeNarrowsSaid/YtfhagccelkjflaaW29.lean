/- Words of my own: appends within a region by facts: what they may turn (`Keep`: rows of one type that grow, each kept where it stood). -/
import Derived.Test.YtfhagccelkjflaaW28
import Derived.Test.YtfhagccelkjflaaW23
import Derived.Deep.AppendSrc
namespace Go.Proofs.Ytfhagccelkjflaa
open Go.RowKit Go.WideShapes Go.ChangeShapes Go.Joins Go.Deep
/-- Blocks below K are as they were; of the others at most rows of type T have turned, behind their first N cells. -/
structure Keep (K N : Nat) (T : TypeId) (w w' : World) : Prop where
  os : w'.os = w.os
  tape : w'.tape = w.tape
  output : w'.output = w.output
  size : w.heap.size ≤ w'.heap.size
  block : ∀ b, b < w.heap.size → w'.heap[b]? = w.heap[b]? ∨ (K ≤ b ∧ ∃ cs cs' : Array Value, w.heap[b]? = some (.cells cs T (0, 0)) ∧ w'.heap[b]? = some (.cells cs' T (0, 0)) ∧ cs'.size = cs.size ∧ ∀ j, j < N → cs'[j]? = cs[j]?)
namespace Keep
variable {K N : Nat} {T : TypeId} {w w' w1 w2 : World}
theorem of_ok (h : Ok w w') : Keep K N T w w' := ⟨h.below.os, h.below.tape, h.below.output, h.size, fun b hb => .inl (h.below.block b hb)⟩
theorem refl (w : World) : Keep K N T w w := of_ok (Ok.refl w)
theorem trans (h : Keep K N T w w1) (k : Keep K N T w1 w2) : Keep K N T w w2 := by
  refine ⟨k.os.trans h.os, k.tape.trans h.tape, k.output.trans h.output, Nat.le_trans h.size k.size, fun b hb => ?_⟩
  rcases k.block b (Nat.lt_of_lt_of_le hb h.size) with e | ⟨hK, c1, c2, e1, e2, e3, e4⟩
  · rw [e]
    exact h.block b hb
  · rcases h.block b hb with g | ⟨_, d1, d2, g1, g2, g3, g4⟩
    · exact .inr ⟨hK, c1, c2, g ▸ e1, e2, e3, e4⟩
    · rw [g2] at e1
      have : d2 = c1 := by cases e1; rfl
      subst this
      exact .inr ⟨hK, d1, c2, g1, e2, e3.trans g3, fun j hj => (e4 j hj).trans (g4 j hj)⟩
theorem low (h : Keep K N T w w') (hK : K ≤ w.heap.size) : Below K w w' := ⟨h.os, h.tape, h.output, h.size, fun b hb => by
  rcases h.block b (by omega) with e | ⟨g, _⟩
  · exact e
  · omega⟩
theorem own (h : Keep K N T w w') {g : Nat} {cs : Array Value} (hO : Own w g cs) (hg : g < K) : Own w' g cs := by
  have hl := hO.lt
  obtain ⟨t, ht⟩ := hO.blk
  rcases h.block g hl with e | ⟨h1, _⟩
  · exact ⟨t, e.trans ht⟩
  · omega
/-- A block that has no more than N cells. -/
theorem small (h : Keep K N T w w') {g : Nat} {cs : Array Value} {t : TypeId} (hO : w.heap[g]? = some (.cells cs t (0, 0))) (hn : cs.size ≤ N) : w'.heap[g]? = some (.cells cs t (0, 0)) := by
  have hl : g < w.heap.size := (Array.getElem?_eq_some_iff.1 hO).1
  rcases h.block g hl with e | ⟨_, c1, c2, e1, e2, e3, e4⟩
  · exact e.trans hO
  · rw [hO] at e1
    cases e1
    rw [e2]
    have : c2 = cs := by
      apply Array.ext_getElem?
      intro j
      by_cases hj : j < cs.size
      · exact e4 j (by omega)
      · rw [Array.getElem?_eq_none (by omega), Array.getElem?_eq_none (by omega)]
    rw [this]
/-- A block of another type. -/
theorem other (h : Keep K N T w w') {g : Nat} {cs : Array Value} {t : TypeId} (hO : w.heap[g]? = some (.cells cs t (0, 0))) (ht : t ≠ T) : w'.heap[g]? = some (.cells cs t (0, 0)) := by
  have hl : g < w.heap.size := (Array.getElem?_eq_some_iff.1 hO).1
  rcases h.block g hl with e | ⟨_, c1, c2, e1, e2, e3, e4⟩
  · exact e.trans hO
  · rw [hO] at e1
    cases e1
    exact absurd rfl ht
theorem row (h : Keep K N T w w') {B k n : Nat} {v : Value} {xs : List Value} (hR : w.ownsRow B T k v n xs) (hn : n * k ≤ N) : w'.ownsRow B T k v n xs := by
  refine ⟨hR.1, ?_⟩
  rcases hR.2 with ⟨e1, e2⟩ | ⟨g, cap, cur, e1, e2, e3, e4, e5, e6, e7⟩
  · exact .inl ⟨e1, e2⟩
  · right
    have hl : g < w.heap.size := (Array.getElem?_eq_some_iff.1 e3).1
    rcases h.block g hl with q | ⟨_, c1, c2, q1, q2, q3, q4⟩
    · exact ⟨g, cap, cur, e1, e2, q.trans e3, e4, e5, e6, e7⟩
    · rw [e3] at q1
      cases q1
      refine ⟨g, cap, c2, e1, e2, q2, e4, e5, q3.trans e6, ?_⟩
      rw [← e7]
      apply List.ext_getElem?
      intro j
      by_cases hj : j < n * k
      · rw [List.getElem?_take, List.getElem?_take, if_pos hj, if_pos hj, Array.getElem?_toList, Array.getElem?_toList]
        exact q4 j (by omega)
      · rw [List.getElem?_take, List.getElem?_take, if_neg hj, if_neg hj]
end Keep
section
variable {P : Program}
theorem first_row0 {w : World} {B : Nat} {e : TypeId} {k n c : Nat} {A : Option Addr} {xs : List Value} (h : w.ownsRow B e k (.slice A n c) n xs) : (Builtin.firstCells k n (.slice A n c)).run P w = .ok xs.toArray w := by
  rcases h.2 with ⟨h1, h2⟩ | ⟨g, cap, cur, h1, hb, hh, r⟩
  · cases h1
    have : xs = [] := List.length_eq_zero_iff.1 (by rw [h.1]; simp)
    subst this
    exact run_firstCells_none w k 0 0 0
  · cases h1
    exact run_firstCells_some w k n ⟨g, 0, none⟩ n c xs (by rw [h.1]) (h.cells (g := g) rfl)
/-- append where there is no room: a new row. -/
theorem run_append_out {w : World} {t e : TypeId} {z : Value} {k bytes : Nat} (ht : P.underlying t = some (.slice e)) (hi : (P.info? e).map (fun i => (i.zero, i.size, i.bytes)) = some (some z, k, bytes)) (hz : z.cells.size = k) (hby : bytes ≤ 100000)
    {B : Nat} (hB : B ≤ w.heap.size) {A : Option Addr} {n c : Nat} {xs : List Value} (hR : w.ownsRow B e k (.slice A n c) n xs) {ad : Addr} {m c2 : Nat} {ys : List Value} (hyl : ys.length = m * k) (hys : ∀ j u, ys[j]? = some u → w.cell? (ad.add j) = some u) (h1 : ∀ u ∈ ys, u.oneCell' = true) (hroom : ¬ n + m ≤ c) (hlen : n + m ≤ 1000001) (ty : TypeId) :
    ∃ c' w1, (Builtin.append_ #[t, t] ty #[.slice A n c, .slice (some ad) m c2]).run P w = .ok (.slice (some ⟨w.heap.size, 0, none⟩) (n + m) c') w1 ∧ w1.ownsRow B e k (.slice (some ⟨w.heap.size, 0, none⟩) (n + m) c') (n + m) (xs ++ ys) ∧ Ok w w1 := by
  obtain ⟨i0, i1, i2, i3, i4⟩ := info_parts hi
  have hnc : n ≤ c ∧ c ≤ maxLen := by
    obtain ⟨A0, c0, e0, p, q, _⟩ := row_form hR
    cases e0
    exact ⟨p, q⟩
  have hsrc : Src P i0.size t (.slice (some ad) m c2) m ys w := Src.ofSlice w ht _ m c2 _ (by rw [i3]; exact hyl) hys h1
  have hold : (Builtin.firstCells i0.size n (.slice A n c)).run P w.drew = .ok xs.toArray w.drew := by rw [i3]; exact first_row0 hR.drew
  have hfit : Builtin.nextslicecap (n + m) c * i0.bytes ≤ 281474976710656 := by
    refine growslice_fits (by omega) ?_
    rw [i4]
    exact Nat.le_trans (Nat.mul_le_mul hlen hby) (by decide)
  have hrun := run_append_grow_src w t t ty e i0 z ht i1 i2 A n c xs hold _ m ys hsrc (by omega) (by omega) hfit
  obtain ⟨G, hG⟩ : ∃ G, grownCap w (n + m) c e = G := ⟨_, rfl⟩
  have hG1 : n + m ≤ G := by rw [← hG]; exact grownCap_ge w _ _ _
  have hG2 : G ≤ maxLen := by rw [← hG]; exact grownCap_le_maxLen w _ _ _ (by unfold maxLen; omega)
  rw [hG] at hrun
  have hxl := hR.1
  have hll : (xs ++ ys).length = (n + m) * k := by rw [List.length_append, hxl, hyl, ← Nat.add_mul]
  refine ⟨_, _, hrun, ⟨hll, .inr ⟨w.heap.size, G, _, rfl, hB, heap_alloc_new w.drew _, hG1, hG2, ?_, ?_⟩⟩, ((Ok.refl w).drew).alloc _⟩
  · rw [Array.size_append, List.size_toArray, hll, size_zeroCells, hz, ← Nat.add_mul]
    congr 1
    omega
  · rw [Array.toList_append, List.toList_toArray, ← hll]
    exact List.take_left
/-- append to a new, empty row. -/
theorem run_append_first {w : World} {t e : TypeId} {z : Value} {k bytes : Nat} (ht : P.underlying t = some (.slice e)) (hi : (P.info? e).map (fun i => (i.zero, i.size, i.bytes)) = some (some z, k, bytes)) (hz : z.cells.size = k) (hk : 0 < k) (hby : bytes ≤ 100000)
    {B g : Nat} (hg : w.heap[g]? = some (.cells #[] e (0, 0))) (hBg : B ≤ g) {A : Option Addr} {m c : Nat} {ys : List Value} (hyl : ys.length = m * k) (hA : CellsAt w A ys) (h1 : ∀ u ∈ ys, u.oneCell' = true) (hlen : m ≤ 1000000) (ty : TypeId) :
    ∃ A' c' w1, (Builtin.append_ #[t, t] ty #[.slice (some ⟨g, 0, none⟩) 0 0, .slice A m c]).run P w = .ok (.slice A' m c') w1 ∧ w1.ownsRow B e k (.slice A' m c') m ys ∧ Ok w w1 ∧ (m = 0 → c' = 0) := by
  have hl : g < w.heap.size := (Array.getElem?_eq_some_iff.1 hg).1
  have hR : w.ownsRow B e k (.slice (some ⟨g, 0, none⟩) 0 0) 0 [] := ⟨by simp, .inr ⟨g, 0, #[], rfl, hBg, hg, Nat.le_refl _, Nat.zero_le _, by simp, by simp⟩⟩
  by_cases hm : m = 0
  · subst hm
    have hy : ys = [] := List.length_eq_zero_iff.1 (by simpa using hyl)
    subst hy
    obtain ⟨i, i0, i1, i2, i3⟩ := info_parts hi
    refine ⟨some ⟨g, 0, none⟩, 0, w, ?_, hR, Ok.refl w, fun _ => rfl⟩
    cases A with
    | none => simp [Builtin.append_, run_underlying ht, sizeOf, typeInfo, i0, Builtin.lenOf, Builtin.firstCells, storeCells]
    | some a => simp [Builtin.append_, run_underlying ht, sizeOf, typeInfo, i0, Builtin.lenOf, Builtin.firstCells, storeCells, loadCells, loadCellsFrom]
  · cases A with
    | none =>
      exfalso
      cases ys with
      | nil =>
        rw [List.length_nil] at hyl
        rcases Nat.mul_eq_zero.1 hyl.symm with h | h <;> omega
      | cons y l => obtain ⟨_, _, e1, _⟩ := hA 0 y rfl; cases e1
    | some ad =>
      have hys : ∀ j u, ys[j]? = some u → w.cell? (ad.add j) = some u := fun j u hj => by
        obtain ⟨b, off, e1, _, h2⟩ := hA j u hj
        cases e1
        rwa [Go.WideShapes.add_plain]
      obtain ⟨c', w1, a1, a2, a3⟩ := run_append_out ht hi hz hby (by omega) hR hyl hys h1 (c2 := c) (by omega) (by omega) ty
      simp only [Nat.zero_add, List.nil_append] at a1 a2
      exact ⟨_, _, w1, a1, a2, a3, fun h => absurd h hm⟩
/-- append of one struct that lies in a block of its own to a row: what may have turned. -/
theorem run_append_keep {w : World} {t e : TypeId} {z : Value} {k bytes : Nat} (ht : P.underlying t = some (.slice e)) (hi : (P.info? e).map (fun i => (i.zero, i.size, i.bytes)) = some (some z, k, bytes)) (hz : z.cells.size = k) (hk : 0 < k) (hby : bytes ≤ 100000)
    {B N : Nat} (hB : B ≤ w.heap.size) {A : Option Addr} {n c : Nat} {xs : List Value} (hR : w.ownsRow B e k (.slice A n c) n xs) (hN : N ≤ n * k ∨ n = 0 ∧ c = 0) {vb : Nat} {ys : Array Value} (hV : Own w vb ys) (hy : ys.size = k) (h1 : ∀ u ∈ ys.toList, u.oneCell' = true) (hlen : n ≤ 1000000) (ty : TypeId) :
    ∃ A' c' w1, (Builtin.append_ #[t, t] ty #[.slice A n c, .slice (some ⟨vb, 0, none⟩) 1 1]).run P w = .ok (.slice A' (n + 1) c') w1 ∧ w1.ownsRow B e k (.slice A' (n + 1) c') (n + 1) (xs ++ ys.toList) ∧ Keep B N e w w1 := by
  obtain ⟨i0, i1, i2, i3, i4⟩ := info_parts hi
  have hys : ∀ j u, ys.toList[j]? = some u → w.cell? ((⟨vb, 0, none⟩ : Addr).add j) = some u := fun j u hj => by
    rw [Go.WideShapes.add_plain, Nat.zero_add]
    exact hV.cell j (by rwa [Array.getElem?_toList] at hj)
  have hyl : ys.toList.length = 1 * k := by rw [Array.length_toList, hy, Nat.one_mul]
  by_cases hroom : n + 1 ≤ c
  · have hR0 := hR
    obtain ⟨h0, ⟨h2, _⟩ | ⟨g, cap, cur, h2, h3⟩⟩ := hR
    · cases h2; omega
    · cases h2
      obtain ⟨w1, a1, a2, a3⟩ := run_append_fits (P := P) w B t ty e i0 k ht i1 i3 g n c xs ⟨h0, .inr ⟨g, c, cur, rfl, h3⟩⟩ ⟨vb, 0, none⟩ 1 1 ys.toList hyl hys h1 hroom
      refine ⟨_, _, w1, a1, a2, a3.os, a3.tape, a3.output, a3.size, fun b hb => ?_⟩
      by_cases hbg : b = g
      · subst hbg
        right
        rcases a2.2 with ⟨q1, _⟩ | ⟨g', cap', cur', q1, q2, q3, q4, q5, q6, q7⟩
        · cases q1
        · cases q1
          refine ⟨q2, cur, cur', h3.2.1, q3, q6.trans h3.2.2.2.2.1.symm, fun j hj => ?_⟩
          have hjn : j < n * k := by omega
          have e1 : xs[j]? = cur[j]? := by
            rw [← h3.2.2.2.2.2, List.getElem?_take, if_pos hjn, Array.getElem?_toList]
          have e2 : (xs ++ ys.toList)[j]? = cur'[j]? := by
            rw [← q7, List.getElem?_take, if_pos (by rw [Nat.add_mul]; omega), Array.getElem?_toList]
          rw [← e1, ← e2, List.getElem?_append_left (by rw [h0]; exact hjn)]
      · left
        exact a3.block b hb (by simp; omega)
  · obtain ⟨c', w1, a1, a2, a3⟩ := run_append_out ht hi hz hby hB hR hyl hys h1 (c2 := 1) hroom (by omega) ty
    exact ⟨_, _, w1, a1, a2, Keep.of_ok a3⟩
end
end Go.Proofs.Ytfhagccelkjflaa
