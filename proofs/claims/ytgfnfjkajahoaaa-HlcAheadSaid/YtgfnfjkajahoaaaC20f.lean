/- Layer 20: what lies in HlcAhead's memory between two things that happen, and what a thing turns there. -/
import Derived.Test.YtgfnfjkajahoaaaC20e
import Derived.Test.YtgfnfjkajahoaaaW39
import Derived.Test.YtgfnfjkajahoaaaW16
import Derived.Test.YtgfnfjkajahoaaaW21
namespace Go.Proofs.Ytgfnfjkajahoaaa
open Go.RowKit
/-- The cells of stamps that lie one behind the other. -/
def pc (C : Nat → Int × Int) (j : Nat) : Value := .int .i64 (if j % 2 = 0 then (C (j / 2)).1 else (C (j / 2)).2)
def upd {α : Type} (f : Nat → α) (i : Nat) (v : α) : Nat → α := fun j => if j = i then v else f j
theorem upd_same {α : Type} (f : Nat → α) (i : Nat) (v : α) : upd f i v i = v := if_pos rfl
theorem upd_else {α : Type} (f : Nat → α) {i j : Nat} (v : α) (h : j ≠ i) : upd f i v j = f j := if_neg h
theorem pc_even (C : Nat → Int × Int) (j : Nat) : pc C (j * 2) = .int .i64 (C j).1 := by
  unfold pc
  rw [if_pos (by omega), show j * 2 / 2 = j by omega]
theorem pc_odd (C : Nat → Int × Int) (j : Nat) : pc C (j * 2 + 1) = .int .i64 (C j).2 := by
  unfold pc
  rw [if_neg (by omega), show (j * 2 + 1) / 2 = j by omega]
theorem pc_upd (C : Nat → Int × Int) (i : Nat) (u v : Int) (j : Nat) : pc (upd C i (u, v)) j = if j = i * 2 + 1 then .int .i64 v else if j = i * 2 then .int .i64 u else pc C j := by
  unfold pc upd
  by_cases h1 : j = i * 2 + 1
  · subst h1
    rw [if_pos rfl, if_neg (by omega), if_pos (by omega)]
  · rw [if_neg h1]
    by_cases h2 : j = i * 2
    · subst h2
      rw [if_pos rfl, if_pos (by omega), if_pos (by omega)]
    · rw [if_neg h2, if_neg (show ¬ j / 2 = i by omega)]
theorem CellsF.pair {W : World} {g n : Nat} {C : Nat → Int × Int} (h : CellsF W g n (pc C)) {i : Nat} (hi : i * 2 + 1 < n) (u v : Int) :
    CellsF ((W.setCell ⟨g, i * 2, none⟩ (.int .i64 u)).setCell ⟨g, i * 2 + 1, none⟩ (.int .i64 v)) g n (pc (upd C i (u, v))) :=
  ((h.set (i := i * 2) (by omega) _).set (i := i * 2 + 1) hi _).mono fun j _ => pc_upd C i u v j
theorem CellsF.pairAt {W : World} {g n : Nat} {C : Nat → Int × Int} (h : CellsF W g n (pc C)) {i : Nat} (hi : i * 2 + 1 < n) : W.cell? ⟨g, i * 2, none⟩ = some (.int .i64 (C i).1) ∧ W.cell? ⟨g, i * 2 + 1, none⟩ = some (.int .i64 (C i).2) := by
  rw [h.cell (j := i * 2) (by omega), h.cell (j := i * 2 + 1) hi, pc_even, pc_odd]
  exact ⟨rfl, rfl⟩
/-- The stamps told so far. -/
def told (S : Nat → Int × Int) (k : Nat) : List (Int × Int) := (List.range k).map S
theorem told_length (S : Nat → Int × Int) (k : Nat) : (told S k).length = k := by simp [told]
theorem told_upd (S : Nat → Int × Int) (k : Nat) (v : Int × Int) : told (upd S k v) (k + 1) = told S k ++ [v] := by
  unfold told
  rw [List.range_succ, List.map_append, List.map_singleton, upd_same]
  congr 1
  exact List.map_congr_left fun j hj => upd_else S v (by have := List.mem_range.1 hj; omega)
/-- What lies there: the clocks (block c), what was said (s), what lies ahead (a), who was last (z), the stamps. -/
structure Lies (w : World) (B c s a z n k : Nat) (C S : Nat → Int × Int) (L : Nat → Int) (φ : Nat → Value) (A : Option Addr) (cap : Nat) (W : World) : Prop where
  dis : w.heap.size ≤ c ∧ c < s ∧ s < a ∧ a < z ∧ z < B
  ok : Ok w W
  hc : CellsF W c 16 (pc C)
  hs : CellsF W s (2 * n) (pc S)
  ha : CellsF W a 40 φ
  hl : CellsF W z 8 (fun j => .int .i64 (L j))
  hr : W.ownsRow B 23 2 (.slice A k cap) k (cellsOfPairs (told S k))
  hB : B ≤ W.heap.size
namespace Lies
variable {w W W1 : World} {B c s a z n k : Nat} {C S : Nat → Int × Int} {L : Nat → Int} {φ : Nat → Value} {A : Option Addr} {cap : Nat}
theorem next (h : Lies w B c s a z n k C S L φ A cap W) (j : Ok W W1) : Lies w B c s a z n k C S L φ A cap W1 :=
  ⟨h.dis, h.ok.trans j, h.hc.next j, h.hs.next j, h.ha.next j, h.hl.next j, row_nextF h.hr j, Nat.le_trans h.hB j.size⟩
/-- The stamps' block. -/
theorem row (h : Lies w B c s a z n k C S L φ A cap W) : ∀ r, (Value.slice A k cap).ownBlock = some r → B ≤ r ∧ r < W.heap.size := fun r e => ⟨row_geF h.hr r e, row_ltF h.hr r e⟩
/-- A row that isn't one of these grows. -/
theorem grown (h : Lies w B c s a z n k C S L φ A cap W) {row : Option Nat} (hg : W.grownBy W1 row) (hrow : ∀ b, row = some b → B ≤ b) (hne : ∀ r, (Value.slice A k cap).ownBlock = some r → row ≠ some r) : Lies w B c s a z n k C S L φ A cap W1 := by
  obtain ⟨d1, d2, d3, d4, d5⟩ := h.dis
  exact ⟨h.dis, ok_grownBy h.ok hg fun b e => by (have := hrow b e; omega), h.hc.grown hg fun e => by (have := hrow c e; omega), h.hs.grown hg fun e => by (have := hrow s e; omega),
    h.ha.grown hg fun e => by (have := hrow a e; omega), h.hl.grown hg fun e => by (have := hrow z e; omega), row_grownF h.hr hg hne, Nat.le_trans h.hB hg.size⟩
theorem setC (h : Lies w B c s a z n k C S L φ A cap W) {i : Nat} (hi : i < 8) (u v : Int) : Lies w B c s a z n k (upd C i (u, v)) S L φ A cap ((W.setCell ⟨c, i * 2, none⟩ (.int .i64 u)).setCell ⟨c, i * 2 + 1, none⟩ (.int .i64 v)) := by
  obtain ⟨d1, d2, d3, d4, d5⟩ := h.dis
  refine ⟨h.dis, (h.ok.setCell (p := ⟨c, i * 2, none⟩) d1 _).setCell (p := ⟨c, i * 2 + 1, none⟩) d1 _, h.hc.pair (by omega) u v, ?_, ?_, ?_, ?_, by simpa using h.hB⟩
  · exact (h.hs.setOther (p := ⟨c, i * 2, none⟩) (by show c ≠ s; omega) _).setOther (p := ⟨c, i * 2 + 1, none⟩) (by show c ≠ s; omega) _
  · exact (h.ha.setOther (p := ⟨c, i * 2, none⟩) (by show c ≠ a; omega) _).setOther (p := ⟨c, i * 2 + 1, none⟩) (by show c ≠ a; omega) _
  · exact (h.hl.setOther (p := ⟨c, i * 2, none⟩) (by show c ≠ z; omega) _).setOther (p := ⟨c, i * 2 + 1, none⟩) (by show c ≠ z; omega) _
  · exact row_setF (row_setF h.hr (p := ⟨c, i * 2, none⟩) (by show c < B; omega) _) (p := ⟨c, i * 2 + 1, none⟩) (by show c < B; omega) _
theorem setA (h : Lies w B c s a z n k C S L φ A cap W) {i : Nat} (hi : i < 40) (v : Value) : Lies w B c s a z n k C S L (upd φ i v) A cap (W.setCell ⟨a, i, none⟩ v) := by
  obtain ⟨d1, d2, d3, d4, d5⟩ := h.dis
  exact ⟨h.dis, h.ok.setCell (p := ⟨a, i, none⟩) (by show w.heap.size ≤ a; omega) _, h.hc.setOther (by show a ≠ c; omega) _, h.hs.setOther (by show a ≠ s; omega) _, h.ha.set hi v, h.hl.setOther (by show a ≠ z; omega) _,
    row_setF h.hr (by show a < B; omega) _, by simpa using h.hB⟩
theorem setL (h : Lies w B c s a z n k C S L φ A cap W) {i : Nat} (hi : i < 8) (x : Int) : Lies w B c s a z n k C S (upd L i x) φ A cap (W.setCell ⟨z, i, none⟩ (.int .i64 x)) := by
  obtain ⟨d1, d2, d3, d4, d5⟩ := h.dis
  refine ⟨h.dis, h.ok.setCell (p := ⟨z, i, none⟩) (by show w.heap.size ≤ z; omega) _, h.hc.setOther (by show z ≠ c; omega) _, h.hs.setOther (by show z ≠ s; omega) _, h.ha.setOther (by show z ≠ a; omega) _, ?_,
    row_setF h.hr (by show z < B; omega) _, by simpa using h.hB⟩
  refine (h.hl.set hi (.int .i64 x)).mono fun j _ => ?_
  unfold upd
  by_cases e : j = i
  · rw [if_pos e, if_pos e]
  · rw [if_neg e, if_neg e]
/-- What was said is written down. -/
theorem setS (h : Lies w B c s a z n k C S L φ A cap W) (hk : k < n) (u v : Int) : Lies w B c s a z n k C (upd S k (u, v)) L φ A cap ((W.setCell ⟨s, k * 2, none⟩ (.int .i64 u)).setCell ⟨s, k * 2 + 1, none⟩ (.int .i64 v)) := by
  obtain ⟨d1, d2, d3, d4, d5⟩ := h.dis
  have e : told (upd S k (u, v)) k = told S k := List.map_congr_left fun j hj => upd_else S _ (by have := List.mem_range.1 hj; omega)
  refine ⟨h.dis, (h.ok.setCell (p := ⟨s, k * 2, none⟩) (by show w.heap.size ≤ s; omega) _).setCell (p := ⟨s, k * 2 + 1, none⟩) (by show w.heap.size ≤ s; omega) _, ?_, h.hs.pair (by omega) u v, ?_, ?_, ?_, by simpa using h.hB⟩
  · exact (h.hc.setOther (p := ⟨s, k * 2, none⟩) (by show s ≠ c; omega) _).setOther (p := ⟨s, k * 2 + 1, none⟩) (by show s ≠ c; omega) _
  · exact (h.ha.setOther (p := ⟨s, k * 2, none⟩) (by show s ≠ a; omega) _).setOther (p := ⟨s, k * 2 + 1, none⟩) (by show s ≠ a; omega) _
  · exact (h.hl.setOther (p := ⟨s, k * 2, none⟩) (by show s ≠ z; omega) _).setOther (p := ⟨s, k * 2 + 1, none⟩) (by show s ≠ z; omega) _
  · rw [e]
    exact row_setF (row_setF h.hr (p := ⟨s, k * 2, none⟩) (by show s < B; omega) _) (p := ⟨s, k * 2 + 1, none⟩) (by show s < B; omega) _
/-- The stamp is put behind the others. -/
theorem push (h : Lies w B c s a z n k C S L φ A cap W) {A1 : Option Addr} {c1 : Nat} (hr : W1.ownsRow B 23 2 (.slice A1 (k + 1) c1) (k + 1) (cellsOfPairs (told S (k + 1)))) (hg : W.grownBy W1 (Value.slice A k cap).ownBlock) : Lies w B c s a z n (k + 1) C S L φ A1 c1 W1 := by
  obtain ⟨d1, d2, d3, d4, d5⟩ := h.dis
  have hrow : ∀ b, (Value.slice A k cap).ownBlock = some b → B ≤ b := fun b e => (h.row b e).1
  exact ⟨h.dis, ok_grownBy h.ok hg fun b e => by (have := hrow b e; omega), h.hc.grown hg fun e => by (have := hrow c e; omega), h.hs.grown hg fun e => by (have := hrow s e; omega),
    h.ha.grown hg fun e => by (have := hrow a e; omega), h.hl.grown hg fun e => by (have := hrow z e; omega), hr, Nat.le_trans h.hB hg.size⟩
theorem pairs (h : Lies w B c s a z n k C S L φ A cap W) : PairsAt W A (told S k) := by
  obtain ⟨A', c', e, hP⟩ := PairsAt.of_own (l := told S k) (by rw [told_length]; exact h.hr)
  rw [told_length] at e
  cases e
  exact hP
end Lies
/-- Of the thing that is being looked at: itself (block v), and what lies ahead of it, so far. -/
structure Doing (B N a i v : Nat) (e : Cal3) (φ : Nat → Value) (T : Option Nat) (A : Option Addr) (cap : Nat) (l : List Int) (W : World) : Prop where
  dis : B ≤ v ∧ v < N ∧ a < B ∧ ∀ r, T = some r → r < v
  own : Own W v #[.int .i64 e.k, .int .i64 e.a, .int .i64 e.b]
  row : W.ownsRow N 3 1 (.slice A l.length cap) l.length (l.map (Value.int .i64))
  eq : φ i = .slice A l.length cap
  hN : N ≤ W.heap.size
namespace Doing
variable {W W1 : World} {B N a i v : Nat} {e : Cal3} {φ : Nat → Value} {T : Option Nat} {A : Option Addr} {cap : Nat} {l : List Int}
theorem next (h : Doing B N a i v e φ T A cap l W) (j : Ok W W1) : Doing B N a i v e φ T A cap l W1 := ⟨h.dis, h.own.next j, row_nextF h.row j, h.eq, Nat.le_trans h.hN j.size⟩
theorem set (h : Doing B N a i v e φ T A cap l W) {p : Addr} (hp : p.block < B) (u : Value) : Doing B N a i v e φ T A cap l (W.setCell p u) := by
  obtain ⟨d1, d2, d3, d4⟩ := h.dis
  exact ⟨h.dis, h.own.setOther (by omega) u, row_setF h.row (by omega) u, h.eq, by simpa using h.hN⟩
/-- The stamps' row grows. -/
theorem other (h : Doing B N a i v e φ T A cap l W) (hg : W.grownBy W1 T) : Doing B N a i v e φ T A cap l W1 := by
  obtain ⟨d1, d2, d3, d4⟩ := h.dis
  exact ⟨h.dis, grown_own h.own hg fun e => by (have := d4 v e; omega), row_grownF h.row hg fun r e e2 => by (have := d4 r e2; have := row_geF h.row r e; omega), h.eq, Nat.le_trans h.hN hg.size⟩
theorem ints (h : Doing B N a i v e φ T A cap l W) : IntsAt W A l := by
  obtain ⟨A', c', e, hI⟩ := IntsAt.of_own h.row
  cases e
  exact hI
end Doing
/-- Behind an append to what lies ahead, and ahead of its store. -/
theorem ahead_grown {w W X W1 : World} {B c s a z n k N i v : Nat} {C S : Nat → Int × Int} {L : Nat → Int} {φ : Nat → Value} {T A : Option Addr} {capT cap cap1 : Nat} {e : Cal3} {l : List Int} (hL : Lies w B c s a z n k C S L φ T capT W) (hD : Doing B N a i v e φ (Value.slice T k capT).ownBlock A cap l W) (hX : Ok W X)
    (hg : X.grownBy W1 (Value.slice A l.length cap).ownBlock) {A1 : Option Addr} {x : Int} (hr : W1.ownsRow N 3 1 (.slice A1 (l.length + 1) cap1) (l.length + 1) (l.map (Value.int .i64) ++ [.int .i64 x])) :
    Lies w B c s a z n k C S L φ T capT W1 ∧ ∀ i', i' < 40 → i = i' → Lies w B c s a z n k C S L (upd φ i' (.slice A1 (l.length + 1) cap1)) T capT (W1.setCell ⟨a, i', none⟩ (.slice A1 (l.length + 1) cap1)) ∧ Doing B N a i v e (upd φ i' (.slice A1 (l.length + 1) cap1)) (Value.slice T k capT).ownBlock A1 cap1 (l ++ [x]) (W1.setCell ⟨a, i', none⟩ (.slice A1 (l.length + 1) cap1)) := by
  obtain ⟨d1, d2, d3, d4⟩ := hD.dis
  have hD' := hD.next hX
  have hge : ∀ b, (Value.slice A l.length cap).ownBlock = some b → N ≤ b := row_geF hD.row
  have h1 : Lies w B c s a z n k C S L φ T capT W1 := (hL.next hX).grown hg (fun b e => by have := hge b e; omega) fun r e e2 => by (have := hge r e2; have := d4 r e; omega)
  refine ⟨h1, fun i' hi e => ?_⟩
  subst e
  refine ⟨h1.setA hi _, ⟨hD.dis, ?_, ?_, ?_, ?_⟩⟩
  · exact (grown_own hD'.own hg fun e => by (have := hge v e; omega)).setOther (by show v ≠ a; omega) _
  · have e1 : (l ++ [x]).length = l.length + 1 := by simp
    have e2 : (l ++ [x]).map (Value.int .i64) = l.map (Value.int .i64) ++ [.int .i64 x] := by simp
    rw [e1, e2]
    exact row_setF hr (by show a < N; omega) _
  · rw [upd_same]
    simp
  · have := Nat.le_trans hD'.hN hg.size
    simpa using this
end Go.Proofs.Ytgfnfjkajahoaaa
