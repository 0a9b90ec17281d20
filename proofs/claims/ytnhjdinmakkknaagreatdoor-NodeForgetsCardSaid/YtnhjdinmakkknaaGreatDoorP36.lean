/- Several texts of mine in one: C14c, W35. -/
import Derived.Test.YtnhjdinmakkknaaGreatDoorC14b
import Derived.Test.YtnhjdinmakkknaaGreatDoorP28
import Derived.Test.YtnhjdinmakkknaaGreatDoorShelf
import Derived.Test.YtnhjdinmakkknaaGreatDoorB03
import Derived.Test.YtnhjdinmakkknaaGreatDoorP03
import Derived.Test.YtnhjdinmakkknaaGreatDoorB18
import Derived.Sort.OwnSortedInts
import Derived.SizedLaws
namespace Go.Proofs.YtnhjdinmakkknaaGreatDoor
open Go.RowKit Go.Maps Go.Sort
set_option maxRecDepth 100000
theorem info14 : (Tryz.prog.info? 3).map (fun i => (i.zero, i.size, i.bytes)) = some (some (.int .i64 0), 1, 8) := by kernel_rfl
/-- Numbers, in a row of one's own. -/
def RowN (B : Nat) (w : World) (v : Value) (l : List Nat) : Prop := w.ownsRow B 3 1 v l.length ((Mem.ints l).map (Value.int .i64))
namespace RowN
variable {B : Nat} {w w1 : World} {v : Value} {l : List Nat}
theorem start (B : Nat) (w : World) : RowN B w (.slice none 0 0) [] := World.ownsRow_nil _ _ _ _
theorem next (h : RowN B w v l) (j : Ok w w1) : RowN B w1 v l :=
  h.kept (w' := w1) (row := none) ⟨j.below.os, j.below.tape, j.below.output, j.size, fun i hi _ => j.below.block i hi⟩ (by cases v.ownBlock <;> simp)
theorem only {r : Nat} (h : RowN B w v l) (j : Only r w w1) (hr : r < B) : RowN B w1 v l :=
  h.kept (w' := w1) (row := some r) ⟨j.os, j.tape, j.output, j.size, fun i hi hne => j.block i hi fun e => hne (by rw [e])⟩ (by
    cases hv : v.ownBlock with
    | none => exact .inl rfl
    | some k => exact .inr fun e => by have := (h.lt k hv).1; cases e; omega)
theorem ends (h : RowN B w v l) : ∃ A c, v = .slice A l.length c ∧ IntsAt w A (Mem.ints l) ∧ ∀ a, A = some a → B ≤ a.block := by
  unfold RowN at h
  obtain ⟨A, c, e, hI⟩ := IntsAt.of_own (l := Mem.ints l) (v := v) (B := B) (e := 3) (w := w) (by rw [Mem.ints_length]; exact h)
  rw [Mem.ints_length] at e
  subst e
  exact ⟨A, c, rfl, hI, fun a ha => by subst ha; exact (h.lt a.block rfl).1⟩
theorem more {k : Nat} (h : w1.ownsRow B 3 1 v (Mem.ints l ++ [(k : Int)]).length ((Mem.ints l ++ [(k : Int)]).map (Value.int .i64))) : RowN B w1 v (l ++ [k]) := by
  unfold RowN
  rw [Mem.ints_append]
  have e : (l ++ [k]).length = (Mem.ints l ++ [(k : Int)]).length := by rw [List.length_append, List.length_append, Mem.ints_length]; rfl
  rw [e]
  exact h
end RowN
theorem ok_row {W w w1 : World} {row : Option Nat} (h : Ok W w) (hg : w.grownBy w1 row) (hB : ∀ k, row = some k → W.heap.size ≤ k) : Ok W w1 := Below.grown h hg h.size hB
/-- What Near leaves: a list of numbers in a new block, or none. -/
def NearEnd (l : List Nat) (w : World) (e : Ending) (w' : World) : Prop := ∃ A c, e = .returned (.slice A l.length c) ∧ IntsAt w' A (Mem.ints l) ∧ (∀ a, A = some a → w.heap.size ≤ a.block ∧ a.block < w'.heap.size) ∧ Ok w w'
/-- The keys met so far. -/
def Coll (f : NF) (left : Lit → Bool) (c : List Nat) : Prop := c.Nodup ∧ ∀ k : Nat, k ∈ c ↔ k ∈ Mem.nums f ∧ left (.int .i64 (k : Int)) = false
theorem coll_start {f : NF} {D : DataW Unit} (hh : ∀ x, (Lit.int .i64 x).wf = true → Holds D x (Mem.look f x)) : Coll f (Maps.has D) [] := by
  refine ⟨List.nodup_nil, fun k => ⟨fun h => (List.not_mem_nil h).elim, fun ⟨h1, h2⟩ => ?_⟩⟩
  obtain ⟨a, b⟩ := Mem.mem_nums.1 h1
  rw [(hh (k : Int) (wf_nat (by omega))).has, Mem.look_at, b] at h2
  cases h2
theorem coll_step {f : NF} {left : Lit → Bool} {c : List Nat} {k : Nat} (h : Coll f left c) (hk : k ∈ Mem.nums f) (hl : left (.int .i64 (k : Int)) = true) : Coll f (fun z => left z && !z.sameKey (.int .i64 (k : Int))) (c ++ [k]) := by
  have hnew : k ∉ c := fun hc => by
    have := ((h.2 k).1 hc).2
    rw [hl] at this
    cases this
  refine ⟨List.nodup_append.2 ⟨h.1, by simp, fun a ha b hb => by simp at hb; subst hb; exact fun e => hnew (e ▸ ha)⟩, fun j => ?_⟩
  by_cases e : j = k
  · subst e
    simp [hk, Lit.sameKey]
  · have e2 : ¬ (j : Int) = (k : Int) := by omega
    rw [List.mem_append, List.mem_singleton, h.2 j]
    simp [e, e2, Lit.sameKey]
theorem coll_key {f : NF} (hf : ∀ k, 48 ≤ k → f k = none) {D : DataW Unit} (hh : ∀ x, (Lit.int .i64 x).wf = true → Holds D x (Mem.look f x)) {x : Int} (hw : (Lit.int .i64 x).wf = true) {y : DataW Unit} (hat : ∀ z, D.atKey (.int .i64 x) z = y) : ∃ k : Nat, x = k ∧ k < 48 ∧ k ∈ Mem.nums f := by
  have h1 := (hh x hw).has
  rw [has_true_of_atKey hat] at h1
  have h0 : 0 ≤ x := by
    rcases Int.lt_or_le x 0 with g | g
    · rw [Mem.look_neg f g] at h1; cases h1
    · exact g
  rw [Mem.look_in h0] at h1
  have h48 : x.toNat < 48 := by
    rcases Nat.lt_or_ge x.toNat 48 with g | g
    · exact g
    · rw [hf _ g] at h1; cases h1
  exact ⟨x.toNat, by omega, h48, Mem.mem_nums.2 ⟨h48, h1.symm⟩⟩
theorem coll_end {f : NF} {left : Lit → Bool} {c : List Nat} (h : Coll f left c) (hl : ∀ z, left z = false) : (Mem.ints c).mergeSort (fun x y => decide (x ≤ y)) = Mem.ints (Mem.nums f) :=
  Mem.sorted_nums h.1 fun k => by rw [h.2 k, hl]; simp
/-- A row of one's own, sorted. -/
theorem sortN {w : World} {B : Nat} {v : Value} {c l : List Nat} (h : RowN B w v c) (hl : c.length ≤ 1099511627776) (hs : (Mem.ints c).mergeSort (fun x y => decide (x ≤ y)) = Mem.ints l) {w0 : World} (hok : Ok w0 w) (hB : w0.heap.size ≤ B) :
    Calls Tryz.prog 103 #[v] w fun e w' => e = .returned (.tuple #[]) ∧ NearEnd l w0 (.returned v) w' := by
  have hlen : l.length = c.length := by
    have e := congrArg List.length hs
    rw [(List.mergeSort_perm _ _).length_eq, Mem.ints_length, Mem.ints_length] at e
    exact e.symm
  rcases h.2 with ⟨rfl, h2⟩ | ⟨g, cap, cur, rfl, hb, hh, h1, h2, h3, h4⟩
  · have h0 : c.length = 0 := h2
    have hc : c = [] := List.length_eq_zero_iff.1 h0
    have hl0 : l = [] := List.length_eq_zero_iff.1 (by omega)
    subst hc
    subst hl0
    refine (Tryz.slices_Sort_int_none none 0 w).mono ?_
    rintro e w' ⟨rfl, rfl⟩
    exact ⟨rfl, none, 0, rfl, IntsAt.empty _ _, (fun a ha => by cases ha), hok⟩
  · have h4' : cur.toList.take (Mem.ints c).length = (Mem.ints c).map (Value.int .i64) := by rw [Mem.ints_length]; simpa using h4
    have K := Tryz.slices_Sort_int g 0 cap (Mem.ints c) w (holds_of_blockI hh h4') (Array.getElem?_eq_some_iff.1 hh).1 (by rw [Mem.ints_length]; omega)
    rw [Mem.ints_length, hs] at K
    refine K.mono ?_
    rintro e w' ⟨rfl, n, os, rfl⟩
    refine ⟨rfl, some ⟨g, 0, none⟩, cap, by rw [hlen], ?_, (fun a ha => by cases ha; have := (grownBy_sortedI (w := w) (g := g) (n := n) (os := os) (Mem.ints l).toArray).size; have := (Array.getElem?_eq_some_iff.1 hh).1; show w0.heap.size ≤ g ∧ g < _; omega), Below.grown hok (grownBy_sortedI _) hok.size (fun k hk => by cases hk; omega)⟩
    have hr := ownsRow_sortedI (n := n) (os := os) (ss := Mem.ints c) (ts := Mem.ints l) (cap := cap) (by rw [Mem.ints_length, Mem.ints_length, hlen]) hb hh (by rw [Mem.ints_length]; exact h1) h2 (by simpa [Mem.ints_length] using h3)
    rw [show (Mem.ints c).length = (Mem.ints l).length by rw [Mem.ints_length, Mem.ints_length, hlen]] at hr
    obtain ⟨A, c', e, hI⟩ := IntsAt.of_own hr
    cases e
    exact hI
end Go.Proofs.YtnhjdinmakkknaaGreatDoor
namespace Go.Proofs.YtnhjdinmakkknaaGreatDoor
open Go.RowKit Go.WideShapes Go.ChangeShapes Go.Joins Go.Deep
set_option maxRecDepth 100000
/-- A message, and where its table lies. -/
structure MA where
  m : Msg
  A : Option Addr
  cap : Nat
/-- No message. -/
def noMA : MA := ⟨zeroMsg, none, 0⟩
def nth (l : List MA) (k : Nat) : MA := l.getD k noMA
theorem nth_eq {l : List MA} {k : Nat} (h : k < l.length) : nth l k = l[k] := by
  unfold nth
  rw [List.getD_eq_getElem?_getD, List.getElem?_eq_getElem h]
  rfl
theorem nth_mem {l : List MA} {k : Nat} (h : k < l.length) : nth l k ∈ l := by rw [nth_eq h]; exact List.getElem_mem h
def maL (x : MA) : List Value := (msgCells x.m x.A x.cap).toList
theorem maL_len (x : MA) : (maL x).length = 14 := rfl
/-- The slice at B reads as these messages. -/
structure MsgsAt (w : World) (B : Option Addr) (l : List MA) : Prop where
  cells : CellsAt w B (l.flatMap maL)
  tabs : ∀ x ∈ l, PairsAt w x.A x.m.table
namespace MsgsAt
variable {w w' : World} {B : Option Addr} {l : List MA}
theorem below (h : MsgsAt w B l) (k : Ok w w') : MsgsAt w' B l := ⟨h.cells.below k, fun x hx => (h.tabs x hx).below k⟩
theorem empty (w : World) (B : Option Addr) : MsgsAt w B [] := ⟨CellsAt.empty _ _, by simp⟩
theorem nthAt (h : MsgsAt w B l) (k : Nat) (hk : k < l.length) : ∃ b off, B = some ⟨b, off, none⟩ ∧ b < w.heap.size ∧ w.cell? ⟨b, off + k * 14, none⟩ = some (.int .i64 (nth l k).m.kind) ∧ w.cell? ⟨b, off + k * 14 + 1, none⟩ = some (.int .i64 (nth l k).m.frm) ∧ w.cell? ⟨b, off + k * 14 + 2, none⟩ = some (.int .i64 (nth l k).m.lo) ∧ w.cell? ⟨b, off + k * 14 + 3, none⟩ = some (.int .i64 (nth l k).m.hi) ∧ w.cell? ⟨b, off + k * 14 + 4, none⟩ = some (.int .i64 (nth l k).m.held) ∧ w.cell? ⟨b, off + k * 14 + 5, none⟩ = some (.int .i64 (nth l k).m.hops) ∧ w.cell? ⟨b, off + k * 14 + 6, none⟩ = some (.bool (nth l k).m.good) ∧ w.cell? ⟨b, off + k * 14 + 7, none⟩ = some (.bool (nth l k).m.ref) ∧ w.cell? ⟨b, off + k * 14 + 8, none⟩ = some (.int .i64 (nth l k).m.slo) ∧ w.cell? ⟨b, off + k * 14 + 9, none⟩ = some (.int .i64 (nth l k).m.shi) ∧ w.cell? ⟨b, off + k * 14 + 10, none⟩ = some (.int .i64 (nth l k).m.pulse) ∧ w.cell? ⟨b, off + k * 14 + 11, none⟩ = some (.int .i64 (nth l k).m.time) ∧ w.cell? ⟨b, off + k * 14 + 12, none⟩ = some (.int .i64 (nth l k).m.num) ∧ w.cell? ⟨b, off + k * 14 + 13, none⟩ = some (.slice (nth l k).A (nth l k).m.table.length (nth l k).cap) := by
  obtain ⟨b, off, e, hlt, hc⟩ := h.cells.at maL_len (by decide) k hk
  rw [nth_eq hk]
  exact ⟨b, off, e, hlt, hc 0 _ rfl, hc 1 _ rfl, hc 2 _ rfl, hc 3 _ rfl, hc 4 _ rfl, hc 5 _ rfl, hc 6 _ rfl, hc 7 _ rfl, hc 8 _ rfl, hc 9 _ rfl, hc 10 _ rfl, hc 11 _ rfl, hc 12 _ rfl, hc 13 _ rfl⟩
end MsgsAt
theorem Own.msg {w : World} {g : Nat} {m : Msg} {A : Option Addr} {c : Nat} (h : Own w g (msgCells m A c)) : w.cell? ⟨g, 0, none⟩ = some (.int .i64 m.kind) ∧ w.cell? ⟨g, 1, none⟩ = some (.int .i64 m.frm) ∧ w.cell? ⟨g, 2, none⟩ = some (.int .i64 m.lo) ∧ w.cell? ⟨g, 3, none⟩ = some (.int .i64 m.hi) ∧ w.cell? ⟨g, 4, none⟩ = some (.int .i64 m.held) ∧ w.cell? ⟨g, 5, none⟩ = some (.int .i64 m.hops) ∧ w.cell? ⟨g, 6, none⟩ = some (.bool m.good) ∧ w.cell? ⟨g, 7, none⟩ = some (.bool m.ref) ∧ w.cell? ⟨g, 8, none⟩ = some (.int .i64 m.slo) ∧ w.cell? ⟨g, 9, none⟩ = some (.int .i64 m.shi) ∧ w.cell? ⟨g, 10, none⟩ = some (.int .i64 m.pulse) ∧ w.cell? ⟨g, 11, none⟩ = some (.int .i64 m.time) ∧ w.cell? ⟨g, 12, none⟩ = some (.int .i64 m.num) ∧ w.cell? ⟨g, 13, none⟩ = some (.slice A m.table.length c) :=
  ⟨h.cell 0 rfl, h.cell 1 rfl, h.cell 2 rfl, h.cell 3 rfl, h.cell 4 rfl, h.cell 5 rfl, h.cell 6 rfl, h.cell 7 rfl, h.cell 8 rfl, h.cell 9 rfl, h.cell 10 rfl, h.cell 11 rfl, h.cell 12 rfl, h.cell 13 rfl⟩
theorem Own.frozen14 {w : World} {g : Nat} {cs : Array Value} (h : Own w g cs) : w.frozen? ⟨g, 0, none⟩ = false ∧ w.frozen? ⟨g, 1, none⟩ = false ∧ w.frozen? ⟨g, 2, none⟩ = false ∧ w.frozen? ⟨g, 3, none⟩ = false ∧ w.frozen? ⟨g, 4, none⟩ = false ∧ w.frozen? ⟨g, 5, none⟩ = false ∧ w.frozen? ⟨g, 6, none⟩ = false ∧ w.frozen? ⟨g, 7, none⟩ = false ∧ w.frozen? ⟨g, 8, none⟩ = false ∧ w.frozen? ⟨g, 9, none⟩ = false ∧ w.frozen? ⟨g, 10, none⟩ = false ∧ w.frozen? ⟨g, 11, none⟩ = false ∧ w.frozen? ⟨g, 12, none⟩ = false ∧ w.frozen? ⟨g, 13, none⟩ = false :=
  ⟨h.frozen 0, h.frozen 1, h.frozen 2, h.frozen 3, h.frozen 4, h.frozen 5, h.frozen 6, h.frozen 7, h.frozen 8, h.frozen 9, h.frozen 10, h.frozen 11, h.frozen 12, h.frozen 13⟩
/-- A message is stored over another. -/
theorem own_set14 {w : World} {g : Nat} {n : Msg} {B : Option Addr} {d : Nat} (h : Own w g (msgCells n B d)) (m : Msg) (A : Option Addr) (c : Nat) : Own ((((((((((((((w.setCell ⟨g, 0, none⟩ (.int .i64 m.kind)).setCell ⟨g, 1, none⟩ (.int .i64 m.frm)).setCell ⟨g, 2, none⟩ (.int .i64 m.lo)).setCell ⟨g, 3, none⟩ (.int .i64 m.hi)).setCell ⟨g, 4, none⟩ (.int .i64 m.held)).setCell ⟨g, 5, none⟩ (.int .i64 m.hops)).setCell ⟨g, 6, none⟩ (.bool m.good)).setCell ⟨g, 7, none⟩ (.bool m.ref)).setCell ⟨g, 8, none⟩ (.int .i64 m.slo)).setCell ⟨g, 9, none⟩ (.int .i64 m.shi)).setCell ⟨g, 10, none⟩ (.int .i64 m.pulse)).setCell ⟨g, 11, none⟩ (.int .i64 m.time)).setCell ⟨g, 12, none⟩ (.int .i64 m.num)).setCell ⟨g, 13, none⟩ (.slice A m.table.length c)) g (msgCells m A c) := by
  have e : (((((((((((((((msgCells n B d)).set! 0 (.int .i64 m.kind)).set! 1 (.int .i64 m.frm)).set! 2 (.int .i64 m.lo)).set! 3 (.int .i64 m.hi)).set! 4 (.int .i64 m.held)).set! 5 (.int .i64 m.hops)).set! 6 (.bool m.good)).set! 7 (.bool m.ref)).set! 8 (.int .i64 m.slo)).set! 9 (.int .i64 m.shi)).set! 10 (.int .i64 m.pulse)).set! 11 (.int .i64 m.time)).set! 12 (.int .i64 m.num)).set! 13 (.slice A m.table.length c) = msgCells m A c := by simp [msgCells]
  rw [← e]
  exact (((((((((((((h.set 0 (.int .i64 m.kind)).set 1 (.int .i64 m.frm)).set 2 (.int .i64 m.lo)).set 3 (.int .i64 m.hi)).set 4 (.int .i64 m.held)).set 5 (.int .i64 m.hops)).set 6 (.bool m.good)).set 7 (.bool m.ref)).set 8 (.int .i64 m.slo)).set 9 (.int .i64 m.shi)).set 10 (.int .i64 m.pulse)).set 11 (.int .i64 m.time)).set 12 (.int .i64 m.num)).set 13 (.slice A m.table.length c)
theorem only_set14 {w W : World} {g : Nat} (h : Only g w W) (m : Msg) (A : Option Addr) (c : Nat) : Only g w ((((((((((((((W.setCell ⟨g, 0, none⟩ (.int .i64 m.kind)).setCell ⟨g, 1, none⟩ (.int .i64 m.frm)).setCell ⟨g, 2, none⟩ (.int .i64 m.lo)).setCell ⟨g, 3, none⟩ (.int .i64 m.hi)).setCell ⟨g, 4, none⟩ (.int .i64 m.held)).setCell ⟨g, 5, none⟩ (.int .i64 m.hops)).setCell ⟨g, 6, none⟩ (.bool m.good)).setCell ⟨g, 7, none⟩ (.bool m.ref)).setCell ⟨g, 8, none⟩ (.int .i64 m.slo)).setCell ⟨g, 9, none⟩ (.int .i64 m.shi)).setCell ⟨g, 10, none⟩ (.int .i64 m.pulse)).setCell ⟨g, 11, none⟩ (.int .i64 m.time)).setCell ⟨g, 12, none⟩ (.int .i64 m.num)).setCell ⟨g, 13, none⟩ (.slice A m.table.length c)) :=
  (((((((((((((h.setR 0 (.int .i64 m.kind)).setR 1 (.int .i64 m.frm)).setR 2 (.int .i64 m.lo)).setR 3 (.int .i64 m.hi)).setR 4 (.int .i64 m.held)).setR 5 (.int .i64 m.hops)).setR 6 (.bool m.good)).setR 7 (.bool m.ref)).setR 8 (.int .i64 m.slo)).setR 9 (.int .i64 m.shi)).setR 10 (.int .i64 m.pulse)).setR 11 (.int .i64 m.time)).setR 12 (.int .i64 m.num)).setR 13 (.slice A m.table.length c)
theorem pairs_only {r : Nat} {w w1 : World} {A : Option Addr} {l : List (Int × Int)} (h : PairsAt w A l) (k : Only r w w1) (hA : ∀ a, A = some a → a.block ≠ r) : PairsAt w1 A l := fun j hj => by
  obtain ⟨b, off, e, hlt, hc, hd⟩ := h j hj
  exact ⟨b, off, e, Nat.lt_of_lt_of_le hlt k.size, (k.cell (p := ⟨b, off + j * 2, none⟩) hlt (show b ≠ r from hA _ e)).trans hc, (k.cell (p := ⟨b, off + j * 2 + 1, none⟩) hlt (show b ≠ r from hA _ e)).trans hd⟩
section
variable {H : Type} {enc : TypeId × Value → H} {P : Program} {w : World} {base : Nat}
end
end Go.Proofs.YtnhjdinmakkknaaGreatDoor
