/- Contracts of layer 14: rows of numbers of one's own; the program's Near: the map's keys in any order, sorted. -/
import Derived.Test.YtcoeiedaopmpcaaC14b
import Derived.Test.YtcoeiedaopmpcaaW19
import Derived.Test.YtcoeiedaopmpcaaShelf
import Derived.Sort.OwnSortedInts
namespace Go.Proofs.Ytcoeiedaopmpcaa
open Go.RowKit Go.Maps Go.Sort
set_option maxRecDepth 100000
theorem info14 : (Try.prog.info? 3).map (fun i => (i.zero, i.size, i.bytes)) = some (some (.int .i64 0), 1, 8) := by kernel_rfl
/-- Numbers, in a row of one's own. -/
def RowN (B : Nat) (w : World) (v : Value) (l : List Nat) : Prop := w.ownsRow B 3 1 v l.length ((Mem.ints l).map (Value.int .i64))
namespace RowN
variable {B : Nat} {w w1 : World} {v : Value} {l : List Nat}
theorem start (B : Nat) (w : World) : RowN B w (.slice none 0 0) [] := World.ownsRow_nil _ _ _ _
theorem next (h : RowN B w v l) (j : Ok w w1) : RowN B w1 v l :=
  h.kept (w' := w1) (row := none) ⟨j.below.os, j.below.tape, j.below.output, j.size, fun i hi _ => j.below.block i hi⟩ (by cases v.ownBlock <;> simp)
theorem only {r : Nat} (h : RowN B w v l) (j : Only r w w1) (hr : r < B) : RowN B w1 v l :=
  h.kept (w' := w1) (row := some r) ⟨j.os, j.tape, j.output, j.size, fun i hi hne => j.block i hi fun e => hne (by rw [e])⟩ (by
    cases hv : v.ownBlock with
    | none => exact .inl rfl
    | some k => exact .inr fun e => by have := (h.lt k hv).1; cases e; omega)
theorem ends (h : RowN B w v l) : ∃ A c, v = .slice A l.length c ∧ IntsAt w A (Mem.ints l) ∧ ∀ a, A = some a → B ≤ a.block := by
  unfold RowN at h
  obtain ⟨A, c, e, hI⟩ := IntsAt.of_own (l := Mem.ints l) (v := v) (B := B) (e := 3) (w := w) (by rw [Mem.ints_length]; exact h)
  rw [Mem.ints_length] at e
  subst e
  exact ⟨A, c, rfl, hI, fun a ha => by subst ha; exact (h.lt a.block rfl).1⟩
theorem more {k : Nat} (h : w1.ownsRow B 3 1 v (Mem.ints l ++ [(k : Int)]).length ((Mem.ints l ++ [(k : Int)]).map (Value.int .i64))) : RowN B w1 v (l ++ [k]) := by
  unfold RowN
  rw [Mem.ints_append]
  have e : (l ++ [k]).length = (Mem.ints l ++ [(k : Int)]).length := by rw [List.length_append, List.length_append, Mem.ints_length]; rfl
  rw [e]
  exact h
end RowN
theorem ok_row {W w w1 : World} {row : Option Nat} (h : Ok W w) (hg : w.grownBy w1 row) (hB : ∀ k, row = some k → W.heap.size ≤ k) : Ok W w1 := Below.grown h hg h.size hB
/-- What Near leaves: a list of numbers in a new block, or none. -/
def NearEnd (l : List Nat) (w : World) (e : Ending) (w' : World) : Prop := ∃ A c, e = .returned (.slice A l.length c) ∧ IntsAt w' A (Mem.ints l) ∧ (∀ a, A = some a → w.heap.size ≤ a.block ∧ a.block < w'.heap.size) ∧ Ok w w'
/-- The keys met so far. -/
def Coll (f : NF) (left : Lit → Bool) (c : List Nat) : Prop := c.Nodup ∧ ∀ k : Nat, k ∈ c ↔ k ∈ Mem.nums f ∧ left (.int .i64 (k : Int)) = false
theorem coll_start {f : NF} {D : DataW Unit} (hh : ∀ x, (Lit.int .i64 x).wf = true → Holds D x (Mem.look f x)) : Coll f (Maps.has D) [] := by
  refine ⟨List.nodup_nil, fun k => ⟨fun h => (List.not_mem_nil h).elim, fun ⟨h1, h2⟩ => ?_⟩⟩
  obtain ⟨a, b⟩ := Mem.mem_nums.1 h1
  rw [(hh (k : Int) (wf_nat (by omega))).has, Mem.look_at, b] at h2
  cases h2
theorem coll_step {f : NF} {left : Lit → Bool} {c : List Nat} {k : Nat} (h : Coll f left c) (hk : k ∈ Mem.nums f) (hl : left (.int .i64 (k : Int)) = true) : Coll f (fun z => left z && !z.sameKey (.int .i64 (k : Int))) (c ++ [k]) := by
  have hnew : k ∉ c := fun hc => by
    have := ((h.2 k).1 hc).2
    rw [hl] at this
    cases this
  refine ⟨List.nodup_append.2 ⟨h.1, by simp, fun a ha b hb => by simp at hb; subst hb; exact fun e => hnew (e ▸ ha)⟩, fun j => ?_⟩
  by_cases e : j = k
  · subst e
    simp [hk, Lit.sameKey]
  · have e2 : ¬ (j : Int) = (k : Int) := by omega
    rw [List.mem_append, List.mem_singleton, h.2 j]
    simp [e, e2, Lit.sameKey]
theorem coll_key {f : NF} (hf : ∀ k, 48 ≤ k → f k = none) {D : DataW Unit} (hh : ∀ x, (Lit.int .i64 x).wf = true → Holds D x (Mem.look f x)) {x : Int} (hw : (Lit.int .i64 x).wf = true) {y : DataW Unit} (hat : ∀ z, D.atKey (.int .i64 x) z = y) : ∃ k : Nat, x = k ∧ k < 48 ∧ k ∈ Mem.nums f := by
  have h1 := (hh x hw).has
  rw [has_true_of_atKey hat] at h1
  have h0 : 0 ≤ x := by
    rcases Int.lt_or_le x 0 with g | g
    · rw [Mem.look_neg f g] at h1; cases h1
    · exact g
  rw [Mem.look_in h0] at h1
  have h48 : x.toNat < 48 := by
    rcases Nat.lt_or_ge x.toNat 48 with g | g
    · exact g
    · rw [hf _ g] at h1; cases h1
  exact ⟨x.toNat, by omega, h48, Mem.mem_nums.2 ⟨h48, h1.symm⟩⟩
theorem coll_end {f : NF} {left : Lit → Bool} {c : List Nat} (h : Coll f left c) (hl : ∀ z, left z = false) : (Mem.ints c).mergeSort (fun x y => decide (x ≤ y)) = Mem.ints (Mem.nums f) :=
  Mem.sorted_nums h.1 fun k => by rw [h.2 k, hl]; simp
/-- A row of one's own, sorted. -/
theorem sortN {w : World} {B : Nat} {v : Value} {c l : List Nat} (h : RowN B w v c) (hl : c.length ≤ 1099511627776) (hs : (Mem.ints c).mergeSort (fun x y => decide (x ≤ y)) = Mem.ints l) {w0 : World} (hok : Ok w0 w) (hB : w0.heap.size ≤ B) :
    Calls Try.prog 21 #[v] w fun e w' => e = .returned (.tuple #[]) ∧ NearEnd l w0 (.returned v) w' := by
  have hlen : l.length = c.length := by
    have e := congrArg List.length hs
    rw [(List.mergeSort_perm _ _).length_eq, Mem.ints_length, Mem.ints_length] at e
    exact e.symm
  rcases h.2 with ⟨rfl, h2⟩ | ⟨g, cap, cur, rfl, hb, hh, h1, h2, h3, h4⟩
  · have h0 : c.length = 0 := h2
    have hc : c = [] := List.length_eq_zero_iff.1 h0
    have hl0 : l = [] := List.length_eq_zero_iff.1 (by omega)
    subst hc
    subst hl0
    refine (Try.slices_Sort_int_none none 0 w).mono ?_
    rintro e w' ⟨rfl, rfl⟩
    exact ⟨rfl, none, 0, rfl, IntsAt.empty _ _, (fun a ha => by cases ha), hok⟩
  · have h4' : cur.toList.take (Mem.ints c).length = (Mem.ints c).map (Value.int .i64) := by rw [Mem.ints_length]; simpa using h4
    have K := Try.slices_Sort_int g 0 cap (Mem.ints c) w (holds_of_blockI hh h4') (Array.getElem?_eq_some_iff.1 hh).1 (by rw [Mem.ints_length]; omega)
    rw [Mem.ints_length, hs] at K
    refine K.mono ?_
    rintro e w' ⟨rfl, n, os, rfl⟩
    refine ⟨rfl, some ⟨g, 0, none⟩, cap, by rw [hlen], ?_, (fun a ha => by cases ha; have := (grownBy_sortedI (w := w) (g := g) (n := n) (os := os) (Mem.ints l).toArray).size; have := (Array.getElem?_eq_some_iff.1 hh).1; show w0.heap.size ≤ g ∧ g < _; omega), Below.grown hok (grownBy_sortedI _) hok.size (fun k hk => by cases hk; omega)⟩
    have hr := ownsRow_sortedI (n := n) (os := os) (ss := Mem.ints c) (ts := Mem.ints l) (cap := cap) (by rw [Mem.ints_length, Mem.ints_length, hlen]) hb hh (by rw [Mem.ints_length]; exact h1) h2 (by simpa [Mem.ints_length] using h3)
    rw [show (Mem.ints c).length = (Mem.ints l).length by rw [Mem.ints_length, Mem.ints_length, hlen]] at hr
    obtain ⟨A, c', e, hI⟩ := IntsAt.of_own hr
    cases e
    exact hI
end Go.Proofs.Ytcoeiedaopmpcaa
