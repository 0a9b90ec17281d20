/- Contracts of layer 15: a table's own copy. -/
import Derived.Test.YtlclfonlidcfiaaDoorWC
import Derived.Test.YtlclfonlidcfiaaDoorWA
import Derived.Laws.AppendOwn
import Derived.Lib.SliceRun
import Derived.Deep.QuietTactic
import Derived.BigQuiet
namespace Go.Proofs.YtlclfonlidcfiaaDoor
open Go.RowKit
set_option maxRecDepth 100000
theorem infoLeap : (Tryd.prog.info? 77).map (fun i => (i.zero, i.size, i.bytes)) = some (some (.agg #[.int .i64 0, .int .i64 0]), 2, 16) := by kernel_rfl
/-- A row without anything in a new block. -/
theorem row_zero (w : World) (T e : TypeId) (k : Nat) (hT : T = e) : (w.alloc (.cells #[] T)).ownsRow w.heap.size e k (.slice (some ⟨w.heap.size, 0, none⟩) 0 0) 0 [] := by
  subst hT
  exact ⟨by simp, .inr ⟨w.heap.size, 0, #[], rfl, Nat.le_refl _, (MapKept.heap_alloc w _).1, Nat.le_refl _, Nat.zero_le _, by simp, by simp⟩⟩
theorem pairs_src15 {w : World} {ad : Addr} {l : List (Int × Int)} (h : PairsAt w (some ad) l) : ∀ j u, (cellsOfPairs l)[j]? = some u → w.cell? (ad.add j) = some u := by
  intro j u hj
  have hlen : (cellsOfPairs l).length = l.length * 2 := flatMap_length _ 2 (fun _ => rfl) l
  have hjl : j < l.length * 2 := by rw [← hlen]; exact (List.getElem?_eq_some_iff.1 hj).1
  have hk : j / 2 < l.length := by omega
  obtain ⟨b, off, e, _, h0, h1⟩ := h (j / 2) hk
  obtain ⟨g0, g1⟩ := cellsOfPairs_at l (j / 2) hk
  cases e
  rw [Go.WideShapes.add_plain]
  rcases Nat.mod_two_eq_zero_or_one j with q | q
  · have ej : j / 2 * 2 = j := by omega
    rw [ej] at g0 h0
    rw [g0] at hj
    cases hj
    exact h0
  · have ej : j / 2 * 2 + 1 = j := by omega
    rw [ej] at g1
    rw [Nat.add_assoc, ej] at h1
    rw [g1] at hj
    cases hj
    exact h1
theorem row_block {w : World} {B n k : Nat} {e : TypeId} {A : Option Addr} {c : Nat} {xs : List Value} (h : w.ownsRow B e k (.slice A n c) n xs) : ∀ a, A = some a → B ≤ a.block := fun a ha => by
  rcases h.2 with ⟨h1, _⟩ | ⟨g, cap, cur, h1, hb, _⟩
  · cases h1; cases ha
  · cases h1; cases ha; exact hb
set_option maxHeartbeats 1600000 in
theorem cloneLeaps (A : Option Addr) (l : List (Int × Int)) (cap : Nat) (w : World) (hA : PairsAt w A l) (hl : l.length ≤ 8796093022208) :
    Calls Tryd.prog 77 #[.slice A l.length cap] w fun e w' => ∃ A' c', e = .returned (.slice A' l.length c') ∧ PairsAt w' A' l ∧ (∀ a, A' = some a → w.heap.size ≤ a.block) ∧ Ok w w' := by
  have hok := Ok.refl w
  cases A with
  | none =>
    have hl0 : l = [] := by
      cases l with
      | nil => rfl
      | cons x l => obtain ⟨_, _, e, _⟩ := hA 0 (by simp); cases e
    subst hl0
    simp only [List.length_nil]
    clear hA hl
    have q22 : ∀ (w : World) (a : Option Addr) (n c n' c' : Nat), (binOp .eql 26 (.slice a n c) (.slice none n' c')).run Tryd.prog w = .ok (.bool a.isNone) w := fun w a n c n' c' => Lib.run_eql_slice_nil w _ _ a n c n' c' Tryd.underlying26
    go_enter Tryd.func77, Tryd.ntmps77
    go_wp2
    go_ret
    exact ⟨none, 0, rfl, PairsAt.empty _ _, by simp, hok⟩
  | some ad =>
    obtain ⟨i, i0, i1, i2, i3⟩ := info_parts infoLeap
    have HS := Lib.hid (pairs_src15 (hA.alloc (.cells #[] 77)))
    have HR := Lib.hid (row_zero w 77 77 2 rfl)
    have HL := Lib.hid hl
    have HN := Lib.hid (show (cellsOfPairs l).length = l.length * 2 from flatMap_length _ 2 (fun _ => rfl) l)
    have H1 : Hid (∀ u ∈ cellsOfPairs l, u.oneCell' = true) := Lib.hid (by
      intro u hu
      obtain ⟨s, _, hs⟩ := List.mem_flatMap.1 hu
      simp only [List.mem_cons, List.not_mem_nil, or_false] at hs
      rcases hs with rfl | rfl <;> rfl)
    clear hA hl
    have q22 : ∀ (w : World) (a : Option Addr) (n c n' c' : Nat), (binOp .eql 26 (.slice a n c) (.slice none n' c')).run Tryd.prog w = .ok (.bool a.isNone) w := fun w a n c n' c' => Lib.run_eql_slice_nil w _ _ a n c n' c' Tryd.underlying26
    go_enter Tryd.func77, Tryd.ntmps77
    go_wp2_with (at_builtin; refine wpList_append_own _ rfl (.tmp 5) (.tmp 6) 26 rfl w.heap.size 77 i (.agg #[.int .i64 0, .int .i64 0]) 2 16 Tryd.underlying26 i0 i1 i2 i3 rfl (by decide) _ 0 [] rfl HR.out ad l.length cap (cellsOfPairs l) rfl HN.out HS.out H1.out (by have := HL.out; unfold maxLen; omega) (by have := HL.out; omega) (by simp) ?_; intro v' w' hr2 hg2 _; simp only [Nat.zero_add, List.nil_append] at hr2; obtain ⟨A', c', rfl, hP⟩ := PairsAt.of_own hr2; have hb := row_block hr2; have hok2 := Below.grown (hok.alloc (.cells #[] 77)) hg2 (hok.alloc (.cells #[] 77)).size (fun k hk => by cases hk; exact Nat.le_refl _); clear hr2 hg2)
    go_ret
    exact ⟨A', c', rfl, hP, hb, hok2⟩
theorem row_next19 {w w1 : World} {B : Nat} {e : TypeId} {k n : Nat} {v : Value} {xs : List Value} (h : w.ownsRow B e k v n xs) (j : Ok w w1) : w1.ownsRow B e k v n xs :=
  h.kept (w' := w1) (row := none) ⟨j.below.os, j.below.tape, j.below.output, j.size, fun i hi _ => j.below.block i hi⟩ (by cases v.ownBlock <;> simp)
theorem row_low19 {w : World} {B C : Nat} {e : TypeId} {k n : Nat} {v : Value} {xs : List Value} (h : w.ownsRow B e k v n xs) (hC : C ≤ B) : w.ownsRow C e k v n xs := by
  obtain ⟨h0, h1⟩ := h
  refine ⟨h0, ?_⟩
  rcases h1 with h1 | ⟨g, cap, cur, h1, hb, r⟩
  · exact .inl h1
  · exact .inr ⟨g, cap, cur, h1, Nat.le_trans hC hb, r⟩
set_option maxHeartbeats 1600000 in
/-- A table's own copy, as a row of one's own. -/
theorem cloneRow (A : Option Addr) (l : List (Int × Int)) (cap : Nat) (w : World) (hA : PairsAt w A l) (hl : l.length ≤ 8796093022208) :
    Calls Tryd.prog 77 #[.slice A l.length cap] w fun e w' => ∃ v, e = .returned v ∧ w'.ownsRow w.heap.size 77 2 v l.length (cellsOfPairs l) ∧ Ok w w' := by
  have hok := Ok.refl w
  cases A with
  | none =>
    have hl0 : l = [] := by
      cases l with
      | nil => rfl
      | cons x l => obtain ⟨_, _, e, _⟩ := hA 0 (by simp); cases e
    subst hl0
    simp only [List.length_nil]
    clear hA hl
    have q22 : ∀ (w : World) (a : Option Addr) (n c n' c' : Nat), (binOp .eql 26 (.slice a n c) (.slice none n' c')).run Tryd.prog w = .ok (.bool a.isNone) w := fun w a n c n' c' => Lib.run_eql_slice_nil w _ _ a n c n' c' Tryd.underlying26
    go_enter Tryd.func77, Tryd.ntmps77
    go_wp2
    go_ret
    exact ⟨_, rfl, World.ownsRow_nil _ _ _ _, hok⟩
  | some ad =>
    obtain ⟨i, i0, i1, i2, i3⟩ := info_parts infoLeap
    have HS := Lib.hid (pairs_src15 (hA.alloc (.cells #[] 77)))
    have HR := Lib.hid (row_zero w 77 77 2 rfl)
    have HL := Lib.hid hl
    have HN := Lib.hid (show (cellsOfPairs l).length = l.length * 2 from flatMap_length _ 2 (fun _ => rfl) l)
    have H1 : Hid (∀ u ∈ cellsOfPairs l, u.oneCell' = true) := Lib.hid (by
      intro u hu
      obtain ⟨s, _, hs⟩ := List.mem_flatMap.1 hu
      simp only [List.mem_cons, List.not_mem_nil, or_false] at hs
      rcases hs with rfl | rfl <;> rfl)
    clear hA hl
    have q22 : ∀ (w : World) (a : Option Addr) (n c n' c' : Nat), (binOp .eql 26 (.slice a n c) (.slice none n' c')).run Tryd.prog w = .ok (.bool a.isNone) w := fun w a n c n' c' => Lib.run_eql_slice_nil w _ _ a n c n' c' Tryd.underlying26
    go_enter Tryd.func77, Tryd.ntmps77
    go_wp2_with (at_builtin; refine wpList_append_own _ rfl (.tmp 5) (.tmp 6) 26 rfl w.heap.size 77 i (.agg #[.int .i64 0, .int .i64 0]) 2 16 Tryd.underlying26 i0 i1 i2 i3 rfl (by decide) _ 0 [] rfl HR.out ad l.length cap (cellsOfPairs l) rfl HN.out HS.out H1.out (by have := HL.out; unfold maxLen; omega) (by have := HL.out; omega) (by simp) ?_; intro v' w' hr2 hg2 _; simp only [Nat.zero_add, List.nil_append] at hr2; have hok2 := Below.grown (hok.alloc (.cells #[] 77)) hg2 (hok.alloc (.cells #[] 77)).size (fun k hk => by cases hk; exact Nat.le_refl _); clear hg2)
    go_ret
    exact ⟨v', rfl, hr2, hok2⟩
end Go.Proofs.YtlclfonlidcfiaaDoor
