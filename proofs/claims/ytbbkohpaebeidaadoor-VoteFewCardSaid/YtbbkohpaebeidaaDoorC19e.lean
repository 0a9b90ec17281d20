/- Layer 19: rows of tables and of texts of one's own; slices.Clone, slices.Index; the program's Adopt. -/
import Derived.Test.YtbbkohpaebeidaaDoorC19b
import Derived.Test.YtbbkohpaebeidaaDoorC19c
import Derived.Test.YtbbkohpaebeidaaDoorC19d
import Derived.Test.YtbbkohpaebeidaaDoorC15b
import Derived.Test.YtbbkohpaebeidaaDoorC18a
namespace Go.Proofs.YtbbkohpaebeidaaDoor
open Go.RowKit
set_option maxRecDepth 100000
attribute [local go_sem ↓] Go.wp_at_zero Go.wp_at_succ
theorem row_next19 {w w1 : World} {B : Nat} {e : TypeId} {k n : Nat} {v : Value} {xs : List Value} (h : w.ownsRow B e k v n xs) (j : Ok w w1) : w1.ownsRow B e k v n xs :=
  h.kept (w' := w1) (row := none) ⟨j.below.os, j.below.tape, j.below.output, j.size, fun i hi _ => j.below.block i hi⟩ (by cases v.ownBlock <;> simp)
/-- A row is as it was behind an append to a row of other elements. -/
theorem row_other19 {w w1 : World} {B C : Nat} {e f : TypeId} {k n m q : Nat} {v u : Value} {xs ys : List Value} (h : w.ownsRow B e k v n xs) (h2 : w.ownsRow C f m u q ys) (hne : e ≠ f) (hg : w.grownBy w1 u.ownBlock) : w1.ownsRow B e k v n xs := by
  refine h.kept hg ?_
  cases hb : v.ownBlock with
  | none => exact .inl rfl
  | some g =>
    refine .inr fun e2 => ?_
    obtain ⟨c, fz, h3⟩ := row_typed h g hb
    obtain ⟨c2, fz2, h4⟩ := row_typed h2 g e2.symm
    rw [h3] at h4
    injection h4 with h4
    injection h4 with _ h5 _
    exact hne h5
theorem row_low19 {w : World} {B C : Nat} {e : TypeId} {k n : Nat} {v : Value} {xs : List Value} (h : w.ownsRow B e k v n xs) (hC : C ≤ B) : w.ownsRow C e k v n xs := by
  obtain ⟨h0, h1⟩ := h
  refine ⟨h0, ?_⟩
  rcases h1 with h1 | ⟨g, cap, cur, h1, hb, r⟩
  · exact .inl h1
  · exact .inr ⟨g, cap, cur, h1, Nat.le_trans hC hb, r⟩
/-- One value of one cell is put behind a row of one's own. -/
theorem wpList_append_value {P : Program} {w : World} {ops : Array Oper} {rest : List Oper} {o : Oper} {a : Act} {Q : Exit → Act → World → Prop} (hgd : o.guard = none) (s x : Operand) (t : TypeId)
    (ho : o.op = .call { callee := .builtin .append, args := #[s, x], argTypes := #[t, t] })
    (base : Nat) (e : TypeId) (ht : P.underlying t = some (.slice e)) (z : Value) (bytes : Nat) (hby : bytes ≤ 1000) (hz : z.cells.size = 1) (hi : (P.info? e).map (fun i => (i.zero, i.size, i.bytes)) = some (some z, 1, bytes))
    (v : Value) (n : Nat) (xs : List Value) (hs : a.eval s = v) (hown : w.ownsRow base e 1 v n xs) (g : Nat) (u : Value) (hu : u.oneCell' = true) (hx : a.eval x = .slice (some ⟨g, 0, none⟩) 1 1) (hc : w.cell? ⟨g, 0, none⟩ = some u)
    (h63 : n ≤ 1048576) (hbase : base ≤ w.heap.size)
    (h : ∀ v' w', w'.ownsRow base e 1 v' (n + 1) (xs ++ [u]) → w.grownBy w' v.ownBlock → wpList P ops Q rest (a.put o.dst v') w') : wpList P ops Q (o :: rest) a w := by
  obtain ⟨i, i0, i1, i2, i3⟩ := info_parts hi
  refine wpList_append_own w hgd s x t ho base e i z 1 bytes ht i0 i1 i2 i3 hz (by decide) v n xs hs hown ⟨g, 0, none⟩ 1 1 [u] hx rfl (fun j u2 hj => ?_) (by simpa using hu) (by unfold maxLen; omega) (Nat.le_trans (Nat.mul_le_mul (show n + 1 ≤ 1048577 by omega) hby) (by decide)) hbase fun v' w' h1 h2 _ => h v' w' h1 h2
  have : j = 0 := by
    have := (List.getElem?_eq_some_iff.1 hj).1
    simp at this; omega
  subst this
  cases hj
  exact hc
theorem infoTab : (Tryd.prog.info? 22).map (fun i => (i.zero, i.size, i.bytes)) = some (some (.slice none 0 0), 1, 24) := by kernel_rfl
theorem infoText : (Tryd.prog.info? 9).map (fun i => (i.zero, i.size, i.bytes)) = some (some (.string ⟨#[]⟩), 1, 16) := by kernel_rfl
abbrev keyV (x : TA) : Value := .string (strB (Vote.key x.l))
theorem tabs_of_row {w : World} {B : Nat} {e : TypeId} {v : Value} {ts : List TA} (h : w.ownsRow B e 1 v ts.length (ts.map taV)) (ht : ∀ x ∈ ts, PairsAt w x.A x.l) : ∃ A c, v = .slice A ts.length c ∧ TabsAt w A ts := by
  rcases h.2 with ⟨rfl, hx⟩ | ⟨g, cap, cur, rfl, hb, hh, hnc, r⟩
  · have : ts = [] := by simpa using hx
    subst this
    exact ⟨none, 0, rfl, TabsAt.empty _ _⟩
  · refine ⟨some ⟨g, 0, none⟩, cap, rfl, ⟨fun k hk => ⟨g, 0, rfl, (Array.getElem?_eq_some_iff.1 hh).1, ?_⟩, ht⟩⟩
    have := h.cellAt (g := g) k (by omega)
    rw [Nat.zero_add, this]
    simp [hk]
theorem texts_of_row {w : World} {B : Nat} {e : TypeId} {v : Value} {ts : List TA} (h : w.ownsRow B e 1 v ts.length (ts.map keyV)) : ∃ A c, v = .slice A ts.length c ∧ TextsAt w A (ts.map fun x => Vote.key x.l) := by
  rcases h.2 with ⟨rfl, hx⟩ | ⟨g, cap, cur, rfl, hb, hh, hnc, r⟩
  · have : ts = [] := by simpa using hx
    subst this
    exact ⟨none, 0, rfl, fun k h => absurd h (Nat.not_lt_zero k)⟩
  · refine ⟨some ⟨g, 0, none⟩, cap, rfl, fun k hk => ⟨g, 0, rfl, (Array.getElem?_eq_some_iff.1 hh).1, ?_⟩⟩
    rw [List.length_map] at hk
    have := h.cellAt (g := g) k (by omega)
    rw [Nat.zero_add, this]
    simp [hk]
set_option maxHeartbeats 1600000 in
/-- A table's own copy, as a row of one's own. -/
theorem cloneRow (A : Option Addr) (l : List (Int × Int)) (cap : Nat) (w : World) (hA : PairsAt w A l) (hl : l.length ≤ 8796093022208) :
    Calls Tryd.prog 20 #[.slice A l.length cap] w fun e w' => ∃ v, e = .returned v ∧ w'.ownsRow w.heap.size 37 2 v l.length (cellsOfPairs l) ∧ Ok w w' := by
  have hok := Ok.refl w
  cases A with
  | none =>
    have hl0 : l = [] := by
      cases l with
      | nil => rfl
      | cons x l => obtain ⟨_, _, e, _⟩ := hA 0 (by simp); cases e
    subst hl0
    simp only [List.length_nil]
    clear hA hl
    have q22 : ∀ (w : World) (a : Option Addr) (n c n' c' : Nat), (binOp .eql 22 (.slice a n c) (.slice none n' c')).run Tryd.prog w = .ok (.bool a.isNone) w := fun w a n c n' c' => Lib.run_eql_slice_nil w _ _ a n c n' c' Tryd.underlying22
    go_enter Tryd.func20, Tryd.ntmps20
    go_wp2
    go_ret
    exact ⟨_, rfl, World.ownsRow_nil _ _ _ _, hok⟩
  | some ad =>
    obtain ⟨i, i0, i1, i2, i3⟩ := info_parts infoLeap
    have HS := Lib.hid (pairs_src15 (hA.alloc (.cells #[] 37)))
    have HR := Lib.hid (row_zero w 37 37 2 rfl)
    have HL := Lib.hid hl
    have HN := Lib.hid (show (cellsOfPairs l).length = l.length * 2 from flatMap_length _ 2 (fun _ => rfl) l)
    have H1 : Hid (∀ u ∈ cellsOfPairs l, u.oneCell' = true) := Lib.hid (by
      intro u hu
      obtain ⟨s, _, hs⟩ := List.mem_flatMap.1 hu
      simp only [List.mem_cons, List.not_mem_nil, or_false] at hs
      rcases hs with rfl | rfl <;> rfl)
    clear hA hl
    have q22 : ∀ (w : World) (a : Option Addr) (n c n' c' : Nat), (binOp .eql 22 (.slice a n c) (.slice none n' c')).run Tryd.prog w = .ok (.bool a.isNone) w := fun w a n c n' c' => Lib.run_eql_slice_nil w _ _ a n c n' c' Tryd.underlying22
    go_enter Tryd.func20, Tryd.ntmps20
    go_wp2_with (at_builtin; refine wpList_append_own _ rfl (.tmp 5) (.tmp 6) 22 rfl w.heap.size 37 i (.agg #[.int .i64 0, .int .i64 0]) 2 16 Tryd.underlying22 i0 i1 i2 i3 rfl (by decide) _ 0 [] rfl HR.out ad l.length cap (cellsOfPairs l) rfl HN.out HS.out H1.out (by have := HL.out; unfold maxLen; omega) (by have := HL.out; omega) (by simp) ?_; intro v' w' hr2 hg2 _; simp only [Nat.zero_add, List.nil_append] at hr2; have hok2 := Below.grown (hok.alloc (.cells #[] 37)) hg2 (hok.alloc (.cells #[] 37)).size (fun k hk => by cases hk; exact Nat.le_refl _); clear hg2)
    go_ret
    exact ⟨v', rfl, hr2, hok2⟩
/-- The place of a text that is there. -/
theorem indexText {ks : List (List UInt8)} {x : List UInt8} (hx : ∃ i, ∃ h : i < ks.length, ks[i] = x) (hb : ks.length ≤ 9223372036854775807) : ∃ j, ∃ _ : j < ks.length, ks[j] = x ∧ ∀ (A : Option Addr) (c : Nat) (w : World), TextsAt w A ks →
    Calls Tryd.prog 21 #[.slice A ks.length c, .string (strB x)] w fun e w' => e = .returned (.int .i64 (j : Int)) ∧ w = w' := by
  have hlt : ks.findIdx (fun y => decide (y = x)) < ks.length := by
    obtain ⟨i, h, e⟩ := hx
    exact List.findIdx_lt_length_of_exists ⟨ks[i], List.getElem_mem h, by simpa using e⟩
  refine ⟨ks.findIdx (fun y => decide (y = x)), hlt, by simpa using List.findIdx_getElem (w := hlt), fun A c w h => ?_⟩
  obtain ⟨b, off, hA, -, -⟩ := h _ hlt
  subst hA
  have hzl : (ks.map strB).length = ks.length := List.length_map _
  have hget : ∀ j (hj : j < ks.length), (ks.map strB).getD j ByteArray.empty = strB ks[j] := fun j hj => by
    rw [List.getD_eq_getElem?_getD, List.getElem?_map, List.getElem?_eq_getElem hj]; rfl
  have hi := Lib.idxOfS_hit (ks.map strB) ks.length (ks.findIdx (fun y => decide (y = x))) (strB x) hlt (by rw [hzl]; exact Nat.le_refl _) (by rw [hget _ hlt]; congr 1; simpa using List.findIdx_getElem (w := hlt)) (fun j hj e => by
    rw [hget j (by omega)] at e
    have := List.not_of_lt_findIdx hj
    simp at this
    exact this (strB_one e))
  refine (Tryd.slices_Index_string b off ks.length c (ks.map strB) (strB x) w (by rw [hzl]; exact Nat.le_refl _) hb (fun j hj => ?_)).mono ?_
  · rw [hzl] at hj
    obtain ⟨b2, off2, e, _, hc⟩ := h j hj
    cases e
    rw [hget j hj]
    exact hc
  · rintro e w' ⟨rfl, rfl⟩
    exact ⟨by rw [hi], rfl⟩
end Go.Proofs.YtbbkohpaebeidaaDoor
