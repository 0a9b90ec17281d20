/- Contracts of layer 15: a table's own copy. -/
import Derived.Test.YtmokofblmkeloaaGreatDoorB01
import Derived.Test.YtmokofblmkeloaaGreatDoorB03
import Derived.Test.YtmokofblmkeloaaGreatDoorB00
import Derived.Test.YtmokofblmkeloaaGreatDoorB04
import Derived.Test.YtmokofblmkeloaaGreatDoorMA
import Derived.Laws.AppendOwn
import Derived.Lib.SliceRun
import Derived.Deep.QuietTactic
import Derived.BigQuiet
import Derived.Deep.DrawnRows
namespace Go.Proofs.YtmokofblmkeloaaGreatDoor
open Go.RowKit
set_option maxRecDepth 100000
theorem infoLeap : (Tryz.prog.info? 81).map (fun i => (i.zero, i.size, i.bytes)) = some (some (.agg #[.int .i64 0, .int .i64 0]), 2, 16) := by kernel_rfl
/-- A row without anything in a new block. -/
theorem row_zero (w : World) (T e : TypeId) (k : Nat) (hT : T = e) : (w.alloc (.cells #[] T)).ownsRow w.heap.size e k (.slice (some ⟨w.heap.size, 0, none⟩) 0 0) 0 [] := by
  subst hT
  exact ⟨by simp, .inr ⟨w.heap.size, 0, #[], rfl, Nat.le_refl _, (MapKept.heap_alloc w _).1, Nat.le_refl _, Nat.zero_le _, by simp, by simp⟩⟩
theorem pairs_src15 {w : World} {ad : Addr} {l : List (Int × Int)} (h : PairsAt w (some ad) l) : ∀ j u, (cellsOfPairs l)[j]? = some u → w.cell? (ad.add j) = some u := by
  intro j u hj
  have hlen : (cellsOfPairs l).length = l.length * 2 := flatMap_length _ 2 (fun _ => rfl) l
  have hjl : j < l.length * 2 := by rw [← hlen]; exact (List.getElem?_eq_some_iff.1 hj).1
  have hk : j / 2 < l.length := by omega
  obtain ⟨b, off, e, _, h0, h1⟩ := h (j / 2) hk
  obtain ⟨g0, g1⟩ := cellsOfPairs_at l (j / 2) hk
  cases e
  rw [Go.WideShapes.add_plain]
  rcases Nat.mod_two_eq_zero_or_one j with q | q
  · have ej : j / 2 * 2 = j := by omega
    rw [ej] at g0 h0
    rw [g0] at hj
    cases hj
    exact h0
  · have ej : j / 2 * 2 + 1 = j := by omega
    rw [ej] at g1
    rw [Nat.add_assoc, ej] at h1
    rw [g1] at hj
    cases hj
    exact h1
theorem row_block {w : World} {B n k : Nat} {e : TypeId} {A : Option Addr} {c : Nat} {xs : List Value} (h : w.ownsRow B e k (.slice A n c) n xs) : ∀ a, A = some a → B ≤ a.block := fun a ha => by
  rcases h.2 with ⟨h1, _⟩ | ⟨g, cap, cur, h1, hb, _⟩
  · cases h1; cases ha
  · cases h1; cases ha; exact hb
set_option maxHeartbeats 1600000 in
theorem cloneLeaps (A : Option Addr) (l : List (Int × Int)) (cap : Nat) (w : World) (hA : PairsAt w A l) (hl : l.length ≤ 8796093022208) :
    Calls Tryz.prog 83 #[.slice A l.length cap] w fun e w' => ∃ A' c', e = .returned (.slice A' l.length c') ∧ PairsAt w' A' l ∧ (∀ a, A' = some a → w.heap.size ≤ a.block) ∧ Ok w w' := by
  have hok := Ok.refl w
  cases A with
  | none =>
    have hl0 : l = [] := by
      cases l with
      | nil => rfl
      | cons x l => obtain ⟨_, _, e, _⟩ := hA 0 (by simp); cases e
    subst hl0
    simp only [List.length_nil]
    clear hA hl
    have q22 : ∀ (w : World) (a : Option Addr) (n c n' c' : Nat), (binOp .eql 26 (.slice a n c) (.slice none n' c')).run Tryz.prog w = .ok (.bool a.isNone) w := fun w a n c n' c' => Lib.run_eql_slice_nil w _ _ a n c n' c' Tryz.underlying26
    go_enter Tryz.func83, Tryz.ntmps83
    go_wp2
    go_ret
    exact ⟨none, 0, rfl, PairsAt.empty _ _, by simp, hok⟩
  | some ad =>
    obtain ⟨i, i0, i1, i2, i3⟩ := info_parts infoLeap
    have HS := Lib.hid (pairs_src15 (hA.alloc (.cells #[] 81)))
    have HR := Lib.hid (row_zero w 81 81 2 rfl)
    have HL := Lib.hid hl
    have HN := Lib.hid (show (cellsOfPairs l).length = l.length * 2 from flatMap_length _ 2 (fun _ => rfl) l)
    have H1 : Hid (∀ u ∈ cellsOfPairs l, u.oneCell' = true) := Lib.hid (by
      intro u hu
      obtain ⟨s, _, hs⟩ := List.mem_flatMap.1 hu
      simp only [List.mem_cons, List.not_mem_nil, or_false] at hs
      rcases hs with rfl | rfl <;> rfl)
    clear hA hl
    have q22 : ∀ (w : World) (a : Option Addr) (n c n' c' : Nat), (binOp .eql 26 (.slice a n c) (.slice none n' c')).run Tryz.prog w = .ok (.bool a.isNone) w := fun w a n c n' c' => Lib.run_eql_slice_nil w _ _ a n c n' c' Tryz.underlying26
    go_enter Tryz.func83, Tryz.ntmps83
    go_wp2_with (at_builtin; refine wpList_append_own _ rfl (.tmp 5) (.tmp 6) 26 rfl w.heap.size 81 i (.agg #[.int .i64 0, .int .i64 0]) 2 16 Tryz.underlying26 i0 i1 i2 i3 rfl (by decide) _ 0 [] rfl HR.out ad l.length cap (cellsOfPairs l) rfl HN.out HS.out H1.out (by have := HL.out; unfold maxLen; omega) (by have := HL.out; omega) (by simp) ?_; intro v' w' hr2 hg2 _; simp only [Nat.zero_add, List.nil_append] at hr2; obtain ⟨A', c', rfl, hP⟩ := PairsAt.of_own hr2; have hb := row_block hr2; have hok2 := Below.grown (hok.alloc (.cells #[] 81)) hg2 (hok.alloc (.cells #[] 81)).size (fun k hk => by cases hk; exact Nat.le_refl _); clear hr2 hg2)
    go_ret
    exact ⟨A', c', rfl, hP, hb, hok2⟩
theorem row_next19 {w w1 : World} {B : Nat} {e : TypeId} {k n : Nat} {v : Value} {xs : List Value} (h : w.ownsRow B e k v n xs) (j : Ok w w1) : w1.ownsRow B e k v n xs :=
  h.kept (w' := w1) (row := none) ⟨j.below.os, j.below.tape, j.below.output, j.size, fun i hi _ => j.below.block i hi⟩ (by cases v.ownBlock <;> simp)
theorem row_low19 {w : World} {B C : Nat} {e : TypeId} {k n : Nat} {v : Value} {xs : List Value} (h : w.ownsRow B e k v n xs) (hC : C ≤ B) : w.ownsRow C e k v n xs := by
  obtain ⟨h0, h1⟩ := h
  refine ⟨h0, ?_⟩
  rcases h1 with h1 | ⟨g, cap, cur, h1, hb, r⟩
  · exact .inl h1
  · exact .inr ⟨g, cap, cur, h1, Nat.le_trans hC hb, r⟩
set_option maxHeartbeats 1600000 in
/-- A table's own copy, as a row of one's own. -/
theorem cloneRow (A : Option Addr) (l : List (Int × Int)) (cap : Nat) (w : World) (hA : PairsAt w A l) (hl : l.length ≤ 8796093022208) :
    Calls Tryz.prog 83 #[.slice A l.length cap] w fun e w' => ∃ v, e = .returned v ∧ w'.ownsRow w.heap.size 81 2 v l.length (cellsOfPairs l) ∧ Ok w w' := by
  have hok := Ok.refl w
  cases A with
  | none =>
    have hl0 : l = [] := by
      cases l with
      | nil => rfl
      | cons x l => obtain ⟨_, _, e, _⟩ := hA 0 (by simp); cases e
    subst hl0
    simp only [List.length_nil]
    clear hA hl
    have q22 : ∀ (w : World) (a : Option Addr) (n c n' c' : Nat), (binOp .eql 26 (.slice a n c) (.slice none n' c')).run Tryz.prog w = .ok (.bool a.isNone) w := fun w a n c n' c' => Lib.run_eql_slice_nil w _ _ a n c n' c' Tryz.underlying26
    go_enter Tryz.func83, Tryz.ntmps83
    go_wp2
    go_ret
    exact ⟨_, rfl, World.ownsRow_nil _ _ _ _, hok⟩
  | some ad =>
    obtain ⟨i, i0, i1, i2, i3⟩ := info_parts infoLeap
    have HS := Lib.hid (pairs_src15 (hA.alloc (.cells #[] 81)))
    have HR := Lib.hid (row_zero w 81 81 2 rfl)
    have HL := Lib.hid hl
    have HN := Lib.hid (show (cellsOfPairs l).length = l.length * 2 from flatMap_length _ 2 (fun _ => rfl) l)
    have H1 : Hid (∀ u ∈ cellsOfPairs l, u.oneCell' = true) := Lib.hid (by
      intro u hu
      obtain ⟨s, _, hs⟩ := List.mem_flatMap.1 hu
      simp only [List.mem_cons, List.not_mem_nil, or_false] at hs
      rcases hs with rfl | rfl <;> rfl)
    clear hA hl
    have q22 : ∀ (w : World) (a : Option Addr) (n c n' c' : Nat), (binOp .eql 26 (.slice a n c) (.slice none n' c')).run Tryz.prog w = .ok (.bool a.isNone) w := fun w a n c n' c' => Lib.run_eql_slice_nil w _ _ a n c n' c' Tryz.underlying26
    go_enter Tryz.func83, Tryz.ntmps83
    go_wp2_with (at_builtin; refine wpList_append_own _ rfl (.tmp 5) (.tmp 6) 26 rfl w.heap.size 81 i (.agg #[.int .i64 0, .int .i64 0]) 2 16 Tryz.underlying26 i0 i1 i2 i3 rfl (by decide) _ 0 [] rfl HR.out ad l.length cap (cellsOfPairs l) rfl HN.out HS.out H1.out (by have := HL.out; unfold maxLen; omega) (by have := HL.out; omega) (by simp) ?_; intro v' w' hr2 hg2 _; simp only [Nat.zero_add, List.nil_append] at hr2; have hok2 := Below.grown (hok.alloc (.cells #[] 81)) hg2 (hok.alloc (.cells #[] 81)).size (fun k hk => by cases hk; exact Nat.le_refl _); clear hg2)
    go_ret
    exact ⟨v', rfl, hr2, hok2⟩
end Go.Proofs.YtmokofblmkeloaaGreatDoor

/- Contracts of layer 6: the program's within, Table. -/
namespace Go.Proofs.YtmokofblmkeloaaGreatDoor
open Go.RowKit
set_option maxRecDepth 100000
/-- All of them from lo to hi? -/
def allIn (lo hi : Int) (l : List Int) : Bool := l.all fun x => decide (lo ≤ x ∧ x ≤ hi)
theorem allIn_drop (lo hi : Int) (l : List Int) (k : Nat) (hk : k < l.length) : allIn lo hi (l.drop k) = (decide (lo ≤ l[k] ∧ l[k] ≤ hi) && allIn lo hi (l.drop (k + 1))) := by
  rw [List.drop_eq_getElem_cons hk]; rfl
set_option maxHeartbeats 800000 in
theorem wireWithin (lo hi : Int) (A : Option Addr) (l : List Int) (cap : Nat) (w : World) (h : IntsAt w A l) (hl : l.length ≤ 9223372036854775807) :
    Calls Tryz.prog 178 #[.int .i64 lo, .int .i64 hi, .slice A l.length cap] w fun e w' => e = .returned (.bool (allIn lo hi l)) ∧ w = w' := by
  obtain ⟨R, hR⟩ : ∃ R, allIn lo hi l = R := ⟨_, rfl⟩
  rw [hR]
  have HR0 := Lib.hid (show R = allIn lo hi (l.drop 0) from hR.symm)
  clear hR
  go_enter Tryz.func178, Tryz.ntmps178
  go_wp2
  go_loop [11] (fun i => ∃ k : Nat, k ≤ l.length ∧ i = .int .i64 k ∧ Hid (R = allIn lo hi (l.drop k))) (fun i => l.length - (intOf i).toNat)
  case atStart => exact ⟨0, Nat.zero_le _, rfl, HR0⟩
  case round =>
    obtain ⟨k, hk, rfl, heq⟩ := hrel
    clear HR0
    by_cases hlt : k < l.length
    · obtain ⟨b, off, hA, hb, hc⟩ := h k hlt
      subst hA
      have HR := Lib.hid (heq.out.trans (allIn_drop lo hi l k hlt))
      obtain ⟨x, hx⟩ : ∃ x, l[k] = x := ⟨_, rfl⟩
      rw [hx] at HR hc
      clear hx heq h
      by_cases g1 : x < lo
      · obtain rfl : R = false := by rw [HR.out, decide_eq_false (by omega)]; rfl
        clear HR
        go_wp2
        go_ret
        exact ⟨rfl, rfl⟩
      · by_cases g2 : hi < x
        · obtain rfl : R = false := by rw [HR.out, decide_eq_false (by omega)]; rfl
          clear HR
          go_wp2
          go_ret
          exact ⟨rfl, rfl⟩
        · have HN : Hid (R = allIn lo hi (l.drop (k + 1))) := by
            have hr := HR.out
            rw [decide_eq_true (by omega), Bool.true_and] at hr
            exact Lib.hid hr
          clear HR
          go_wp2
          go_round
          case rel => exact ⟨k + 1, by omega, by go_num, HN⟩
          case measure => simp [intOf]; omega
    · obtain rfl : R = true := by rw [heq.out, List.drop_of_length_le (by omega)]; rfl
      clear heq
      go_wp2
      go_ret
      exact ⟨rfl, rfl⟩
theorem wireWithin1 (lo hi x : Int) (w : World) (t : TypeId) {b : Nat} (hb : b = w.heap.size) : Calls Tryz.prog 178 #[.int .i64 lo, .int .i64 hi, .slice (some ⟨b, 0, none⟩) 1 1] (w.alloc (.cells #[.int .i64 x] t)) fun e w' => e = .returned (.bool (decide (lo ≤ x ∧ x ≤ hi))) ∧ (w.alloc (.cells #[.int .i64 x] t)) = w' := by
  have h := wireWithin lo hi _ [x] 1 _ (ints_new w [x] t _ rfl hb) (by simp)
  simpa [allIn] using h
theorem off_bd (l : List (Int × Int)) (k : Nat) (hk : k < l.length) (o : Int) (h : l[k].2 = o) : offAt l (k + 1) = o := by
  simp only [offAt, List.getElem?_eq_getElem hk, h]
theorem lo_nx (l : List (Int × Int)) (k : Nat) (hk : k < l.length) (a : Int) (h : l[k].1 = a) : loAt l (k + 1) = a + 86400 := by
  simp only [loAt, List.getElem?_eq_getElem hk, h]
set_option maxHeartbeats 1600000 in
theorem wireTable (A : Option Addr) (l : List (Int × Int)) (cap : Nat) (w : World) (h : PairsAt w A l) (hl : l.length ≤ 9223372036854775807) :
    Calls Tryz.prog 144 #[.slice A l.length cap] w fun e w' => e = .returned (.bool (Wire.tab l)) ∧ Ok w w' := by
  have hok := Ok.refl w
  by_cases h32 : 32 < l.length
  · have e : Wire.tab l = false := by unfold Wire.tab; rw [decide_eq_false (by omega)]; rfl
    rw [e]
    have hd : decide ((32 : Int) < (l.length : Int)) = true := decide_eq_true (by omega)
    go_enter Tryz.func144, Tryz.ntmps144
    go_wp2
    go_ret
    exact ⟨rfl, hok⟩
  have e0 : Wire.tab l = Wire.tabFrom (loAt l 0) (offAt l 0) (l.drop 0) := by unfold Wire.tab; rw [decide_eq_true (by omega)]; rfl
  rw [e0]
  clear e0
  obtain ⟨R, hR⟩ : ∃ R, Wire.tabFrom (loAt l 0) (offAt l 0) (l.drop 0) = R := ⟨_, rfl⟩
  rw [hR]
  have HR0 := Lib.hid hR.symm
  clear hR
  have hd : decide ((32 : Int) < (l.length : Int)) = false := decide_eq_false (by omega)
  have H32 := Lib.hid h32
  go_enter Tryz.func144, Tryz.ntmps144
  go_wp2
  go_loopw [3, 4, 12] (fun n c i wx => ∃ k : Nat, k ≤ l.length ∧ i = .int .i64 k ∧ n = .int .i64 (loAt l k) ∧ c = .int .i64 (offAt l k) ∧ Hid (R = Wire.tabFrom (loAt l k) (offAt l k) (l.drop k)) ∧ 0 ≤ loAt l k ∧ -(k : Int) ≤ offAt l k ∧ offAt l k ≤ k ∧ Ok w wx) (fun _ _ i _ => l.length - (intOf i).toNat)
  case atStart => exact ⟨0, Nat.zero_le _, rfl, rfl, rfl, HR0, by show (0 : Int) ≤ 0; decide, by show (-(0 : Nat) : Int) ≤ 0; decide, by show (0 : Int) ≤ (0 : Nat); decide, hok⟩
  case round =>
    obtain ⟨k, hk, rfl, rfl, rfl, heq, b0, b1, b2, hok⟩ := hrel
    clear HR0
    by_cases hlt : k < l.length
    · obtain ⟨b, off, hA, hbs, c1, c2⟩ := h.below hok k hlt
      subst hA
      have HR := Lib.hid (heq.out.trans (tab_step l k hlt))
      have N1 := Lib.hid (lo_nx l k hlt)
      have N2 := Lib.hid (off_bd l k hlt)
      obtain ⟨lo, elo⟩ : ∃ x, loAt l k = x := ⟨_, rfl⟩
      obtain ⟨of, eof⟩ : ∃ x, offAt l k = x := ⟨_, rfl⟩
      obtain ⟨a, ea⟩ : ∃ x, l[k].1 = x := ⟨_, rfl⟩
      obtain ⟨o, eo⟩ : ∃ x, l[k].2 = x := ⟨_, rfl⟩
      have NX := Lib.hid (show loAt l (k + 1) = a + 86400 ∧ offAt l (k + 1) = o from ⟨N1.out _ ea, N2.out _ eo⟩)
      simp only [elo, eof, ea, eo] at HR b0 b1 b2 c1 c2 ⊢
      clear N1 N2 heq h elo eof ea eo
      have hk32 : k < 32 := by have := H32.out; omega
      have KW := Lib.hid fun (W : World) t b (hb : b = W.heap.size) => wireWithin1 lo 1099511627776 a W t hb
      by_cases g1 : lo ≤ a ∧ a ≤ 1099511627776
      · rw [decide_eq_true g1] at KW
        have i1 : 0 ≤ a := by omega
        have i2 : a ≤ 1099511627776 := g1.2
        by_cases p3 : o = of + 1
        · have d5 : (o != of - 1) = true := by rw [bne_iff_ne]; omega
          have d6 : (o != of + 1) = false := by simp [p3]
          have HN := Lib.hid (show R = Wire.tabFrom (loAt l (k + 1)) (offAt l (k + 1)) (l.drop (k + 1)) by
            have hr := HR.out
            rw [decide_eq_true (by omega), Bool.true_and] at hr
            exact hr)
          have ho : -((k + 1 : Nat) : Int) ≤ o ∧ o ≤ ((k + 1 : Nat) : Int) := by omega
          have HOB := Lib.hid ho
          clear HR p3 ho
          go_wp2_with ((go_at_call 178; (with_reducible refine (KW.out _ _ _ (by simp)).mono ?_); rintro e w1 ⟨rfl, rfl⟩))
          go_quiet (fail)
          go_wp2
          go_roundw
          case rel => exact ⟨k + 1, by omega, by go_num, by rw [NX.out.1], by rw [NX.out.2], HN, by rw [NX.out.1]; omega, by rw [NX.out.2]; exact HOB.out.1, by rw [NX.out.2]; exact HOB.out.2, ((hok.alloc _).alloc _).drewN _⟩
          case measure => simp [intOf]; omega
        · by_cases p4 : o = of - 1
          · have d5 : (o != of - 1) = false := by simp [p4]
            have HN := Lib.hid (show R = Wire.tabFrom (loAt l (k + 1)) (offAt l (k + 1)) (l.drop (k + 1)) by
              have hr := HR.out
              rw [decide_eq_true (by omega), Bool.true_and] at hr
              exact hr)
            have ho : -((k + 1 : Nat) : Int) ≤ o ∧ o ≤ ((k + 1 : Nat) : Int) := by omega
            have HOB := Lib.hid ho
            clear HR p3 p4 ho
            go_wp2_with ((go_at_call 178; (with_reducible refine (KW.out _ _ _ (by simp)).mono ?_); rintro e w1 ⟨rfl, rfl⟩))
            go_quiet (fail)
            go_wp2
            go_roundw
            case rel => exact ⟨k + 1, by omega, by go_num, by rw [NX.out.1], by rw [NX.out.2], HN, by rw [NX.out.1]; omega, by rw [NX.out.2]; exact HOB.out.1, by rw [NX.out.2]; exact HOB.out.2, ((hok.alloc _).alloc _).drewN _⟩
            case measure => simp [intOf]; omega
          · have d5 : (o != of - 1) = true := by rw [bne_iff_ne]; omega
            have d6 : (o != of + 1) = true := by rw [bne_iff_ne]; omega
            obtain rfl : R = false := by rw [HR.out, decide_eq_false (by omega)]; rfl
            clear HR p3 p4
            go_wp2_with ((go_at_call 178; (with_reducible refine (KW.out _ _ _ (by simp)).mono ?_); rintro e w1 ⟨rfl, rfl⟩))
            go_ret
            exact ⟨rfl, ((hok.alloc _).alloc _)⟩
      · rw [decide_eq_false g1] at KW
        obtain rfl : R = false := by rw [HR.out, decide_eq_false (by omega)]; rfl
        clear HR g1
        go_wp2_with ((go_at_call 178; (with_reducible refine (KW.out _ _ _ (by simp)).mono ?_); rintro e w1 ⟨rfl, rfl⟩))
        go_ret
        exact ⟨rfl, ((hok.alloc _).alloc _)⟩
    · obtain rfl : k = l.length := by omega
      obtain rfl : R = true := by rw [heq.out, List.drop_length]; rfl
      clear heq b0 b1 b2 hlt
      go_wp2
      go_ret
      exact ⟨rfl, hok⟩
end Go.Proofs.YtmokofblmkeloaaGreatDoor

/- Contracts of layer 18: where an entry stands, Good, the offset, Next, isCount: the program's. -/
namespace Go.Proofs.YtmokofblmkeloaaGreatDoor
open Go.RowKit
set_option maxRecDepth 100000
attribute [local go_sem ↓] Go.wp_at_zero Go.wp_at_succ
/-- What IndexFunc answers. -/
def Leap.idx (p : Int × Int → Bool) (l : List (Int × Int)) : Int := if l.findIdx p < l.length then (l.findIdx p : Int) else -1
theorem Leap.idx_at {p : Int × Int → Bool} {l : List (Int × Int)} {k : Nat} (hk : k < l.length) (hp : p l[k] = true) (hb : ∀ j (hj : j < l.length), j < k → p l[j] = false) : Leap.idx p l = k := by
  have e : l.findIdx p = k := (List.findIdx_eq hk).2 ⟨hp, fun j hj => hb j (by omega) hj⟩
  unfold Leap.idx; rw [e, if_pos hk]
theorem Leap.idx_none {p : Int × Int → Bool} {l : List (Int × Int)} (hb : ∀ j (hj : j < l.length), p l[j] = false) : Leap.idx p l = -1 := by
  have e : l.findIdx p = l.length := List.findIdx_eq_length.2 fun x hx => by
    obtain ⟨j, hj, rfl⟩ := List.mem_iff_getElem.1 hx
    exact hb j hj
  unfold Leap.idx; rw [e, if_neg (Nat.lt_irrefl _)]
/-- The first entry behind a count, if there is one. -/
def Leap.nx (c : Int) (l : List (Int × Int)) : Int × Int := match l[Leap.gone c l]? with
  | some e => e
  | none => (0, 0)
/-- A leap that isn't at the end of a day. -/
def Leap.odd (e : Int × Int) : Bool := !(decide ((e.1 - e.2) % 86400 = 0))
theorem Leap.good_odd (l : List (Int × Int)) : Leap.good l = (Wire.tab l && decide (Leap.idx Leap.odd l < 0)) := by
  unfold Leap.good
  congr 1
  unfold Leap.idx
  by_cases h : l.findIdx Leap.odd < l.length
  · rw [if_pos h, decide_eq_false (by omega)]
    have h1 := List.findIdx_getElem (xs := l) (p := Leap.odd) (w := h)
    rw [List.all_eq_false]
    refine ⟨_, List.getElem_mem h, ?_⟩
    generalize l[l.findIdx Leap.odd] = x at h1 ⊢
    unfold Leap.odd at h1
    simpa using h1
  · rw [if_neg h, decide_eq_true (by omega)]
    have h2 : l.findIdx Leap.odd = l.length := by have := List.findIdx_le_length (xs := l) (p := Leap.odd); omega
    rw [List.all_eq_true]
    intro x hx
    have := List.findIdx_eq_length.1 h2 x hx
    unfold Leap.odd at this
    simpa using this
theorem goodIs (a b : Int) (h1 : 0 ≤ a ∧ a ≤ 1099511627776) (h2 : -32 ≤ b ∧ b ≤ 32) (w : World) : Calls Tryz.prog 146 #[.agg #[.int .i64 a, .int .i64 b]] w fun e w' => e = .returned (.bool (Leap.odd (a, b))) ∧ Ok w w' := by
  have hok := (Ok.refl w).alloc (.cells #[.int .i64 a, .int .i64 b] 81)
  have K := Lib.hid fun w => wideDiv (a - b) 86400 w
  rw [Sat.clip_in (x := a - b) (by omega) (by omega), show Wide.one 86400 = 86400 by decide] at K
  unfold Leap.odd
  show Calls _ _ _ _ fun e w' => e = .returned (.bool (!(decide ((a - b) % 86400 = 0)))) ∧ Ok w w'
  obtain ⟨r, hr⟩ : ∃ r, (a - b) % 86400 = r := ⟨_, rfl⟩
  obtain ⟨q, hq⟩ : ∃ r, (a - b) / 86400 = r := ⟨_, rfl⟩
  rw [hr, hq] at K
  rw [hr]
  clear hr hq
  by_cases h0 : r = 0
  all_goals
    simp only [h0, decide_true, decide_false, Bool.not_true, Bool.not_false]
    go_enter Tryz.func146, Tryz.ntmps146
    go_wp2_with (go_at_call 147; (with_reducible refine (K.out _).mono ?_); rintro e w1 ⟨rfl, hb1⟩; replace hok := hok.trans hb1; clear hb1)
    go_ret
    first | exact ⟨rfl, hok⟩ | exact ⟨by simp [h0], hok⟩
set_option maxHeartbeats 800000 in
theorem indexGood (A : Option Addr) (l : List (Int × Int)) (cap : Nat) (w : World) (h : PairsAt w A l) (hl : l.length ≤ 32) (hb : ∀ e ∈ l, (0 ≤ e.1 ∧ e.1 ≤ 1099511627776) ∧ -32 ≤ e.2 ∧ e.2 ≤ 32) :
    Calls Tryz.prog 179 #[.slice A l.length cap, .func (.func 146) #[] #[]] w fun e w' => e = .returned (.int .i64 (Leap.idx Leap.odd l)) ∧ Ok w w' := by
  have hok := Ok.refl w
  have KP := Lib.hid h
  have HB := Lib.hid hb
  obtain ⟨R, hR⟩ : ∃ R, Leap.idx Leap.odd l = R := ⟨_, rfl⟩
  rw [hR]
  have HR := Lib.hid hR
  clear h hR hb
  go_enter Tryz.func179, Tryz.ntmps179
  go_wp2_with fail
  go_loopw [8] (fun v wr => ∃ k : Nat, k ≤ l.length ∧ v = .int .i64 k ∧ Hid (∀ j (hj : j < l.length), j < k → Leap.odd l[j] = false) ∧ Ok w wr) (fun v _ => l.length - (intOf v).toNat)
  case atStart => exact ⟨0, Nat.zero_le _, rfl, Lib.hid (fun j _ h => absurd h (Nat.not_lt_zero _)), hok⟩
  case round =>
    obtain ⟨k, hk, rfl, hrel, hok1⟩ := hrel
    clear hok
    by_cases hlt : k < l.length
    · obtain ⟨b, off, hA, hbs, c1, c2⟩ := KP.out.below hok1 k hlt
      subst hA
      have hbd := HB.out l[k] (List.getElem_mem hlt)
      obtain ⟨x, hx⟩ : ∃ x, l[k] = x := ⟨_, rfl⟩
      rw [hx] at hbd c1 c2
      have HX := Lib.hid hx
      clear hx
      obtain ⟨a, o⟩ := x
      simp only at hbd c1 c2
      have K := Lib.hid (goodIs a o hbd.1 hbd.2 wr)
      clear hbd
      obtain ⟨r, hr⟩ : ∃ r, Leap.odd (a, o) = r := ⟨_, rfl⟩
      rw [hr] at K
      have HO := Lib.hid hr
      clear hr
      cases r
      · go_wp2_with (go_at_call 146; (with_reducible refine (K.out).mono ?_); rintro e w1 ⟨rfl, hb1⟩)
        go_roundw
        case rel =>
          refine ⟨k + 1, by omega, by go_num, Lib.hid fun j hj hjk => ?_, hok1.trans hb1⟩
          by_cases e : j = k
          · subst e; rw [HX.out]; exact HO.out
          · exact hrel.out j hj (by omega)
        case measure => simp [intOf]; omega
      · have HE : Hid (R = k) := Lib.hid (HR.out ▸ Leap.idx_at hlt (by rw [HX.out]; exact HO.out) hrel.out)
        clear hrel HR
        go_wp2_with (go_at_call 146; (with_reducible refine (K.out).mono ?_); rintro e w1 ⟨rfl, hb1⟩)
        go_ret
        exact ⟨by rw [HE.out]; rfl, hok1.trans hb1⟩
    · have HE : Hid (R = -1) := Lib.hid (HR.out ▸ Leap.idx_none fun j hj => hrel.out j hj (by omega))
      clear HR hrel
      go_wp2_with fail
      go_ret
      exact ⟨by rw [HE.out]; rfl, hok1⟩
theorem containsGood (A : Option Addr) (l : List (Int × Int)) (cap : Nat) (w : World) (h : PairsAt w A l) (hl : l.length ≤ 32) (hb : ∀ e ∈ l, (0 ≤ e.1 ∧ e.1 ≤ 1099511627776) ∧ -32 ≤ e.2 ∧ e.2 ≤ 32) :
    Calls Tryz.prog 145 #[.slice A l.length cap, .func (.func 146) #[] #[]] w fun e w' => e = .returned (.bool (!(decide (Leap.idx Leap.odd l < 0)))) ∧ Ok w w' := by
  have hok := Ok.refl w
  have K := Lib.hid (indexGood A l cap w h hl hb)
  generalize Leap.idx Leap.odd l = R at *
  clear h hb
  by_cases h0 : R < 0
  all_goals
    simp only [h0, decide_true, decide_false, Bool.not_true, Bool.not_false]
    go_enter Tryz.func145, Tryz.ntmps145
    go_wp2_with (go_at_call 179; (with_reducible refine (K.out).mono ?_); rintro e w1 ⟨rfl, hb1⟩; replace hok := hok.trans hb1; clear hb1)
    go_ret
    first | exact ⟨rfl, hok⟩ | exact ⟨by simp; omega, hok⟩
theorem leapGood (A : Option Addr) (l : List (Int × Int)) (cap : Nat) (w : World) (h : PairsAt w A l) (hl : l.length ≤ 9223372036854775807) :
    Calls Tryz.prog 106 #[.slice A l.length cap] w fun e w' => e = .returned (.bool (Leap.good l)) ∧ Ok w w' := by
  have hok := Ok.refl w
  have K := Lib.hid (wireTable A l cap w h hl)
  rw [Leap.good_odd]
  by_cases ht : Wire.tab l = true
  · obtain ⟨t1, t2⟩ := Leap.tab_bd ht
    have KC := Lib.hid fun w h => containsGood A l cap w h t1 t2
    rw [ht] at K ⊢
    rw [Bool.true_and]
    have HP := Lib.hid h
    clear t2 ht h
    obtain ⟨r, hr⟩ : ∃ r, decide (Leap.idx Leap.odd l < 0) = r := ⟨_, rfl⟩
    rw [hr] at KC ⊢
    clear hr
    cases r
    all_goals
      simp only [Bool.not_true, Bool.not_false] at KC
      go_enter Tryz.func106, Tryz.ntmps106
      go_wp2_with (first | (go_at_call 144; (with_reducible refine (K.out).mono ?_); rintro e w1 ⟨rfl, hb1⟩; replace hok := hok.trans hb1; clear hb1) | (go_at_call 145; (with_reducible refine (KC.out _ (HP.out.below hok)).mono ?_); rintro e w1 ⟨rfl, hb1⟩; replace hok := hok.trans hb1; clear hb1))
      go_ret
      exact ⟨rfl, hok⟩
  · have ht' : Wire.tab l = false := by simpa using ht
    rw [ht'] at K ⊢
    rw [Bool.false_and]
    clear ht ht' h
    go_enter Tryz.func106, Tryz.ntmps106
    go_wp2_with (first | (go_at_call 144; (with_reducible refine (K.out).mono ?_); rintro e w1 ⟨rfl, hb1⟩; replace hok := hok.trans hb1; clear hb1))
    go_ret
    exact ⟨rfl, hok⟩
end Go.Proofs.YtmokofblmkeloaaGreatDoor
