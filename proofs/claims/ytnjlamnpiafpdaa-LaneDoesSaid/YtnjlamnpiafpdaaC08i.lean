/- Contracts of layer 8: the document's Lanes: Push, Tick, Clear. -/
import Derived.Test.YtnjlamnpiafpdaaC08h
namespace Go.Proofs.Ytnjlamnpiafpdaa
open Go.RowKit
set_option maxRecDepth 100000
/-- A new slice is stored. -/
theorem ref_stored {g r n : Nat} {L : List It} {W W2 : World} (hok : Ok W W2) (hr : r < W.heap.size) (hg : g < W.heap.size) {c0 : Value} (hO : Own W2 r #[c0]) {A2 : Option Addr} {c2 : Nat} (hn : n = L.length)
    (hR : W2.ownsRow W.heap.size 40 3 (.slice A2 n c2) n (L.flatMap itcells)) : Only r W (W2.setCell ⟨r, 0, none⟩ (.slice A2 n c2)) ∧ RefAt (W2.setCell ⟨r, 0, none⟩ (.slice A2 n c2)) g r L := by
  subst hn
  have hge := own_ge hR
  have f1 : (Value.slice A2 L.length c2).ownBlock ≠ some r := fun e => by have := hge _ e; omega
  refine ⟨Only.setR (Only.of_ok hok) _ _, ⟨A2, c2, hO.set 0 _, own_far (own_base hR) f1 _, fun a ha => ?_⟩⟩
  subst ha
  have := hge a.block rfl
  omega
theorem own_start (W : World) : (W.alloc (.cells #[] 40)).ownsRow W.heap.size 40 3 (.slice (some ⟨W.heap.size, 0, none⟩) 0 0) 0 [] := World.ownsRow_made W #[] 0 (Nat.le_refl _) (by decide) rfl
theorem row_ge (L : List It) (who : Int) : (Lane.row L who).length ≤ L.length := row_le L who
theorem drop_le (who : Int) : ∀ L : List It, (Lane.drop who L).length ≤ L.length
  | [] => Nat.le_refl _
  | x :: L => by
    unfold Lane.drop
    split
    · simp
    · simp only [List.length_cons]; have := drop_le who L; omega
set_option maxHeartbeats 1600000 in
theorem refPushRoom (g r : Nat) (L : List It) (who : Int) (s : ByteArray) (w : World) (hR : RefAt w g r L) (hlen : L.length ≤ 400000) (hgl : g < w.heap.size) (_hgr : g ≠ r) (hn : 0 ≤ who ∧ who < 48) (hs : s.size ≤ 4096) (h64 : (Lane.row L who).length ≠ 64) :
    Calls Try.prog 11 #[.pointer (some ⟨r, 0, none⟩), .int .i64 who, .string s] w fun e w' => e = .returned (.int .i64 0) ∧ Only r w w' ∧ RefAt w' g r (L ++ [⟨who, s, 0⟩]) := by
  have hrl := hR.lt
  have HR := Lib.hid hR
  have hb := row_le L who
  obtain ⟨n, hnn⟩ : ∃ n, (Lane.row L who).length = n := ⟨_, rfl⟩
  have K := refLen g r L who w hR
  rw [hnn] at K h64 hb
  have HK := Lib.hid K
  have hd : ((n : Int) == 64) = false := by rw [beq_eq_false_iff_ne]; omega
  have hd2 : decide (0 ≤ who ∧ who < 48) = true := decide_eq_true hn
  have N1 := refNear who w
  rw [hd2] at N1
  have HN := Lib.hid N1
  clear K hR hnn N1 hd2
  go_enter Try.func11, Try.ntmps11
  go_wp2_with (first
    | (go_at_call 22; (with_reducible refine HN.out.mono ?_); rintro e w1 ⟨rfl, rfl⟩)
    | (go_at_call 19; (with_reducible refine HK.out.mono ?_); rintro e w1 ⟨rfl, hok⟩; obtain ⟨A, cap, hO, hC, hcap, hm, -⟩ := (HR.out.next hok).opened; have hA := hO.alloc (.cells #[] 40); have c0 := hA.cell 0 rfl; have HC := Lib.hid hC; have HO := Lib.hid hO; have HOK := Lib.hid hok; have hw1 : w.heap.size ≤ w1.heap.size := hok.size; clear hA hO hC hok)
    | (at_builtin; refine wpList_append_cells2 rfl (.tmp 22) (.tmp 26) 28 rfl w1.heap.size 40 Try.underlying28 _ 3 32 (by decide) (by decide) rfl itemInfo _ 0 [] rfl (own_start w1) _ L.length _ _ (its_length L) rfl (HC.out.alloc _) (its_one _) (by omega) (by simp) ?_; intro A1 c1 W1 hr1 hg1; simp only [Nat.zero_add, List.nil_append] at hr1; have OK2 := Lib.hid (ok_grown ((Ok.refl w1).alloc (.cells #[] 40)) hg1 (fun j hj => by cases hj; exact Nat.le_refl _)); have HR1 := Lib.hid hr1; clear hr1 hg1; have hw2 := OK2.out.size)
    | (at_builtin; refine wpList_append_cells2 rfl (.tmp 27) (.tmp 31) 28 rfl w1.heap.size 40 Try.underlying28 _ 3 32 (by decide) (by decide) rfl itemInfo _ L.length _ rfl (HR1.out.alloc _) _ 1 _ (itcells ⟨who, s, 0⟩) rfl rfl (CellsAt.new W1 _ _ rfl rfl) (its_one [⟨who, s, 0⟩] ·) (by omega) (by simp; omega) ?_; intro A2 c2 W2 hr2 hg2; have OK3 := Lib.hid (ok_grown (OK2.out.alloc (.cells #[.int .i64 who, .string s, .int .i64 0] 40)) hg2 (own_ge HR1.out)); have HR2 := Lib.hid hr2; clear hr2 hg2; have O3 := HO.out.next OK3.out; have d0 := O3.cell 0 rfl; have d1 := O3.frozen 0))
  go_ret
  obtain ⟨hB, hRf⟩ := ref_stored (g := g) (n := L.length + 1) (L := L ++ [⟨who, s, 0⟩]) OK3.out (by omega) (by omega) O3 (by simp) (by rw [List.flatMap_append]; exact HR2.out)
  exact ⟨rfl, (Only.of_ok HOK.out).trans hB, hRf⟩
theorem refPopSome (g r : Nat) (L : List It) (who : Int) (x : ByteArray × Int) (t : List (ByteArray × Int)) (w : World) (hR : RefAt w g r L) (hlen : L.length ≤ 500000) (hgl : g < w.heap.size) (hgr : g ≠ r) (hr : Lane.row L who = x :: t) :
    Calls Try.prog 13 #[.pointer (some ⟨r, 0, none⟩), .int .i64 who] w fun e w' => e = .returned (.tuple #[.agg #[.int .i64 who, .string x.1, .int .i64 x.2], .bool true]) ∧ Only r w w' ∧ RefAt w' g r (Lane.drop who L) :=
  (refPop g r L who w hR hlen hgl hgr).mono fun e w' ⟨h1, h2, h3⟩ => by
    rcases h3 with ⟨h, _⟩ | ⟨y, u, h, rfl⟩
    · rw [hr] at h; cases h
    · rw [hr] at h; cases h; exact ⟨rfl, h1, h2⟩
theorem refPopNone (g r : Nat) (L : List It) (who : Int) (w : World) (hR : RefAt w g r L) (hlen : L.length ≤ 500000) (hgl : g < w.heap.size) (hgr : g ≠ r) (hr : Lane.row L who = []) :
    Calls Try.prog 13 #[.pointer (some ⟨r, 0, none⟩), .int .i64 who] w fun e w' => e = .returned (.tuple #[.agg #[.int .i64 0, .string ⟨#[]⟩, .int .i64 0], .bool false]) ∧ Only r w w' ∧ RefAt w' g r (Lane.drop who L) :=
  (refPop g r L who w hR hlen hgl hgr).mono fun e w' ⟨h1, h2, h3⟩ => by
    rcases h3 with ⟨h, rfl⟩ | ⟨y, u, h, _⟩
    · exact ⟨rfl, h1, h2⟩
    · rw [hr] at h; cases h
set_option maxHeartbeats 1600000 in
theorem refPushFull (g r : Nat) (L : List It) (who : Int) (s : ByteArray) (w : World) (hR : RefAt w g r L) (hlen : L.length ≤ 400000) (hgl : g < w.heap.size) (hgr : g ≠ r) (hn : 0 ≤ who ∧ who < 48) (hs : s.size ≤ 4096) (h64 : (Lane.row L who).length = 64) :
    Calls Try.prog 11 #[.pointer (some ⟨r, 0, none⟩), .int .i64 who, .string s] w fun e w' => e = .returned (.int .i64 8) ∧ Only r w w' ∧ RefAt w' g r (Lane.drop who L ++ [⟨who, s, 0⟩]) := by
  have hrl := hR.lt
  have HR := Lib.hid hR
  obtain ⟨x, t, ht⟩ : ∃ x t, Lane.row L who = x :: t := by
    cases h : Lane.row L who with
    | nil => rw [h] at h64; simp at h64
    | cons x t => exact ⟨x, t, rfl⟩
  have hdl := drop_le who L
  have K := refLen g r L who w hR
  rw [h64] at K
  have HK := Lib.hid K
  have hd2 : decide (0 ≤ who ∧ who < 48) = true := decide_eq_true hn
  have N1 := refNear who w
  rw [hd2] at N1
  have HN := Lib.hid N1
  have HT := Lib.hid ht
  obtain ⟨D, hD⟩ : ∃ D, Lane.drop who L = D := ⟨_, rfl⟩
  rw [hD] at hdl ⊢
  have HD := Lib.hid hD
  clear K hR N1 hd2 h64 ht hD
  go_enter Try.func11, Try.ntmps11
  go_wp2_with (first
    | (go_at_call 22; (with_reducible refine HN.out.mono ?_); rintro e w1 ⟨rfl, rfl⟩)
    | (go_at_call 19; (with_reducible refine HK.out.mono ?_); rintro e w0 ⟨rfl, hok⟩; have HOK := Lib.hid hok; have hw0 : w.heap.size ≤ w0.heap.size := hok.size; clear hok)
    | (go_at_call 13; (with_reducible refine (refPopSome g r L who x t _ (HR.out.next HOK.out) (by omega) (by omega) hgr HT.out).mono ?_); rintro e w1 ⟨rfl, hB1, hR1⟩; rw [HD.out] at hR1; obtain ⟨A, cap, hO, hC, hcap, hm, -⟩ := hR1.opened; have hA := hO.alloc (.cells #[] 40); have c0 := hA.cell 0 rfl; have HC := Lib.hid hC; have HO := Lib.hid hO; have HB1 := Lib.hid hB1; have hw1 : w0.heap.size ≤ w1.heap.size := hB1.size; clear hA hO hC hB1 hR1)
    | (at_builtin; refine wpList_append_cells2 rfl (.tmp 22) (.tmp 26) 28 rfl w1.heap.size 40 Try.underlying28 _ 3 32 (by decide) (by decide) rfl itemInfo _ 0 [] rfl (own_start w1) _ D.length _ _ (its_length D) rfl (HC.out.alloc _) (its_one _) (by omega) (by simp) ?_; intro A1 c1 W1 hr1 hg1; simp only [Nat.zero_add, List.nil_append] at hr1; have OK2 := Lib.hid (ok_grown ((Ok.refl w1).alloc (.cells #[] 40)) hg1 (fun j hj => by cases hj; exact Nat.le_refl _)); have HR1 := Lib.hid hr1; clear hr1 hg1; have hw2 := OK2.out.size)
    | (at_builtin; refine wpList_append_cells2 rfl (.tmp 27) (.tmp 31) 28 rfl w1.heap.size 40 Try.underlying28 _ 3 32 (by decide) (by decide) rfl itemInfo _ D.length _ rfl (HR1.out.alloc _) _ 1 _ (itcells ⟨who, s, 0⟩) rfl rfl (CellsAt.new W1 _ _ rfl rfl) (its_one [⟨who, s, 0⟩] ·) (by omega) (by simp; omega) ?_; intro A2 c2 W2 hr2 hg2; have OK3 := Lib.hid (ok_grown (OK2.out.alloc (.cells #[.int .i64 who, .string s, .int .i64 0] 40)) hg2 (own_ge HR1.out)); have HR2 := Lib.hid hr2; clear hr2 hg2; have O3 := HO.out.next OK3.out; have d0 := O3.cell 0 rfl; have d1 := O3.frozen 0))
  go_ret
  obtain ⟨hB, hRf⟩ := ref_stored (g := g) (n := D.length + 1) (L := D ++ [⟨who, s, 0⟩]) OK3.out (by omega) (by omega) O3 (by simp) (by rw [List.flatMap_append]; exact HR2.out)
  exact ⟨rfl, ((Only.of_ok HOK.out).trans HB1.out).trans hB, hRf⟩
theorem refPush (g r : Nat) (L : List It) (who : Int) (s : ByteArray) (w : World) (hR : RefAt w g r L) (hlen : L.length ≤ 400000) (hgl : g < w.heap.size) (hgr : g ≠ r) (hs : s.size ≤ 9223372036854775807) :
    Calls Try.prog 11 #[.pointer (some ⟨r, 0, none⟩), .int .i64 who, .string s] w fun e w' => e = .returned (.int .i64 (Lane.pushE L who s)) ∧ Only r w w' ∧ RefAt w' g r (Lane.pushL L who s) := by
  by_cases hn : 0 ≤ who ∧ who < 48
  · by_cases hl : 4096 < s.size
    · have e1 : Lane.pushE L who s = 3 := by unfold Lane.pushE; rw [if_pos hn, if_pos hl]
      have e2 : Lane.pushL L who s = L := by unfold Lane.pushL; rw [if_neg (by omega)]
      rw [e1, e2]
      have hd2 : decide (0 ≤ who ∧ who < 48) = true := decide_eq_true hn
      have N1 := refNear who w
      rw [hd2] at N1
      have HN := Lib.hid N1
      have HR := Lib.hid hR
      clear e1 e2 hn hR N1 hd2
      go_enter Try.func11, Try.ntmps11
      go_wp2_with (go_at_call 22; (with_reducible refine HN.out.mono ?_); rintro e w1 ⟨rfl, rfl⟩)
      go_ret
      exact ⟨rfl, Only.refl _ _, HR.out⟩
    · by_cases h64 : (Lane.row L who).length = 64
      · have e1 : Lane.pushE L who s = 8 := by unfold Lane.pushE; rw [if_pos hn, if_neg hl, if_pos h64]
        have e2 : Lane.pushL L who s = Lane.drop who L ++ [⟨who, s, 0⟩] := by unfold Lane.pushL; rw [if_pos ⟨hn, by omega⟩, if_pos h64]
        rw [e1, e2]
        exact refPushFull g r L who s w hR hlen hgl hgr hn (by omega) h64
      · have e1 : Lane.pushE L who s = 0 := by unfold Lane.pushE; rw [if_pos hn, if_neg hl, if_neg h64]
        have e2 : Lane.pushL L who s = L ++ [⟨who, s, 0⟩] := by unfold Lane.pushL; rw [if_pos ⟨hn, by omega⟩, if_neg h64]
        rw [e1, e2]
        exact refPushRoom g r L who s w hR hlen hgl hgr hn (by omega) h64
  · have e1 : Lane.pushE L who s = 1 := by unfold Lane.pushE; rw [if_neg hn]
    have e2 : Lane.pushL L who s = L := by unfold Lane.pushL; rw [if_neg (fun h => hn h.1)]
    rw [e1, e2]
    have hd2 : decide (0 ≤ who ∧ who < 48) = false := decide_eq_false hn
    have N1 := refNear who w
    rw [hd2] at N1
    have HN := Lib.hid N1
    have HR := Lib.hid hR
    clear e1 e2 hn hR N1 hd2
    go_enter Try.func11, Try.ntmps11
    go_wp2_with (go_at_call 22; (with_reducible refine HN.out.mono ?_); rintro e w1 ⟨rfl, rfl⟩)
    go_ret
    exact ⟨rfl, Only.refl _ _, HR.out⟩
end Go.Proofs.Ytnjlamnpiafpdaa
