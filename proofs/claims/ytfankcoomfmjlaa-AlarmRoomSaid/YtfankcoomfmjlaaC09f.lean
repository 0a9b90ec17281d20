/- Contracts of layer 9: slices.Insert of one timer into a row of one's own. -/
import Derived.Test.YtfankcoomfmjlaaC09e
import Derived.Test.YtfankcoomfmjlaaW26
namespace Go.Proofs.Ytfankcoomfmjlaa
open Go.RowKit
set_option maxRecDepth 100000
/-- A row of timers with one more among them. -/
theorem ins_cells {L : List Tm} {x : Tm} {i : Nat} (hi : i ≤ L.length) {cs : Array Value} (h1 : ∀ (k : Nat) (u : Value), ((L.take i).flatMap tmcells)[k]? = some u → cs[k]? = some u) (h2 : ∀ (k : Nat) (u : Value), (tmcells x)[k]? = some u → cs[i * 2 + k]? = some u)
    (h3 : ∀ (k : Nat) (u : Value), ((L.drop i).flatMap tmcells)[k]? = some u → cs[(i + 1) * 2 + k]? = some u) : ∀ (k : Nat) (u : Value), ((L.take i ++ x :: L.drop i).flatMap tmcells)[k]? = some u → cs[k]? = some u := by
  intro k u hk
  have hl : ((L.take i).flatMap tmcells).length = i * 2 := by rw [tms_length, List.length_take]; omega
  rw [List.flatMap_append, List.flatMap_cons] at hk
  by_cases a : k < i * 2
  · rw [List.getElem?_append_left (by omega)] at hk
    exact h1 k u hk
  · rw [List.getElem?_append_right (by omega), hl] at hk
    by_cases b : k - i * 2 < 2
    · rw [List.getElem?_append_left (by rw [tmcells_length]; exact b)] at hk
      have := h2 _ u hk
      rwa [show i * 2 + (k - i * 2) = k by omega] at this
    · rw [List.getElem?_append_right (by rw [tmcells_length]; omega), tmcells_length] at hk
      have := h3 _ u hk
      rwa [show (i + 1) * 2 + (k - i * 2 - 2) = k by omega] at this
/-- What Insert leaves: n timers, those of M. -/
def InsEnd (A : Option Addr) (n : Nat) (M : List Tm) (w : World) (e : Ending) (w' : World) : Prop :=
  ∃ A' c', e = .returned (.slice A' n c') ∧ w'.ownsRow 0 50 2 (.slice A' n c') n (M.flatMap tmcells) ∧ w.grownBy w' (A.map Addr.block) ∧ Near w A A'
theorem own_map (A : Option Addr) (n c : Nat) : (Value.slice A n c).ownBlock = A.map Addr.block := by cases A <;> rfl
theorem tm_one (x : Tm) : ∀ u ∈ tmcells x, u.oneCell' = true := fun u hu => tms_one [x] u (by simpa using hu)
set_option maxHeartbeats 1600000 in
/-- At the end. -/
theorem insertEnd (A : Option Addr) (c vb : Nat) (L : List Tm) (x : Tm) (w : World) (hR : w.ownsRow 0 50 2 (.slice A L.length c) L.length (L.flatMap tmcells)) (hV : Own w vb #[.int .i64 x.id, .int .i64 x.t]) (hlen : L.length ≤ 1000000) :
    Calls Try.prog 28 #[.slice A L.length c, .int .i64 L.length, .slice (some ⟨vb, 0, none⟩) 1 1] w (InsEnd A (L.length + 1) (L ++ [x]) w) := by
  obtain ⟨A', c', w1, hr, hO, hg, hN⟩ := run_append_one (P := Try.prog) Try.underlying45 tmInfo rfl (by decide) (by decide) (Nat.zero_le _) hR hV rfl (tm_one x) hlen 45
  rw [own_map] at hg
  have HX := Lib.hid (And.intro hO (And.intro hg hN))
  have hc : L.length ≤ c ∧ c ≤ 9223372036854775807 := by
    obtain ⟨A0, c0, e0, p, q, _⟩ := row_form hR
    cases e0
    exact ⟨p, by unfold maxLen at q; omega⟩
  have hnil : (A = none ∧ L.length = 0 ∧ c = 0) ∨ ∃ g, A = some ⟨g, 0, none⟩ := by
    rcases hR.2 with ⟨h1, h2⟩ | ⟨g, cap, cur, h1, _⟩
    · simp only [Value.slice.injEq] at h1; exact .inl h1
    · simp only [Value.slice.injEq] at h1; exact .inr ⟨g, h1.1⟩
  clear hO hg hN hR hV
  obtain ⟨n, hn⟩ : ∃ n, L.length = n := ⟨_, rfl⟩
  rw [hn] at hr hc hnil hlen ⊢
  have HN := Lib.hid hn
  clear hn
  rcases hnil with ⟨rfl, rfl, rfl⟩ | ⟨g, rfl⟩
  · go_enter Try.func28, Try.ntmps28
    go_wp2_with (at_builtin; refine wpList_append_known rfl (.tmp 23) (.tmp 24) 45 45 rfl _ _ rfl rfl hr ?_)
    go_ret
    exact ⟨A', c', by simp, by have := HX.out.1; rw [HN.out] at this; rw [List.flatMap_append]; simpa [tmcells] using this, HX.out.2⟩
  · by_cases hcn : c = n
    · subst hcn
      go_enter Try.func28, Try.ntmps28
      go_wp2_with (at_builtin; refine wpList_append_known rfl (.tmp 23) (.tmp 24) 45 45 rfl _ _ rfl rfl hr ?_)
      go_ret
      exact ⟨A', c', by simp, by have := HX.out.1; rw [HN.out] at this; rw [List.flatMap_append]; simpa [tmcells] using this, HX.out.2⟩
    · go_enter Try.func28, Try.ntmps28
      go_wp2_with (at_builtin; refine wpList_append_known rfl (.tmp 23) (.tmp 24) 45 45 rfl _ _ rfl rfl hr ?_)
      go_ret
      exact ⟨A', c', by simp, by have := HX.out.1; rw [HN.out] at this; rw [List.flatMap_append]; simpa [tmcells] using this, HX.out.2⟩
set_option maxHeartbeats 1600000 in
/-- Among them, where there is no room. -/
theorem insertGrow (b c vb i : Nat) (L : List Tm) (x : Tm) (w : World) (hR : w.ownsRow 0 50 2 (.slice (some ⟨b, 0, none⟩) L.length c) L.length (L.flatMap tmcells)) (hV : Own w vb #[.int .i64 x.id, .int .i64 x.t]) (hi : i < L.length) (hroom : c < L.length + 1) (hlen : L.length ≤ 1000000) :
    Calls Try.prog 28 #[.slice (some ⟨b, 0, none⟩) L.length c, .int .i64 i, .slice (some ⟨vb, 0, none⟩) 1 1] w (InsEnd (some ⟨b, 0, none⟩) (L.length + 1) (L.take i ++ x :: L.drop i) w) := by
  have hO0 : ∃ cs, OwnT w b 50 cs ∧ L.length ≤ c ∧ c ≤ maxLen ∧ ∀ (j : Nat) (u : Value), (L.flatMap tmcells)[j]? = some u → cs[j]? = some u := by
    obtain ⟨cs, h1, -, -, h2, h3, -, h4⟩ := own_of_row hR
    exact ⟨cs, h1, h2, h3, h4⟩
  obtain ⟨cs0, hO0, hcn, hcm, hv0⟩ := hO0
  obtain ⟨n, hn⟩ : ∃ n, L.length = n := ⟨_, rfl⟩
  rw [hn] at hi hroom hlen hcn hR ⊢
  obtain ⟨c', w1, cs, hr1, hO1, hs1, hc1, hc2, hv1, hok1⟩ := run_append_make (P := Try.prog) Try.underlying45 Try.underlying3 tmInfo rfl (by decide) (by decide) (row_prefix hR (Nat.le_of_lt hi)) (m := n + 1) hroom (by omega) (by omega) 45
  obtain ⟨g, hg⟩ : ∃ g, w.heap.size = g := ⟨_, rfl⟩
  rw [hg] at hr1 hO1
  have hbg : b ≠ g := by have := hO0.lt; omega
  have hvg : vb ≠ g := by have := hV.lt; omega
  have hV1 := hV.next hok1
  have hB1 := hO0.next hok1
  -- copy(s2[i:], v)
  have hsz : (Try.prog.info? 50).map (·.size) = some 2 := by kernel_rfl
  have hfit1 : i * 2 + (tmcells x).length ≤ cs.size := by rw [tmcells_length, hs1]; omega
  have hr2 := fun dc sc => run_copyM (P := Try.prog) hO1 45 3 (i * 2) (n + 1 - i) dc ⟨vb, 0, none⟩ 1 sc 2 1 (tmcells x) Try.underlying45 hsz (by omega) rfl hfit1 (fun j u hj => by
    rw [Go.WideShapes.add_plain, Nat.zero_add]
    exact hV1.cell j (by rw [← Array.getElem?_toList]; exact hj)) (tm_one x)
  have hO2 := hO1.setCells (tmcells x) (i * 2)
  have hg2 := grown_setCells w1 g (i * 2) (tmcells x)
  obtain ⟨w2, hw2⟩ : ∃ w2, w1.setCells g (i * 2) (tmcells x) = w2 := ⟨_, rfl⟩
  simp only [hw2] at hr2 hO2 hg2
  clear hw2
  have hB2 : OwnT w2 b 50 cs0 := hB1.same (hg2.block b hB1.lt (by simpa using hbg))
  -- copy(s2[i+1:], s[i:])
  have hD : ((L.drop i).flatMap tmcells).length = (n - i) * 2 := by rw [tms_length, List.length_drop, hn]
  have hsz2 : (layAt cs (i * 2) (tmcells x)).size = c' * 2 := by rw [layAt_size]; exact hs1
  have hr3 := fun dc sc => run_copyM (P := Try.prog) hO2.drew 45 3 ((i + 1) * 2) (n - i) dc ⟨b, i * 2, none⟩ (n - i) sc 2 (n - i) ((L.drop i).flatMap tmcells) Try.underlying45 hsz (by omega) hD (by rw [hD, hsz2]; omega) (fun j u hj => by
    rw [Go.WideShapes.add_plain]
    rw [← tms_drop, List.getElem?_drop] at hj
    exact hB2.drew.cell _ (hv0 _ u hj)) (tms_one _)
  have hO3 := hO2.drew.setCells ((L.drop i).flatMap tmcells) ((i + 1) * 2)
  have hg3 := grown_setCells w2.drew g ((i + 1) * 2) ((L.drop i).flatMap tmcells)
  obtain ⟨w3, hw3⟩ : ∃ w3, w2.drew.setCells g ((i + 1) * 2) ((L.drop i).flatMap tmcells) = w3 := ⟨_, rfl⟩
  simp only [hw3] at hr3 hO3 hg3
  clear hw3
  have hX : InsEnd (some ⟨b, 0, none⟩) (n + 1) (L.take i ++ x :: L.drop i) w (.returned (.slice (some ⟨g, 0, none⟩) (n + 1) c')) w3 := by
    refine ⟨_, _, rfl, ?_, ?_, fun a ha => .inr ?_⟩
    · have hT : ((L.take i).flatMap tmcells).length = i * 2 := by rw [tms_length, List.length_take]; omega
      refine row_of_own hO3 (Nat.zero_le _) ?_ (by omega) hc2 (by rw [layAt_size]; exact hsz2) (ins_cells (by omega) (fun k u hk => ?_) (fun k u hk => ?_) (fun k u hk => ?_))
      · rw [tms_length, List.length_append, List.length_cons, List.length_take, List.length_drop]; omega
      · have : k < i * 2 := by rw [← hT]; exact (List.getElem?_eq_some_iff.1 hk).1
        rw [layAt_out _ _ _ _ (by omega), layAt_out _ _ _ _ (by omega)]
        exact hv1 k u hk
      · have hkl : k < (tmcells x).length := (List.getElem?_eq_some_iff.1 hk).1
        have hk2 := hkl
        rw [tmcells_length] at hk2
        rw [layAt_out _ _ _ _ (by omega), layAt_in _ _ _ _ hfit1 hkl]
        exact hk
      · have hkl : k < ((L.drop i).flatMap tmcells).length := (List.getElem?_eq_some_iff.1 hk).1
        rw [layAt_in _ _ _ _ (by rw [hD, hsz2]; omega) hkl]
        exact hk
    · have e1 : w.grownBy w1 (some b) := ⟨hok1.below.os, hok1.below.tape, hok1.below.output, hok1.size, fun k hk _ => hok1.below.block k hk⟩
      exact grown_new (grown_trans (grown_new e1 (Nat.le_of_eq hg) hg2) (grown_drew w2 _)) (Nat.le_of_eq hg) hg3
    · cases ha
      exact ⟨rfl, rfl, Nat.le_of_eq hg⟩
  have HX := Lib.hid hX
  have hc63 : c' ≤ 9223372036854775807 := by unfold maxLen at hc2; omega
  have q1 : ¬ c' = i := by omega
  have q2 : ¬ c' = i + 1 := by omega
  have q3 : ¬ c = i := by omega
  have q4 : i ≤ c := by omega
  have q5 : (i : Int) ≤ (c : Int) := by omega
  have q6 : ((i : Int) == (n : Int)) = false := by rw [beq_eq_false_iff_ne]; omega
  have q7 : (n : Int) + 1 - (i : Int) = ((n + 1 - i : Nat) : Int) := by omega
  have q8 : (c : Int) < (n : Int) + 1 := by omega
  have q9 : ((i : Int) + 1).toNat = i + 1 := by omega
  have r1 : IntKind.i64.wrap ((i : Int) + 1) = (i : Int) + 1 := IntWalk.i64_in _ ⟨by omega, by omega⟩
  have r2 : (0 : Int) ≤ (i : Int) + 1 := by omega
  have r3 : (i : Int) ≤ (n : Int) := by omega
  have r4 : i ≤ n := by omega
  clear hX hO1 hO2 hO3 hg2 hg3 hV1 hB1 hB2 hv1 hv0 hsz hfit1 hD hsz2 hs1 hok1 hR hV hO0 hcm hc2 hn hbg hvg
  go_enter Try.func28, Try.ntmps28
  go_wp2_with (first | (at_builtin; refine wpList_append_known rfl (.tmp 34) (.tmp 39) 45 3 rfl _ _ rfl (by simp [Act.eval]) hr1 ?_) | (at_builtin; refine wpList_copy_known rfl (.tmp 43) (.tmp 44) 45 rfl _ _ rfl rfl (hr2 _ _) ?_))
  go_region_law (refine step_copy_known rfl (.tmp 50) (.tmp 53) 45 rfl (.slice (some ⟨g, (i + 1) * 2, none⟩) (n - i) (c' - (i + 1))) (.slice (some ⟨b, i * 2, none⟩) (n - i) (c - i)) (by simp [Act.eval, Act.put]) (by simp [Act.eval, Act.put]) (hr3 _ _) ?_)
  go_wp2_with fail
  go_ret
  exact HX.out
set_option maxHeartbeats 1600000 in
/-- Among them, where there is room. -/
theorem insertShift (b c vb i : Nat) (L : List Tm) (x : Tm) (w : World) (hR : w.ownsRow 0 50 2 (.slice (some ⟨b, 0, none⟩) L.length c) L.length (L.flatMap tmcells)) (hV : Own w vb #[.int .i64 x.id, .int .i64 x.t]) (hvb : vb ≠ b) (hi : i < L.length) (hroom : L.length + 1 ≤ c) (hlen : L.length ≤ 1000000) :
    Calls Try.prog 28 #[.slice (some ⟨b, 0, none⟩) L.length c, .int .i64 i, .slice (some ⟨vb, 0, none⟩) 1 1] w (InsEnd (some ⟨b, 0, none⟩) (L.length + 1) (L.take i ++ x :: L.drop i) w) := by
  obtain ⟨cs, hO, -, -, -, hcm, hcs, hv⟩ := own_of_row hR
  obtain ⟨n, hn⟩ : ∃ n, L.length = n := ⟨_, rfl⟩
  rw [hn] at hi hroom hlen ⊢
  have hsz : (Try.prog.info? 50).map (·.size) = some 2 := by kernel_rfl
  have hov : ∀ lb cb, (callFunc 30 #[.slice (some ⟨vb, 0, none⟩) 1 1, .slice (some ⟨b, (i + 1) * 2, none⟩) lb cb]).run Try.prog w = .ok (.value (.bool false)) w := fun lb cb =>
    overlaps_no Try.func30 (by kernel_rfl) (by kernel_rfl) (by kernel_rfl) (tR := 4) (by kernel_rfl) Try.underlying45 tmInfo2 hV hO.own hvb (by omega) _ _ _ _ _
  have hD : ((L.drop i).flatMap tmcells).length = (n - i) * 2 := by rw [tms_length, List.length_drop, hn]
  have hr1 := fun dc sc => run_copyM (P := Try.prog) hO.drew 45 3 ((i + 1) * 2) (n - i) dc ⟨b, i * 2, none⟩ (n + 1 - i) sc 2 (n - i) ((L.drop i).flatMap tmcells) Try.underlying45 hsz (by omega) hD (by rw [hD, hcs]; omega) (fun j u hj => by
    rw [Go.WideShapes.add_plain]
    rw [← tms_drop, List.getElem?_drop] at hj
    exact hO.drew.cell _ (hv _ u hj)) (tms_one _)
  have hO1 := hO.drew.setCells ((L.drop i).flatMap tmcells) ((i + 1) * 2)
  have hg1 := grown_trans (grown_drew w (some b)) (grown_setCells w.drew b ((i + 1) * 2) ((L.drop i).flatMap tmcells))
  obtain ⟨w1, hw1⟩ : ∃ w1, w.drew.setCells b ((i + 1) * 2) ((L.drop i).flatMap tmcells) = w1 := ⟨_, rfl⟩
  simp only [hw1] at hr1 hO1 hg1
  clear hw1
  have hV1 : Own w1 vb #[.int .i64 x.id, .int .i64 x.t] := by
    have hl := hV.lt
    obtain ⟨t, ht⟩ := hV
    exact ⟨t, (hg1.block vb hl (by simpa using hvb)).trans ht⟩
  have hs1 : (layAt cs ((i + 1) * 2) ((L.drop i).flatMap tmcells)).size = c * 2 := by rw [layAt_size]; exact hcs
  have hfit2 : i * 2 + (tmcells x).length ≤ (layAt cs ((i + 1) * 2) ((L.drop i).flatMap tmcells)).size := by rw [tmcells_length, hs1]; omega
  have hr2 := fun dc sc => run_copyM (P := Try.prog) hO1 45 3 (i * 2) (n + 1 - i) dc ⟨vb, 0, none⟩ 1 sc 2 1 (tmcells x) Try.underlying45 hsz (by omega) rfl hfit2 (fun j u hj => by
    rw [Go.WideShapes.add_plain, Nat.zero_add]
    exact hV1.cell j (by rw [← Array.getElem?_toList]; exact hj)) (tm_one x)
  have hO2 := hO1.setCells (tmcells x) (i * 2)
  have hg2 := grown_setCells w1 b (i * 2) (tmcells x)
  obtain ⟨w2, hw2⟩ : ∃ w2, w1.setCells b (i * 2) (tmcells x) = w2 := ⟨_, rfl⟩
  simp only [hw2] at hr2 hO2 hg2
  clear hw2
  have hX : InsEnd (some ⟨b, 0, none⟩) (n + 1) (L.take i ++ x :: L.drop i) w (.returned (.slice (some ⟨b, 0, none⟩) (n + 1) c)) w2 := by
    refine ⟨_, _, rfl, ?_, grown_trans hg1 hg2, fun a ha => .inl ha⟩
    have hT : ((L.take i).flatMap tmcells).length = i * 2 := by rw [tms_length, List.length_take]; omega
    refine row_of_own hO2 (Nat.zero_le _) ?_ hroom hcm (by rw [layAt_size]; exact hs1) (ins_cells (by omega) (fun k u hk => ?_) (fun k u hk => ?_) (fun k u hk => ?_))
    · rw [tms_length, List.length_append, List.length_cons, List.length_take, List.length_drop]; omega
    · have : k < i * 2 := by rw [← hT]; exact (List.getElem?_eq_some_iff.1 hk).1
      rw [layAt_out _ _ _ _ (by omega), layAt_out _ _ _ _ (by omega)]
      refine hv k u ?_
      rw [← tms_take, List.getElem?_take, if_pos this] at hk
      exact hk
    · have hkl : k < (tmcells x).length := (List.getElem?_eq_some_iff.1 hk).1
      rw [layAt_in _ _ _ _ hfit2 hkl]
      exact hk
    · have hkl : k < ((L.drop i).flatMap tmcells).length := (List.getElem?_eq_some_iff.1 hk).1
      rw [layAt_out _ _ _ _ (by rw [tmcells_length]; omega), layAt_in _ _ _ _ (by rw [hD, hcs]; omega) hkl]
      exact hk
  have HX := Lib.hid hX
  have hc63 : c ≤ 9223372036854775807 := by unfold maxLen at hcm; omega
  have q1 : ¬ c = i := by omega
  have q2 : ¬ c = i + 1 := by omega
  have q4 : i ≤ n + 1 := by omega
  have q5 : (i : Int) ≤ (n : Int) + 1 := by omega
  have q6 : ((i : Int) == (n : Int)) = false := by rw [beq_eq_false_iff_ne]; omega
  have q8 : ¬ (c : Int) < (n : Int) + 1 := by omega
  have q9 : ((i : Int) + 1).toNat = i + 1 := by omega
  have r1 : IntKind.i64.wrap ((i : Int) + 1) = (i : Int) + 1 := IntWalk.i64_in _ ⟨by omega, by omega⟩
  have r2 : (0 : Int) ≤ (i : Int) + 1 := by omega
  have r3 : (i : Int) ≤ (n : Int) := by omega
  have r4 : i ≤ n := by omega
  have q10 : (n : Int) + 1 ≤ (c : Int) := by omega
  have q11 : (i : Int) + 1 ≤ (n : Int) + 1 := by omega
  have q12 : i + 1 ≤ n + 1 := by omega
  clear hX hO1 hO2 hg1 hg2 hV1 hv hsz hfit2 hD hs1 hR hV hO hcm hn hcs
  go_enter Try.func28, Try.ntmps28
  go_wp2_with (simp only [hov])
  go_region_law (refine step_copy_known rfl (.tmp 73) (.tmp 76) 45 rfl (.slice (some ⟨b, (i + 1) * 2, none⟩) (n - i) (c - (i + 1))) (.slice (some ⟨b, i * 2, none⟩) (n + 1 - i) (c - i)) (by simp [Act.eval, Act.put]) (by simp [Act.eval, Act.put]) (hr1 _ _) ?_)
  go_wp2_with (at_builtin; refine wpList_copy_known rfl (.tmp 80) (.tmp 81) 45 rfl _ _ rfl rfl (hr2 _ _) ?_)
  go_ret
  exact HX.out
/-- One timer more, at the place i. -/
theorem insertAt (A : Option Addr) (c vb i : Nat) (L : List Tm) (x : Tm) (w : World) (hR : w.ownsRow 0 50 2 (.slice A L.length c) L.length (L.flatMap tmcells)) (hV : Own w vb #[.int .i64 x.id, .int .i64 x.t]) (hvb : ∀ a, A = some a → vb ≠ a.block) (hi : i ≤ L.length) (hlen : L.length ≤ 1000000) :
    Calls Try.prog 28 #[.slice A L.length c, .int .i64 i, .slice (some ⟨vb, 0, none⟩) 1 1] w (InsEnd A (L.length + 1) (L.take i ++ x :: L.drop i) w) := by
  by_cases h : i = L.length
  · subst h
    rw [List.take_length, List.drop_length]
    exact insertEnd A c vb L x w hR hV hlen
  · have hA : ∃ b, A = some ⟨b, 0, none⟩ := by
      rcases hR.2 with ⟨h1, h2⟩ | ⟨g, cap, cur, h1, _⟩
      · omega
      · simp only [Value.slice.injEq] at h1
        exact ⟨g, h1.1⟩
    obtain ⟨b, rfl⟩ := hA
    by_cases hroom : L.length + 1 ≤ c
    · exact insertShift b c vb i L x w hR hV (hvb _ rfl) (by omega) hroom hlen
    · exact insertGrow b c vb i L x w hR hV (by omega) (by omega) hlen
end Go.Proofs.Ytfankcoomfmjlaa
