/- VoteKeeps: for every fabric's numbers, every table of one's own and every slice of tables the law answers true: what is handed in stays; what is answered is its own. The row lists the library's tables that strconv and math/bits read, tied to the program's text. No other condition. -/
import Derived.Test.YtbbkohpaebeidaaDoorC19g
import Derived.Test.YtbbkohpaebeidaaDoorW06
import Derived.Test.YtbbkohpaebeidaaDoorW16
import Derived.Test.YtbbkohpaebeidaaDoorW20
namespace Go.Proofs.YtbbkohpaebeidaaDoor.voteKeeps
open Go.ChangeShapes Go.WideShapes Go.ChangeAt Go.RowKit
set_option linter.unusedVariables false
set_option maxRecDepth 100000
attribute [local go_sem ↓] Go.wp_at_zero Go.wp_at_succ
theorem cells_of_pairs {w : World} {A : Option Addr} {l : List (Int × Int)} (h : PairsAt w A l) : CellsAt w A (cellsOfPairs l) := fun j u hj => by
  have hlt : j < l.length * 2 := by rw [← cells_pairs_length]; exact (List.getElem?_eq_some_iff.1 hj).1
  have hk : j / 2 < l.length := by omega
  obtain ⟨b, off, e, hb, h1, h2⟩ := h (j / 2) hk
  obtain ⟨a1, a2⟩ := cellsOfPairs_at l (j / 2) hk
  refine ⟨b, off, e, hb, ?_⟩
  rcases Nat.mod_two_eq_zero_or_one j with g | g
  · have e2 : j = j / 2 * 2 := by omega
    rw [e2, a1] at hj
    cases hj
    rw [show off + j = off + j / 2 * 2 by omega]
    exact h1
  · have e2 : j = j / 2 * 2 + 1 := by omega
    rw [e2, a2] at hj
    cases hj
    rw [show off + j = off + j / 2 * 2 + 1 by omega]
    exact h2
/-- Two cells that are read beside one another. -/
def Pair19 (b1 p1 : Nat) (v1 : Value) (b2 p2 : Nat) (v2 : Value) (w w' : World) : Prop := w'.cell? ⟨b1, p1, none⟩ = some v1 ∧ b1 < w'.heap.size ∧ w'.cell? ⟨b2, p2, none⟩ = some v2 ∧ b2 < w'.heap.size ∧ Ok w w'
theorem Pair19.drew {b1 p1 b2 p2 : Nat} {v1 v2 : Value} {w w' : World} (h : Pair19 b1 p1 v1 b2 p2 v2 w w') : Pair19 b1 p1 v1 b2 p2 v2 w w'.drew := ⟨h.1, h.2.1, h.2.2.1, h.2.2.2.1, h.2.2.2.2.drew⟩
theorem Pair19.next {b1 p1 b2 p2 : Nat} {v1 v2 : Value} {w w' w2 : World} (k : Ok w' w2) (h : Pair19 b1 p1 v1 b2 p2 v2 w w') : Pair19 b1 p1 v1 b2 p2 v2 w w2 :=
  ⟨(k.cell (p := ⟨b1, p1, none⟩) h.2.1).trans h.1, Nat.lt_of_lt_of_le h.2.1 k.size, (k.cell (p := ⟨b2, p2, none⟩) h.2.2.2.1).trans h.2.2.1, Nat.lt_of_lt_of_le h.2.2.2.1 k.size, h.2.2.2.2.trans k⟩
theorem Pair19.okk {b1 p1 b2 p2 : Nat} {v1 v2 : Value} {w w' : World} (h : Pair19 b1 p1 v1 b2 p2 v2 w w') : Ok w w' := h.2.2.2.2
/-- The copies made so far: each in a block of its own. -/
def Copies (w : World) (us : List TA) (ts : List TA) : Prop := lists us = lists ts ∧ ∀ x ∈ us, w.ownsRow 0 37 2 (taV x) x.l.length (cellsOfPairs x.l)
theorem Copies.next {w w1 : World} {us ts : List TA} (h : Copies w us ts) (k : Ok w w1) : Copies w1 us ts := ⟨h.1, fun x hx => row_next19 (h.2 x hx) k⟩
theorem Copies.other {w w1 : World} {us ts : List TA} (h : Copies w us ts) {B n : Nat} {u : Value} {ys : List Value} (h2 : w.ownsRow B 22 1 u n ys) (hg : w.grownBy w1 u.ownBlock) : Copies w1 us ts := ⟨h.1, fun x hx => row_other19 (h.2 x hx) h2 (by decide) hg⟩
theorem Copies.pairs {w : World} {us ts : List TA} (h : Copies w us ts) : ∀ x ∈ us, PairsAt w x.A x.l := fun x hx => by
  obtain ⟨A', c', e1, hp⟩ := PairsAt.of_own (h.2 x hx)
  cases e1
  exact hp
theorem Copies.add {w : World} {us ts : List TA} {x y : TA} (h : Copies w us ts) (hx : w.ownsRow 0 37 2 (taV x) x.l.length (cellsOfPairs x.l)) (he : x.l = y.l) : Copies w (us ++ [x]) (ts ++ [y]) := by
  refine ⟨?_, fun z hz => ?_⟩
  · unfold lists at *
    rw [List.map_append, List.map_append]
    simp only [List.map_cons, List.map_nil]
    rw [show us.map TA.l = ts.map TA.l from h.1, he]
  · rcases List.mem_append.1 hz with g | g
    · exact h.2 z g
    · rw [List.mem_singleton] at g
      subst g; exact hx
theorem Copies.length {w : World} {us ts : List TA} (h : Copies w us ts) : us.length = ts.length := by rw [← lists_length us, h.1, lists_length]
theorem leapInfo : (Tryd.prog.info? 37).map (fun i => (i.zero, i.size, i.bytes)) = some (some (.agg #[.int .i64 0, .int .i64 0]), 2, 16) := by kernel_rfl
set_option maxHeartbeats 3200000 in
theorem walk (w : World) (hT : Pow w) (p : Par) (wp : ParWf p) (A : Option Addr) (own : List (Int × Int)) (ca : Nat) (hA : PairsAt w A own) (hlo : own.length ≤ 9223372036854775807) (hwo : ∀ s ∈ own, (Lit.int .i64 s.1).wf = true ∧ (Lit.int .i64 s.2).wf = true) (B : Option Addr) (ts : List TA) (cb : Nat) (hB : TabsAt w B ts) (hlt : ts.length ≤ 9223372036854775807) (hf : ∀ x ∈ ts, TFit x) :
    Calls Tryd.prog 6 #[parV p, .slice A own.length ca, .slice B ts.length cb] w fun e w' => e = .returned (.bool true) ∧ Below w.heap.size w w' := by
  show Calls Tryd.prog 6 #[parV p, .slice A own.length ca, .slice B ts.length cb] w fun e w' => e = .returned (.bool true) ∧ Ok w w'
  have hok := (Ok.refl w).alloc (.cells (parCells p) 29)
  have hP := Own.new w (parCells p) 29 rfl
  have hf2 : ∀ x ∈ ts, x.l.length ≤ 9223372036854775807 := fun x hx => (hf x hx).1
  have HT := Lib.hid fun W' (q : Ok w W') => hT.next q
  have HA := Lib.hid fun W' (q : Ok w W') => hA.below q
  have HB := Lib.hid fun W' (q : Ok w W') => hB.below q
  have KA := Lib.hid fun W' (q : Ok w W') => law19Alive W' (HT.out _ q)
  have KG := Lib.hid fun W' (q : Ok w W') => voteGreat A B own ts ca cb W' (HB.out _ q) hlo hlt hf2
  clear hT hA hB hwo wp
  by_cases hbig : Vote.great own ts = true ∨ p.f < 0
  · cases hg : Vote.great own ts with
    | true =>
      rw [hg] at KG
      clear hbig hg
      go_enter Tryd.func6, Tryd.ntmps6
      go_upto_region 1 with fail
      generalize w.alloc (.cells (parCells p) 29) = W at hP hok ⊢
      generalize w.heap.size = g at hP ⊢
      go_wp2_with (first
        | (go_at_call 8; refine (KA.out _ hok).mono ?_; rintro e w1 ⟨rfl, hb1⟩; replace hok := hok.trans hb1; clear hb1)
        | (go_at_call 9; refine (KG.out _ hok).mono ?_; rintro e w2 ⟨rfl, rfl⟩))
      go_ret
      exact ⟨rfl, hok⟩
    | false =>
      have hneg : p.f < 0 := by rcases hbig with h | h; · rw [hg] at h; cases h
                                · exact h
      rw [hg] at KG
      clear hbig hg
      go_enter Tryd.func6, Tryd.ntmps6
      go_upto_region 1 with fail
      generalize w.alloc (.cells (parCells p) 29) = W at hP hok ⊢
      generalize w.heap.size = g at hP ⊢
      go_wp2_with (first
        | (go_at_call 8; refine (KA.out _ hok).mono ?_; rintro e w1 ⟨rfl, hb1⟩; replace hok := hok.trans hb1; replace hP := hP.next hb1; clear hb1; obtain ⟨c0, c1, c2, c3, c4, c5, c6, c7, c8, c9, c10, c11⟩ := hP.pars; have hPl := hP.lt)
        | (go_at_call 9; refine (KG.out _ hok).mono ?_; rintro e w2 ⟨rfl, rfl⟩))
      go_ret
      exact ⟨rfl, hok⟩
  · have hg : Vote.great own ts = false := by
      cases h : Vote.great own ts with
      | true => exact absurd (.inl h) hbig
      | false => rfl
    have hpos : 0 ≤ p.f := by omega
    obtain ⟨h1, h2, h3⟩ := Vote.great_not hg
    rw [hg] at KG
    clear hbig hg
    have H3 := Lib.hid h3
    have HF := Lib.hid hf2
    have HN := Lib.hid (cells_pairs_length own)
    have H1 := Lib.hid (cells_pairs_one own)
    clear h3 hf hf2
    go_enter Tryd.func6, Tryd.ntmps6
    go_upto_region 1 with fail
    generalize w.alloc (.cells (parCells p) 29) = W at hP hok ⊢
    generalize w.heap.size = g at hP ⊢
    go_upto_region 5 with (first
      | (go_at_call 8; refine (KA.out _ hok).mono ?_; rintro e w1 ⟨rfl, hb1⟩; replace hok := hok.trans hb1; replace hP := hP.next hb1; clear hb1; obtain ⟨c0, c1, c2, c3, c4, c5, c6, c7, c8, c9, c10, c11⟩ := hP.pars; have hPl := hP.lt)
      | (go_at_call 9; refine (KG.out _ hok).mono ?_; rintro e w2 ⟨rfl, rfl⟩))
    clear KA KG c0 c1 c2 c3 c4 c5 c6 c7 c8 c9 c10 c11 hPl
    have hrow0 := row_zero w1 37 37 2 rfl
    have hok2 := Ok.refl w1
    go_upto_region 6 with (at_builtin; refine wpList_append_cells rfl (.tmp 25) (.tmp 26) 22 rfl w1.heap.size 37 Tryd.underlying22 (.agg #[.int .i64 0, .int .i64 0]) 2 16 (by decide) (by decide) rfl leapInfo _ 0 [] rfl hrow0 A own.length ca (cellsOfPairs own) HN.out rfl (cells_of_pairs (HA.out _ (hok.alloc _))) H1.out (by omega) (by simp) ?_; intro v3 w3 hr3 hg3; simp only [Nat.zero_add, List.nil_append] at hr3; replace hok2 := ok_grow19 (hok2.alloc _) hg3 (row_from hrow0); clear hg3 hrow0)
    obtain ⟨A1, c1', rfl, hM⟩ := PairsAt.of_own hr3
    clear hr3
    replace hok := hok.trans hok2
    replace hP := hP.next hok2
    clear hok2
    have hokC := Ok.refl w3
    go_wp2
    go_loopw [8, 30] (fun v i wr => ∃ k : Nat, k ≤ ts.length ∧ i = .int .i64 k ∧ ∃ us : List TA, Copies wr us (ts.take k) ∧ wr.ownsRow w3.heap.size 22 1 v us.length (us.map taV) ∧ Ok w3 wr) (fun _ i _ => ts.length - (intOf i).toNat)
    case atStart => exact ⟨0, Nat.zero_le _, rfl, [], ⟨rfl, by simp⟩, World.ownsRow_nil _ _ _ _, hokC⟩
    case round =>
      clear hokC
      obtain ⟨k, hk, rfl, us, hC, hr, hokC⟩ := hrel
      by_cases hkl : k < ts.length
      · obtain ⟨b, off, e0, hb, hc⟩ := (HB.out _ (hok.trans hokC)).cells k hkl
        subst e0
        have hx := List.getElem_mem hkl
        have HC := Lib.hid fun W' (q : Ok w W') => (HB.out _ q).tabs _ hx
        have hx3 := H3.out _ hx
        have HT1 := Lib.hid (List.take_succ_eq_append_getElem hkl)
        have hul : us.length ≤ 40 := by rw [hC.length, List.length_take]; omega
        simp only [taV] at hc
        generalize ts[k] = x at hc HC hx3 HT1
        obtain ⟨l, A3, c3⟩ := x
        simp only at hc HC hx3
        have HNl := Lib.hid (cells_pairs_length l)
        have H1l := Lib.hid (cells_pairs_one l)
        have hrow1 := row_zero wr 37 37 2 rfl
        go_wp2_with (first
          | (at_builtin; refine wpList_append_cells rfl (.tmp 35) (.tmp 36) 22 rfl wr.heap.size 37 Tryd.underlying22 (.agg #[.int .i64 0, .int .i64 0]) 2 16 (by decide) (by decide) rfl leapInfo _ 0 [] rfl hrow1 A3 l.length c3 (cellsOfPairs l) HNl.out rfl (cells_of_pairs (HC.out _ (hok.trans (hokC.alloc _)))) H1l.out (by omega) (by simp) ?_; intro v4 w4 hr4 hg4; simp only [Nat.zero_add, List.nil_append] at hr4; have hk4 : Ok wr w4 := ok_grow19 ((Ok.refl wr).alloc _) hg4 (row_from hrow1); clear hg4 hrow1; obtain ⟨A4, c4, rfl, -⟩ := PairsAt.of_own hr4; have hr5 := row_next19 hr hk4; have hC5 := hC.next hk4; have hokC5 := hokC.trans hk4; have hr6 := row_low19 hr4 (Nat.zero_le _); clear hr4 hr hC hk4 hokC)
          | (at_builtin; refine wpList_append_value rfl (.tmp 34) (.tmp 38) 25 rfl w3.heap.size 22 Tryd.underlying25 _ 24 (by decide) rfl infoTab _ _ _ rfl (hr5.alloc _) w4.heap.size (.slice A4 l.length c4) rfl rfl (by simp) (by omega) (hokC5.alloc _).size ?_; intro v6 w6 hr7 hg7; have hC8 := ((hC5.add (x := ⟨l, A4, c4⟩) (y := ⟨l, A3, c3⟩) hr6 rfl).next ((Ok.refl w4).alloc _)).other (hr5.alloc _) hg7; have hokC7 := ok_grow19 (hokC5.alloc _) hg7 (row_from hr5); clear hr5 hr6 hC5 hg7 hokC5))
        go_roundw
        case rel => exact ⟨k + 1, by omega, by go_num, us ++ [⟨l, A4, c4⟩], by rw [HT1.out]; exact hC8, by simpa using hr7, hokC7⟩
        case measure => simp [intOf]; omega
      · obtain rfl : k = ts.length := by omega
        rw [List.take_length] at hC
        obtain ⟨V, rfl⟩ : ∃ V, V = wr := ⟨_, rfl⟩
        obtain ⟨Aall, call, rfl, hU⟩ := tabs_of_row hr hC.pairs
        have hul := hC.length
        have HL := hC.1
        have hM2 := hM.below hokC
        replace hok := hok.trans hokC
        replace hP := hP.next hokC
        clear hr hC hM hokC
        have K1 := Lib.hid fun W' (q : Ok V W') => voteAdopts2 p A1 Aall own us c1' call W' (HT.out _ (hok.trans q)) (hM2.below q) (hU.below q) (by omega) (by omega) (fun x hx => by
          obtain ⟨i, hi, rfl⟩ := List.mem_iff_getElem.1 hx
          have e1 := lists_at (ts := us) hi (by rw [lists_length]; exact hi)
          have hi2 : i < ts.length := by omega
          have e2 := lists_at (ts := ts) hi2 (by rw [lists_length]; exact hi2)
          have e3 : us[i].l = ts[i].l := by rw [← e1, ← e2]; simp only [HL]
          rw [e3]; exact HF.out _ (List.getElem_mem _))
        have HEq := Lib.hid fun i (hi : i < us.length) (hi2 : i < ts.length) => (by
          have e1 := lists_at (ts := us) hi (by rw [lists_length]; exact hi)
          have e2 := lists_at (ts := ts) hi2 (by rw [lists_length]; exact hi2)
          rw [← e1, ← e2]; simp only [HL] : us[i].l = ts[i].l)
        rw [HL] at K1
        have FL : (Vote.out p.f own (lists ts)).length ≤ 256 := by
          rcases Vote.agreed p.f own (lists ts) with ⟨_, e, _⟩ | ⟨i, hi, _, e, _⟩
          · rw [e]; omega
          · rw [e, lists_at (by rwa [lists_length] at hi)]; exact H3.out _ (List.getElem_mem _)
        generalize Vote.out p.f own (lists ts) = O at K1 FL
        generalize Vote.is p.f (lists ts) = R at K1
        have HUL := Lib.hid hul
        have HUB := Lib.hid hU
        have HMB := Lib.hid hM2
        clear HL hul H3 hU hM2
        obtain ⟨c0, c1, c2, c3', c4', c5, c6, c7, c8, c9, c10, c11⟩ := hP.pars
        have hPl := hP.lt
        go_upto_region 13 with (go_at_call 13; refine (K1.out _ (Ok.refl V)).mono ?_; rintro e w7 ⟨A7, c7', rfl, hrow7, -, hb7⟩)
        clear c0 c1 c2 c3' c4' c5 c6 c7 c8 c9 c10 c11 hPl hP K1
        have hRow := PairRow.of_own hrow7
        clear hrow7
        go_wp2
        go_loopw [50] (fun i wx => ∃ j : Nat, j ≤ O.length ∧ i = .int .i64 j ∧ PairRow wx V.heap.size A7 O.length ∧ Ok V wx) (fun i _ => O.length - (intOf i).toNat)
        case atStart => exact ⟨0, Nat.zero_le _, rfl, hRow, hb7⟩
        case round =>
          clear hRow hb7
          obtain ⟨j, hj, rfl, hRow, hokx⟩ := hrel
          by_cases hjl : j < O.length
          · obtain ⟨b7, off7, e7, hb7, hl7, ⟨u0, d0⟩, ⟨u1, d1⟩, hf7⟩ := hRow j hjl
            subst e7
            have f0 := hf7 (off7 + j * 2)
            have f1 := hf7 (off7 + j * 2 + 1)
            have HW := Lib.hid hRow
            clear hRow hf7
            go_wp2
            go_roundw
            case rel => exact ⟨j + 1, by omega, by go_num, (HW.out.set _ 77).set _ 0, (hokx.setCell (p := ⟨b7, off7 + j * 2, none⟩) hb7 _).setCell (p := ⟨b7, off7 + j * 2 + 1, none⟩) hb7 _⟩
            case measure => simp [intOf]; omega
          · clear hRow
            go_wp2
            go_loopw [60] (fun i wr => ∃ m : Nat, m ≤ ts.length ∧ i = .int .i64 m ∧ Ok V wr) (fun i _ => ts.length - (intOf i).toNat)
            case atStart => exact ⟨0, Nat.zero_le _, rfl, hokx⟩
            case round =>
              clear hokx
              obtain ⟨m, hm, rfl, hoky⟩ := hrel
              by_cases hml : m < ts.length
              · have hmu : m < us.length := by have := HUL.out; omega
                obtain ⟨b1, o1, e1, hb1, hc1⟩ := (HUB.out.below hoky).cells m hmu
                subst e1
                obtain ⟨b2, o2, e2, hb2, hc2⟩ := (HB.out _ (hok.trans hoky)).cells m hml
                subst e2
                have P1 := Lib.hid fun W' (q : Ok V W') => (HUB.out.below q).tabs _ (List.getElem_mem hmu)
                have P2 := Lib.hid fun W' (q : Ok V W') => (HB.out _ (hok.trans q)).tabs _ (List.getElem_mem hml)
                have hl3 := HF.out _ (List.getElem_mem hml)
                have he := HEq.out m hmu hml
                simp only [taV] at hc1 hc2
                generalize us[m] = x at hc1 P1 he
                generalize ts[m] = y at hc2 P2 he hl3
                obtain ⟨l, A5, c5⟩ := x
                obtain ⟨l2, A6, c6⟩ := y
                simp only at hc1 P1 he hc2 P2 hl3
                subst he
                have KX := Lib.hid fun W' (q : Ok V W') => ref6Tables A5 A6 l l c5 c6 W' (P1.out _ q) (P2.out _ q) hl3 hl3
                rw [decide_eq_true rfl] at KX
                go_upto_region 21 with fail
                have hS : Pair19 b1 (o1 + m) (.slice A5 l.length c5) b2 (o2 + m) (.slice A6 l.length c6) V wr := ⟨hc1, hb1, hc2, hb2, hoky⟩
                clear hc1 hb1 hc2 hb2 hoky
                go_region_held3 (fun w' => w'.cell? ⟨b1, o1 + m, none⟩ = some (.slice A5 l.length c5) ∧ b1 < w'.heap.size ∧ w'.cell? ⟨b2, o2 + m, none⟩ = some (.slice A6 l.length c6) ∧ b2 < w'.heap.size ∧ Ok V w')
                  (first | assumption | exact Pair19.drew (by assumption) | exact Pair19.next (by assumption) (by assumption) | exact Pair19.next (by assumption) (Pair19.drew (by assumption)))
                  ((go_at_call 12; refine (KX.out _ ?_).mono ?_; (focus (first | (exact Pair19.okk (by assumption)) | (exact Pair19.okk (Pair19.drew (by assumption))); done)); rintro e w5 ⟨rfl, hb2⟩))
                all_goals
                  rename_i hH
                  have hoky : Ok V _ := Pair19.okk hH
                  clear hH hS
                  go_wp2
                  go_roundw
                  case rel => exact ⟨m + 1, by omega, by go_num, hoky⟩
                  case measure => simp [intOf]; omega
              · have KE := Lib.hid fun W' (q : Ok V W') => ref6Tables A1 A own own c1' ca W' (HMB.out.below q) (HA.out _ (hok.trans q)) hlo hlo
                rw [decide_eq_true rfl] at KE
                go_wp2_with (go_at_call 12; refine (KE.out _ hoky).mono ?_; rintro e w9 ⟨rfl, hb1⟩; replace hoky := hoky.trans hb1; clear hb1)
                go_ret
                exact ⟨rfl, hok.trans hoky⟩
theorem own : ownKnob Tryd.prog.godebug = none := by kernel_rfl
theorem laidOut : laidOutB Tryd.prog = true := by kernel_rfl
theorem laid_met (os : Os) : laidMet Tryd.prog Rows.voteKeepsRow.laid ((laidWorld os).forCall (fun _ _ => 0) ⟨#[], #[.agg #[.int .i64 0, .int .i64 0, .int .i64 0, .int .i64 0, .int .i64 0, .int .i64 0, .int .i64 0, .int .i64 0, .int .i64 0, .int .i64 0, .int .i64 0, .int .i64 0], .slice none 0 0, .slice none 0 0], []⟩).memory :=
  laidMet_of_run' 8 (by kernel_rfl) (by kernel_rfl)
theorem reads (os : Os) {H : Type} (enc : TypeId × Value → H) : ∃ places, DataW.whole enc Tryd.prog ((laidWorld os).forCall (fun _ _ => 0) ⟨#[], #[.agg #[.int .i64 0, .int .i64 0, .int .i64 0, .int .i64 0, .int .i64 0, .int .i64 0, .int .i64 0, .int .i64 0, .int .i64 0, .int .i64 0, .int .i64 0, .int .i64 0], .slice none 0 0, .slice none 0 0], []⟩).memory Tryd.f6.params.toList Rows.voteKeepsSpec.vars false (#[.agg #[.int .i64 0, .int .i64 0, .int .i64 0, .int .i64 0, .int .i64 0, .int .i64 0, .int .i64 0, .int .i64 0, .int .i64 0, .int .i64 0, .int .i64 0, .int .i64 0], .slice none 0 0, .slice none 0 0] : Array Value).toList 8 = some ([.agg [.lit (.int .i64 0), .lit (.int .i64 0), .lit (.int .i64 0), .lit (.int .i64 0), .lit (.int .i64 0), .lit (.int .i64 0), .lit (.int .i64 0), .lit (.int .i64 0), .lit (.int .i64 0), .lit (.int .i64 0), .lit (.int .i64 0), .lit (.int .i64 0)], .nil, .nil], [], places) :=
  ⟨[], by kernel_rfl⟩
set_option maxRecDepth 100000 in
theorem lifted (os : Os) (started : os.Started) (H : Type) (enc : TypeId × Value → H) (F : Stop.Interp) :
    ReturnsInHanded {} Tryd.checked os 6 .any ((OpenSpec.ofChange Rows.voteKeepsSpec).preRow enc Tryd.prog Tryd.f6 Rows.voteKeepsRow.domain false Rows.voteKeepsRow.laid) (((OpenSpec.ofChange Rows.voteKeepsSpec).at F).post enc Tryd.prog Tryd.f6 false true false false) := by
  obtain ⟨places, hx⟩ := reads os enc
  refine returnsInHanded_of_row (C := Tryd.checked) (s := OpenSpec.ofChange Rows.voteKeepsSpec) own started (by kernel_rfl) Tryd.func6
    (witness_row_at (enc := enc) (C := Tryd.checked) false (laidWorld os) #[.agg #[.int .i64 0, .int .i64 0, .int .i64 0, .int .i64 0, .int .i64 0, .int .i64 0, .int .i64 0, .int .i64 0, .int .i64 0, .int .i64 0, .int .i64 0, .int .i64 0], .slice none 0 0, .slice none 0 0] rfl (by kernel_rfl) (by kernel_rfl) (by kernel_rfl)
      (OpenSpec.preRow_of_cond 8 hx (by kernel_rfl) (fun k hk => by cases hk) (by kernel_rfl) (laid_met os))) ?_
  intro W base args ds gs before hval0 hW _ _ _ hL _ _
  have hval : ∀ (j : Nat) t v, Tryd.f6.params[j]? = some t → args[j]? = some v → Value.okWide Tryd.prog W .any base t v := hval0
  have hW' := hW
  obtain ⟨p, q, hA, hV, rfl, _, _⟩ := hW
  obtain ⟨rfl, rfl⟩ := trodVars_none hV
  replace hA : DataW.TrodAll enc Tryd.prog W 0 (fun _ => true) true Tryd.f6.params.toList args.toList ds p := hA
  rw [Tryd.params6] at hA hval
  obtain ⟨v0, vs0, d0, ds0, p0, q0, hargs, rfl, rfl, h0, r0⟩ := trodAll_cons hA
  obtain ⟨v1, vs1, d1, ds1, p1, q1, rfl, rfl, rfl, h1, r1⟩ := trodAll_cons r0
  obtain ⟨v2, vs2, d2, ds2, p2, q2, rfl, rfl, rfl, h2, r2⟩ := trodAll_cons r1
  obtain ⟨rfl, rfl, rfl⟩ := trodAll_nil r2
  obtain rfl : args = #[v0, v1, v2] := by cases args; simp_all
  obtain ⟨p0, rfl, wp0⟩ := open_par Tryd.underlying29 rfl (by kernel_rfl) (by kernel_rfl) (by kernel_rfl) (hval 0 29 v0 rfl rfl) h0
  obtain ⟨A1, l1, c1, rfl, hA1, hl1, hw1⟩ := open_slice_pairs Tryd.underlying22 Tryd.underlying37 (by kernel_rfl) (by kernel_rfl) (by kernel_rfl) (by kernel_rfl) (hval 1 22 v1 rfl rfl) h1
  obtain ⟨A2, l2, c2, rfl, hA2, hl2, hw2⟩ := open_tabs Tryd.underlying25 (by kernel_rfl) Tryd.underlying22 Tryd.underlying37 (by kernel_rfl) (by kernel_rfl) (by kernel_rfl) (by kernel_rfl) (hval 2 25 v2 rfl rfl) h2
  refine (walk W (tab_of hL) p0 wp0 A1 l1 c1 hA1 hl1 hw1 A2 l2 c2 hA2 hl2 hw2).mono fun e W' ⟨he, hb⟩ => ?_
  subst he
  exact ⟨_, rfl, law_post hW' laidOut (by rw [Tryd.params6]; exact params_ok (by kernel_rfl)) rfl (by kernel_rfl) Tryd.underlying4 rfl rfl rfl hb⟩
theorem said : Rows.VoteKeepsSaid :=
  OpenClaim.holds_of_cond 6 Tryd.f6 rfl rfl rfl rfl rfl rfl rfl ⟨rfl, rfl, rfl, rfl, rfl⟩ rfl rfl rfl rfl rfl (by kernel_rfl) Tryd.func6 (by kernel_rfl)
    (of_decide_eq_true (by kernel_rfl)) (by unfold Func.isWrapper; first | (rw [if_pos (by decide +kernel)]; kernel_rfl) | (rw [if_neg (by decide +kernel)]; exact ⟨rfl, rfl⟩))
    (fun os started H enc _ F => by rw [OpenClaim.pre_eq_preRow]; exact lifted os started H enc F)
theorem plain (f : FuncId) (fn : Func) (hf : Tryd.pinned.checked.prog.funcNamed "clepsydra/clepsydralaw19.VoteKeeps" = some f) (hfn : Tryd.pinned.checked.prog.funcs[f]? = some fn) :
    false = Tryd.pinned.checked.prog.looks [] ∧ ∀ (j : Nat) t, fn.params[j]? = some t → Tryd.pinned.checked.prog.wantsStandIn t = false := by
  obtain rfl : f = 6 := Option.some.inj ((show Tryd.prog.funcNamed "clepsydra/clepsydralaw19.VoteKeeps" = some 6 by kernel_rfl).symm.trans hf) |>.symm
  obtain rfl : fn = Tryd.f6 := (Option.some.inj (Tryd.func6.symm.trans hfn)).symm
  refine ⟨by kernel_rfl, fun j t ht => ?_⟩
  have hall : (Tryd.f6.params.toList.all fun u => !Tryd.prog.wantsStandIn u) = true := by kernel_rfl
  have hm : t ∈ Tryd.f6.params.toList := Array.mem_toList_iff.2 (Array.mem_of_getElem? ht)
  exact (show Tryd.prog.wantsStandIn t = false by simpa using List.all_eq_true.1 hall t hm)
theorem proved : Rows.VoteKeepsCardSaid :=
  Claim7.holds_tied_plain_at .later [] _ _ _ _ said (fun _ h => by cases h) (by kernel_rfl) (fun _ h => by cases h) voteKeeps_row_tie rfl ⟨rfl, rfl⟩ (by kernel_rfl) rfl plain (by kernel_rfl)
end Go.Proofs.YtbbkohpaebeidaaDoor.voteKeeps
