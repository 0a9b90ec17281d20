import Derived.Test.YtmokofblmkeloaaGreatDoorP42
namespace Go.Proofs.YtmokofblmkeloaaGreatDoor
open Go.RowKit
set_option maxRecDepth 100000
attribute [local go_sem ↓] Go.wp_at_zero Go.wp_at_succ
/-- The good ones. -/
def goodT (ts : List TA) : List TA := ts.filter fun x => Leap.good x.l
theorem goodT_le (ts : List TA) : (goodT ts).length ≤ ts.length := List.length_filter_le _ _
theorem goodT_yes {ts : List TA} {k : Nat} (hk : k < ts.length) (h : Leap.good ts[k].l = true) : goodT (ts.take (k + 1)) = goodT (ts.take k) ++ [ts[k]] := by
  rw [List.take_succ_eq_append_getElem hk]
  unfold goodT
  rw [List.filter_append]
  congr 1
  simp [h]
theorem goodT_no {ts : List TA} {k : Nat} (hk : k < ts.length) (h : Leap.good ts[k].l = false) : goodT (ts.take (k + 1)) = goodT (ts.take k) := by
  rw [List.take_succ_eq_append_getElem hk]
  unfold goodT
  rw [List.filter_append]
  simp [h]
theorem goodT_mem {ts : List TA} {x : TA} (h : x ∈ goodT ts) : x ∈ ts ∧ Leap.good x.l = true := List.mem_filter.1 h
theorem goodT_lists (ts : List TA) : (goodT ts).map TA.l = Vote.goods (lists ts) := by
  unfold goodT Vote.goods lists
  rw [List.filter_map]; rfl
theorem goodT_keys (ts : List TA) : ((goodT ts).map fun x => Vote.key x.l) = Vote.keys (lists ts) := by
  unfold Vote.keys
  rw [← goodT_lists, List.map_map]; rfl
theorem good_bd {l : List (Int × Int)} (h : Leap.good l = true) : l.length ≤ 32 ∧ ∀ e ∈ l, (-9223372036854775808 ≤ e.1 ∧ e.1 ≤ 9223372036854775807) ∧ -9223372036854775808 ≤ e.2 ∧ e.2 ≤ 9223372036854775807 := by
  obtain ⟨h1, h2⟩ := Leap.tab_bd (Leap.good_tab h)
  exact ⟨h1, fun e he => by have := h2 e he; omega⟩
set_option maxHeartbeats 3200000 in
theorem voteAdopt (p : Par) (A B : Option Addr) (own : List (Int × Int)) (ts : List TA) (ca cb : Nat) (w : World) (hT : Pow w) (hA : PairsAt w A own) (h : TabsAt w B ts) (ho : own.length ≤ 1048576) (ht : ts.length ≤ 100000) (hf : ∀ x ∈ ts, x.l.length ≤ 9223372036854775807) :
    Calls Tryz.prog 124 #[parV p, .slice A own.length ca, .slice B ts.length cb] w fun e w' => ∃ v, e = .returned (.tuple #[v, .bool (Vote.is p.f (lists ts))]) ∧ w'.ownsRow w.heap.size 81 2 v (Vote.out p.f own (lists ts)).length (cellsOfPairs (Vote.out p.f own (lists ts))) ∧ Ok w w' := by
  have hok := Ok.refl w
  have HO := Lib.hid hA
  have H := Lib.hid h
  have HF := Lib.hid hf
  have HT := Lib.hid hT
  have hP := Own.new w (parCells p) 23 rfl
  replace hok := hok.alloc (.cells (parCells p) 23)
  have hlow : w.heap.size ≤ (w.alloc (.cells (parCells p) 23)).heap.size := hok.size
  clear h hf hA hT
  obtain ⟨R, hR⟩ : ∃ R, Vote.is p.f (lists ts) = R := ⟨_, rfl⟩
  obtain ⟨O, hO⟩ : ∃ O, Vote.out p.f own (lists ts) = O := ⟨_, rfl⟩
  rw [hR, hO]
  have HR := Lib.hid hR
  have HOut := Lib.hid hO
  clear hR hO
  go_enter Tryz.func124, Tryz.ntmps124
  go_upto_region 1 with fail
  generalize w.alloc (.cells (parCells p) 23) = W at hP hok hlow ⊢
  obtain ⟨g, hg⟩ : ∃ g, w.heap.size = g := ⟨_, rfl⟩
  rw [hg] at hP ⊢
  have HG0 := Lib.hid hg
  clear hg
  go_wp2
  go_loopw [8, 9, 16] (fun u v i wr => ∃ k : Nat, k ≤ ts.length ∧ i = .int .i64 k ∧ wr.ownsRow W.heap.size 26 1 u (goodT (ts.take k)).length ((goodT (ts.take k)).map taV) ∧ wr.ownsRow W.heap.size 9 1 v (goodT (ts.take k)).length ((goodT (ts.take k)).map keyV) ∧ Ok W wr) (fun _ _ i _ => ts.length - (intOf i).toNat)
  case atStart => exact ⟨0, Nat.zero_le _, rfl, World.ownsRow_nil _ _ _ _, World.ownsRow_nil _ _ _ _, Ok.refl W⟩
  case round =>
    obtain ⟨k, hk, rfl, hu, hv, hokW⟩ := hrel
    by_cases hlt : k < ts.length
    · obtain ⟨b, off, hA, hb, hc⟩ := (H.out.below (hok.trans hokW)).cells k hlt
      subst hA
      have hx := List.getElem_mem hlt
      have HY := Lib.hid (goodT_yes hlt)
      have HN := Lib.hid (goodT_no hlt)
      have KP := Lib.hid fun W' (q : Ok w W') => (H.out.below q).tabs _ hx
      have KL := Lib.hid (HF.out _ hx)
      have hG := goodT_le (ts.take k)
      rw [List.length_take] at hG
      simp only [taV] at hc
      generalize goodT (ts.take k) = G at hu hv HY HN hG
      generalize ts[k] = x at hc HY HN KP KL
      obtain ⟨l, A2, c2⟩ := x
      simp only at HY HN KP KL hc
      have KG := Lib.hid fun W' (q : Ok w W') => leapGood A2 l c2 W' (KP.out W' q) KL.out
      cases hg : Leap.good l with
      | false =>
        have E1 := Lib.hid (HN.out hg)
        rw [hg] at KG
        clear HY HN hg
        go_wp2_with (go_at_call 106; refine (KG.out _ (hok.trans hokW)).mono ?_; rintro e w2 ⟨rfl, hb1⟩; replace hokW := hokW.trans hb1; replace hu := row_next19 hu hb1; replace hv := row_next19 hv hb1; clear hb1)
        go_roundw
        case rel => exact ⟨k + 1, by omega, by go_num, by rw [E1.out]; exact hu, by rw [E1.out]; exact hv, hokW⟩
        case measure => simp [intOf]; omega
      | true =>
        have E1 := Lib.hid (HY.out hg)
        obtain ⟨hl32, hbd⟩ := good_bd hg
        have KK := Lib.hid fun W' (q : Ok w W') => voteKey A2 l c2 W' (HT.out.next q) (KP.out W' q) (by omega) hbd
        rw [hg] at KG
        clear HY HN hg hl32 hbd
        have hGb : G.length ≤ 1048576 := by omega
        go_wp2_with (first
          | (go_at_call 106; refine (KG.out _ (hok.trans hokW)).mono ?_; rintro e w2 ⟨rfl, hb1⟩; replace hokW := hokW.trans hb1; replace hu := row_next19 hu hb1; replace hv := row_next19 hv hb1; clear hb1)
          | (go_at_call 157; refine (KK.out _ (hok.trans hok3)).mono ?_; rintro e w4 ⟨rfl, hb1⟩; replace hok3 := hok3.trans hb1; replace hu3 := row_next19 hu3 hb1; replace hv3 := row_next19 hv3 hb1; clear hb1)
          | (at_builtin; refine wpList_append_value rfl (.tmp 22) (.tmp 24) 140 rfl W.heap.size 26 Tryz.underlying140 _ 24 (by decide) rfl infoTab _ _ _ rfl (hu.alloc _) w2.heap.size (.slice A2 l.length c2) rfl rfl (by simp) hGb (hokW.alloc _).size ?_; intro v3 w3 hu3 hg3; have hv3 := row_other19 (hv.alloc _) (hu.alloc _) (by decide) hg3; have hok3 := ok_grow19 (hokW.alloc _) hg3 (row_from hu); clear hu hv hokW hg3)
          | (at_builtin; refine wpList_append_value rfl (.tmp 26) (.tmp 29) 193 rfl W.heap.size 9 Tryz.underlying193 _ 16 (by decide) rfl infoText _ _ _ rfl (hv3.alloc _) w4.heap.size (.string (strB (Vote.key l))) rfl rfl (by simp) hGb (hok3.alloc _).size ?_; intro v5 w5 hv5 hg5; have hu5 := row_other19 (hu3.alloc _) (hv3.alloc _) (by decide) hg5; have hok5 := ok_grow19 (hok3.alloc _) hg5 (row_from hv3); clear hu3 hv3 hok3 hg5))
        go_roundw
        case rel => exact ⟨k + 1, by omega, by go_num, by rw [E1.out]; simpa using hu5, by rw [E1.out]; simpa using hv5, hok5⟩
        case measure => simp [intOf]; omega
    · rw [List.take_of_length_le (show ts.length ≤ k by omega)] at hu hv
      have hG := goodT_le ts
      obtain ⟨A3, c3, rfl, hTab⟩ := tabs_of_row hu fun x hx => (H.out.below (hok.trans hokW)).tabs x (goodT_mem hx).1
      obtain ⟨A4, c4, rfl, hTxt⟩ := texts_of_row hv
      rw [goodT_keys] at hTxt
      have hkl : (goodT ts).length = (Vote.keys (lists ts)).length := by rw [← goodT_keys, List.length_map]
      have KA := Lib.hid fun W' q => voteAgreed p.f A4 (Vote.keys (lists ts)) c4 W' q (by rw [← hkl]; omega) (fun x hx => by
        rw [← goodT_keys] at hx
        obtain ⟨y, hy, rfl⟩ := List.mem_map.1 hx
        obtain ⟨h1, h2⟩ := good_bd (goodT_mem hy).2
        have := key_length h2
        omega)
      rw [← hkl] at KA
      clear hu hv
      have hP2 := hP.next hokW
      obtain ⟨c0, c1, c2, c3', c4', c5, c6, c7, c8, c9, c10, c11⟩ := hP2.pars
      have hPl := hP2.lt
      clear c0 c2 c3' c4' c5 c6 c7 c8 c9 c10 c11 hP2 hP
      have hokA := hok.trans hokW
      rcases Vote.agreed p.f own (lists ts) with ⟨t1, t2, t3, t4⟩ | ⟨i, hi, t1, t2, t3, j, hj, t4, t5⟩
      · obtain rfl : false = R := t1.symm.trans HR.out
        obtain rfl : own = O := t2.symm.trans HOut.out
        rw [← hkl] at t4
        rw [t4] at KA
        simp only [show Vote.topVal (Vote.keys (lists ts)) (-1) = [] from rfl, show decide ((0 : Int) ≤ -1) = false from rfl] at KA
        clear t1 t2 t3 t4 HR HOut hkl
        have KC := Lib.hid fun W' (q : Ok w W') => cloneRow A own ca W' (HO.out.below q) (by omega)
        go_wp2_with (first
          | (go_at_call 158; refine (KA.out _ hTxt).mono ?_; rintro e w2 ⟨rfl, hb1⟩; replace hokA := hokA.trans hb1; clear hb1)
          | (go_at_call 83; refine (KC.out _ hokA).mono ?_; rintro e w3 ⟨v, rfl, hrow, hb1⟩; have hlo := hokA.size; replace hokA := hokA.trans hb1; clear hb1))
        go_ret2
        exact ⟨_, rfl, row_low19 hrow (by have := HG0.out; omega), hokA⟩
      · obtain rfl : true = R := t1.symm.trans HR.out
        have hOi : O = (lists ts)[i] := HOut.out.symm.trans t2
        rw [← hOi] at t5
        rw [← hkl] at t4
        rw [t4] at KA
        obtain ⟨j2, hj2, e2, KI⟩ := indexText (ks := Vote.keys (lists ts)) (x := Vote.key O) ⟨j, hj, t5⟩ (by rw [← hkl]; omega)
        rw [Vote.topVal_at hj, t5] at KA
        simp only [show decide ((0 : Int) ≤ (j : Int)) = true from decide_eq_true (by omega)] at KA
        rw [← hkl] at KI
        have KI := Lib.hid KI
        have hj3 : j2 < (goodT ts).length := by rw [hkl]; exact hj2
        have hxl : (goodT ts)[j2].l = O := by
          have h2 : j2 < (Vote.goods (lists ts)).length := by rw [← Vote.keys_length]; exact hj2
          rw [← Vote.key_at hj2 h2 e2]
          simp only [← goodT_lists, List.getElem_map]
        have HC := Lib.hid fun W' (q : Ok wr W') => (hTab.below q).cells j2 hj3
        have HPx := Lib.hid fun W' (q : Ok wr W') => (hTab.below q).tabs _ (List.getElem_mem hj3)
        have hOl : O.length ≤ 32 := by rw [← hxl]; exact (good_bd (goodT_mem (List.getElem_mem hj3)).2).1
        simp only [taV] at HC
        generalize (goodT ts)[j2] = x at HC HPx hxl
        obtain ⟨l, A5, c5⟩ := x
        simp only at HC HPx hxl
        subst hxl
        have KC := Lib.hid fun W' (q : Ok wr W') => cloneRow A5 l c5 W' (HPx.out _ q) (by omega)
        obtain ⟨b3, off3, e3, -, -⟩ := HC.out _ (Ok.refl wr)
        subst e3
        have HC2 := Lib.hid fun W' (q : Ok wr W') => (by obtain ⟨b, off, e, h1, h2⟩ := HC.out _ q; cases e; exact ⟨h1, h2⟩ : b3 < W'.heap.size ∧ W'.cell? ⟨b3, off3 + j2, none⟩ = some (.slice A5 l.length c5))
        clear t1 t2 t3 t4 t5 HR HOut HC hTab HPx hOi e2 hj2 hj hi hkl
        have hokR := Ok.refl wr
        go_wp2_with (first
          | (go_at_call 158; refine (KA.out _ hTxt).mono ?_; rintro e w2 ⟨rfl, hb1⟩; replace hokR := hokR.trans hb1; replace hTxt := hTxt.below hb1; clear hb1)
          | (go_at_call 159; refine (KI.out _ _ _ hTxt).mono ?_; rintro e w3 ⟨rfl, rfl⟩; obtain ⟨hb3, hc3⟩ := HC2.out _ hokR)
          | (go_at_call 83; refine (KC.out _ hokR).mono ?_; rintro e w3 ⟨v, rfl, hrow, hb1⟩; have hlo := hokR.size; replace hokR := hokR.trans hb1; clear hb1))
        go_ret2
        exact ⟨_, rfl, row_low19 hrow (by have := HG0.out; have := hokA.size; omega), hokA.trans hokR⟩
theorem voteAdopts2 (p : Par) (A B : Option Addr) (own : List (Int × Int)) (ts : List TA) (ca cb : Nat) (w : World) (hT : Pow w) (hA : PairsAt w A own) (h : TabsAt w B ts) (ho : own.length ≤ 1048576) (ht : ts.length ≤ 100000) (hf : ∀ x ∈ ts, x.l.length ≤ 9223372036854775807) :
    Calls Tryz.prog 124 #[parV p, .slice A own.length ca, .slice B ts.length cb] w fun e w' => ∃ A' c', e = .returned (.tuple #[.slice A' (Vote.out p.f own (lists ts)).length c', .bool (Vote.is p.f (lists ts))]) ∧ w'.ownsRow w.heap.size 81 2 (.slice A' (Vote.out p.f own (lists ts)).length c') (Vote.out p.f own (lists ts)).length (cellsOfPairs (Vote.out p.f own (lists ts))) ∧ PairsAt w' A' (Vote.out p.f own (lists ts)) ∧ Ok w w' :=
  (voteAdopt p A B own ts ca cb w hT hA h ho ht hf).mono (by
    rintro e w' ⟨v, rfl, hr, hok⟩
    obtain ⟨A', c', rfl, hP⟩ := PairsAt.of_own hr
    exact ⟨A', c', rfl, hr, hP, hok⟩)
end Go.Proofs.YtmokofblmkeloaaGreatDoor
