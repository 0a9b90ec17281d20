/- VoteFew: for every fabric's numbers, every table of one's own and every slice of tables the law answers true: where no good table is told by more than F, one's own stays. The row lists the library's tables that strconv and math/bits read, tied to the program's text. No other condition. -/
import Derived.Test.YtbbkohpaebeidaaDoorC19g
import Derived.Test.YtbbkohpaebeidaaDoorW06
namespace Go.Proofs.YtbbkohpaebeidaaDoor.voteFew
open Go.ChangeShapes Go.WideShapes Go.ChangeAt Go.RowKit
set_option linter.unusedVariables false
set_option maxRecDepth 100000
attribute [local go_sem ↓] Go.wp_at_zero Go.wp_at_succ
set_option maxHeartbeats 3200000 in
theorem walk (w : World) (hT : Pow w) (p : Par) (wp : ParWf p) (A : Option Addr) (own : List (Int × Int)) (ca : Nat) (hA : PairsAt w A own) (hlo : own.length ≤ 9223372036854775807) (hwo : ∀ s ∈ own, (Lit.int .i64 s.1).wf = true ∧ (Lit.int .i64 s.2).wf = true) (B : Option Addr) (ts : List TA) (cb : Nat) (hB : TabsAt w B ts) (hlt : ts.length ≤ 9223372036854775807) (hf : ∀ x ∈ ts, TFit x) :
    Calls Tryd.prog 7 #[parV p, .slice A own.length ca, .slice B ts.length cb] w fun e w' => e = .returned (.bool true) ∧ Below w.heap.size w w' := by
  show Calls Tryd.prog 7 #[parV p, .slice A own.length ca, .slice B ts.length cb] w fun e w' => e = .returned (.bool true) ∧ Ok w w'
  have hok := (Ok.refl w).alloc (.cells (parCells p) 29)
  have hP := Own.new w (parCells p) 29 rfl
  have hf2 : ∀ x ∈ ts, x.l.length ≤ 9223372036854775807 := fun x hx => (hf x hx).1
  have HT := Lib.hid fun W' (q : Ok w W') => hT.next q
  have HA := Lib.hid fun W' (q : Ok w W') => hA.below q
  have HB := Lib.hid fun W' (q : Ok w W') => hB.below q
  have KA := Lib.hid fun W' (q : Ok w W') => law19Alive W' (HT.out _ q)
  have KG := Lib.hid fun W' (q : Ok w W') => voteGreat A B own ts ca cb W' (HB.out _ q) hlo hlt hf2
  clear hT hA hB hwo wp
  by_cases hbig : Vote.great own ts = true ∨ p.f < 0
  · cases hg : Vote.great own ts with
    | true =>
      rw [hg] at KG
      clear hbig hg
      go_enter Tryd.func7, Tryd.ntmps7
      go_upto_region 1 with fail
      generalize w.alloc (.cells (parCells p) 29) = W at hP hok ⊢
      generalize w.heap.size = g at hP ⊢
      go_wp2_with (first
        | (go_at_call 8; refine (KA.out _ hok).mono ?_; rintro e w1 ⟨rfl, hb1⟩; replace hok := hok.trans hb1; clear hb1)
        | (go_at_call 9; refine (KG.out _ hok).mono ?_; rintro e w2 ⟨rfl, rfl⟩))
      go_ret
      exact ⟨rfl, hok⟩
    | false =>
      have hneg : p.f < 0 := by rcases hbig with h | h; · rw [hg] at h; cases h
                                · exact h
      rw [hg] at KG
      clear hbig hg
      go_enter Tryd.func7, Tryd.ntmps7
      go_upto_region 1 with fail
      generalize w.alloc (.cells (parCells p) 29) = W at hP hok ⊢
      generalize w.heap.size = g at hP ⊢
      go_wp2_with (first
        | (go_at_call 8; refine (KA.out _ hok).mono ?_; rintro e w1 ⟨rfl, hb1⟩; replace hok := hok.trans hb1; replace hP := hP.next hb1; clear hb1; obtain ⟨c0, c1, c2, c3, c4, c5, c6, c7, c8, c9, c10, c11⟩ := hP.pars; have hPl := hP.lt)
        | (go_at_call 9; refine (KG.out _ hok).mono ?_; rintro e w2 ⟨rfl, rfl⟩))
      go_ret
      exact ⟨rfl, hok⟩
  · have hg : Vote.great own ts = false := by
      cases h : Vote.great own ts with
      | true => exact absurd (.inl h) hbig
      | false => rfl
    have hpos : 0 ≤ p.f := by omega
    obtain ⟨h1, h2, h3⟩ := Vote.great_not hg
    rw [hg] at KG
    clear hbig hg
    have K0 := Lib.hid fun W' (q : Ok w W') => voteAdopts2 p A none own [] ca 0 W' (HT.out _ q) (HA.out _ q) (TabsAt.empty _ _) (by omega) (by simp) (by simp)
    simp only [List.length_nil, show lists [] = [] from rfl, Vote.is_nil, Vote.out_nil] at K0
    have K1 := Lib.hid fun W' (q : Ok w W') => voteAdopts2 p A B own ts ca cb W' (HT.out _ q) (HA.out _ q) (HB.out _ q) (by omega) (by omega) hf2
    have FN := Lib.hid fun h => Vote.is_none (F := p.f) (own := own) (T := lists ts) h
    have FY := Lib.hid fun h => Vote.is_good (F := p.f) (own := own) (T := lists ts) h
    have FL : (Vote.out p.f own (lists ts)).length ≤ 256 := by
      rcases Vote.agreed p.f own (lists ts) with ⟨_, e, _⟩ | ⟨i, hi, _, e, _⟩
      · rw [e]; omega
      · rw [e, lists_at (by rwa [lists_length] at hi)]; exact h3 _ (List.getElem_mem _)
    generalize Vote.out p.f own (lists ts) = O at K1 FN FY FL
    generalize Vote.is p.f (lists ts) = R at K1 FN FY
    have KE := Lib.hid fun A' c' W' h (q : Ok w W') => ref6Tables A' A own own c' ca W' h (HA.out _ q) hlo hlo
    rw [decide_eq_true rfl] at KE
    have hO : O.length ≤ 9223372036854775807 := by omega
    have KT := Lib.hid fun k hk => Vote.tells_take O (ts := ts) (m := k) hk
    have KM := Lib.hid fun k => Vote.tells_len O (ts.take k)
    have KX := Lib.hid fun A' c' W' (hX : PairsAt W' A' O) (q : Ok w W') k (hk : k < ts.length) => ref6Tables ts[k].A A' ts[k].l O ts[k].cap c' W' ((HB.out _ q).tabs _ (List.getElem_mem hk)) hX (hf2 _ (List.getElem_mem hk)) hO
    have KV := Lib.hid fun A' c' W' (hX : PairsAt W' A' O) => ref18Good A' O c' W' hX hO
    have h2H := Lib.hid h2
    clear h1 h2 h3 hf hf2 HT
    go_enter Tryd.func7, Tryd.ntmps7
    go_upto_region 1 with fail
    generalize w.alloc (.cells (parCells p) 29) = W at hP hok ⊢
    generalize w.heap.size = g at hP ⊢
    go_upto_region 5 with (first
      | (go_at_call 8; refine (KA.out _ hok).mono ?_; rintro e w1 ⟨rfl, hb1⟩; replace hok := hok.trans hb1; replace hP := hP.next hb1; clear hb1; obtain ⟨c0, c1, c2, c3, c4, c5, c6, c7, c8, c9, c10, c11⟩ := hP.pars; have hPl := hP.lt)
      | (go_at_call 9; refine (KG.out _ hok).mono ?_; rintro e w2 ⟨rfl, rfl⟩))
    go_upto_region 8 with (first
      | (go_at_call 13; refine (K0.out _ hok).mono ?_; rintro e w3 ⟨A', c', rfl, -, hO0, hb1⟩; replace hok := hok.trans hb1; replace hP := hP.next hb1; clear hb1 c0 c1 c2 c3 c4 c5 c6 c7 c8 c9 c10 c11 hPl)
      | (go_at_call 12; refine (KE.out _ _ _ hO0 hok).mono ?_; rintro e w5 ⟨rfl, hb1⟩; replace hok := hok.trans hb1; replace hP := hP.next hb1; clear hb1 hO0; obtain ⟨c0, c1, c2, c3, c4, c5, c6, c7, c8, c9, c10, c11⟩ := hP.pars; have hPl := hP.lt))
    go_wp2_with (go_at_call 13; refine (K1.out _ hok).mono ?_; rintro e w6 ⟨A6, c6', rfl, -, hX, hb1⟩; replace hok := hok.trans hb1; replace hP := hP.next hb1; clear hb1 c0 c1 c2 c3 c4 c5 c6 c7 c8 c9 c10 c11 hPl)
    go_loopw [11, 46] (fun s i wr => ∃ k : Nat, k ≤ ts.length ∧ i = .int .i64 k ∧ s = .int .i64 ((Vote.tells O (lists (ts.take k)) : Nat) : Int) ∧ PairsAt wr A6 O ∧ Own wr g (parCells p) ∧ Ok w wr) (fun _ i _ => ts.length - (intOf i).toNat)
    case atStart => exact ⟨0, Nat.zero_le _, rfl, rfl, hX, hP, hok⟩
    case round =>
      clear hX hP hok
      obtain ⟨k, hk, rfl, rfl, hX, hP, hok⟩ := hrel
      by_cases hlt2 : k < ts.length
      · obtain ⟨b, off, e0, hb, hc⟩ := (HB.out _ hok).cells k hlt2
        subst e0
        have KX2 := Lib.hid fun W' (hX : PairsAt W' A6 O) (q : Ok w W') => KX.out A6 c6' W' hX q k hlt2
        have e1 := Lib.hid (KT.out k hlt2)
        have b1 : Vote.tells O (lists (ts.take k)) ≤ 40 := by have := KM.out k; rw [List.length_take] at this; have := h2H.out; omega
        simp only [taV] at hc
        generalize ts[k] = y at hc KX2 e1
        obtain ⟨l2, A3, c3⟩ := y
        simp only at hc KX2 e1
        generalize Vote.tells O (lists (ts.take k)) = s at b1 e1 ⊢
        by_cases d1 : O = l2
        · have E2 := Lib.hid (show Vote.tells O (lists (ts.take (k + 1))) = s + 1 by rw [e1.out, if_pos d1])
          rw [decide_eq_true d1.symm] at KX2
          clear d1 e1
          go_wp2_with (go_at_call 12; refine (KX2.out _ hX hok).mono ?_; rintro e w7 ⟨rfl, hb1⟩; replace hok := hok.trans hb1; replace hX := hX.below hb1; replace hP := hP.next hb1; clear hb1)
          go_roundw
          case rel => exact ⟨k + 1, by omega, by go_num, by rw [E2.out]; go_num, hX, hP, hok⟩
          case measure => simp [intOf]; omega
        · have E2 := Lib.hid (show Vote.tells O (lists (ts.take (k + 1))) = s by rw [e1.out, if_neg d1]; rfl)
          rw [decide_eq_false (fun h => d1 h.symm)] at KX2
          clear d1 e1
          go_wp2_with (go_at_call 12; refine (KX2.out _ hX hok).mono ?_; rintro e w7 ⟨rfl, hb1⟩; replace hok := hok.trans hb1; replace hX := hX.below hb1; replace hP := hP.next hb1; clear hb1)
          go_roundw
          case rel => exact ⟨k + 1, by omega, by go_num, by rw [E2.out], hX, hP, hok⟩
          case measure => simp [intOf]; omega
      · rw [List.take_of_length_le (show ts.length ≤ k by omega)]
        clear KT KM KX K0 K1 KA KG
        obtain ⟨c0, c1, c2, c3, c4, c5, c6, c7, c8, c9, c10, c11⟩ := hP.pars
        have hPl := hP.lt
        cases R with
        | false =>
          obtain rfl := FN.out rfl
          generalize Vote.tells O (lists ts) = s
          go_wp2_with (first
            | (go_at_call 12; refine (KE.out _ _ _ hX hok).mono ?_; rintro e w7 ⟨rfl, hb1⟩; replace hok := hok.trans hb1; clear hb1))
          go_ret
          exact ⟨rfl, hok⟩
        | true =>
          obtain ⟨g1, g2⟩ := FY.out rfl
          rw [g1] at KV
          generalize Vote.tells O (lists ts) = s at g2 ⊢
          clear g1 FY FN
          go_wp2_with (first
            | (go_at_call 15; refine (KV.out _ _ _ hX).mono ?_; rintro e w7 ⟨rfl, hb1⟩; replace hok := hok.trans hb1; clear hb1))
          go_ret
          exact ⟨rfl, hok⟩
theorem own : ownKnob Tryd.prog.godebug = none := by kernel_rfl
theorem laidOut : laidOutB Tryd.prog = true := by kernel_rfl
theorem laid_met (os : Os) : laidMet Tryd.prog Rows.voteFewRow.laid ((laidWorld os).forCall (fun _ _ => 0) ⟨#[], #[.agg #[.int .i64 0, .int .i64 0, .int .i64 0, .int .i64 0, .int .i64 0, .int .i64 0, .int .i64 0, .int .i64 0, .int .i64 0, .int .i64 0, .int .i64 0, .int .i64 0], .slice none 0 0, .slice none 0 0], []⟩).memory :=
  laidMet_of_run' 8 (by kernel_rfl) (by kernel_rfl)
theorem reads (os : Os) {H : Type} (enc : TypeId × Value → H) : ∃ places, DataW.whole enc Tryd.prog ((laidWorld os).forCall (fun _ _ => 0) ⟨#[], #[.agg #[.int .i64 0, .int .i64 0, .int .i64 0, .int .i64 0, .int .i64 0, .int .i64 0, .int .i64 0, .int .i64 0, .int .i64 0, .int .i64 0, .int .i64 0, .int .i64 0], .slice none 0 0, .slice none 0 0], []⟩).memory Tryd.f7.params.toList Rows.voteFewSpec.vars false (#[.agg #[.int .i64 0, .int .i64 0, .int .i64 0, .int .i64 0, .int .i64 0, .int .i64 0, .int .i64 0, .int .i64 0, .int .i64 0, .int .i64 0, .int .i64 0, .int .i64 0], .slice none 0 0, .slice none 0 0] : Array Value).toList 8 = some ([.agg [.lit (.int .i64 0), .lit (.int .i64 0), .lit (.int .i64 0), .lit (.int .i64 0), .lit (.int .i64 0), .lit (.int .i64 0), .lit (.int .i64 0), .lit (.int .i64 0), .lit (.int .i64 0), .lit (.int .i64 0), .lit (.int .i64 0), .lit (.int .i64 0)], .nil, .nil], [], places) :=
  ⟨[], by kernel_rfl⟩
set_option maxRecDepth 100000 in
theorem lifted (os : Os) (started : os.Started) (H : Type) (enc : TypeId × Value → H) (F : Stop.Interp) :
    ReturnsInHanded {} Tryd.checked os 7 .any ((OpenSpec.ofChange Rows.voteFewSpec).preRow enc Tryd.prog Tryd.f7 Rows.voteFewRow.domain false Rows.voteFewRow.laid) (((OpenSpec.ofChange Rows.voteFewSpec).at F).post enc Tryd.prog Tryd.f7 false true false false) := by
  obtain ⟨places, hx⟩ := reads os enc
  refine returnsInHanded_of_row (C := Tryd.checked) (s := OpenSpec.ofChange Rows.voteFewSpec) own started (by kernel_rfl) Tryd.func7
    (witness_row_at (enc := enc) (C := Tryd.checked) false (laidWorld os) #[.agg #[.int .i64 0, .int .i64 0, .int .i64 0, .int .i64 0, .int .i64 0, .int .i64 0, .int .i64 0, .int .i64 0, .int .i64 0, .int .i64 0, .int .i64 0, .int .i64 0], .slice none 0 0, .slice none 0 0] rfl (by kernel_rfl) (by kernel_rfl) (by kernel_rfl)
      (OpenSpec.preRow_of_cond 8 hx (by kernel_rfl) (fun k hk => by cases hk) (by kernel_rfl) (laid_met os))) ?_
  intro W base args ds gs before hval0 hW _ _ _ hL _ _
  have hval : ∀ (j : Nat) t v, Tryd.f7.params[j]? = some t → args[j]? = some v → Value.okWide Tryd.prog W .any base t v := hval0
  have hW' := hW
  obtain ⟨p, q, hA, hV, rfl, _, _⟩ := hW
  obtain ⟨rfl, rfl⟩ := trodVars_none hV
  replace hA : DataW.TrodAll enc Tryd.prog W 0 (fun _ => true) true Tryd.f7.params.toList args.toList ds p := hA
  rw [Tryd.params7] at hA hval
  obtain ⟨v0, vs0, d0, ds0, p0, q0, hargs, rfl, rfl, h0, r0⟩ := trodAll_cons hA
  obtain ⟨v1, vs1, d1, ds1, p1, q1, rfl, rfl, rfl, h1, r1⟩ := trodAll_cons r0
  obtain ⟨v2, vs2, d2, ds2, p2, q2, rfl, rfl, rfl, h2, r2⟩ := trodAll_cons r1
  obtain ⟨rfl, rfl, rfl⟩ := trodAll_nil r2
  obtain rfl : args = #[v0, v1, v2] := by cases args; simp_all
  obtain ⟨p0, rfl, wp0⟩ := open_par Tryd.underlying29 rfl (by kernel_rfl) (by kernel_rfl) (by kernel_rfl) (hval 0 29 v0 rfl rfl) h0
  obtain ⟨A1, l1, c1, rfl, hA1, hl1, hw1⟩ := open_slice_pairs Tryd.underlying22 Tryd.underlying37 (by kernel_rfl) (by kernel_rfl) (by kernel_rfl) (by kernel_rfl) (hval 1 22 v1 rfl rfl) h1
  obtain ⟨A2, l2, c2, rfl, hA2, hl2, hw2⟩ := open_tabs Tryd.underlying25 (by kernel_rfl) Tryd.underlying22 Tryd.underlying37 (by kernel_rfl) (by kernel_rfl) (by kernel_rfl) (by kernel_rfl) (hval 2 25 v2 rfl rfl) h2
  refine (walk W (tab_of hL) p0 wp0 A1 l1 c1 hA1 hl1 hw1 A2 l2 c2 hA2 hl2 hw2).mono fun e W' ⟨he, hb⟩ => ?_
  subst he
  exact ⟨_, rfl, law_post hW' laidOut (by rw [Tryd.params7]; exact params_ok (by kernel_rfl)) rfl (by kernel_rfl) Tryd.underlying4 rfl rfl rfl hb⟩
theorem said : Rows.VoteFewSaid :=
  OpenClaim.holds_of_cond 7 Tryd.f7 rfl rfl rfl rfl rfl rfl rfl ⟨rfl, rfl, rfl, rfl, rfl⟩ rfl rfl rfl rfl rfl (by kernel_rfl) Tryd.func7 (by kernel_rfl)
    (of_decide_eq_true (by kernel_rfl)) (by unfold Func.isWrapper; first | (rw [if_pos (by decide +kernel)]; kernel_rfl) | (rw [if_neg (by decide +kernel)]; exact ⟨rfl, rfl⟩))
    (fun os started H enc _ F => by rw [OpenClaim.pre_eq_preRow]; exact lifted os started H enc F)
theorem plain (f : FuncId) (fn : Func) (hf : Tryd.pinned.checked.prog.funcNamed "clepsydra/clepsydralaw19.VoteFew" = some f) (hfn : Tryd.pinned.checked.prog.funcs[f]? = some fn) :
    false = Tryd.pinned.checked.prog.looks [] ∧ ∀ (j : Nat) t, fn.params[j]? = some t → Tryd.pinned.checked.prog.wantsStandIn t = false := by
  obtain rfl : f = 7 := Option.some.inj ((show Tryd.prog.funcNamed "clepsydra/clepsydralaw19.VoteFew" = some 7 by kernel_rfl).symm.trans hf) |>.symm
  obtain rfl : fn = Tryd.f7 := (Option.some.inj (Tryd.func7.symm.trans hfn)).symm
  refine ⟨by kernel_rfl, fun j t ht => ?_⟩
  have hall : (Tryd.f7.params.toList.all fun u => !Tryd.prog.wantsStandIn u) = true := by kernel_rfl
  have hm : t ∈ Tryd.f7.params.toList := Array.mem_toList_iff.2 (Array.mem_of_getElem? ht)
  exact (show Tryd.prog.wantsStandIn t = false by simpa using List.all_eq_true.1 hall t hm)
theorem proved : Rows.VoteFewCardSaid :=
  Claim7.holds_tied_plain_at .later [] _ _ _ _ said (fun _ h => by cases h) (by kernel_rfl) (fun _ h => by cases h) voteFew_row_tie rfl ⟨rfl, rfl⟩ (by kernel_rfl) rfl plain (by kernel_rfl)
end Go.Proofs.YtbbkohpaebeidaaDoor.voteFew
