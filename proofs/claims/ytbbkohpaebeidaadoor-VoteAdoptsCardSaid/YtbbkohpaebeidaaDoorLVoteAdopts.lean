/- VoteAdopts: for every fabric's numbers, every table of one's own and every slice of tables the law answers true: Adopt is the document's. The row lists the library's tables that strconv and math/bits read, tied to the program's text. No other condition. -/
import Derived.Test.YtbbkohpaebeidaaDoorC19g
import Derived.Test.YtbbkohpaebeidaaDoorW06
namespace Go.Proofs.YtbbkohpaebeidaaDoor.voteAdopts
open Go.ChangeShapes Go.WideShapes Go.ChangeAt Go.RowKit
set_option linter.unusedVariables false
set_option maxRecDepth 100000
attribute [local go_sem ↓] Go.wp_at_zero Go.wp_at_succ
set_option maxHeartbeats 3200000 in
theorem walk (w : World) (hT : Pow w) (p : Par) (wp : ParWf p) (A : Option Addr) (own : List (Int × Int)) (ca : Nat) (hA : PairsAt w A own) (hlo : own.length ≤ 9223372036854775807) (hwo : ∀ s ∈ own, (Lit.int .i64 s.1).wf = true ∧ (Lit.int .i64 s.2).wf = true) (B : Option Addr) (ts : List TA) (cb : Nat) (hB : TabsAt w B ts) (hlt : ts.length ≤ 9223372036854775807) (hf : ∀ x ∈ ts, TFit x) :
    Calls Tryd.prog 4 #[parV p, .slice A own.length ca, .slice B ts.length cb] w fun e w' => e = .returned (.bool true) ∧ Below w.heap.size w w' := by
  show Calls Tryd.prog 4 #[parV p, .slice A own.length ca, .slice B ts.length cb] w fun e w' => e = .returned (.bool true) ∧ Ok w w'
  have hok := (Ok.refl w).alloc (.cells (parCells p) 29)
  have hP := Own.new w (parCells p) 29 rfl
  have hf2 : ∀ x ∈ ts, x.l.length ≤ 9223372036854775807 := fun x hx => (hf x hx).1
  have HT := Lib.hid fun W' (q : Ok w W') => hT.next q
  have HA := Lib.hid fun W' (q : Ok w W') => hA.below q
  have HB := Lib.hid fun W' (q : Ok w W') => hB.below q
  have KA := Lib.hid fun W' (q : Ok w W') => law19Alive W' (HT.out _ q)
  have KG := Lib.hid fun W' (q : Ok w W') => voteGreat A B own ts ca cb W' (HB.out _ q) hlo hlt hf2
  clear hT hA hB hwo wp
  by_cases hbig : Vote.great own ts = true ∨ p.f < 0
  · cases hg : Vote.great own ts with
    | true =>
      rw [hg] at KG
      clear hbig hg
      go_enter Tryd.func4, Tryd.ntmps4
      go_upto_region 1 with fail
      generalize w.alloc (.cells (parCells p) 29) = W at hP hok ⊢
      generalize w.heap.size = g at hP ⊢
      go_wp2_with (first
        | (go_at_call 8; refine (KA.out _ hok).mono ?_; rintro e w1 ⟨rfl, hb1⟩; replace hok := hok.trans hb1; clear hb1)
        | (go_at_call 9; refine (KG.out _ hok).mono ?_; rintro e w2 ⟨rfl, rfl⟩))
      go_ret
      exact ⟨rfl, hok⟩
    | false =>
      have hneg : p.f < 0 := by rcases hbig with h | h; · rw [hg] at h; cases h
                                · exact h
      rw [hg] at KG
      clear hbig hg
      go_enter Tryd.func4, Tryd.ntmps4
      go_upto_region 1 with fail
      generalize w.alloc (.cells (parCells p) 29) = W at hP hok ⊢
      generalize w.heap.size = g at hP ⊢
      go_wp2_with (first
        | (go_at_call 8; refine (KA.out _ hok).mono ?_; rintro e w1 ⟨rfl, hb1⟩; replace hok := hok.trans hb1; replace hP := hP.next hb1; clear hb1; obtain ⟨c0, c1, c2, c3, c4, c5, c6, c7, c8, c9, c10, c11⟩ := hP.pars; have hPl := hP.lt)
        | (go_at_call 9; refine (KG.out _ hok).mono ?_; rintro e w2 ⟨rfl, rfl⟩))
      go_ret
      exact ⟨rfl, hok⟩
  · have hg : Vote.great own ts = false := by
      cases h : Vote.great own ts with
      | true => exact absurd (.inl h) hbig
      | false => rfl
    have hpos : 0 ≤ p.f := by omega
    obtain ⟨h1, h2, h3⟩ := Vote.great_not hg
    rw [hg] at KG
    clear hbig hg
    have K1 := Lib.hid fun W' (q : Ok w W') => voteAdopts2 p A B own ts ca cb W' (HT.out _ q) (HA.out _ q) (HB.out _ q) (by omega) (by omega) hf2
    have R1 := Lib.hid fun W' (q : Ok w W') => ref19Adopt p B ts cb W' (HB.out _ q) (by omega) hf2
    rcases Vote.agreed p.f own (lists ts) with ⟨t1, t2, t3, -⟩ | ⟨i, hi, t1, t2, t3, -⟩
    · rw [lists_length] at t3
      rw [t1, t2] at K1
      rw [t3] at R1
      have KE := Lib.hid fun A' c' W' h (q : Ok w W') => ref6Tables A' A own own c' ca W' h (HA.out _ q) hlo hlo
      rw [decide_eq_true rfl] at KE
      clear t1 t2 t3 h1 h2 h3 hf hf2 HB HT
      go_enter Tryd.func4, Tryd.ntmps4
      go_upto_region 1 with fail
      generalize w.alloc (.cells (parCells p) 29) = W at hP hok ⊢
      generalize w.heap.size = g at hP ⊢
      go_upto_region 5 with (first
        | (go_at_call 8; refine (KA.out _ hok).mono ?_; rintro e w1 ⟨rfl, hb1⟩; replace hok := hok.trans hb1; replace hP := hP.next hb1; clear hb1; obtain ⟨c0, c1, c2, c3, c4, c5, c6, c7, c8, c9, c10, c11⟩ := hP.pars; have hPl := hP.lt)
        | (go_at_call 9; refine (KG.out _ hok).mono ?_; rintro e w2 ⟨rfl, rfl⟩))
      go_wp2_with (first
        | (go_at_call 13; refine (K1.out _ hok).mono ?_; rintro e w3 ⟨A', c', rfl, -, hO, hb1⟩; replace hok := hok.trans hb1; replace hP := hP.next hb1; clear hb1 c0 c1 c2 c3 c4 c5 c6 c7 c8 c9 c10 c11 hPl; obtain ⟨c0, c1, c2, c3, c4, c5, c6, c7, c8, c9, c10, c11⟩ := hP.pars; have hPl := hP.lt)
        | (go_at_call 14; refine (R1.out _ hok).mono ?_; rintro e w4 ⟨rfl, hb1⟩; replace hok := hok.trans hb1; replace hO := hO.below hb1; clear hb1 c0 c1 c2 c3 c4 c5 c6 c7 c8 c9 c10 c11 hPl)
        | (go_at_call 12; refine (KE.out _ _ _ hO hok).mono ?_; rintro e w5 ⟨rfl, hb1⟩; replace hok := hok.trans hb1; clear hb1))
      go_ret
      exact ⟨rfl, hok⟩
    · have hi2 : i < ts.length := by rwa [lists_length] at hi
      rw [lists_length] at t3
      rw [lists_at hi2 hi] at t2
      rw [t1, t2] at K1
      rw [t3] at R1
      have hx := hf2 _ (List.getElem_mem hi2)
      have KC := Lib.hid fun W' (q : Ok w W') => (HB.out _ q).cells i hi2
      have KP := Lib.hid fun W' (q : Ok w W') => (HB.out _ q).tabs _ (List.getElem_mem hi2)
      simp only [taV] at KC
      generalize ts[i] = x at KC KP K1 hx
      obtain ⟨l, A2, c2⟩ := x
      simp only at KC KP K1 hx
      obtain ⟨b3, off3, e3, -, -⟩ := KC.out _ (Ok.refl w)
      subst e3
      have HC2 := Lib.hid fun W' (q : Ok w W') => (by obtain ⟨b, off, e, h1, h2⟩ := KC.out _ q; cases e; exact ⟨h1, h2⟩ : b3 < W'.heap.size ∧ W'.cell? ⟨b3, off3 + i, none⟩ = some (.slice A2 l.length c2))
      have KE := Lib.hid fun A' c' W' h (q : Ok w W') => ref6Tables A' A2 l l c' c2 W' h (KP.out _ q) hx hx
      rw [decide_eq_true rfl] at KE
      clear t1 t2 t3 h1 h2 h3 hf hf2 HB HT hi KC KP
      go_enter Tryd.func4, Tryd.ntmps4
      go_upto_region 1 with fail
      generalize w.alloc (.cells (parCells p) 29) = W at hP hok ⊢
      generalize w.heap.size = g at hP ⊢
      go_upto_region 5 with (first
        | (go_at_call 8; refine (KA.out _ hok).mono ?_; rintro e w1 ⟨rfl, hb1⟩; replace hok := hok.trans hb1; replace hP := hP.next hb1; clear hb1; obtain ⟨c0, c1, c2, c3, c4, c5, c6, c7, c8, c9, c10, c11⟩ := hP.pars; have hPl := hP.lt)
        | (go_at_call 9; refine (KG.out _ hok).mono ?_; rintro e w2 ⟨rfl, rfl⟩))
      go_wp2_with (first
        | (go_at_call 13; refine (K1.out _ hok).mono ?_; rintro e w3 ⟨A', c', rfl, -, hO, hb1⟩; replace hok := hok.trans hb1; replace hP := hP.next hb1; clear hb1 c0 c1 c2 c3 c4 c5 c6 c7 c8 c9 c10 c11 hPl; obtain ⟨c0, c1, c2, c3, c4, c5, c6, c7, c8, c9, c10, c11⟩ := hP.pars; have hPl := hP.lt)
        | (go_at_call 14; refine (R1.out _ hok).mono ?_; rintro e w4 ⟨rfl, hb1⟩; replace hok := hok.trans hb1; replace hO := hO.below hb1; clear hb1 c0 c1 c2 c3 c4 c5 c6 c7 c8 c9 c10 c11 hPl; obtain ⟨d0, d1⟩ := HC2.out _ hok)
        | (go_at_call 12; refine (KE.out _ _ _ hO hok).mono ?_; rintro e w5 ⟨rfl, hb1⟩; replace hok := hok.trans hb1; clear hb1))
      go_ret
      exact ⟨rfl, hok⟩
theorem own : ownKnob Tryd.prog.godebug = none := by kernel_rfl
theorem laidOut : laidOutB Tryd.prog = true := by kernel_rfl
theorem laid_met (os : Os) : laidMet Tryd.prog Rows.voteAdoptsRow.laid ((laidWorld os).forCall (fun _ _ => 0) ⟨#[], #[.agg #[.int .i64 0, .int .i64 0, .int .i64 0, .int .i64 0, .int .i64 0, .int .i64 0, .int .i64 0, .int .i64 0, .int .i64 0, .int .i64 0, .int .i64 0, .int .i64 0], .slice none 0 0, .slice none 0 0], []⟩).memory :=
  laidMet_of_run' 8 (by kernel_rfl) (by kernel_rfl)
theorem reads (os : Os) {H : Type} (enc : TypeId × Value → H) : ∃ places, DataW.whole enc Tryd.prog ((laidWorld os).forCall (fun _ _ => 0) ⟨#[], #[.agg #[.int .i64 0, .int .i64 0, .int .i64 0, .int .i64 0, .int .i64 0, .int .i64 0, .int .i64 0, .int .i64 0, .int .i64 0, .int .i64 0, .int .i64 0, .int .i64 0], .slice none 0 0, .slice none 0 0], []⟩).memory Tryd.f4.params.toList Rows.voteAdoptsSpec.vars false (#[.agg #[.int .i64 0, .int .i64 0, .int .i64 0, .int .i64 0, .int .i64 0, .int .i64 0, .int .i64 0, .int .i64 0, .int .i64 0, .int .i64 0, .int .i64 0, .int .i64 0], .slice none 0 0, .slice none 0 0] : Array Value).toList 8 = some ([.agg [.lit (.int .i64 0), .lit (.int .i64 0), .lit (.int .i64 0), .lit (.int .i64 0), .lit (.int .i64 0), .lit (.int .i64 0), .lit (.int .i64 0), .lit (.int .i64 0), .lit (.int .i64 0), .lit (.int .i64 0), .lit (.int .i64 0), .lit (.int .i64 0)], .nil, .nil], [], places) :=
  ⟨[], by kernel_rfl⟩
set_option maxRecDepth 100000 in
theorem lifted (os : Os) (started : os.Started) (H : Type) (enc : TypeId × Value → H) (F : Stop.Interp) :
    ReturnsInHanded {} Tryd.checked os 4 .any ((OpenSpec.ofChange Rows.voteAdoptsSpec).preRow enc Tryd.prog Tryd.f4 Rows.voteAdoptsRow.domain false Rows.voteAdoptsRow.laid) (((OpenSpec.ofChange Rows.voteAdoptsSpec).at F).post enc Tryd.prog Tryd.f4 false true false false) := by
  obtain ⟨places, hx⟩ := reads os enc
  refine returnsInHanded_of_row (C := Tryd.checked) (s := OpenSpec.ofChange Rows.voteAdoptsSpec) own started (by kernel_rfl) Tryd.func4
    (witness_row_at (enc := enc) (C := Tryd.checked) false (laidWorld os) #[.agg #[.int .i64 0, .int .i64 0, .int .i64 0, .int .i64 0, .int .i64 0, .int .i64 0, .int .i64 0, .int .i64 0, .int .i64 0, .int .i64 0, .int .i64 0, .int .i64 0], .slice none 0 0, .slice none 0 0] rfl (by kernel_rfl) (by kernel_rfl) (by kernel_rfl)
      (OpenSpec.preRow_of_cond 8 hx (by kernel_rfl) (fun k hk => by cases hk) (by kernel_rfl) (laid_met os))) ?_
  intro W base args ds gs before hval0 hW _ _ _ hL _ _
  have hval : ∀ (j : Nat) t v, Tryd.f4.params[j]? = some t → args[j]? = some v → Value.okWide Tryd.prog W .any base t v := hval0
  have hW' := hW
  obtain ⟨p, q, hA, hV, rfl, _, _⟩ := hW
  obtain ⟨rfl, rfl⟩ := trodVars_none hV
  replace hA : DataW.TrodAll enc Tryd.prog W 0 (fun _ => true) true Tryd.f4.params.toList args.toList ds p := hA
  rw [Tryd.params4] at hA hval
  obtain ⟨v0, vs0, d0, ds0, p0, q0, hargs, rfl, rfl, h0, r0⟩ := trodAll_cons hA
  obtain ⟨v1, vs1, d1, ds1, p1, q1, rfl, rfl, rfl, h1, r1⟩ := trodAll_cons r0
  obtain ⟨v2, vs2, d2, ds2, p2, q2, rfl, rfl, rfl, h2, r2⟩ := trodAll_cons r1
  obtain ⟨rfl, rfl, rfl⟩ := trodAll_nil r2
  obtain rfl : args = #[v0, v1, v2] := by cases args; simp_all
  obtain ⟨p0, rfl, wp0⟩ := open_par Tryd.underlying29 rfl (by kernel_rfl) (by kernel_rfl) (by kernel_rfl) (hval 0 29 v0 rfl rfl) h0
  obtain ⟨A1, l1, c1, rfl, hA1, hl1, hw1⟩ := open_slice_pairs Tryd.underlying22 Tryd.underlying37 (by kernel_rfl) (by kernel_rfl) (by kernel_rfl) (by kernel_rfl) (hval 1 22 v1 rfl rfl) h1
  obtain ⟨A2, l2, c2, rfl, hA2, hl2, hw2⟩ := open_tabs Tryd.underlying25 (by kernel_rfl) Tryd.underlying22 Tryd.underlying37 (by kernel_rfl) (by kernel_rfl) (by kernel_rfl) (by kernel_rfl) (hval 2 25 v2 rfl rfl) h2
  refine (walk W (tab_of hL) p0 wp0 A1 l1 c1 hA1 hl1 hw1 A2 l2 c2 hA2 hl2 hw2).mono fun e W' ⟨he, hb⟩ => ?_
  subst he
  exact ⟨_, rfl, law_post hW' laidOut (by rw [Tryd.params4]; exact params_ok (by kernel_rfl)) rfl (by kernel_rfl) Tryd.underlying4 rfl rfl rfl hb⟩
theorem said : Rows.VoteAdoptsSaid :=
  OpenClaim.holds_of_cond 4 Tryd.f4 rfl rfl rfl rfl rfl rfl rfl ⟨rfl, rfl, rfl, rfl, rfl⟩ rfl rfl rfl rfl rfl (by kernel_rfl) Tryd.func4 (by kernel_rfl)
    (of_decide_eq_true (by kernel_rfl)) (by unfold Func.isWrapper; first | (rw [if_pos (by decide +kernel)]; kernel_rfl) | (rw [if_neg (by decide +kernel)]; exact ⟨rfl, rfl⟩))
    (fun os started H enc _ F => by rw [OpenClaim.pre_eq_preRow]; exact lifted os started H enc F)
theorem plain (f : FuncId) (fn : Func) (hf : Tryd.pinned.checked.prog.funcNamed "clepsydra/clepsydralaw19.VoteAdopts" = some f) (hfn : Tryd.pinned.checked.prog.funcs[f]? = some fn) :
    false = Tryd.pinned.checked.prog.looks [] ∧ ∀ (j : Nat) t, fn.params[j]? = some t → Tryd.pinned.checked.prog.wantsStandIn t = false := by
  obtain rfl : f = 4 := Option.some.inj ((show Tryd.prog.funcNamed "clepsydra/clepsydralaw19.VoteAdopts" = some 4 by kernel_rfl).symm.trans hf) |>.symm
  obtain rfl : fn = Tryd.f4 := (Option.some.inj (Tryd.func4.symm.trans hfn)).symm
  refine ⟨by kernel_rfl, fun j t ht => ?_⟩
  have hall : (Tryd.f4.params.toList.all fun u => !Tryd.prog.wantsStandIn u) = true := by kernel_rfl
  have hm : t ∈ Tryd.f4.params.toList := Array.mem_toList_iff.2 (Array.mem_of_getElem? ht)
  exact (show Tryd.prog.wantsStandIn t = false by simpa using List.all_eq_true.1 hall t hm)
theorem proved : Rows.VoteAdoptsCardSaid :=
  Claim7.holds_tied_plain_at .later [] _ _ _ _ said (fun _ h => by cases h) (by kernel_rfl) (fun _ h => by cases h) voteAdopts_row_tie rfl ⟨rfl, rfl⟩ (by kernel_rfl) rfl plain (by kernel_rfl)
end Go.Proofs.YtbbkohpaebeidaaDoor.voteAdopts
