/- LeapNexts: for every table and every integer the law answers true: Next answers the first entry behind a count; what is handed in stays. The row lists the table of the months' days (civil.lengths), tied to the program's text. No other condition. -/
import Derived.Test.YtacphjdkobodnaaDoorC18j
import Derived.Test.YtacphjdkobodnaaDoorC06e
import Derived.Test.YtacphjdkobodnaaDoorW16
import Derived.Test.YtacphjdkobodnaaDoorW18
import Derived.Test.YtacphjdkobodnaaDoorW20
namespace Go.Proofs.YtacphjdkobodnaaDoor.leapNexts
open Go.ChangeShapes Go.WideShapes Go.ChangeAt Go.RowKit
set_option linter.unusedVariables false
set_option maxRecDepth 100000
attribute [local go_sem ↓] Go.wp_at_zero Go.wp_at_succ
theorem leapInfo : (Tryd.prog.info? 40).map (fun i => (i.zero, i.size, i.bytes)) = some (some (.agg #[.int .i64 0, .int .i64 0]), 2, 16) := by kernel_rfl
theorem first_at {c : Int} {l : List (Int × Int)} {k : Nat} (hk : k < l.length) (h : c < l[k].1) (hb : ∀ j (hj : j < l.length), j < k → l[j].1 ≤ c) : Leap.nx c l = l[k] ∧ Leap.nxIs c l = true := by
  have e : Leap.gone c l = k := (List.findIdx_eq hk).2 ⟨decide_eq_true h, fun j hj => decide_eq_false (by have := hb j (by omega) hj; omega)⟩
  unfold Leap.nx Leap.nxIs
  rw [e, decide_eq_true hk, List.getElem?_eq_getElem hk]
  exact ⟨rfl, rfl⟩
theorem first_none {c : Int} {l : List (Int × Int)} (hb : ∀ j (hj : j < l.length), l[j].1 ≤ c) : Leap.nx c l = (0, 0) ∧ Leap.nxIs c l = false := by
  have e : Leap.gone c l = l.length := List.findIdx_eq_length.2 fun x hx => by
    obtain ⟨j, hj, rfl⟩ := List.mem_iff_getElem.1 hx
    exact decide_eq_false (by have := hb j hj; omega)
  unfold Leap.nx Leap.nxIs
  rw [e, decide_eq_false (Nat.lt_irrefl _), List.getElem?_eq_none (Nat.le_refl _)]
  exact ⟨rfl, rfl⟩
theorem big (w : World) (hT : Tab w) (A : Option Addr) (l : List (Int × Int)) (cap : Nat) (hA : PairsAt w A l) (hl : l.length ≤ 9223372036854775807) (hw : ∀ s ∈ l, (Lit.int .i64 s.1).wf = true ∧ (Lit.int .i64 s.2).wf = true) (c : Int) (h : 256 < l.length) : Calls Tryd.prog 8 #[.slice A l.length cap, .int .i64 c] w fun e w' => e = .returned (.bool true) ∧ Ok w w' := by
  have hok := Ok.refl w
  clear hw
  go_enter Tryd.func8, Tryd.ntmps8
  go_wp2_with (go_at_call 10; refine (law18Alive _ hT).mono ?_; rintro e w1 ⟨rfl, hb1⟩; replace hT := hT.next hb1; replace hA := hA.below hb1; replace hok := hok.trans hb1; clear hb1)
  go_ret
  exact ⟨rfl, hok⟩
set_option maxHeartbeats 3200000 in
theorem main (w : World) (hT : Tab w) (A : Option Addr) (l : List (Int × Int)) (cap : Nat) (hA : PairsAt w A l) (hl : l.length ≤ 9223372036854775807) (hw : ∀ s ∈ l, (Lit.int .i64 s.1).wf = true ∧ (Lit.int .i64 s.2).wf = true) (c : Int) (h : l.length ≤ 256) : Calls Tryd.prog 8 #[.slice A l.length cap, .int .i64 c] w fun e w' => e = .returned (.bool true) ∧ Ok w w' := by
  have hok := Ok.refl w
  clear hw
  have KN := Lib.hid fun A cap w h => leapNext A l cap c w h hl
  have KL := Lib.hid fun A cap w hT h => leapToLabel A l cap c w hT h hl
  have KT := Lib.hid fun A ca B cb w hA hB => ref6Tables A B l l ca cb w hA hB hl hl
  simp only [decide_true] at KT
  have HF := Lib.hid fun (k : Nat) hk h hb => first_at (c := c) (l := l) (k := k) hk h hb
  have HF0 := Lib.hid fun hb => first_none (c := c) (l := l) hb
  generalize Leap.nx c l = p at *
  generalize Leap.nxIs c l = r at *
  obtain ⟨L, eL⟩ : ∃ L, Leap.toL l c = L := ⟨_, rfl⟩
  rw [eL] at KL
  clear eL
  obtain ⟨⟨y, mo, d, hh, mi, se⟩, er⟩ := L
  obtain ⟨px, py⟩ := p
  simp only [lbV] at KN KL
  go_enter Tryd.func8, Tryd.ntmps8
  go_upto_region 5 with (go_at_call 10; refine (law18Alive _ hT).mono ?_; rintro e w1 ⟨rfl, hb1⟩; replace hT := hT.next hb1; replace hA := hA.below hb1; replace hok := hok.trans hb1; clear hb1)
  go_upto_region 6 with (at_builtin; refine wpList_append_pairs rfl _ _ 22 rfl w1.heap.size 40 Tryd.underlying22 leapInfo _ [] 0 rfl rfl (World.ownsRow_made w1 #[] 0 (Nat.le_refl _) (Nat.zero_le _) rfl) A l l.length cap rfl rfl (hA.alloc _) (by simp; omega) (by simp) ?_; intro v1 w3 hown1 hgrow1; rw [List.nil_append] at hown1)
  have hgrow2 : (w1.alloc (.cells #[] 40)).grownBy w3 (some w1.heap.size) := hgrow1
  have hb1 : Ok w1 w3 := Below.grown ((Ok.refl w1).alloc _) hgrow2 (by simp) (fun k hk => by cases hk; exact Nat.le_refl _)
  obtain ⟨A2, c2, rfl, hM⟩ := PairsAt.of_own hown1
  replace hT := hT.next hb1
  replace hA := hA.below hb1
  replace hok := hok.trans hb1
  clear hb1 hgrow1 hgrow2 hown1
  go_upto_region 10 with (first
    | (go_at_call 19; (with_reducible refine (KN.out _ _ _ hM).mono ?_); rintro e w4 ⟨rfl, hb1⟩; obtain ⟨g, hg⟩ : ∃ g, w4.heap.size = g := ⟨_, rfl⟩; have hX := Own.new w4 #[.int .i64 px, .int .i64 py] 40 (g := g) hg.symm; replace hb1 := hb1.alloc (.cells #[.int .i64 px, .int .i64 py] 40); replace hT := hT.next hb1; replace hA := hA.below hb1; replace hM := hM.below hb1; replace hok := hok.trans hb1; clear hb1)
    | (go_at_call 12; (with_reducible refine (KL.out _ _ _ hT hM).mono ?_); rintro e w5 ⟨rfl, hb1⟩; replace hX := hX.next hb1; replace hT := hT.next hb1; replace hA := hA.below hb1; replace hM := hM.below hb1; replace hok := hok.trans hb1; clear hb1)
    | (go_at_call 20; (with_reducible refine (KT.out _ _ _ _ _ hM hA).mono ?_); rintro e w6 ⟨rfl, hb1⟩; replace hX := hX.next hb1; replace hT := hT.next hb1; replace hA := hA.below hb1; replace hM := hM.below hb1; replace hok := hok.trans hb1; clear hb1))
  clear hM hT KN KL KT
  go_wp2_with fail
  go_loopw [33] (fun v wr => ∃ k : Nat, k ≤ l.length ∧ v = .int .i64 k ∧ Hid (∀ j (hj : j < l.length), j < k → l[j].1 ≤ c) ∧ Ok w6 wr) (fun v _ => l.length - (intOf v).toNat)
  case atStart => exact ⟨0, Nat.zero_le _, rfl, Lib.hid (fun j _ h => absurd h (Nat.not_lt_zero _)), Ok.refl _⟩
  case round =>
    obtain ⟨k, hk, rfl, hrel, hok1⟩ := hrel
    have hX1 := (hX.next hok1)
    by_cases hlt : k < l.length
    · obtain ⟨b, off, hAe, hbs, c1, c2⟩ := hA.below hok1 k hlt
      subst hAe
      by_cases he : c < l[k].1
      · obtain ⟨e1, e2⟩ := HF.out k hlt he hrel.out
        obtain ⟨a, ea⟩ : ∃ x, l[k].1 = x := ⟨_, rfl⟩
        obtain ⟨o, eo⟩ : ∃ x, l[k].2 = x := ⟨_, rfl⟩
        rw [ea] at c1 he
        rw [eo] at c2
        have e3 : px = a := by rw [← ea, ← e1]
        have e4 : py = o := by rw [← eo, ← e1]
        clear e1 ea eo HF HF0 hrel
        subst e2
        subst e3
        subst e4
        have hE := fun W => eqLeap px py px py W
        simp only [beq_self_eq_true, Bool.and_self] at hE
        have hX2 := hX1.alloc (.cells #[.int .i64 px, .int .i64 py] 40)
        have x0 := hX2.cell 0 rfl
        have x1 := hX2.cell 1 rfl
        have xl := hX2.lt
        clear hX1 hX hX2
        go_wp2_with fail
        go_ret
        exact ⟨rfl, (hok.trans hok1).alloc _⟩
      · have HN := Lib.hid he
        obtain ⟨a, ea⟩ : ∃ x, l[k].1 = x := ⟨_, rfl⟩
        obtain ⟨o, eo⟩ : ∃ x, l[k].2 = x := ⟨_, rfl⟩
        rw [ea] at c1 he
        rw [eo] at c2
        clear ea eo HF HF0 hX1
        go_wp2_with fail
        go_roundw
        case rel =>
          refine ⟨k + 1, by omega, by go_num, Lib.hid fun j hj hjk => ?_, hok1.alloc _⟩
          by_cases e : j = k
          · subst e; have := HN.out; omega
          · exact hrel.out j hj (by omega)
        case measure => simp [intOf]; omega
    · obtain ⟨e1, e2⟩ := HF0.out fun j hj => hrel.out j hj (by omega)
      have e3 : px = 0 := congrArg Prod.fst e1
      have e4 : py = 0 := congrArg Prod.snd e1
      clear e1 HF HF0 hrel
      subst e2
      subst e3
      subst e4
      have hE := fun W => eqLeap 0 0 0 0 W
      simp only [beq_self_eq_true, Bool.and_self] at hE
      have x0 := hX1.cell 0 rfl
      have x1 := hX1.cell 1 rfl
      have xl := hX1.lt
      clear hX1 hX
      go_wp2_with fail
      go_ret
      exact ⟨rfl, hok.trans hok1⟩
theorem walk (w : World) (hT : Tab w) (A : Option Addr) (l : List (Int × Int)) (cap : Nat) (hA : PairsAt w A l) (hl : l.length ≤ 9223372036854775807) (hw : ∀ s ∈ l, (Lit.int .i64 s.1).wf = true ∧ (Lit.int .i64 s.2).wf = true) (c : Int) (wc : (Lit.int .i64 c).wf = true) : Calls Tryd.prog 8 #[.slice A l.length cap, .int .i64 c] w fun e w' => e = .returned (.bool true) ∧ Below w.heap.size w w' := by
  show Calls Tryd.prog 8 #[.slice A l.length cap, .int .i64 c] w fun e w' => e = .returned (.bool true) ∧ Ok w w'
  by_cases h : 256 < l.length
  · exact big w hT A l cap hA hl hw c h
  · exact main w hT A l cap hA hl hw c (by omega)
theorem own : ownKnob Tryd.prog.godebug = none := by kernel_rfl
theorem laidOut : laidOutB Tryd.prog = true := by kernel_rfl
theorem laid_met (os : Os) : laidMet Tryd.prog Rows.leapNextsRow.laid ((laidWorld os).forCall (fun _ _ => 0) ⟨#[], #[.slice none 0 0, .int .i64 0], []⟩).memory :=
  laidMet_of_run' 8 (by kernel_rfl) (by kernel_rfl)
theorem reads (os : Os) {H : Type} (enc : TypeId × Value → H) : ∃ places, DataW.whole enc Tryd.prog ((laidWorld os).forCall (fun _ _ => 0) ⟨#[], #[.slice none 0 0, .int .i64 0], []⟩).memory Tryd.f8.params.toList Rows.leapNextsSpec.vars false (#[.slice none 0 0, .int .i64 0] : Array Value).toList 8 = some ([.nil, .lit (.int .i64 0)], [], places) :=
  ⟨[], by kernel_rfl⟩
set_option maxRecDepth 100000 in
theorem lifted (os : Os) (started : os.Started) (H : Type) (enc : TypeId × Value → H) (F : Stop.Interp) :
    ReturnsInHanded {} Tryd.checked os 8 .any ((OpenSpec.ofChange Rows.leapNextsSpec).preRow enc Tryd.prog Tryd.f8 Rows.leapNextsRow.domain false Rows.leapNextsRow.laid) (((OpenSpec.ofChange Rows.leapNextsSpec).at F).post enc Tryd.prog Tryd.f8 false true false false) := by
  obtain ⟨places, hx⟩ := reads os enc
  refine returnsInHanded_of_row (C := Tryd.checked) (s := OpenSpec.ofChange Rows.leapNextsSpec) own started (by kernel_rfl) Tryd.func8
    (witness_row_at (enc := enc) (C := Tryd.checked) false (laidWorld os) #[.slice none 0 0, .int .i64 0] rfl (by kernel_rfl) (by kernel_rfl) (by kernel_rfl)
      (OpenSpec.preRow_of_cond 8 hx (by kernel_rfl) (fun k hk => by cases hk) (by kernel_rfl) (laid_met os))) ?_
  intro W base args ds gs before hval0 hW _ _ _ hL _ _
  have hval : ∀ (j : Nat) t v, Tryd.f8.params[j]? = some t → args[j]? = some v → Value.okWide Tryd.prog W .any base t v := hval0
  have hW' := hW
  obtain ⟨p, q, hA, hV, rfl, _, _⟩ := hW
  obtain ⟨rfl, rfl⟩ := trodVars_none hV
  replace hA : DataW.TrodAll enc Tryd.prog W 0 (fun _ => true) true Tryd.f8.params.toList args.toList ds p := hA
  rw [Tryd.params8] at hA hval
  obtain ⟨v0, vs0, d0, ds0, p0, q0, hargs, rfl, rfl, h0, r0⟩ := trodAll_cons hA
  obtain ⟨v1, vs1, d1, ds1, p1, q1, rfl, rfl, rfl, h1, r1⟩ := trodAll_cons r0
  obtain ⟨rfl, rfl, rfl⟩ := trodAll_nil r1
  obtain rfl : args = #[v0, v1] := by cases args; simp_all
  obtain ⟨A0, l0, c0, rfl, hA0, hl0, hw0⟩ := open_slice_pairs Tryd.underlying22 Tryd.underlying40 (by kernel_rfl) (by kernel_rfl) (by kernel_rfl) (by kernel_rfl) (hval 0 22 v0 rfl rfl) h0
  obtain ⟨a1, rfl, rfl, rfl, w1⟩ := open_int Tryd.underlying3 (hval 1 3 v1 rfl rfl) h1
  refine (walk W (tab_of hL) A0 l0 c0 hA0 hl0 hw0 a1 w1).mono fun e W' ⟨he, hb⟩ => ?_
  subst he
  exact ⟨_, rfl, law_post hW' laidOut (by rw [Tryd.params8]; exact params_ok (by kernel_rfl)) rfl (by kernel_rfl) Tryd.underlying4 rfl rfl rfl hb⟩
theorem said : Rows.LeapNextsSaid :=
  OpenClaim.holds_of_cond 8 Tryd.f8 rfl rfl rfl rfl rfl rfl rfl ⟨rfl, rfl, rfl, rfl, rfl⟩ rfl rfl rfl rfl rfl (by kernel_rfl) Tryd.func8 (by kernel_rfl)
    (of_decide_eq_true (by kernel_rfl)) (by unfold Func.isWrapper; first | (rw [if_pos (by decide +kernel)]; kernel_rfl) | (rw [if_neg (by decide +kernel)]; exact ⟨rfl, rfl⟩))
    (fun os started H enc _ F => by rw [OpenClaim.pre_eq_preRow]; exact lifted os started H enc F)
theorem plain (f : FuncId) (fn : Func) (hf : Tryd.pinned.checked.prog.funcNamed "clepsydra/clepsydralaw18.LeapNexts" = some f) (hfn : Tryd.pinned.checked.prog.funcs[f]? = some fn) :
    false = Tryd.pinned.checked.prog.looks [] ∧ ∀ (j : Nat) t, fn.params[j]? = some t → Tryd.pinned.checked.prog.wantsStandIn t = false := by
  obtain rfl : f = 8 := Option.some.inj ((show Tryd.prog.funcNamed "clepsydra/clepsydralaw18.LeapNexts" = some 8 by kernel_rfl).symm.trans hf) |>.symm
  obtain rfl : fn = Tryd.f8 := (Option.some.inj (Tryd.func8.symm.trans hfn)).symm
  refine ⟨by kernel_rfl, fun j t ht => ?_⟩
  have hall : (Tryd.f8.params.toList.all fun u => !Tryd.prog.wantsStandIn u) = true := by kernel_rfl
  have hm : t ∈ Tryd.f8.params.toList := Array.mem_toList_iff.2 (Array.mem_of_getElem? ht)
  exact (show Tryd.prog.wantsStandIn t = false by simpa using List.all_eq_true.1 hall t hm)
theorem proved : Rows.LeapNextsCardSaid :=
  Claim7.holds_tied_plain_at .later [] _ _ _ _ said (fun _ h => by cases h) (by kernel_rfl) (fun _ h => by cases h) leapNexts_row_tie rfl ⟨rfl, rfl⟩ (by kernel_rfl) rfl plain (by kernel_rfl)
end Go.Proofs.YtacphjdkobodnaaDoor.leapNexts
