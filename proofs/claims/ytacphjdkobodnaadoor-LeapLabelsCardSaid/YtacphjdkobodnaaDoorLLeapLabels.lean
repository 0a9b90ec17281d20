/- LeapLabels: for every table and every integer the law answers true: Good and ToLabel answer what the document says. The row lists the table of the months' days (civil.lengths), tied to the program's text. No other condition. -/
import Derived.Test.YtacphjdkobodnaaDoorC18j
namespace Go.Proofs.YtacphjdkobodnaaDoor.leapLabels
open Go.ChangeShapes Go.WideShapes Go.ChangeAt Go.RowKit
set_option linter.unusedVariables false
set_option maxRecDepth 100000
attribute [local go_sem ↓] Go.wp_at_zero Go.wp_at_succ
theorem big (w : World) (hT : Tab w) (A : Option Addr) (l : List (Int × Int)) (cap : Nat) (hA : PairsAt w A l) (hl : l.length ≤ 9223372036854775807) (hw : ∀ s ∈ l, (Lit.int .i64 s.1).wf = true ∧ (Lit.int .i64 s.2).wf = true) (c : Int) (h : 256 < l.length) : Calls Tryd.prog 3 #[.slice A l.length cap, .int .i64 c] w fun e w' => e = .returned (.bool true) ∧ Ok w w' := by
  have hok := Ok.refl w
  clear hw
  go_enter Tryd.func3, Tryd.ntmps3
  go_wp2_with (go_at_call 10; refine (law18Alive _ hT).mono ?_; rintro e w1 ⟨rfl, hb1⟩; replace hT := hT.next hb1; replace hA := hA.below hb1; replace hok := hok.trans hb1; clear hb1)
  go_ret
  exact ⟨rfl, hok⟩
set_option maxHeartbeats 1600000 in
theorem bad (w : World) (hT : Tab w) (A : Option Addr) (l : List (Int × Int)) (cap : Nat) (hA : PairsAt w A l) (hl : l.length ≤ 9223372036854775807) (hw : ∀ s ∈ l, (Lit.int .i64 s.1).wf = true ∧ (Lit.int .i64 s.2).wf = true) (c : Int) (h : l.length ≤ 256) (hg : Leap.good l = false) : Calls Tryd.prog 3 #[.slice A l.length cap, .int .i64 c] w fun e w' => e = .returned (.bool true) ∧ Ok w w' := by
  have hok := Ok.refl w
  have K1 := Lib.hid fun w hT h => leapToLabel A l cap c w hT h hl
  have KG := Lib.hid fun w h => leapGood A l cap w h hl
  have KR := Lib.hid fun w h => ref18Good A l cap w h hl
  clear hw
  rw [hg] at KG KR
  rw [show Leap.toL l c = (lb0, 31) by unfold Leap.toL; rw [if_neg (by rw [hg]; decide)]] at K1
  have hE := eqLabel lb0 lb0
  rw [decide_eq_true rfl] at hE
  simp only [lbV, lb0] at K1 hE
  clear hg
  go_enter Tryd.func3, Tryd.ntmps3
  go_wp2_with (first | (go_at_call 10; refine (law18Alive _ hT).mono ?_; rintro e w1 ⟨rfl, hb1⟩; replace hT := hT.next hb1; replace hA := hA.below hb1; replace hok := hok.trans hb1; clear hb1) | (go_at_call 12; (with_reducible refine (K1.out _ hT hA).mono ?_); rintro e w2 ⟨rfl, hb1⟩; have hX := Own.new w2 #[.int .i64 0, .int .i64 0, .int .i64 0, .int .i64 0, .int .i64 0, .int .i64 0] 26 rfl; replace hb1 := hb1.alloc (.cells #[.int .i64 0, .int .i64 0, .int .i64 0, .int .i64 0, .int .i64 0, .int .i64 0] 26); replace hT := hT.next hb1; replace hA := hA.below hb1; replace hok := hok.trans hb1; clear hb1) | (go_at_call 11; (with_reducible refine (KR.out _ hA).mono ?_); rintro e w2 ⟨rfl, hb1⟩; replace hT := hT.next hb1; replace hA := hA.below hb1; replace hok := hok.trans hb1; clear hb1) | (go_at_call 13; (with_reducible refine (KG.out _ hA).mono ?_); rintro e w2 ⟨rfl, hb1⟩; replace hX := hX.next hb1; replace hT := hT.next hb1; replace hA := hA.below hb1; replace hok := hok.trans hb1; clear hb1; have x0 := hX.cell 0 rfl; have x1 := hX.cell 1 rfl; have x2 := hX.cell 2 rfl; have x3 := hX.cell 3 rfl; have x4 := hX.cell 4 rfl; have x5 := hX.cell 5 rfl; have xl := hX.lt))
  go_ret
  exact ⟨rfl, hok⟩
set_option maxHeartbeats 1600000 in
theorem high (w : World) (hT : Tab w) (A : Option Addr) (l : List (Int × Int)) (cap : Nat) (hA : PairsAt w A l) (hl : l.length ≤ 9223372036854775807) (hw : ∀ s ∈ l, (Lit.int .i64 s.1).wf = true ∧ (Lit.int .i64 s.2).wf = true) (c : Int) (h : l.length ≤ 256) (hg : Leap.good l = true) (hc : 4398046511104 < c) : Calls Tryd.prog 3 #[.slice A l.length cap, .int .i64 c] w fun e w' => e = .returned (.bool true) ∧ Ok w w' := by
  have hok := Ok.refl w
  have K1 := Lib.hid fun w hT h => leapToLabel A l cap c w hT h hl
  have KG := Lib.hid fun w h => leapGood A l cap w h hl
  have KR := Lib.hid fun w h => ref18Good A l cap w h hl
  clear hw
  rw [hg] at KG KR
  rw [show Leap.toL l c = (lb0, 30) by unfold Leap.toL; rw [if_pos hg, if_neg (by unfold Leap.cnt; omega)]] at K1
  have hE := eqLabel lb0 lb0
  rw [decide_eq_true rfl] at hE
  simp only [lbV, lb0] at K1 hE
  clear hg
  go_enter Tryd.func3, Tryd.ntmps3
  go_wp2_with (first | (go_at_call 10; refine (law18Alive _ hT).mono ?_; rintro e w1 ⟨rfl, hb1⟩; replace hT := hT.next hb1; replace hA := hA.below hb1; replace hok := hok.trans hb1; clear hb1) | (go_at_call 12; (with_reducible refine (K1.out _ hT hA).mono ?_); rintro e w2 ⟨rfl, hb1⟩; have hX := Own.new w2 #[.int .i64 0, .int .i64 0, .int .i64 0, .int .i64 0, .int .i64 0, .int .i64 0] 26 rfl; replace hb1 := hb1.alloc (.cells #[.int .i64 0, .int .i64 0, .int .i64 0, .int .i64 0, .int .i64 0, .int .i64 0] 26); replace hT := hT.next hb1; replace hA := hA.below hb1; replace hok := hok.trans hb1; clear hb1) | (go_at_call 11; (with_reducible refine (KR.out _ hA).mono ?_); rintro e w2 ⟨rfl, hb1⟩; replace hT := hT.next hb1; replace hA := hA.below hb1; replace hok := hok.trans hb1; clear hb1) | (go_at_call 13; (with_reducible refine (KG.out _ hA).mono ?_); rintro e w2 ⟨rfl, hb1⟩; replace hX := hX.next hb1; replace hT := hT.next hb1; replace hA := hA.below hb1; replace hok := hok.trans hb1; clear hb1; have x0 := hX.cell 0 rfl; have x1 := hX.cell 1 rfl; have x2 := hX.cell 2 rfl; have x3 := hX.cell 3 rfl; have x4 := hX.cell 4 rfl; have x5 := hX.cell 5 rfl; have xl := hX.lt))
  go_ret
  exact ⟨rfl, hok⟩
set_option maxHeartbeats 1600000 in
theorem low (w : World) (hT : Tab w) (A : Option Addr) (l : List (Int × Int)) (cap : Nat) (hA : PairsAt w A l) (hl : l.length ≤ 9223372036854775807) (hw : ∀ s ∈ l, (Lit.int .i64 s.1).wf = true ∧ (Lit.int .i64 s.2).wf = true) (c : Int) (h : l.length ≤ 256) (hg : Leap.good l = true) (hc : c < -4398046511104) : Calls Tryd.prog 3 #[.slice A l.length cap, .int .i64 c] w fun e w' => e = .returned (.bool true) ∧ Ok w w' := by
  have hok := Ok.refl w
  have K1 := Lib.hid fun w hT h => leapToLabel A l cap c w hT h hl
  have KG := Lib.hid fun w h => leapGood A l cap w h hl
  have KR := Lib.hid fun w h => ref18Good A l cap w h hl
  clear hw
  rw [hg] at KG KR
  rw [show Leap.toL l c = (lb0, 30) by unfold Leap.toL; rw [if_pos hg, if_neg (by unfold Leap.cnt; omega)]] at K1
  have hE := eqLabel lb0 lb0
  rw [decide_eq_true rfl] at hE
  simp only [lbV, lb0] at K1 hE
  clear hg
  go_enter Tryd.func3, Tryd.ntmps3
  go_wp2_with (first | (go_at_call 10; refine (law18Alive _ hT).mono ?_; rintro e w1 ⟨rfl, hb1⟩; replace hT := hT.next hb1; replace hA := hA.below hb1; replace hok := hok.trans hb1; clear hb1) | (go_at_call 12; (with_reducible refine (K1.out _ hT hA).mono ?_); rintro e w2 ⟨rfl, hb1⟩; have hX := Own.new w2 #[.int .i64 0, .int .i64 0, .int .i64 0, .int .i64 0, .int .i64 0, .int .i64 0] 26 rfl; replace hb1 := hb1.alloc (.cells #[.int .i64 0, .int .i64 0, .int .i64 0, .int .i64 0, .int .i64 0, .int .i64 0] 26); replace hT := hT.next hb1; replace hA := hA.below hb1; replace hok := hok.trans hb1; clear hb1) | (go_at_call 11; (with_reducible refine (KR.out _ hA).mono ?_); rintro e w2 ⟨rfl, hb1⟩; replace hT := hT.next hb1; replace hA := hA.below hb1; replace hok := hok.trans hb1; clear hb1) | (go_at_call 13; (with_reducible refine (KG.out _ hA).mono ?_); rintro e w2 ⟨rfl, hb1⟩; replace hX := hX.next hb1; replace hT := hT.next hb1; replace hA := hA.below hb1; replace hok := hok.trans hb1; clear hb1; have x0 := hX.cell 0 rfl; have x1 := hX.cell 1 rfl; have x2 := hX.cell 2 rfl; have x3 := hX.cell 3 rfl; have x4 := hX.cell 4 rfl; have x5 := hX.cell 5 rfl; have xl := hX.lt))
  go_ret
  exact ⟨rfl, hok⟩
set_option maxHeartbeats 1600000 in
theorem fine (w : World) (hT : Tab w) (A : Option Addr) (l : List (Int × Int)) (cap : Nat) (hA : PairsAt w A l) (hl : l.length ≤ 9223372036854775807) (hw : ∀ s ∈ l, (Lit.int .i64 s.1).wf = true ∧ (Lit.int .i64 s.2).wf = true) (c : Int) (h : l.length ≤ 256) (hg : Leap.good l = true) (hc1 : -4398046511104 ≤ c) (hc2 : c ≤ 4398046511104) : Calls Tryd.prog 3 #[.slice A l.length cap, .int .i64 c] w fun e w' => e = .returned (.bool true) ∧ Ok w w' := by
  have hok := Ok.refl w
  have K1 := Lib.hid fun w hT h => leapToLabel A l cap c w hT h hl
  have KG := Lib.hid fun w h => leapGood A l cap w h hl
  have KR := Lib.hid fun w h => ref18Good A l cap w h hl
  clear hw
  have KL := Lib.hid fun w h => ref18Label A l cap c w h hg ⟨hc1, hc2⟩
  rw [hg] at KG KR
  rw [show Leap.toL l c = (Leap.lbl l c, 0) by unfold Leap.toL; rw [if_pos hg, if_pos (show Leap.cnt c from ⟨hc1, hc2⟩)]] at K1
  generalize Leap.lbl l c = L at K1 KL
  have hE := eqLabel L L
  rw [decide_eq_true rfl] at hE
  obtain ⟨y, mo, d, hh, mi, se⟩ := L
  simp only [lbV] at K1 KL hE
  clear hg
  go_enter Tryd.func3, Tryd.ntmps3
  go_upto_region 13 with (first | (go_at_call 10; refine (law18Alive _ hT).mono ?_; rintro e w1 ⟨rfl, hb1⟩; replace hT := hT.next hb1; replace hA := hA.below hb1; replace hok := hok.trans hb1; clear hb1) | (go_at_call 12; (with_reducible refine (K1.out _ hT hA).mono ?_); rintro e w8 ⟨rfl, hb1⟩; obtain ⟨g, hg2⟩ : ∃ g, w8.heap.size = g := ⟨_, rfl⟩; have hX := Own.new w8 #[.int .i64 y, .int .i64 mo, .int .i64 d, .int .i64 hh, .int .i64 mi, .int .i64 se] 26 (g := g) hg2.symm; replace hb1 := hb1.alloc (.cells #[.int .i64 y, .int .i64 mo, .int .i64 d, .int .i64 hh, .int .i64 mi, .int .i64 se] 26); replace hT := hT.next hb1; replace hA := hA.below hb1; replace hok := hok.trans hb1; clear hb1) | (go_at_call 11; (with_reducible refine (KR.out _ hA).mono ?_); rintro e w2 ⟨rfl, hb1⟩; replace hT := hT.next hb1; replace hA := hA.below hb1; replace hok := hok.trans hb1; clear hb1) | (go_at_call 13; (with_reducible refine (KG.out _ hA).mono ?_); rintro e w2 ⟨rfl, hb1⟩; replace hX := hX.next hb1; replace hT := hT.next hb1; replace hA := hA.below hb1; replace hok := hok.trans hb1; clear hb1; have x0 := hX.cell 0 rfl; have x1 := hX.cell 1 rfl; have x2 := hX.cell 2 rfl; have x3 := hX.cell 3 rfl; have x4 := hX.cell 4 rfl; have x5 := hX.cell 5 rfl; have xl := hX.lt))
  have hB : SixAt g w y mo d hh mi se w2 := SixAt.of hX hok
  have HA := Lib.hid hA
  clear hX x0 x1 x2 x3 x4 x5 xl hA hT
  go_region_held3 (fun w' => w'.cell? ⟨g, 0, none⟩ = some (.int .i64 y) ∧ w'.cell? ⟨g, 1, none⟩ = some (.int .i64 mo) ∧ w'.cell? ⟨g, 2, none⟩ = some (.int .i64 d) ∧ w'.cell? ⟨g, 3, none⟩ = some (.int .i64 hh) ∧ w'.cell? ⟨g, 4, none⟩ = some (.int .i64 mi) ∧ w'.cell? ⟨g, 5, none⟩ = some (.int .i64 se) ∧ g < w'.heap.size ∧ Ok w w')
    (first | assumption | exact hB.drew | exact SixAt.next (by assumption) hB.drew | exact SixAt.next (by assumption) (by assumption))
    ((first | (go_at_call 14; refine (KL.out _ ?_).mono ?_; (focus (first | exact HA.out.drew | exact HA.out)); rintro e w5 ⟨rfl, hb2⟩)))
  all_goals
    rename_i hS
    have hok2 := SixAt.okk hS
    clear hS
    go_wp2
    go_ret
    exact ⟨rfl, hok2⟩
theorem walk (w : World) (hT : Tab w) (A : Option Addr) (l : List (Int × Int)) (cap : Nat) (hA : PairsAt w A l) (hl : l.length ≤ 9223372036854775807) (hw : ∀ s ∈ l, (Lit.int .i64 s.1).wf = true ∧ (Lit.int .i64 s.2).wf = true) (c : Int) (hc : (Lit.int .i64 c).wf = true) : Calls Tryd.prog 3 #[.slice A l.length cap, .int .i64 c] w fun e w' => e = .returned (.bool true) ∧ Below w.heap.size w w' := by
  show Calls Tryd.prog 3 #[.slice A l.length cap, .int .i64 c] w fun e w' => e = .returned (.bool true) ∧ Ok w w'
  by_cases h : 256 < l.length
  · exact big w hT A l cap hA hl hw c h
  · by_cases hg : Leap.good l = true
    · by_cases h1 : 4398046511104 < c
      · exact high w hT A l cap hA hl hw c (by omega) hg h1
      · by_cases h2 : c < -4398046511104
        · exact low w hT A l cap hA hl hw c (by omega) hg h2
        · exact fine w hT A l cap hA hl hw c (by omega) hg (by omega) (by omega)
    · exact bad w hT A l cap hA hl hw c (by omega) (by simpa using hg)
theorem own : ownKnob Tryd.prog.godebug = none := by kernel_rfl
theorem laidOut : laidOutB Tryd.prog = true := by kernel_rfl
theorem laid_met (os : Os) : laidMet Tryd.prog Rows.leapLabelsRow.laid ((laidWorld os).forCall (fun _ _ => 0) ⟨#[], #[.slice none 0 0, .int .i64 0], []⟩).memory :=
  laidMet_of_run' 8 (by kernel_rfl) (by kernel_rfl)
theorem reads (os : Os) {H : Type} (enc : TypeId × Value → H) : ∃ places, DataW.whole enc Tryd.prog ((laidWorld os).forCall (fun _ _ => 0) ⟨#[], #[.slice none 0 0, .int .i64 0], []⟩).memory Tryd.f3.params.toList Rows.leapLabelsSpec.vars false (#[.slice none 0 0, .int .i64 0] : Array Value).toList 8 = some ([.nil, .lit (.int .i64 0)], [], places) :=
  ⟨[], by kernel_rfl⟩
set_option maxRecDepth 100000 in
theorem lifted (os : Os) (started : os.Started) (H : Type) (enc : TypeId × Value → H) (F : Stop.Interp) :
    ReturnsInHanded {} Tryd.checked os 3 .any ((OpenSpec.ofChange Rows.leapLabelsSpec).preRow enc Tryd.prog Tryd.f3 Rows.leapLabelsRow.domain false Rows.leapLabelsRow.laid) (((OpenSpec.ofChange Rows.leapLabelsSpec).at F).post enc Tryd.prog Tryd.f3 false true false false) := by
  obtain ⟨places, hx⟩ := reads os enc
  refine returnsInHanded_of_row (C := Tryd.checked) (s := OpenSpec.ofChange Rows.leapLabelsSpec) own started (by kernel_rfl) Tryd.func3
    (witness_row_at (enc := enc) (C := Tryd.checked) false (laidWorld os) #[.slice none 0 0, .int .i64 0] rfl (by kernel_rfl) (by kernel_rfl) (by kernel_rfl)
      (OpenSpec.preRow_of_cond 8 hx (by kernel_rfl) (fun k hk => by cases hk) (by kernel_rfl) (laid_met os))) ?_
  intro W base args ds gs before hval0 hW _ _ _ hL _ _
  have hval : ∀ (j : Nat) t v, Tryd.f3.params[j]? = some t → args[j]? = some v → Value.okWide Tryd.prog W .any base t v := hval0
  have hW' := hW
  obtain ⟨p, q, hA, hV, rfl, _, _⟩ := hW
  obtain ⟨rfl, rfl⟩ := trodVars_none hV
  replace hA : DataW.TrodAll enc Tryd.prog W 0 (fun _ => true) true Tryd.f3.params.toList args.toList ds p := hA
  rw [Tryd.params3] at hA hval
  obtain ⟨v0, vs0, d0, ds0, p0, q0, hargs, rfl, rfl, h0, r0⟩ := trodAll_cons hA
  obtain ⟨v1, vs1, d1, ds1, p1, q1, rfl, rfl, rfl, h1, r1⟩ := trodAll_cons r0
  obtain ⟨rfl, rfl, rfl⟩ := trodAll_nil r1
  obtain rfl : args = #[v0, v1] := by cases args; simp_all
  obtain ⟨A0, l0, c0, rfl, hA0, hl0, hw0⟩ := open_slice_pairs Tryd.underlying22 Tryd.underlying40 (by kernel_rfl) (by kernel_rfl) (by kernel_rfl) (by kernel_rfl) (hval 0 22 v0 rfl rfl) h0
  obtain ⟨a1, rfl, rfl, rfl, w1⟩ := open_int Tryd.underlying3 (hval 1 3 v1 rfl rfl) h1
  refine (walk W (tab_of hL) A0 l0 c0 hA0 hl0 hw0 a1 w1).mono fun e W' ⟨he, hb⟩ => ?_
  subst he
  exact ⟨_, rfl, law_post hW' laidOut (by rw [Tryd.params3]; exact params_ok (by kernel_rfl)) rfl (by kernel_rfl) Tryd.underlying4 rfl rfl rfl hb⟩
theorem said : Rows.LeapLabelsSaid :=
  OpenClaim.holds_of_cond 3 Tryd.f3 rfl rfl rfl rfl rfl rfl rfl ⟨rfl, rfl, rfl, rfl, rfl⟩ rfl rfl rfl rfl rfl (by kernel_rfl) Tryd.func3 (by kernel_rfl)
    (of_decide_eq_true (by kernel_rfl)) (by unfold Func.isWrapper; first | (rw [if_pos (by decide +kernel)]; kernel_rfl) | (rw [if_neg (by decide +kernel)]; exact ⟨rfl, rfl⟩))
    (fun os started H enc _ F => by rw [OpenClaim.pre_eq_preRow]; exact lifted os started H enc F)
theorem plain (f : FuncId) (fn : Func) (hf : Tryd.pinned.checked.prog.funcNamed "clepsydra/clepsydralaw18.LeapLabels" = some f) (hfn : Tryd.pinned.checked.prog.funcs[f]? = some fn) :
    false = Tryd.pinned.checked.prog.looks [] ∧ ∀ (j : Nat) t, fn.params[j]? = some t → Tryd.pinned.checked.prog.wantsStandIn t = false := by
  obtain rfl : f = 3 := Option.some.inj ((show Tryd.prog.funcNamed "clepsydra/clepsydralaw18.LeapLabels" = some 3 by kernel_rfl).symm.trans hf) |>.symm
  obtain rfl : fn = Tryd.f3 := (Option.some.inj (Tryd.func3.symm.trans hfn)).symm
  refine ⟨by kernel_rfl, fun j t ht => ?_⟩
  have hall : (Tryd.f3.params.toList.all fun u => !Tryd.prog.wantsStandIn u) = true := by kernel_rfl
  have hm : t ∈ Tryd.f3.params.toList := Array.mem_toList_iff.2 (Array.mem_of_getElem? ht)
  exact (show Tryd.prog.wantsStandIn t = false by simpa using List.all_eq_true.1 hall t hm)
theorem proved : Rows.LeapLabelsCardSaid :=
  Claim7.holds_tied_plain_at .later [] _ _ _ _ said (fun _ h => by cases h) (by kernel_rfl) (fun _ h => by cases h) leapLabels_row_tie rfl ⟨rfl, rfl⟩ (by kernel_rfl) rfl plain (by kernel_rfl)
end Go.Proofs.YtacphjdkobodnaaDoor.leapLabels
