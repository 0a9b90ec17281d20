/- LeapBack: for every table and every integer the law answers true: a count's label has that count. The row lists the table of the months' days (civil.lengths), tied to the program's text. No other condition. -/
import Derived.Test.YtacphjdkobodnaaDoorC18j
namespace Go.Proofs.YtacphjdkobodnaaDoor.leapBack
open Go.ChangeShapes Go.WideShapes Go.ChangeAt Go.RowKit
set_option linter.unusedVariables false
set_option maxRecDepth 100000
attribute [local go_sem ↓] Go.wp_at_zero Go.wp_at_succ
theorem big (w : World) (hT : Tab w) (A : Option Addr) (l : List (Int × Int)) (cap : Nat) (hA : PairsAt w A l) (hl : l.length ≤ 9223372036854775807) (hw : ∀ s ∈ l, (Lit.int .i64 s.1).wf = true ∧ (Lit.int .i64 s.2).wf = true) (c : Int) (h : 256 < l.length) : Calls Tryd.prog 5 #[.slice A l.length cap, .int .i64 c] w fun e w' => e = .returned (.bool true) ∧ Ok w w' := by
  have hok := Ok.refl w
  clear hw
  go_enter Tryd.func5, Tryd.ntmps5
  go_wp2_with (go_at_call 10; refine (law18Alive _ hT).mono ?_; rintro e w1 ⟨rfl, hb1⟩; replace hT := hT.next hb1; replace hA := hA.below hb1; replace hok := hok.trans hb1; clear hb1)
  go_ret
  exact ⟨rfl, hok⟩
set_option maxHeartbeats 1600000 in
theorem bad (w : World) (hT : Tab w) (A : Option Addr) (l : List (Int × Int)) (cap : Nat) (hA : PairsAt w A l) (hl : l.length ≤ 9223372036854775807) (hw : ∀ s ∈ l, (Lit.int .i64 s.1).wf = true ∧ (Lit.int .i64 s.2).wf = true) (c : Int) (h : l.length ≤ 256) (hb : (Leap.toL l c).2 ≠ 0) : Calls Tryd.prog 5 #[.slice A l.length cap, .int .i64 c] w fun e w' => e = .returned (.bool true) ∧ Ok w w' := by
  have hok := Ok.refl w
  have K1 := Lib.hid fun w hT h => leapToLabel A l cap c w hT h hl
  clear hw
  obtain ⟨L, e⟩ : ∃ L, Leap.toL l c = L := ⟨_, rfl⟩
  rw [e] at hb K1
  clear e
  obtain ⟨⟨y, mo, d, hh, mi, se⟩, er⟩ := L
  simp only [lbV] at hb K1
  have g3 : (er != 0) = true := bne_iff_ne.2 hb
  clear hb
  go_enter Tryd.func5, Tryd.ntmps5
  go_wp2_with (first | (go_at_call 10; refine (law18Alive _ hT).mono ?_; rintro e w1 ⟨rfl, hb1⟩; replace hT := hT.next hb1; replace hA := hA.below hb1; replace hok := hok.trans hb1; clear hb1) | (go_at_call 12; (with_reducible refine (K1.out _ hT hA).mono ?_); rintro e w2 ⟨rfl, hb1⟩; replace hok := hok.trans hb1; clear hb1))
  go_ret
  exact ⟨rfl, hok.alloc _⟩
set_option maxHeartbeats 1600000 in
theorem fine (w : World) (hT : Tab w) (A : Option Addr) (l : List (Int × Int)) (cap : Nat) (hA : PairsAt w A l) (hl : l.length ≤ 9223372036854775807) (hw : ∀ s ∈ l, (Lit.int .i64 s.1).wf = true ∧ (Lit.int .i64 s.2).wf = true) (c : Int) (h : l.length ≤ 256) (hg : Leap.good l = true) (hc : Leap.cnt c) : Calls Tryd.prog 5 #[.slice A l.length cap, .int .i64 c] w fun e w' => e = .returned (.bool true) ∧ Ok w w' := by
  have hok := Ok.refl w
  have K1 := Lib.hid fun w hT h => leapToLabel A l cap c w hT h hl
  have K2 := Lib.hid fun w hT h => leapToCount A l cap (Leap.lbl l c) w hT h hl
  rw [Leap.toC_is hg hc] at K2
  rw [show Leap.toL l c = (Leap.lbl l c, 0) by unfold Leap.toL; rw [if_pos hg, if_pos hc]] at K1
  generalize Leap.lbl l c = L at K1 K2
  clear hw hg hc
  obtain ⟨y, mo, d, hh, mi, se⟩ := L
  simp only [lbV] at K1 K2
  go_enter Tryd.func5, Tryd.ntmps5
  go_wp2_with (first | (go_at_call 10; refine (law18Alive _ hT).mono ?_; rintro e w1 ⟨rfl, hb1⟩; replace hT := hT.next hb1; replace hA := hA.below hb1; replace hok := hok.trans hb1; clear hb1) | (go_at_call 12; (with_reducible refine (K1.out _ hT hA).mono ?_); rintro e w2 ⟨rfl, hb1⟩; have hX := Own.new w2 #[.int .i64 y, .int .i64 mo, .int .i64 d, .int .i64 hh, .int .i64 mi, .int .i64 se] 26 rfl; replace hb1 := hb1.alloc (.cells #[.int .i64 y, .int .i64 mo, .int .i64 d, .int .i64 hh, .int .i64 mi, .int .i64 se] 26); replace hT := hT.next hb1; replace hA := hA.below hb1; replace hok := hok.trans hb1; clear hb1; have x0 := hX.cell 0 rfl; have x1 := hX.cell 1 rfl; have x2 := hX.cell 2 rfl; have x3 := hX.cell 3 rfl; have x4 := hX.cell 4 rfl; have x5 := hX.cell 5 rfl; have hxl := hX.lt) | (go_at_call 15; (with_reducible refine (K2.out _ hT hA).mono ?_); rintro e w2 ⟨rfl, hb1⟩; replace hok := hok.trans hb1; clear hb1))
  go_ret
  exact ⟨by simp, hok⟩
theorem walk (w : World) (hT : Tab w) (A : Option Addr) (l : List (Int × Int)) (cap : Nat) (hA : PairsAt w A l) (hl : l.length ≤ 9223372036854775807) (hw : ∀ s ∈ l, (Lit.int .i64 s.1).wf = true ∧ (Lit.int .i64 s.2).wf = true) (c : Int) (hc : (Lit.int .i64 c).wf = true) : Calls Tryd.prog 5 #[.slice A l.length cap, .int .i64 c] w fun e w' => e = .returned (.bool true) ∧ Below w.heap.size w w' := by
  show Calls Tryd.prog 5 #[.slice A l.length cap, .int .i64 c] w fun e w' => e = .returned (.bool true) ∧ Ok w w'
  by_cases h : 256 < l.length
  · exact big w hT A l cap hA hl hw c h
  · by_cases hg : Leap.good l = true
    · by_cases hc : Leap.cnt c
      · exact fine w hT A l cap hA hl hw c (by omega) hg hc
      · exact bad w hT A l cap hA hl hw c (by omega) (by unfold Leap.toL; rw [if_pos hg, if_neg hc]; show (30 : Int) ≠ 0; decide)
    · exact bad w hT A l cap hA hl hw c (by omega) (by unfold Leap.toL; rw [if_neg hg]; show (31 : Int) ≠ 0; decide)
theorem own : ownKnob Tryd.prog.godebug = none := by kernel_rfl
theorem laidOut : laidOutB Tryd.prog = true := by kernel_rfl
theorem laid_met (os : Os) : laidMet Tryd.prog Rows.leapBackRow.laid ((laidWorld os).forCall (fun _ _ => 0) ⟨#[], #[.slice none 0 0, .int .i64 0], []⟩).memory :=
  laidMet_of_run' 8 (by kernel_rfl) (by kernel_rfl)
theorem reads (os : Os) {H : Type} (enc : TypeId × Value → H) : ∃ places, DataW.whole enc Tryd.prog ((laidWorld os).forCall (fun _ _ => 0) ⟨#[], #[.slice none 0 0, .int .i64 0], []⟩).memory Tryd.f5.params.toList Rows.leapBackSpec.vars false (#[.slice none 0 0, .int .i64 0] : Array Value).toList 8 = some ([.nil, .lit (.int .i64 0)], [], places) :=
  ⟨[], by kernel_rfl⟩
set_option maxRecDepth 100000 in
theorem lifted (os : Os) (started : os.Started) (H : Type) (enc : TypeId × Value → H) (F : Stop.Interp) :
    ReturnsInHanded {} Tryd.checked os 5 .any ((OpenSpec.ofChange Rows.leapBackSpec).preRow enc Tryd.prog Tryd.f5 Rows.leapBackRow.domain false Rows.leapBackRow.laid) (((OpenSpec.ofChange Rows.leapBackSpec).at F).post enc Tryd.prog Tryd.f5 false true false false) := by
  obtain ⟨places, hx⟩ := reads os enc
  refine returnsInHanded_of_row (C := Tryd.checked) (s := OpenSpec.ofChange Rows.leapBackSpec) own started (by kernel_rfl) Tryd.func5
    (witness_row_at (enc := enc) (C := Tryd.checked) false (laidWorld os) #[.slice none 0 0, .int .i64 0] rfl (by kernel_rfl) (by kernel_rfl) (by kernel_rfl)
      (OpenSpec.preRow_of_cond 8 hx (by kernel_rfl) (fun k hk => by cases hk) (by kernel_rfl) (laid_met os))) ?_
  intro W base args ds gs before hval0 hW _ _ _ hL _ _
  have hval : ∀ (j : Nat) t v, Tryd.f5.params[j]? = some t → args[j]? = some v → Value.okWide Tryd.prog W .any base t v := hval0
  have hW' := hW
  obtain ⟨p, q, hA, hV, rfl, _, _⟩ := hW
  obtain ⟨rfl, rfl⟩ := trodVars_none hV
  replace hA : DataW.TrodAll enc Tryd.prog W 0 (fun _ => true) true Tryd.f5.params.toList args.toList ds p := hA
  rw [Tryd.params5] at hA hval
  obtain ⟨v0, vs0, d0, ds0, p0, q0, hargs, rfl, rfl, h0, r0⟩ := trodAll_cons hA
  obtain ⟨v1, vs1, d1, ds1, p1, q1, rfl, rfl, rfl, h1, r1⟩ := trodAll_cons r0
  obtain ⟨rfl, rfl, rfl⟩ := trodAll_nil r1
  obtain rfl : args = #[v0, v1] := by cases args; simp_all
  obtain ⟨A0, l0, c0, rfl, hA0, hl0, hw0⟩ := open_slice_pairs Tryd.underlying22 Tryd.underlying40 (by kernel_rfl) (by kernel_rfl) (by kernel_rfl) (by kernel_rfl) (hval 0 22 v0 rfl rfl) h0
  obtain ⟨a1, rfl, rfl, rfl, w1⟩ := open_int Tryd.underlying3 (hval 1 3 v1 rfl rfl) h1
  refine (walk W (tab_of hL) A0 l0 c0 hA0 hl0 hw0 a1 w1).mono fun e W' ⟨he, hb⟩ => ?_
  subst he
  exact ⟨_, rfl, law_post hW' laidOut (by rw [Tryd.params5]; exact params_ok (by kernel_rfl)) rfl (by kernel_rfl) Tryd.underlying4 rfl rfl rfl hb⟩
theorem said : Rows.LeapBackSaid :=
  OpenClaim.holds_of_cond 5 Tryd.f5 rfl rfl rfl rfl rfl rfl rfl ⟨rfl, rfl, rfl, rfl, rfl⟩ rfl rfl rfl rfl rfl (by kernel_rfl) Tryd.func5 (by kernel_rfl)
    (of_decide_eq_true (by kernel_rfl)) (by unfold Func.isWrapper; first | (rw [if_pos (by decide +kernel)]; kernel_rfl) | (rw [if_neg (by decide +kernel)]; exact ⟨rfl, rfl⟩))
    (fun os started H enc _ F => by rw [OpenClaim.pre_eq_preRow]; exact lifted os started H enc F)
theorem plain (f : FuncId) (fn : Func) (hf : Tryd.pinned.checked.prog.funcNamed "clepsydra/clepsydralaw18.LeapBack" = some f) (hfn : Tryd.pinned.checked.prog.funcs[f]? = some fn) :
    false = Tryd.pinned.checked.prog.looks [] ∧ ∀ (j : Nat) t, fn.params[j]? = some t → Tryd.pinned.checked.prog.wantsStandIn t = false := by
  obtain rfl : f = 5 := Option.some.inj ((show Tryd.prog.funcNamed "clepsydra/clepsydralaw18.LeapBack" = some 5 by kernel_rfl).symm.trans hf) |>.symm
  obtain rfl : fn = Tryd.f5 := (Option.some.inj (Tryd.func5.symm.trans hfn)).symm
  refine ⟨by kernel_rfl, fun j t ht => ?_⟩
  have hall : (Tryd.f5.params.toList.all fun u => !Tryd.prog.wantsStandIn u) = true := by kernel_rfl
  have hm : t ∈ Tryd.f5.params.toList := Array.mem_toList_iff.2 (Array.mem_of_getElem? ht)
  exact (show Tryd.prog.wantsStandIn t = false by simpa using List.all_eq_true.1 hall t hm)
theorem proved : Rows.LeapBackCardSaid :=
  Claim7.holds_tied_plain_at .later [] _ _ _ _ said (fun _ h => by cases h) (by kernel_rfl) (fun _ h => by cases h) leapBack_row_tie rfl ⟨rfl, rfl⟩ (by kernel_rfl) rfl plain (by kernel_rfl)
end Go.Proofs.YtacphjdkobodnaaDoor.leapBack
