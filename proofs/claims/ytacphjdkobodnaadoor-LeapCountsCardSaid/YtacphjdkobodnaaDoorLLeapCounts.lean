/- LeapCounts: for every table and every label the law answers true: ToCount answers the count whose label it is, or that there is none. The row lists the table of the months' days (civil.lengths), tied to the program's text. No other condition. -/
import Derived.Test.YtacphjdkobodnaaDoorC18j
namespace Go.Proofs.YtacphjdkobodnaaDoor.leapCounts
open Go.ChangeShapes Go.WideShapes Go.ChangeAt Go.RowKit
set_option linter.unusedVariables false
set_option maxRecDepth 100000
attribute [local go_sem ↓] Go.wp_at_zero Go.wp_at_succ
theorem big (w : World) (hT : Tab w) (A : Option Addr) (l : List (Int × Int)) (cap : Nat) (hA : PairsAt w A l) (hl : l.length ≤ 9223372036854775807) (hw : ∀ s ∈ l, (Lit.int .i64 s.1).wf = true ∧ (Lit.int .i64 s.2).wf = true) (y mo d hh mi se : Int) (h : 256 < l.length) : Calls Tryd.prog 4 #[.slice A l.length cap, .agg #[.int .i64 y, .int .i64 mo, .int .i64 d, .int .i64 hh, .int .i64 mi, .int .i64 se]] w fun e w' => e = .returned (.bool true) ∧ Ok w w' := by
  clear hw
  have hX := Own.new w #[.int .i64 y, .int .i64 mo, .int .i64 d, .int .i64 hh, .int .i64 mi, .int .i64 se] 26 rfl
  have hok := (Ok.refl w).alloc (.cells #[.int .i64 y, .int .i64 mo, .int .i64 d, .int .i64 hh, .int .i64 mi, .int .i64 se] 26)
  replace hT := hT.next hok
  replace hA := hA.below hok
  have x0 := hX.cell 0 rfl; have x1 := hX.cell 1 rfl; have x2 := hX.cell 2 rfl; have x3 := hX.cell 3 rfl; have x4 := hX.cell 4 rfl; have x5 := hX.cell 5 rfl; have xl := hX.lt
  go_enter Tryd.func4, Tryd.ntmps4
  go_upto_region 1 with fail
  generalize w.alloc (.cells #[.int .i64 y, .int .i64 mo, .int .i64 d, .int .i64 hh, .int .i64 mi, .int .i64 se] 26) = W at *
  generalize w.heap.size = g at *
  go_wp2_with (go_at_call 10; refine (law18Alive _ hT).mono ?_; rintro e w1 ⟨rfl, hb1⟩; replace hX := hX.next hb1; replace hT := hT.next hb1; replace hA := hA.below hb1; replace hok := hok.trans hb1; clear hb1; clear x0 x1 x2 x3 x4 x5 xl; have x0 := hX.cell 0 rfl; have x1 := hX.cell 1 rfl; have x2 := hX.cell 2 rfl; have x3 := hX.cell 3 rfl; have x4 := hX.cell 4 rfl; have x5 := hX.cell 5 rfl; have xl := hX.lt)
  go_ret
  exact ⟨rfl, hok⟩
set_option maxHeartbeats 1600000 in
theorem bad (w : World) (hT : Tab w) (A : Option Addr) (l : List (Int × Int)) (cap : Nat) (hA : PairsAt w A l) (hl : l.length ≤ 9223372036854775807) (hw : ∀ s ∈ l, (Lit.int .i64 s.1).wf = true ∧ (Lit.int .i64 s.2).wf = true) (y mo d hh mi se : Int) (h : l.length ≤ 256) (hg : Leap.good l = false) : Calls Tryd.prog 4 #[.slice A l.length cap, .agg #[.int .i64 y, .int .i64 mo, .int .i64 d, .int .i64 hh, .int .i64 mi, .int .i64 se]] w fun e w' => e = .returned (.bool true) ∧ Ok w w' := by
  have K1 := Lib.hid fun w hT h => leapToCount A l cap ⟨y, mo, d, hh, mi, se⟩ w hT h hl
  have KR := Lib.hid fun w h => ref18Good A l cap w h hl
  clear hw
  rw [hg] at KR
  rw [Leap.toC_bad hg] at K1
  simp only [lbV] at K1
  clear hg
  have hX := Own.new w #[.int .i64 y, .int .i64 mo, .int .i64 d, .int .i64 hh, .int .i64 mi, .int .i64 se] 26 rfl
  have hok := (Ok.refl w).alloc (.cells #[.int .i64 y, .int .i64 mo, .int .i64 d, .int .i64 hh, .int .i64 mi, .int .i64 se] 26)
  replace hT := hT.next hok
  replace hA := hA.below hok
  have x0 := hX.cell 0 rfl; have x1 := hX.cell 1 rfl; have x2 := hX.cell 2 rfl; have x3 := hX.cell 3 rfl; have x4 := hX.cell 4 rfl; have x5 := hX.cell 5 rfl; have xl := hX.lt
  go_enter Tryd.func4, Tryd.ntmps4
  go_upto_region 1 with fail
  generalize w.alloc (.cells #[.int .i64 y, .int .i64 mo, .int .i64 d, .int .i64 hh, .int .i64 mi, .int .i64 se] 26) = W at *
  generalize w.heap.size = g at *
  go_wp2_with (first | (go_at_call 10; refine (law18Alive _ hT).mono ?_; rintro e w1 ⟨rfl, hb1⟩; replace hX := hX.next hb1; replace hT := hT.next hb1; replace hA := hA.below hb1; replace hok := hok.trans hb1; clear hb1; clear x0 x1 x2 x3 x4 x5 xl; have x0 := hX.cell 0 rfl; have x1 := hX.cell 1 rfl; have x2 := hX.cell 2 rfl; have x3 := hX.cell 3 rfl; have x4 := hX.cell 4 rfl; have x5 := hX.cell 5 rfl; have xl := hX.lt) | (go_at_call 15; (with_reducible refine (K1.out _ hT hA).mono ?_); rintro e w2 ⟨rfl, hb1⟩; replace hX := hX.next hb1; replace hT := hT.next hb1; replace hA := hA.below hb1; replace hok := hok.trans hb1; clear hb1; clear x0 x1 x2 x3 x4 x5 xl; have x0 := hX.cell 0 rfl; have x1 := hX.cell 1 rfl; have x2 := hX.cell 2 rfl; have x3 := hX.cell 3 rfl; have x4 := hX.cell 4 rfl; have x5 := hX.cell 5 rfl; have xl := hX.lt) | (go_at_call 11; (with_reducible refine (KR.out _ hA).mono ?_); rintro e w2 ⟨rfl, hb1⟩; replace hX := hX.next hb1; replace hT := hT.next hb1; replace hA := hA.below hb1; replace hok := hok.trans hb1; clear hb1; clear x0 x1 x2 x3 x4 x5 xl; have x0 := hX.cell 0 rfl; have x1 := hX.cell 1 rfl; have x2 := hX.cell 2 rfl; have x3 := hX.cell 3 rfl; have x4 := hX.cell 4 rfl; have x5 := hX.cell 5 rfl; have xl := hX.lt))
  go_ret
  exact ⟨rfl, hok⟩
set_option maxHeartbeats 1600000 in
theorem one (w : World) (hT : Tab w) (A : Option Addr) (l : List (Int × Int)) (cap : Nat) (hA : PairsAt w A l) (hl : l.length ≤ 9223372036854775807) (hw : ∀ s ∈ l, (Lit.int .i64 s.1).wf = true ∧ (Lit.int .i64 s.2).wf = true) (y mo d hh mi se : Int) (h : l.length ≤ 256) (hg : Leap.good l = true) (hx : Leap.lbl l (Leap.fnd l ⟨y, mo, d, hh, mi, se⟩) = ⟨y, mo, d, hh, mi, se⟩) : Calls Tryd.prog 4 #[.slice A l.length cap, .agg #[.int .i64 y, .int .i64 mo, .int .i64 d, .int .i64 hh, .int .i64 mi, .int .i64 se]] w fun e w' => e = .returned (.bool true) ∧ Ok w w' := by
  have K1 := Lib.hid fun w hT h => leapToCount A l cap ⟨y, mo, d, hh, mi, se⟩ w hT h hl
  have KR := Lib.hid fun w h => ref18Good A l cap w h hl
  clear hw
  have K2 := Lib.hid fun w h => ref18Count A l cap ⟨y, mo, d, hh, mi, se⟩ w h hg
  rw [decide_eq_true hx] at K2
  rw [hg] at KR
  rw [Leap.toC_fnd hg, if_pos hx] at K1
  generalize Leap.fnd l ⟨y, mo, d, hh, mi, se⟩ = n at K1 K2
  simp only [lbV] at K1 K2
  clear hg hx
  have hX := Own.new w #[.int .i64 y, .int .i64 mo, .int .i64 d, .int .i64 hh, .int .i64 mi, .int .i64 se] 26 rfl
  have hok := (Ok.refl w).alloc (.cells #[.int .i64 y, .int .i64 mo, .int .i64 d, .int .i64 hh, .int .i64 mi, .int .i64 se] 26)
  replace hT := hT.next hok
  replace hA := hA.below hok
  have x0 := hX.cell 0 rfl; have x1 := hX.cell 1 rfl; have x2 := hX.cell 2 rfl; have x3 := hX.cell 3 rfl; have x4 := hX.cell 4 rfl; have x5 := hX.cell 5 rfl; have xl := hX.lt
  go_enter Tryd.func4, Tryd.ntmps4
  go_upto_region 1 with fail
  generalize w.alloc (.cells #[.int .i64 y, .int .i64 mo, .int .i64 d, .int .i64 hh, .int .i64 mi, .int .i64 se] 26) = W at *
  generalize w.heap.size = g at *
  go_wp2_with (first | (go_at_call 10; refine (law18Alive _ hT).mono ?_; rintro e w1 ⟨rfl, hb1⟩; replace hX := hX.next hb1; replace hT := hT.next hb1; replace hA := hA.below hb1; replace hok := hok.trans hb1; clear hb1; clear x0 x1 x2 x3 x4 x5 xl; have x0 := hX.cell 0 rfl; have x1 := hX.cell 1 rfl; have x2 := hX.cell 2 rfl; have x3 := hX.cell 3 rfl; have x4 := hX.cell 4 rfl; have x5 := hX.cell 5 rfl; have xl := hX.lt) | (go_at_call 15; (with_reducible refine (K1.out _ hT hA).mono ?_); rintro e w2 ⟨rfl, hb1⟩; replace hX := hX.next hb1; replace hT := hT.next hb1; replace hA := hA.below hb1; replace hok := hok.trans hb1; clear hb1; clear x0 x1 x2 x3 x4 x5 xl; have x0 := hX.cell 0 rfl; have x1 := hX.cell 1 rfl; have x2 := hX.cell 2 rfl; have x3 := hX.cell 3 rfl; have x4 := hX.cell 4 rfl; have x5 := hX.cell 5 rfl; have xl := hX.lt) | (go_at_call 11; (with_reducible refine (KR.out _ hA).mono ?_); rintro e w2 ⟨rfl, hb1⟩; replace hX := hX.next hb1; replace hT := hT.next hb1; replace hA := hA.below hb1; replace hok := hok.trans hb1; clear hb1; clear x0 x1 x2 x3 x4 x5 xl; have x0 := hX.cell 0 rfl; have x1 := hX.cell 1 rfl; have x2 := hX.cell 2 rfl; have x3 := hX.cell 3 rfl; have x4 := hX.cell 4 rfl; have x5 := hX.cell 5 rfl; have xl := hX.lt) | (go_at_call 16; (with_reducible refine (K2.out _ hA).mono ?_); rintro e w2 ⟨rfl, hb1⟩; replace hok := hok.trans hb1; clear hb1))
  go_ret
  exact ⟨by simp, hok⟩
set_option maxHeartbeats 1600000 in
theorem lost (w : World) (hT : Tab w) (A : Option Addr) (l : List (Int × Int)) (cap : Nat) (hA : PairsAt w A l) (hl : l.length ≤ 9223372036854775807) (hw : ∀ s ∈ l, (Lit.int .i64 s.1).wf = true ∧ (Lit.int .i64 s.2).wf = true) (y mo d hh mi se : Int) (h : l.length ≤ 256) (hg : Leap.good l = true) (hx : ¬ Leap.lbl l (Leap.fnd l ⟨y, mo, d, hh, mi, se⟩) = ⟨y, mo, d, hh, mi, se⟩) : Calls Tryd.prog 4 #[.slice A l.length cap, .agg #[.int .i64 y, .int .i64 mo, .int .i64 d, .int .i64 hh, .int .i64 mi, .int .i64 se]] w fun e w' => e = .returned (.bool true) ∧ Ok w w' := by
  have K1 := Lib.hid fun w hT h => leapToCount A l cap ⟨y, mo, d, hh, mi, se⟩ w hT h hl
  have KR := Lib.hid fun w h => ref18Good A l cap w h hl
  clear hw
  have K2 := Lib.hid fun w h => ref18Count A l cap ⟨y, mo, d, hh, mi, se⟩ w h hg
  rw [decide_eq_false hx] at K2
  rw [hg] at KR
  rw [Leap.toC_fnd hg, if_neg hx] at K1
  generalize Leap.fnd l ⟨y, mo, d, hh, mi, se⟩ = n at K1 K2
  simp only [lbV] at K1 K2
  clear hg hx
  have hX := Own.new w #[.int .i64 y, .int .i64 mo, .int .i64 d, .int .i64 hh, .int .i64 mi, .int .i64 se] 26 rfl
  have hok := (Ok.refl w).alloc (.cells #[.int .i64 y, .int .i64 mo, .int .i64 d, .int .i64 hh, .int .i64 mi, .int .i64 se] 26)
  replace hT := hT.next hok
  replace hA := hA.below hok
  have x0 := hX.cell 0 rfl; have x1 := hX.cell 1 rfl; have x2 := hX.cell 2 rfl; have x3 := hX.cell 3 rfl; have x4 := hX.cell 4 rfl; have x5 := hX.cell 5 rfl; have xl := hX.lt
  go_enter Tryd.func4, Tryd.ntmps4
  go_upto_region 1 with fail
  generalize w.alloc (.cells #[.int .i64 y, .int .i64 mo, .int .i64 d, .int .i64 hh, .int .i64 mi, .int .i64 se] 26) = W at *
  generalize w.heap.size = g at *
  go_wp2_with (first | (go_at_call 10; refine (law18Alive _ hT).mono ?_; rintro e w1 ⟨rfl, hb1⟩; replace hX := hX.next hb1; replace hT := hT.next hb1; replace hA := hA.below hb1; replace hok := hok.trans hb1; clear hb1; clear x0 x1 x2 x3 x4 x5 xl; have x0 := hX.cell 0 rfl; have x1 := hX.cell 1 rfl; have x2 := hX.cell 2 rfl; have x3 := hX.cell 3 rfl; have x4 := hX.cell 4 rfl; have x5 := hX.cell 5 rfl; have xl := hX.lt) | (go_at_call 15; (with_reducible refine (K1.out _ hT hA).mono ?_); rintro e w2 ⟨rfl, hb1⟩; replace hX := hX.next hb1; replace hT := hT.next hb1; replace hA := hA.below hb1; replace hok := hok.trans hb1; clear hb1; clear x0 x1 x2 x3 x4 x5 xl; have x0 := hX.cell 0 rfl; have x1 := hX.cell 1 rfl; have x2 := hX.cell 2 rfl; have x3 := hX.cell 3 rfl; have x4 := hX.cell 4 rfl; have x5 := hX.cell 5 rfl; have xl := hX.lt) | (go_at_call 11; (with_reducible refine (KR.out _ hA).mono ?_); rintro e w2 ⟨rfl, hb1⟩; replace hX := hX.next hb1; replace hT := hT.next hb1; replace hA := hA.below hb1; replace hok := hok.trans hb1; clear hb1; clear x0 x1 x2 x3 x4 x5 xl; have x0 := hX.cell 0 rfl; have x1 := hX.cell 1 rfl; have x2 := hX.cell 2 rfl; have x3 := hX.cell 3 rfl; have x4 := hX.cell 4 rfl; have x5 := hX.cell 5 rfl; have xl := hX.lt) | (go_at_call 16; (with_reducible refine (K2.out _ hA).mono ?_); rintro e w2 ⟨rfl, hb1⟩; replace hok := hok.trans hb1; clear hb1))
  go_ret
  exact ⟨rfl, hok⟩
theorem walk (w : World) (hT : Tab w) (A : Option Addr) (l : List (Int × Int)) (cap : Nat) (hA : PairsAt w A l) (hl : l.length ≤ 9223372036854775807) (hw : ∀ s ∈ l, (Lit.int .i64 s.1).wf = true ∧ (Lit.int .i64 s.2).wf = true) (y mo d hh mi se : Int) (wf0 : (Lit.int .i64 y).wf = true) (wf1 : (Lit.int .i64 mo).wf = true) (wf2 : (Lit.int .i64 d).wf = true) (wf3 : (Lit.int .i64 hh).wf = true) (wf4 : (Lit.int .i64 mi).wf = true) (wf5 : (Lit.int .i64 se).wf = true) : Calls Tryd.prog 4 #[.slice A l.length cap, .agg #[.int .i64 y, .int .i64 mo, .int .i64 d, .int .i64 hh, .int .i64 mi, .int .i64 se]] w fun e w' => e = .returned (.bool true) ∧ Below w.heap.size w w' := by
  show Calls Tryd.prog 4 #[.slice A l.length cap, .agg #[.int .i64 y, .int .i64 mo, .int .i64 d, .int .i64 hh, .int .i64 mi, .int .i64 se]] w fun e w' => e = .returned (.bool true) ∧ Ok w w'
  by_cases h : 256 < l.length
  · exact big w hT A l cap hA hl hw y mo d hh mi se h
  · by_cases hg : Leap.good l = true
    · by_cases hx : Leap.lbl l (Leap.fnd l ⟨y, mo, d, hh, mi, se⟩) = ⟨y, mo, d, hh, mi, se⟩
      · exact one w hT A l cap hA hl hw y mo d hh mi se (by omega) hg hx
      · exact lost w hT A l cap hA hl hw y mo d hh mi se (by omega) hg hx
    · exact bad w hT A l cap hA hl hw y mo d hh mi se (by omega) (by simpa using hg)
theorem own : ownKnob Tryd.prog.godebug = none := by kernel_rfl
theorem laidOut : laidOutB Tryd.prog = true := by kernel_rfl
theorem laid_met (os : Os) : laidMet Tryd.prog Rows.leapCountsRow.laid ((laidWorld os).forCall (fun _ _ => 0) ⟨#[], #[.slice none 0 0, .agg #[.int .i64 0, .int .i64 0, .int .i64 0, .int .i64 0, .int .i64 0, .int .i64 0]], []⟩).memory :=
  laidMet_of_run' 8 (by kernel_rfl) (by kernel_rfl)
theorem reads (os : Os) {H : Type} (enc : TypeId × Value → H) : ∃ places, DataW.whole enc Tryd.prog ((laidWorld os).forCall (fun _ _ => 0) ⟨#[], #[.slice none 0 0, .agg #[.int .i64 0, .int .i64 0, .int .i64 0, .int .i64 0, .int .i64 0, .int .i64 0]], []⟩).memory Tryd.f4.params.toList Rows.leapCountsSpec.vars false (#[.slice none 0 0, .agg #[.int .i64 0, .int .i64 0, .int .i64 0, .int .i64 0, .int .i64 0, .int .i64 0]] : Array Value).toList 8 = some ([.nil, .agg [.lit (.int .i64 0), .lit (.int .i64 0), .lit (.int .i64 0), .lit (.int .i64 0), .lit (.int .i64 0), .lit (.int .i64 0)]], [], places) :=
  ⟨[], by kernel_rfl⟩
set_option maxRecDepth 100000 in
theorem lifted (os : Os) (started : os.Started) (H : Type) (enc : TypeId × Value → H) (F : Stop.Interp) :
    ReturnsInHanded {} Tryd.checked os 4 .any ((OpenSpec.ofChange Rows.leapCountsSpec).preRow enc Tryd.prog Tryd.f4 Rows.leapCountsRow.domain false Rows.leapCountsRow.laid) (((OpenSpec.ofChange Rows.leapCountsSpec).at F).post enc Tryd.prog Tryd.f4 false true false false) := by
  obtain ⟨places, hx⟩ := reads os enc
  refine returnsInHanded_of_row (C := Tryd.checked) (s := OpenSpec.ofChange Rows.leapCountsSpec) own started (by kernel_rfl) Tryd.func4
    (witness_row_at (enc := enc) (C := Tryd.checked) false (laidWorld os) #[.slice none 0 0, .agg #[.int .i64 0, .int .i64 0, .int .i64 0, .int .i64 0, .int .i64 0, .int .i64 0]] rfl (by kernel_rfl) (by kernel_rfl) (by kernel_rfl)
      (OpenSpec.preRow_of_cond 8 hx (by kernel_rfl) (fun k hk => by cases hk) (by kernel_rfl) (laid_met os))) ?_
  intro W base args ds gs before hval0 hW _ _ _ hL _ _
  have hval : ∀ (j : Nat) t v, Tryd.f4.params[j]? = some t → args[j]? = some v → Value.okWide Tryd.prog W .any base t v := hval0
  have hW' := hW
  obtain ⟨p, q, hA, hV, rfl, _, _⟩ := hW
  obtain ⟨rfl, rfl⟩ := trodVars_none hV
  replace hA : DataW.TrodAll enc Tryd.prog W 0 (fun _ => true) true Tryd.f4.params.toList args.toList ds p := hA
  rw [Tryd.params4] at hA hval
  obtain ⟨v0, vs0, d0, ds0, p0, q0, hargs, rfl, rfl, h0, r0⟩ := trodAll_cons hA
  obtain ⟨v1, vs1, d1, ds1, p1, q1, rfl, rfl, rfl, h1, r1⟩ := trodAll_cons r0
  obtain ⟨rfl, rfl, rfl⟩ := trodAll_nil r1
  obtain rfl : args = #[v0, v1] := by cases args; simp_all
  obtain ⟨A0, l0, c0, rfl, hA0, hl0, hw0⟩ := open_slice_pairs Tryd.underlying22 Tryd.underlying40 (by kernel_rfl) (by kernel_rfl) (by kernel_rfl) (by kernel_rfl) (hval 0 22 v0 rfl rfl) h0
  obtain ⟨s1_0, s1_1, s1_2, s1_3, s1_4, s1_5, rfl, ws1_0, ws1_1, ws1_2, ws1_3, ws1_4, ws1_5⟩ := open_six Tryd.underlying26 (by kernel_rfl) (by kernel_rfl) (by kernel_rfl) (by kernel_rfl) (by kernel_rfl) (by kernel_rfl) (by kernel_rfl) (by kernel_rfl) (hval 1 26 v1 rfl rfl) h1
  refine (walk W (tab_of hL) A0 l0 c0 hA0 hl0 hw0 s1_0 s1_1 s1_2 s1_3 s1_4 s1_5 ws1_0 ws1_1 ws1_2 ws1_3 ws1_4 ws1_5).mono fun e W' ⟨he, hb⟩ => ?_
  subst he
  exact ⟨_, rfl, law_post hW' laidOut (by rw [Tryd.params4]; exact params_ok (by kernel_rfl)) rfl (by kernel_rfl) Tryd.underlying4 rfl rfl rfl hb⟩
theorem said : Rows.LeapCountsSaid :=
  OpenClaim.holds_of_cond 4 Tryd.f4 rfl rfl rfl rfl rfl rfl rfl ⟨rfl, rfl, rfl, rfl, rfl⟩ rfl rfl rfl rfl rfl (by kernel_rfl) Tryd.func4 (by kernel_rfl)
    (of_decide_eq_true (by kernel_rfl)) (by unfold Func.isWrapper; first | (rw [if_pos (by decide +kernel)]; kernel_rfl) | (rw [if_neg (by decide +kernel)]; exact ⟨rfl, rfl⟩))
    (fun os started H enc _ F => by rw [OpenClaim.pre_eq_preRow]; exact lifted os started H enc F)
theorem plain (f : FuncId) (fn : Func) (hf : Tryd.pinned.checked.prog.funcNamed "clepsydra/clepsydralaw18.LeapCounts" = some f) (hfn : Tryd.pinned.checked.prog.funcs[f]? = some fn) :
    false = Tryd.pinned.checked.prog.looks [] ∧ ∀ (j : Nat) t, fn.params[j]? = some t → Tryd.pinned.checked.prog.wantsStandIn t = false := by
  obtain rfl : f = 4 := Option.some.inj ((show Tryd.prog.funcNamed "clepsydra/clepsydralaw18.LeapCounts" = some 4 by kernel_rfl).symm.trans hf) |>.symm
  obtain rfl : fn = Tryd.f4 := (Option.some.inj (Tryd.func4.symm.trans hfn)).symm
  refine ⟨by kernel_rfl, fun j t ht => ?_⟩
  have hall : (Tryd.f4.params.toList.all fun u => !Tryd.prog.wantsStandIn u) = true := by kernel_rfl
  have hm : t ∈ Tryd.f4.params.toList := Array.mem_toList_iff.2 (Array.mem_of_getElem? ht)
  exact (show Tryd.prog.wantsStandIn t = false by simpa using List.all_eq_true.1 hall t hm)
theorem proved : Rows.LeapCountsCardSaid :=
  Claim7.holds_tied_plain_at .later [] _ _ _ _ said (fun _ h => by cases h) (by kernel_rfl) (fun _ h => by cases h) leapCounts_row_tie rfl ⟨rfl, rfl⟩ (by kernel_rfl) rfl plain (by kernel_rfl)
end Go.Proofs.YtacphjdkobodnaaDoor.leapCounts
