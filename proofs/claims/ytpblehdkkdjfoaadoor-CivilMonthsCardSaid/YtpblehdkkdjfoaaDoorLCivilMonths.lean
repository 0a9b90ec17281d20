/- CivilMonths: for every year and every month the law answers true: Leap and Days answer what the document says. The row lists the table of the months' days (civil.lengths), tied to the program's text. No other condition. -/
import Derived.Test.YtpblehdkkdjfoaaDoorC17e
namespace Go.Proofs.YtpblehdkkdjfoaaDoor.civilMonths
open Go.ChangeShapes Go.WideShapes Go.ChangeAt Go.RowKit
set_option linter.unusedVariables false
set_option maxRecDepth 100000
theorem walk (w : World) (hT : Tab w) (y : Int) (w0 : (Lit.int .i64 y).wf = true) (m : Int) (w1 : (Lit.int .i64 m).wf = true) :
    Calls Tryd.prog 3 #[.int .i64 y, .int .i64 m] w fun e w' => e = .returned (.bool true) ∧ Below w.heap.size w w' := by
  show Calls Tryd.prog 3 #[.int .i64 y, .int .i64 m] w fun e w' => e = .returned (.bool true) ∧ Ok w w'
  have hok := Ok.refl w
  clear w0 w1
  have L1 := Lib.hid (civilLeap 2000)
  have L2 := Lib.hid (civilLeap 1900)
  have L3 := Lib.hid (civilDays 2023 2)
  rw [show Civil.isLeap 2000 = true by decide] at L1
  rw [show Civil.isLeap 1900 = false by decide] at L2
  rw [show Civil.days 2023 2 = 28 by decide] at L3
  have KA := Lib.hid (civilLeap y)
  have KB := Lib.hid (ref17Leap y)
  have KC := Lib.hid (civilDays y m)
  have KD := Lib.hid (ref17Days y m)
  have hb := Civil.days_le y m
  generalize Civil.days y m = D at *
  generalize Civil.isLeap y = q at *
  go_enter Tryd.func3, Tryd.ntmps3
  go_wp2_with (first
    | (go_at_call 9; first | ((with_reducible refine (L1.out _).mono ?_); rintro e w2 ⟨rfl, rfl⟩) | ((with_reducible refine (L2.out _).mono ?_); rintro e w2 ⟨rfl, rfl⟩) | ((with_reducible refine (KA.out _).mono ?_); rintro e w2 ⟨rfl, rfl⟩))
    | (go_at_call 11; refine (KB.out _).mono ?_; rintro e w2 ⟨rfl, rfl⟩)
    | (go_at_call 10; first | ((with_reducible refine (L3.out _ hT).mono ?_); rintro e w2 ⟨rfl, hb1⟩; replace hok := hok.trans hb1; replace hT := hT.next hb1; clear hb1) | ((with_reducible refine (KC.out _ hT).mono ?_); rintro e w2 ⟨rfl, hb1⟩; replace hok := hok.trans hb1; replace hT := hT.next hb1; clear hb1))
    | (go_at_call 12; refine (KD.out _).mono ?_; rintro e w2 ⟨rfl, hb1⟩; replace hok := hok.trans hb1; replace hT := hT.next hb1; clear hb1))
  all_goals
    go_ret
    exact ⟨by simp, hok⟩
theorem own : ownKnob Tryd.prog.godebug = none := by kernel_rfl
theorem laidOut : laidOutB Tryd.prog = true := by kernel_rfl
theorem laid_met (os : Os) : laidMet Tryd.prog Rows.civilMonthsRow.laid ((laidWorld os).forCall (fun _ _ => 0) ⟨#[], #[.int .i64 0, .int .i64 0], []⟩).memory :=
  laidMet_of_run' 8 (by kernel_rfl) (by kernel_rfl)
theorem reads (os : Os) {H : Type} (enc : TypeId × Value → H) : ∃ places, DataW.whole enc Tryd.prog ((laidWorld os).forCall (fun _ _ => 0) ⟨#[], #[.int .i64 0, .int .i64 0], []⟩).memory Tryd.f3.params.toList Rows.civilMonthsSpec.vars false (#[.int .i64 0, .int .i64 0] : Array Value).toList 8 = some ([.lit (.int .i64 0), .lit (.int .i64 0)], [], places) :=
  ⟨[], by kernel_rfl⟩
set_option maxRecDepth 100000 in
theorem lifted (os : Os) (started : os.Started) (H : Type) (enc : TypeId × Value → H) (F : Stop.Interp) :
    ReturnsInHanded {} Tryd.checked os 3 .any ((OpenSpec.ofChange Rows.civilMonthsSpec).preRow enc Tryd.prog Tryd.f3 Rows.civilMonthsRow.domain false Rows.civilMonthsRow.laid) (((OpenSpec.ofChange Rows.civilMonthsSpec).at F).post enc Tryd.prog Tryd.f3 false true false false) := by
  obtain ⟨places, hx⟩ := reads os enc
  refine returnsInHanded_of_row (C := Tryd.checked) (s := OpenSpec.ofChange Rows.civilMonthsSpec) own started (by kernel_rfl) Tryd.func3
    (witness_row_at (enc := enc) (C := Tryd.checked) false (laidWorld os) #[.int .i64 0, .int .i64 0] rfl (by kernel_rfl) (by kernel_rfl) (by kernel_rfl)
      (OpenSpec.preRow_of_cond 8 hx (by kernel_rfl) (fun k hk => by cases hk) (by kernel_rfl) (laid_met os))) ?_
  intro W base args ds gs before hval0 hW _ _ _ hL _ _
  have hval : ∀ (j : Nat) t v, Tryd.f3.params[j]? = some t → args[j]? = some v → Value.okWide Tryd.prog W .any base t v := hval0
  have hW' := hW
  obtain ⟨p, q, hA, hV, rfl, _, _⟩ := hW
  obtain ⟨rfl, rfl⟩ := trodVars_none hV
  replace hA : DataW.TrodAll enc Tryd.prog W 0 (fun _ => true) true Tryd.f3.params.toList args.toList ds p := hA
  rw [Tryd.params3] at hA hval
  obtain ⟨v0, vs0, d0, ds0, p0, q0, hargs, rfl, rfl, h0, r0⟩ := trodAll_cons hA
  obtain ⟨v1, vs1, d1, ds1, p1, q1, rfl, rfl, rfl, h1, r1⟩ := trodAll_cons r0
  obtain ⟨rfl, rfl, rfl⟩ := trodAll_nil r1
  obtain rfl : args = #[v0, v1] := by cases args; simp_all
  obtain ⟨a0, rfl, rfl, rfl, w0⟩ := open_int Tryd.underlying3 (hval 0 3 v0 rfl rfl) h0
  obtain ⟨a1, rfl, rfl, rfl, w1⟩ := open_int Tryd.underlying3 (hval 1 3 v1 rfl rfl) h1
  refine (walk W (tab_of hL) a0 w0 a1 w1).mono fun e W' ⟨he, hb⟩ => ?_
  subst he
  exact ⟨_, rfl, law_post hW' laidOut (by rw [Tryd.params3]; exact params_ok (by kernel_rfl)) rfl (by kernel_rfl) Tryd.underlying4 rfl rfl rfl hb⟩
theorem said : Rows.CivilMonthsSaid :=
  OpenClaim.holds_of_cond 3 Tryd.f3 rfl rfl rfl rfl rfl rfl rfl ⟨rfl, rfl, rfl, rfl, rfl⟩ rfl rfl rfl rfl rfl (by kernel_rfl) Tryd.func3 (by kernel_rfl)
    (of_decide_eq_true (by kernel_rfl)) (by unfold Func.isWrapper; first | (rw [if_pos (by decide +kernel)]; kernel_rfl) | (rw [if_neg (by decide +kernel)]; exact ⟨rfl, rfl⟩))
    (fun os started H enc _ F => by rw [OpenClaim.pre_eq_preRow]; exact lifted os started H enc F)
theorem plain (f : FuncId) (fn : Func) (hf : Tryd.pinned.checked.prog.funcNamed "clepsydra/clepsydralaw17.CivilMonths" = some f) (hfn : Tryd.pinned.checked.prog.funcs[f]? = some fn) :
    false = Tryd.pinned.checked.prog.looks [] ∧ ∀ (j : Nat) t, fn.params[j]? = some t → Tryd.pinned.checked.prog.wantsStandIn t = false := by
  obtain rfl : f = 3 := Option.some.inj ((show Tryd.prog.funcNamed "clepsydra/clepsydralaw17.CivilMonths" = some 3 by kernel_rfl).symm.trans hf) |>.symm
  obtain rfl : fn = Tryd.f3 := (Option.some.inj (Tryd.func3.symm.trans hfn)).symm
  refine ⟨by kernel_rfl, fun j t ht => ?_⟩
  have hall : (Tryd.f3.params.toList.all fun u => !Tryd.prog.wantsStandIn u) = true := by kernel_rfl
  have hm : t ∈ Tryd.f3.params.toList := Array.mem_toList_iff.2 (Array.mem_of_getElem? ht)
  exact (show Tryd.prog.wantsStandIn t = false by simpa using List.all_eq_true.1 hall t hm)
theorem proved : Rows.CivilMonthsCardSaid :=
  Claim7.holds_tied_plain_at .later [] _ _ _ _ said (fun _ h => by cases h) (by kernel_rfl) (fun _ h => by cases h) civilMonths_row_tie rfl ⟨rfl, rfl⟩ (by kernel_rfl) rfl plain (by kernel_rfl)
end Go.Proofs.YtpblehdkkdjfoaaDoor.civilMonths
