/- CivilDates: for every number the law answers true: Date answers what the document says. The row lists the table of the months' days (civil.lengths), tied to the program's text. No other condition. -/
import Derived.Test.YtpblehdkkdjfoaaDoorC17e
namespace Go.Proofs.YtpblehdkkdjfoaaDoor.civilDates
open Go.ChangeShapes Go.WideShapes Go.ChangeAt Go.RowKit
set_option linter.unusedVariables false
set_option maxRecDepth 100000
set_option maxHeartbeats 1600000 in
theorem yes (w : World) (hT : Tab w) (n : Int) (y m d : Int) (hn : Civil.inn n) (h : Civil.Is n y m d) :
    Calls Tryd.prog 5 #[.int .i64 n] w fun e w' => e = .returned (.bool true) ∧ Ok w w' := by
  have hok := Ok.refl w
  have KL := Lib.hid law17Alive
  have KA := Lib.hid fun w hT => civilDate n y m d w hT hn h
  have KB := Lib.hid fun w => ref17Date n y m d w hn h
  clear hn h
  go_enter Tryd.func5, Tryd.ntmps5
  go_wp2_with (first | (go_at_call 13; first | ((with_reducible refine (KL.out _ hT).mono ?_); rintro e w2 ⟨rfl, hb1⟩; replace hok := hok.trans hb1; replace hT := hT.next hb1; clear hb1)) | (go_at_call 16; first | ((with_reducible refine (KA.out _ hT).mono ?_); rintro e w2 ⟨rfl, hb1⟩; replace hok := hok.trans hb1; replace hT := hT.next hb1; clear hb1)) | (go_at_call 17; first | ((with_reducible refine (KB.out _).mono ?_); rintro e w2 ⟨rfl, hb1⟩; replace hok := hok.trans hb1; replace hT := hT.next hb1; clear hb1)))
  all_goals
    go_ret
    first | exact ⟨rfl, hok⟩ | exact ⟨by simp, hok⟩
set_option maxHeartbeats 1600000 in
theorem no (w : World) (hT : Tab w) (n : Int) (hn : ¬ Civil.inn n) :
    Calls Tryd.prog 5 #[.int .i64 n] w fun e w' => e = .returned (.bool true) ∧ Ok w w' := by
  have hok := Ok.refl w
  have KL := Lib.hid law17Alive
  have KA := Lib.hid fun w => civilDateNo n w hn
  have KB := Lib.hid fun w => ref17DateNo n w hn
  clear hn
  go_enter Tryd.func5, Tryd.ntmps5
  go_wp2_with (first | (go_at_call 13; first | ((with_reducible refine (KL.out _ hT).mono ?_); rintro e w2 ⟨rfl, hb1⟩; replace hok := hok.trans hb1; replace hT := hT.next hb1; clear hb1)) | (go_at_call 16; first | ((with_reducible refine (KA.out _).mono ?_); rintro e w2 ⟨rfl, hb1⟩; replace hok := hok.trans hb1; replace hT := hT.next hb1; clear hb1)) | (go_at_call 17; first | ((with_reducible refine (KB.out _).mono ?_); rintro e w2 ⟨rfl, hb1⟩; replace hok := hok.trans hb1; replace hT := hT.next hb1; clear hb1)))
  all_goals
    go_ret
    first | exact ⟨rfl, hok⟩ | exact ⟨by simp, hok⟩
theorem walk (w : World) (hT : Tab w) (n : Int) (w0 : (Lit.int .i64 n).wf = true) :
    Calls Tryd.prog 5 #[.int .i64 n] w fun e w' => e = .returned (.bool true) ∧ Below w.heap.size w w' := by
  show Calls Tryd.prog 5 #[.int .i64 n] w fun e w' => e = .returned (.bool true) ∧ Ok w w'
  by_cases hn : Civil.inn n
  · obtain ⟨y, m, d, h⟩ := Civil.is_some n
    exact yes w hT n y m d hn h
  · exact no w hT n hn
theorem own : ownKnob Tryd.prog.godebug = none := by kernel_rfl
theorem laidOut : laidOutB Tryd.prog = true := by kernel_rfl
theorem laid_met (os : Os) : laidMet Tryd.prog Rows.civilDatesRow.laid ((laidWorld os).forCall (fun _ _ => 0) ⟨#[], #[.int .i64 0], []⟩).memory :=
  laidMet_of_run' 8 (by kernel_rfl) (by kernel_rfl)
theorem reads (os : Os) {H : Type} (enc : TypeId × Value → H) : ∃ places, DataW.whole enc Tryd.prog ((laidWorld os).forCall (fun _ _ => 0) ⟨#[], #[.int .i64 0], []⟩).memory Tryd.f5.params.toList Rows.civilDatesSpec.vars false (#[.int .i64 0] : Array Value).toList 8 = some ([.lit (.int .i64 0)], [], places) :=
  ⟨[], by kernel_rfl⟩
set_option maxRecDepth 100000 in
theorem lifted (os : Os) (started : os.Started) (H : Type) (enc : TypeId × Value → H) (F : Stop.Interp) :
    ReturnsInHanded {} Tryd.checked os 5 .any ((OpenSpec.ofChange Rows.civilDatesSpec).preRow enc Tryd.prog Tryd.f5 Rows.civilDatesRow.domain false Rows.civilDatesRow.laid) (((OpenSpec.ofChange Rows.civilDatesSpec).at F).post enc Tryd.prog Tryd.f5 false true false false) := by
  obtain ⟨places, hx⟩ := reads os enc
  refine returnsInHanded_of_row (C := Tryd.checked) (s := OpenSpec.ofChange Rows.civilDatesSpec) own started (by kernel_rfl) Tryd.func5
    (witness_row_at (enc := enc) (C := Tryd.checked) false (laidWorld os) #[.int .i64 0] rfl (by kernel_rfl) (by kernel_rfl) (by kernel_rfl)
      (OpenSpec.preRow_of_cond 8 hx (by kernel_rfl) (fun k hk => by cases hk) (by kernel_rfl) (laid_met os))) ?_
  intro W base args ds gs before hval0 hW _ _ _ hL _ _
  have hval : ∀ (j : Nat) t v, Tryd.f5.params[j]? = some t → args[j]? = some v → Value.okWide Tryd.prog W .any base t v := hval0
  have hW' := hW
  obtain ⟨p, q, hA, hV, rfl, _, _⟩ := hW
  obtain ⟨rfl, rfl⟩ := trodVars_none hV
  replace hA : DataW.TrodAll enc Tryd.prog W 0 (fun _ => true) true Tryd.f5.params.toList args.toList ds p := hA
  rw [Tryd.params5] at hA hval
  obtain ⟨v0, vs0, d0, ds0, p0, q0, hargs, rfl, rfl, h0, r0⟩ := trodAll_cons hA
  obtain ⟨rfl, rfl, rfl⟩ := trodAll_nil r0
  obtain rfl : args = #[v0] := by cases args; simp_all
  obtain ⟨a0, rfl, rfl, rfl, w0⟩ := open_int Tryd.underlying3 (hval 0 3 v0 rfl rfl) h0
  refine (walk W (tab_of hL) a0 w0).mono fun e W' ⟨he, hb⟩ => ?_
  subst he
  exact ⟨_, rfl, law_post hW' laidOut (by rw [Tryd.params5]; exact params_ok (by kernel_rfl)) rfl (by kernel_rfl) Tryd.underlying4 rfl rfl rfl hb⟩
theorem said : Rows.CivilDatesSaid :=
  OpenClaim.holds_of_cond 5 Tryd.f5 rfl rfl rfl rfl rfl rfl rfl ⟨rfl, rfl, rfl, rfl, rfl⟩ rfl rfl rfl rfl rfl (by kernel_rfl) Tryd.func5 (by kernel_rfl)
    (of_decide_eq_true (by kernel_rfl)) (by unfold Func.isWrapper; first | (rw [if_pos (by decide +kernel)]; kernel_rfl) | (rw [if_neg (by decide +kernel)]; exact ⟨rfl, rfl⟩))
    (fun os started H enc _ F => by rw [OpenClaim.pre_eq_preRow]; exact lifted os started H enc F)
theorem plain (f : FuncId) (fn : Func) (hf : Tryd.pinned.checked.prog.funcNamed "clepsydra/clepsydralaw17.CivilDates" = some f) (hfn : Tryd.pinned.checked.prog.funcs[f]? = some fn) :
    false = Tryd.pinned.checked.prog.looks [] ∧ ∀ (j : Nat) t, fn.params[j]? = some t → Tryd.pinned.checked.prog.wantsStandIn t = false := by
  obtain rfl : f = 5 := Option.some.inj ((show Tryd.prog.funcNamed "clepsydra/clepsydralaw17.CivilDates" = some 5 by kernel_rfl).symm.trans hf) |>.symm
  obtain rfl : fn = Tryd.f5 := (Option.some.inj (Tryd.func5.symm.trans hfn)).symm
  refine ⟨by kernel_rfl, fun j t ht => ?_⟩
  have hall : (Tryd.f5.params.toList.all fun u => !Tryd.prog.wantsStandIn u) = true := by kernel_rfl
  have hm : t ∈ Tryd.f5.params.toList := Array.mem_toList_iff.2 (Array.mem_of_getElem? ht)
  exact (show Tryd.prog.wantsStandIn t = false by simpa using List.all_eq_true.1 hall t hm)
theorem proved : Rows.CivilDatesCardSaid :=
  Claim7.holds_tied_plain_at .later [] _ _ _ _ said (fun _ h => by cases h) (by kernel_rfl) (fun _ h => by cases h) civilDates_row_tie rfl ⟨rfl, rfl⟩ (by kernel_rfl) rfl plain (by kernel_rfl)
end Go.Proofs.YtpblehdkkdjfoaaDoor.civilDates
