/- CivilBack: for every number, year, month and day the law answers true: a number's day has that number, and a day's number that day. The row lists the table of the months' days (civil.lengths), tied to the program's text. No other condition. -/
import Derived.Test.YtpblehdkkdjfoaaDoorC17e
namespace Go.Proofs.YtpblehdkkdjfoaaDoor.civilBack
open Go.ChangeShapes Go.WideShapes Go.ChangeAt Go.RowKit
set_option linter.unusedVariables false
set_option maxRecDepth 100000
set_option maxHeartbeats 1600000 in
theorem both (w : World) (hT : Tab w) (n y m d : Int) (y0 m0 d0 : Int) (hn : Civil.inn n) (h : Civil.Is n y0 m0 d0) (hq : Civil.may y m d) :
    Calls Tryd.prog 6 #[.int .i64 n, .int .i64 y, .int .i64 m, .int .i64 d] w fun e w' => e = .returned (.bool true) ∧ Ok w w' := by
  have hok := Ok.refl w
  have KL := Lib.hid law17Alive
  have KA := Lib.hid fun w hT => civilDate n y0 m0 d0 w hT hn h
  have KB := Lib.hid (civilDay y0 m0 d0)
  rw [show Civil.nr y0 m0 d0 = n by unfold Civil.nr; rw [if_pos (h.there hn)]; exact h.same, decide_eq_true (h.there hn)] at KB
  clear hn h
  have KQ := Lib.hid (civilDay y m d)
  have KE := Lib.hid fun w hT => civilDate (Civil.num y m d) y m d w hT hq.2 hq.1.is
  rw [show Civil.nr y m d = Civil.num y m d from if_pos hq, decide_eq_true hq] at KQ
  clear hq
  generalize Civil.num y m d = N at *
  go_enter Tryd.func6, Tryd.ntmps6
  go_wp2_with (first | (go_at_call 13; first | ((with_reducible refine (KL.out _ hT).mono ?_); rintro e w2 ⟨rfl, hb1⟩; replace hok := hok.trans hb1; replace hT := hT.next hb1; clear hb1)) | (go_at_call 16; first | ((with_reducible refine (KA.out _ hT).mono ?_); rintro e w2 ⟨rfl, hb1⟩; replace hok := hok.trans hb1; replace hT := hT.next hb1; clear hb1) | ((with_reducible refine (KE.out _ hT).mono ?_); rintro e w2 ⟨rfl, hb1⟩; replace hok := hok.trans hb1; replace hT := hT.next hb1; clear hb1)) | (go_at_call 14; first | ((with_reducible refine (KB.out _ hT).mono ?_); rintro e w2 ⟨rfl, hb1⟩; replace hok := hok.trans hb1; replace hT := hT.next hb1; clear hb1) | ((with_reducible refine (KQ.out _ hT).mono ?_); rintro e w2 ⟨rfl, hb1⟩; replace hok := hok.trans hb1; replace hT := hT.next hb1; clear hb1)))
  all_goals
    go_ret
    first | exact ⟨rfl, hok⟩ | exact ⟨by simp, hok⟩
set_option maxHeartbeats 1600000 in
theorem one (w : World) (hT : Tab w) (n y m d : Int) (y0 m0 d0 : Int) (hn : Civil.inn n) (h : Civil.Is n y0 m0 d0) (hq : ¬ Civil.may y m d) :
    Calls Tryd.prog 6 #[.int .i64 n, .int .i64 y, .int .i64 m, .int .i64 d] w fun e w' => e = .returned (.bool true) ∧ Ok w w' := by
  have hok := Ok.refl w
  have KL := Lib.hid law17Alive
  have KA := Lib.hid fun w hT => civilDate n y0 m0 d0 w hT hn h
  have KB := Lib.hid (civilDay y0 m0 d0)
  rw [show Civil.nr y0 m0 d0 = n by unfold Civil.nr; rw [if_pos (h.there hn)]; exact h.same, decide_eq_true (h.there hn)] at KB
  clear hn h
  have KQ := Lib.hid (civilDay y m d)
  rw [show Civil.nr y m d = 0 from if_neg hq, decide_eq_false hq] at KQ
  clear hq
  go_enter Tryd.func6, Tryd.ntmps6
  go_wp2_with (first | (go_at_call 13; first | ((with_reducible refine (KL.out _ hT).mono ?_); rintro e w2 ⟨rfl, hb1⟩; replace hok := hok.trans hb1; replace hT := hT.next hb1; clear hb1)) | (go_at_call 16; first | ((with_reducible refine (KA.out _ hT).mono ?_); rintro e w2 ⟨rfl, hb1⟩; replace hok := hok.trans hb1; replace hT := hT.next hb1; clear hb1)) | (go_at_call 14; first | ((with_reducible refine (KB.out _ hT).mono ?_); rintro e w2 ⟨rfl, hb1⟩; replace hok := hok.trans hb1; replace hT := hT.next hb1; clear hb1) | ((with_reducible refine (KQ.out _ hT).mono ?_); rintro e w2 ⟨rfl, hb1⟩; replace hok := hok.trans hb1; replace hT := hT.next hb1; clear hb1)))
  all_goals
    go_ret
    first | exact ⟨rfl, hok⟩ | exact ⟨by simp, hok⟩
set_option maxHeartbeats 1600000 in
theorem other (w : World) (hT : Tab w) (n y m d : Int) (hn : ¬ Civil.inn n) (hq : Civil.may y m d) :
    Calls Tryd.prog 6 #[.int .i64 n, .int .i64 y, .int .i64 m, .int .i64 d] w fun e w' => e = .returned (.bool true) ∧ Ok w w' := by
  have hok := Ok.refl w
  have KL := Lib.hid law17Alive
  have KA := Lib.hid fun w => civilDateNo n w hn
  clear hn
  have KQ := Lib.hid (civilDay y m d)
  have KE := Lib.hid fun w hT => civilDate (Civil.num y m d) y m d w hT hq.2 hq.1.is
  rw [show Civil.nr y m d = Civil.num y m d from if_pos hq, decide_eq_true hq] at KQ
  clear hq
  generalize Civil.num y m d = N at *
  go_enter Tryd.func6, Tryd.ntmps6
  go_wp2_with (first | (go_at_call 13; first | ((with_reducible refine (KL.out _ hT).mono ?_); rintro e w2 ⟨rfl, hb1⟩; replace hok := hok.trans hb1; replace hT := hT.next hb1; clear hb1)) | (go_at_call 16; first | ((with_reducible refine (KA.out _).mono ?_); rintro e w2 ⟨rfl, hb1⟩; replace hok := hok.trans hb1; replace hT := hT.next hb1; clear hb1) | ((with_reducible refine (KE.out _ hT).mono ?_); rintro e w2 ⟨rfl, hb1⟩; replace hok := hok.trans hb1; replace hT := hT.next hb1; clear hb1)) | (go_at_call 14; first | ((with_reducible refine (KQ.out _ hT).mono ?_); rintro e w2 ⟨rfl, hb1⟩; replace hok := hok.trans hb1; replace hT := hT.next hb1; clear hb1)))
  all_goals
    go_ret
    first | exact ⟨rfl, hok⟩ | exact ⟨by simp, hok⟩
set_option maxHeartbeats 1600000 in
theorem neither (w : World) (hT : Tab w) (n y m d : Int) (hn : ¬ Civil.inn n) (hq : ¬ Civil.may y m d) :
    Calls Tryd.prog 6 #[.int .i64 n, .int .i64 y, .int .i64 m, .int .i64 d] w fun e w' => e = .returned (.bool true) ∧ Ok w w' := by
  have hok := Ok.refl w
  have KL := Lib.hid law17Alive
  have KA := Lib.hid fun w => civilDateNo n w hn
  clear hn
  have KQ := Lib.hid (civilDay y m d)
  rw [show Civil.nr y m d = 0 from if_neg hq, decide_eq_false hq] at KQ
  clear hq
  go_enter Tryd.func6, Tryd.ntmps6
  go_wp2_with (first | (go_at_call 13; first | ((with_reducible refine (KL.out _ hT).mono ?_); rintro e w2 ⟨rfl, hb1⟩; replace hok := hok.trans hb1; replace hT := hT.next hb1; clear hb1)) | (go_at_call 16; first | ((with_reducible refine (KA.out _).mono ?_); rintro e w2 ⟨rfl, hb1⟩; replace hok := hok.trans hb1; replace hT := hT.next hb1; clear hb1)) | (go_at_call 14; first | ((with_reducible refine (KQ.out _ hT).mono ?_); rintro e w2 ⟨rfl, hb1⟩; replace hok := hok.trans hb1; replace hT := hT.next hb1; clear hb1)))
  all_goals
    go_ret
    first | exact ⟨rfl, hok⟩ | exact ⟨by simp, hok⟩
theorem walk (w : World) (hT : Tab w) (n : Int) (w0 : (Lit.int .i64 n).wf = true) (y : Int) (w1 : (Lit.int .i64 y).wf = true) (m : Int) (w2 : (Lit.int .i64 m).wf = true) (d : Int) (w3 : (Lit.int .i64 d).wf = true) :
    Calls Tryd.prog 6 #[.int .i64 n, .int .i64 y, .int .i64 m, .int .i64 d] w fun e w' => e = .returned (.bool true) ∧ Below w.heap.size w w' := by
  show Calls Tryd.prog 6 #[.int .i64 n, .int .i64 y, .int .i64 m, .int .i64 d] w fun e w' => e = .returned (.bool true) ∧ Ok w w'
  by_cases hn : Civil.inn n <;> by_cases hq : Civil.may y m d
  · obtain ⟨y0, m0, d0, h⟩ := Civil.is_some n
    exact both w hT n y m d y0 m0 d0 hn h hq
  · obtain ⟨y0, m0, d0, h⟩ := Civil.is_some n
    exact one w hT n y m d y0 m0 d0 hn h hq
  · exact other w hT n y m d hn hq
  · exact neither w hT n y m d hn hq
theorem own : ownKnob Tryd.prog.godebug = none := by kernel_rfl
theorem laidOut : laidOutB Tryd.prog = true := by kernel_rfl
theorem laid_met (os : Os) : laidMet Tryd.prog Rows.civilBackRow.laid ((laidWorld os).forCall (fun _ _ => 0) ⟨#[], #[.int .i64 0, .int .i64 0, .int .i64 0, .int .i64 0], []⟩).memory :=
  laidMet_of_run' 8 (by kernel_rfl) (by kernel_rfl)
theorem reads (os : Os) {H : Type} (enc : TypeId × Value → H) : ∃ places, DataW.whole enc Tryd.prog ((laidWorld os).forCall (fun _ _ => 0) ⟨#[], #[.int .i64 0, .int .i64 0, .int .i64 0, .int .i64 0], []⟩).memory Tryd.f6.params.toList Rows.civilBackSpec.vars false (#[.int .i64 0, .int .i64 0, .int .i64 0, .int .i64 0] : Array Value).toList 8 = some ([.lit (.int .i64 0), .lit (.int .i64 0), .lit (.int .i64 0), .lit (.int .i64 0)], [], places) :=
  ⟨[], by kernel_rfl⟩
set_option maxRecDepth 100000 in
theorem lifted (os : Os) (started : os.Started) (H : Type) (enc : TypeId × Value → H) (F : Stop.Interp) :
    ReturnsInHanded {} Tryd.checked os 6 .any ((OpenSpec.ofChange Rows.civilBackSpec).preRow enc Tryd.prog Tryd.f6 Rows.civilBackRow.domain false Rows.civilBackRow.laid) (((OpenSpec.ofChange Rows.civilBackSpec).at F).post enc Tryd.prog Tryd.f6 false true false false) := by
  obtain ⟨places, hx⟩ := reads os enc
  refine returnsInHanded_of_row (C := Tryd.checked) (s := OpenSpec.ofChange Rows.civilBackSpec) own started (by kernel_rfl) Tryd.func6
    (witness_row_at (enc := enc) (C := Tryd.checked) false (laidWorld os) #[.int .i64 0, .int .i64 0, .int .i64 0, .int .i64 0] rfl (by kernel_rfl) (by kernel_rfl) (by kernel_rfl)
      (OpenSpec.preRow_of_cond 8 hx (by kernel_rfl) (fun k hk => by cases hk) (by kernel_rfl) (laid_met os))) ?_
  intro W base args ds gs before hval0 hW _ _ _ hL _ _
  have hval : ∀ (j : Nat) t v, Tryd.f6.params[j]? = some t → args[j]? = some v → Value.okWide Tryd.prog W .any base t v := hval0
  have hW' := hW
  obtain ⟨p, q, hA, hV, rfl, _, _⟩ := hW
  obtain ⟨rfl, rfl⟩ := trodVars_none hV
  replace hA : DataW.TrodAll enc Tryd.prog W 0 (fun _ => true) true Tryd.f6.params.toList args.toList ds p := hA
  rw [Tryd.params6] at hA hval
  obtain ⟨v0, vs0, d0, ds0, p0, q0, hargs, rfl, rfl, h0, r0⟩ := trodAll_cons hA
  obtain ⟨v1, vs1, d1, ds1, p1, q1, rfl, rfl, rfl, h1, r1⟩ := trodAll_cons r0
  obtain ⟨v2, vs2, d2, ds2, p2, q2, rfl, rfl, rfl, h2, r2⟩ := trodAll_cons r1
  obtain ⟨v3, vs3, d3, ds3, p3, q3, rfl, rfl, rfl, h3, r3⟩ := trodAll_cons r2
  obtain ⟨rfl, rfl, rfl⟩ := trodAll_nil r3
  obtain rfl : args = #[v0, v1, v2, v3] := by cases args; simp_all
  obtain ⟨a0, rfl, rfl, rfl, w0⟩ := open_int Tryd.underlying3 (hval 0 3 v0 rfl rfl) h0
  obtain ⟨a1, rfl, rfl, rfl, w1⟩ := open_int Tryd.underlying3 (hval 1 3 v1 rfl rfl) h1
  obtain ⟨a2, rfl, rfl, rfl, w2⟩ := open_int Tryd.underlying3 (hval 2 3 v2 rfl rfl) h2
  obtain ⟨a3, rfl, rfl, rfl, w3⟩ := open_int Tryd.underlying3 (hval 3 3 v3 rfl rfl) h3
  refine (walk W (tab_of hL) a0 w0 a1 w1 a2 w2 a3 w3).mono fun e W' ⟨he, hb⟩ => ?_
  subst he
  exact ⟨_, rfl, law_post hW' laidOut (by rw [Tryd.params6]; exact params_ok (by kernel_rfl)) rfl (by kernel_rfl) Tryd.underlying4 rfl rfl rfl hb⟩
theorem said : Rows.CivilBackSaid :=
  OpenClaim.holds_of_cond 6 Tryd.f6 rfl rfl rfl rfl rfl rfl rfl ⟨rfl, rfl, rfl, rfl, rfl⟩ rfl rfl rfl rfl rfl (by kernel_rfl) Tryd.func6 (by kernel_rfl)
    (of_decide_eq_true (by kernel_rfl)) (by unfold Func.isWrapper; first | (rw [if_pos (by decide +kernel)]; kernel_rfl) | (rw [if_neg (by decide +kernel)]; exact ⟨rfl, rfl⟩))
    (fun os started H enc _ F => by rw [OpenClaim.pre_eq_preRow]; exact lifted os started H enc F)
theorem plain (f : FuncId) (fn : Func) (hf : Tryd.pinned.checked.prog.funcNamed "clepsydra/clepsydralaw17.CivilBack" = some f) (hfn : Tryd.pinned.checked.prog.funcs[f]? = some fn) :
    false = Tryd.pinned.checked.prog.looks [] ∧ ∀ (j : Nat) t, fn.params[j]? = some t → Tryd.pinned.checked.prog.wantsStandIn t = false := by
  obtain rfl : f = 6 := Option.some.inj ((show Tryd.prog.funcNamed "clepsydra/clepsydralaw17.CivilBack" = some 6 by kernel_rfl).symm.trans hf) |>.symm
  obtain rfl : fn = Tryd.f6 := (Option.some.inj (Tryd.func6.symm.trans hfn)).symm
  refine ⟨by kernel_rfl, fun j t ht => ?_⟩
  have hall : (Tryd.f6.params.toList.all fun u => !Tryd.prog.wantsStandIn u) = true := by kernel_rfl
  have hm : t ∈ Tryd.f6.params.toList := Array.mem_toList_iff.2 (Array.mem_of_getElem? ht)
  exact (show Tryd.prog.wantsStandIn t = false by simpa using List.all_eq_true.1 hall t hm)
theorem proved : Rows.CivilBackCardSaid :=
  Claim7.holds_tied_plain_at .later [] _ _ _ _ said (fun _ h => by cases h) (by kernel_rfl) (fun _ h => by cases h) civilBack_row_tie rfl ⟨rfl, rfl⟩ (by kernel_rfl) rfl plain (by kernel_rfl)
end Go.Proofs.YtpblehdkkdjfoaaDoor.civilBack
