/- CivilCycles: for every number and every number of cycles the law answers true: behind four hundred years the calendar begins anew. The row lists the table of the months' days (civil.lengths), tied to the program's text. No other condition. -/
import Derived.Test.YtpblehdkkdjfoaaDoorC17e
namespace Go.Proofs.YtpblehdkkdjfoaaDoor.civilCycles
open Go.ChangeShapes Go.WideShapes Go.ChangeAt Go.RowKit
set_option linter.unusedVariables false
set_option maxRecDepth 100000
set_option maxHeartbeats 1600000 in
theorem o1 (w : World) (hT : Tab w) (n k : Int) (h1 : 2147483648 < n) :
    Calls Tryd.prog 8 #[.int .i64 n, .int .i64 k] w fun e w' => e = .returned (.bool true) ∧ Ok w w' := by
  have hok := Ok.refl w
  have KL := Lib.hid law17Alive
  go_enter Tryd.func8, Tryd.ntmps8
  go_wp2_with (first | (go_at_call 13; first | ((with_reducible refine (KL.out _ hT).mono ?_); rintro e w2 ⟨rfl, hb1⟩; replace hok := hok.trans hb1; replace hT := hT.next hb1; clear hb1)))
  all_goals
    go_ret
    first | exact ⟨rfl, hok⟩ | exact ⟨by simp, hok⟩
set_option maxHeartbeats 1600000 in
theorem o2 (w : World) (hT : Tab w) (n k : Int) (h1 : n < -2147483648) :
    Calls Tryd.prog 8 #[.int .i64 n, .int .i64 k] w fun e w' => e = .returned (.bool true) ∧ Ok w w' := by
  have hok := Ok.refl w
  have KL := Lib.hid law17Alive
  go_enter Tryd.func8, Tryd.ntmps8
  go_wp2_with (first | (go_at_call 13; first | ((with_reducible refine (KL.out _ hT).mono ?_); rintro e w2 ⟨rfl, hb1⟩; replace hok := hok.trans hb1; replace hT := hT.next hb1; clear hb1)))
  all_goals
    go_ret
    first | exact ⟨rfl, hok⟩ | exact ⟨by simp, hok⟩
set_option maxHeartbeats 1600000 in
theorem o3 (w : World) (hT : Tab w) (n k : Int) (h1 : n ≤ 2147483648) (h2 : -2147483648 ≤ n) (h3 : 1000 < k) :
    Calls Tryd.prog 8 #[.int .i64 n, .int .i64 k] w fun e w' => e = .returned (.bool true) ∧ Ok w w' := by
  have hok := Ok.refl w
  have KL := Lib.hid law17Alive
  go_enter Tryd.func8, Tryd.ntmps8
  go_wp2_with (first | (go_at_call 13; first | ((with_reducible refine (KL.out _ hT).mono ?_); rintro e w2 ⟨rfl, hb1⟩; replace hok := hok.trans hb1; replace hT := hT.next hb1; clear hb1)))
  all_goals
    go_ret
    first | exact ⟨rfl, hok⟩ | exact ⟨by simp, hok⟩
set_option maxHeartbeats 1600000 in
theorem o4 (w : World) (hT : Tab w) (n k : Int) (h1 : n ≤ 2147483648) (h2 : -2147483648 ≤ n) (h3 : k < -1000) :
    Calls Tryd.prog 8 #[.int .i64 n, .int .i64 k] w fun e w' => e = .returned (.bool true) ∧ Ok w w' := by
  have hok := Ok.refl w
  have KL := Lib.hid law17Alive
  go_enter Tryd.func8, Tryd.ntmps8
  go_wp2_with (first | (go_at_call 13; first | ((with_reducible refine (KL.out _ hT).mono ?_); rintro e w2 ⟨rfl, hb1⟩; replace hok := hok.trans hb1; replace hT := hT.next hb1; clear hb1)))
  all_goals
    go_ret
    first | exact ⟨rfl, hok⟩ | exact ⟨by simp, hok⟩
set_option maxHeartbeats 1600000 in
theorem yes (w : World) (hT : Tab w) (n k : Int) (y m d : Int) (h3 : n ≤ 2147483648) (h4 : -2147483648 ≤ n) (h5 : k ≤ 1000) (h6 : -1000 ≤ k) (hn : Civil.inn n) (hn2 : Civil.inn (n + 146097 * k)) (h : Civil.Is n y m d) (h2 : Civil.Is (n + 146097 * k) (y + 400 * k) m d) :
    Calls Tryd.prog 8 #[.int .i64 n, .int .i64 k] w fun e w' => e = .returned (.bool true) ∧ Ok w w' := by
  have hok := Ok.refl w
  have KL := Lib.hid law17Alive
  have KA := Lib.hid fun w hT => civilDate n y m d w hT hn h
  have KB := Lib.hid fun w hT => civilDate (n + 146097 * k) (y + 400 * k) m d w hT hn2 h2
  have KW := Lib.hid fun w => civilWeekday n w hn
  have KX := Lib.hid fun w => civilWeekday (n + 146097 * k) w hn2
  rw [show Civil.week (n + 146097 * k) = Civil.week n by unfold Civil.week; omega] at KX
  have KP := Lib.hid (civilLeap y)
  have KR := Lib.hid (civilLeap (y + 400 * k))
  rw [Civil.leap_400] at KR
  have hy := Civil.first_lt (y := y) (by have := h.year; have := hn.2; omega)
  have hz := Civil.first_gt (y := y + 1) (by have := h.year; have := hn.1; omega)
  generalize Civil.week n = x at *
  generalize Civil.isLeap y = q at *
  obtain ⟨n1, n2⟩ := hn
  clear h h2 hn2
  go_enter Tryd.func8, Tryd.ntmps8
  go_wp2_with (first | (go_at_call 13; first | ((with_reducible refine (KL.out _ hT).mono ?_); rintro e w2 ⟨rfl, hb1⟩; replace hok := hok.trans hb1; replace hT := hT.next hb1; clear hb1)) | (go_at_call 16; first | ((with_reducible refine (KA.out _ hT).mono ?_); rintro e w2 ⟨rfl, hb1⟩; replace hok := hok.trans hb1; replace hT := hT.next hb1; clear hb1) | ((with_reducible refine (KB.out _ hT).mono ?_); rintro e w2 ⟨rfl, hb1⟩; replace hok := hok.trans hb1; replace hT := hT.next hb1; clear hb1)) | (go_at_call 18; first | ((with_reducible refine (KW.out _).mono ?_); rintro e w2 ⟨rfl, hb1⟩; replace hok := hok.trans hb1; replace hT := hT.next hb1; clear hb1) | ((with_reducible refine (KX.out _).mono ?_); rintro e w2 ⟨rfl, hb1⟩; replace hok := hok.trans hb1; replace hT := hT.next hb1; clear hb1)) | (go_at_call 9; first | ((with_reducible refine (KP.out _).mono ?_); rintro e w2 ⟨rfl, rfl⟩) | ((with_reducible refine (KR.out _).mono ?_); rintro e w2 ⟨rfl, rfl⟩)))
  all_goals
    go_ret
    first | exact ⟨rfl, hok⟩ | exact ⟨by simp, hok⟩
theorem walk (w : World) (hT : Tab w) (n : Int) (w0 : (Lit.int .i64 n).wf = true) (k : Int) (w1 : (Lit.int .i64 k).wf = true) :
    Calls Tryd.prog 8 #[.int .i64 n, .int .i64 k] w fun e w' => e = .returned (.bool true) ∧ Below w.heap.size w w' := by
  show Calls Tryd.prog 8 #[.int .i64 n, .int .i64 k] w fun e w' => e = .returned (.bool true) ∧ Ok w w'
  by_cases h1 : 2147483648 < n
  · exact o1 w hT n k h1
  by_cases h2 : n < -2147483648
  · exact o2 w hT n k h2
  by_cases h3 : 1000 < k
  · exact o3 w hT n k (by omega) (by omega) h3
  by_cases h4 : k < -1000
  · exact o4 w hT n k (by omega) (by omega) h4
  have hn : Civil.inn n := ⟨by omega, by omega⟩
  have hn2 : Civil.inn (n + 146097 * k) := ⟨by omega, by omega⟩
  obtain ⟨y, m, d, h⟩ := Civil.is_some n
  exact yes w hT n k y m d (by omega) (by omega) (by omega) (by omega) hn hn2 h (h.cycle k)
theorem own : ownKnob Tryd.prog.godebug = none := by kernel_rfl
theorem laidOut : laidOutB Tryd.prog = true := by kernel_rfl
theorem laid_met (os : Os) : laidMet Tryd.prog Rows.civilCyclesRow.laid ((laidWorld os).forCall (fun _ _ => 0) ⟨#[], #[.int .i64 0, .int .i64 0], []⟩).memory :=
  laidMet_of_run' 8 (by kernel_rfl) (by kernel_rfl)
theorem reads (os : Os) {H : Type} (enc : TypeId × Value → H) : ∃ places, DataW.whole enc Tryd.prog ((laidWorld os).forCall (fun _ _ => 0) ⟨#[], #[.int .i64 0, .int .i64 0], []⟩).memory Tryd.f8.params.toList Rows.civilCyclesSpec.vars false (#[.int .i64 0, .int .i64 0] : Array Value).toList 8 = some ([.lit (.int .i64 0), .lit (.int .i64 0)], [], places) :=
  ⟨[], by kernel_rfl⟩
set_option maxRecDepth 100000 in
theorem lifted (os : Os) (started : os.Started) (H : Type) (enc : TypeId × Value → H) (F : Stop.Interp) :
    ReturnsInHanded {} Tryd.checked os 8 .any ((OpenSpec.ofChange Rows.civilCyclesSpec).preRow enc Tryd.prog Tryd.f8 Rows.civilCyclesRow.domain false Rows.civilCyclesRow.laid) (((OpenSpec.ofChange Rows.civilCyclesSpec).at F).post enc Tryd.prog Tryd.f8 false true false false) := by
  obtain ⟨places, hx⟩ := reads os enc
  refine returnsInHanded_of_row (C := Tryd.checked) (s := OpenSpec.ofChange Rows.civilCyclesSpec) own started (by kernel_rfl) Tryd.func8
    (witness_row_at (enc := enc) (C := Tryd.checked) false (laidWorld os) #[.int .i64 0, .int .i64 0] rfl (by kernel_rfl) (by kernel_rfl) (by kernel_rfl)
      (OpenSpec.preRow_of_cond 8 hx (by kernel_rfl) (fun k hk => by cases hk) (by kernel_rfl) (laid_met os))) ?_
  intro W base args ds gs before hval0 hW _ _ _ hL _ _
  have hval : ∀ (j : Nat) t v, Tryd.f8.params[j]? = some t → args[j]? = some v → Value.okWide Tryd.prog W .any base t v := hval0
  have hW' := hW
  obtain ⟨p, q, hA, hV, rfl, _, _⟩ := hW
  obtain ⟨rfl, rfl⟩ := trodVars_none hV
  replace hA : DataW.TrodAll enc Tryd.prog W 0 (fun _ => true) true Tryd.f8.params.toList args.toList ds p := hA
  rw [Tryd.params8] at hA hval
  obtain ⟨v0, vs0, d0, ds0, p0, q0, hargs, rfl, rfl, h0, r0⟩ := trodAll_cons hA
  obtain ⟨v1, vs1, d1, ds1, p1, q1, rfl, rfl, rfl, h1, r1⟩ := trodAll_cons r0
  obtain ⟨rfl, rfl, rfl⟩ := trodAll_nil r1
  obtain rfl : args = #[v0, v1] := by cases args; simp_all
  obtain ⟨a0, rfl, rfl, rfl, w0⟩ := open_int Tryd.underlying3 (hval 0 3 v0 rfl rfl) h0
  obtain ⟨a1, rfl, rfl, rfl, w1⟩ := open_int Tryd.underlying3 (hval 1 3 v1 rfl rfl) h1
  refine (walk W (tab_of hL) a0 w0 a1 w1).mono fun e W' ⟨he, hb⟩ => ?_
  subst he
  exact ⟨_, rfl, law_post hW' laidOut (by rw [Tryd.params8]; exact params_ok (by kernel_rfl)) rfl (by kernel_rfl) Tryd.underlying4 rfl rfl rfl hb⟩
theorem said : Rows.CivilCyclesSaid :=
  OpenClaim.holds_of_cond 8 Tryd.f8 rfl rfl rfl rfl rfl rfl rfl ⟨rfl, rfl, rfl, rfl, rfl⟩ rfl rfl rfl rfl rfl (by kernel_rfl) Tryd.func8 (by kernel_rfl)
    (of_decide_eq_true (by kernel_rfl)) (by unfold Func.isWrapper; first | (rw [if_pos (by decide +kernel)]; kernel_rfl) | (rw [if_neg (by decide +kernel)]; exact ⟨rfl, rfl⟩))
    (fun os started H enc _ F => by rw [OpenClaim.pre_eq_preRow]; exact lifted os started H enc F)
theorem plain (f : FuncId) (fn : Func) (hf : Tryd.pinned.checked.prog.funcNamed "clepsydra/clepsydralaw17.CivilCycles" = some f) (hfn : Tryd.pinned.checked.prog.funcs[f]? = some fn) :
    false = Tryd.pinned.checked.prog.looks [] ∧ ∀ (j : Nat) t, fn.params[j]? = some t → Tryd.pinned.checked.prog.wantsStandIn t = false := by
  obtain rfl : f = 8 := Option.some.inj ((show Tryd.prog.funcNamed "clepsydra/clepsydralaw17.CivilCycles" = some 8 by kernel_rfl).symm.trans hf) |>.symm
  obtain rfl : fn = Tryd.f8 := (Option.some.inj (Tryd.func8.symm.trans hfn)).symm
  refine ⟨by kernel_rfl, fun j t ht => ?_⟩
  have hall : (Tryd.f8.params.toList.all fun u => !Tryd.prog.wantsStandIn u) = true := by kernel_rfl
  have hm : t ∈ Tryd.f8.params.toList := Array.mem_toList_iff.2 (Array.mem_of_getElem? ht)
  exact (show Tryd.prog.wantsStandIn t = false by simpa using List.all_eq_true.1 hall t hm)
theorem proved : Rows.CivilCyclesCardSaid :=
  Claim7.holds_tied_plain_at .later [] _ _ _ _ said (fun _ h => by cases h) (by kernel_rfl) (fun _ h => by cases h) civilCycles_row_tie rfl ⟨rfl, rfl⟩ (by kernel_rfl) rfl plain (by kernel_rfl)
end Go.Proofs.YtpblehdkkdjfoaaDoor.civilCycles
