/- VoteKeys: for every two tables the law answers true: Key is the document's, and tells each table from every other one. The row lists the library's tables that strconv and math/bits read, tied to the program's text. No other condition. -/
import Derived.Test.YtbbkohpaebeidaaDoorC19g
namespace Go.Proofs.YtbbkohpaebeidaaDoor.voteKeys
open Go.ChangeShapes Go.WideShapes Go.ChangeAt Go.RowKit
set_option linter.unusedVariables false
set_option maxRecDepth 100000
attribute [local go_sem ↓] Go.wp_at_zero Go.wp_at_succ
theorem key_beq (a b : List (Int × Int)) : ((strB (Vote.key a)).toList == (strB (Vote.key b)).toList) = decide (a = b) := by
  rw [ByteArray.toList_eq, ByteArray.toList_eq]
  by_cases h : a = b
  · subst h; simp
  · rw [decide_eq_false h, beq_eq_false_iff_ne]
    intro g
    exact h (Vote.key_one (strB_one (Go.WideShapes.bytes_inj g)))
set_option maxHeartbeats 1600000 in
theorem walk (w : World) (hT : Pow w) (A : Option Addr) (a : List (Int × Int)) (ca : Nat) (hA : PairsAt w A a) (hla : a.length ≤ 9223372036854775807) (hwa : ∀ s ∈ a, (Lit.int .i64 s.1).wf = true ∧ (Lit.int .i64 s.2).wf = true) (A2 : Option Addr) (b : List (Int × Int)) (cb : Nat) (hB : PairsAt w A2 b) (hlb : b.length ≤ 9223372036854775807) (hwb : ∀ s ∈ b, (Lit.int .i64 s.1).wf = true ∧ (Lit.int .i64 s.2).wf = true) :
    Calls Tryd.prog 3 #[.slice A a.length ca, .slice A2 b.length cb] w fun e w' => e = .returned (.bool true) ∧ Below w.heap.size w w' := by
  show Calls Tryd.prog 3 #[.slice A a.length ca, .slice A2 b.length cb] w fun e w' => e = .returned (.bool true) ∧ Ok w w'
  have hok := Ok.refl w
  have HT := Lib.hid fun W' (q : Ok w W') => hT.next q
  have HA := Lib.hid fun W' (q : Ok w W') => hA.below q
  have HB := Lib.hid fun W' (q : Ok w W') => hB.below q
  have KA := Lib.hid (law19Alive w hT)
  have HX := Lib.hid fun W' (q : Ok w W') => (tabs_new W' [⟨b, A2, cb⟩] 22 #[.slice A2 b.length cb] rfl rfl (by intro x hx; rw [List.mem_singleton] at hx; subst hx; exact HB.out _ q))
  have KG := Lib.hid fun W' (q : Ok w W') => voteGreat A (some ⟨W'.heap.size, 0, none⟩) a [⟨b, A2, cb⟩] ca 1 (W'.alloc (.cells #[.slice A2 b.length cb] 22)) (HX.out _ q) hla (by simp) (by intro x hx; rw [List.mem_singleton] at hx; subst hx; exact hlb)
  clear HX
  simp only [List.length_cons, List.length_nil, Nat.zero_add] at KG
  cases hg : Vote.great a [⟨b, A2, cb⟩] with
  | true =>
    rw [hg] at KG
    clear hg hT hA hB hwa hwb
    go_enter Tryd.func3, Tryd.ntmps3
    go_wp2_with (first
      | (go_at_call 8; refine KA.out.mono ?_; rintro e w1 ⟨rfl, hb1⟩; replace hok := hok.trans hb1; clear hb1)
      | (go_at_call 9; refine (KG.out _ hok).mono ?_; rintro e w2 ⟨rfl, rfl⟩))
    go_ret
    exact ⟨rfl, hok.alloc _⟩
  | false =>
    obtain ⟨h1, -, h3⟩ := Vote.great_not hg
    have h2 : b.length ≤ 256 := h3 ⟨b, A2, cb⟩ (List.mem_singleton.2 rfl)
    rw [hg] at KG
    have K1 := Lib.hid fun W' (q : Ok w W') => voteKey A a ca W' (HT.out _ q) (HA.out _ q) (by omega) (fun e he => ⟨wf_two (hwa e he).1, wf_two (hwa e he).2⟩)
    have K2 := Lib.hid fun W' (q : Ok w W') => voteKey A2 b cb W' (HT.out _ q) (HB.out _ q) (by omega) (fun e he => ⟨wf_two (hwb e he).1, wf_two (hwb e he).2⟩)
    have R1 := Lib.hid fun W' (q : Ok w W') => ref19Key A a ca W' (HT.out _ q) (HA.out _ q) (by omega) (fun e he => ⟨wf_two (hwa e he).1, wf_two (hwa e he).2⟩)
    have KE := Lib.hid fun W' (q : Ok w W') => ref6Tables A A2 a b ca cb W' (HA.out _ q) (HB.out _ q) hla hlb
    have q1 := key_beq a a
    have q2 := key_beq a b
    rw [decide_eq_true rfl] at q1
    clear hg hT hA hB hwa hwb h1 h2 h3
    generalize decide (a = b) = d at KE q2
    generalize strB (Vote.key a) = s at K1 R1 q1 q2
    generalize strB (Vote.key b) = t at K2 q2
    cases d
    all_goals
      go_enter Tryd.func3, Tryd.ntmps3
      go_wp2_with (first
        | (go_at_call 8; refine KA.out.mono ?_; rintro e w1 ⟨rfl, hb1⟩; replace hok := hok.trans hb1; clear hb1)
        | (go_at_call 9; refine (KG.out _ hok).mono ?_; rintro e w2 ⟨rfl, rfl⟩; replace hok := hok.alloc (.cells #[.slice A2 b.length cb] 22))
        | (go_at_call 10; (with_reducible refine (K1.out _ hok).mono ?_); rintro e w3 ⟨rfl, hb1⟩; replace hok := hok.trans hb1; clear hb1)
        | (go_at_call 10; (with_reducible refine (K2.out _ hok).mono ?_); rintro e w4 ⟨rfl, hb1⟩; replace hok := hok.trans hb1; clear hb1)
        | (go_at_call 11; refine (R1.out _ hok).mono ?_; rintro e w5 ⟨rfl, hb1⟩; replace hok := hok.trans hb1; clear hb1)
        | (go_at_call 12; refine (KE.out _ hok).mono ?_; rintro e w6 ⟨rfl, hb1⟩; replace hok := hok.trans hb1; clear hb1))
      go_ret
      exact ⟨rfl, hok⟩
theorem own : ownKnob Tryd.prog.godebug = none := by kernel_rfl
theorem laidOut : laidOutB Tryd.prog = true := by kernel_rfl
theorem laid_met (os : Os) : laidMet Tryd.prog Rows.voteKeysRow.laid ((laidWorld os).forCall (fun _ _ => 0) ⟨#[], #[.slice none 0 0, .slice none 0 0], []⟩).memory :=
  laidMet_of_run' 8 (by kernel_rfl) (by kernel_rfl)
theorem reads (os : Os) {H : Type} (enc : TypeId × Value → H) : ∃ places, DataW.whole enc Tryd.prog ((laidWorld os).forCall (fun _ _ => 0) ⟨#[], #[.slice none 0 0, .slice none 0 0], []⟩).memory Tryd.f3.params.toList Rows.voteKeysSpec.vars false (#[.slice none 0 0, .slice none 0 0] : Array Value).toList 8 = some ([.nil, .nil], [], places) :=
  ⟨[], by kernel_rfl⟩
set_option maxRecDepth 100000 in
theorem lifted (os : Os) (started : os.Started) (H : Type) (enc : TypeId × Value → H) (F : Stop.Interp) :
    ReturnsInHanded {} Tryd.checked os 3 .any ((OpenSpec.ofChange Rows.voteKeysSpec).preRow enc Tryd.prog Tryd.f3 Rows.voteKeysRow.domain false Rows.voteKeysRow.laid) (((OpenSpec.ofChange Rows.voteKeysSpec).at F).post enc Tryd.prog Tryd.f3 false true false false) := by
  obtain ⟨places, hx⟩ := reads os enc
  refine returnsInHanded_of_row (C := Tryd.checked) (s := OpenSpec.ofChange Rows.voteKeysSpec) own started (by kernel_rfl) Tryd.func3
    (witness_row_at (enc := enc) (C := Tryd.checked) false (laidWorld os) #[.slice none 0 0, .slice none 0 0] rfl (by kernel_rfl) (by kernel_rfl) (by kernel_rfl)
      (OpenSpec.preRow_of_cond 8 hx (by kernel_rfl) (fun k hk => by cases hk) (by kernel_rfl) (laid_met os))) ?_
  intro W base args ds gs before hval0 hW _ _ _ hL _ _
  have hval : ∀ (j : Nat) t v, Tryd.f3.params[j]? = some t → args[j]? = some v → Value.okWide Tryd.prog W .any base t v := hval0
  have hW' := hW
  obtain ⟨p, q, hA, hV, rfl, _, _⟩ := hW
  obtain ⟨rfl, rfl⟩ := trodVars_none hV
  replace hA : DataW.TrodAll enc Tryd.prog W 0 (fun _ => true) true Tryd.f3.params.toList args.toList ds p := hA
  rw [Tryd.params3] at hA hval
  obtain ⟨v0, vs0, d0, ds0, p0, q0, hargs, rfl, rfl, h0, r0⟩ := trodAll_cons hA
  obtain ⟨v1, vs1, d1, ds1, p1, q1, rfl, rfl, rfl, h1, r1⟩ := trodAll_cons r0
  obtain ⟨rfl, rfl, rfl⟩ := trodAll_nil r1
  obtain rfl : args = #[v0, v1] := by cases args; simp_all
  obtain ⟨A0, l0, c0, rfl, hA0, hl0, hw0⟩ := open_slice_pairs Tryd.underlying22 Tryd.underlying37 (by kernel_rfl) (by kernel_rfl) (by kernel_rfl) (by kernel_rfl) (hval 0 22 v0 rfl rfl) h0
  obtain ⟨A1, l1, c1, rfl, hA1, hl1, hw1⟩ := open_slice_pairs Tryd.underlying22 Tryd.underlying37 (by kernel_rfl) (by kernel_rfl) (by kernel_rfl) (by kernel_rfl) (hval 1 22 v1 rfl rfl) h1
  refine (walk W (tab_of hL) A0 l0 c0 hA0 hl0 hw0 A1 l1 c1 hA1 hl1 hw1).mono fun e W' ⟨he, hb⟩ => ?_
  subst he
  exact ⟨_, rfl, law_post hW' laidOut (by rw [Tryd.params3]; exact params_ok (by kernel_rfl)) rfl (by kernel_rfl) Tryd.underlying4 rfl rfl rfl hb⟩
theorem said : Rows.VoteKeysSaid :=
  OpenClaim.holds_of_cond 3 Tryd.f3 rfl rfl rfl rfl rfl rfl rfl ⟨rfl, rfl, rfl, rfl, rfl⟩ rfl rfl rfl rfl rfl (by kernel_rfl) Tryd.func3 (by kernel_rfl)
    (of_decide_eq_true (by kernel_rfl)) (by unfold Func.isWrapper; first | (rw [if_pos (by decide +kernel)]; kernel_rfl) | (rw [if_neg (by decide +kernel)]; exact ⟨rfl, rfl⟩))
    (fun os started H enc _ F => by rw [OpenClaim.pre_eq_preRow]; exact lifted os started H enc F)
theorem plain (f : FuncId) (fn : Func) (hf : Tryd.pinned.checked.prog.funcNamed "clepsydra/clepsydralaw19.VoteKeys" = some f) (hfn : Tryd.pinned.checked.prog.funcs[f]? = some fn) :
    false = Tryd.pinned.checked.prog.looks [] ∧ ∀ (j : Nat) t, fn.params[j]? = some t → Tryd.pinned.checked.prog.wantsStandIn t = false := by
  obtain rfl : f = 3 := Option.some.inj ((show Tryd.prog.funcNamed "clepsydra/clepsydralaw19.VoteKeys" = some 3 by kernel_rfl).symm.trans hf) |>.symm
  obtain rfl : fn = Tryd.f3 := (Option.some.inj (Tryd.func3.symm.trans hfn)).symm
  refine ⟨by kernel_rfl, fun j t ht => ?_⟩
  have hall : (Tryd.f3.params.toList.all fun u => !Tryd.prog.wantsStandIn u) = true := by kernel_rfl
  have hm : t ∈ Tryd.f3.params.toList := Array.mem_toList_iff.2 (Array.mem_of_getElem? ht)
  exact (show Tryd.prog.wantsStandIn t = false by simpa using List.all_eq_true.1 hall t hm)
theorem proved : Rows.VoteKeysCardSaid :=
  Claim7.holds_tied_plain_at .later [] _ _ _ _ said (fun _ h => by cases h) (by kernel_rfl) (fun _ h => by cases h) voteKeys_row_tie rfl ⟨rfl, rfl⟩ (by kernel_rfl) rfl plain (by kernel_rfl)
end Go.Proofs.YtbbkohpaebeidaaDoor.voteKeys
