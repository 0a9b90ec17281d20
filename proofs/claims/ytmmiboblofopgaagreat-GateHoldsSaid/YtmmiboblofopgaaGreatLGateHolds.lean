/- GateHolds: for every fabric, state, time, whatever the others see and whoever lies, the law answers true. No condition. -/
import Derived.Test.YtmmiboblofopgaaGreatLGateHoldsF
import Derived.Test.YtmmiboblofopgaaGreatC22h
namespace Go.Proofs.YtmmiboblofopgaaGreat.gateHolds
open Go.ChangeShapes Go.WideShapes Go.ChangeAt Go.RowKit
set_option linter.unusedVariables false
set_option maxRecDepth 100000
attribute [local go_sem ↓] Go.wp_at_zero Go.wp_at_succ
theorem walk (w : World) (p : Par) (wp : ParWf p) (s : Sta) (A : Option Addr) (cap : Nat) (hA : PairsAt w A s.table) (hcs : s.table.length ≤ cap) (hms : cap ≤ maxLen) (ws : StaWf s) (now : Int) (wnow : (Lit.int .i64 now).wf = true) (T : Option Addr) (ts : List Tld) (cT : Nat) (hT : CellsAt w T (ts.flatMap tldcells)) (hlT : ts.length ≤ 9223372036854775807) (hwT : ∀ x ∈ ts, tldok x) (B : Option Addr) (l : List HA) (cB : Nat) (hB : HeardsAt w B l) (hlB : l.length ≤ cB) (hcB : cB ≤ maxLen) (hwB : ∀ x ∈ l, HWf x) (err : Int) (werr : (Lit.int .i64 err).wf = true) :
    Calls Tryz.prog 4 #[parV p, staV s A cap, .int .i64 now, .slice T ts.length cT, .slice B l.length cB, .int .i64 err] w fun e w' => e = .returned (.bool true) ∧ Below w.heap.size w w' :=
  walkF works22 w p s A cap now T ts cT B l cB err hA (Nat.le_trans hcs (Nat.le_trans hms (by decide))) hT hlT hB (Nat.le_trans hlB (Nat.le_trans hcB (by decide)))
theorem own : ownKnob Tryz.prog.godebug = none := by kernel_rfl
theorem laidOut : laidOutB Tryz.prog = true := by kernel_rfl
set_option maxRecDepth 100000 in
theorem lifted (os : Os) (started : os.Started) (H : Type) (enc : TypeId × Value → H) :
    ReturnsInHanded {} Tryz.checked os 4 .any (Rows.gateHoldsSpec.pre6 enc Tryz.prog Tryz.f4 Rows.gateHoldsRow.domain false) (Rows.gateHoldsSpec.post enc Tryz.prog Tryz.f4 false true false false) := by
  refine returnsInHanded_of_change (C := Tryz.checked) own started (by kernel_rfl) Tryz.func4
    (ChangeSpec.witness6 (enc := enc) (C := Tryz.checked) false ⟨#[], #[.agg #[.int .i64 0, .int .i64 0, .int .i64 0, .int .i64 0, .int .i64 0, .int .i64 0, .int .i64 0, .int .i64 0, .int .i64 0, .int .i64 0, .int .i64 0, .int .i64 0], .agg #[.int .i64 0, .int .i64 0, .int .i64 0, .bool false, .int .i64 0, .int .i64 0, .bool false, .slice none 0 0, .int .i64 0, .int .i64 0, .int .i64 0], .int .i64 0, .slice none 0 0, .slice none 0 0, .int .i64 0], []⟩ 8 (by kernel_rfl) (by kernel_rfl) (by kernel_rfl) (by kernel_rfl)) ?_
  intro W base args ds gs before hval0 hW _ _
  have hval : ∀ (j : Nat) t v, Tryz.f4.params[j]? = some t → args[j]? = some v → Value.okWide Tryz.prog W .any base t v := hval0
  have hW' := hW
  obtain ⟨p, q, hA, hV, rfl, _, _⟩ := hW
  obtain ⟨rfl, rfl⟩ := trodVars_none hV
  replace hA : DataW.TrodAll enc Tryz.prog W 0 (fun _ => true) true Tryz.f4.params.toList args.toList ds p := hA
  rw [Tryz.params4] at hA hval
  obtain ⟨v0, vs0, d0, ds0, p0, q0, hargs, rfl, rfl, h0, r0⟩ := trodAll_cons hA
  obtain ⟨v1, vs1, d1, ds1, p1, q1, rfl, rfl, rfl, h1, r1⟩ := trodAll_cons r0
  obtain ⟨v2, vs2, d2, ds2, p2, q2, rfl, rfl, rfl, h2, r2⟩ := trodAll_cons r1
  obtain ⟨v3, vs3, d3, ds3, p3, q3, rfl, rfl, rfl, h3, r3⟩ := trodAll_cons r2
  obtain ⟨v4, vs4, d4, ds4, p4, q4, rfl, rfl, rfl, h4, r4⟩ := trodAll_cons r3
  obtain ⟨v5, vs5, d5, ds5, p5, q5, rfl, rfl, rfl, h5, r5⟩ := trodAll_cons r4
  obtain ⟨rfl, rfl, rfl⟩ := trodAll_nil r5
  obtain rfl : args = #[v0, v1, v2, v3, v4, v5] := by cases args; simp_all
  obtain ⟨p0, rfl, wp0⟩ := open_par Tryz.underlying23 rfl (by kernel_rfl) (by kernel_rfl) (by kernel_rfl) (hval 0 23 v0 rfl rfl) h0
  obtain ⟨s1, A1, c1, rfl, hA1, hc1, hm1, w1⟩ := open_sta (hval 1 30 v1 rfl rfl) h1
  obtain ⟨a2, rfl, rfl, rfl, w2⟩ := open_int Tryz.underlying3 (hval 2 3 v2 rfl rfl) h2
  obtain ⟨A3, l3, c3, rfl, hA3, hl3, hw3⟩ := open_slice_rows tldcells tldok tldkinds tldlen tldof (by decide) Tryz.underlying57 Tryz.underlying61 (by kernel_rfl) (by kernel_rfl) (by kernel_rfl) (hval 3 57 v3 rfl rfl) h3
  obtain ⟨A4, l4, c4, rfl, hA4, hl4, hc4, hw4⟩ := open_heards (hval 4 42 v4 rfl rfl) h4
  obtain ⟨a5, rfl, rfl, rfl, w5⟩ := open_int Tryz.underlying3 (hval 5 3 v5 rfl rfl) h5
  refine (walk W p0 wp0 s1 A1 c1 hA1 hc1 hm1 w1 a2 w2 A3 l3 c3 hA3 hl3 hw3 A4 l4 c4 hA4 hl4 hc4 hw4 a5 w5).mono fun e W' ⟨he, hb⟩ => ?_
  subst he
  exact ⟨_, rfl, law_post hW' laidOut (by rw [Tryz.params4]; exact params_ok (by kernel_rfl)) rfl (by kernel_rfl) Tryz.underlying4 rfl rfl rfl hb⟩
theorem over : Rows.gateHoldsRow.holds Tryz.pinned (OpenSpec.ofChange Rows.gateHoldsSpec) :=
  OpenClaim.holds_of_wide 4 Tryz.f4 rfl rfl rfl rfl rfl rfl rfl ⟨rfl, rfl, rfl, rfl, rfl⟩ rfl rfl rfl rfl rfl (by kernel_rfl) Tryz.func4 (by kernel_rfl)
    (of_decide_eq_true (by kernel_rfl)) (by unfold Func.isWrapper; first | (rw [if_pos (by decide +kernel)]; kernel_rfl) | (rw [if_neg (by decide +kernel)]; exact ⟨rfl, rfl⟩))
    (fun os started H enc _ => lifted os started H enc)
theorem proved : Rows.GateHoldsSaid := over
end Go.Proofs.YtmmiboblofopgaaGreat.gateHolds
