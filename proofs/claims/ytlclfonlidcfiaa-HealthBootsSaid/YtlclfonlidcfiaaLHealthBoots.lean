/- HealthBoots: for every fabric and state the law answers true: of a clock that is lost, or was never anchored, nothing is told. No condition. -/
import Derived.Test.YtlclfonlidcfiaaC21h
import Derived.Test.YtlclfonlidcfiaaW06
import Derived.Test.YtlclfonlidcfiaaC04b
namespace Go.Proofs.Ytlclfonlidcfiaa.healthBoots
open Go.ChangeShapes Go.WideShapes Go.ChangeAt Go.RowKit
set_option linter.unusedVariables false
set_option maxRecDepth 100000
attribute [local go_sem ↓] Go.wp_at_zero Go.wp_at_succ
set_option maxHeartbeats 6400000 in
theorem walkF (F : FrontDoes) (w : World) (p : Par) (s : Sta) (A : Option Addr) (cap : Nat) :
    Calls Try.prog 8 #[parV p, staV s A cap] w fun e w' => e = .returned (.bool true) ∧ Ok w w' := by
  have KAL := Lib.hid fun w => law21AliveF F w
  have KLO := Lib.hid fun w => law21Long s s A A cap cap w
  have KCH := Lib.hid fun w => limCheck p w
  obtain ⟨sa, hsa⟩ : ∃ t : Sta, ({ s with good := false } : Sta) = t := ⟨_, rfl⟩
  obtain ⟨sb, hsb⟩ : ∃ t : Sta, ({ s with good := true, hops := p.d + 1 } : Sta) = t := ⟨_, rfl⟩
  obtain ⟨sc, hsc⟩ : ∃ t : Sta, ({ s with good := true, hops := p.d, set := true, held := p.hold } : Sta) = t := ⟨_, rfl⟩
  have oa : Health.of p sa = 0 := by rw [← hsa]; exact if_pos (Or.inl rfl)
  have ob : Health.of p sb = 0 := by rw [← hsb]; exact if_pos (Or.inr (Or.inr (by show p.d < p.d + 1; omega)))
  have oc : Health.of p sc = 1 := by
    rw [← hsc]
    unfold Health.of
    rw [if_neg (by simp), if_neg (by simp)]
  have KA := Lib.hid fun w g h => F.frontNow g p sa A cap w h
  rw [oa] at KA
  have KB := Lib.hid fun w g h => F.frontInterval g p sb A cap w h
  rw [ob] at KB
  have KC := Lib.hid fun w g h => F.frontNow g p sc A cap w h
  rw [oc, show sc.time = s.time by rw [← hsc]] at KC
  have KD := Lib.hid fun w g h => F.frontHealth g p sc A cap w h
  rw [oc] at KD
  simp only [if_true] at KA KB
  rw [if_neg (by decide), if_neg (by decide)] at KC
  have HSA := Lib.hid hsa
  have HSB := Lib.hid hsb
  have HSC := Lib.hid hsc
  clear oa ob oc hsa hsb hsc
  have hP := (Own.new w (parCells p) 23 rfl).alloc (.cells (staCells s A cap) 30)
  have hS := Own.new (w.alloc (.cells (parCells p) 23)) (staCells s A cap) 30 (g := w.heap.size + 1) (by simp)
  have hok := ((Ok.refl w).alloc (.cells (parCells p) 23)).alloc (.cells (staCells s A cap) 30)
  obtain ⟨lg, hlg⟩ : ∃ b, decide (256 < s.table.length ∨ 256 < s.table.length) = b := ⟨_, rfl⟩
  rw [hlg] at KLO
  clear hlg
  go_enter Try.func8, Try.ntmps8
  go_upto_region 1 with fail
  change Code.wp _ _ _ _ ((w.alloc (.cells (parCells p) 23)).alloc (.cells (staCells s A cap) 30))
  generalize (w.alloc (.cells (parCells p) 23)).alloc (.cells (staCells s A cap) 30) = W at hP hS hok ⊢
  obtain ⟨G, hG⟩ : ∃ r, w.heap.size + 1 = r := ⟨_, rfl⟩
  obtain ⟨B, hB⟩ : ∃ r, w.heap.size = r := ⟨_, rfl⟩
  have hBG : B ≠ G := by omega
  have hwG : w.heap.size ≤ G := by omega
  rw [hG] at hS
  rw [hB] at hP
  rw [hG, hB]
  clear hG hB
  go_upto_region 3 with (go_at_call 9; (with_reducible refine (KAL.out _).mono ?_); rintro e w1 ⟨rfl, hb1⟩; replace hP := hP.next hb1; replace hS := hS.next hb1; replace hok := hok.trans hb1; clear hb1)
  obtain ⟨s0, s1, s2, s3, s4, s5, s6, s7, s8, s9, s10⟩ := hS.sta; have hSl := hS.lt
  obtain ⟨c0, c1, c2, c3, c4, c5, c6, c7, c8, c9, c10, c11⟩ := hP.pars; have hPl := hP.lt
  cases lg with
  | true =>
    go_wp2_with (go_at_call 10; refine (KLO.out _).mono ?_; rintro e w2 ⟨rfl, hb1⟩; clear s0 s1 s2 s3 s4 s5 s6 s7 s8 s9 s10 hSl; clear c0 c1 c2 c3 c4 c5 c6 c7 c8 c9 c10 c11 hPl; replace hP := hP.next hb1; replace hS := hS.next hb1; replace hok := hok.trans hb1; clear hb1; skip; obtain ⟨s0, s1, s2, s3, s4, s5, s6, s7, s8, s9, s10⟩ := hS.sta; have hSl := hS.lt; obtain ⟨c0, c1, c2, c3, c4, c5, c6, c7, c8, c9, c10, c11⟩ := hP.pars; have hPl := hP.lt)
    go_ret
    exact ⟨rfl, hok⟩
  | false =>
    by_cases hm : Lim.May p
    · rw [show Lim.check p = 0 from if_pos hm] at KCH
      have hd := hm.2.2.1.1
      have hk1 : IntKind.i64.wrap (p.d + 1) = p.d + 1 := IntWalk.i64_in _ ⟨by omega, by omega⟩
      clear hm
      go_upto_region 5 with (first | (go_at_call 10; refine (KLO.out _).mono ?_; rintro e w2 ⟨rfl, hb1⟩; clear s0 s1 s2 s3 s4 s5 s6 s7 s8 s9 s10 hSl; clear c0 c1 c2 c3 c4 c5 c6 c7 c8 c9 c10 c11 hPl; replace hP := hP.next hb1; replace hS := hS.next hb1; replace hok := hok.trans hb1; clear hb1; skip; obtain ⟨s0, s1, s2, s3, s4, s5, s6, s7, s8, s9, s10⟩ := hS.sta; have hSl := hS.lt; obtain ⟨c0, c1, c2, c3, c4, c5, c6, c7, c8, c9, c10, c11⟩ := hP.pars; have hPl := hP.lt) | (go_at_call 24; refine (KCH.out _).mono ?_; rintro e w3 ⟨rfl, hb1⟩; clear s0 s1 s2 s3 s4 s5 s6 s7 s8 s9 s10 hSl; clear c0 c1 c2 c3 c4 c5 c6 c7 c8 c9 c10 c11 hPl; replace hP := hP.next hb1; replace hS := hS.next hb1; replace hok := hok.trans hb1; clear hb1; obtain ⟨s0, s1, s2, s3, s4, s5, s6, s7, s8, s9, s10⟩ := hS.sta; have hSl := hS.lt; obtain ⟨c0, c1, c2, c3, c4, c5, c6, c7, c8, c9, c10, c11⟩ := hP.pars; have hPl := hP.lt))
      have f6 := hS.frozen 6
      clear s0 s1 s2 s3 s4 s5 s6 s7 s8 s9 s10 hSl; clear c0 c1 c2 c3 c4 c5 c6 c7 c8 c9 c10 c11 hPl
      have s6 := hS.cell 6 (v := .bool s.good) rfl
      have hSl := hS.lt
      go_upto_region 6 with fail
      clear s6 f6 hSl
      have hS' : Own (w3.setCell ⟨G, 6, none⟩ (.bool false)) G (staCells sa A cap) := (hS.set 6 (.bool false)).as (by rw [← HSA.out]; simp [staCells])
      have hP' := hP.setOther (a := ⟨G, 6, none⟩) hBG (.bool false)
      have hok' := hok.setCell (p := ⟨G, 6, none⟩) hwG (.bool false)
      clear hS hP hok
      generalize (w3.setCell ⟨G, 6, none⟩ (.bool false)) = W5 at hS' hP' hok' ⊢
      have hS := hS'
      have hP := hP'
      have hok := hok'
      clear hS' hP' hok'
      obtain ⟨s0, s1, s2, s3, s4, s5, s6, s7, s8, s9, s10⟩ := hS.sta; have hSl := hS.lt
      obtain ⟨c0, c1, c2, c3, c4, c5, c6, c7, c8, c9, c10, c11⟩ := hP.pars; have hPl := hP.lt
      go_upto_region 7 with fail
      clear c0 c1 c2 c3 c4 c5 c6 c7 c8 c9 c10 c11 hPl
      clear s0 s1 s2 s3 s4 s5 s6 s7 s8 s9 s10 hSl
      change Code.wp _ _ _ _ (W5.alloc (.cells (frontCells p sa A cap) 39))
      have hwa := hok.size
      have hGa := hS.lt
      have hFa := Own.new W5 (frontCells p sa A cap) 39 rfl
      replace hS := hS.alloc (.cells (frontCells p sa A cap) 39)
      replace hP := hP.alloc (.cells (frontCells p sa A cap) 39)
      replace hok := hok.alloc (.cells (frontCells p sa A cap) 39)
      generalize W5.alloc (.cells (frontCells p sa A cap) 39) = W6 at hS hP hok hFa ⊢
      generalize W5.heap.size = NA at hFa hGa hwa ⊢
      have hAG : NA ≠ G := by omega
      go_cut [] from 29 to 33 (fun wx => Own wx B (parCells p) ∧ Own wx G (staCells sb A cap) ∧ Own wx NA (frontCells p sa A cap) ∧ Ok w wx)
      case first =>
        have c2 := hP.cell 2 (v := .int .i64 p.d) rfl
        have hPl := hP.lt
        have s5 := hS.cell 5 (v := .int .i64 sa.hops) rfl
        have s6 := hS.cell 6 (v := .bool sa.good) rfl
        have f5 := hS.frozen 5
        have f6 := hS.frozen 6
        have hSl := hS.lt
        go_region
        all_goals (go_wp2_with fail; go_meet; exact ⟨((hP.setOther (a := ⟨G, 6, none⟩) hBG _).setOther (a := ⟨G, 5, none⟩) hBG _).drew, (((hS.set 6 (.bool true)).set 5 (.int .i64 (p.d + 1))).as (ds := staCells sb A cap) (by rw [← HSB.out, ← HSA.out]; simp [staCells])).drew, ((hFa.setOther (a := ⟨G, 6, none⟩) hAG _).setOther (a := ⟨G, 5, none⟩) hAG _).drew, ((hok.setCell (p := ⟨G, 6, none⟩) hwG _).setCell (p := ⟨G, 5, none⟩) hwG _).drew⟩)
      case rest =>
      clear hP hS hFa hok hGa
      obtain ⟨hP, hS, hFa, hok⟩ := hcut
      obtain ⟨s0, s1, s2, s3, s4, s5, s6, s7, s8, s9, s10⟩ := hS.sta; have hSl := hS.lt
      obtain ⟨c0, c1, c2, c3, c4, c5, c6, c7, c8, c9, c10, c11⟩ := hP.pars; have hPl := hP.lt
      go_upto_region 9 with fail
      clear s0 s1 s2 s3 s4 s5 s6 s7 s8 s9 s10 hSl
      clear c0 c1 c2 c3 c4 c5 c6 c7 c8 c9 c10 c11 hPl
      change Code.wp _ _ _ _ (wc.alloc (.cells (frontCells p sb A cap) 39))
      have hwb := hok.size
      have hGb := hS.lt
      have hFb := Own.new wc (frontCells p sb A cap) 39 rfl
      replace hS := hS.alloc (.cells (frontCells p sb A cap) 39)
      replace hP := hP.alloc (.cells (frontCells p sb A cap) 39)
      replace hok := hok.alloc (.cells (frontCells p sb A cap) 39)
      replace hFa := hFa.alloc (.cells (frontCells p sb A cap) 39)
      generalize wc.alloc (.cells (frontCells p sb A cap) 39) = W8 at hS hP hok hFa hFb ⊢
      generalize wc.heap.size = NB at hFb hGb hwb ⊢
      have hBG' : NB ≠ G := by omega
      go_upto_region 10 with (go_at_call 28; refine (KA.out _ _ hFa).mono ?_; rintro e w9 ⟨rfl, hb1⟩; clear hFa; replace hS := hS.next hb1; replace hP := hP.next hb1; replace hFb := hFb.next hb1; replace hok := hok.trans hb1; clear hb1)
      go_upto_region 11 with (go_at_call 29; refine (KB.out _ _ hFb).mono ?_; rintro e w10 ⟨rfl, hb1⟩; clear hFb; replace hS := hS.next hb1; replace hP := hP.next hb1; replace hok := hok.trans hb1; clear hb1)
      replace hS := hS.alloc (.cells #[.int .i64 0, .int .i64 0] 25)
      replace hP := hP.alloc (.cells #[.int .i64 0, .int .i64 0] 25)
      replace hok := hok.alloc (.cells #[.int .i64 0, .int .i64 0] 25)
      generalize w10.alloc (.cells #[.int .i64 0, .int .i64 0] 25) = WC at hS hP hok ⊢
      go_cut [] from 48 to 54 (fun wx => Own wx B (parCells p) ∧ Own wx G (staCells sc A cap) ∧ Ok w wx)
      case first =>
        have c2 := hP.cell 2 (v := .int .i64 p.d) rfl
        have c9 := hP.cell 9 (v := .int .i64 p.hold) rfl
        have hPl := hP.lt
        have s5 := hS.cell 5 (v := .int .i64 sb.hops) rfl
        have s3 := hS.cell 3 (v := .bool sb.set) rfl
        have s4 := hS.cell 4 (v := .int .i64 sb.held) rfl
        have f3 := hS.frozen 3
        have f4 := hS.frozen 4
        have f5 := hS.frozen 5
        have hSl := hS.lt
        go_region
        all_goals (go_wp2_with fail; go_meet; exact ⟨(((hP.setOther (a := ⟨G, 5, none⟩) hBG _).setOther (a := ⟨G, 3, none⟩) hBG _).setOther (a := ⟨G, 4, none⟩) hBG _).drew, ((((hS.set 5 (.int .i64 p.d)).set 3 (.bool true)).set 4 (.int .i64 p.hold)).as (ds := staCells sc A cap) (by rw [← HSC.out, ← HSB.out]; simp [staCells])).drew, (((hok.setCell (p := ⟨G, 5, none⟩) hwG _).setCell (p := ⟨G, 3, none⟩) hwG _).setCell (p := ⟨G, 4, none⟩) hwG _).drew⟩)
      case rest =>
      clear hP hS hok hGb
      obtain ⟨hP, hS, hok⟩ := hcut
      obtain ⟨s0, s1, s2, s3, s4, s5, s6, s7, s8, s9, s10⟩ := hS.sta; have hSl := hS.lt
      obtain ⟨c0, c1, c2, c3, c4, c5, c6, c7, c8, c9, c10, c11⟩ := hP.pars; have hPl := hP.lt
      go_upto_region 13 with fail
      clear s0 s1 s2 s3 s4 s5 s6 s7 s8 s9 s10 hSl
      clear c0 c1 c2 c3 c4 c5 c6 c7 c8 c9 c10 c11 hPl
      change Code.wp _ _ _ _ (wc.alloc (.cells (frontCells p sc A cap) 39))
      have hFc := Own.new wc (frontCells p sc A cap) 39 rfl
      replace hS := hS.alloc (.cells (frontCells p sc A cap) 39)
      replace hok := hok.alloc (.cells (frontCells p sc A cap) 39)
      clear hP
      generalize wc.alloc (.cells (frontCells p sc A cap) 39) = W12 at hS hok hFc ⊢
      generalize wc.heap.size = NC at hFc ⊢
      go_upto_region 14 with (go_at_call 28; refine (KC.out _ _ hFc).mono ?_; rintro e w13 ⟨rfl, hb1⟩; replace hS := hS.next hb1; replace hFc := hFc.next hb1; replace hok := hok.trans hb1; clear hb1)
      have s2 := hS.cell 2 (v := .int .i64 s.time) (by rw [← HSC.out]; rfl)
      have hSl := hS.lt
      go_wp2_with (go_at_call 30; refine (KD.out _ _ hFc).mono ?_; rintro e w14 ⟨rfl, hb1⟩; replace hok := hok.trans hb1; clear hb1)
      go_ret
      exact ⟨rfl, hok⟩
    · rw [show Lim.check p = 1 from if_neg hm] at KCH
      clear hm
      go_wp2_with (first | (go_at_call 10; refine (KLO.out _).mono ?_; rintro e w2 ⟨rfl, hb1⟩; clear s0 s1 s2 s3 s4 s5 s6 s7 s8 s9 s10 hSl; clear c0 c1 c2 c3 c4 c5 c6 c7 c8 c9 c10 c11 hPl; replace hP := hP.next hb1; replace hS := hS.next hb1; replace hok := hok.trans hb1; clear hb1; skip; obtain ⟨s0, s1, s2, s3, s4, s5, s6, s7, s8, s9, s10⟩ := hS.sta; have hSl := hS.lt; obtain ⟨c0, c1, c2, c3, c4, c5, c6, c7, c8, c9, c10, c11⟩ := hP.pars; have hPl := hP.lt) | (go_at_call 24; refine (KCH.out _).mono ?_; rintro e w3 ⟨rfl, hb1⟩; clear s0 s1 s2 s3 s4 s5 s6 s7 s8 s9 s10 hSl; clear c0 c1 c2 c3 c4 c5 c6 c7 c8 c9 c10 c11 hPl; replace hP := hP.next hb1; replace hS := hS.next hb1; replace hok := hok.trans hb1; clear hb1; obtain ⟨s0, s1, s2, s3, s4, s5, s6, s7, s8, s9, s10⟩ := hS.sta; have hSl := hS.lt; obtain ⟨c0, c1, c2, c3, c4, c5, c6, c7, c8, c9, c10, c11⟩ := hP.pars; have hPl := hP.lt))
      go_ret
      exact ⟨rfl, hok⟩
theorem walk (w : World) (p : Par) (wp : ParWf p) (s : Sta) (A : Option Addr) (cap : Nat) (hA : PairsAt w A s.table) (hcs : s.table.length ≤ cap) (hms : cap ≤ maxLen) (ws : StaWf s) :
    Calls Try.prog 8 #[parV p, staV s A cap] w fun e w' => e = .returned (.bool true) ∧ Below w.heap.size w w' :=
  walkF front21 w p s A cap
theorem own : ownKnob Try.prog.godebug = none := by kernel_rfl
theorem laidOut : laidOutB Try.prog = true := by kernel_rfl
set_option maxRecDepth 100000 in
theorem lifted (os : Os) (started : os.Started) (H : Type) (enc : TypeId × Value → H) :
    ReturnsInHanded {} Try.checked os 8 .any (Rows.healthBootsSpec.pre6 enc Try.prog Try.f8 Rows.healthBootsRow.domain false) (Rows.healthBootsSpec.post enc Try.prog Try.f8 false true false false) := by
  refine returnsInHanded_of_change (C := Try.checked) own started (by kernel_rfl) Try.func8
    (ChangeSpec.witness6 (enc := enc) (C := Try.checked) false ⟨#[], #[.agg #[.int .i64 0, .int .i64 0, .int .i64 0, .int .i64 0, .int .i64 0, .int .i64 0, .int .i64 0, .int .i64 0, .int .i64 0, .int .i64 0, .int .i64 0, .int .i64 0], .agg #[.int .i64 0, .int .i64 0, .int .i64 0, .bool false, .int .i64 0, .int .i64 0, .bool false, .slice none 0 0, .int .i64 0, .int .i64 0, .int .i64 0]], []⟩ 8 (by kernel_rfl) (by kernel_rfl) (by kernel_rfl) (by kernel_rfl)) ?_
  intro W base args ds gs before hval0 hW _ _
  have hval : ∀ (j : Nat) t v, Try.f8.params[j]? = some t → args[j]? = some v → Value.okWide Try.prog W .any base t v := hval0
  have hW' := hW
  obtain ⟨p, q, hA, hV, rfl, _, _⟩ := hW
  obtain ⟨rfl, rfl⟩ := trodVars_none hV
  replace hA : DataW.TrodAll enc Try.prog W 0 (fun _ => true) true Try.f8.params.toList args.toList ds p := hA
  rw [Try.params8] at hA hval
  obtain ⟨v0, vs0, d0, ds0, p0, q0, hargs, rfl, rfl, h0, r0⟩ := trodAll_cons hA
  obtain ⟨v1, vs1, d1, ds1, p1, q1, rfl, rfl, rfl, h1, r1⟩ := trodAll_cons r0
  obtain ⟨rfl, rfl, rfl⟩ := trodAll_nil r1
  obtain rfl : args = #[v0, v1] := by cases args; simp_all
  obtain ⟨p0, rfl, wp0⟩ := open_par Try.underlying23 rfl (by kernel_rfl) (by kernel_rfl) (by kernel_rfl) (hval 0 23 v0 rfl rfl) h0
  obtain ⟨s1, A1, c1, rfl, hA1, hc1, hm1, w1⟩ := open_sta (hval 1 30 v1 rfl rfl) h1
  refine (walk W p0 wp0 s1 A1 c1 hA1 hc1 hm1 w1).mono fun e W' ⟨he, hb⟩ => ?_
  subst he
  exact ⟨_, rfl, law_post hW' laidOut (by rw [Try.params8]; exact params_ok (by kernel_rfl)) rfl (by kernel_rfl) Try.underlying4 rfl rfl rfl hb⟩
theorem over : Rows.healthBootsRow.holds Try.pinned (OpenSpec.ofChange Rows.healthBootsSpec) :=
  OpenClaim.holds_of_wide 8 Try.f8 rfl rfl rfl rfl rfl rfl rfl ⟨rfl, rfl, rfl, rfl, rfl⟩ rfl rfl rfl rfl rfl (by kernel_rfl) Try.func8 (by kernel_rfl)
    (of_decide_eq_true (by kernel_rfl)) (by unfold Func.isWrapper; first | (rw [if_pos (by decide +kernel)]; kernel_rfl) | (rw [if_neg (by decide +kernel)]; exact ⟨rfl, rfl⟩))
    (fun os started H enc _ => lifted os started H enc)
theorem proved : Rows.HealthBootsSaid := over
end Go.Proofs.Ytlclfonlidcfiaa.healthBoots
