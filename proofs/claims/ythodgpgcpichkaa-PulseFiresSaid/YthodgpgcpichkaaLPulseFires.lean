/- PulseFires: for every fabric's numbers and all times the law answers true: Fired is the document's. No condition. -/
import Derived.Test.YthodgpgcpichkaaC13d
import Derived.Test.YthodgpgcpichkaaW06
import Derived.Test.YthodgpgcpichkaaW14
import Derived.Test.YthodgpgcpichkaaW18
namespace Go.Proofs.Ythodgpgcpichkaa.pulseFires
open Go.ChangeShapes Go.WideShapes Go.ChangeAt Go.RowKit
set_option linter.unusedVariables false
set_option maxRecDepth 100000
attribute [local go_sem ↓] Go.wp_at_zero Go.wp_at_succ
/-- What each operation leaves. -/
def VMT (N : Nat) (l : List Int) (p : Par) (a b m : Int) (w : World) (v : Value) : Nat → Prop
  | 0 => v = .int .i64 m
  | 1 => v = .bool false
  | 2 => v = .bool false
  | 3 => v = parV p
  | 4 => v = .int .i64 a
  | 5 => v = .int .i64 b
  | 6 => v = .int .i64 m
  | 7 => ∃ A c, v = .slice A N c ∧ IntsAt w A l
  | 8 => v = parV p
  | 9 => v = .int .i64 a
  | 10 => v = .int .i64 b
  | 11 => v = .int .i64 m
  | 12 => ∃ A c, v = .slice A N c ∧ IntsAt w A l
  | 13 => v = .bool true
  | 14 => v = .bool true
  | 15 => v = .bool true
  | _ => v = .bool true
/-- It stays so. -/
def VCT (N : Nat) (l : List Int) (p : Par) (a b m : Int) (i : Nat) (v : Value) (w : World) : Prop := ∀ w', Ok w w' → VMT N l p a b m w' v i
theorem big (w : World) (p : Par) (a b m : Int) (h : 1024 < m) :
    Calls Try.prog 3 #[parV p, .int .i64 a, .int .i64 b, .int .i64 m] w fun e w' => e = .returned (.bool true) ∧ Ok w w' := by
  have HP := Lib.hid (Own.new w (parCells p) 23 rfl)
  have HK := Lib.hid ((Ok.refl w).alloc (.cells (parCells p) 23))
  have hd : decide (1024 < m) = true := decide_eq_true h
  go_enter Try.func3, Try.ntmps3
  go_wp2_with (go_at_call 7; (with_reducible refine (law13Alive _).mono ?_); rintro e w1 ⟨rfl, hb1⟩; have hP := HP.out.next hb1; have hok := HK.out.trans hb1; clear hb1 HP HK; obtain ⟨c0, c1, c2, c3, c4, c5, c6, c7, c8, c9, c10, c11⟩ := hP.pars; have hPl := hP.lt)
  go_quiet (fail)
  go_wp2
  go_ret
  exact ⟨rfl, hok.drewN _⟩
set_option maxHeartbeats 3200000 in
theorem walk (w : World) (p : Par) (wp : ParWf p) (a : Int) (wa : (Lit.int .i64 a).wf = true) (b : Int) (wb : (Lit.int .i64 b).wf = true) (m : Int) (wm : (Lit.int .i64 m).wf = true) :
    Calls Try.prog 3 #[parV p, .int .i64 a, .int .i64 b, .int .i64 m] w fun e w' => e = .returned (.bool true) ∧ Below w.heap.size w w' := by
  by_cases h : 1024 < m
  · exact big w p a b m h
  have hmb := wf_bd wm
  have KA := Lib.hid fun w => pulseFired p a b m (by omega) w
  have KR := Lib.hid fun w => refFired p a b m (by omega) w
  have hlen := Pulse.fired_length p.pulse a b m
  have hN : Pulse.count p.pulse a b m ≤ 1000000 := by unfold Pulse.count; omega
  unfold FiredEnd at KA KR
  generalize Pulse.count p.pulse a b m = N at KA KR hlen hN
  generalize Pulse.fired p.pulse a b m = l at KA KR hlen
  have HL := Lib.hid hlen
  have HN := Lib.hid hN
  have HD := Lib.hid (show decide (1024 < m) = false from decide_eq_false h)
  clear hlen hN h wp wa wb wm hmb
  have HP := Lib.hid (Own.new w (parCells p) 23 rfl)
  have HK := Lib.hid ((Ok.refl w).alloc (.cells (parCells p) 23))
  go_enter Try.func3, Try.ntmps3
  go_upto_region 3 with (go_at_call 7; (with_reducible refine (law13Alive _).mono ?_); rintro e w1 ⟨rfl, hb1⟩; have hP := HP.out.next hb1; have hok := HK.out.trans hb1; clear hb1 HP HK; obtain ⟨c0, c1, c2, c3, c4, c5, c6, c7, c8, c9, c10, c11⟩ := hP.pars; have hPl := hP.lt)
  have HOK := Lib.hid hok
  clear hok c0 c1 c2 c3 c4 c5 c6 c7 c8 c9 c10 c11 hPl
  generalize w.heap.size = B at hP ⊢
  have HP := Lib.hid fun W' (k : Ok w1.drew W') => hP.drew.next k
  clear hP
  refine wp_region_facts (by kernel_rfl) 26 rfl (VCT N l p a b m) Ok (by kernel_rfl) (fun i v w w' h k w'' k' => h w'' (k.trans k')) (fun a b c => Ok.trans) (Ok.refl _) [some 11, some 12, some 13, some 14, some 15, some 16, some 17, some 18, some 19, some 20, some 21, some 22, some 23, some 24, some 25, some 8] rfl 16 rfl ⟨?_, ?_, ?_, ?_, ?_, ?_, ?_, ?_, ?_, ?_, ?_, ?_, ?_, ?_, ?_, ?_, trivial⟩ ?_
  · intro a' w' hF hR
    have e3 : a'.tmps[3]? = some (.int .i64 m) := hF.slot 3 (by kernel_rfl) rfl
    refine wpOp_run (v := .int .i64 m) rfl rfl ?_ (fun _ _ => rfl) (Ok.refl _)
    clear hF
    go_simp
  · intro a' w' hF hR
    obtain ⟨v0, hv0, e11⟩ := hF.get 0 11 (by kernel_rfl) (by kernel_rfl)
    obtain rfl : v0 = _ := hv0 _ (Ok.refl _)
    have hd := HD.out
    refine wpOp_run (v := .bool false) rfl rfl ?_ (fun _ _ => rfl) (Ok.refl _)
    clear hF
    go_simp
  · intro a' w' hF hR
    obtain ⟨v1, hv1, e12⟩ := hF.get 1 12 (by kernel_rfl) (by kernel_rfl)
    obtain rfl : v1 = _ := hv1 _ (Ok.refl _)
    refine wpOp_run (v := .bool false) rfl rfl ?_ (fun _ _ => rfl) (Ok.refl _)
    clear hF
    go_simp
  · intro a' w' hF hR
    have e4 : a'.tmps[4]? = some (.pointer (some ⟨B, 0, none⟩)) := hF.slot 4 (by kernel_rfl) rfl
    obtain ⟨vg, hvg, eg⟩ := hF.get 2 13 (by kernel_rfl) (by kernel_rfl)
    obtain rfl : vg = _ := hvg _ (Ok.refl _)
    obtain ⟨c0, c1, c2, c3, c4, c5, c6, c7, c8, c9, c10, c11⟩ := (HP.out _ hR).pars
    refine wpOp_runG (v := parV p) rfl (wanted_yes rfl (by kernel_rfl) eg) ?_ (fun _ _ => rfl) (Ok.refl _)
    clear hF
    go_simp
  · intro a' w' hF hR
    have e1 : a'.tmps[1]? = some (.int .i64 a) := hF.slot 1 (by kernel_rfl) rfl
    obtain ⟨vg, hvg, eg⟩ := hF.get 2 13 (by kernel_rfl) (by kernel_rfl)
    obtain rfl : vg = _ := hvg _ (Ok.refl _)
    refine wpOp_runG (v := .int .i64 a) rfl (wanted_yes rfl (by kernel_rfl) eg) ?_ (fun _ _ => rfl) (Ok.refl _)
    clear hF
    go_simp
  · intro a' w' hF hR
    have e2 : a'.tmps[2]? = some (.int .i64 b) := hF.slot 2 (by kernel_rfl) rfl
    obtain ⟨vg, hvg, eg⟩ := hF.get 2 13 (by kernel_rfl) (by kernel_rfl)
    obtain rfl : vg = _ := hvg _ (Ok.refl _)
    refine wpOp_runG (v := .int .i64 b) rfl (wanted_yes rfl (by kernel_rfl) eg) ?_ (fun _ _ => rfl) (Ok.refl _)
    clear hF
    go_simp
  · intro a' w' hF hR
    have e3 : a'.tmps[3]? = some (.int .i64 m) := hF.slot 3 (by kernel_rfl) rfl
    obtain ⟨vg, hvg, eg⟩ := hF.get 2 13 (by kernel_rfl) (by kernel_rfl)
    obtain rfl : vg = _ := hvg _ (Ok.refl _)
    refine wpOp_runG (v := .int .i64 m) rfl (wanted_yes rfl (by kernel_rfl) eg) ?_ (fun _ _ => rfl) (Ok.refl _)
    clear hF
    go_simp
  · intro a' w' hF hR
    obtain ⟨v3, hv3, e14⟩ := hF.get 3 14 (by kernel_rfl) (by kernel_rfl)
    obtain rfl : v3 = _ := hv3 _ (Ok.refl _)
    obtain ⟨v4, hv4, e15⟩ := hF.get 4 15 (by kernel_rfl) (by kernel_rfl)
    obtain rfl : v4 = _ := hv4 _ (Ok.refl _)
    obtain ⟨v5, hv5, e16⟩ := hF.get 5 16 (by kernel_rfl) (by kernel_rfl)
    obtain rfl : v5 = _ := hv5 _ (Ok.refl _)
    obtain ⟨v6, hv6, e17⟩ := hF.get 6 17 (by kernel_rfl) (by kernel_rfl)
    obtain rfl : v6 = _ := hv6 _ (Ok.refl _)
    obtain ⟨vg, hvg, eg⟩ := hF.get 2 13 (by kernel_rfl) (by kernel_rfl)
    obtain rfl : vg = _ := hvg _ (Ok.refl _)
    refine wpOp_callG (f := 9) (args := #[parV p, .int .i64 a, .int .i64 b, .int .i64 m]) rfl (wanted_yes rfl (by kernel_rfl) eg) ?_ ((KA.out _).mono ?_)
    · go_simp
    · rintro e w2 ⟨A2, c2, rfl, hI2, hb2⟩; exact ⟨_, rfl, fun w3 k => ⟨A2, c2, rfl, hI2.below k⟩, hb2⟩
  · intro a' w' hF hR
    have e4 : a'.tmps[4]? = some (.pointer (some ⟨B, 0, none⟩)) := hF.slot 4 (by kernel_rfl) rfl
    obtain ⟨vg, hvg, eg⟩ := hF.get 2 13 (by kernel_rfl) (by kernel_rfl)
    obtain rfl : vg = _ := hvg _ (Ok.refl _)
    obtain ⟨c0, c1, c2, c3, c4, c5, c6, c7, c8, c9, c10, c11⟩ := (HP.out _ hR).pars
    refine wpOp_runG (v := parV p) rfl (wanted_yes rfl (by kernel_rfl) eg) ?_ (fun _ _ => rfl) (Ok.refl _)
    clear hF
    go_simp
  · intro a' w' hF hR
    have e1 : a'.tmps[1]? = some (.int .i64 a) := hF.slot 1 (by kernel_rfl) rfl
    obtain ⟨vg, hvg, eg⟩ := hF.get 2 13 (by kernel_rfl) (by kernel_rfl)
    obtain rfl : vg = _ := hvg _ (Ok.refl _)
    refine wpOp_runG (v := .int .i64 a) rfl (wanted_yes rfl (by kernel_rfl) eg) ?_ (fun _ _ => rfl) (Ok.refl _)
    clear hF
    go_simp
  · intro a' w' hF hR
    have e2 : a'.tmps[2]? = some (.int .i64 b) := hF.slot 2 (by kernel_rfl) rfl
    obtain ⟨vg, hvg, eg⟩ := hF.get 2 13 (by kernel_rfl) (by kernel_rfl)
    obtain rfl : vg = _ := hvg _ (Ok.refl _)
    refine wpOp_runG (v := .int .i64 b) rfl (wanted_yes rfl (by kernel_rfl) eg) ?_ (fun _ _ => rfl) (Ok.refl _)
    clear hF
    go_simp
  · intro a' w' hF hR
    have e3 : a'.tmps[3]? = some (.int .i64 m) := hF.slot 3 (by kernel_rfl) rfl
    obtain ⟨vg, hvg, eg⟩ := hF.get 2 13 (by kernel_rfl) (by kernel_rfl)
    obtain rfl : vg = _ := hvg _ (Ok.refl _)
    refine wpOp_runG (v := .int .i64 m) rfl (wanted_yes rfl (by kernel_rfl) eg) ?_ (fun _ _ => rfl) (Ok.refl _)
    clear hF
    go_simp
  · intro a' w' hF hR
    obtain ⟨v8, hv8, e19⟩ := hF.get 8 19 (by kernel_rfl) (by kernel_rfl)
    obtain rfl : v8 = _ := hv8 _ (Ok.refl _)
    obtain ⟨v9, hv9, e20⟩ := hF.get 9 20 (by kernel_rfl) (by kernel_rfl)
    obtain rfl : v9 = _ := hv9 _ (Ok.refl _)
    obtain ⟨v10, hv10, e21⟩ := hF.get 10 21 (by kernel_rfl) (by kernel_rfl)
    obtain rfl : v10 = _ := hv10 _ (Ok.refl _)
    obtain ⟨v11, hv11, e22⟩ := hF.get 11 22 (by kernel_rfl) (by kernel_rfl)
    obtain rfl : v11 = _ := hv11 _ (Ok.refl _)
    obtain ⟨vg, hvg, eg⟩ := hF.get 2 13 (by kernel_rfl) (by kernel_rfl)
    obtain rfl : vg = _ := hvg _ (Ok.refl _)
    refine wpOp_callG (f := 10) (args := #[parV p, .int .i64 a, .int .i64 b, .int .i64 m]) rfl (wanted_yes rfl (by kernel_rfl) eg) ?_ ((KR.out _).mono ?_)
    · go_simp
    · rintro e w2 ⟨A2, c2, rfl, hI2, hb2⟩; exact ⟨_, rfl, fun w3 k => ⟨A2, c2, rfl, hI2.below k⟩, hb2⟩
  · intro a' w' hF hR
    obtain ⟨v7, hv7, e18⟩ := hF.get 7 18 (by kernel_rfl) (by kernel_rfl)
    obtain ⟨A7, c7, rfl, hp7⟩ := hv7 _ (Ok.refl _)
    obtain ⟨v12, hv12, e23⟩ := hF.get 12 23 (by kernel_rfl) (by kernel_rfl)
    obtain ⟨A12, c12, rfl, hp12⟩ := hv12 _ (Ok.refl _)
    obtain ⟨vg, hvg, eg⟩ := hF.get 2 13 (by kernel_rfl) (by kernel_rfl)
    obtain rfl : vg = _ := hvg _ (Ok.refl _)
    refine wpOp_callG (f := 8) (args := #[.slice A7 N c7, .slice A12 N c12]) rfl (wanted_yes rfl (by kernel_rfl) eg) ?_ ((sameTrue A7 A12 l N c7 c12 w' HL.out hp7 hp12 HN.out).mono ?_)
    · go_simp
    · rintro e w2 ⟨rfl, hb2⟩; exact ⟨_, rfl, fun _ _ => rfl, hb2⟩
  · intro a' w' hF hR
    obtain ⟨v2, hv2, e13⟩ := hF.get 2 13 (by kernel_rfl) (by kernel_rfl)
    obtain rfl : v2 = _ := hv2 _ (Ok.refl _)
    obtain ⟨v13, hv13, e24⟩ := hF.get 13 24 (by kernel_rfl) (by kernel_rfl)
    obtain rfl : v13 = _ := hv13 _ (Ok.refl _)
    refine wpOp_run (v := .bool true) rfl rfl ?_ (fun _ _ => rfl) (Ok.refl _)
    clear hF
    go_simp
  · intro a' w' hF hR
    obtain ⟨v14, hv14, e25⟩ := hF.get 14 25 (by kernel_rfl) (by kernel_rfl)
    obtain rfl : v14 = _ := hv14 _ (Ok.refl _)
    refine wpOp_run (v := .bool true) rfl rfl ?_ (fun _ _ => rfl) (Ok.refl _)
    clear hF
    go_simp
  intro vs w' hV hR
  have e15 : vs 15 = .bool true := hV 15 (by decide) _ (Ok.refl _)
  have hok2 := HOK.out.trans ((Ok.refl w1).drew.trans hR)
  clear hV HP KA KR
  simp only [putFrom, e15]
  simp only [Act.put, List.setIfInBounds_toArray, List.set_cons_zero, List.set_cons_succ]
  go_wp2
  go_ret
  exact ⟨rfl, hok2⟩
theorem own : ownKnob Try.prog.godebug = none := by kernel_rfl
theorem laidOut : laidOutB Try.prog = true := by kernel_rfl
set_option maxRecDepth 100000 in
theorem lifted (os : Os) (started : os.Started) (H : Type) (enc : TypeId × Value → H) :
    ReturnsInHanded {} Try.checked os 3 .any (Rows.pulseFiresSpec.pre6 enc Try.prog Try.f3 Rows.pulseFiresRow.domain false) (Rows.pulseFiresSpec.post enc Try.prog Try.f3 false true false false) := by
  refine returnsInHanded_of_change (C := Try.checked) own started (by kernel_rfl) Try.func3
    (ChangeSpec.witness6 (enc := enc) (C := Try.checked) false ⟨#[], #[.agg #[.int .i64 0, .int .i64 0, .int .i64 0, .int .i64 0, .int .i64 0, .int .i64 0, .int .i64 0, .int .i64 0, .int .i64 0, .int .i64 0, .int .i64 0, .int .i64 0], .int .i64 0, .int .i64 0, .int .i64 0], []⟩ 8 (by kernel_rfl) (by kernel_rfl) (by kernel_rfl) (by kernel_rfl)) ?_
  intro W base args ds gs before hval0 hW _ _
  have hval : ∀ (j : Nat) t v, Try.f3.params[j]? = some t → args[j]? = some v → Value.okWide Try.prog W .any base t v := hval0
  have hW' := hW
  obtain ⟨p, q, hA, hV, rfl, _, _⟩ := hW
  obtain ⟨rfl, rfl⟩ := trodVars_none hV
  replace hA : DataW.TrodAll enc Try.prog W 0 (fun _ => true) true Try.f3.params.toList args.toList ds p := hA
  rw [Try.params3] at hA hval
  obtain ⟨v0, vs0, d0, ds0, p0, q0, hargs, rfl, rfl, h0, r0⟩ := trodAll_cons hA
  obtain ⟨v1, vs1, d1, ds1, p1, q1, rfl, rfl, rfl, h1, r1⟩ := trodAll_cons r0
  obtain ⟨v2, vs2, d2, ds2, p2, q2, rfl, rfl, rfl, h2, r2⟩ := trodAll_cons r1
  obtain ⟨v3, vs3, d3, ds3, p3, q3, rfl, rfl, rfl, h3, r3⟩ := trodAll_cons r2
  obtain ⟨rfl, rfl, rfl⟩ := trodAll_nil r3
  obtain rfl : args = #[v0, v1, v2, v3] := by cases args; simp_all
  obtain ⟨p0, rfl, wp0⟩ := open_par Try.underlying23 rfl (by kernel_rfl) (by kernel_rfl) (by kernel_rfl) (hval 0 23 v0 rfl rfl) h0
  obtain ⟨a1, rfl, rfl, rfl, w1⟩ := open_int Try.underlying3 (hval 1 3 v1 rfl rfl) h1
  obtain ⟨a2, rfl, rfl, rfl, w2⟩ := open_int Try.underlying3 (hval 2 3 v2 rfl rfl) h2
  obtain ⟨a3, rfl, rfl, rfl, w3⟩ := open_int Try.underlying3 (hval 3 3 v3 rfl rfl) h3
  refine (walk W p0 wp0 a1 w1 a2 w2 a3 w3).mono fun e W' ⟨he, hb⟩ => ?_
  subst he
  exact ⟨_, rfl, law_post hW' laidOut (by rw [Try.params3]; exact params_ok (by kernel_rfl)) rfl (by kernel_rfl) Try.underlying4 rfl rfl rfl hb⟩
theorem over : Rows.pulseFiresRow.holds Try.pinned (OpenSpec.ofChange Rows.pulseFiresSpec) :=
  OpenClaim.holds_of_wide 3 Try.f3 rfl rfl rfl rfl rfl rfl rfl ⟨rfl, rfl, rfl, rfl, rfl⟩ rfl rfl rfl rfl rfl (by kernel_rfl) Try.func3 (by kernel_rfl)
    (of_decide_eq_true (by kernel_rfl)) (by unfold Func.isWrapper; first | (rw [if_pos (by decide +kernel)]; kernel_rfl) | (rw [if_neg (by decide +kernel)]; exact ⟨rfl, rfl⟩))
    (fun os started H enc _ => lifted os started H enc)
theorem proved : Rows.PulseFiresSaid := over
end Go.Proofs.Ythodgpgcpichkaa.pulseFires
