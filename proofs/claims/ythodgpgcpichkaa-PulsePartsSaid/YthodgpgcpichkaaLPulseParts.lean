/- PulseParts: for every fabric's numbers and three times the law answers true: what fires from one time to a later one is what fires up to a time between, and then from there. No condition. -/
import Derived.Test.YthodgpgcpichkaaC13d
import Derived.Test.YthodgpgcpichkaaW06
import Derived.Test.YthodgpgcpichkaaW14
import Derived.Test.YthodgpgcpichkaaW18
import Derived.Test.YthodgpgcpichkaaW19
namespace Go.Proofs.Ythodgpgcpichkaa.pulseParts
open Go.ChangeShapes Go.WideShapes Go.ChangeAt Go.RowKit
set_option linter.unusedVariables false
set_option maxRecDepth 100000
attribute [local go_sem ↓] Go.wp_at_zero Go.wp_at_succ
/-- What each operation leaves. -/
def VMM (p : Par) (x y z : Int) (N1 N2 : Nat) (l1 l2 : List Int) (w : World) (v : Value) : Nat → Prop
  | 0 => v = parV p
  | 1 => v = .int .i64 x
  | 2 => v = .int .i64 y
  | 3 => ∃ A c, v = .slice A N1 c ∧ IntsAt w A l1
  | 4 => v = parV p
  | 5 => v = .int .i64 y
  | 6 => v = .int .i64 z
  | 7 => ∃ A c, v = .slice A N2 c ∧ IntsAt w A l2
  | 8 => ∃ A c, v = .slice A N1 c ∧ IntsAt w A l1
  | 9 => ∃ A c, v = .slice A N2 c ∧ IntsAt w A l2
  | _ => v = .bool true
/-- It stays so. -/
def VCM (p : Par) (x y z : Int) (N1 N2 : Nat) (l1 l2 : List Int) (i : Nat) (v : Value) (w : World) : Prop := ∀ w', Ok w w' → VMM p x y z N1 N2 l1 l2 w' v i
theorem ints_of_row {W : World} {B n : Nat} {v : Value} {l : List Int} (hn : l.length = n) (h : W.ownsRow B 3 1 v n (l.map (Value.int .i64))) : ∃ A cap, v = .slice A n cap ∧ IntsAt W A l := by
  subst hn
  exact IntsAt.of_own h
theorem row0 (w : World) : (w.alloc (.cells #[] 3)).ownsRow w.heap.size 3 1 (.slice (some ⟨w.heap.size, 0, none⟩) 0 0) ([] : List Int).length (([] : List Int).map (Value.int .i64)) :=
  ⟨by simp, .inr ⟨w.heap.size, 0, #[], rfl, Nat.le_refl _, (MapKept.heap_alloc w _).1, Nat.le_refl _, Nat.zero_le _, by simp, by simp⟩⟩
theorem no0 (w : World) (p : Par) (x y z : Int) (h0 : y < x) : Calls Try.prog 6 #[parV p, .int .i64 x, .int .i64 y, .int .i64 z] w fun e w' => e = .returned (.bool true) ∧ Ok w w' := by
  have HP := Lib.hid (Own.new w (parCells p) 23 rfl)
  have HK := Lib.hid ((Ok.refl w).alloc (.cells (parCells p) 23))
  go_enter Try.func6, Try.ntmps6
  go_wp2_with (go_at_call 7; (with_reducible refine (law13Alive _).mono ?_); rintro e w1 ⟨rfl, hb1⟩; have hP := HP.out.next hb1; have hok := HK.out.trans hb1; clear hb1 HP HK; obtain ⟨c0, c1, c2, c3, c4, c5, c6, c7, c8, c9, c10, c11⟩ := hP.pars; have hPl := hP.lt)
  go_ret
  exact ⟨rfl, hok⟩
theorem no1 (w : World) (p : Par) (x y z : Int) (h0 : x ≤ y) (h1 : z < y) : Calls Try.prog 6 #[parV p, .int .i64 x, .int .i64 y, .int .i64 z] w fun e w' => e = .returned (.bool true) ∧ Ok w w' := by
  have HP := Lib.hid (Own.new w (parCells p) 23 rfl)
  have HK := Lib.hid ((Ok.refl w).alloc (.cells (parCells p) 23))
  go_enter Try.func6, Try.ntmps6
  go_wp2_with (go_at_call 7; (with_reducible refine (law13Alive _).mono ?_); rintro e w1 ⟨rfl, hb1⟩; have hP := HP.out.next hb1; have hok := HK.out.trans hb1; clear hb1 HP HK; obtain ⟨c0, c1, c2, c3, c4, c5, c6, c7, c8, c9, c10, c11⟩ := hP.pars; have hPl := hP.lt)
  go_ret
  exact ⟨rfl, hok⟩
set_option maxHeartbeats 3200000 in
theorem yes (w : World) (p : Par) (x y z : Int) (h0 : x ≤ y) (h1 : y ≤ z) : Calls Try.prog 6 #[parV p, .int .i64 x, .int .i64 y, .int .i64 z] w fun e w' => e = .returned (.bool true) ∧ Ok w w' := by
  have KA := Lib.hid fun w => pulseFired p x y 512 (by omega) w
  have KB := Lib.hid fun w => pulseFired p y z 512 (by omega) w
  have KC := Lib.hid fun w => pulseFired p x z 512 (by omega) w
  unfold FiredEnd at KA KB KC
  have hj : Pulse.count p.pulse x y 512 ≠ 512 → Pulse.count p.pulse x y 512 + Pulse.count p.pulse y z 512 ≤ 512 → Pulse.count p.pulse y z 512 ≠ 512 → Pulse.fired p.pulse x z 512 = Pulse.fired p.pulse x y 512 ++ Pulse.fired p.pulse y z 512 := fun a b c => Pulse.fired_parts h0 h1 a b c
  have n1 : Pulse.count p.pulse x y 512 ≤ 512 := by unfold Pulse.count; omega
  have n2 : Pulse.count p.pulse y z 512 ≤ 512 := by unfold Pulse.count; omega
  have n3 : Pulse.count p.pulse x z 512 ≤ 512 := by unfold Pulse.count; omega
  have HL1 := Lib.hid (Pulse.fired_length p.pulse x y 512)
  have HL2 := Lib.hid (Pulse.fired_length p.pulse y z 512)
  have HL3 := Lib.hid (Pulse.fired_length p.pulse x z 512)
  generalize Pulse.fired p.pulse x y 512 = l1 at KA hj HL1
  generalize Pulse.fired p.pulse y z 512 = l2 at KB hj HL2
  generalize Pulse.fired p.pulse x z 512 = l3 at KC hj HL3
  generalize Pulse.count p.pulse x y 512 = N1 at KA hj n1 HL1
  generalize Pulse.count p.pulse y z 512 = N2 at KB hj n2 HL2
  generalize Pulse.count p.pulse x z 512 = N3 at KC n3 HL3
  have HJ := Lib.hid hj
  clear hj
  have HP := Lib.hid (Own.new w (parCells p) 23 rfl)
  have HK := Lib.hid ((Ok.refl w).alloc (.cells (parCells p) 23))
  go_enter Try.func6, Try.ntmps6
  go_upto_region 5 with (go_at_call 7; (with_reducible refine (law13Alive _).mono ?_); rintro e w1 ⟨rfl, hb1⟩; have hP := HP.out.next hb1; have hok := HK.out.trans hb1; clear hb1 HP HK; obtain ⟨c0, c1, c2, c3, c4, c5, c6, c7, c8, c9, c10, c11⟩ := hP.pars; have hPl := hP.lt)
  have HOK := Lib.hid hok
  clear hok c0 c1 c2 c3 c4 c5 c6 c7 c8 c9 c10 c11 hPl h0 h1
  generalize w.heap.size = B at hP ⊢
  have HP0 := Lib.hid hP.drew
  have HP := Lib.hid fun W' (k : Ok w1.drew W') => hP.drew.next k
  clear hP
  refine wp_region_facts (by kernel_rfl) 55 rfl (VCM p x y z N1 N2 l1 l2) Ok (by kernel_rfl) (fun i v w w' h k w'' k' => h w'' (k.trans k')) (fun a b c => Ok.trans) (Ok.refl _) [some 22, some 23, some 24, some 25, some 26, some 27, some 28, some 29, some 9, some 10] rfl 10 rfl ⟨?_, ?_, ?_, ?_, ?_, ?_, ?_, ?_, ?_, ?_, trivial⟩ ?_
  · intro a' w' hF hR
    have e4 : a'.tmps[4]? = some (.pointer (some ⟨B, 0, none⟩)) := hF.slot 4 (by kernel_rfl) rfl
    obtain ⟨c0, c1, c2, c3, c4, c5, c6, c7, c8, c9, c10, c11⟩ := (HP.out _ hR).pars
    refine wpOp_run (v := parV p) rfl rfl ?_ (fun _ _ => rfl) (Ok.refl _)
    clear hF
    go_simp
  · intro a' w' hF hR
    have e1 : a'.tmps[1]? = some (.int .i64 x) := hF.slot 1 (by kernel_rfl) rfl
    refine wpOp_run (v := .int .i64 x) rfl rfl ?_ (fun _ _ => rfl) (Ok.refl _)
    clear hF
    go_simp
  · intro a' w' hF hR
    have e2 : a'.tmps[2]? = some (.int .i64 y) := hF.slot 2 (by kernel_rfl) rfl
    refine wpOp_run (v := .int .i64 y) rfl rfl ?_ (fun _ _ => rfl) (Ok.refl _)
    clear hF
    go_simp
  · intro a' w' hF hR
    obtain ⟨v0, hv0, e22⟩ := hF.get 0 22 (by kernel_rfl) (by kernel_rfl)
    obtain rfl : v0 = _ := hv0 _ (Ok.refl _)
    obtain ⟨v1, hv1, e23⟩ := hF.get 1 23 (by kernel_rfl) (by kernel_rfl)
    obtain rfl : v1 = _ := hv1 _ (Ok.refl _)
    obtain ⟨v2, hv2, e24⟩ := hF.get 2 24 (by kernel_rfl) (by kernel_rfl)
    obtain rfl : v2 = _ := hv2 _ (Ok.refl _)
    clear hF
    refine wpOp_call (f := 9) (args := #[parV p, .int .i64 x, .int .i64 y, .int .i64 512]) rfl rfl ?_ ((KA.out _).mono ?_)
    · go_simp
    · rintro e w2 ⟨A2, c2, rfl, hI2, hb2⟩; exact ⟨_, rfl, fun w3 k => ⟨A2, c2, rfl, hI2.below k⟩, hb2⟩
  · intro a' w' hF hR
    have e4 : a'.tmps[4]? = some (.pointer (some ⟨B, 0, none⟩)) := hF.slot 4 (by kernel_rfl) rfl
    obtain ⟨c0, c1, c2, c3, c4, c5, c6, c7, c8, c9, c10, c11⟩ := (HP.out _ hR).pars
    refine wpOp_run (v := parV p) rfl rfl ?_ (fun _ _ => rfl) (Ok.refl _)
    clear hF
    go_simp
  · intro a' w' hF hR
    have e2 : a'.tmps[2]? = some (.int .i64 y) := hF.slot 2 (by kernel_rfl) rfl
    refine wpOp_run (v := .int .i64 y) rfl rfl ?_ (fun _ _ => rfl) (Ok.refl _)
    clear hF
    go_simp
  · intro a' w' hF hR
    have e3 : a'.tmps[3]? = some (.int .i64 z) := hF.slot 3 (by kernel_rfl) rfl
    refine wpOp_run (v := .int .i64 z) rfl rfl ?_ (fun _ _ => rfl) (Ok.refl _)
    clear hF
    go_simp
  · intro a' w' hF hR
    obtain ⟨v4, hv4, e26⟩ := hF.get 4 26 (by kernel_rfl) (by kernel_rfl)
    obtain rfl : v4 = _ := hv4 _ (Ok.refl _)
    obtain ⟨v5, hv5, e27⟩ := hF.get 5 27 (by kernel_rfl) (by kernel_rfl)
    obtain rfl : v5 = _ := hv5 _ (Ok.refl _)
    obtain ⟨v6, hv6, e28⟩ := hF.get 6 28 (by kernel_rfl) (by kernel_rfl)
    obtain rfl : v6 = _ := hv6 _ (Ok.refl _)
    clear hF
    refine wpOp_call (f := 9) (args := #[parV p, .int .i64 y, .int .i64 z, .int .i64 512]) rfl rfl ?_ ((KB.out _).mono ?_)
    · go_simp
    · rintro e w2 ⟨A2, c2, rfl, hI2, hb2⟩; exact ⟨_, rfl, fun w3 k => ⟨A2, c2, rfl, hI2.below k⟩, hb2⟩
  · intro a' w' hF hR
    obtain ⟨v3, hv3, e25⟩ := hF.get 3 25 (by kernel_rfl) (by kernel_rfl)
    obtain ⟨A3, c3, rfl, hp3⟩ := hv3 _ (Ok.refl _)
    refine wpOp_run (v := .slice A3 N1 c3) rfl rfl ?_ (fun w3 k => ⟨A3, c3, rfl, hp3.below k⟩) (Ok.refl _)
    clear hF
    go_simp
  · intro a' w' hF hR
    obtain ⟨v7, hv7, e29⟩ := hF.get 7 29 (by kernel_rfl) (by kernel_rfl)
    obtain ⟨A7, c7, rfl, hp7⟩ := hv7 _ (Ok.refl _)
    refine wpOp_run (v := .slice A7 N2 c7) rfl rfl ?_ (fun w3 k => ⟨A7, c7, rfl, hp7.below k⟩) (Ok.refl _)
    clear hF
    go_simp
  intro vs w2 hV hR
  obtain ⟨A1, k1, e8, hI1⟩ := hV 8 (by decide) _ (Ok.refl _)
  obtain ⟨A2, k2, e9, hI2⟩ := hV 9 (by decide) _ (Ok.refl _)
  have hok := HOK.out.trans ((Ok.refl w1).drew.trans hR)
  have hP := HP0.out.next hR
  obtain ⟨c0, c1, c2, c3, c4, c5, c6, c7, c8, c9, c10, c11⟩ := hP.pars
  have hPl := hP.lt
  have HI1 := Lib.hid hI1
  have HI2 := Lib.hid hI2
  clear hV HP HP0 KA KB HOK hR hI1 hI2
  simp only [putFrom, e8, e9]
  simp only [Act.put, List.setIfInBounds_toArray, List.set_cons_zero, List.set_cons_succ]
  clear e8 e9
  by_cases q1 : N1 = 512
  · go_wp2
    go_ret
    exact ⟨rfl, hok⟩
  by_cases q2 : 512 < N1 + N2
  · go_wp2
    go_ret
    exact ⟨rfl, hok⟩
  by_cases q3 : N2 = 512
  · go_wp2_with (go_at_call 9; refine (KC.out _).mono ?_; rintro e w3 ⟨A3, k3, rfl, hI3, hb1⟩; replace hok := hok.trans hb1; clear hb1 hI3 c0 c1 c2 c3 c4 c5 c6 c7 c8 c9 c10 c11 hPl hP)
    all_goals first
      | (exfalso; omega)
      | (go_ret; exact ⟨rfl, hok⟩)
  have HJ2 := Lib.hid (HJ.out q1 (by omega) q3)
  clear HJ
  have m1 : ¬ (N1 : Int) = 512 := by omega
  have m2 : ¬ (512 : Int) < (N1 : Int) + N2 := by omega
  have m3 : ¬ (N2 : Int) = 512 := by omega
  go_wp2_with (first
    | (go_at_call 9; refine (KC.out _).mono ?_; rintro e w3 ⟨A3, k3, rfl, hI3, hb1⟩; have HI3 := Lib.hid hI3; have HB := Lib.hid hb1; have HK := Lib.hid (hok.trans hb1); clear hb1 hok hI3 c0 c1 c2 c3 c4 c5 c6 c7 c8 c9 c10 c11 hPl hP)
    | (at_builtin; refine wpList_append_ints rfl (.tmp 49) (.tmp 50) 26 rfl w3.heap.size 3 Try.underlying26 info13 _ ([] : List Int) 0 rfl rfl (row0 w3) A1 l1 N1 k1 HL1.out.symm rfl ((HI1.out.below HB.out).below (below_alloc _ _)) (by have h1 := HL1.out; simp; omega) (by simp) ?_; intro v4 w4 hr4 hg4; have HR4 := Lib.hid hr4; have HO4 := Lib.hid (show Ok w3 w4 from Below.grown ((Ok.refl w3).alloc _) hg4 ((Ok.refl w3).alloc _).size fun j hj => ((row0 w3).lt j hj).1); clear hr4 hg4)
    | (at_builtin; refine wpList_append_ints rfl (.tmp 51) (.tmp 52) 26 rfl w3.heap.size 3 Try.underlying26 info13 v4 ([] ++ l1) _ rfl rfl HR4.out A2 l2 N2 k2 HL2.out.symm rfl ((HI2.out.below HB.out).below HO4.out) (by have h1 := HL1.out; have h2 := HL2.out; simp; omega) (by have := HO4.out.size; omega) ?_; intro v5 w5 hr5 hg5; have HO5 := Lib.hid (show Ok w3 w5 from Below.grown HO4.out hg5 HO4.out.size fun j hj => (HR4.out.lt j hj).1); rw [List.nil_append, ← HJ2.out, HL3.out] at hr5; obtain ⟨A5, k5, rfl, hI5⟩ := ints_of_row HL3.out hr5; have HI5 := Lib.hid hI5; clear hr5 hg5 hI5)
    | (go_at_call 8; refine (sameTrue A3 A5 l3 N3 k3 k5 _ HL3.out (HI3.out.below HO5.out) HI5.out (by omega)).mono ?_; rintro e w6 ⟨rfl, hb6⟩; have hok := (HK.out.trans HO5.out).trans hb6; clear hb6))
  go_ret
  exact ⟨rfl, hok⟩
theorem walk (w : World) (p : Par) (wp : ParWf p) (x : Int) (wx : (Lit.int .i64 x).wf = true) (y : Int) (wy : (Lit.int .i64 y).wf = true) (z : Int) (wz : (Lit.int .i64 z).wf = true) :
    Calls Try.prog 6 #[parV p, .int .i64 x, .int .i64 y, .int .i64 z] w fun e w' => e = .returned (.bool true) ∧ Below w.heap.size w w' := by
  show Calls Try.prog 6 #[parV p, .int .i64 x, .int .i64 y, .int .i64 z] w fun e w' => e = .returned (.bool true) ∧ Ok w w' 
  by_cases h0 : y < x
  · exact no0 w p x y z h0
  replace h0 : x ≤ y := by omega
  by_cases h1 : z < y
  · exact no1 w p x y z h0 h1
  exact yes w p x y z h0 (by omega)
theorem own : ownKnob Try.prog.godebug = none := by kernel_rfl
theorem laidOut : laidOutB Try.prog = true := by kernel_rfl
set_option maxRecDepth 100000 in
theorem lifted (os : Os) (started : os.Started) (H : Type) (enc : TypeId × Value → H) :
    ReturnsInHanded {} Try.checked os 6 .any (Rows.pulsePartsSpec.pre6 enc Try.prog Try.f6 Rows.pulsePartsRow.domain false) (Rows.pulsePartsSpec.post enc Try.prog Try.f6 false true false false) := by
  refine returnsInHanded_of_change (C := Try.checked) own started (by kernel_rfl) Try.func6
    (ChangeSpec.witness6 (enc := enc) (C := Try.checked) false ⟨#[], #[.agg #[.int .i64 0, .int .i64 0, .int .i64 0, .int .i64 0, .int .i64 0, .int .i64 0, .int .i64 0, .int .i64 0, .int .i64 0, .int .i64 0, .int .i64 0, .int .i64 0], .int .i64 0, .int .i64 0, .int .i64 0], []⟩ 8 (by kernel_rfl) (by kernel_rfl) (by kernel_rfl) (by kernel_rfl)) ?_
  intro W base args ds gs before hval0 hW _ _
  have hval : ∀ (j : Nat) t v, Try.f6.params[j]? = some t → args[j]? = some v → Value.okWide Try.prog W .any base t v := hval0
  have hW' := hW
  obtain ⟨p, q, hA, hV, rfl, _, _⟩ := hW
  obtain ⟨rfl, rfl⟩ := trodVars_none hV
  replace hA : DataW.TrodAll enc Try.prog W 0 (fun _ => true) true Try.f6.params.toList args.toList ds p := hA
  rw [Try.params6] at hA hval
  obtain ⟨v0, vs0, d0, ds0, p0, q0, hargs, rfl, rfl, h0, r0⟩ := trodAll_cons hA
  obtain ⟨v1, vs1, d1, ds1, p1, q1, rfl, rfl, rfl, h1, r1⟩ := trodAll_cons r0
  obtain ⟨v2, vs2, d2, ds2, p2, q2, rfl, rfl, rfl, h2, r2⟩ := trodAll_cons r1
  obtain ⟨v3, vs3, d3, ds3, p3, q3, rfl, rfl, rfl, h3, r3⟩ := trodAll_cons r2
  obtain ⟨rfl, rfl, rfl⟩ := trodAll_nil r3
  obtain rfl : args = #[v0, v1, v2, v3] := by cases args; simp_all
  obtain ⟨p0, rfl, wp0⟩ := open_par Try.underlying23 rfl (by kernel_rfl) (by kernel_rfl) (by kernel_rfl) (hval 0 23 v0 rfl rfl) h0
  obtain ⟨a1, rfl, rfl, rfl, w1⟩ := open_int Try.underlying3 (hval 1 3 v1 rfl rfl) h1
  obtain ⟨a2, rfl, rfl, rfl, w2⟩ := open_int Try.underlying3 (hval 2 3 v2 rfl rfl) h2
  obtain ⟨a3, rfl, rfl, rfl, w3⟩ := open_int Try.underlying3 (hval 3 3 v3 rfl rfl) h3
  refine (walk W p0 wp0 a1 w1 a2 w2 a3 w3).mono fun e W' ⟨he, hb⟩ => ?_
  subst he
  exact ⟨_, rfl, law_post hW' laidOut (by rw [Try.params6]; exact params_ok (by kernel_rfl)) rfl (by kernel_rfl) Try.underlying4 rfl rfl rfl hb⟩
theorem over : Rows.pulsePartsRow.holds Try.pinned (OpenSpec.ofChange Rows.pulsePartsSpec) :=
  OpenClaim.holds_of_wide 6 Try.f6 rfl rfl rfl rfl rfl rfl rfl ⟨rfl, rfl, rfl, rfl, rfl⟩ rfl rfl rfl rfl rfl (by kernel_rfl) Try.func6 (by kernel_rfl)
    (of_decide_eq_true (by kernel_rfl)) (by unfold Func.isWrapper; first | (rw [if_pos (by decide +kernel)]; kernel_rfl) | (rw [if_neg (by decide +kernel)]; exact ⟨rfl, rfl⟩))
    (fun os started H enc _ => lifted os started H enc)
theorem proved : Rows.PulsePartsSaid := over
end Go.Proofs.Ythodgpgcpichkaa.pulseParts
