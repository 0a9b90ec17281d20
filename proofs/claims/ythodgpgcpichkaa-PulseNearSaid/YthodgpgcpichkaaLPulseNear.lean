/- PulseNear: for every fabric's numbers and two times the law answers true: times not further from one another than a pulse have numbers that part by one at most, and what fires between them is that one. No condition. -/
import Derived.Test.YthodgpgcpichkaaC13d
import Derived.Test.YthodgpgcpichkaaW06
import Derived.Test.YthodgpgcpichkaaW14
import Derived.Test.YthodgpgcpichkaaW18
import Derived.Test.YthodgpgcpichkaaC13e
namespace Go.Proofs.Ythodgpgcpichkaa.pulseNear
open Go.ChangeShapes Go.WideShapes Go.ChangeAt Go.RowKit
set_option linter.unusedVariables false
set_option maxRecDepth 100000
attribute [local go_sem ↓] Go.wp_at_zero Go.wp_at_succ
/-- What each operation leaves. -/
def VMM (p : Par) (a b x y : Int) (w : World) (v : Value) : Nat → Prop
  | 0 => v = parV p
  | 1 => v = .int .i64 a
  | 2 => v = .int .i64 x
  | 3 => v = parV p
  | 4 => v = .int .i64 b
  | 5 => v = .int .i64 y
  | 6 => v = .int .i64 x
  | 7 => v = .int .i64 y
  | _ => v = .bool true
/-- It stays so. -/
def VCM (p : Par) (a b x y : Int) (i : Nat) (v : Value) (w : World) : Prop := ∀ w', Ok w w' → VMM p a b x y w' v i
/-- What each operation leaves. -/
def VME0 (p : Par) (a x y g s : Int) (A : Option Addr) (c : Nat) (w : World) (v : Value) : Nat → Prop
  | 0 => v = .int .i64 y
  | 1 => v = .int .i64 x
  | 2 => v = .int .i64 0
  | 3 => v = .bool true
  | 4 => v = .bool true
  | 5 => v = .int .i64 y
  | 6 => v = .int .i64 x
  | 7 => v = .int .i64 0
  | 8 => v = .bool true
  | 9 => v = .bool true
  | 10 => v = .bool true
  | 11 => v = .slice A 0 c
  | 12 => v = .int .i64 0
  | 13 => v = .int .i64 y
  | 14 => v = .int .i64 x
  | 15 => v = .int .i64 0
  | 16 => v = .bool true
  | 17 => v = .bool true
  | 18 => v = .bool true
  | 19 => v = .slice A 0 c
  | 20 => v = .int .i64 0
  | 21 => v = .bool true
  | 22 => v = .bool true
  | 23 => v = undef
  | 24 => v = undef
  | 25 => v = undef
  | 26 => v = undef
  | 27 => v = undef
  | 28 => v = .bool true
  | 29 => v = .bool true
  | 30 => v = .bool true
  | 31 => v = parV p
  | 32 => v = .int .i64 x
  | 33 => v = .int .i64 g
  | 34 => v = parV p
  | 35 => v = .int .i64 a
  | 36 => v = .int .i64 s
  | 37 => v = .int .i64 a
  | 38 => v = .int .i64 a
  | 39 => v = .bool true
  | 40 => v = .bool true
  | 41 => v = .bool true
  | _ => v = .bool true
/-- It stays so. -/
def VCE0 (p : Par) (a x y g s : Int) (A : Option Addr) (c : Nat) (i : Nat) (v : Value) (w : World) : Prop := ∀ w', Ok w w' → VME0 p a x y g s A c w' v i
/-- What each operation leaves. -/
def VME1 (p : Par) (a x y g s : Int) (bb off c : Nat) (w : World) (v : Value) : Nat → Prop
  | 0 => v = .int .i64 y
  | 1 => v = .int .i64 x
  | 2 => v = .int .i64 1
  | 3 => v = .bool true
  | 4 => v = .bool true
  | 5 => v = .int .i64 y
  | 6 => v = .int .i64 x
  | 7 => v = .int .i64 1
  | 8 => v = .bool true
  | 9 => v = .bool true
  | 10 => v = .bool true
  | 11 => v = .slice (some ⟨bb, off, none⟩) 1 c
  | 12 => v = .int .i64 1
  | 13 => v = .int .i64 y
  | 14 => v = .int .i64 x
  | 15 => v = .int .i64 1
  | 16 => v = .bool true
  | 17 => v = .bool true
  | 18 => v = .bool true
  | 19 => v = .slice (some ⟨bb, off, none⟩) 1 c
  | 20 => v = .int .i64 1
  | 21 => v = .bool false
  | 22 => v = .bool false
  | 23 => v = .slice (some ⟨bb, off, none⟩) 1 c
  | 24 => v = .pointer (some ⟨bb, off, none⟩)
  | 25 => v = .int .i64 y
  | 26 => v = .int .i64 y
  | 27 => v = .bool true
  | 28 => v = .bool true
  | 29 => v = .bool true
  | 30 => v = .bool true
  | 31 => v = parV p
  | 32 => v = .int .i64 x
  | 33 => v = .int .i64 g
  | 34 => v = parV p
  | 35 => v = .int .i64 a
  | 36 => v = .int .i64 s
  | 37 => v = .int .i64 a
  | 38 => v = .int .i64 a
  | 39 => v = .bool true
  | 40 => v = .bool true
  | 41 => v = .bool true
  | _ => v = .bool true
/-- It stays so. -/
def VCE1 (p : Par) (a x y g s : Int) (bb off c : Nat) (i : Nat) (v : Value) (w : World) : Prop := ∀ w', Ok w w' → VME1 p a x y g s bb off c w' v i
theorem no0 (w : World) (p : Par) (a b : Int) (h0 : p.pulse < 1) : Calls Try.prog 5 #[parV p, .int .i64 a, .int .i64 b] w fun e w' => e = .returned (.bool true) ∧ Ok w w' := by
  have HP := Lib.hid (Own.new w (parCells p) 23 rfl)
  have HK := Lib.hid ((Ok.refl w).alloc (.cells (parCells p) 23))
  go_enter Try.func5, Try.ntmps5
  go_wp2_with (go_at_call 7; (with_reducible refine (law13Alive _).mono ?_); rintro e w1 ⟨rfl, hb1⟩; have hP := HP.out.next hb1; have hok := HK.out.trans hb1; clear hb1 HP HK; obtain ⟨c0, c1, c2, c3, c4, c5, c6, c7, c8, c9, c10, c11⟩ := hP.pars; have hPl := hP.lt)
  go_ret
  exact ⟨rfl, hok⟩
theorem no1 (w : World) (p : Par) (a b : Int) (h0 : 1 ≤ p.pulse) (h1 : 1152921504606846976 < a) : Calls Try.prog 5 #[parV p, .int .i64 a, .int .i64 b] w fun e w' => e = .returned (.bool true) ∧ Ok w w' := by
  have HP := Lib.hid (Own.new w (parCells p) 23 rfl)
  have HK := Lib.hid ((Ok.refl w).alloc (.cells (parCells p) 23))
  go_enter Try.func5, Try.ntmps5
  go_wp2_with (go_at_call 7; (with_reducible refine (law13Alive _).mono ?_); rintro e w1 ⟨rfl, hb1⟩; have hP := HP.out.next hb1; have hok := HK.out.trans hb1; clear hb1 HP HK; obtain ⟨c0, c1, c2, c3, c4, c5, c6, c7, c8, c9, c10, c11⟩ := hP.pars; have hPl := hP.lt)
  go_ret
  exact ⟨rfl, hok⟩
theorem no2 (w : World) (p : Par) (a b : Int) (h0 : 1 ≤ p.pulse) (h1 : a ≤ 1152921504606846976) (h2 : a < -1152921504606846976) : Calls Try.prog 5 #[parV p, .int .i64 a, .int .i64 b] w fun e w' => e = .returned (.bool true) ∧ Ok w w' := by
  have HP := Lib.hid (Own.new w (parCells p) 23 rfl)
  have HK := Lib.hid ((Ok.refl w).alloc (.cells (parCells p) 23))
  go_enter Try.func5, Try.ntmps5
  go_wp2_with (go_at_call 7; (with_reducible refine (law13Alive _).mono ?_); rintro e w1 ⟨rfl, hb1⟩; have hP := HP.out.next hb1; have hok := HK.out.trans hb1; clear hb1 HP HK; obtain ⟨c0, c1, c2, c3, c4, c5, c6, c7, c8, c9, c10, c11⟩ := hP.pars; have hPl := hP.lt)
  go_ret
  exact ⟨rfl, hok⟩
theorem no3 (w : World) (p : Par) (a b : Int) (h0 : 1 ≤ p.pulse) (h1 : a ≤ 1152921504606846976) (h2 : -1152921504606846976 ≤ a) (h3 : b < a) : Calls Try.prog 5 #[parV p, .int .i64 a, .int .i64 b] w fun e w' => e = .returned (.bool true) ∧ Ok w w' := by
  have HP := Lib.hid (Own.new w (parCells p) 23 rfl)
  have HK := Lib.hid ((Ok.refl w).alloc (.cells (parCells p) 23))
  go_enter Try.func5, Try.ntmps5
  go_wp2_with (go_at_call 7; (with_reducible refine (law13Alive _).mono ?_); rintro e w1 ⟨rfl, hb1⟩; have hP := HP.out.next hb1; have hok := HK.out.trans hb1; clear hb1 HP HK; obtain ⟨c0, c1, c2, c3, c4, c5, c6, c7, c8, c9, c10, c11⟩ := hP.pars; have hPl := hP.lt)
  go_ret
  exact ⟨rfl, hok⟩
theorem no4a (w : World) (p : Par) (a b : Int) (h0 : 1 ≤ p.pulse) (h1 : a ≤ 1152921504606846976) (h2 : -1152921504606846976 ≤ a) (h3 : a ≤ b) (h4 : 1152921504606846976 < b) (W : Int) (hW : IntKind.i64.wrap (b - a) = W) (q : p.pulse < W) : Calls Try.prog 5 #[parV p, .int .i64 a, .int .i64 b] w fun e w' => e = .returned (.bool true) ∧ Ok w w' := by
  have HP := Lib.hid (Own.new w (parCells p) 23 rfl)
  have HK := Lib.hid ((Ok.refl w).alloc (.cells (parCells p) 23))
  go_enter Try.func5, Try.ntmps5
  go_wp2_with (go_at_call 7; (with_reducible refine (law13Alive _).mono ?_); rintro e w1 ⟨rfl, hb1⟩; have hP := HP.out.next hb1; have hok := HK.out.trans hb1; clear hb1 HP HK; obtain ⟨c0, c1, c2, c3, c4, c5, c6, c7, c8, c9, c10, c11⟩ := hP.pars; have hPl := hP.lt)
  go_ret
  exact ⟨rfl, hok⟩
theorem no4b (w : World) (p : Par) (a b : Int) (h0 : 1 ≤ p.pulse) (h1 : a ≤ 1152921504606846976) (h2 : -1152921504606846976 ≤ a) (h3 : a ≤ b) (h4 : 1152921504606846976 < b) (W : Int) (hW : IntKind.i64.wrap (b - a) = W) (q : ¬ p.pulse < W) : Calls Try.prog 5 #[parV p, .int .i64 a, .int .i64 b] w fun e w' => e = .returned (.bool true) ∧ Ok w w' := by
  have HP := Lib.hid (Own.new w (parCells p) 23 rfl)
  have HK := Lib.hid ((Ok.refl w).alloc (.cells (parCells p) 23))
  go_enter Try.func5, Try.ntmps5
  go_wp2_with (go_at_call 7; (with_reducible refine (law13Alive _).mono ?_); rintro e w1 ⟨rfl, hb1⟩; have hP := HP.out.next hb1; have hok := HK.out.trans hb1; clear hb1 HP HK; obtain ⟨c0, c1, c2, c3, c4, c5, c6, c7, c8, c9, c10, c11⟩ := hP.pars; have hPl := hP.lt)
  go_ret
  exact ⟨rfl, hok⟩
theorem no5 (w : World) (p : Par) (a b : Int) (h0 : 1 ≤ p.pulse) (h1 : a ≤ 1152921504606846976) (h2 : -1152921504606846976 ≤ a) (h3 : a ≤ b) (h4 : b ≤ 1152921504606846976) (h5 : p.pulse < b - a) : Calls Try.prog 5 #[parV p, .int .i64 a, .int .i64 b] w fun e w' => e = .returned (.bool true) ∧ Ok w w' := by
  have HP := Lib.hid (Own.new w (parCells p) 23 rfl)
  have HK := Lib.hid ((Ok.refl w).alloc (.cells (parCells p) 23))
  go_enter Try.func5, Try.ntmps5
  go_wp2_with (go_at_call 7; (with_reducible refine (law13Alive _).mono ?_); rintro e w1 ⟨rfl, hb1⟩; have hP := HP.out.next hb1; have hok := HK.out.trans hb1; clear hb1 HP HK; obtain ⟨c0, c1, c2, c3, c4, c5, c6, c7, c8, c9, c10, c11⟩ := hP.pars; have hPl := hP.lt)
  go_ret
  exact ⟨rfl, hok⟩
set_option maxHeartbeats 3200000 in
theorem yes0 (w : World) (p : Par) (a b : Int) (h0 : 1 ≤ p.pulse) (h1 : a ≤ 1152921504606846976) (h2 : -1152921504606846976 ≤ a) (h3 : a ≤ b) (h4 : b ≤ 1152921504606846976) (h5 : b - a ≤ p.pulse) (x y : Int) (hx : Pulse.num p.pulse a = x) (hy : Pulse.num p.pulse b = y) (hk : y - x = 0) (hs : Sat.mul x (Wide.one p.pulse) + Pulse.ph p.pulse a = a) (hl : Pulse.fired p.pulse a b 5 = []) : Calls Try.prog 5 #[parV p, .int .i64 a, .int .i64 b] w fun e w' => e = .returned (.bool true) ∧ Ok w w' := by
  have KA := Lib.hid fun w => pulseNumber p a w
  have KB := Lib.hid fun w => pulseNumber p b w
  have KF := Lib.hid fun w => pulseFired p a b 5 (by omega) w
  have KG := Lib.hid fun w => pulseBegin p x w
  have KH := Lib.hid fun w => pulsePhase p a w
  rw [hx] at KA
  rw [hy] at KB
  unfold FiredEnd at KF
  rw [show Pulse.count p.pulse a b 5 = 0 by rw [← Pulse.fired_length, hl]; rfl, hl] at KF
  have HW := Lib.hid (show IntKind.i64.wrap (y - x) = 0 by rw [hk]; rfl)
  have hsb : -9223372036854775808 ≤ a ∧ a ≤ 9223372036854775807 := by omega
  generalize Sat.mul x (Wide.one p.pulse) = g at KG hs
  generalize Pulse.ph p.pulse a = s at KH hs
  have HS := Lib.hid (show IntKind.i64.wrap (g + s) = a by rw [hs]; exact IntWalk.i64_in _ hsb)
  clear hx hy hk hs hl hsb
  have HP := Lib.hid (Own.new w (parCells p) 23 rfl)
  have HK := Lib.hid ((Ok.refl w).alloc (.cells (parCells p) 23))
  go_enter Try.func5, Try.ntmps5
  go_upto_region 5 with (go_at_call 7; (with_reducible refine (law13Alive _).mono ?_); rintro e w1 ⟨rfl, hb1⟩; have hP := HP.out.next hb1; have hok := HK.out.trans hb1; clear hb1 HP HK; obtain ⟨c0, c1, c2, c3, c4, c5, c6, c7, c8, c9, c10, c11⟩ := hP.pars; have hPl := hP.lt)
  have HOK := Lib.hid hok
  clear hok c0 c1 c2 c3 c4 c5 c6 c7 c8 c9 c10 c11 hPl h0 h1 h2 h3 h4 h5
  generalize w.heap.size = B at hP ⊢
  have HP0 := Lib.hid hP.drew
  have HP := Lib.hid fun W' (k : Ok w1.drew W') => hP.drew.next k
  clear hP
  refine wp_region_facts (by kernel_rfl) 91 rfl (VCM p a b x y) Ok (by kernel_rfl) (fun i v w w' h k w'' k' => h w'' (k.trans k')) (fun a b c => Ok.trans) (Ok.refl _) [some 40, some 41, some 42, some 43, some 44, some 45, some 7, some 8] rfl 8 rfl ⟨?_, ?_, ?_, ?_, ?_, ?_, ?_, ?_, trivial⟩ ?_
  · intro a' w' hF hR
    have e3 : a'.tmps[3]? = some (.pointer (some ⟨B, 0, none⟩)) := hF.slot 3 (by kernel_rfl) rfl
    obtain ⟨c0, c1, c2, c3, c4, c5, c6, c7, c8, c9, c10, c11⟩ := (HP.out _ hR).pars
    refine wpOp_run (v := parV p) rfl rfl ?_ (fun _ _ => rfl) (Ok.refl _)
    clear hF
    go_simp
  · intro a' w' hF hR
    have e1 : a'.tmps[1]? = some (.int .i64 a) := hF.slot 1 (by kernel_rfl) rfl
    refine wpOp_run (v := .int .i64 a) rfl rfl ?_ (fun _ _ => rfl) (Ok.refl _)
    clear hF
    go_simp
  · intro a' w' hF hR
    obtain ⟨v0, hv0, e40⟩ := hF.get 0 40 (by kernel_rfl) (by kernel_rfl)
    obtain rfl : v0 = _ := hv0 _ (Ok.refl _)
    obtain ⟨v1, hv1, e41⟩ := hF.get 1 41 (by kernel_rfl) (by kernel_rfl)
    obtain rfl : v1 = _ := hv1 _ (Ok.refl _)
    clear hF
    refine wpOp_call (f := 11) (args := #[parV p, .int .i64 a]) rfl rfl ?_ ((KA.out _).mono ?_)
    · go_simp
    · rintro e w2 ⟨rfl, hb2⟩; exact ⟨_, rfl, fun _ _ => rfl, hb2⟩
  · intro a' w' hF hR
    have e3 : a'.tmps[3]? = some (.pointer (some ⟨B, 0, none⟩)) := hF.slot 3 (by kernel_rfl) rfl
    obtain ⟨c0, c1, c2, c3, c4, c5, c6, c7, c8, c9, c10, c11⟩ := (HP.out _ hR).pars
    refine wpOp_run (v := parV p) rfl rfl ?_ (fun _ _ => rfl) (Ok.refl _)
    clear hF
    go_simp
  · intro a' w' hF hR
    have e2 : a'.tmps[2]? = some (.int .i64 b) := hF.slot 2 (by kernel_rfl) rfl
    refine wpOp_run (v := .int .i64 b) rfl rfl ?_ (fun _ _ => rfl) (Ok.refl _)
    clear hF
    go_simp
  · intro a' w' hF hR
    obtain ⟨v3, hv3, e43⟩ := hF.get 3 43 (by kernel_rfl) (by kernel_rfl)
    obtain rfl : v3 = _ := hv3 _ (Ok.refl _)
    obtain ⟨v4, hv4, e44⟩ := hF.get 4 44 (by kernel_rfl) (by kernel_rfl)
    obtain rfl : v4 = _ := hv4 _ (Ok.refl _)
    clear hF
    refine wpOp_call (f := 11) (args := #[parV p, .int .i64 b]) rfl rfl ?_ ((KB.out _).mono ?_)
    · go_simp
    · rintro e w2 ⟨rfl, hb2⟩; exact ⟨_, rfl, fun _ _ => rfl, hb2⟩
  · intro a' w' hF hR
    obtain ⟨v2, hv2, e42⟩ := hF.get 2 42 (by kernel_rfl) (by kernel_rfl)
    obtain rfl : v2 = _ := hv2 _ (Ok.refl _)
    refine wpOp_run (v := .int .i64 x) rfl rfl ?_ (fun _ _ => rfl) (Ok.refl _)
    clear hF
    go_simp
  · intro a' w' hF hR
    obtain ⟨v5, hv5, e45⟩ := hF.get 5 45 (by kernel_rfl) (by kernel_rfl)
    obtain rfl : v5 = _ := hv5 _ (Ok.refl _)
    refine wpOp_run (v := .int .i64 y) rfl rfl ?_ (fun _ _ => rfl) (Ok.refl _)
    clear hF
    go_simp
  intro vs w2 hV hR
  have e6 : vs 6 = .int .i64 x := hV 6 (by decide) _ (Ok.refl _)
  have e7 : vs 7 = .int .i64 y := hV 7 (by decide) _ (Ok.refl _)
  have hok := HOK.out.trans ((Ok.refl w1).drew.trans hR)
  have hP := HP0.out.next hR
  obtain ⟨c0, c1, c2, c3, c4, c5, c6, c7, c8, c9, c10, c11⟩ := hP.pars
  have hPl := hP.lt
  clear hV HP HP0 KA KB HOK
  simp only [putFrom, e6, e7]
  simp only [Act.put, List.setIfInBounds_toArray, List.set_cons_zero, List.set_cons_succ]
  go_upto_region 7 with (go_at_call 9; refine (KF.out _).mono ?_; rintro e w3 ⟨A, c, rfl, hI, hb1⟩; replace hP := hP.next hb1; replace hok := hok.trans hb1; clear hb1 c0 c1 c2 c3 c4 c5 c6 c7 c8 c9 c10 c11 hPl)
  have HOK := Lib.hid hok
  have HP := Lib.hid fun W' (k : Ok w3.drew W') => hP.drew.next k
  clear hok hP hI KF e6 e7
  refine wp_region_facts (by kernel_rfl) 91 rfl (VCE0 p a x y g s A c) Ok (by kernel_rfl) (fun i v w w' h k w'' k' => h w'' (k.trans k')) (fun a b c => Ok.trans) (Ok.refl _) [some 50, some 51, some 52, some 53, some 54, some 55, some 56, some 57, some 58, some 59, some 60, some 61, some 62, some 63, some 64, some 65, some 66, some 67, some 68, some 69, some 70, some 71, some 72, some 73, some 74, some 75, some 76, some 77, some 78, some 79, some 80, some 81, some 82, some 83, some 84, some 85, some 86, some 87, some 88, some 89, some 90, some 6] rfl 42 rfl ⟨?_, ?_, ?_, ?_, ?_, ?_, ?_, ?_, ?_, ?_, ?_, ?_, ?_, ?_, ?_, ?_, ?_, ?_, ?_, ?_, ?_, ?_, ?_, ?_, ?_, ?_, ?_, ?_, ?_, ?_, ?_, ?_, ?_, ?_, ?_, ?_, ?_, ?_, ?_, ?_, ?_, ?_, trivial⟩ ?_
  · intro a' w' hF hR
    have e8 : a'.tmps[8]? = some (.int .i64 y) := hF.slot 8 (by kernel_rfl) rfl
    refine wpOp_run (v := .int .i64 y) rfl rfl ?_ (fun _ _ => rfl) (Ok.refl _)
    clear hF
    go_simp
  · intro a' w' hF hR
    have e7 : a'.tmps[7]? = some (.int .i64 x) := hF.slot 7 (by kernel_rfl) rfl
    refine wpOp_run (v := .int .i64 x) rfl rfl ?_ (fun _ _ => rfl) (Ok.refl _)
    clear hF
    go_simp
  · intro a' w' hF hR
    obtain ⟨v0, hv0, e50⟩ := hF.get 0 50 (by kernel_rfl) (by kernel_rfl)
    obtain rfl : v0 = _ := hv0 _ (Ok.refl _)
    obtain ⟨v1, hv1, e51⟩ := hF.get 1 51 (by kernel_rfl) (by kernel_rfl)
    obtain rfl : v1 = _ := hv1 _ (Ok.refl _)
    have hw := HW.out
    refine wpOp_run (v := .int .i64 0) rfl rfl ?_ (fun _ _ => rfl) (Ok.refl _)
    clear hF
    go_simp
  · intro a' w' hF hR
    obtain ⟨v2, hv2, e52⟩ := hF.get 2 52 (by kernel_rfl) (by kernel_rfl)
    obtain rfl : v2 = _ := hv2 _ (Ok.refl _)
    refine wpOp_run (v := .bool true) rfl rfl ?_ (fun _ _ => rfl) (Ok.refl _)
    clear hF
    go_simp
  · intro a' w' hF hR
    obtain ⟨v3, hv3, e53⟩ := hF.get 3 53 (by kernel_rfl) (by kernel_rfl)
    obtain rfl : v3 = _ := hv3 _ (Ok.refl _)
    refine wpOp_run (v := .bool true) rfl rfl ?_ (fun _ _ => rfl) (Ok.refl _)
    clear hF
    go_simp
  · intro a' w' hF hR
    have e8 : a'.tmps[8]? = some (.int .i64 y) := hF.slot 8 (by kernel_rfl) rfl
    obtain ⟨vg, hvg, eg⟩ := hF.get 4 54 (by kernel_rfl) (by kernel_rfl)
    obtain rfl : vg = _ := hvg _ (Ok.refl _)
    refine wpOp_runG (v := .int .i64 y) rfl (wanted_yes rfl (by kernel_rfl) eg) ?_ (fun _ _ => rfl) (Ok.refl _)
    clear hF
    go_simp
  · intro a' w' hF hR
    have e7 : a'.tmps[7]? = some (.int .i64 x) := hF.slot 7 (by kernel_rfl) rfl
    obtain ⟨vg, hvg, eg⟩ := hF.get 4 54 (by kernel_rfl) (by kernel_rfl)
    obtain rfl : vg = _ := hvg _ (Ok.refl _)
    refine wpOp_runG (v := .int .i64 x) rfl (wanted_yes rfl (by kernel_rfl) eg) ?_ (fun _ _ => rfl) (Ok.refl _)
    clear hF
    go_simp
  · intro a' w' hF hR
    obtain ⟨v5, hv5, e55⟩ := hF.get 5 55 (by kernel_rfl) (by kernel_rfl)
    obtain rfl : v5 = _ := hv5 _ (Ok.refl _)
    obtain ⟨v6, hv6, e56⟩ := hF.get 6 56 (by kernel_rfl) (by kernel_rfl)
    obtain rfl : v6 = _ := hv6 _ (Ok.refl _)
    obtain ⟨vg, hvg, eg⟩ := hF.get 4 54 (by kernel_rfl) (by kernel_rfl)
    obtain rfl : vg = _ := hvg _ (Ok.refl _)
    have hw := HW.out
    refine wpOp_runG (v := .int .i64 0) rfl (wanted_yes rfl (by kernel_rfl) eg) ?_ (fun _ _ => rfl) (Ok.refl _)
    clear hF
    go_simp
  · intro a' w' hF hR
    obtain ⟨v7, hv7, e57⟩ := hF.get 7 57 (by kernel_rfl) (by kernel_rfl)
    obtain rfl : v7 = _ := hv7 _ (Ok.refl _)
    obtain ⟨vg, hvg, eg⟩ := hF.get 4 54 (by kernel_rfl) (by kernel_rfl)
    obtain rfl : vg = _ := hvg _ (Ok.refl _)
    refine wpOp_runG (v := .bool true) rfl (wanted_yes rfl (by kernel_rfl) eg) ?_ (fun _ _ => rfl) (Ok.refl _)
    clear hF
    go_simp
  · intro a' w' hF hR
    obtain ⟨v4, hv4, e54⟩ := hF.get 4 54 (by kernel_rfl) (by kernel_rfl)
    obtain rfl : v4 = _ := hv4 _ (Ok.refl _)
    obtain ⟨v8, hv8, e58⟩ := hF.get 8 58 (by kernel_rfl) (by kernel_rfl)
    obtain rfl : v8 = _ := hv8 _ (Ok.refl _)
    refine wpOp_run (v := .bool true) rfl rfl ?_ (fun _ _ => rfl) (Ok.refl _)
    clear hF
    go_simp
  · intro a' w' hF hR
    obtain ⟨v9, hv9, e59⟩ := hF.get 9 59 (by kernel_rfl) (by kernel_rfl)
    obtain rfl : v9 = _ := hv9 _ (Ok.refl _)
    refine wpOp_run (v := .bool true) rfl rfl ?_ (fun _ _ => rfl) (Ok.refl _)
    clear hF
    go_simp
  · intro a' w' hF hR
    have e9 : a'.tmps[9]? = some (.slice A 0 c) := hF.slot 9 (by kernel_rfl) rfl
    obtain ⟨vg, hvg, eg⟩ := hF.get 10 60 (by kernel_rfl) (by kernel_rfl)
    obtain rfl : vg = _ := hvg _ (Ok.refl _)
    refine wpOp_runG (v := .slice A 0 c) rfl (wanted_yes rfl (by kernel_rfl) eg) ?_ (fun _ _ => rfl) (Ok.refl _)
    clear hF
    go_simp
  · intro a' w' hF hR
    obtain ⟨v11, hv11, e61⟩ := hF.get 11 61 (by kernel_rfl) (by kernel_rfl)
    obtain rfl : v11 = _ := hv11 _ (Ok.refl _)
    obtain ⟨vg, hvg, eg⟩ := hF.get 10 60 (by kernel_rfl) (by kernel_rfl)
    obtain rfl : vg = _ := hvg _ (Ok.refl _)
    refine wpOp_runG (v := .int .i64 0) rfl (wanted_yes rfl (by kernel_rfl) eg) ?_ (fun _ _ => rfl) (Ok.refl _)
    clear hF
    go_simp
  · intro a' w' hF hR
    have e8 : a'.tmps[8]? = some (.int .i64 y) := hF.slot 8 (by kernel_rfl) rfl
    obtain ⟨vg, hvg, eg⟩ := hF.get 10 60 (by kernel_rfl) (by kernel_rfl)
    obtain rfl : vg = _ := hvg _ (Ok.refl _)
    refine wpOp_runG (v := .int .i64 y) rfl (wanted_yes rfl (by kernel_rfl) eg) ?_ (fun _ _ => rfl) (Ok.refl _)
    clear hF
    go_simp
  · intro a' w' hF hR
    have e7 : a'.tmps[7]? = some (.int .i64 x) := hF.slot 7 (by kernel_rfl) rfl
    obtain ⟨vg, hvg, eg⟩ := hF.get 10 60 (by kernel_rfl) (by kernel_rfl)
    obtain rfl : vg = _ := hvg _ (Ok.refl _)
    refine wpOp_runG (v := .int .i64 x) rfl (wanted_yes rfl (by kernel_rfl) eg) ?_ (fun _ _ => rfl) (Ok.refl _)
    clear hF
    go_simp
  · intro a' w' hF hR
    obtain ⟨v13, hv13, e63⟩ := hF.get 13 63 (by kernel_rfl) (by kernel_rfl)
    obtain rfl : v13 = _ := hv13 _ (Ok.refl _)
    obtain ⟨v14, hv14, e64⟩ := hF.get 14 64 (by kernel_rfl) (by kernel_rfl)
    obtain rfl : v14 = _ := hv14 _ (Ok.refl _)
    obtain ⟨vg, hvg, eg⟩ := hF.get 10 60 (by kernel_rfl) (by kernel_rfl)
    obtain rfl : vg = _ := hvg _ (Ok.refl _)
    have hw := HW.out
    refine wpOp_runG (v := .int .i64 0) rfl (wanted_yes rfl (by kernel_rfl) eg) ?_ (fun _ _ => rfl) (Ok.refl _)
    clear hF
    go_simp
  · intro a' w' hF hR
    obtain ⟨v12, hv12, e62⟩ := hF.get 12 62 (by kernel_rfl) (by kernel_rfl)
    obtain rfl : v12 = _ := hv12 _ (Ok.refl _)
    obtain ⟨v15, hv15, e65⟩ := hF.get 15 65 (by kernel_rfl) (by kernel_rfl)
    obtain rfl : v15 = _ := hv15 _ (Ok.refl _)
    obtain ⟨vg, hvg, eg⟩ := hF.get 10 60 (by kernel_rfl) (by kernel_rfl)
    obtain rfl : vg = _ := hvg _ (Ok.refl _)
    refine wpOp_runG (v := .bool true) rfl (wanted_yes rfl (by kernel_rfl) eg) ?_ (fun _ _ => rfl) (Ok.refl _)
    clear hF
    go_simp
  · intro a' w' hF hR
    obtain ⟨v10, hv10, e60⟩ := hF.get 10 60 (by kernel_rfl) (by kernel_rfl)
    obtain rfl : v10 = _ := hv10 _ (Ok.refl _)
    obtain ⟨v16, hv16, e66⟩ := hF.get 16 66 (by kernel_rfl) (by kernel_rfl)
    obtain rfl : v16 = _ := hv16 _ (Ok.refl _)
    refine wpOp_run (v := .bool true) rfl rfl ?_ (fun _ _ => rfl) (Ok.refl _)
    clear hF
    go_simp
  · intro a' w' hF hR
    obtain ⟨v17, hv17, e67⟩ := hF.get 17 67 (by kernel_rfl) (by kernel_rfl)
    obtain rfl : v17 = _ := hv17 _ (Ok.refl _)
    refine wpOp_run (v := .bool true) rfl rfl ?_ (fun _ _ => rfl) (Ok.refl _)
    clear hF
    go_simp
  · intro a' w' hF hR
    have e9 : a'.tmps[9]? = some (.slice A 0 c) := hF.slot 9 (by kernel_rfl) rfl
    obtain ⟨vg, hvg, eg⟩ := hF.get 18 68 (by kernel_rfl) (by kernel_rfl)
    obtain rfl : vg = _ := hvg _ (Ok.refl _)
    refine wpOp_runG (v := .slice A 0 c) rfl (wanted_yes rfl (by kernel_rfl) eg) ?_ (fun _ _ => rfl) (Ok.refl _)
    clear hF
    go_simp
  · intro a' w' hF hR
    obtain ⟨v19, hv19, e69⟩ := hF.get 19 69 (by kernel_rfl) (by kernel_rfl)
    obtain rfl : v19 = _ := hv19 _ (Ok.refl _)
    obtain ⟨vg, hvg, eg⟩ := hF.get 18 68 (by kernel_rfl) (by kernel_rfl)
    obtain rfl : vg = _ := hvg _ (Ok.refl _)
    refine wpOp_runG (v := .int .i64 0) rfl (wanted_yes rfl (by kernel_rfl) eg) ?_ (fun _ _ => rfl) (Ok.refl _)
    clear hF
    go_simp
  · intro a' w' hF hR
    obtain ⟨v20, hv20, e70⟩ := hF.get 20 70 (by kernel_rfl) (by kernel_rfl)
    obtain rfl : v20 = _ := hv20 _ (Ok.refl _)
    obtain ⟨vg, hvg, eg⟩ := hF.get 18 68 (by kernel_rfl) (by kernel_rfl)
    obtain rfl : vg = _ := hvg _ (Ok.refl _)
    refine wpOp_runG (v := .bool true) rfl (wanted_yes rfl (by kernel_rfl) eg) ?_ (fun _ _ => rfl) (Ok.refl _)
    clear hF
    go_simp
  · intro a' w' hF hR
    obtain ⟨v21, hv21, e71⟩ := hF.get 21 71 (by kernel_rfl) (by kernel_rfl)
    obtain rfl : v21 = _ := hv21 _ (Ok.refl _)
    obtain ⟨vg, hvg, eg⟩ := hF.get 18 68 (by kernel_rfl) (by kernel_rfl)
    obtain rfl : vg = _ := hvg _ (Ok.refl _)
    refine wpOp_runG (v := .bool true) rfl (wanted_yes rfl (by kernel_rfl) eg) ?_ (fun _ _ => rfl) (Ok.refl _)
    clear hF
    go_simp
  · intro a' w' hF hR
    obtain ⟨vg, hvg, eg⟩ := hF.get 22 72 (by kernel_rfl) (by kernel_rfl)
    obtain rfl : vg = _ := hvg _ (Ok.refl _)
    exact wpOp_skip rfl (wanted_not rfl (by kernel_rfl) eg (by simp)) (fun _ _ => rfl) (Ok.refl _)
  · intro a' w' hF hR
    obtain ⟨vg, hvg, eg⟩ := hF.get 22 72 (by kernel_rfl) (by kernel_rfl)
    obtain rfl : vg = _ := hvg _ (Ok.refl _)
    exact wpOp_skip rfl (wanted_not rfl (by kernel_rfl) eg (by simp)) (fun _ _ => rfl) (Ok.refl _)
  · intro a' w' hF hR
    obtain ⟨vg, hvg, eg⟩ := hF.get 22 72 (by kernel_rfl) (by kernel_rfl)
    obtain rfl : vg = _ := hvg _ (Ok.refl _)
    exact wpOp_skip rfl (wanted_not rfl (by kernel_rfl) eg (by simp)) (fun _ _ => rfl) (Ok.refl _)
  · intro a' w' hF hR
    obtain ⟨vg, hvg, eg⟩ := hF.get 22 72 (by kernel_rfl) (by kernel_rfl)
    obtain rfl : vg = _ := hvg _ (Ok.refl _)
    exact wpOp_skip rfl (wanted_not rfl (by kernel_rfl) eg (by simp)) (fun _ _ => rfl) (Ok.refl _)
  · intro a' w' hF hR
    obtain ⟨vg, hvg, eg⟩ := hF.get 22 72 (by kernel_rfl) (by kernel_rfl)
    obtain rfl : vg = _ := hvg _ (Ok.refl _)
    exact wpOp_skip rfl (wanted_not rfl (by kernel_rfl) eg (by simp)) (fun _ _ => rfl) (Ok.refl _)
  · intro a' w' hF hR
    obtain ⟨v22, hv22, e72⟩ := hF.get 22 72 (by kernel_rfl) (by kernel_rfl)
    obtain rfl : v22 = _ := hv22 _ (Ok.refl _)
    obtain ⟨v27, hv27, e77⟩ := hF.get 27 77 (by kernel_rfl) (by kernel_rfl)
    obtain rfl : v27 = _ := hv27 _ (Ok.refl _)
    obtain ⟨vg, hvg, eg⟩ := hF.get 18 68 (by kernel_rfl) (by kernel_rfl)
    obtain rfl : vg = _ := hvg _ (Ok.refl _)
    refine wpOp_runG (v := .bool true) rfl (wanted_yes rfl (by kernel_rfl) eg) ?_ (fun _ _ => rfl) (Ok.refl _)
    clear hF
    go_simp
  · intro a' w' hF hR
    obtain ⟨v18, hv18, e68⟩ := hF.get 18 68 (by kernel_rfl) (by kernel_rfl)
    obtain rfl : v18 = _ := hv18 _ (Ok.refl _)
    obtain ⟨v28, hv28, e78⟩ := hF.get 28 78 (by kernel_rfl) (by kernel_rfl)
    obtain rfl : v28 = _ := hv28 _ (Ok.refl _)
    refine wpOp_run (v := .bool true) rfl rfl ?_ (fun _ _ => rfl) (Ok.refl _)
    clear hF
    go_simp
  · intro a' w' hF hR
    obtain ⟨v29, hv29, e79⟩ := hF.get 29 79 (by kernel_rfl) (by kernel_rfl)
    obtain rfl : v29 = _ := hv29 _ (Ok.refl _)
    refine wpOp_run (v := .bool true) rfl rfl ?_ (fun _ _ => rfl) (Ok.refl _)
    clear hF
    go_simp
  · intro a' w' hF hR
    have e3 : a'.tmps[3]? = some (.pointer (some ⟨B, 0, none⟩)) := hF.slot 3 (by kernel_rfl) rfl
    obtain ⟨vg, hvg, eg⟩ := hF.get 30 80 (by kernel_rfl) (by kernel_rfl)
    obtain rfl : vg = _ := hvg _ (Ok.refl _)
    obtain ⟨c0, c1, c2, c3, c4, c5, c6, c7, c8, c9, c10, c11⟩ := (HP.out _ hR).pars
    refine wpOp_runG (v := parV p) rfl (wanted_yes rfl (by kernel_rfl) eg) ?_ (fun _ _ => rfl) (Ok.refl _)
    clear hF
    go_simp
  · intro a' w' hF hR
    have e7 : a'.tmps[7]? = some (.int .i64 x) := hF.slot 7 (by kernel_rfl) rfl
    obtain ⟨vg, hvg, eg⟩ := hF.get 30 80 (by kernel_rfl) (by kernel_rfl)
    obtain rfl : vg = _ := hvg _ (Ok.refl _)
    refine wpOp_runG (v := .int .i64 x) rfl (wanted_yes rfl (by kernel_rfl) eg) ?_ (fun _ _ => rfl) (Ok.refl _)
    clear hF
    go_simp
  · intro a' w' hF hR
    obtain ⟨v31, hv31, e81⟩ := hF.get 31 81 (by kernel_rfl) (by kernel_rfl)
    obtain rfl : v31 = _ := hv31 _ (Ok.refl _)
    obtain ⟨v32, hv32, e82⟩ := hF.get 32 82 (by kernel_rfl) (by kernel_rfl)
    obtain rfl : v32 = _ := hv32 _ (Ok.refl _)
    obtain ⟨vg, hvg, eg⟩ := hF.get 30 80 (by kernel_rfl) (by kernel_rfl)
    obtain rfl : vg = _ := hvg _ (Ok.refl _)
    refine wpOp_callG (f := 14) (args := #[parV p, .int .i64 x]) rfl (wanted_yes rfl (by kernel_rfl) eg) ?_ ((KG.out _).mono ?_)
    · go_simp
    · rintro e w2 ⟨rfl, hb2⟩; exact ⟨_, rfl, fun _ _ => rfl, hb2⟩
  · intro a' w' hF hR
    have e3 : a'.tmps[3]? = some (.pointer (some ⟨B, 0, none⟩)) := hF.slot 3 (by kernel_rfl) rfl
    obtain ⟨vg, hvg, eg⟩ := hF.get 30 80 (by kernel_rfl) (by kernel_rfl)
    obtain rfl : vg = _ := hvg _ (Ok.refl _)
    obtain ⟨c0, c1, c2, c3, c4, c5, c6, c7, c8, c9, c10, c11⟩ := (HP.out _ hR).pars
    refine wpOp_runG (v := parV p) rfl (wanted_yes rfl (by kernel_rfl) eg) ?_ (fun _ _ => rfl) (Ok.refl _)
    clear hF
    go_simp
  · intro a' w' hF hR
    have e1 : a'.tmps[1]? = some (.int .i64 a) := hF.slot 1 (by kernel_rfl) rfl
    obtain ⟨vg, hvg, eg⟩ := hF.get 30 80 (by kernel_rfl) (by kernel_rfl)
    obtain rfl : vg = _ := hvg _ (Ok.refl _)
    refine wpOp_runG (v := .int .i64 a) rfl (wanted_yes rfl (by kernel_rfl) eg) ?_ (fun _ _ => rfl) (Ok.refl _)
    clear hF
    go_simp
  · intro a' w' hF hR
    obtain ⟨v34, hv34, e84⟩ := hF.get 34 84 (by kernel_rfl) (by kernel_rfl)
    obtain rfl : v34 = _ := hv34 _ (Ok.refl _)
    obtain ⟨v35, hv35, e85⟩ := hF.get 35 85 (by kernel_rfl) (by kernel_rfl)
    obtain rfl : v35 = _ := hv35 _ (Ok.refl _)
    obtain ⟨vg, hvg, eg⟩ := hF.get 30 80 (by kernel_rfl) (by kernel_rfl)
    obtain rfl : vg = _ := hvg _ (Ok.refl _)
    refine wpOp_callG (f := 15) (args := #[parV p, .int .i64 a]) rfl (wanted_yes rfl (by kernel_rfl) eg) ?_ ((KH.out _).mono ?_)
    · go_simp
    · rintro e w2 ⟨rfl, hb2⟩; exact ⟨_, rfl, fun _ _ => rfl, hb2⟩
  · intro a' w' hF hR
    obtain ⟨v33, hv33, e83⟩ := hF.get 33 83 (by kernel_rfl) (by kernel_rfl)
    obtain rfl : v33 = _ := hv33 _ (Ok.refl _)
    obtain ⟨v36, hv36, e86⟩ := hF.get 36 86 (by kernel_rfl) (by kernel_rfl)
    obtain rfl : v36 = _ := hv36 _ (Ok.refl _)
    obtain ⟨vg, hvg, eg⟩ := hF.get 30 80 (by kernel_rfl) (by kernel_rfl)
    obtain rfl : vg = _ := hvg _ (Ok.refl _)
    have hs := HS.out
    refine wpOp_runG (v := .int .i64 a) rfl (wanted_yes rfl (by kernel_rfl) eg) ?_ (fun _ _ => rfl) (Ok.refl _)
    clear hF
    go_simp
  · intro a' w' hF hR
    have e1 : a'.tmps[1]? = some (.int .i64 a) := hF.slot 1 (by kernel_rfl) rfl
    obtain ⟨vg, hvg, eg⟩ := hF.get 30 80 (by kernel_rfl) (by kernel_rfl)
    obtain rfl : vg = _ := hvg _ (Ok.refl _)
    refine wpOp_runG (v := .int .i64 a) rfl (wanted_yes rfl (by kernel_rfl) eg) ?_ (fun _ _ => rfl) (Ok.refl _)
    clear hF
    go_simp
  · intro a' w' hF hR
    obtain ⟨v37, hv37, e87⟩ := hF.get 37 87 (by kernel_rfl) (by kernel_rfl)
    obtain rfl : v37 = _ := hv37 _ (Ok.refl _)
    obtain ⟨v38, hv38, e88⟩ := hF.get 38 88 (by kernel_rfl) (by kernel_rfl)
    obtain rfl : v38 = _ := hv38 _ (Ok.refl _)
    obtain ⟨vg, hvg, eg⟩ := hF.get 30 80 (by kernel_rfl) (by kernel_rfl)
    obtain rfl : vg = _ := hvg _ (Ok.refl _)
    refine wpOp_runG (v := .bool true) rfl (wanted_yes rfl (by kernel_rfl) eg) ?_ (fun _ _ => rfl) (Ok.refl _)
    clear hF
    go_simp
  · intro a' w' hF hR
    obtain ⟨v30, hv30, e80⟩ := hF.get 30 80 (by kernel_rfl) (by kernel_rfl)
    obtain rfl : v30 = _ := hv30 _ (Ok.refl _)
    obtain ⟨v39, hv39, e89⟩ := hF.get 39 89 (by kernel_rfl) (by kernel_rfl)
    obtain rfl : v39 = _ := hv39 _ (Ok.refl _)
    refine wpOp_run (v := .bool true) rfl rfl ?_ (fun _ _ => rfl) (Ok.refl _)
    clear hF
    go_simp
  · intro a' w' hF hR
    obtain ⟨v40, hv40, e90⟩ := hF.get 40 90 (by kernel_rfl) (by kernel_rfl)
    obtain rfl : v40 = _ := hv40 _ (Ok.refl _)
    refine wpOp_run (v := .bool true) rfl rfl ?_ (fun _ _ => rfl) (Ok.refl _)
    clear hF
    go_simp
  intro us w4 hV hR4
  have e41 : us 41 = .bool true := hV 41 (by decide) _ (Ok.refl _)
  have hok2 := HOK.out.trans ((Ok.refl w3).drew.trans hR4)
  clear hV HP KG KH
  simp only [putFrom, e41]
  simp only [Act.put, List.setIfInBounds_toArray, List.set_cons_zero, List.set_cons_succ]
  go_wp2
  go_ret
  exact ⟨rfl, hok2⟩
set_option maxHeartbeats 3200000 in
theorem yes1 (w : World) (p : Par) (a b : Int) (h0 : 1 ≤ p.pulse) (h1 : a ≤ 1152921504606846976) (h2 : -1152921504606846976 ≤ a) (h3 : a ≤ b) (h4 : b ≤ 1152921504606846976) (h5 : b - a ≤ p.pulse) (x y : Int) (hx : Pulse.num p.pulse a = x) (hy : Pulse.num p.pulse b = y) (hk : y - x = 1) (hs : Sat.mul x (Wide.one p.pulse) + Pulse.ph p.pulse a = a) (hl : Pulse.fired p.pulse a b 5 = [y]) : Calls Try.prog 5 #[parV p, .int .i64 a, .int .i64 b] w fun e w' => e = .returned (.bool true) ∧ Ok w w' := by
  have KA := Lib.hid fun w => pulseNumber p a w
  have KB := Lib.hid fun w => pulseNumber p b w
  have KF := Lib.hid fun w => pulseFired p a b 5 (by omega) w
  have KG := Lib.hid fun w => pulseBegin p x w
  have KH := Lib.hid fun w => pulsePhase p a w
  rw [hx] at KA
  rw [hy] at KB
  unfold FiredEnd at KF
  rw [show Pulse.count p.pulse a b 5 = 1 by rw [← Pulse.fired_length, hl]; rfl, hl] at KF
  have HW := Lib.hid (show IntKind.i64.wrap (y - x) = 1 by rw [hk]; rfl)
  have hsb : -9223372036854775808 ≤ a ∧ a ≤ 9223372036854775807 := by omega
  generalize Sat.mul x (Wide.one p.pulse) = g at KG hs
  generalize Pulse.ph p.pulse a = s at KH hs
  have HS := Lib.hid (show IntKind.i64.wrap (g + s) = a by rw [hs]; exact IntWalk.i64_in _ hsb)
  clear hx hy hk hs hl hsb
  have HP := Lib.hid (Own.new w (parCells p) 23 rfl)
  have HK := Lib.hid ((Ok.refl w).alloc (.cells (parCells p) 23))
  go_enter Try.func5, Try.ntmps5
  go_upto_region 5 with (go_at_call 7; (with_reducible refine (law13Alive _).mono ?_); rintro e w1 ⟨rfl, hb1⟩; have hP := HP.out.next hb1; have hok := HK.out.trans hb1; clear hb1 HP HK; obtain ⟨c0, c1, c2, c3, c4, c5, c6, c7, c8, c9, c10, c11⟩ := hP.pars; have hPl := hP.lt)
  have HOK := Lib.hid hok
  clear hok c0 c1 c2 c3 c4 c5 c6 c7 c8 c9 c10 c11 hPl h0 h1 h2 h3 h4 h5
  generalize w.heap.size = B at hP ⊢
  have HP0 := Lib.hid hP.drew
  have HP := Lib.hid fun W' (k : Ok w1.drew W') => hP.drew.next k
  clear hP
  refine wp_region_facts (by kernel_rfl) 91 rfl (VCM p a b x y) Ok (by kernel_rfl) (fun i v w w' h k w'' k' => h w'' (k.trans k')) (fun a b c => Ok.trans) (Ok.refl _) [some 40, some 41, some 42, some 43, some 44, some 45, some 7, some 8] rfl 8 rfl ⟨?_, ?_, ?_, ?_, ?_, ?_, ?_, ?_, trivial⟩ ?_
  · intro a' w' hF hR
    have e3 : a'.tmps[3]? = some (.pointer (some ⟨B, 0, none⟩)) := hF.slot 3 (by kernel_rfl) rfl
    obtain ⟨c0, c1, c2, c3, c4, c5, c6, c7, c8, c9, c10, c11⟩ := (HP.out _ hR).pars
    refine wpOp_run (v := parV p) rfl rfl ?_ (fun _ _ => rfl) (Ok.refl _)
    clear hF
    go_simp
  · intro a' w' hF hR
    have e1 : a'.tmps[1]? = some (.int .i64 a) := hF.slot 1 (by kernel_rfl) rfl
    refine wpOp_run (v := .int .i64 a) rfl rfl ?_ (fun _ _ => rfl) (Ok.refl _)
    clear hF
    go_simp
  · intro a' w' hF hR
    obtain ⟨v0, hv0, e40⟩ := hF.get 0 40 (by kernel_rfl) (by kernel_rfl)
    obtain rfl : v0 = _ := hv0 _ (Ok.refl _)
    obtain ⟨v1, hv1, e41⟩ := hF.get 1 41 (by kernel_rfl) (by kernel_rfl)
    obtain rfl : v1 = _ := hv1 _ (Ok.refl _)
    clear hF
    refine wpOp_call (f := 11) (args := #[parV p, .int .i64 a]) rfl rfl ?_ ((KA.out _).mono ?_)
    · go_simp
    · rintro e w2 ⟨rfl, hb2⟩; exact ⟨_, rfl, fun _ _ => rfl, hb2⟩
  · intro a' w' hF hR
    have e3 : a'.tmps[3]? = some (.pointer (some ⟨B, 0, none⟩)) := hF.slot 3 (by kernel_rfl) rfl
    obtain ⟨c0, c1, c2, c3, c4, c5, c6, c7, c8, c9, c10, c11⟩ := (HP.out _ hR).pars
    refine wpOp_run (v := parV p) rfl rfl ?_ (fun _ _ => rfl) (Ok.refl _)
    clear hF
    go_simp
  · intro a' w' hF hR
    have e2 : a'.tmps[2]? = some (.int .i64 b) := hF.slot 2 (by kernel_rfl) rfl
    refine wpOp_run (v := .int .i64 b) rfl rfl ?_ (fun _ _ => rfl) (Ok.refl _)
    clear hF
    go_simp
  · intro a' w' hF hR
    obtain ⟨v3, hv3, e43⟩ := hF.get 3 43 (by kernel_rfl) (by kernel_rfl)
    obtain rfl : v3 = _ := hv3 _ (Ok.refl _)
    obtain ⟨v4, hv4, e44⟩ := hF.get 4 44 (by kernel_rfl) (by kernel_rfl)
    obtain rfl : v4 = _ := hv4 _ (Ok.refl _)
    clear hF
    refine wpOp_call (f := 11) (args := #[parV p, .int .i64 b]) rfl rfl ?_ ((KB.out _).mono ?_)
    · go_simp
    · rintro e w2 ⟨rfl, hb2⟩; exact ⟨_, rfl, fun _ _ => rfl, hb2⟩
  · intro a' w' hF hR
    obtain ⟨v2, hv2, e42⟩ := hF.get 2 42 (by kernel_rfl) (by kernel_rfl)
    obtain rfl : v2 = _ := hv2 _ (Ok.refl _)
    refine wpOp_run (v := .int .i64 x) rfl rfl ?_ (fun _ _ => rfl) (Ok.refl _)
    clear hF
    go_simp
  · intro a' w' hF hR
    obtain ⟨v5, hv5, e45⟩ := hF.get 5 45 (by kernel_rfl) (by kernel_rfl)
    obtain rfl : v5 = _ := hv5 _ (Ok.refl _)
    refine wpOp_run (v := .int .i64 y) rfl rfl ?_ (fun _ _ => rfl) (Ok.refl _)
    clear hF
    go_simp
  intro vs w2 hV hR
  have e6 : vs 6 = .int .i64 x := hV 6 (by decide) _ (Ok.refl _)
  have e7 : vs 7 = .int .i64 y := hV 7 (by decide) _ (Ok.refl _)
  have hok := HOK.out.trans ((Ok.refl w1).drew.trans hR)
  have hP := HP0.out.next hR
  obtain ⟨c0, c1, c2, c3, c4, c5, c6, c7, c8, c9, c10, c11⟩ := hP.pars
  have hPl := hP.lt
  clear hV HP HP0 KA KB HOK
  simp only [putFrom, e6, e7]
  simp only [Act.put, List.setIfInBounds_toArray, List.set_cons_zero, List.set_cons_succ]
  go_upto_region 7 with (go_at_call 9; refine (KF.out _).mono ?_; rintro e w3 ⟨A, c, rfl, hI, hb1⟩; replace hP := hP.next hb1; replace hok := hok.trans hb1; clear hb1 c0 c1 c2 c3 c4 c5 c6 c7 c8 c9 c10 c11 hPl)
  have HOK := Lib.hid hok
  have HP := Lib.hid fun W' (k : Ok w3.drew W') => hP.drew.next k
  obtain ⟨bb, off, hA, hbl, hc⟩ := hI 0 (by simp)
  subst hA
  have HC := Lib.hid fun W' (k : Ok w3.drew W') => And.intro (show W'.cell? ⟨bb, off, none⟩ = some (.int .i64 y) by rw [k.cell (p := ⟨bb, off, none⟩) hbl]; exact hc) (Nat.lt_of_lt_of_le hbl k.size)
  clear hok hP hI KF e6 e7 hbl hc
  refine wp_region_facts (by kernel_rfl) 91 rfl (VCE1 p a x y g s bb off c) Ok (by kernel_rfl) (fun i v w w' h k w'' k' => h w'' (k.trans k')) (fun a b c => Ok.trans) (Ok.refl _) [some 50, some 51, some 52, some 53, some 54, some 55, some 56, some 57, some 58, some 59, some 60, some 61, some 62, some 63, some 64, some 65, some 66, some 67, some 68, some 69, some 70, some 71, some 72, some 73, some 74, some 75, some 76, some 77, some 78, some 79, some 80, some 81, some 82, some 83, some 84, some 85, some 86, some 87, some 88, some 89, some 90, some 6] rfl 42 rfl ⟨?_, ?_, ?_, ?_, ?_, ?_, ?_, ?_, ?_, ?_, ?_, ?_, ?_, ?_, ?_, ?_, ?_, ?_, ?_, ?_, ?_, ?_, ?_, ?_, ?_, ?_, ?_, ?_, ?_, ?_, ?_, ?_, ?_, ?_, ?_, ?_, ?_, ?_, ?_, ?_, ?_, ?_, trivial⟩ ?_
  · intro a' w' hF hR
    have e8 : a'.tmps[8]? = some (.int .i64 y) := hF.slot 8 (by kernel_rfl) rfl
    refine wpOp_run (v := .int .i64 y) rfl rfl ?_ (fun _ _ => rfl) (Ok.refl _)
    clear hF
    go_simp
  · intro a' w' hF hR
    have e7 : a'.tmps[7]? = some (.int .i64 x) := hF.slot 7 (by kernel_rfl) rfl
    refine wpOp_run (v := .int .i64 x) rfl rfl ?_ (fun _ _ => rfl) (Ok.refl _)
    clear hF
    go_simp
  · intro a' w' hF hR
    obtain ⟨v0, hv0, e50⟩ := hF.get 0 50 (by kernel_rfl) (by kernel_rfl)
    obtain rfl : v0 = _ := hv0 _ (Ok.refl _)
    obtain ⟨v1, hv1, e51⟩ := hF.get 1 51 (by kernel_rfl) (by kernel_rfl)
    obtain rfl : v1 = _ := hv1 _ (Ok.refl _)
    have hw := HW.out
    refine wpOp_run (v := .int .i64 1) rfl rfl ?_ (fun _ _ => rfl) (Ok.refl _)
    clear hF
    go_simp
  · intro a' w' hF hR
    obtain ⟨v2, hv2, e52⟩ := hF.get 2 52 (by kernel_rfl) (by kernel_rfl)
    obtain rfl : v2 = _ := hv2 _ (Ok.refl _)
    refine wpOp_run (v := .bool true) rfl rfl ?_ (fun _ _ => rfl) (Ok.refl _)
    clear hF
    go_simp
  · intro a' w' hF hR
    obtain ⟨v3, hv3, e53⟩ := hF.get 3 53 (by kernel_rfl) (by kernel_rfl)
    obtain rfl : v3 = _ := hv3 _ (Ok.refl _)
    refine wpOp_run (v := .bool true) rfl rfl ?_ (fun _ _ => rfl) (Ok.refl _)
    clear hF
    go_simp
  · intro a' w' hF hR
    have e8 : a'.tmps[8]? = some (.int .i64 y) := hF.slot 8 (by kernel_rfl) rfl
    obtain ⟨vg, hvg, eg⟩ := hF.get 4 54 (by kernel_rfl) (by kernel_rfl)
    obtain rfl : vg = _ := hvg _ (Ok.refl _)
    refine wpOp_runG (v := .int .i64 y) rfl (wanted_yes rfl (by kernel_rfl) eg) ?_ (fun _ _ => rfl) (Ok.refl _)
    clear hF
    go_simp
  · intro a' w' hF hR
    have e7 : a'.tmps[7]? = some (.int .i64 x) := hF.slot 7 (by kernel_rfl) rfl
    obtain ⟨vg, hvg, eg⟩ := hF.get 4 54 (by kernel_rfl) (by kernel_rfl)
    obtain rfl : vg = _ := hvg _ (Ok.refl _)
    refine wpOp_runG (v := .int .i64 x) rfl (wanted_yes rfl (by kernel_rfl) eg) ?_ (fun _ _ => rfl) (Ok.refl _)
    clear hF
    go_simp
  · intro a' w' hF hR
    obtain ⟨v5, hv5, e55⟩ := hF.get 5 55 (by kernel_rfl) (by kernel_rfl)
    obtain rfl : v5 = _ := hv5 _ (Ok.refl _)
    obtain ⟨v6, hv6, e56⟩ := hF.get 6 56 (by kernel_rfl) (by kernel_rfl)
    obtain rfl : v6 = _ := hv6 _ (Ok.refl _)
    obtain ⟨vg, hvg, eg⟩ := hF.get 4 54 (by kernel_rfl) (by kernel_rfl)
    obtain rfl : vg = _ := hvg _ (Ok.refl _)
    have hw := HW.out
    refine wpOp_runG (v := .int .i64 1) rfl (wanted_yes rfl (by kernel_rfl) eg) ?_ (fun _ _ => rfl) (Ok.refl _)
    clear hF
    go_simp
  · intro a' w' hF hR
    obtain ⟨v7, hv7, e57⟩ := hF.get 7 57 (by kernel_rfl) (by kernel_rfl)
    obtain rfl : v7 = _ := hv7 _ (Ok.refl _)
    obtain ⟨vg, hvg, eg⟩ := hF.get 4 54 (by kernel_rfl) (by kernel_rfl)
    obtain rfl : vg = _ := hvg _ (Ok.refl _)
    refine wpOp_runG (v := .bool true) rfl (wanted_yes rfl (by kernel_rfl) eg) ?_ (fun _ _ => rfl) (Ok.refl _)
    clear hF
    go_simp
  · intro a' w' hF hR
    obtain ⟨v4, hv4, e54⟩ := hF.get 4 54 (by kernel_rfl) (by kernel_rfl)
    obtain rfl : v4 = _ := hv4 _ (Ok.refl _)
    obtain ⟨v8, hv8, e58⟩ := hF.get 8 58 (by kernel_rfl) (by kernel_rfl)
    obtain rfl : v8 = _ := hv8 _ (Ok.refl _)
    refine wpOp_run (v := .bool true) rfl rfl ?_ (fun _ _ => rfl) (Ok.refl _)
    clear hF
    go_simp
  · intro a' w' hF hR
    obtain ⟨v9, hv9, e59⟩ := hF.get 9 59 (by kernel_rfl) (by kernel_rfl)
    obtain rfl : v9 = _ := hv9 _ (Ok.refl _)
    refine wpOp_run (v := .bool true) rfl rfl ?_ (fun _ _ => rfl) (Ok.refl _)
    clear hF
    go_simp
  · intro a' w' hF hR
    have e9 : a'.tmps[9]? = some (.slice (some ⟨bb, off, none⟩) 1 c) := hF.slot 9 (by kernel_rfl) rfl
    obtain ⟨vg, hvg, eg⟩ := hF.get 10 60 (by kernel_rfl) (by kernel_rfl)
    obtain rfl : vg = _ := hvg _ (Ok.refl _)
    refine wpOp_runG (v := .slice (some ⟨bb, off, none⟩) 1 c) rfl (wanted_yes rfl (by kernel_rfl) eg) ?_ (fun _ _ => rfl) (Ok.refl _)
    clear hF
    go_simp
  · intro a' w' hF hR
    obtain ⟨v11, hv11, e61⟩ := hF.get 11 61 (by kernel_rfl) (by kernel_rfl)
    obtain rfl : v11 = _ := hv11 _ (Ok.refl _)
    obtain ⟨vg, hvg, eg⟩ := hF.get 10 60 (by kernel_rfl) (by kernel_rfl)
    obtain rfl : vg = _ := hvg _ (Ok.refl _)
    refine wpOp_runG (v := .int .i64 1) rfl (wanted_yes rfl (by kernel_rfl) eg) ?_ (fun _ _ => rfl) (Ok.refl _)
    clear hF
    go_simp
  · intro a' w' hF hR
    have e8 : a'.tmps[8]? = some (.int .i64 y) := hF.slot 8 (by kernel_rfl) rfl
    obtain ⟨vg, hvg, eg⟩ := hF.get 10 60 (by kernel_rfl) (by kernel_rfl)
    obtain rfl : vg = _ := hvg _ (Ok.refl _)
    refine wpOp_runG (v := .int .i64 y) rfl (wanted_yes rfl (by kernel_rfl) eg) ?_ (fun _ _ => rfl) (Ok.refl _)
    clear hF
    go_simp
  · intro a' w' hF hR
    have e7 : a'.tmps[7]? = some (.int .i64 x) := hF.slot 7 (by kernel_rfl) rfl
    obtain ⟨vg, hvg, eg⟩ := hF.get 10 60 (by kernel_rfl) (by kernel_rfl)
    obtain rfl : vg = _ := hvg _ (Ok.refl _)
    refine wpOp_runG (v := .int .i64 x) rfl (wanted_yes rfl (by kernel_rfl) eg) ?_ (fun _ _ => rfl) (Ok.refl _)
    clear hF
    go_simp
  · intro a' w' hF hR
    obtain ⟨v13, hv13, e63⟩ := hF.get 13 63 (by kernel_rfl) (by kernel_rfl)
    obtain rfl : v13 = _ := hv13 _ (Ok.refl _)
    obtain ⟨v14, hv14, e64⟩ := hF.get 14 64 (by kernel_rfl) (by kernel_rfl)
    obtain rfl : v14 = _ := hv14 _ (Ok.refl _)
    obtain ⟨vg, hvg, eg⟩ := hF.get 10 60 (by kernel_rfl) (by kernel_rfl)
    obtain rfl : vg = _ := hvg _ (Ok.refl _)
    have hw := HW.out
    refine wpOp_runG (v := .int .i64 1) rfl (wanted_yes rfl (by kernel_rfl) eg) ?_ (fun _ _ => rfl) (Ok.refl _)
    clear hF
    go_simp
  · intro a' w' hF hR
    obtain ⟨v12, hv12, e62⟩ := hF.get 12 62 (by kernel_rfl) (by kernel_rfl)
    obtain rfl : v12 = _ := hv12 _ (Ok.refl _)
    obtain ⟨v15, hv15, e65⟩ := hF.get 15 65 (by kernel_rfl) (by kernel_rfl)
    obtain rfl : v15 = _ := hv15 _ (Ok.refl _)
    obtain ⟨vg, hvg, eg⟩ := hF.get 10 60 (by kernel_rfl) (by kernel_rfl)
    obtain rfl : vg = _ := hvg _ (Ok.refl _)
    refine wpOp_runG (v := .bool true) rfl (wanted_yes rfl (by kernel_rfl) eg) ?_ (fun _ _ => rfl) (Ok.refl _)
    clear hF
    go_simp
  · intro a' w' hF hR
    obtain ⟨v10, hv10, e60⟩ := hF.get 10 60 (by kernel_rfl) (by kernel_rfl)
    obtain rfl : v10 = _ := hv10 _ (Ok.refl _)
    obtain ⟨v16, hv16, e66⟩ := hF.get 16 66 (by kernel_rfl) (by kernel_rfl)
    obtain rfl : v16 = _ := hv16 _ (Ok.refl _)
    refine wpOp_run (v := .bool true) rfl rfl ?_ (fun _ _ => rfl) (Ok.refl _)
    clear hF
    go_simp
  · intro a' w' hF hR
    obtain ⟨v17, hv17, e67⟩ := hF.get 17 67 (by kernel_rfl) (by kernel_rfl)
    obtain rfl : v17 = _ := hv17 _ (Ok.refl _)
    refine wpOp_run (v := .bool true) rfl rfl ?_ (fun _ _ => rfl) (Ok.refl _)
    clear hF
    go_simp
  · intro a' w' hF hR
    have e9 : a'.tmps[9]? = some (.slice (some ⟨bb, off, none⟩) 1 c) := hF.slot 9 (by kernel_rfl) rfl
    obtain ⟨vg, hvg, eg⟩ := hF.get 18 68 (by kernel_rfl) (by kernel_rfl)
    obtain rfl : vg = _ := hvg _ (Ok.refl _)
    refine wpOp_runG (v := .slice (some ⟨bb, off, none⟩) 1 c) rfl (wanted_yes rfl (by kernel_rfl) eg) ?_ (fun _ _ => rfl) (Ok.refl _)
    clear hF
    go_simp
  · intro a' w' hF hR
    obtain ⟨v19, hv19, e69⟩ := hF.get 19 69 (by kernel_rfl) (by kernel_rfl)
    obtain rfl : v19 = _ := hv19 _ (Ok.refl _)
    obtain ⟨vg, hvg, eg⟩ := hF.get 18 68 (by kernel_rfl) (by kernel_rfl)
    obtain rfl : vg = _ := hvg _ (Ok.refl _)
    refine wpOp_runG (v := .int .i64 1) rfl (wanted_yes rfl (by kernel_rfl) eg) ?_ (fun _ _ => rfl) (Ok.refl _)
    clear hF
    go_simp
  · intro a' w' hF hR
    obtain ⟨v20, hv20, e70⟩ := hF.get 20 70 (by kernel_rfl) (by kernel_rfl)
    obtain rfl : v20 = _ := hv20 _ (Ok.refl _)
    obtain ⟨vg, hvg, eg⟩ := hF.get 18 68 (by kernel_rfl) (by kernel_rfl)
    obtain rfl : vg = _ := hvg _ (Ok.refl _)
    refine wpOp_runG (v := .bool false) rfl (wanted_yes rfl (by kernel_rfl) eg) ?_ (fun _ _ => rfl) (Ok.refl _)
    clear hF
    go_simp
  · intro a' w' hF hR
    obtain ⟨v21, hv21, e71⟩ := hF.get 21 71 (by kernel_rfl) (by kernel_rfl)
    obtain rfl : v21 = _ := hv21 _ (Ok.refl _)
    obtain ⟨vg, hvg, eg⟩ := hF.get 18 68 (by kernel_rfl) (by kernel_rfl)
    obtain rfl : vg = _ := hvg _ (Ok.refl _)
    refine wpOp_runG (v := .bool false) rfl (wanted_yes rfl (by kernel_rfl) eg) ?_ (fun _ _ => rfl) (Ok.refl _)
    clear hF
    go_simp
  · intro a' w' hF hR
    have e9 : a'.tmps[9]? = some (.slice (some ⟨bb, off, none⟩) 1 c) := hF.slot 9 (by kernel_rfl) rfl
    obtain ⟨vg, hvg, eg⟩ := hF.get 22 72 (by kernel_rfl) (by kernel_rfl)
    obtain rfl : vg = _ := hvg _ (Ok.refl _)
    refine wpOp_runG (v := .slice (some ⟨bb, off, none⟩) 1 c) rfl (wanted_yes rfl (by kernel_rfl) eg) ?_ (fun _ _ => rfl) (Ok.refl _)
    clear hF
    go_simp
  · intro a' w' hF hR
    obtain ⟨v23, hv23, e73⟩ := hF.get 23 73 (by kernel_rfl) (by kernel_rfl)
    obtain rfl : v23 = _ := hv23 _ (Ok.refl _)
    obtain ⟨vg, hvg, eg⟩ := hF.get 22 72 (by kernel_rfl) (by kernel_rfl)
    obtain rfl : vg = _ := hvg _ (Ok.refl _)
    refine wpOp_runG (v := .pointer (some ⟨bb, off, none⟩)) rfl (wanted_yes rfl (by kernel_rfl) eg) ?_ (fun _ _ => rfl) (Ok.refl _)
    clear hF
    go_simp
  · intro a' w' hF hR
    obtain ⟨v24, hv24, e74⟩ := hF.get 24 74 (by kernel_rfl) (by kernel_rfl)
    obtain rfl : v24 = _ := hv24 _ (Ok.refl _)
    obtain ⟨vg, hvg, eg⟩ := hF.get 22 72 (by kernel_rfl) (by kernel_rfl)
    obtain rfl : vg = _ := hvg _ (Ok.refl _)
    have hc := (HC.out _ hR).1
    refine wpOp_runG (v := .int .i64 y) rfl (wanted_yes rfl (by kernel_rfl) eg) ?_ (fun _ _ => rfl) (Ok.refl _)
    clear hF
    go_simp
  · intro a' w' hF hR
    have e8 : a'.tmps[8]? = some (.int .i64 y) := hF.slot 8 (by kernel_rfl) rfl
    obtain ⟨vg, hvg, eg⟩ := hF.get 22 72 (by kernel_rfl) (by kernel_rfl)
    obtain rfl : vg = _ := hvg _ (Ok.refl _)
    refine wpOp_runG (v := .int .i64 y) rfl (wanted_yes rfl (by kernel_rfl) eg) ?_ (fun _ _ => rfl) (Ok.refl _)
    clear hF
    go_simp
  · intro a' w' hF hR
    obtain ⟨v25, hv25, e75⟩ := hF.get 25 75 (by kernel_rfl) (by kernel_rfl)
    obtain rfl : v25 = _ := hv25 _ (Ok.refl _)
    obtain ⟨v26, hv26, e76⟩ := hF.get 26 76 (by kernel_rfl) (by kernel_rfl)
    obtain rfl : v26 = _ := hv26 _ (Ok.refl _)
    obtain ⟨vg, hvg, eg⟩ := hF.get 22 72 (by kernel_rfl) (by kernel_rfl)
    obtain rfl : vg = _ := hvg _ (Ok.refl _)
    refine wpOp_runG (v := .bool true) rfl (wanted_yes rfl (by kernel_rfl) eg) ?_ (fun _ _ => rfl) (Ok.refl _)
    clear hF
    go_simp
  · intro a' w' hF hR
    obtain ⟨v22, hv22, e72⟩ := hF.get 22 72 (by kernel_rfl) (by kernel_rfl)
    obtain rfl : v22 = _ := hv22 _ (Ok.refl _)
    obtain ⟨v27, hv27, e77⟩ := hF.get 27 77 (by kernel_rfl) (by kernel_rfl)
    obtain rfl : v27 = _ := hv27 _ (Ok.refl _)
    obtain ⟨vg, hvg, eg⟩ := hF.get 18 68 (by kernel_rfl) (by kernel_rfl)
    obtain rfl : vg = _ := hvg _ (Ok.refl _)
    refine wpOp_runG (v := .bool true) rfl (wanted_yes rfl (by kernel_rfl) eg) ?_ (fun _ _ => rfl) (Ok.refl _)
    clear hF
    go_simp
  · intro a' w' hF hR
    obtain ⟨v18, hv18, e68⟩ := hF.get 18 68 (by kernel_rfl) (by kernel_rfl)
    obtain rfl : v18 = _ := hv18 _ (Ok.refl _)
    obtain ⟨v28, hv28, e78⟩ := hF.get 28 78 (by kernel_rfl) (by kernel_rfl)
    obtain rfl : v28 = _ := hv28 _ (Ok.refl _)
    refine wpOp_run (v := .bool true) rfl rfl ?_ (fun _ _ => rfl) (Ok.refl _)
    clear hF
    go_simp
  · intro a' w' hF hR
    obtain ⟨v29, hv29, e79⟩ := hF.get 29 79 (by kernel_rfl) (by kernel_rfl)
    obtain rfl : v29 = _ := hv29 _ (Ok.refl _)
    refine wpOp_run (v := .bool true) rfl rfl ?_ (fun _ _ => rfl) (Ok.refl _)
    clear hF
    go_simp
  · intro a' w' hF hR
    have e3 : a'.tmps[3]? = some (.pointer (some ⟨B, 0, none⟩)) := hF.slot 3 (by kernel_rfl) rfl
    obtain ⟨vg, hvg, eg⟩ := hF.get 30 80 (by kernel_rfl) (by kernel_rfl)
    obtain rfl : vg = _ := hvg _ (Ok.refl _)
    obtain ⟨c0, c1, c2, c3, c4, c5, c6, c7, c8, c9, c10, c11⟩ := (HP.out _ hR).pars
    refine wpOp_runG (v := parV p) rfl (wanted_yes rfl (by kernel_rfl) eg) ?_ (fun _ _ => rfl) (Ok.refl _)
    clear hF
    go_simp
  · intro a' w' hF hR
    have e7 : a'.tmps[7]? = some (.int .i64 x) := hF.slot 7 (by kernel_rfl) rfl
    obtain ⟨vg, hvg, eg⟩ := hF.get 30 80 (by kernel_rfl) (by kernel_rfl)
    obtain rfl : vg = _ := hvg _ (Ok.refl _)
    refine wpOp_runG (v := .int .i64 x) rfl (wanted_yes rfl (by kernel_rfl) eg) ?_ (fun _ _ => rfl) (Ok.refl _)
    clear hF
    go_simp
  · intro a' w' hF hR
    obtain ⟨v31, hv31, e81⟩ := hF.get 31 81 (by kernel_rfl) (by kernel_rfl)
    obtain rfl : v31 = _ := hv31 _ (Ok.refl _)
    obtain ⟨v32, hv32, e82⟩ := hF.get 32 82 (by kernel_rfl) (by kernel_rfl)
    obtain rfl : v32 = _ := hv32 _ (Ok.refl _)
    obtain ⟨vg, hvg, eg⟩ := hF.get 30 80 (by kernel_rfl) (by kernel_rfl)
    obtain rfl : vg = _ := hvg _ (Ok.refl _)
    refine wpOp_callG (f := 14) (args := #[parV p, .int .i64 x]) rfl (wanted_yes rfl (by kernel_rfl) eg) ?_ ((KG.out _).mono ?_)
    · go_simp
    · rintro e w2 ⟨rfl, hb2⟩; exact ⟨_, rfl, fun _ _ => rfl, hb2⟩
  · intro a' w' hF hR
    have e3 : a'.tmps[3]? = some (.pointer (some ⟨B, 0, none⟩)) := hF.slot 3 (by kernel_rfl) rfl
    obtain ⟨vg, hvg, eg⟩ := hF.get 30 80 (by kernel_rfl) (by kernel_rfl)
    obtain rfl : vg = _ := hvg _ (Ok.refl _)
    obtain ⟨c0, c1, c2, c3, c4, c5, c6, c7, c8, c9, c10, c11⟩ := (HP.out _ hR).pars
    refine wpOp_runG (v := parV p) rfl (wanted_yes rfl (by kernel_rfl) eg) ?_ (fun _ _ => rfl) (Ok.refl _)
    clear hF
    go_simp
  · intro a' w' hF hR
    have e1 : a'.tmps[1]? = some (.int .i64 a) := hF.slot 1 (by kernel_rfl) rfl
    obtain ⟨vg, hvg, eg⟩ := hF.get 30 80 (by kernel_rfl) (by kernel_rfl)
    obtain rfl : vg = _ := hvg _ (Ok.refl _)
    refine wpOp_runG (v := .int .i64 a) rfl (wanted_yes rfl (by kernel_rfl) eg) ?_ (fun _ _ => rfl) (Ok.refl _)
    clear hF
    go_simp
  · intro a' w' hF hR
    obtain ⟨v34, hv34, e84⟩ := hF.get 34 84 (by kernel_rfl) (by kernel_rfl)
    obtain rfl : v34 = _ := hv34 _ (Ok.refl _)
    obtain ⟨v35, hv35, e85⟩ := hF.get 35 85 (by kernel_rfl) (by kernel_rfl)
    obtain rfl : v35 = _ := hv35 _ (Ok.refl _)
    obtain ⟨vg, hvg, eg⟩ := hF.get 30 80 (by kernel_rfl) (by kernel_rfl)
    obtain rfl : vg = _ := hvg _ (Ok.refl _)
    refine wpOp_callG (f := 15) (args := #[parV p, .int .i64 a]) rfl (wanted_yes rfl (by kernel_rfl) eg) ?_ ((KH.out _).mono ?_)
    · go_simp
    · rintro e w2 ⟨rfl, hb2⟩; exact ⟨_, rfl, fun _ _ => rfl, hb2⟩
  · intro a' w' hF hR
    obtain ⟨v33, hv33, e83⟩ := hF.get 33 83 (by kernel_rfl) (by kernel_rfl)
    obtain rfl : v33 = _ := hv33 _ (Ok.refl _)
    obtain ⟨v36, hv36, e86⟩ := hF.get 36 86 (by kernel_rfl) (by kernel_rfl)
    obtain rfl : v36 = _ := hv36 _ (Ok.refl _)
    obtain ⟨vg, hvg, eg⟩ := hF.get 30 80 (by kernel_rfl) (by kernel_rfl)
    obtain rfl : vg = _ := hvg _ (Ok.refl _)
    have hs := HS.out
    refine wpOp_runG (v := .int .i64 a) rfl (wanted_yes rfl (by kernel_rfl) eg) ?_ (fun _ _ => rfl) (Ok.refl _)
    clear hF
    go_simp
  · intro a' w' hF hR
    have e1 : a'.tmps[1]? = some (.int .i64 a) := hF.slot 1 (by kernel_rfl) rfl
    obtain ⟨vg, hvg, eg⟩ := hF.get 30 80 (by kernel_rfl) (by kernel_rfl)
    obtain rfl : vg = _ := hvg _ (Ok.refl _)
    refine wpOp_runG (v := .int .i64 a) rfl (wanted_yes rfl (by kernel_rfl) eg) ?_ (fun _ _ => rfl) (Ok.refl _)
    clear hF
    go_simp
  · intro a' w' hF hR
    obtain ⟨v37, hv37, e87⟩ := hF.get 37 87 (by kernel_rfl) (by kernel_rfl)
    obtain rfl : v37 = _ := hv37 _ (Ok.refl _)
    obtain ⟨v38, hv38, e88⟩ := hF.get 38 88 (by kernel_rfl) (by kernel_rfl)
    obtain rfl : v38 = _ := hv38 _ (Ok.refl _)
    obtain ⟨vg, hvg, eg⟩ := hF.get 30 80 (by kernel_rfl) (by kernel_rfl)
    obtain rfl : vg = _ := hvg _ (Ok.refl _)
    refine wpOp_runG (v := .bool true) rfl (wanted_yes rfl (by kernel_rfl) eg) ?_ (fun _ _ => rfl) (Ok.refl _)
    clear hF
    go_simp
  · intro a' w' hF hR
    obtain ⟨v30, hv30, e80⟩ := hF.get 30 80 (by kernel_rfl) (by kernel_rfl)
    obtain rfl : v30 = _ := hv30 _ (Ok.refl _)
    obtain ⟨v39, hv39, e89⟩ := hF.get 39 89 (by kernel_rfl) (by kernel_rfl)
    obtain rfl : v39 = _ := hv39 _ (Ok.refl _)
    refine wpOp_run (v := .bool true) rfl rfl ?_ (fun _ _ => rfl) (Ok.refl _)
    clear hF
    go_simp
  · intro a' w' hF hR
    obtain ⟨v40, hv40, e90⟩ := hF.get 40 90 (by kernel_rfl) (by kernel_rfl)
    obtain rfl : v40 = _ := hv40 _ (Ok.refl _)
    refine wpOp_run (v := .bool true) rfl rfl ?_ (fun _ _ => rfl) (Ok.refl _)
    clear hF
    go_simp
  intro us w4 hV hR4
  have e41 : us 41 = .bool true := hV 41 (by decide) _ (Ok.refl _)
  have hok2 := HOK.out.trans ((Ok.refl w3).drew.trans hR4)
  clear hV HP KG KH
  simp only [putFrom, e41]
  simp only [Act.put, List.setIfInBounds_toArray, List.set_cons_zero, List.set_cons_succ]
  go_wp2
  go_ret
  exact ⟨rfl, hok2⟩
theorem walk (w : World) (p : Par) (wp : ParWf p) (a : Int) (wa : (Lit.int .i64 a).wf = true) (b : Int) (wb : (Lit.int .i64 b).wf = true) :
    Calls Try.prog 5 #[parV p, .int .i64 a, .int .i64 b] w fun e w' => e = .returned (.bool true) ∧ Below w.heap.size w w' := by
  show Calls Try.prog 5 #[parV p, .int .i64 a, .int .i64 b] w fun e w' => e = .returned (.bool true) ∧ Ok w w' 
  by_cases h0 : p.pulse < 1
  · exact no0 w p a b h0
  replace h0 : 1 ≤ p.pulse := by omega
  by_cases h1 : 1152921504606846976 < a
  · exact no1 w p a b h0 h1
  replace h1 : a ≤ 1152921504606846976 := by omega
  by_cases h2 : a < -1152921504606846976
  · exact no2 w p a b h0 h1 h2
  replace h2 : -1152921504606846976 ≤ a := by omega
  by_cases h3 : b < a
  · exact no3 w p a b h0 h1 h2 h3
  replace h3 : a ≤ b := by omega
  by_cases h4 : 1152921504606846976 < b
  · by_cases q : p.pulse < IntKind.i64.wrap (b - a)
    · exact no4a w p a b h0 h1 h2 h3 h4 _ rfl q
    · exact no4b w p a b h0 h1 h2 h3 h4 _ rfl q
  replace h4 : b ≤ 1152921504606846976 := by omega
  by_cases h5 : p.pulse < b - a
  · exact no5 w p a b h0 h1 h2 h3 h4 h5
  replace h5 : b - a ≤ p.pulse := by omega
  obtain ⟨hn, hs⟩ := Pulse.near (q := p.pulse) (a := a) (b := b) h0 h2 h3 h4 h5
  have hf := Pulse.near_fired hn
  by_cases e : Pulse.num p.pulse b = Pulse.num p.pulse a
  · rw [if_pos e] at hf
    exact yes0 w p a b h0 h1 h2 h3 h4 h5 _ _ rfl rfl (by omega) hs hf
  · rw [if_neg e] at hf
    exact yes1 w p a b h0 h1 h2 h3 h4 h5 _ _ rfl rfl (by omega) hs hf
theorem own : ownKnob Try.prog.godebug = none := by kernel_rfl
theorem laidOut : laidOutB Try.prog = true := by kernel_rfl
set_option maxRecDepth 100000 in
theorem lifted (os : Os) (started : os.Started) (H : Type) (enc : TypeId × Value → H) :
    ReturnsInHanded {} Try.checked os 5 .any (Rows.pulseNearSpec.pre6 enc Try.prog Try.f5 Rows.pulseNearRow.domain false) (Rows.pulseNearSpec.post enc Try.prog Try.f5 false true false false) := by
  refine returnsInHanded_of_change (C := Try.checked) own started (by kernel_rfl) Try.func5
    (ChangeSpec.witness6 (enc := enc) (C := Try.checked) false ⟨#[], #[.agg #[.int .i64 0, .int .i64 0, .int .i64 0, .int .i64 0, .int .i64 0, .int .i64 0, .int .i64 0, .int .i64 0, .int .i64 0, .int .i64 0, .int .i64 0, .int .i64 0], .int .i64 0, .int .i64 0], []⟩ 8 (by kernel_rfl) (by kernel_rfl) (by kernel_rfl) (by kernel_rfl)) ?_
  intro W base args ds gs before hval0 hW _ _
  have hval : ∀ (j : Nat) t v, Try.f5.params[j]? = some t → args[j]? = some v → Value.okWide Try.prog W .any base t v := hval0
  have hW' := hW
  obtain ⟨p, q, hA, hV, rfl, _, _⟩ := hW
  obtain ⟨rfl, rfl⟩ := trodVars_none hV
  replace hA : DataW.TrodAll enc Try.prog W 0 (fun _ => true) true Try.f5.params.toList args.toList ds p := hA
  rw [Try.params5] at hA hval
  obtain ⟨v0, vs0, d0, ds0, p0, q0, hargs, rfl, rfl, h0, r0⟩ := trodAll_cons hA
  obtain ⟨v1, vs1, d1, ds1, p1, q1, rfl, rfl, rfl, h1, r1⟩ := trodAll_cons r0
  obtain ⟨v2, vs2, d2, ds2, p2, q2, rfl, rfl, rfl, h2, r2⟩ := trodAll_cons r1
  obtain ⟨rfl, rfl, rfl⟩ := trodAll_nil r2
  obtain rfl : args = #[v0, v1, v2] := by cases args; simp_all
  obtain ⟨p0, rfl, wp0⟩ := open_par Try.underlying23 rfl (by kernel_rfl) (by kernel_rfl) (by kernel_rfl) (hval 0 23 v0 rfl rfl) h0
  obtain ⟨a1, rfl, rfl, rfl, w1⟩ := open_int Try.underlying3 (hval 1 3 v1 rfl rfl) h1
  obtain ⟨a2, rfl, rfl, rfl, w2⟩ := open_int Try.underlying3 (hval 2 3 v2 rfl rfl) h2
  refine (walk W p0 wp0 a1 w1 a2 w2).mono fun e W' ⟨he, hb⟩ => ?_
  subst he
  exact ⟨_, rfl, law_post hW' laidOut (by rw [Try.params5]; exact params_ok (by kernel_rfl)) rfl (by kernel_rfl) Try.underlying4 rfl rfl rfl hb⟩
theorem over : Rows.pulseNearRow.holds Try.pinned (OpenSpec.ofChange Rows.pulseNearSpec) :=
  OpenClaim.holds_of_wide 5 Try.f5 rfl rfl rfl rfl rfl rfl rfl ⟨rfl, rfl, rfl, rfl, rfl⟩ rfl rfl rfl rfl rfl (by kernel_rfl) Try.func5 (by kernel_rfl)
    (of_decide_eq_true (by kernel_rfl)) (by unfold Func.isWrapper; first | (rw [if_pos (by decide +kernel)]; kernel_rfl) | (rw [if_neg (by decide +kernel)]; exact ⟨rfl, rfl⟩))
    (fun os started H enc _ => lifted os started H enc)
theorem proved : Rows.PulseNearSaid := over
end Go.Proofs.Ythodgpgcpichkaa.pulseNear
