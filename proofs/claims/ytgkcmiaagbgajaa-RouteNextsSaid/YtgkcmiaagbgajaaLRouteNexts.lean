/- RouteNexts: for every fabric's numbers and all steps the law answers true: Lost and Next answer what the document says. No condition. -/
import Derived.Test.YtgkcmiaagbgajaaC15f
import Derived.Test.YtgkcmiaagbgajaaW06
namespace Go.Proofs.Ytgkcmiaagbgajaa.routeNexts
open Go.ChangeShapes Go.WideShapes Go.ChangeAt Go.RowKit
set_option linter.unusedVariables false
set_option maxRecDepth 100000
attribute [local go_sem ↓] Go.wp_at_zero Go.wp_at_succ
/-- What each operation leaves. -/
def VMNO (p : Par) (A : Option Addr) (l : List Int) (c : Nat) (q : Int) (P : Nat) (w : World) (v : Value) : Nat → Prop
  | 0 => v = parV p
  | 1 => v = .bool true
  | 2 => v = .bool true
  | 3 => v = undef
  | 4 => v = undef
  | 5 => v = undef
  | 6 => v = .bool true
  | 7 => v = .bool true
  | 8 => v = undef
  | 9 => v = undef
  | 10 => v = undef
  | 11 => v = undef
  | 12 => v = undef
  | 13 => v = undef
  | 14 => v = undef
  | 15 => v = undef
  | 16 => v = undef
  | 17 => v = undef
  | 18 => v = undef
  | 19 => v = undef
  | 20 => v = undef
  | 21 => v = undef
  | 22 => v = undef
  | 23 => v = .bool true
  | 24 => v = .bool true
  | _ => v = .bool true
/-- It stays so. -/
def VCNO (p : Par) (A : Option Addr) (l : List Int) (c : Nat) (q : Int) (P : Nat) (i : Nat) (v : Value) (w : World) : Prop := ∀ w', Ok w w' → VMNO p A l c q P w' v i
/-- What each operation leaves. -/
def VMNL (p : Par) (A : Option Addr) (l : List Int) (c : Nat) (q : Int) (P : Nat) (w : World) (v : Value) : Nat → Prop
  | 0 => v = parV p
  | 1 => v = .bool false
  | 2 => v = .bool false
  | 3 => v = .slice A l.length c
  | 4 => v = .int .i64 (l.length : Int)
  | 5 => v = .bool true
  | 6 => v = .bool true
  | 7 => v = .bool true
  | 8 => v = undef
  | 9 => v = undef
  | 10 => v = undef
  | 11 => v = undef
  | 12 => v = undef
  | 13 => v = undef
  | 14 => v = undef
  | 15 => v = undef
  | 16 => v = undef
  | 17 => v = undef
  | 18 => v = undef
  | 19 => v = undef
  | 20 => v = undef
  | 21 => v = undef
  | 22 => v = undef
  | 23 => v = .bool true
  | 24 => v = .bool true
  | _ => v = .bool true
/-- It stays so. -/
def VCNL (p : Par) (A : Option Addr) (l : List Int) (c : Nat) (q : Int) (P : Nat) (i : Nat) (v : Value) (w : World) : Prop := ∀ w', Ok w w' → VMNL p A l c q P w' v i
/-- What each operation leaves. -/
def VMNY (p : Par) (A : Option Addr) (l : List Int) (c : Nat) (q : Int) (P : Nat) (w : World) (v : Value) : Nat → Prop
  | 0 => v = parV p
  | 1 => v = .bool false
  | 2 => v = .bool false
  | 3 => v = .slice A l.length c
  | 4 => v = .int .i64 (l.length : Int)
  | 5 => v = .bool false
  | 6 => v = .bool false
  | 7 => v = .bool false
  | 8 => v = parV p
  | 9 => v = .slice A l.length c
  | 10 => v = .int .i64 q
  | 11 => v = parV p
  | 12 => v = .slice A l.length c
  | 13 => v = .int .i64 q
  | 14 => v = .bool true
  | 15 => v = .bool true
  | 16 => v = parV p
  | 17 => v = .int .i64 (p.d + 1)
  | 18 => v = .pointer (some ⟨P, 2, none⟩)
  | 19 => v = .int .i64 p.d
  | 20 => v = .int .i64 (p.d + 1)
  | 21 => v = .bool true
  | 22 => v = .bool true
  | 23 => v = .bool true
  | 24 => v = .bool true
  | _ => v = .bool true
/-- It stays so. -/
def VCNY (p : Par) (A : Option Addr) (l : List Int) (c : Nat) (q : Int) (P : Nat) (i : Nat) (v : Value) (w : World) : Prop := ∀ w', Ok w w' → VMNY p A l c q P w' v i
set_option maxHeartbeats 3200000 in
theorem walk (w : World) (p : Par) (wp : ParWf p) (A : Option Addr) (l : List Int) (c : Nat) (hA : IntsAt w A l) (hl : l.length ≤ 9223372036854775807) (hw : ∀ x ∈ l, (Lit.int .i64 x).wf = true) :
    Calls Try.prog 3 #[parV p, .slice A l.length c] w fun e w' => e = .returned (.bool true) ∧ Below w.heap.size w w' := by
  have HP := Lib.hid (Own.new w (parCells p) 23 rfl)
  have KO := Lib.hid fun w => route15odd p w
  obtain ⟨q, hv⟩ : ∃ q, Route.next p.d l = q := ⟨_, rfl⟩
  by_cases h0 : p.d < 0 ∨ 16 < p.d
  · rw [decide_eq_true h0] at KO
    go_enter Try.func3, Try.ntmps3
    go_upto_region 3 with (go_at_call 8; (with_reducible refine (law15Alive _).mono ?_); rintro e w1 ⟨rfl, hb1⟩; have hP := HP.out.next hb1; have hok := ((Ok.refl w).alloc (.cells (parCells p) 23)).trans hb1; clear hb1; obtain ⟨p0, p1, p2, p3, p4, p5, p6, p7, p8, p9, p10, p11⟩ := hP.pars; have hpl := hP.lt)
    clear p0 p1 p2 p3 p4 p5 p6 p7 p8 p9 p10 p11 hpl
    replace HP := Lib.hid fun W' (k : Ok w1.drew W') => hP.drew.next k
    have HI := Lib.hid fun W' (k : Ok w1.drew W') => hA.below ((hok.drew).trans k)
    clear hP hA
    generalize w.heap.size = P at HP ⊢
    refine wp_region_facts (by kernel_rfl) 31 rfl (VCNO p A l c q P) Ok (by kernel_rfl) (fun i v w w' h k w'' k' => h w'' (k.trans k')) (fun a b c => Ok.trans) (Ok.refl _) [some 7, some 8, some 9, some 10, some 11, some 12, some 13, some 14, some 15, some 16, some 17, some 18, some 19, some 20, some 21, some 22, some 23, some 24, some 25, some 26, some 27, some 28, some 29, some 30, some 4] rfl 25 rfl ⟨?_, ?_, ?_, ?_, ?_, ?_, ?_, ?_, ?_, ?_, ?_, ?_, ?_, ?_, ?_, ?_, ?_, ?_, ?_, ?_, ?_, ?_, ?_, ?_, ?_, trivial⟩ ?_
    · intro a' w' hF hR
      have e2 : a'.tmps[2]? = some (.pointer (some ⟨P, 0, none⟩)) := hF.slot 2 (by kernel_rfl) rfl
      obtain ⟨p0, p1, p2, p3, p4, p5, p6, p7, p8, p9, p10, p11⟩ := (HP.out _ hR).pars
      refine wpOp_run (v := parV p) rfl rfl ?_ (fun _ _ => rfl) (Ok.refl _)
      clear hF
      go_simp
    · intro a' w' hF hR
      obtain ⟨v0, hv0, e7⟩ := hF.get 0 7 (by kernel_rfl) (by kernel_rfl)
      obtain rfl : v0 = _ := hv0 _ (Ok.refl _)
      clear hF
      refine wpOp_call (f := 9) (args := #[parV p]) rfl rfl ?_ ((KO.out _).mono ?_)
      · go_simp
      · rintro e w2 ⟨rfl, hb2⟩; exact ⟨_, rfl, fun _ _ => rfl, hb2⟩
    · intro a' w' hF hR
      obtain ⟨v1, hv1, e8⟩ := hF.get 1 8 (by kernel_rfl) (by kernel_rfl)
      obtain rfl : v1 = _ := hv1 _ (Ok.refl _)
      refine wpOp_run (v := .bool true) rfl rfl ?_ (fun _ _ => rfl) (Ok.refl _)
      clear hF
      go_simp
    · intro a' w' hF hR
      obtain ⟨vg, hvg, eg⟩ := hF.get 2 9 (by kernel_rfl) (by kernel_rfl)
      obtain rfl : vg = _ := hvg _ (Ok.refl _)
      exact wpOp_skip rfl (wanted_not rfl (by kernel_rfl) eg (by simp)) (fun _ _ => rfl) (Ok.refl _)
    · intro a' w' hF hR
      obtain ⟨vg, hvg, eg⟩ := hF.get 2 9 (by kernel_rfl) (by kernel_rfl)
      obtain rfl : vg = _ := hvg _ (Ok.refl _)
      exact wpOp_skip rfl (wanted_not rfl (by kernel_rfl) eg (by simp)) (fun _ _ => rfl) (Ok.refl _)
    · intro a' w' hF hR
      obtain ⟨vg, hvg, eg⟩ := hF.get 2 9 (by kernel_rfl) (by kernel_rfl)
      obtain rfl : vg = _ := hvg _ (Ok.refl _)
      exact wpOp_skip rfl (wanted_not rfl (by kernel_rfl) eg (by simp)) (fun _ _ => rfl) (Ok.refl _)
    · intro a' w' hF hR
      obtain ⟨v2, hv2, e9⟩ := hF.get 2 9 (by kernel_rfl) (by kernel_rfl)
      obtain rfl : v2 = _ := hv2 _ (Ok.refl _)
      obtain ⟨v5, hv5, e12⟩ := hF.get 5 12 (by kernel_rfl) (by kernel_rfl)
      obtain rfl : v5 = _ := hv5 _ (Ok.refl _)
      refine wpOp_run (v := .bool true) rfl rfl ?_ (fun _ _ => rfl) (Ok.refl _)
      clear hF
      go_simp
    · intro a' w' hF hR
      obtain ⟨v6, hv6, e13⟩ := hF.get 6 13 (by kernel_rfl) (by kernel_rfl)
      obtain rfl : v6 = _ := hv6 _ (Ok.refl _)
      refine wpOp_run (v := .bool true) rfl rfl ?_ (fun _ _ => rfl) (Ok.refl _)
      clear hF
      go_simp
    · intro a' w' hF hR
      obtain ⟨vg, hvg, eg⟩ := hF.get 7 14 (by kernel_rfl) (by kernel_rfl)
      obtain rfl : vg = _ := hvg _ (Ok.refl _)
      exact wpOp_skip rfl (wanted_not rfl (by kernel_rfl) eg (by simp)) (fun _ _ => rfl) (Ok.refl _)
    · intro a' w' hF hR
      obtain ⟨vg, hvg, eg⟩ := hF.get 7 14 (by kernel_rfl) (by kernel_rfl)
      obtain rfl : vg = _ := hvg _ (Ok.refl _)
      exact wpOp_skip rfl (wanted_not rfl (by kernel_rfl) eg (by simp)) (fun _ _ => rfl) (Ok.refl _)
    · intro a' w' hF hR
      obtain ⟨vg, hvg, eg⟩ := hF.get 7 14 (by kernel_rfl) (by kernel_rfl)
      obtain rfl : vg = _ := hvg _ (Ok.refl _)
      exact wpOp_skip rfl (wanted_not rfl (by kernel_rfl) eg (by simp)) (fun _ _ => rfl) (Ok.refl _)
    · intro a' w' hF hR
      obtain ⟨vg, hvg, eg⟩ := hF.get 7 14 (by kernel_rfl) (by kernel_rfl)
      obtain rfl : vg = _ := hvg _ (Ok.refl _)
      exact wpOp_skip rfl (wanted_not rfl (by kernel_rfl) eg (by simp)) (fun _ _ => rfl) (Ok.refl _)
    · intro a' w' hF hR
      obtain ⟨vg, hvg, eg⟩ := hF.get 7 14 (by kernel_rfl) (by kernel_rfl)
      obtain rfl : vg = _ := hvg _ (Ok.refl _)
      exact wpOp_skip rfl (wanted_not rfl (by kernel_rfl) eg (by simp)) (fun _ _ => rfl) (Ok.refl _)
    · intro a' w' hF hR
      obtain ⟨vg, hvg, eg⟩ := hF.get 7 14 (by kernel_rfl) (by kernel_rfl)
      obtain rfl : vg = _ := hvg _ (Ok.refl _)
      exact wpOp_skip rfl (wanted_not rfl (by kernel_rfl) eg (by simp)) (fun _ _ => rfl) (Ok.refl _)
    · intro a' w' hF hR
      obtain ⟨vg, hvg, eg⟩ := hF.get 7 14 (by kernel_rfl) (by kernel_rfl)
      obtain rfl : vg = _ := hvg _ (Ok.refl _)
      exact wpOp_skip rfl (wanted_not rfl (by kernel_rfl) eg (by simp)) (fun _ _ => rfl) (Ok.refl _)
    · intro a' w' hF hR
      obtain ⟨vg, hvg, eg⟩ := hF.get 7 14 (by kernel_rfl) (by kernel_rfl)
      obtain rfl : vg = _ := hvg _ (Ok.refl _)
      exact wpOp_skip rfl (wanted_not rfl (by kernel_rfl) eg (by simp)) (fun _ _ => rfl) (Ok.refl _)
    · intro a' w' hF hR
      obtain ⟨vg, hvg, eg⟩ := hF.get 15 22 (by kernel_rfl) (by kernel_rfl)
      obtain rfl : vg = _ := hvg _ (Ok.refl _)
      exact wpOp_skip rfl (wanted_not rfl (by kernel_rfl) eg (by simp [undef])) (fun _ _ => rfl) (Ok.refl _)
    · intro a' w' hF hR
      obtain ⟨vg, hvg, eg⟩ := hF.get 15 22 (by kernel_rfl) (by kernel_rfl)
      obtain rfl : vg = _ := hvg _ (Ok.refl _)
      exact wpOp_skip rfl (wanted_not rfl (by kernel_rfl) eg (by simp [undef])) (fun _ _ => rfl) (Ok.refl _)
    · intro a' w' hF hR
      obtain ⟨vg, hvg, eg⟩ := hF.get 15 22 (by kernel_rfl) (by kernel_rfl)
      obtain rfl : vg = _ := hvg _ (Ok.refl _)
      exact wpOp_skip rfl (wanted_not rfl (by kernel_rfl) eg (by simp [undef])) (fun _ _ => rfl) (Ok.refl _)
    · intro a' w' hF hR
      obtain ⟨vg, hvg, eg⟩ := hF.get 15 22 (by kernel_rfl) (by kernel_rfl)
      obtain rfl : vg = _ := hvg _ (Ok.refl _)
      exact wpOp_skip rfl (wanted_not rfl (by kernel_rfl) eg (by simp [undef])) (fun _ _ => rfl) (Ok.refl _)
    · intro a' w' hF hR
      obtain ⟨vg, hvg, eg⟩ := hF.get 15 22 (by kernel_rfl) (by kernel_rfl)
      obtain rfl : vg = _ := hvg _ (Ok.refl _)
      exact wpOp_skip rfl (wanted_not rfl (by kernel_rfl) eg (by simp [undef])) (fun _ _ => rfl) (Ok.refl _)
    · intro a' w' hF hR
      obtain ⟨vg, hvg, eg⟩ := hF.get 15 22 (by kernel_rfl) (by kernel_rfl)
      obtain rfl : vg = _ := hvg _ (Ok.refl _)
      exact wpOp_skip rfl (wanted_not rfl (by kernel_rfl) eg (by simp [undef])) (fun _ _ => rfl) (Ok.refl _)
    · intro a' w' hF hR
      obtain ⟨vg, hvg, eg⟩ := hF.get 7 14 (by kernel_rfl) (by kernel_rfl)
      obtain rfl : vg = _ := hvg _ (Ok.refl _)
      exact wpOp_skip rfl (wanted_not rfl (by kernel_rfl) eg (by simp)) (fun _ _ => rfl) (Ok.refl _)
    · intro a' w' hF hR
      obtain ⟨v7, hv7, e14⟩ := hF.get 7 14 (by kernel_rfl) (by kernel_rfl)
      obtain rfl : v7 = _ := hv7 _ (Ok.refl _)
      obtain ⟨v22, hv22, e29⟩ := hF.get 22 29 (by kernel_rfl) (by kernel_rfl)
      obtain rfl : v22 = _ := hv22 _ (Ok.refl _)
      refine wpOp_run (v := .bool true) rfl rfl ?_ (fun _ _ => rfl) (Ok.refl _)
      clear hF
      go_simp
    · intro a' w' hF hR
      obtain ⟨v23, hv23, e30⟩ := hF.get 23 30 (by kernel_rfl) (by kernel_rfl)
      obtain rfl : v23 = _ := hv23 _ (Ok.refl _)
      refine wpOp_run (v := .bool true) rfl rfl ?_ (fun _ _ => rfl) (Ok.refl _)
      clear hF
      go_simp
    intro vs w2 hV hR
    have e24 : vs 24 = .bool true := hV 24 (by decide) _ (Ok.refl _)
    have hok2 := hok.trans ((Ok.refl w1).drew.trans hR)
    clear hV HP HI
    simp only [putFrom, e24]
    simp only [Act.put, List.setIfInBounds_toArray, List.set_cons_zero, List.set_cons_succ]
    go_wp2
    go_ret
    exact ⟨rfl, hok2⟩
  · rw [decide_eq_false h0] at KO
    by_cases h1 : 1024 < l.length
    · have h2 : (1024 : Int) < (l.length : Int) := by omega
      go_enter Try.func3, Try.ntmps3
      go_upto_region 3 with (go_at_call 8; (with_reducible refine (law15Alive _).mono ?_); rintro e w1 ⟨rfl, hb1⟩; have hP := HP.out.next hb1; have hok := ((Ok.refl w).alloc (.cells (parCells p) 23)).trans hb1; clear hb1; obtain ⟨p0, p1, p2, p3, p4, p5, p6, p7, p8, p9, p10, p11⟩ := hP.pars; have hpl := hP.lt)
      clear p0 p1 p2 p3 p4 p5 p6 p7 p8 p9 p10 p11 hpl
      replace HP := Lib.hid fun W' (k : Ok w1.drew W') => hP.drew.next k
      have HI := Lib.hid fun W' (k : Ok w1.drew W') => hA.below ((hok.drew).trans k)
      clear hP hA
      generalize w.heap.size = P at HP ⊢
      refine wp_region_facts (by kernel_rfl) 31 rfl (VCNL p A l c q P) Ok (by kernel_rfl) (fun i v w w' h k w'' k' => h w'' (k.trans k')) (fun a b c => Ok.trans) (Ok.refl _) [some 7, some 8, some 9, some 10, some 11, some 12, some 13, some 14, some 15, some 16, some 17, some 18, some 19, some 20, some 21, some 22, some 23, some 24, some 25, some 26, some 27, some 28, some 29, some 30, some 4] rfl 25 rfl ⟨?_, ?_, ?_, ?_, ?_, ?_, ?_, ?_, ?_, ?_, ?_, ?_, ?_, ?_, ?_, ?_, ?_, ?_, ?_, ?_, ?_, ?_, ?_, ?_, ?_, trivial⟩ ?_
      · intro a' w' hF hR
        have e2 : a'.tmps[2]? = some (.pointer (some ⟨P, 0, none⟩)) := hF.slot 2 (by kernel_rfl) rfl
        obtain ⟨p0, p1, p2, p3, p4, p5, p6, p7, p8, p9, p10, p11⟩ := (HP.out _ hR).pars
        refine wpOp_run (v := parV p) rfl rfl ?_ (fun _ _ => rfl) (Ok.refl _)
        clear hF
        go_simp
      · intro a' w' hF hR
        obtain ⟨v0, hv0, e7⟩ := hF.get 0 7 (by kernel_rfl) (by kernel_rfl)
        obtain rfl : v0 = _ := hv0 _ (Ok.refl _)
        clear hF
        refine wpOp_call (f := 9) (args := #[parV p]) rfl rfl ?_ ((KO.out _).mono ?_)
        · go_simp
        · rintro e w2 ⟨rfl, hb2⟩; exact ⟨_, rfl, fun _ _ => rfl, hb2⟩
      · intro a' w' hF hR
        obtain ⟨v1, hv1, e8⟩ := hF.get 1 8 (by kernel_rfl) (by kernel_rfl)
        obtain rfl : v1 = _ := hv1 _ (Ok.refl _)
        refine wpOp_run (v := .bool false) rfl rfl ?_ (fun _ _ => rfl) (Ok.refl _)
        clear hF
        go_simp
      · intro a' w' hF hR
        have e1 : a'.tmps[1]? = some (.slice A l.length c) := hF.slot 1 (by kernel_rfl) rfl
        obtain ⟨vg, hvg, eg⟩ := hF.get 2 9 (by kernel_rfl) (by kernel_rfl)
        obtain rfl : vg = _ := hvg _ (Ok.refl _)
        refine wpOp_runG (v := .slice A l.length c) rfl (wanted_yes rfl (by kernel_rfl) eg) ?_ (fun _ _ => rfl) (Ok.refl _)
        clear hF
        go_simp
      · intro a' w' hF hR
        obtain ⟨v3, hv3, e10⟩ := hF.get 3 10 (by kernel_rfl) (by kernel_rfl)
        obtain rfl : v3 = _ := hv3 _ (Ok.refl _)
        obtain ⟨vg, hvg, eg⟩ := hF.get 2 9 (by kernel_rfl) (by kernel_rfl)
        obtain rfl : vg = _ := hvg _ (Ok.refl _)
        refine wpOp_runG (v := .int .i64 (l.length : Int)) rfl (wanted_yes rfl (by kernel_rfl) eg) ?_ (fun _ _ => rfl) (Ok.refl _)
        clear hF
        go_simp
      · intro a' w' hF hR
        obtain ⟨v4, hv4, e11⟩ := hF.get 4 11 (by kernel_rfl) (by kernel_rfl)
        obtain rfl : v4 = _ := hv4 _ (Ok.refl _)
        obtain ⟨vg, hvg, eg⟩ := hF.get 2 9 (by kernel_rfl) (by kernel_rfl)
        obtain rfl : vg = _ := hvg _ (Ok.refl _)
        refine wpOp_runG (v := .bool true) rfl (wanted_yes rfl (by kernel_rfl) eg) ?_ (fun _ _ => rfl) (Ok.refl _)
        clear hF
        go_simp
      · intro a' w' hF hR
        obtain ⟨v2, hv2, e9⟩ := hF.get 2 9 (by kernel_rfl) (by kernel_rfl)
        obtain rfl : v2 = _ := hv2 _ (Ok.refl _)
        obtain ⟨v5, hv5, e12⟩ := hF.get 5 12 (by kernel_rfl) (by kernel_rfl)
        obtain rfl : v5 = _ := hv5 _ (Ok.refl _)
        refine wpOp_run (v := .bool true) rfl rfl ?_ (fun _ _ => rfl) (Ok.refl _)
        clear hF
        go_simp
      · intro a' w' hF hR
        obtain ⟨v6, hv6, e13⟩ := hF.get 6 13 (by kernel_rfl) (by kernel_rfl)
        obtain rfl : v6 = _ := hv6 _ (Ok.refl _)
        refine wpOp_run (v := .bool true) rfl rfl ?_ (fun _ _ => rfl) (Ok.refl _)
        clear hF
        go_simp
      · intro a' w' hF hR
        obtain ⟨vg, hvg, eg⟩ := hF.get 7 14 (by kernel_rfl) (by kernel_rfl)
        obtain rfl : vg = _ := hvg _ (Ok.refl _)
        exact wpOp_skip rfl (wanted_not rfl (by kernel_rfl) eg (by simp)) (fun _ _ => rfl) (Ok.refl _)
      · intro a' w' hF hR
        obtain ⟨vg, hvg, eg⟩ := hF.get 7 14 (by kernel_rfl) (by kernel_rfl)
        obtain rfl : vg = _ := hvg _ (Ok.refl _)
        exact wpOp_skip rfl (wanted_not rfl (by kernel_rfl) eg (by simp)) (fun _ _ => rfl) (Ok.refl _)
      · intro a' w' hF hR
        obtain ⟨vg, hvg, eg⟩ := hF.get 7 14 (by kernel_rfl) (by kernel_rfl)
        obtain rfl : vg = _ := hvg _ (Ok.refl _)
        exact wpOp_skip rfl (wanted_not rfl (by kernel_rfl) eg (by simp)) (fun _ _ => rfl) (Ok.refl _)
      · intro a' w' hF hR
        obtain ⟨vg, hvg, eg⟩ := hF.get 7 14 (by kernel_rfl) (by kernel_rfl)
        obtain rfl : vg = _ := hvg _ (Ok.refl _)
        exact wpOp_skip rfl (wanted_not rfl (by kernel_rfl) eg (by simp)) (fun _ _ => rfl) (Ok.refl _)
      · intro a' w' hF hR
        obtain ⟨vg, hvg, eg⟩ := hF.get 7 14 (by kernel_rfl) (by kernel_rfl)
        obtain rfl : vg = _ := hvg _ (Ok.refl _)
        exact wpOp_skip rfl (wanted_not rfl (by kernel_rfl) eg (by simp)) (fun _ _ => rfl) (Ok.refl _)
      · intro a' w' hF hR
        obtain ⟨vg, hvg, eg⟩ := hF.get 7 14 (by kernel_rfl) (by kernel_rfl)
        obtain rfl : vg = _ := hvg _ (Ok.refl _)
        exact wpOp_skip rfl (wanted_not rfl (by kernel_rfl) eg (by simp)) (fun _ _ => rfl) (Ok.refl _)
      · intro a' w' hF hR
        obtain ⟨vg, hvg, eg⟩ := hF.get 7 14 (by kernel_rfl) (by kernel_rfl)
        obtain rfl : vg = _ := hvg _ (Ok.refl _)
        exact wpOp_skip rfl (wanted_not rfl (by kernel_rfl) eg (by simp)) (fun _ _ => rfl) (Ok.refl _)
      · intro a' w' hF hR
        obtain ⟨vg, hvg, eg⟩ := hF.get 7 14 (by kernel_rfl) (by kernel_rfl)
        obtain rfl : vg = _ := hvg _ (Ok.refl _)
        exact wpOp_skip rfl (wanted_not rfl (by kernel_rfl) eg (by simp)) (fun _ _ => rfl) (Ok.refl _)
      · intro a' w' hF hR
        obtain ⟨vg, hvg, eg⟩ := hF.get 15 22 (by kernel_rfl) (by kernel_rfl)
        obtain rfl : vg = _ := hvg _ (Ok.refl _)
        exact wpOp_skip rfl (wanted_not rfl (by kernel_rfl) eg (by simp [undef])) (fun _ _ => rfl) (Ok.refl _)
      · intro a' w' hF hR
        obtain ⟨vg, hvg, eg⟩ := hF.get 15 22 (by kernel_rfl) (by kernel_rfl)
        obtain rfl : vg = _ := hvg _ (Ok.refl _)
        exact wpOp_skip rfl (wanted_not rfl (by kernel_rfl) eg (by simp [undef])) (fun _ _ => rfl) (Ok.refl _)
      · intro a' w' hF hR
        obtain ⟨vg, hvg, eg⟩ := hF.get 15 22 (by kernel_rfl) (by kernel_rfl)
        obtain rfl : vg = _ := hvg _ (Ok.refl _)
        exact wpOp_skip rfl (wanted_not rfl (by kernel_rfl) eg (by simp [undef])) (fun _ _ => rfl) (Ok.refl _)
      · intro a' w' hF hR
        obtain ⟨vg, hvg, eg⟩ := hF.get 15 22 (by kernel_rfl) (by kernel_rfl)
        obtain rfl : vg = _ := hvg _ (Ok.refl _)
        exact wpOp_skip rfl (wanted_not rfl (by kernel_rfl) eg (by simp [undef])) (fun _ _ => rfl) (Ok.refl _)
      · intro a' w' hF hR
        obtain ⟨vg, hvg, eg⟩ := hF.get 15 22 (by kernel_rfl) (by kernel_rfl)
        obtain rfl : vg = _ := hvg _ (Ok.refl _)
        exact wpOp_skip rfl (wanted_not rfl (by kernel_rfl) eg (by simp [undef])) (fun _ _ => rfl) (Ok.refl _)
      · intro a' w' hF hR
        obtain ⟨vg, hvg, eg⟩ := hF.get 15 22 (by kernel_rfl) (by kernel_rfl)
        obtain rfl : vg = _ := hvg _ (Ok.refl _)
        exact wpOp_skip rfl (wanted_not rfl (by kernel_rfl) eg (by simp [undef])) (fun _ _ => rfl) (Ok.refl _)
      · intro a' w' hF hR
        obtain ⟨vg, hvg, eg⟩ := hF.get 7 14 (by kernel_rfl) (by kernel_rfl)
        obtain rfl : vg = _ := hvg _ (Ok.refl _)
        exact wpOp_skip rfl (wanted_not rfl (by kernel_rfl) eg (by simp)) (fun _ _ => rfl) (Ok.refl _)
      · intro a' w' hF hR
        obtain ⟨v7, hv7, e14⟩ := hF.get 7 14 (by kernel_rfl) (by kernel_rfl)
        obtain rfl : v7 = _ := hv7 _ (Ok.refl _)
        obtain ⟨v22, hv22, e29⟩ := hF.get 22 29 (by kernel_rfl) (by kernel_rfl)
        obtain rfl : v22 = _ := hv22 _ (Ok.refl _)
        refine wpOp_run (v := .bool true) rfl rfl ?_ (fun _ _ => rfl) (Ok.refl _)
        clear hF
        go_simp
      · intro a' w' hF hR
        obtain ⟨v23, hv23, e30⟩ := hF.get 23 30 (by kernel_rfl) (by kernel_rfl)
        obtain rfl : v23 = _ := hv23 _ (Ok.refl _)
        refine wpOp_run (v := .bool true) rfl rfl ?_ (fun _ _ => rfl) (Ok.refl _)
        clear hF
        go_simp
      intro vs w2 hV hR
      have e24 : vs 24 = .bool true := hV 24 (by decide) _ (Ok.refl _)
      have hok2 := hok.trans ((Ok.refl w1).drew.trans hR)
      clear hV HP HI
      simp only [putFrom, e24]
      simp only [Act.put, List.setIfInBounds_toArray, List.set_cons_zero, List.set_cons_succ]
      go_wp2
      go_ret
      exact ⟨rfl, hok2⟩
    · have h2 : ¬ (1024 : Int) < (l.length : Int) := by omega
      have h3 : 0 ≤ p.d ∧ p.d ≤ 16 := by omega
      have KL := Lib.hid fun w => routeLost p w h3
      have KN := Lib.hid fun w h => routeNext p A l l.length c w h rfl (by omega) h3
      have KR := Lib.hid fun w h => ref15Next p A l l.length c w h rfl (by omega) h3
      rw [hv] at KN KR
      have HW := Lib.hid (show IntKind.i64.wrap (p.d + 1) = p.d + 1 from IntWalk.i64_in _ ⟨by omega, by omega⟩)
      clear h0 h1 h3 hv
      go_enter Try.func3, Try.ntmps3
      go_upto_region 3 with (go_at_call 8; (with_reducible refine (law15Alive _).mono ?_); rintro e w1 ⟨rfl, hb1⟩; have hP := HP.out.next hb1; have hok := ((Ok.refl w).alloc (.cells (parCells p) 23)).trans hb1; clear hb1; obtain ⟨p0, p1, p2, p3, p4, p5, p6, p7, p8, p9, p10, p11⟩ := hP.pars; have hpl := hP.lt)
      clear p0 p1 p2 p3 p4 p5 p6 p7 p8 p9 p10 p11 hpl
      replace HP := Lib.hid fun W' (k : Ok w1.drew W') => hP.drew.next k
      have HI := Lib.hid fun W' (k : Ok w1.drew W') => hA.below ((hok.drew).trans k)
      clear hP hA
      generalize w.heap.size = P at HP ⊢
      refine wp_region_facts (by kernel_rfl) 31 rfl (VCNY p A l c q P) Ok (by kernel_rfl) (fun i v w w' h k w'' k' => h w'' (k.trans k')) (fun a b c => Ok.trans) (Ok.refl _) [some 7, some 8, some 9, some 10, some 11, some 12, some 13, some 14, some 15, some 16, some 17, some 18, some 19, some 20, some 21, some 22, some 23, some 24, some 25, some 26, some 27, some 28, some 29, some 30, some 4] rfl 25 rfl ⟨?_, ?_, ?_, ?_, ?_, ?_, ?_, ?_, ?_, ?_, ?_, ?_, ?_, ?_, ?_, ?_, ?_, ?_, ?_, ?_, ?_, ?_, ?_, ?_, ?_, trivial⟩ ?_
      · intro a' w' hF hR
        have e2 : a'.tmps[2]? = some (.pointer (some ⟨P, 0, none⟩)) := hF.slot 2 (by kernel_rfl) rfl
        obtain ⟨p0, p1, p2, p3, p4, p5, p6, p7, p8, p9, p10, p11⟩ := (HP.out _ hR).pars
        refine wpOp_run (v := parV p) rfl rfl ?_ (fun _ _ => rfl) (Ok.refl _)
        clear hF
        go_simp
      · intro a' w' hF hR
        obtain ⟨v0, hv0, e7⟩ := hF.get 0 7 (by kernel_rfl) (by kernel_rfl)
        obtain rfl : v0 = _ := hv0 _ (Ok.refl _)
        clear hF
        refine wpOp_call (f := 9) (args := #[parV p]) rfl rfl ?_ ((KO.out _).mono ?_)
        · go_simp
        · rintro e w2 ⟨rfl, hb2⟩; exact ⟨_, rfl, fun _ _ => rfl, hb2⟩
      · intro a' w' hF hR
        obtain ⟨v1, hv1, e8⟩ := hF.get 1 8 (by kernel_rfl) (by kernel_rfl)
        obtain rfl : v1 = _ := hv1 _ (Ok.refl _)
        refine wpOp_run (v := .bool false) rfl rfl ?_ (fun _ _ => rfl) (Ok.refl _)
        clear hF
        go_simp
      · intro a' w' hF hR
        have e1 : a'.tmps[1]? = some (.slice A l.length c) := hF.slot 1 (by kernel_rfl) rfl
        obtain ⟨vg, hvg, eg⟩ := hF.get 2 9 (by kernel_rfl) (by kernel_rfl)
        obtain rfl : vg = _ := hvg _ (Ok.refl _)
        refine wpOp_runG (v := .slice A l.length c) rfl (wanted_yes rfl (by kernel_rfl) eg) ?_ (fun _ _ => rfl) (Ok.refl _)
        clear hF
        go_simp
      · intro a' w' hF hR
        obtain ⟨v3, hv3, e10⟩ := hF.get 3 10 (by kernel_rfl) (by kernel_rfl)
        obtain rfl : v3 = _ := hv3 _ (Ok.refl _)
        obtain ⟨vg, hvg, eg⟩ := hF.get 2 9 (by kernel_rfl) (by kernel_rfl)
        obtain rfl : vg = _ := hvg _ (Ok.refl _)
        refine wpOp_runG (v := .int .i64 (l.length : Int)) rfl (wanted_yes rfl (by kernel_rfl) eg) ?_ (fun _ _ => rfl) (Ok.refl _)
        clear hF
        go_simp
      · intro a' w' hF hR
        obtain ⟨v4, hv4, e11⟩ := hF.get 4 11 (by kernel_rfl) (by kernel_rfl)
        obtain rfl : v4 = _ := hv4 _ (Ok.refl _)
        obtain ⟨vg, hvg, eg⟩ := hF.get 2 9 (by kernel_rfl) (by kernel_rfl)
        obtain rfl : vg = _ := hvg _ (Ok.refl _)
        refine wpOp_runG (v := .bool false) rfl (wanted_yes rfl (by kernel_rfl) eg) ?_ (fun _ _ => rfl) (Ok.refl _)
        clear hF
        go_simp
      · intro a' w' hF hR
        obtain ⟨v2, hv2, e9⟩ := hF.get 2 9 (by kernel_rfl) (by kernel_rfl)
        obtain rfl : v2 = _ := hv2 _ (Ok.refl _)
        obtain ⟨v5, hv5, e12⟩ := hF.get 5 12 (by kernel_rfl) (by kernel_rfl)
        obtain rfl : v5 = _ := hv5 _ (Ok.refl _)
        refine wpOp_run (v := .bool false) rfl rfl ?_ (fun _ _ => rfl) (Ok.refl _)
        clear hF
        go_simp
      · intro a' w' hF hR
        obtain ⟨v6, hv6, e13⟩ := hF.get 6 13 (by kernel_rfl) (by kernel_rfl)
        obtain rfl : v6 = _ := hv6 _ (Ok.refl _)
        refine wpOp_run (v := .bool false) rfl rfl ?_ (fun _ _ => rfl) (Ok.refl _)
        clear hF
        go_simp
      · intro a' w' hF hR
        have e2 : a'.tmps[2]? = some (.pointer (some ⟨P, 0, none⟩)) := hF.slot 2 (by kernel_rfl) rfl
        obtain ⟨vg, hvg, eg⟩ := hF.get 7 14 (by kernel_rfl) (by kernel_rfl)
        obtain rfl : vg = _ := hvg _ (Ok.refl _)
        obtain ⟨p0, p1, p2, p3, p4, p5, p6, p7, p8, p9, p10, p11⟩ := (HP.out _ hR).pars
        refine wpOp_runG (v := parV p) rfl (wanted_yes rfl (by kernel_rfl) eg) ?_ (fun _ _ => rfl) (Ok.refl _)
        clear hF
        go_simp
      · intro a' w' hF hR
        have e1 : a'.tmps[1]? = some (.slice A l.length c) := hF.slot 1 (by kernel_rfl) rfl
        obtain ⟨vg, hvg, eg⟩ := hF.get 7 14 (by kernel_rfl) (by kernel_rfl)
        obtain rfl : vg = _ := hvg _ (Ok.refl _)
        refine wpOp_runG (v := .slice A l.length c) rfl (wanted_yes rfl (by kernel_rfl) eg) ?_ (fun _ _ => rfl) (Ok.refl _)
        clear hF
        go_simp
      · intro a' w' hF hR
        obtain ⟨v8, hv8, e15⟩ := hF.get 8 15 (by kernel_rfl) (by kernel_rfl)
        obtain rfl : v8 = _ := hv8 _ (Ok.refl _)
        obtain ⟨v9, hv9, e16⟩ := hF.get 9 16 (by kernel_rfl) (by kernel_rfl)
        obtain rfl : v9 = _ := hv9 _ (Ok.refl _)
        obtain ⟨vg, hvg, eg⟩ := hF.get 7 14 (by kernel_rfl) (by kernel_rfl)
        obtain rfl : vg = _ := hvg _ (Ok.refl _)
        refine wpOp_callG (f := 10) (args := #[parV p, .slice A l.length c]) rfl (wanted_yes rfl (by kernel_rfl) eg) ?_ ((KN.out _ (HI.out _ hR)).mono ?_)
        · go_simp
        · rintro e w2 ⟨rfl, hb2⟩; exact ⟨_, rfl, fun _ _ => rfl, hb2⟩
      · intro a' w' hF hR
        have e2 : a'.tmps[2]? = some (.pointer (some ⟨P, 0, none⟩)) := hF.slot 2 (by kernel_rfl) rfl
        obtain ⟨vg, hvg, eg⟩ := hF.get 7 14 (by kernel_rfl) (by kernel_rfl)
        obtain rfl : vg = _ := hvg _ (Ok.refl _)
        obtain ⟨p0, p1, p2, p3, p4, p5, p6, p7, p8, p9, p10, p11⟩ := (HP.out _ hR).pars
        refine wpOp_runG (v := parV p) rfl (wanted_yes rfl (by kernel_rfl) eg) ?_ (fun _ _ => rfl) (Ok.refl _)
        clear hF
        go_simp
      · intro a' w' hF hR
        have e1 : a'.tmps[1]? = some (.slice A l.length c) := hF.slot 1 (by kernel_rfl) rfl
        obtain ⟨vg, hvg, eg⟩ := hF.get 7 14 (by kernel_rfl) (by kernel_rfl)
        obtain rfl : vg = _ := hvg _ (Ok.refl _)
        refine wpOp_runG (v := .slice A l.length c) rfl (wanted_yes rfl (by kernel_rfl) eg) ?_ (fun _ _ => rfl) (Ok.refl _)
        clear hF
        go_simp
      · intro a' w' hF hR
        obtain ⟨v11, hv11, e18⟩ := hF.get 11 18 (by kernel_rfl) (by kernel_rfl)
        obtain rfl : v11 = _ := hv11 _ (Ok.refl _)
        obtain ⟨v12, hv12, e19⟩ := hF.get 12 19 (by kernel_rfl) (by kernel_rfl)
        obtain rfl : v12 = _ := hv12 _ (Ok.refl _)
        obtain ⟨vg, hvg, eg⟩ := hF.get 7 14 (by kernel_rfl) (by kernel_rfl)
        obtain rfl : vg = _ := hvg _ (Ok.refl _)
        refine wpOp_callG (f := 11) (args := #[parV p, .slice A l.length c]) rfl (wanted_yes rfl (by kernel_rfl) eg) ?_ ((KR.out _ (HI.out _ hR)).mono ?_)
        · go_simp
        · rintro e w2 ⟨rfl, hb2⟩; exact ⟨_, rfl, fun _ _ => rfl, hb2⟩
      · intro a' w' hF hR
        obtain ⟨v10, hv10, e17⟩ := hF.get 10 17 (by kernel_rfl) (by kernel_rfl)
        obtain rfl : v10 = _ := hv10 _ (Ok.refl _)
        obtain ⟨v13, hv13, e20⟩ := hF.get 13 20 (by kernel_rfl) (by kernel_rfl)
        obtain rfl : v13 = _ := hv13 _ (Ok.refl _)
        obtain ⟨vg, hvg, eg⟩ := hF.get 7 14 (by kernel_rfl) (by kernel_rfl)
        obtain rfl : vg = _ := hvg _ (Ok.refl _)
        have hv : (q == q) = true := by simp
        refine wpOp_runG (v := .bool true) rfl (wanted_yes rfl (by kernel_rfl) eg) ?_ (fun _ _ => rfl) (Ok.refl _)
        clear hF
        go_simp
      · intro a' w' hF hR
        obtain ⟨v14, hv14, e21⟩ := hF.get 14 21 (by kernel_rfl) (by kernel_rfl)
        obtain rfl : v14 = _ := hv14 _ (Ok.refl _)
        obtain ⟨vg, hvg, eg⟩ := hF.get 7 14 (by kernel_rfl) (by kernel_rfl)
        obtain rfl : vg = _ := hvg _ (Ok.refl _)
        refine wpOp_runG (v := .bool true) rfl (wanted_yes rfl (by kernel_rfl) eg) ?_ (fun _ _ => rfl) (Ok.refl _)
        clear hF
        go_simp
      · intro a' w' hF hR
        have e2 : a'.tmps[2]? = some (.pointer (some ⟨P, 0, none⟩)) := hF.slot 2 (by kernel_rfl) rfl
        obtain ⟨vg, hvg, eg⟩ := hF.get 15 22 (by kernel_rfl) (by kernel_rfl)
        obtain rfl : vg = _ := hvg _ (Ok.refl _)
        obtain ⟨p0, p1, p2, p3, p4, p5, p6, p7, p8, p9, p10, p11⟩ := (HP.out _ hR).pars
        refine wpOp_runG (v := parV p) rfl (wanted_yes rfl (by kernel_rfl) eg) ?_ (fun _ _ => rfl) (Ok.refl _)
        clear hF
        go_simp
      · intro a' w' hF hR
        obtain ⟨v16, hv16, e23⟩ := hF.get 16 23 (by kernel_rfl) (by kernel_rfl)
        obtain rfl : v16 = _ := hv16 _ (Ok.refl _)
        obtain ⟨vg, hvg, eg⟩ := hF.get 15 22 (by kernel_rfl) (by kernel_rfl)
        obtain rfl : vg = _ := hvg _ (Ok.refl _)
        refine wpOp_callG (f := 12) (args := #[parV p]) rfl (wanted_yes rfl (by kernel_rfl) eg) ?_ ((KL.out _).mono ?_)
        · go_simp
        · rintro e w2 ⟨rfl, hb2⟩; exact ⟨_, rfl, fun _ _ => rfl, hb2⟩
      · intro a' w' hF hR
        have e2 : a'.tmps[2]? = some (.pointer (some ⟨P, 0, none⟩)) := hF.slot 2 (by kernel_rfl) rfl
        obtain ⟨vg, hvg, eg⟩ := hF.get 15 22 (by kernel_rfl) (by kernel_rfl)
        obtain rfl : vg = _ := hvg _ (Ok.refl _)
        refine wpOp_runG (v := .pointer (some ⟨P, 2, none⟩)) rfl (wanted_yes rfl (by kernel_rfl) eg) ?_ (fun _ _ => rfl) (Ok.refl _)
        clear hF
        go_simp
      · intro a' w' hF hR
        obtain ⟨v18, hv18, e25⟩ := hF.get 18 25 (by kernel_rfl) (by kernel_rfl)
        obtain rfl : v18 = _ := hv18 _ (Ok.refl _)
        obtain ⟨vg, hvg, eg⟩ := hF.get 15 22 (by kernel_rfl) (by kernel_rfl)
        obtain rfl : vg = _ := hvg _ (Ok.refl _)
        obtain ⟨p0, p1, p2, p3, p4, p5, p6, p7, p8, p9, p10, p11⟩ := (HP.out _ hR).pars
        refine wpOp_runG (v := .int .i64 p.d) rfl (wanted_yes rfl (by kernel_rfl) eg) ?_ (fun _ _ => rfl) (Ok.refl _)
        clear hF
        go_simp
      · intro a' w' hF hR
        obtain ⟨v19, hv19, e26⟩ := hF.get 19 26 (by kernel_rfl) (by kernel_rfl)
        obtain rfl : v19 = _ := hv19 _ (Ok.refl _)
        obtain ⟨vg, hvg, eg⟩ := hF.get 15 22 (by kernel_rfl) (by kernel_rfl)
        obtain rfl : vg = _ := hvg _ (Ok.refl _)
        have hw := HW.out
        refine wpOp_runG (v := .int .i64 (p.d + 1)) rfl (wanted_yes rfl (by kernel_rfl) eg) ?_ (fun _ _ => rfl) (Ok.refl _)
        clear hF
        go_simp
      · intro a' w' hF hR
        obtain ⟨v17, hv17, e24⟩ := hF.get 17 24 (by kernel_rfl) (by kernel_rfl)
        obtain rfl : v17 = _ := hv17 _ (Ok.refl _)
        obtain ⟨v20, hv20, e27⟩ := hF.get 20 27 (by kernel_rfl) (by kernel_rfl)
        obtain rfl : v20 = _ := hv20 _ (Ok.refl _)
        obtain ⟨vg, hvg, eg⟩ := hF.get 15 22 (by kernel_rfl) (by kernel_rfl)
        obtain rfl : vg = _ := hvg _ (Ok.refl _)
        have hv : (p.d + 1 == p.d + 1) = true := by simp
        refine wpOp_runG (v := .bool true) rfl (wanted_yes rfl (by kernel_rfl) eg) ?_ (fun _ _ => rfl) (Ok.refl _)
        clear hF
        go_simp
      · intro a' w' hF hR
        obtain ⟨v15, hv15, e22⟩ := hF.get 15 22 (by kernel_rfl) (by kernel_rfl)
        obtain rfl : v15 = _ := hv15 _ (Ok.refl _)
        obtain ⟨v21, hv21, e28⟩ := hF.get 21 28 (by kernel_rfl) (by kernel_rfl)
        obtain rfl : v21 = _ := hv21 _ (Ok.refl _)
        obtain ⟨vg, hvg, eg⟩ := hF.get 7 14 (by kernel_rfl) (by kernel_rfl)
        obtain rfl : vg = _ := hvg _ (Ok.refl _)
        refine wpOp_runG (v := .bool true) rfl (wanted_yes rfl (by kernel_rfl) eg) ?_ (fun _ _ => rfl) (Ok.refl _)
        clear hF
        go_simp
      · intro a' w' hF hR
        obtain ⟨v7, hv7, e14⟩ := hF.get 7 14 (by kernel_rfl) (by kernel_rfl)
        obtain rfl : v7 = _ := hv7 _ (Ok.refl _)
        obtain ⟨v22, hv22, e29⟩ := hF.get 22 29 (by kernel_rfl) (by kernel_rfl)
        obtain rfl : v22 = _ := hv22 _ (Ok.refl _)
        refine wpOp_run (v := .bool true) rfl rfl ?_ (fun _ _ => rfl) (Ok.refl _)
        clear hF
        go_simp
      · intro a' w' hF hR
        obtain ⟨v23, hv23, e30⟩ := hF.get 23 30 (by kernel_rfl) (by kernel_rfl)
        obtain rfl : v23 = _ := hv23 _ (Ok.refl _)
        refine wpOp_run (v := .bool true) rfl rfl ?_ (fun _ _ => rfl) (Ok.refl _)
        clear hF
        go_simp
      intro vs w2 hV hR
      have e24 : vs 24 = .bool true := hV 24 (by decide) _ (Ok.refl _)
      have hok2 := hok.trans ((Ok.refl w1).drew.trans hR)
      clear hV HP HI
      simp only [putFrom, e24]
      simp only [Act.put, List.setIfInBounds_toArray, List.set_cons_zero, List.set_cons_succ]
      go_wp2
      go_ret
      exact ⟨rfl, hok2⟩
theorem own : ownKnob Try.prog.godebug = none := by kernel_rfl
theorem laidOut : laidOutB Try.prog = true := by kernel_rfl
set_option maxRecDepth 100000 in
theorem lifted (os : Os) (started : os.Started) (H : Type) (enc : TypeId × Value → H) :
    ReturnsInHanded {} Try.checked os 3 .any (Rows.routeNextsSpec.pre6 enc Try.prog Try.f3 Rows.routeNextsRow.domain false) (Rows.routeNextsSpec.post enc Try.prog Try.f3 false true false false) := by
  refine returnsInHanded_of_change (C := Try.checked) own started (by kernel_rfl) Try.func3
    (ChangeSpec.witness6 (enc := enc) (C := Try.checked) false ⟨#[], #[.agg #[.int .i64 0, .int .i64 0, .int .i64 0, .int .i64 0, .int .i64 0, .int .i64 0, .int .i64 0, .int .i64 0, .int .i64 0, .int .i64 0, .int .i64 0, .int .i64 0], .slice none 0 0], []⟩ 8 (by kernel_rfl) (by kernel_rfl) (by kernel_rfl) (by kernel_rfl)) ?_
  intro W base args ds gs before hval0 hW _ _
  have hval : ∀ (j : Nat) t v, Try.f3.params[j]? = some t → args[j]? = some v → Value.okWide Try.prog W .any base t v := hval0
  have hW' := hW
  obtain ⟨p, q, hA, hV, rfl, _, _⟩ := hW
  obtain ⟨rfl, rfl⟩ := trodVars_none hV
  replace hA : DataW.TrodAll enc Try.prog W 0 (fun _ => true) true Try.f3.params.toList args.toList ds p := hA
  rw [Try.params3] at hA hval
  obtain ⟨v0, vs0, d0, ds0, p0, q0, hargs, rfl, rfl, h0, r0⟩ := trodAll_cons hA
  obtain ⟨v1, vs1, d1, ds1, p1, q1, rfl, rfl, rfl, h1, r1⟩ := trodAll_cons r0
  obtain ⟨rfl, rfl, rfl⟩ := trodAll_nil r1
  obtain rfl : args = #[v0, v1] := by cases args; simp_all
  obtain ⟨p0, rfl, wp0⟩ := open_par Try.underlying23 rfl (by kernel_rfl) (by kernel_rfl) (by kernel_rfl) (hval 0 23 v0 rfl rfl) h0
  obtain ⟨A1, l1, c1, rfl, hA1, hl1, hw1⟩ := open_sliceK Try.underlying24 Try.underlying3 (by kernel_rfl) (hval 1 24 v1 rfl rfl) h1
  refine (walk W p0 wp0 A1 l1 c1 hA1 hl1 hw1).mono fun e W' ⟨he, hb⟩ => ?_
  subst he
  exact ⟨_, rfl, law_post hW' laidOut (by rw [Try.params3]; exact params_ok (by kernel_rfl)) rfl (by kernel_rfl) Try.underlying4 rfl rfl rfl hb⟩
theorem over : Rows.routeNextsRow.holds Try.pinned (OpenSpec.ofChange Rows.routeNextsSpec) :=
  OpenClaim.holds_of_wide 3 Try.f3 rfl rfl rfl rfl rfl rfl rfl ⟨rfl, rfl, rfl, rfl, rfl⟩ rfl rfl rfl rfl rfl (by kernel_rfl) Try.func3 (by kernel_rfl)
    (of_decide_eq_true (by kernel_rfl)) (by unfold Func.isWrapper; first | (rw [if_pos (by decide +kernel)]; kernel_rfl) | (rw [if_neg (by decide +kernel)]; exact ⟨rfl, rfl⟩))
    (fun os started H enc _ => lifted os started H enc)
theorem proved : Rows.RouteNextsSaid := over
end Go.Proofs.Ytgkcmiaagbgajaa.routeNexts
