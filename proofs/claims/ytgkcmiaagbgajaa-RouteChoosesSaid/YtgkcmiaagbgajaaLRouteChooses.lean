/- RouteChooses: for every fabric's numbers and all messages the law answers true: Usable and Choose answer what the document says. No condition. -/
import Derived.Test.YtgkcmiaagbgajaaC15f
import Derived.Test.YtgkcmiaagbgajaaC15d
import Derived.Test.YtgkcmiaagbgajaaC06f
import Derived.Test.YtgkcmiaagbgajaaW06
namespace Go.Proofs.Ytgkcmiaagbgajaa.routeChooses
open Go.ChangeShapes Go.WideShapes Go.ChangeAt Go.RowKit
set_option linter.unusedVariables false
set_option maxRecDepth 100000
attribute [local go_sem ↓] Go.wp_at_zero Go.wp_at_succ
/-- What each operation leaves. -/
def VMCB (p : Par) (m : Msg) (A : Option Addr) (c' : Nat) (u : Bool) (g : Nat) (w : World) (v : Value) : Nat → Prop
  | 0 => v = .pointer (some ⟨g, 13, none⟩)
  | 1 => v = .slice A m.table.length c'
  | 2 => v = .int .i64 (m.table.length : Int)
  | 3 => v = .bool true
  | 4 => v = .bool true
  | 5 => v = undef
  | 6 => v = undef
  | 7 => v = undef
  | 8 => v = undef
  | 9 => v = undef
  | 10 => v = undef
  | 11 => v = undef
  | 12 => v = .bool true
  | _ => v = .bool true
/-- It stays so. -/
def VCCB (p : Par) (m : Msg) (A : Option Addr) (c' : Nat) (u : Bool) (g : Nat) (i : Nat) (v : Value) (w : World) : Prop := ∀ w', Ok w w' → VMCB p m A c' u g w' v i
/-- What each operation leaves. -/
def VMCS (p : Par) (m : Msg) (A : Option Addr) (c' : Nat) (u : Bool) (g : Nat) (w : World) (v : Value) : Nat → Prop
  | 0 => v = .pointer (some ⟨g, 13, none⟩)
  | 1 => v = .slice A m.table.length c'
  | 2 => v = .int .i64 (m.table.length : Int)
  | 3 => v = .bool false
  | 4 => v = .bool false
  | 5 => v = parV p
  | 6 => v = .agg #[.int .i64 m.kind, .int .i64 m.frm, .int .i64 m.lo, .int .i64 m.hi, .int .i64 m.held, .int .i64 m.hops, .bool m.good, .bool m.ref, .int .i64 m.slo, .int .i64 m.shi, .int .i64 m.pulse, .int .i64 m.time, .int .i64 m.num, .slice A m.table.length c']
  | 7 => v = .bool u
  | 8 => v = parV p
  | 9 => v = .agg #[.int .i64 m.kind, .int .i64 m.frm, .int .i64 m.lo, .int .i64 m.hi, .int .i64 m.held, .int .i64 m.hops, .bool m.good, .bool m.ref, .int .i64 m.slo, .int .i64 m.shi, .int .i64 m.pulse, .int .i64 m.time, .int .i64 m.num, .slice A m.table.length c']
  | 10 => v = .bool u
  | 11 => v = .bool false
  | 12 => v = .bool false
  | _ => v = .bool true
/-- It stays so. -/
def VCCS (p : Par) (m : Msg) (A : Option Addr) (c' : Nat) (u : Bool) (g : Nat) (i : Nat) (v : Value) (w : World) : Prop := ∀ w', Ok w w' → VMCS p m A c' u g w' v i
/-- What each operation leaves. -/
def VMCE (b : Msg) (B B0 : Option Addr) (d c0 b1 off q0 c j : Nat) (w : World) (v : Value) : Nat → Prop
  | 0 => v = .bool true
  | 1 => v = .bool true
  | 2 => v = .agg #[.int .i64 b.kind, .int .i64 b.frm, .int .i64 b.lo, .int .i64 b.hi, .int .i64 b.held, .int .i64 b.hops, .bool b.good, .bool b.ref, .int .i64 b.slo, .int .i64 b.shi, .int .i64 b.pulse, .int .i64 b.time, .int .i64 b.num, .slice B b.table.length d]
  | 3 => v = .slice (some ⟨b1, off, none⟩) q0 c
  | 4 => v = .int .i64 (j : Int)
  | 5 => v = .pointer (some ⟨b1, off + j * 14, none⟩)
  | 6 => v = .agg #[.int .i64 b.kind, .int .i64 b.frm, .int .i64 b.lo, .int .i64 b.hi, .int .i64 b.held, .int .i64 b.hops, .bool b.good, .bool b.ref, .int .i64 b.slo, .int .i64 b.shi, .int .i64 b.pulse, .int .i64 b.time, .int .i64 b.num, .slice B0 b.table.length c0]
  | 7 => v = .bool true
  | 8 => v = .bool true
  | 9 => v = .bool true
  | _ => v = .bool true
/-- It stays so. -/
def VCCE (b : Msg) (B B0 : Option Addr) (d c0 b1 off q0 c j : Nat) (i : Nat) (v : Value) (w : World) : Prop := ∀ w', Ok w w' → VMCE b B B0 d c0 b1 off q0 c j w' v i
set_option maxHeartbeats 6400000 in
theorem walk (w : World) (p : Par) (wp : ParWf p) (A : Option Addr) (l : List MA) (c : Nat) (hA : MsgsAt w A l) (hl : l.length ≤ 9223372036854775807) (hw : ∀ x ∈ l, Mfit x) :
    Calls Try.prog 4 #[parV p, .slice A l.length c] w fun e w' => e = .returned (.bool true) ∧ Below w.heap.size w w' := by
  have HP := Lib.hid (Own.new w (parCells p) 23 rfl)
  have KO := Lib.hid fun w => route15odd p w
  by_cases h0 : p.d < 0 ∨ 16 < p.d
  · rw [decide_eq_true h0] at KO
    clear h0 hA hw
    go_enter Try.func4, Try.ntmps4
    go_wp2_with (first | (go_at_call 8; (with_reducible refine (law15Alive _).mono ?_); rintro e w1 ⟨rfl, hb1⟩; have hP := HP.out.next hb1; have hok := ((Ok.refl w).alloc (.cells (parCells p) 23)).trans hb1; clear hb1; obtain ⟨p0, p1, p2, p3, p4, p5, p6, p7, p8, p9, p10, p11⟩ := hP.pars; have hpl := hP.lt) | (go_at_call 9; (with_reducible refine (KO.out _).mono ?_); rintro e w2 ⟨rfl, hb2⟩; replace hP := hP.next hb2; replace hok := hok.trans hb2; clear hb2 p0 p1 p2 p3 p4 p5 p6 p7 p8 p9 p10 p11 hpl; obtain ⟨p0, p1, p2, p3, p4, p5, p6, p7, p8, p9, p10, p11⟩ := hP.pars; have hpl := hP.lt))
    go_ret
    exact ⟨rfl, hok⟩
  rw [decide_eq_false h0] at KO
  by_cases h1 : 256 < l.length
  · have h2 : (256 : Int) < (l.length : Int) := by omega
    clear h0 hA hw
    go_enter Try.func4, Try.ntmps4
    go_wp2_with (first | (go_at_call 8; (with_reducible refine (law15Alive _).mono ?_); rintro e w1 ⟨rfl, hb1⟩; have hP := HP.out.next hb1; have hok := ((Ok.refl w).alloc (.cells (parCells p) 23)).trans hb1; clear hb1; obtain ⟨p0, p1, p2, p3, p4, p5, p6, p7, p8, p9, p10, p11⟩ := hP.pars; have hpl := hP.lt) | (go_at_call 9; (with_reducible refine (KO.out _).mono ?_); rintro e w2 ⟨rfl, hb2⟩; replace hP := hP.next hb2; replace hok := hok.trans hb2; clear hb2 p0 p1 p2 p3 p4 p5 p6 p7 p8 p9 p10 p11 hpl; obtain ⟨p0, p1, p2, p3, p4, p5, p6, p7, p8, p9, p10, p11⟩ := hP.pars; have hpl := hP.lt))
    go_ret
    exact ⟨rfl, hok⟩
  have h2 : ¬ (256 : Int) < (l.length : Int) := by omega
  have h3 : 0 ≤ p.d ∧ p.d ≤ 16 := by omega
  have hl2 : l.length ≤ 256 := by omega
  have HF : Hid (∀ x ∈ l, x.m.table.length ≤ 8796093022208) := Lib.hid fun x hx => (hw x hx).2.2.2
  have HA := Lib.hid hA
  clear h0 h1 hA hw hl
  have KU := Lib.hid fun m A c w => routeUsable p m A c w
  have KR := Lib.hid fun m A c w => route15Usable p m A c w
  have KS := Lib.hid fun m n A B ca cb w hA hB hl hn => ref6Same m n A B ca cb w hA hB hl hn
  unfold msgV at KU KR KS
  have KC := Lib.hid fun w1 (k : Ok w w1) => routeChoose p A l c w1 (HA.out.below k) (by omega) HF.out
  unfold ChooseEnd at KC
  have KD := Lib.hid fun w1 (k : Ok w w1) => ref15Choose p A l c w1 (HA.out.below k) (by omega)
  have HTB := Lib.hid fun W (k : Ok w W) => best_table (D := p.d) (HA.out.below k)
  have HLB := Lib.hid (best_len (D := p.d) HF.out)
  go_enter Try.func4, Try.ntmps4
  go_wp2_with (first | (go_at_call 8; (with_reducible refine (law15Alive _).mono ?_); rintro e w1 ⟨rfl, hb1⟩; have hP := HP.out.next hb1; have hok := ((Ok.refl w).alloc (.cells (parCells p) 23)).trans hb1; clear hb1; obtain ⟨p0, p1, p2, p3, p4, p5, p6, p7, p8, p9, p10, p11⟩ := hP.pars; have hpl := hP.lt) | (go_at_call 9; (with_reducible refine (KO.out _).mono ?_); rintro e w2 ⟨rfl, hb2⟩; replace hP := hP.next hb2; replace hok := hok.trans hb2; clear hb2 p0 p1 p2 p3 p4 p5 p6 p7 p8 p9 p10 p11 hpl; obtain ⟨p0, p1, p2, p3, p4, p5, p6, p7, p8, p9, p10, p11⟩ := hP.pars; have hpl := hP.lt))
  obtain ⟨P, hPe⟩ : ∃ P, w.heap.size = P := ⟨_, rfl⟩
  rw [hPe] at hP ⊢
  have HPe := Lib.hid hPe
  clear hPe HP KO p0 p1 p2 p3 p4 p5 p6 p7 p8 p9 p10 p11 hpl
  go_loopw [21] (fun i wr => ∃ k : Nat, k ≤ l.length ∧ i = .int .i64 k ∧ Own wr P (parCells p) ∧ Ok w wr) (fun i _ => l.length - (intOf i).toNat)
  case atStart => exact ⟨0, Nat.zero_le _, rfl, hP, hok⟩
  case round =>
    clear hP hok
    obtain ⟨k, hk, rfl, hP, hok⟩ := hrel
    by_cases hlt : k < l.length
    · obtain ⟨b0, off, hBe, hbl, x0, x1, x2, x3, x4, x5, x6, x7, x8, x9, x10, x11, x12, x13⟩ := (HA.out.below hok).nthAt k hlt
      subst hBe
      obtain ⟨x, hx⟩ : ∃ x, nth l k = x := ⟨_, rfl⟩
      rw [hx] at x0 x1 x2 x3 x4 x5 x6 x7 x8 x9 x10 x11 x12 x13
      clear hx
      obtain ⟨m, A, c'⟩ := x
      simp only at x0 x1 x2 x3 x4 x5 x6 x7 x8 x9 x10 x11 x12 x13
      have HKU := Lib.hid fun w => KU.out m A c' w
      have HKR := Lib.hid fun w => KR.out m A c' w
      obtain ⟨u, hu⟩ : ∃ u, Route.may p.d m = u := ⟨_, rfl⟩
      rw [hu] at HKU HKR
      clear hu KC KD KU KR KS HTB HLB HF
      go_upto_region 8 with (fail)
      have hX : Own (wr.alloc (.cells #[.int .i64 m.kind, .int .i64 m.frm, .int .i64 m.lo, .int .i64 m.hi, .int .i64 m.held, .int .i64 m.hops, .bool m.good, .bool m.ref, .int .i64 m.slo, .int .i64 m.shi, .int .i64 m.pulse, .int .i64 m.time, .int .i64 m.num, .slice A m.table.length c'] 38)) wr.heap.size (msgCells m A c') := Own.new wr _ 38 rfl
      replace hP := hP.alloc (.cells #[.int .i64 m.kind, .int .i64 m.frm, .int .i64 m.lo, .int .i64 m.hi, .int .i64 m.held, .int .i64 m.hops, .bool m.good, .bool m.ref, .int .i64 m.slo, .int .i64 m.shi, .int .i64 m.pulse, .int .i64 m.time, .int .i64 m.num, .slice A m.table.length c'] 38)
      replace hok := hok.alloc (.cells #[.int .i64 m.kind, .int .i64 m.frm, .int .i64 m.lo, .int .i64 m.hi, .int .i64 m.held, .int .i64 m.hops, .bool m.good, .bool m.ref, .int .i64 m.slo, .int .i64 m.shi, .int .i64 m.pulse, .int .i64 m.time, .int .i64 m.num, .slice A m.table.length c'] 38)
      generalize wr.alloc (.cells #[.int .i64 m.kind, .int .i64 m.frm, .int .i64 m.lo, .int .i64 m.hi, .int .i64 m.held, .int .i64 m.hops, .bool m.good, .bool m.ref, .int .i64 m.slo, .int .i64 m.shi, .int .i64 m.pulse, .int .i64 m.time, .int .i64 m.num, .slice A m.table.length c'] 38) = W at hX hP hok ⊢
      generalize wr.heap.size = g at hX ⊢
      have HP := Lib.hid fun W' (k : Ok W.drew W') => hP.drew.next k
      have HX := Lib.hid fun W' (k : Ok W.drew W') => hX.drew.next k
      have hxl := hX.lt
      clear hP hX x0 x1 x2 x3 x4 x5 x6 x7 x8 x9 x10 x11 x12 x13 hbl
      by_cases hbig : 256 < m.table.length
      · have h4 : (256 : Int) < (m.table.length : Int) := by omega
        clear hbig
        refine wp_region_facts (by kernel_rfl) 70 rfl (VCCB p m A c' u g) Ok (by kernel_rfl) (fun i v w w' h k w'' k' => h w'' (k.trans k')) (fun a b c => Ok.trans) (Ok.refl _) [some 25, some 26, some 27, some 28, some 29, some 30, some 31, some 32, some 33, some 34, some 35, some 36, some 37] rfl 13 rfl ⟨?_, ?_, ?_, ?_, ?_, ?_, ?_, ?_, ?_, ?_, ?_, ?_, ?_, trivial⟩ ?_
        · intro a' w' hF hR
          have e6 : a'.tmps[6]? = some (.pointer (some ⟨g, 0, none⟩)) := hF.slot 6 (by kernel_rfl) rfl
          refine wpOp_run (v := .pointer (some ⟨g, 13, none⟩)) rfl rfl ?_ (fun _ _ => rfl) (Ok.refl _)
          clear hF
          go_simp
        · intro a' w' hF hR
          obtain ⟨v0, hv0, e25⟩ := hF.get 0 25 (by kernel_rfl) (by kernel_rfl)
          obtain rfl : v0 = _ := hv0 _ (Ok.refl _)
          have x13 := (HX.out _ hR).cell 13 (v := .slice A m.table.length c') rfl
          refine wpOp_run (v := .slice A m.table.length c') rfl rfl ?_ (fun _ _ => rfl) (Ok.refl _)
          clear hF
          go_simp
        · intro a' w' hF hR
          obtain ⟨v1, hv1, e26⟩ := hF.get 1 26 (by kernel_rfl) (by kernel_rfl)
          obtain rfl : v1 = _ := hv1 _ (Ok.refl _)
          refine wpOp_run (v := .int .i64 (m.table.length : Int)) rfl rfl ?_ (fun _ _ => rfl) (Ok.refl _)
          clear hF
          go_simp
        · intro a' w' hF hR
          obtain ⟨v2, hv2, e27⟩ := hF.get 2 27 (by kernel_rfl) (by kernel_rfl)
          obtain rfl : v2 = _ := hv2 _ (Ok.refl _)
          refine wpOp_run (v := .bool true) rfl rfl ?_ (fun _ _ => rfl) (Ok.refl _)
          clear hF
          go_simp
        · intro a' w' hF hR
          obtain ⟨v3, hv3, e28⟩ := hF.get 3 28 (by kernel_rfl) (by kernel_rfl)
          obtain rfl : v3 = _ := hv3 _ (Ok.refl _)
          refine wpOp_run (v := .bool true) rfl rfl ?_ (fun _ _ => rfl) (Ok.refl _)
          clear hF
          go_simp
        · intro a' w' hF hR
          obtain ⟨vg, hvg, eg⟩ := hF.get 4 29 (by kernel_rfl) (by kernel_rfl)
          obtain rfl : vg = _ := hvg _ (Ok.refl _)
          exact wpOp_skip rfl (wanted_not rfl (by kernel_rfl) eg (by simp)) (fun _ _ => rfl) (Ok.refl _)
        · intro a' w' hF hR
          obtain ⟨vg, hvg, eg⟩ := hF.get 4 29 (by kernel_rfl) (by kernel_rfl)
          obtain rfl : vg = _ := hvg _ (Ok.refl _)
          exact wpOp_skip rfl (wanted_not rfl (by kernel_rfl) eg (by simp)) (fun _ _ => rfl) (Ok.refl _)
        · intro a' w' hF hR
          obtain ⟨vg, hvg, eg⟩ := hF.get 4 29 (by kernel_rfl) (by kernel_rfl)
          obtain rfl : vg = _ := hvg _ (Ok.refl _)
          exact wpOp_skip rfl (wanted_not rfl (by kernel_rfl) eg (by simp)) (fun _ _ => rfl) (Ok.refl _)
        · intro a' w' hF hR
          obtain ⟨vg, hvg, eg⟩ := hF.get 4 29 (by kernel_rfl) (by kernel_rfl)
          obtain rfl : vg = _ := hvg _ (Ok.refl _)
          exact wpOp_skip rfl (wanted_not rfl (by kernel_rfl) eg (by simp)) (fun _ _ => rfl) (Ok.refl _)
        · intro a' w' hF hR
          obtain ⟨vg, hvg, eg⟩ := hF.get 4 29 (by kernel_rfl) (by kernel_rfl)
          obtain rfl : vg = _ := hvg _ (Ok.refl _)
          exact wpOp_skip rfl (wanted_not rfl (by kernel_rfl) eg (by simp)) (fun _ _ => rfl) (Ok.refl _)
        · intro a' w' hF hR
          obtain ⟨vg, hvg, eg⟩ := hF.get 4 29 (by kernel_rfl) (by kernel_rfl)
          obtain rfl : vg = _ := hvg _ (Ok.refl _)
          exact wpOp_skip rfl (wanted_not rfl (by kernel_rfl) eg (by simp)) (fun _ _ => rfl) (Ok.refl _)
        · intro a' w' hF hR
          obtain ⟨vg, hvg, eg⟩ := hF.get 4 29 (by kernel_rfl) (by kernel_rfl)
          obtain rfl : vg = _ := hvg _ (Ok.refl _)
          exact wpOp_skip rfl (wanted_not rfl (by kernel_rfl) eg (by simp)) (fun _ _ => rfl) (Ok.refl _)
        · intro a' w' hF hR
          obtain ⟨v4, hv4, e29⟩ := hF.get 4 29 (by kernel_rfl) (by kernel_rfl)
          obtain rfl : v4 = _ := hv4 _ (Ok.refl _)
          obtain ⟨v11, hv11, e36⟩ := hF.get 11 36 (by kernel_rfl) (by kernel_rfl)
          obtain rfl : v11 = _ := hv11 _ (Ok.refl _)
          refine wpOp_run (v := .bool true) rfl rfl ?_ (fun _ _ => rfl) (Ok.refl _)
          clear hF
          go_simp
        intro vs w2 hV hR
        have e12 : vs 12 = .bool true := hV 12 (by decide) _ (Ok.refl _)
        have hok2 := hok.trans ((Ok.refl W).drew.trans hR)
        have x13 := (HX.out _ hR).cell 13 (v := .slice A m.table.length c') rfl
        have hxl2 := (HX.out _ hR).lt
        clear hV HP HX
        simp only [putFrom, e12]
        simp only [Act.put, List.setIfInBounds_toArray, List.set_cons_zero, List.set_cons_succ]
        go_wp2
        go_ret
        exact ⟨rfl, hok2⟩
      · have h4 : ¬ (256 : Int) < (m.table.length : Int) := by omega
        clear hbig
        refine wp_region_facts (by kernel_rfl) 70 rfl (VCCS p m A c' u g) Ok (by kernel_rfl) (fun i v w w' h k w'' k' => h w'' (k.trans k')) (fun a b c => Ok.trans) (Ok.refl _) [some 25, some 26, some 27, some 28, some 29, some 30, some 31, some 32, some 33, some 34, some 35, some 36, some 37] rfl 13 rfl ⟨?_, ?_, ?_, ?_, ?_, ?_, ?_, ?_, ?_, ?_, ?_, ?_, ?_, trivial⟩ ?_
        · intro a' w' hF hR
          have e6 : a'.tmps[6]? = some (.pointer (some ⟨g, 0, none⟩)) := hF.slot 6 (by kernel_rfl) rfl
          refine wpOp_run (v := .pointer (some ⟨g, 13, none⟩)) rfl rfl ?_ (fun _ _ => rfl) (Ok.refl _)
          clear hF
          go_simp
        · intro a' w' hF hR
          obtain ⟨v0, hv0, e25⟩ := hF.get 0 25 (by kernel_rfl) (by kernel_rfl)
          obtain rfl : v0 = _ := hv0 _ (Ok.refl _)
          have x13 := (HX.out _ hR).cell 13 (v := .slice A m.table.length c') rfl
          refine wpOp_run (v := .slice A m.table.length c') rfl rfl ?_ (fun _ _ => rfl) (Ok.refl _)
          clear hF
          go_simp
        · intro a' w' hF hR
          obtain ⟨v1, hv1, e26⟩ := hF.get 1 26 (by kernel_rfl) (by kernel_rfl)
          obtain rfl : v1 = _ := hv1 _ (Ok.refl _)
          refine wpOp_run (v := .int .i64 (m.table.length : Int)) rfl rfl ?_ (fun _ _ => rfl) (Ok.refl _)
          clear hF
          go_simp
        · intro a' w' hF hR
          obtain ⟨v2, hv2, e27⟩ := hF.get 2 27 (by kernel_rfl) (by kernel_rfl)
          obtain rfl : v2 = _ := hv2 _ (Ok.refl _)
          refine wpOp_run (v := .bool false) rfl rfl ?_ (fun _ _ => rfl) (Ok.refl _)
          clear hF
          go_simp
        · intro a' w' hF hR
          obtain ⟨v3, hv3, e28⟩ := hF.get 3 28 (by kernel_rfl) (by kernel_rfl)
          obtain rfl : v3 = _ := hv3 _ (Ok.refl _)
          refine wpOp_run (v := .bool false) rfl rfl ?_ (fun _ _ => rfl) (Ok.refl _)
          clear hF
          go_simp
        · intro a' w' hF hR
          have e2 : a'.tmps[2]? = some (.pointer (some ⟨P, 0, none⟩)) := hF.slot 2 (by kernel_rfl) rfl
          obtain ⟨vg, hvg, eg⟩ := hF.get 4 29 (by kernel_rfl) (by kernel_rfl)
          obtain rfl : vg = _ := hvg _ (Ok.refl _)
          obtain ⟨p0, p1, p2, p3, p4, p5, p6, p7, p8, p9, p10, p11⟩ := (HP.out _ hR).pars
          refine wpOp_runG (v := parV p) rfl (wanted_yes rfl (by kernel_rfl) eg) ?_ (fun _ _ => rfl) (Ok.refl _)
          clear hF
          go_simp
        · intro a' w' hF hR
          have e6 : a'.tmps[6]? = some (.pointer (some ⟨g, 0, none⟩)) := hF.slot 6 (by kernel_rfl) rfl
          obtain ⟨vg, hvg, eg⟩ := hF.get 4 29 (by kernel_rfl) (by kernel_rfl)
          obtain rfl : vg = _ := hvg _ (Ok.refl _)
          obtain ⟨x0, x1, x2, x3, x4, x5, x6, x7, x8, x9, x10, x11, x12, x13⟩ := (HX.out _ hR).msg
          refine wpOp_runG (v := .agg #[.int .i64 m.kind, .int .i64 m.frm, .int .i64 m.lo, .int .i64 m.hi, .int .i64 m.held, .int .i64 m.hops, .bool m.good, .bool m.ref, .int .i64 m.slo, .int .i64 m.shi, .int .i64 m.pulse, .int .i64 m.time, .int .i64 m.num, .slice A m.table.length c']) rfl (wanted_yes rfl (by kernel_rfl) eg) ?_ (fun _ _ => rfl) (Ok.refl _)
          clear hF
          go_simp
        · intro a' w' hF hR
          obtain ⟨v5, hv5, e30⟩ := hF.get 5 30 (by kernel_rfl) (by kernel_rfl)
          obtain rfl : v5 = _ := hv5 _ (Ok.refl _)
          obtain ⟨v6, hv6, e31⟩ := hF.get 6 31 (by kernel_rfl) (by kernel_rfl)
          obtain rfl : v6 = _ := hv6 _ (Ok.refl _)
          obtain ⟨vg, hvg, eg⟩ := hF.get 4 29 (by kernel_rfl) (by kernel_rfl)
          obtain rfl : vg = _ := hvg _ (Ok.refl _)
          refine wpOp_callG (f := 13) (args := #[parV p, .agg #[.int .i64 m.kind, .int .i64 m.frm, .int .i64 m.lo, .int .i64 m.hi, .int .i64 m.held, .int .i64 m.hops, .bool m.good, .bool m.ref, .int .i64 m.slo, .int .i64 m.shi, .int .i64 m.pulse, .int .i64 m.time, .int .i64 m.num, .slice A m.table.length c']]) rfl (wanted_yes rfl (by kernel_rfl) eg) ?_ ((HKU.out _).mono ?_)
          · go_simp
          · rintro e w2 ⟨rfl, hb2⟩; exact ⟨_, rfl, fun _ _ => rfl, hb2⟩
        · intro a' w' hF hR
          have e2 : a'.tmps[2]? = some (.pointer (some ⟨P, 0, none⟩)) := hF.slot 2 (by kernel_rfl) rfl
          obtain ⟨vg, hvg, eg⟩ := hF.get 4 29 (by kernel_rfl) (by kernel_rfl)
          obtain rfl : vg = _ := hvg _ (Ok.refl _)
          obtain ⟨p0, p1, p2, p3, p4, p5, p6, p7, p8, p9, p10, p11⟩ := (HP.out _ hR).pars
          refine wpOp_runG (v := parV p) rfl (wanted_yes rfl (by kernel_rfl) eg) ?_ (fun _ _ => rfl) (Ok.refl _)
          clear hF
          go_simp
        · intro a' w' hF hR
          have e6 : a'.tmps[6]? = some (.pointer (some ⟨g, 0, none⟩)) := hF.slot 6 (by kernel_rfl) rfl
          obtain ⟨vg, hvg, eg⟩ := hF.get 4 29 (by kernel_rfl) (by kernel_rfl)
          obtain rfl : vg = _ := hvg _ (Ok.refl _)
          obtain ⟨x0, x1, x2, x3, x4, x5, x6, x7, x8, x9, x10, x11, x12, x13⟩ := (HX.out _ hR).msg
          refine wpOp_runG (v := .agg #[.int .i64 m.kind, .int .i64 m.frm, .int .i64 m.lo, .int .i64 m.hi, .int .i64 m.held, .int .i64 m.hops, .bool m.good, .bool m.ref, .int .i64 m.slo, .int .i64 m.shi, .int .i64 m.pulse, .int .i64 m.time, .int .i64 m.num, .slice A m.table.length c']) rfl (wanted_yes rfl (by kernel_rfl) eg) ?_ (fun _ _ => rfl) (Ok.refl _)
          clear hF
          go_simp
        · intro a' w' hF hR
          obtain ⟨v8, hv8, e33⟩ := hF.get 8 33 (by kernel_rfl) (by kernel_rfl)
          obtain rfl : v8 = _ := hv8 _ (Ok.refl _)
          obtain ⟨v9, hv9, e34⟩ := hF.get 9 34 (by kernel_rfl) (by kernel_rfl)
          obtain rfl : v9 = _ := hv9 _ (Ok.refl _)
          obtain ⟨vg, hvg, eg⟩ := hF.get 4 29 (by kernel_rfl) (by kernel_rfl)
          obtain rfl : vg = _ := hvg _ (Ok.refl _)
          refine wpOp_callG (f := 14) (args := #[parV p, .agg #[.int .i64 m.kind, .int .i64 m.frm, .int .i64 m.lo, .int .i64 m.hi, .int .i64 m.held, .int .i64 m.hops, .bool m.good, .bool m.ref, .int .i64 m.slo, .int .i64 m.shi, .int .i64 m.pulse, .int .i64 m.time, .int .i64 m.num, .slice A m.table.length c']]) rfl (wanted_yes rfl (by kernel_rfl) eg) ?_ ((HKR.out _).mono ?_)
          · go_simp
          · rintro e w2 ⟨rfl, hb2⟩; exact ⟨_, rfl, fun _ _ => rfl, hb2⟩
        · intro a' w' hF hR
          obtain ⟨v7, hv7, e32⟩ := hF.get 7 32 (by kernel_rfl) (by kernel_rfl)
          obtain rfl : v7 = _ := hv7 _ (Ok.refl _)
          obtain ⟨v10, hv10, e35⟩ := hF.get 10 35 (by kernel_rfl) (by kernel_rfl)
          obtain rfl : v10 = _ := hv10 _ (Ok.refl _)
          obtain ⟨vg, hvg, eg⟩ := hF.get 4 29 (by kernel_rfl) (by kernel_rfl)
          obtain rfl : vg = _ := hvg _ (Ok.refl _)
          have hu : (u != u) = false := by simp
          refine wpOp_runG (v := .bool false) rfl (wanted_yes rfl (by kernel_rfl) eg) ?_ (fun _ _ => rfl) (Ok.refl _)
          clear hF
          go_simp
        · intro a' w' hF hR
          obtain ⟨v4, hv4, e29⟩ := hF.get 4 29 (by kernel_rfl) (by kernel_rfl)
          obtain rfl : v4 = _ := hv4 _ (Ok.refl _)
          obtain ⟨v11, hv11, e36⟩ := hF.get 11 36 (by kernel_rfl) (by kernel_rfl)
          obtain rfl : v11 = _ := hv11 _ (Ok.refl _)
          refine wpOp_run (v := .bool false) rfl rfl ?_ (fun _ _ => rfl) (Ok.refl _)
          clear hF
          go_simp
        intro vs w2 hV hR
        have e12 : vs 12 = .bool false := hV 12 (by decide) _ (Ok.refl _)
        have hok2 := hok.trans ((Ok.refl W).drew.trans hR)
        have hP2 := HP.out _ hR
        clear hV HP HX
        simp only [putFrom, e12]
        simp only [Act.put, List.setIfInBounds_toArray, List.set_cons_zero, List.set_cons_succ]
        go_wp2
        go_roundw
        case rel => exact ⟨k + 1, by omega, by go_num, hP2, hok2⟩
        case measure => simp [intOf]; omega
    · obtain rfl : k = l.length := by omega
      clear hlt hk
      have hYM : ∀ j, chosen p.d l l.length = some j → j < l.length := fun j hj => Route.pick_lt hj
      obtain ⟨r, hr⟩ : ∃ r, chosen p.d l l.length = r := ⟨_, rfl⟩
      rw [hr] at KC KD HTB HLB hYM
      clear hr
      obtain ⟨p0, p1, p2, p3, p4, p5, p6, p7, p8, p9, p10, p11⟩ := hP.pars
      have hpl := hP.lt
      cases r with
      | none =>
        have KC2 : Hid (∀ w1, Ok w w1 → Calls Try.prog 15 #[parV p, .slice A l.length c] w1 fun e w' => ∃ B d, e = .returned (.tuple #[.agg #[.int .i64 0, .int .i64 0, .int .i64 0, .int .i64 0, .int .i64 0, .int .i64 0, .bool false, .bool false, .int .i64 0, .int .i64 0, .int .i64 0, .int .i64 0, .int .i64 0, .slice B 0 d], .bool false]) ∧ Ok w1 w') := Lib.hid fun w1 k => (KC.out w1 k).mono fun e w' ⟨B, d, h1, _, h3⟩ => ⟨B, d, h1, h3⟩
        have KS2 : Hid (∀ w1 B d, Calls Try.prog 17 #[.agg #[.int .i64 0, .int .i64 0, .int .i64 0, .int .i64 0, .int .i64 0, .int .i64 0, .bool false, .bool false, .int .i64 0, .int .i64 0, .int .i64 0, .int .i64 0, .int .i64 0, .slice B 0 d], .agg #[.int .i64 0, .int .i64 0, .int .i64 0, .int .i64 0, .int .i64 0, .int .i64 0, .bool false, .bool false, .int .i64 0, .int .i64 0, .int .i64 0, .int .i64 0, .int .i64 0, .slice none 0 0]] w1 fun e w' => e = .returned (.bool true) ∧ Ok w1 w') := Lib.hid fun w1 B d => (KS.out zeroMsg zeroMsg B none d 0 w1 (PairsAt.empty _ _) (PairsAt.empty _ _) (by decide) (by decide)).mono fun e w' h => ⟨by rw [h.1]; simp, h.2⟩
        have hz := zeroMsgV
        unfold msgV zeroMsg at hz
        simp only [List.length_nil] at hz
        clear KC KS KU KR HTB HLB hYM HF
        go_wp2_with (first
          | (go_at_call 15; (with_reducible refine (KC2.out _ hok).mono ?_); rintro e w3 ⟨B, d, rfl, hb3⟩; replace hP := (hP.next hb3).alloc (.cells #[.int .i64 0, .int .i64 0, .int .i64 0, .int .i64 0, .int .i64 0, .int .i64 0, .bool false, .bool false, .int .i64 0, .int .i64 0, .int .i64 0, .int .i64 0, .int .i64 0, .slice B 0 d] 38); replace hok := (hok.trans hb3).alloc (.cells #[.int .i64 0, .int .i64 0, .int .i64 0, .int .i64 0, .int .i64 0, .int .i64 0, .bool false, .bool false, .int .i64 0, .int .i64 0, .int .i64 0, .int .i64 0, .int .i64 0, .slice B 0 d] 38); clear hb3 p0 p1 p2 p3 p4 p5 p6 p7 p8 p9 p10 p11 hpl; obtain ⟨p0, p1, p2, p3, p4, p5, p6, p7, p8, p9, p10, p11⟩ := hP.pars; have hpl := hP.lt; have hM := Own.new w3 #[.int .i64 0, .int .i64 0, .int .i64 0, .int .i64 0, .int .i64 0, .int .i64 0, .bool false, .bool false, .int .i64 0, .int .i64 0, .int .i64 0, .int .i64 0, .int .i64 0, .slice B 0 d] 38 rfl)
          | (go_at_call 16; (with_reducible refine (KD.out _ hok).mono ?_); rintro e w4 ⟨rfl, hb4⟩; simp only [placeOf]; replace hM := hM.next hb4; replace hok := hok.trans hb4; clear hb4 p0 p1 p2 p3 p4 p5 p6 p7 p8 p9 p10 p11 hpl; obtain ⟨z0, z1, z2, z3, z4, z5, z6, z7, z8, z9, z10, z11, z12, z13⟩ := (show Own w4 w3.heap.size (msgCells zeroMsg B d) from hM).msg; have hml := hM.lt; unfold zeroMsg at z0 z1 z2 z3 z4 z5 z6 z7 z8 z9 z10 z11 z12 z13; simp only [List.length_nil] at z0 z1 z2 z3 z4 z5 z6 z7 z8 z9 z10 z11 z12 z13)
          | (go_at_call 17; (with_reducible refine (KS2.out _ _ _).mono ?_); rintro e w5 ⟨rfl, hb5⟩; replace hok := hok.trans hb5; clear hb5))
        go_ret
        exact ⟨rfl, hok⟩
      | some j =>
        have hjl : j < l.length := hYM j rfl
        have hjn := Lib.hid (show bestOf l (some j) = nth l j from rfl)
        obtain ⟨b, hb⟩ : ∃ b, nth l j = b := ⟨_, rfl⟩
        rw [hjn.out, hb] at KC HTB HLB
        have HBB := Lib.hid hb
        clear hb hjn hYM
        obtain ⟨b, B0, c0⟩ := b
        simp only at KC HTB HLB
        unfold msgV at KC
        have KS2 : Hid (∀ w1 B d, PairsAt w1 B b.table → Ok w w1 → Calls Try.prog 17 #[.agg #[.int .i64 b.kind, .int .i64 b.frm, .int .i64 b.lo, .int .i64 b.hi, .int .i64 b.held, .int .i64 b.hops, .bool b.good, .bool b.ref, .int .i64 b.slo, .int .i64 b.shi, .int .i64 b.pulse, .int .i64 b.time, .int .i64 b.num, .slice B b.table.length d], .agg #[.int .i64 b.kind, .int .i64 b.frm, .int .i64 b.lo, .int .i64 b.hi, .int .i64 b.held, .int .i64 b.hops, .bool b.good, .bool b.ref, .int .i64 b.slo, .int .i64 b.shi, .int .i64 b.pulse, .int .i64 b.time, .int .i64 b.num, .slice B0 b.table.length c0]] w1 fun e w' => e = .returned (.bool true) ∧ Ok w1 w') := Lib.hid fun w1 B d hB k => (KS.out b b B B0 d c0 w1 hB (HTB.out w1 k) (Nat.le_trans HLB.out (by decide)) (Nat.le_trans HLB.out (by decide))).mono fun e w' h => ⟨by rw [h.1]; simp, h.2⟩
        have HY : Hid (∀ W', Ok w W' → ∃ b1 off, A = some ⟨b1, off, none⟩ ∧ (W'.cell? ⟨b1, off + j * 14, none⟩ = some (.int .i64 b.kind) ∧ W'.cell? ⟨b1, off + j * 14 + 1, none⟩ = some (.int .i64 b.frm) ∧ W'.cell? ⟨b1, off + j * 14 + 2, none⟩ = some (.int .i64 b.lo) ∧ W'.cell? ⟨b1, off + j * 14 + 3, none⟩ = some (.int .i64 b.hi) ∧ W'.cell? ⟨b1, off + j * 14 + 4, none⟩ = some (.int .i64 b.held) ∧ W'.cell? ⟨b1, off + j * 14 + 5, none⟩ = some (.int .i64 b.hops) ∧ W'.cell? ⟨b1, off + j * 14 + 6, none⟩ = some (.bool b.good) ∧ W'.cell? ⟨b1, off + j * 14 + 7, none⟩ = some (.bool b.ref) ∧ W'.cell? ⟨b1, off + j * 14 + 8, none⟩ = some (.int .i64 b.slo) ∧ W'.cell? ⟨b1, off + j * 14 + 9, none⟩ = some (.int .i64 b.shi) ∧ W'.cell? ⟨b1, off + j * 14 + 10, none⟩ = some (.int .i64 b.pulse) ∧ W'.cell? ⟨b1, off + j * 14 + 11, none⟩ = some (.int .i64 b.time) ∧ W'.cell? ⟨b1, off + j * 14 + 12, none⟩ = some (.int .i64 b.num) ∧ W'.cell? ⟨b1, off + j * 14 + 13, none⟩ = some (.slice B0 b.table.length c0))) := Lib.hid fun W' k => by
          obtain ⟨b1, off, e, _, h⟩ := (HA.out.below k).nthAt j hjl
          rw [HBB.out] at h
          exact ⟨b1, off, e, h⟩
        clear KS KU KR HTB HLB HBB HF
        go_upto_region 15 with (first
          | (go_at_call 15; (with_reducible refine (KC.out _ hok).mono ?_); rintro e w3 ⟨B, d, rfl, hPB, hb3⟩; replace hP := (hP.next hb3).alloc (.cells #[.int .i64 b.kind, .int .i64 b.frm, .int .i64 b.lo, .int .i64 b.hi, .int .i64 b.held, .int .i64 b.hops, .bool b.good, .bool b.ref, .int .i64 b.slo, .int .i64 b.shi, .int .i64 b.pulse, .int .i64 b.time, .int .i64 b.num, .slice B b.table.length d] 38); replace hok := (hok.trans hb3).alloc (.cells #[.int .i64 b.kind, .int .i64 b.frm, .int .i64 b.lo, .int .i64 b.hi, .int .i64 b.held, .int .i64 b.hops, .bool b.good, .bool b.ref, .int .i64 b.slo, .int .i64 b.shi, .int .i64 b.pulse, .int .i64 b.time, .int .i64 b.num, .slice B b.table.length d] 38); replace hPB := hPB.alloc (.cells #[.int .i64 b.kind, .int .i64 b.frm, .int .i64 b.lo, .int .i64 b.hi, .int .i64 b.held, .int .i64 b.hops, .bool b.good, .bool b.ref, .int .i64 b.slo, .int .i64 b.shi, .int .i64 b.pulse, .int .i64 b.time, .int .i64 b.num, .slice B b.table.length d] 38); clear hb3 p0 p1 p2 p3 p4 p5 p6 p7 p8 p9 p10 p11 hpl; obtain ⟨p0, p1, p2, p3, p4, p5, p6, p7, p8, p9, p10, p11⟩ := hP.pars; have hpl := hP.lt; have hM : Own _ w3.heap.size (msgCells b B d) := Own.new w3 #[.int .i64 b.kind, .int .i64 b.frm, .int .i64 b.lo, .int .i64 b.hi, .int .i64 b.held, .int .i64 b.hops, .bool b.good, .bool b.ref, .int .i64 b.slo, .int .i64 b.shi, .int .i64 b.pulse, .int .i64 b.time, .int .i64 b.num, .slice B b.table.length d] 38 rfl)
          | (go_at_call 16; (with_reducible refine (KD.out _ hok).mono ?_); rintro e w4 ⟨rfl, hb4⟩; simp only [placeOf]; replace hM := hM.next hb4; replace hPB := hPB.below hb4; replace hok := hok.trans hb4; clear hb4 p0 p1 p2 p3 p4 p5 p6 p7 p8 p9 p10 p11 hpl hP))
        obtain ⟨b1, off, hA1, _⟩ := HY.out w4 hok
        subst hA1
        generalize w3.heap.size = g at hM ⊢
        have HM := Lib.hid fun W' (k : Ok w4.drew W') => hM.drew.next k
        have HSM := Lib.hid fun W' (k : Ok w4.drew W') => KS2.out W' B d (hPB.drew.below k) (hok.drew.trans k)
        replace HY : Hid (∀ W', Ok w4.drew W' → W'.cell? ⟨b1, off + j * 14, none⟩ = some (.int .i64 b.kind) ∧ W'.cell? ⟨b1, off + j * 14 + 1, none⟩ = some (.int .i64 b.frm) ∧ W'.cell? ⟨b1, off + j * 14 + 2, none⟩ = some (.int .i64 b.lo) ∧ W'.cell? ⟨b1, off + j * 14 + 3, none⟩ = some (.int .i64 b.hi) ∧ W'.cell? ⟨b1, off + j * 14 + 4, none⟩ = some (.int .i64 b.held) ∧ W'.cell? ⟨b1, off + j * 14 + 5, none⟩ = some (.int .i64 b.hops) ∧ W'.cell? ⟨b1, off + j * 14 + 6, none⟩ = some (.bool b.good) ∧ W'.cell? ⟨b1, off + j * 14 + 7, none⟩ = some (.bool b.ref) ∧ W'.cell? ⟨b1, off + j * 14 + 8, none⟩ = some (.int .i64 b.slo) ∧ W'.cell? ⟨b1, off + j * 14 + 9, none⟩ = some (.int .i64 b.shi) ∧ W'.cell? ⟨b1, off + j * 14 + 10, none⟩ = some (.int .i64 b.pulse) ∧ W'.cell? ⟨b1, off + j * 14 + 11, none⟩ = some (.int .i64 b.time) ∧ W'.cell? ⟨b1, off + j * 14 + 12, none⟩ = some (.int .i64 b.num) ∧ W'.cell? ⟨b1, off + j * 14 + 13, none⟩ = some (.slice B0 b.table.length c0)) := Lib.hid fun W' k => by
          obtain ⟨b2, off2, e, h⟩ := HY.out W' (hok.drew.trans k)
          cases e
          exact h
        clear hM hPB KS2 KC KD
        refine wp_region_facts (by kernel_rfl) 70 rfl (VCCE b B B0 d c0 b1 off l.length c j) Ok (by kernel_rfl) (fun i v w w' h k w'' k' => h w'' (k.trans k')) (fun a b c => Ok.trans) (Ok.refl _) [some 61, some 62, some 63, some 64, some 65, some 66, some 67, some 68, some 69, some 4] rfl 10 rfl ⟨?_, ?_, ?_, ?_, ?_, ?_, ?_, ?_, ?_, ?_, trivial⟩ ?_
        · intro a' w' hF hR
          have e8 : a'.tmps[8]? = some (.bool true) := hF.slot 8 (by kernel_rfl) rfl
          refine wpOp_run (v := .bool true) rfl rfl ?_ (fun _ _ => rfl) (Ok.refl _)
          clear hF
          go_simp
        · intro a' w' hF hR
          obtain ⟨v0, hv0, e61⟩ := hF.get 0 61 (by kernel_rfl) (by kernel_rfl)
          obtain rfl : v0 = _ := hv0 _ (Ok.refl _)
          refine wpOp_run (v := .bool true) rfl rfl ?_ (fun _ _ => rfl) (Ok.refl _)
          clear hF
          go_simp
        · intro a' w' hF hR
          have e7 : a'.tmps[7]? = some (.pointer (some ⟨g, 0, none⟩)) := hF.slot 7 (by kernel_rfl) rfl
          obtain ⟨vg, hvg, eg⟩ := hF.get 1 62 (by kernel_rfl) (by kernel_rfl)
          obtain rfl : vg = _ := hvg _ (Ok.refl _)
          obtain ⟨z0, z1, z2, z3, z4, z5, z6, z7, z8, z9, z10, z11, z12, z13⟩ := (HM.out _ hR).msg
          refine wpOp_runG (v := .agg #[.int .i64 b.kind, .int .i64 b.frm, .int .i64 b.lo, .int .i64 b.hi, .int .i64 b.held, .int .i64 b.hops, .bool b.good, .bool b.ref, .int .i64 b.slo, .int .i64 b.shi, .int .i64 b.pulse, .int .i64 b.time, .int .i64 b.num, .slice B b.table.length d]) rfl (wanted_yes rfl (by kernel_rfl) eg) ?_ (fun _ _ => rfl) (Ok.refl _)
          clear hF
          go_simp
        · intro a' w' hF hR
          have e1 : a'.tmps[1]? = some (.slice (some ⟨b1, off, none⟩) l.length c) := hF.slot 1 (by kernel_rfl) rfl
          obtain ⟨vg, hvg, eg⟩ := hF.get 1 62 (by kernel_rfl) (by kernel_rfl)
          obtain rfl : vg = _ := hvg _ (Ok.refl _)
          refine wpOp_runG (v := .slice (some ⟨b1, off, none⟩) l.length c) rfl (wanted_yes rfl (by kernel_rfl) eg) ?_ (fun _ _ => rfl) (Ok.refl _)
          clear hF
          go_simp
        · intro a' w' hF hR
          have e9 : a'.tmps[9]? = some (.int .i64 (j : Int)) := hF.slot 9 (by kernel_rfl) rfl
          obtain ⟨vg, hvg, eg⟩ := hF.get 1 62 (by kernel_rfl) (by kernel_rfl)
          obtain rfl : vg = _ := hvg _ (Ok.refl _)
          refine wpOp_runG (v := .int .i64 (j : Int)) rfl (wanted_yes rfl (by kernel_rfl) eg) ?_ (fun _ _ => rfl) (Ok.refl _)
          clear hF
          go_simp
        · intro a' w' hF hR
          obtain ⟨v3, hv3, e64⟩ := hF.get 3 64 (by kernel_rfl) (by kernel_rfl)
          obtain rfl : v3 = _ := hv3 _ (Ok.refl _)
          obtain ⟨v4, hv4, e65⟩ := hF.get 4 65 (by kernel_rfl) (by kernel_rfl)
          obtain rfl : v4 = _ := hv4 _ (Ok.refl _)
          obtain ⟨vg, hvg, eg⟩ := hF.get 1 62 (by kernel_rfl) (by kernel_rfl)
          obtain rfl : vg = _ := hvg _ (Ok.refl _)
          have hj1 : (j : Int) < (l.length : Int) := by omega
          have hj2 : ¬ (l.length : Int) ≤ (j : Int) := by omega
          refine wpOp_runG (v := .pointer (some ⟨b1, off + j * 14, none⟩)) rfl (wanted_yes rfl (by kernel_rfl) eg) ?_ (fun _ _ => rfl) (Ok.refl _)
          clear hF
          go_simp
        · intro a' w' hF hR
          obtain ⟨v5, hv5, e66⟩ := hF.get 5 66 (by kernel_rfl) (by kernel_rfl)
          obtain rfl : v5 = _ := hv5 _ (Ok.refl _)
          obtain ⟨vg, hvg, eg⟩ := hF.get 1 62 (by kernel_rfl) (by kernel_rfl)
          obtain rfl : vg = _ := hvg _ (Ok.refl _)
          obtain ⟨y0, y1, y2, y3, y4, y5, y6, y7, y8, y9, y10, y11, y12, y13⟩ := HY.out _ hR
          refine wpOp_runG (v := .agg #[.int .i64 b.kind, .int .i64 b.frm, .int .i64 b.lo, .int .i64 b.hi, .int .i64 b.held, .int .i64 b.hops, .bool b.good, .bool b.ref, .int .i64 b.slo, .int .i64 b.shi, .int .i64 b.pulse, .int .i64 b.time, .int .i64 b.num, .slice B0 b.table.length c0]) rfl (wanted_yes rfl (by kernel_rfl) eg) ?_ (fun _ _ => rfl) (Ok.refl _)
          clear hF
          go_simp
        · intro a' w' hF hR
          obtain ⟨v2, hv2, e63⟩ := hF.get 2 63 (by kernel_rfl) (by kernel_rfl)
          obtain rfl : v2 = _ := hv2 _ (Ok.refl _)
          obtain ⟨v6, hv6, e67⟩ := hF.get 6 67 (by kernel_rfl) (by kernel_rfl)
          obtain rfl : v6 = _ := hv6 _ (Ok.refl _)
          obtain ⟨vg, hvg, eg⟩ := hF.get 1 62 (by kernel_rfl) (by kernel_rfl)
          obtain rfl : vg = _ := hvg _ (Ok.refl _)
          refine wpOp_callG (f := 17) (args := #[.agg #[.int .i64 b.kind, .int .i64 b.frm, .int .i64 b.lo, .int .i64 b.hi, .int .i64 b.held, .int .i64 b.hops, .bool b.good, .bool b.ref, .int .i64 b.slo, .int .i64 b.shi, .int .i64 b.pulse, .int .i64 b.time, .int .i64 b.num, .slice B b.table.length d], .agg #[.int .i64 b.kind, .int .i64 b.frm, .int .i64 b.lo, .int .i64 b.hi, .int .i64 b.held, .int .i64 b.hops, .bool b.good, .bool b.ref, .int .i64 b.slo, .int .i64 b.shi, .int .i64 b.pulse, .int .i64 b.time, .int .i64 b.num, .slice B0 b.table.length c0]]) rfl (wanted_yes rfl (by kernel_rfl) eg) ?_ ((HSM.out _ hR).mono ?_)
          · go_simp
          · rintro e w2 ⟨rfl, hb2⟩; exact ⟨_, rfl, fun _ _ => rfl, hb2⟩
        · intro a' w' hF hR
          obtain ⟨v1, hv1, e62⟩ := hF.get 1 62 (by kernel_rfl) (by kernel_rfl)
          obtain rfl : v1 = _ := hv1 _ (Ok.refl _)
          obtain ⟨v7, hv7, e68⟩ := hF.get 7 68 (by kernel_rfl) (by kernel_rfl)
          obtain rfl : v7 = _ := hv7 _ (Ok.refl _)
          refine wpOp_run (v := .bool true) rfl rfl ?_ (fun _ _ => rfl) (Ok.refl _)
          clear hF
          go_simp
        · intro a' w' hF hR
          obtain ⟨v8, hv8, e69⟩ := hF.get 8 69 (by kernel_rfl) (by kernel_rfl)
          obtain rfl : v8 = _ := hv8 _ (Ok.refl _)
          refine wpOp_run (v := .bool true) rfl rfl ?_ (fun _ _ => rfl) (Ok.refl _)
          clear hF
          go_simp
        intro vs w5 hV hR
        have e9 : vs 9 = .bool true := hV 9 (by decide) _ (Ok.refl _)
        have hok2 := hok.trans ((Ok.refl w4).drew.trans hR)
        clear hV HM HSM HY
        simp only [putFrom, e9]
        simp only [Act.put, List.setIfInBounds_toArray, List.set_cons_zero, List.set_cons_succ]
        go_wp2
        go_ret
        exact ⟨rfl, hok2⟩
theorem own : ownKnob Try.prog.godebug = none := by kernel_rfl
theorem laidOut : laidOutB Try.prog = true := by kernel_rfl
set_option maxRecDepth 100000 in
theorem lifted (os : Os) (started : os.Started) (H : Type) (enc : TypeId × Value → H) :
    ReturnsInHanded {} Try.checked os 4 .any (Rows.routeChoosesSpec.pre6 enc Try.prog Try.f4 Rows.routeChoosesRow.domain false) (Rows.routeChoosesSpec.post enc Try.prog Try.f4 false true false false) := by
  refine returnsInHanded_of_change_sized (C := Try.checked) own started (by kernel_rfl) Try.func4
    (ChangeSpec.witness6 (enc := enc) (C := Try.checked) false ⟨#[], #[.agg #[.int .i64 0, .int .i64 0, .int .i64 0, .int .i64 0, .int .i64 0, .int .i64 0, .int .i64 0, .int .i64 0, .int .i64 0, .int .i64 0, .int .i64 0, .int .i64 0], .slice none 0 0], []⟩ 8 (by kernel_rfl) (by kernel_rfl) (by kernel_rfl) (by kernel_rfl)) ?_
  intro W base args ds gs before hval0 hW _ hsz0 _
  have hsz : (DataW.weightsEach Try.prog (Try.f4.params.toList ++ Rows.routeChoosesSpec.plain.varTypes Try.prog) (ds ++ gs)).all (· ≤ reachBytes) = true := hsz0
  have hval : ∀ (j : Nat) t v, Try.f4.params[j]? = some t → args[j]? = some v → Value.okWide Try.prog W .any base t v := hval0
  have hW' := hW
  obtain ⟨p, q, hA, hV, rfl, _, _⟩ := hW
  obtain ⟨rfl, rfl⟩ := trodVars_none hV
  replace hA : DataW.TrodAll enc Try.prog W 0 (fun _ => true) true Try.f4.params.toList args.toList ds p := hA
  rw [Try.params4] at hA hval hsz
  obtain ⟨v0, vs0, d0, ds0, p0, q0, hargs, rfl, rfl, h0, r0⟩ := trodAll_cons hA
  obtain ⟨v1, vs1, d1, ds1, p1, q1, rfl, rfl, rfl, h1, r1⟩ := trodAll_cons r0
  obtain ⟨rfl, rfl, rfl⟩ := trodAll_nil r1
  obtain rfl : args = #[v0, v1] := by cases args; simp_all
  obtain ⟨p0, rfl, wp0⟩ := open_par Try.underlying23 rfl (by kernel_rfl) (by kernel_rfl) (by kernel_rfl) (hval 0 23 v0 rfl rfl) h0
  obtain ⟨A1, l1, c1, rfl, hA1, hl1, hw1⟩ := open_msgs (sized_any hsz (j := 1) (t := 31) rfl rfl) (hval 1 31 v1 rfl rfl) h1
  refine (walk W p0 wp0 A1 l1 c1 hA1 hl1 hw1).mono fun e W' ⟨he, hb⟩ => ?_
  subst he
  exact ⟨_, rfl, law_post hW' laidOut (by rw [Try.params4]; exact params_ok (by kernel_rfl)) rfl (by kernel_rfl) Try.underlying4 rfl rfl rfl hb⟩
theorem over : Rows.routeChoosesRow.holds Try.pinned (OpenSpec.ofChange Rows.routeChoosesSpec) :=
  OpenClaim.holds_of_wide 4 Try.f4 rfl rfl rfl rfl rfl rfl rfl ⟨rfl, rfl, rfl, rfl, rfl⟩ rfl rfl rfl rfl rfl (by kernel_rfl) Try.func4 (by kernel_rfl)
    (of_decide_eq_true (by kernel_rfl)) (by unfold Func.isWrapper; first | (rw [if_pos (by decide +kernel)]; kernel_rfl) | (rw [if_neg (by decide +kernel)]; exact ⟨rfl, rfl⟩))
    (fun os started H enc _ => lifted os started H enc)
theorem proved : Rows.RouteChoosesSaid := over
end Go.Proofs.Ytgkcmiaagbgajaa.routeChooses
