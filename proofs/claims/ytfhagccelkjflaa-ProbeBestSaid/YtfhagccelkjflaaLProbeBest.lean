/- ProbeBest: for every fabric's numbers and every slice of trips the law answers true: Best is the narrowest, the first of several. No condition. -/
import Derived.Test.YtfhagccelkjflaaC10c
import Derived.Test.YtfhagccelkjflaaW06
import Derived.Test.YtfhagccelkjflaaW18
namespace Go.Proofs.Ytfhagccelkjflaa.probeBest
open Go.ChangeShapes Go.WideShapes Go.ChangeAt Go.RowKit
set_option linter.unusedVariables false
set_option maxRecDepth 100000
attribute [local go_sem ↓] Go.wp_at_zero Go.wp_at_succ
/-- What each operation leaves. -/
def VMLe (hh : Nat) (x y b1 b2 wx wb : Int) (w : World) (v : Value) : Nat → Prop
  | 0 => v = .pointer (some ⟨hh, 0, none⟩)
  | 1 => v = .int .i64 x
  | 2 => v = .pointer (some ⟨hh, 1, none⟩)
  | 3 => v = .int .i64 y
  | 4 => v = .bool false
  | 5 => v = .bool false
  | 6 => v = undef
  | 7 => v = undef
  | 8 => v = undef
  | 9 => v = undef
  | 10 => v = undef
  | 11 => v = undef
  | 12 => v = undef
  | 13 => v = undef
  | 14 => v = undef
  | 15 => v = .bool false
  | _ => v = .bool true
/-- It stays so. -/
def VCLe (hh : Nat) (x y b1 b2 wx wb : Int) (i : Nat) (v : Value) (w : World) : Prop := ∀ w', Ok w w' → VMLe hh x y b1 b2 wx wb w' v i
/-- What each operation leaves. -/
def VMLn (hh : Nat) (x y b1 b2 wx wb : Int) (w : World) (v : Value) : Nat → Prop
  | 0 => v = .pointer (some ⟨hh, 0, none⟩)
  | 1 => v = .int .i64 x
  | 2 => v = .pointer (some ⟨hh, 1, none⟩)
  | 3 => v = .int .i64 y
  | 4 => v = .bool true
  | 5 => v = .bool true
  | 6 => v = .bool false
  | 7 => v = .bool true
  | 8 => v = .bool true
  | 9 => v = undef
  | 10 => v = undef
  | 11 => v = undef
  | 12 => v = undef
  | 13 => v = undef
  | 14 => v = .bool true
  | 15 => v = .bool true
  | _ => v = .bool true
/-- It stays so. -/
def VCLn (hh : Nat) (x y b1 b2 wx wb : Int) (i : Nat) (v : Value) (w : World) : Prop := ∀ w', Ok w w' → VMLn hh x y b1 b2 wx wb w' v i
/-- What each operation leaves. -/
def VMLy (hh : Nat) (x y b1 b2 wx wb : Int) (w : World) (v : Value) : Nat → Prop
  | 0 => v = .pointer (some ⟨hh, 0, none⟩)
  | 1 => v = .int .i64 x
  | 2 => v = .pointer (some ⟨hh, 1, none⟩)
  | 3 => v = .int .i64 y
  | 4 => v = .bool true
  | 5 => v = .bool true
  | 6 => v = .bool true
  | 7 => v = .bool false
  | 8 => v = .bool false
  | 9 => v = spanV x y
  | 10 => v = .int .i64 wx
  | 11 => v = spanV b1 b2
  | 12 => v = .int .i64 wb
  | 13 => v = .bool true
  | 14 => v = .bool true
  | 15 => v = .bool true
  | _ => v = .bool true
/-- It stays so. -/
def VCLy (hh : Nat) (x y b1 b2 wx wb : Int) (i : Nat) (v : Value) (w : World) : Prop := ∀ w', Ok w w' → VMLy hh x y b1 b2 wx wb w' v i
/-- What each operation leaves. -/
def VMLo (hh : Nat) (x y b1 b2 wx wb : Int) (w : World) (v : Value) : Nat → Prop
  | 0 => v = .pointer (some ⟨hh, 0, none⟩)
  | 1 => v = .int .i64 x
  | 2 => v = .pointer (some ⟨hh, 1, none⟩)
  | 3 => v = .int .i64 y
  | 4 => v = .bool true
  | 5 => v = .bool true
  | 6 => v = .bool true
  | 7 => v = .bool false
  | 8 => v = .bool false
  | 9 => v = spanV x y
  | 10 => v = .int .i64 wx
  | 11 => v = spanV b1 b2
  | 12 => v = .int .i64 wb
  | 13 => v = .bool false
  | 14 => v = .bool false
  | 15 => v = .bool false
  | _ => v = .bool true
/-- It stays so. -/
def VCLo (hh : Nat) (x y b1 b2 wx wb : Int) (i : Nat) (v : Value) (w : World) : Prop := ∀ w', Ok w w' → VMLo hh x y b1 b2 wx wb w' v i
set_option maxHeartbeats 3200000 in
theorem walk (w : World) (p : Par) (wp : ParWf p) (A : Option Addr) (l : List Trp) (cap : Nat) (h : CellsAt w A (l.flatMap tripL)) (hl : l.length ≤ 9223372036854775807) (hw : ∀ t ∈ l, tripok t) :
    Calls Try.prog 4 #[parV p, .slice A l.length cap] w fun e w' => e = .returned (.bool true) ∧ Below w.heap.size w w' := by
  clear wp hw
  have hok := Ok.refl w
  have hP := Own.new w (parCells p) 23 rfl
  replace hok := hok.alloc (.cells (parCells p) 23)
  have HP0 := Lib.hid hP
  have HK0 := Lib.hid hok
  clear hP hok
  by_cases hbig : 256 < l.length
  · go_enter Try.func4, Try.ntmps4
    go_wp2_with (go_at_call 7; (with_reducible refine (law10Alive _).mono ?_); rintro e w1 ⟨rfl, hb1⟩; have hok := HK0.out.trans hb1; clear hb1)
    go_ret
    exact ⟨rfl, hok⟩
  have hz : ∀ w, Sem.run Try.prog (zeroValue 28) w = .ok (.agg #[.int .i64 0, .int .i64 0]) w := fun w => by kernel_rfl
  go_enter Try.func4, Try.ntmps4
  go_wp2_with (go_at_call 7; (with_reducible refine (law10Alive _).mono ?_); rintro e w1 ⟨rfl, hb1⟩; have hP := HP0.out.next hb1; have hok := HK0.out.trans hb1; clear hb1 HP0 HK0)
  clear hz
  have hB := Slab.new w1 0 0 28 rfl
  have hBl := hP.lt
  have hwl := hok.size
  replace hP := hP.alloc (.cells #[.int .i64 0, .int .i64 0] 28)
  replace hok := hok.alloc (.cells #[.int .i64 0, .int .i64 0] 28)
  obtain ⟨W0, hW0⟩ : ∃ W, w1.alloc (.cells #[.int .i64 0, .int .i64 0] 28) = W := ⟨_, rfl⟩
  rw [hW0] at hP hB hok ⊢
  obtain ⟨b, hb⟩ : ∃ b, w1.heap.size = b := ⟨_, rfl⟩
  obtain ⟨B, hBe⟩ : ∃ b, w.heap.size = b := ⟨_, rfl⟩
  have hbw : w.heap.size ≤ b := by omega
  have hBb : B ≠ b := by omega
  rw [hb] at hB ⊢
  rw [hBe] at hP ⊢
  clear hb hBe hW0 hBl hwl
  go_loopw [6, 20] (fun f i wr => ∃ k : Nat, k ≤ l.length ∧ i = .int .i64 k ∧ f = .bool (Probe.best p (l.take k)).2 ∧ Own wr B (parCells p) ∧ Slab wr b (Probe.best p (l.take k)).1.1 (Probe.best p (l.take k)).1.2 ∧ Ok w wr) (fun _ i _ => l.length - (intOf i).toNat)
  case atStart => exact ⟨0, Nat.zero_le _, rfl, rfl, hP, hB, hok⟩
  case round =>
    clear hP hB hok
    obtain ⟨k, hk, rfl, rfl, hP, hB, hok⟩ := hrel
    by_cases hlt : k < l.length
    · obtain ⟨a, off, hA, ha, t0, t1, t2, t3⟩ := trip_at (h.below hok) k hlt
      subst hA
      have HBS := Lib.hid (Probe.best_snoc p (l.take k) l[k])
      rw [← take_more hlt] at HBS
      obtain ⟨t, ht⟩ : ∃ t, l[k] = t := ⟨_, rfl⟩
      rw [ht] at t0 t1 t2 t3 HBS
      have KA := Lib.hid fun w => law10Ahead p t w
      obtain ⟨bs, hbs⟩ : ∃ bs, Probe.best p (l.take k) = bs := ⟨_, rfl⟩
      rw [hbs] at hB HBS ⊢
      obtain ⟨⟨b1, b2⟩, fd⟩ := bs
      have HT : Hid (Probe.takes p ((b1, b2), fd) t = (decide ((Probe.ah p t).1 ≤ (Probe.ah p t).2) && (!fd || decide (Probe.wide (Probe.ah p t) < Probe.wide (b1, b2))))) := Lib.hid rfl
      have HY := Lib.hid (Probe.bstep_yes (p := p) (b := ((b1, b2), fd)) (t := t))
      have HN := Lib.hid (Probe.bstep_no (p := p) (b := ((b1, b2), fd)) (t := t))
      clear hbs ht
      obtain ⟨x, y, hxy⟩ : ∃ x y, Probe.ah p t = (x, y) := ⟨_, _, rfl⟩
      rw [hxy] at KA HT HY
      obtain ⟨nx, hnx⟩ : ∃ nx, Probe.best p (l.take (k + 1)) = nx := ⟨_, rfl⟩
      rw [hnx] at HBS
      have HNX := Lib.hid hnx
      clear hnx hxy
      obtain ⟨p0, p1, p2, p3, p4, p5, p6, p7, p8, p9, p10, p11⟩ := hP.pars
      have hPl := hP.lt
      simp only at hB ⊢
      go_upto_region 10 with (go_at_call 8; (with_reducible refine (KA.out _).mono ?_); rintro e w1 ⟨rfl, hb1⟩)
      have hX := Slab.new w1 x y 28 rfl
      have hoW := (((Ok.refl wr).alloc (.cells (tripCells t) 25)).trans hb1).alloc (.cells #[.int .i64 x, .int .i64 y] 28)
      replace hP := hP.next hoW
      replace hB := hB.next hoW
      replace hok := hok.trans hoW
      clear hb1 hoW KA p0 p1 p2 p3 p4 p5 p6 p7 p8 p9 p10 p11 t0 t1 t2 t3
      generalize w1.alloc (.cells #[.int .i64 x, .int .i64 y] 28) = W at hP hB hX hok ⊢
      obtain ⟨hh, hhe⟩ : ∃ g, w1.heap.size = g := ⟨_, rfl⟩
      rw [hhe] at hX ⊢
      clear hhe
      have HP := Lib.hid fun W' (k : Ok W.drew W') => hP.drew.next k
      have HB := Lib.hid fun W' (k : Ok W.drew W') => hB.drew.next k
      have HX := Lib.hid fun W' (k : Ok W.drew W') => hX.drew.next k
      clear hP hB hX
      have KW : Hid (∀ w, Calls Try.prog 11 #[spanV x y] w fun e w' => e = .returned (.int .i64 (Probe.wide (x, y))) ∧ Ok w w') := Lib.hid fun w => ref3Wide x y w
      have KV : Hid (∀ w, Calls Try.prog 11 #[spanV b1 b2] w fun e w' => e = .returned (.int .i64 (Probe.wide (b1, b2))) ∧ Ok w w') := Lib.hid fun w => ref3Wide b1 b2 w
      obtain ⟨wx, hwx⟩ : ∃ v, Probe.wide (x, y) = v := ⟨_, rfl⟩
      obtain ⟨wb, hwb⟩ : ∃ v, Probe.wide (b1, b2) = v := ⟨_, rfl⟩
      rw [hwx] at KW HT
      rw [hwb] at KV HT
      clear hwx hwb
      by_cases hE : x ≤ y
      rotate_left
      · have hT := HT.out
        rw [decide_eq_false hE, Bool.false_and] at hT
        rw [HN.out hT] at HBS
        obtain rfl := HBS.out
        have hde := decide_eq_false hE
        clear hT HT HN HY HBS hE
        refine wp_region_facts (by kernel_rfl) 59 rfl (VCLe hh x y b1 b2 wx wb) Ok (by kernel_rfl) (fun i v w w' h k w'' k' => h w'' (k.trans k')) (fun a b c => Ok.trans) (Ok.refl _) [some 27, some 28, some 29, some 30, some 31, some 32, some 33, some 34, some 35, some 36, some 37, some 38, some 39, some 40, some 41, some 42] rfl 16 rfl ⟨?_, ?_, ?_, ?_, ?_, ?_, ?_, ?_, ?_, ?_, ?_, ?_, ?_, ?_, ?_, ?_, trivial⟩ ?_
        · intro a' w' hF hR
          have e9 : a'.tmps[9]? = some (.pointer (some ⟨hh, 0, none⟩)) := hF.slot 9 (by kernel_rfl) rfl
          refine wpOp_run (v := .pointer (some ⟨hh, 0, none⟩)) rfl rfl ?_ (fun _ _ => rfl) (Ok.refl _)
          clear hF
          go_simp
        · intro a' w' hF hR
          obtain ⟨v0, hv0, e27⟩ := hF.get 0 27 (by kernel_rfl) (by kernel_rfl)
          obtain rfl : v0 = _ := hv0 _ (Ok.refl _)
          have e0 := (HX.out _ hR).c0
          have e1 := (HX.out _ hR).c1
          refine wpOp_run (v := .int .i64 x) rfl rfl ?_ (fun _ _ => rfl) (Ok.refl _)
          clear hF
          go_simp
        · intro a' w' hF hR
          have e9 : a'.tmps[9]? = some (.pointer (some ⟨hh, 0, none⟩)) := hF.slot 9 (by kernel_rfl) rfl
          refine wpOp_run (v := .pointer (some ⟨hh, 1, none⟩)) rfl rfl ?_ (fun _ _ => rfl) (Ok.refl _)
          clear hF
          go_simp
        · intro a' w' hF hR
          obtain ⟨v2, hv2, e29⟩ := hF.get 2 29 (by kernel_rfl) (by kernel_rfl)
          obtain rfl : v2 = _ := hv2 _ (Ok.refl _)
          have e0 := (HX.out _ hR).c0
          have e1 := (HX.out _ hR).c1
          refine wpOp_run (v := .int .i64 y) rfl rfl ?_ (fun _ _ => rfl) (Ok.refl _)
          clear hF
          go_simp
        · intro a' w' hF hR
          obtain ⟨v1, hv1, e28⟩ := hF.get 1 28 (by kernel_rfl) (by kernel_rfl)
          obtain rfl : v1 = _ := hv1 _ (Ok.refl _)
          obtain ⟨v3, hv3, e30⟩ := hF.get 3 30 (by kernel_rfl) (by kernel_rfl)
          obtain rfl : v3 = _ := hv3 _ (Ok.refl _)
          refine wpOp_run (v := .bool false) rfl rfl ?_ (fun _ _ => rfl) (Ok.refl _)
          clear hF
          go_simp
        · intro a' w' hF hR
          obtain ⟨v4, hv4, e31⟩ := hF.get 4 31 (by kernel_rfl) (by kernel_rfl)
          obtain rfl : v4 = _ := hv4 _ (Ok.refl _)
          refine wpOp_run (v := .bool false) rfl rfl ?_ (fun _ _ => rfl) (Ok.refl _)
          clear hF
          go_simp
        · intro a' w' hF hR
          obtain ⟨vg, hvg, eg⟩ := hF.get 5 32 (by kernel_rfl) (by kernel_rfl)
          obtain rfl : vg = _ := hvg _ (Ok.refl _)
          exact wpOp_skip rfl (wanted_not rfl (by kernel_rfl) eg (by simp)) (fun _ _ => rfl) (Ok.refl _)
        · intro a' w' hF hR
          obtain ⟨vg, hvg, eg⟩ := hF.get 5 32 (by kernel_rfl) (by kernel_rfl)
          obtain rfl : vg = _ := hvg _ (Ok.refl _)
          exact wpOp_skip rfl (wanted_not rfl (by kernel_rfl) eg (by simp)) (fun _ _ => rfl) (Ok.refl _)
        · intro a' w' hF hR
          obtain ⟨vg, hvg, eg⟩ := hF.get 5 32 (by kernel_rfl) (by kernel_rfl)
          obtain rfl : vg = _ := hvg _ (Ok.refl _)
          exact wpOp_skip rfl (wanted_not rfl (by kernel_rfl) eg (by simp)) (fun _ _ => rfl) (Ok.refl _)
        · intro a' w' hF hR
          obtain ⟨vg, hvg, eg⟩ := hF.get 8 35 (by kernel_rfl) (by kernel_rfl)
          obtain rfl : vg = _ := hvg _ (Ok.refl _)
          exact wpOp_skip rfl (wanted_not rfl (by kernel_rfl) eg (by simp [undef])) (fun _ _ => rfl) (Ok.refl _)
        · intro a' w' hF hR
          obtain ⟨vg, hvg, eg⟩ := hF.get 8 35 (by kernel_rfl) (by kernel_rfl)
          obtain rfl : vg = _ := hvg _ (Ok.refl _)
          exact wpOp_skip rfl (wanted_not rfl (by kernel_rfl) eg (by simp [undef])) (fun _ _ => rfl) (Ok.refl _)
        · intro a' w' hF hR
          obtain ⟨vg, hvg, eg⟩ := hF.get 8 35 (by kernel_rfl) (by kernel_rfl)
          obtain rfl : vg = _ := hvg _ (Ok.refl _)
          exact wpOp_skip rfl (wanted_not rfl (by kernel_rfl) eg (by simp [undef])) (fun _ _ => rfl) (Ok.refl _)
        · intro a' w' hF hR
          obtain ⟨vg, hvg, eg⟩ := hF.get 8 35 (by kernel_rfl) (by kernel_rfl)
          obtain rfl : vg = _ := hvg _ (Ok.refl _)
          exact wpOp_skip rfl (wanted_not rfl (by kernel_rfl) eg (by simp [undef])) (fun _ _ => rfl) (Ok.refl _)
        · intro a' w' hF hR
          obtain ⟨vg, hvg, eg⟩ := hF.get 8 35 (by kernel_rfl) (by kernel_rfl)
          obtain rfl : vg = _ := hvg _ (Ok.refl _)
          exact wpOp_skip rfl (wanted_not rfl (by kernel_rfl) eg (by simp [undef])) (fun _ _ => rfl) (Ok.refl _)
        · intro a' w' hF hR
          obtain ⟨vg, hvg, eg⟩ := hF.get 5 32 (by kernel_rfl) (by kernel_rfl)
          obtain rfl : vg = _ := hvg _ (Ok.refl _)
          exact wpOp_skip rfl (wanted_not rfl (by kernel_rfl) eg (by simp)) (fun _ _ => rfl) (Ok.refl _)
        · intro a' w' hF hR
          obtain ⟨v5, hv5, e32⟩ := hF.get 5 32 (by kernel_rfl) (by kernel_rfl)
          obtain rfl : v5 = _ := hv5 _ (Ok.refl _)
          obtain ⟨v14, hv14, e41⟩ := hF.get 14 41 (by kernel_rfl) (by kernel_rfl)
          obtain rfl : v14 = _ := hv14 _ (Ok.refl _)
          refine wpOp_run (v := .bool false) rfl rfl ?_ (fun _ _ => rfl) (Ok.refl _)
          clear hF
          go_simp
        · intro vs w' hV hR
          have e15 : vs 15 = .bool false := hV 15 (by decide) _ (Ok.refl _)
          have hok2 := hok.trans ((Ok.refl W).drew.trans hR)
          have hP2 := HP.out _ hR
          have hX2 := HX.out _ hR
          have hB2 := HB.out _ hR
          clear hV HP HX HB KW KV
          simp only [putFrom, e15]
          simp only [Act.put, List.setIfInBounds_toArray, List.set_cons_zero, List.set_cons_succ]
          clear e15
          go_wp2
          go_roundw
          case rel => exact ⟨k + 1, by omega, by go_num, by rw [HNX.out], hP2, by rw [HNX.out]; exact hB2, hok2⟩
          case measure => simp [intOf]; omega
      · have hT := HT.out
        rw [decide_eq_true hE, Bool.true_and] at hT
        have hde := decide_eq_true hE
        cases fd with
        | false =>
          rw [Bool.not_false, Bool.true_or] at hT
          rw [HY.out hT] at HBS
          obtain rfl := HBS.out
          clear hT HT HN HY HBS hE
          refine wp_region_facts (by kernel_rfl) 59 rfl (VCLn hh x y b1 b2 wx wb) Ok (by kernel_rfl) (fun i v w w' h k w'' k' => h w'' (k.trans k')) (fun a b c => Ok.trans) (Ok.refl _) [some 27, some 28, some 29, some 30, some 31, some 32, some 33, some 34, some 35, some 36, some 37, some 38, some 39, some 40, some 41, some 42] rfl 16 rfl ⟨?_, ?_, ?_, ?_, ?_, ?_, ?_, ?_, ?_, ?_, ?_, ?_, ?_, ?_, ?_, ?_, trivial⟩ ?_
          · intro a' w' hF hR
            have e9 : a'.tmps[9]? = some (.pointer (some ⟨hh, 0, none⟩)) := hF.slot 9 (by kernel_rfl) rfl
            refine wpOp_run (v := .pointer (some ⟨hh, 0, none⟩)) rfl rfl ?_ (fun _ _ => rfl) (Ok.refl _)
            clear hF
            go_simp
          · intro a' w' hF hR
            obtain ⟨v0, hv0, e27⟩ := hF.get 0 27 (by kernel_rfl) (by kernel_rfl)
            obtain rfl : v0 = _ := hv0 _ (Ok.refl _)
            have e0 := (HX.out _ hR).c0
            have e1 := (HX.out _ hR).c1
            refine wpOp_run (v := .int .i64 x) rfl rfl ?_ (fun _ _ => rfl) (Ok.refl _)
            clear hF
            go_simp
          · intro a' w' hF hR
            have e9 : a'.tmps[9]? = some (.pointer (some ⟨hh, 0, none⟩)) := hF.slot 9 (by kernel_rfl) rfl
            refine wpOp_run (v := .pointer (some ⟨hh, 1, none⟩)) rfl rfl ?_ (fun _ _ => rfl) (Ok.refl _)
            clear hF
            go_simp
          · intro a' w' hF hR
            obtain ⟨v2, hv2, e29⟩ := hF.get 2 29 (by kernel_rfl) (by kernel_rfl)
            obtain rfl : v2 = _ := hv2 _ (Ok.refl _)
            have e0 := (HX.out _ hR).c0
            have e1 := (HX.out _ hR).c1
            refine wpOp_run (v := .int .i64 y) rfl rfl ?_ (fun _ _ => rfl) (Ok.refl _)
            clear hF
            go_simp
          · intro a' w' hF hR
            obtain ⟨v1, hv1, e28⟩ := hF.get 1 28 (by kernel_rfl) (by kernel_rfl)
            obtain rfl : v1 = _ := hv1 _ (Ok.refl _)
            obtain ⟨v3, hv3, e30⟩ := hF.get 3 30 (by kernel_rfl) (by kernel_rfl)
            obtain rfl : v3 = _ := hv3 _ (Ok.refl _)
            refine wpOp_run (v := .bool true) rfl rfl ?_ (fun _ _ => rfl) (Ok.refl _)
            clear hF
            go_simp
          · intro a' w' hF hR
            obtain ⟨v4, hv4, e31⟩ := hF.get 4 31 (by kernel_rfl) (by kernel_rfl)
            obtain rfl : v4 = _ := hv4 _ (Ok.refl _)
            refine wpOp_run (v := .bool true) rfl rfl ?_ (fun _ _ => rfl) (Ok.refl _)
            clear hF
            go_simp
          · intro a' w' hF hR
            have e6 : a'.tmps[6]? = some (.bool false) := hF.slot 6 (by kernel_rfl) rfl
            obtain ⟨vg, hvg, eg⟩ := hF.get 5 32 (by kernel_rfl) (by kernel_rfl)
            obtain rfl : vg = _ := hvg _ (Ok.refl _)
            refine wpOp_runG (v := .bool false) rfl (wanted_yes rfl (by kernel_rfl) eg) ?_ (fun _ _ => rfl) (Ok.refl _)
            clear hF
            go_simp
          · intro a' w' hF hR
            obtain ⟨v6, hv6, e33⟩ := hF.get 6 33 (by kernel_rfl) (by kernel_rfl)
            obtain rfl : v6 = _ := hv6 _ (Ok.refl _)
            obtain ⟨vg, hvg, eg⟩ := hF.get 5 32 (by kernel_rfl) (by kernel_rfl)
            obtain rfl : vg = _ := hvg _ (Ok.refl _)
            refine wpOp_runG (v := .bool true) rfl (wanted_yes rfl (by kernel_rfl) eg) ?_ (fun _ _ => rfl) (Ok.refl _)
            clear hF
            go_simp
          · intro a' w' hF hR
            obtain ⟨v7, hv7, e34⟩ := hF.get 7 34 (by kernel_rfl) (by kernel_rfl)
            obtain rfl : v7 = _ := hv7 _ (Ok.refl _)
            obtain ⟨vg, hvg, eg⟩ := hF.get 5 32 (by kernel_rfl) (by kernel_rfl)
            obtain rfl : vg = _ := hvg _ (Ok.refl _)
            refine wpOp_runG (v := .bool true) rfl (wanted_yes rfl (by kernel_rfl) eg) ?_ (fun _ _ => rfl) (Ok.refl _)
            clear hF
            go_simp
          · intro a' w' hF hR
            obtain ⟨vg, hvg, eg⟩ := hF.get 8 35 (by kernel_rfl) (by kernel_rfl)
            obtain rfl : vg = _ := hvg _ (Ok.refl _)
            exact wpOp_skip rfl (wanted_not rfl (by kernel_rfl) eg (by simp)) (fun _ _ => rfl) (Ok.refl _)
          · intro a' w' hF hR
            obtain ⟨vg, hvg, eg⟩ := hF.get 8 35 (by kernel_rfl) (by kernel_rfl)
            obtain rfl : vg = _ := hvg _ (Ok.refl _)
            exact wpOp_skip rfl (wanted_not rfl (by kernel_rfl) eg (by simp)) (fun _ _ => rfl) (Ok.refl _)
          · intro a' w' hF hR
            obtain ⟨vg, hvg, eg⟩ := hF.get 8 35 (by kernel_rfl) (by kernel_rfl)
            obtain rfl : vg = _ := hvg _ (Ok.refl _)
            exact wpOp_skip rfl (wanted_not rfl (by kernel_rfl) eg (by simp)) (fun _ _ => rfl) (Ok.refl _)
          · intro a' w' hF hR
            obtain ⟨vg, hvg, eg⟩ := hF.get 8 35 (by kernel_rfl) (by kernel_rfl)
            obtain rfl : vg = _ := hvg _ (Ok.refl _)
            exact wpOp_skip rfl (wanted_not rfl (by kernel_rfl) eg (by simp)) (fun _ _ => rfl) (Ok.refl _)
          · intro a' w' hF hR
            obtain ⟨vg, hvg, eg⟩ := hF.get 8 35 (by kernel_rfl) (by kernel_rfl)
            obtain rfl : vg = _ := hvg _ (Ok.refl _)
            exact wpOp_skip rfl (wanted_not rfl (by kernel_rfl) eg (by simp)) (fun _ _ => rfl) (Ok.refl _)
          · intro a' w' hF hR
            obtain ⟨v8, hv8, e35⟩ := hF.get 8 35 (by kernel_rfl) (by kernel_rfl)
            obtain rfl : v8 = _ := hv8 _ (Ok.refl _)
            obtain ⟨v13, hv13, e40⟩ := hF.get 13 40 (by kernel_rfl) (by kernel_rfl)
            obtain rfl : v13 = _ := hv13 _ (Ok.refl _)
            obtain ⟨vg, hvg, eg⟩ := hF.get 5 32 (by kernel_rfl) (by kernel_rfl)
            obtain rfl : vg = _ := hvg _ (Ok.refl _)
            refine wpOp_runG (v := .bool true) rfl (wanted_yes rfl (by kernel_rfl) eg) ?_ (fun _ _ => rfl) (Ok.refl _)
            clear hF
            go_simp
          · intro a' w' hF hR
            obtain ⟨v5, hv5, e32⟩ := hF.get 5 32 (by kernel_rfl) (by kernel_rfl)
            obtain rfl : v5 = _ := hv5 _ (Ok.refl _)
            obtain ⟨v14, hv14, e41⟩ := hF.get 14 41 (by kernel_rfl) (by kernel_rfl)
            obtain rfl : v14 = _ := hv14 _ (Ok.refl _)
            refine wpOp_run (v := .bool true) rfl rfl ?_ (fun _ _ => rfl) (Ok.refl _)
            clear hF
            go_simp
          · intro vs w' hV hR
            have e15 : vs 15 = .bool true := hV 15 (by decide) _ (Ok.refl _)
            have hok2 := hok.trans ((Ok.refl W).drew.trans hR)
            have hP2 := HP.out _ hR
            have hX2 := HX.out _ hR
            have hB2 := HB.out _ hR
            clear hV HP HX HB KW KV
            simp only [putFrom, e15]
            simp only [Act.put, List.setIfInBounds_toArray, List.set_cons_zero, List.set_cons_succ]
            clear e15
            have c0 := hX2.c0
            have c1 := hX2.c1
            have d0 := hB2.c0
            have d1 := hB2.c1
            have f0 := hB2.f0
            have f1 := hB2.f1
            go_wp2
            have hF := hB2.set x y
            have hok3 := (hok2.setCell (p := ⟨b, 0, none⟩) hbw (.int .i64 x)).setCell (p := ⟨b, 1, none⟩) hbw (.int .i64 y)
            have hP3 := (hP2.setOther (a := ⟨b, 0, none⟩) hBb (.int .i64 x)).setOther (a := ⟨b, 1, none⟩) hBb (.int .i64 y)
            go_roundw
            case rel => exact ⟨k + 1, by omega, by go_num, by rw [HNX.out], hP3, by rw [HNX.out]; exact hF, hok3⟩
            case measure => simp [intOf]; omega
        | true =>
          rw [Bool.not_true, Bool.false_or] at hT
          by_cases hW : wx < wb
          · rw [decide_eq_true hW] at hT
            rw [HY.out hT] at HBS
            obtain rfl := HBS.out
            have hdw := decide_eq_true hW
            clear hT HT HN HY HBS hE
            refine wp_region_facts (by kernel_rfl) 59 rfl (VCLy hh x y b1 b2 wx wb) Ok (by kernel_rfl) (fun i v w w' h k w'' k' => h w'' (k.trans k')) (fun a b c => Ok.trans) (Ok.refl _) [some 27, some 28, some 29, some 30, some 31, some 32, some 33, some 34, some 35, some 36, some 37, some 38, some 39, some 40, some 41, some 42] rfl 16 rfl ⟨?_, ?_, ?_, ?_, ?_, ?_, ?_, ?_, ?_, ?_, ?_, ?_, ?_, ?_, ?_, ?_, trivial⟩ ?_
            · intro a' w' hF hR
              have e9 : a'.tmps[9]? = some (.pointer (some ⟨hh, 0, none⟩)) := hF.slot 9 (by kernel_rfl) rfl
              refine wpOp_run (v := .pointer (some ⟨hh, 0, none⟩)) rfl rfl ?_ (fun _ _ => rfl) (Ok.refl _)
              clear hF
              go_simp
            · intro a' w' hF hR
              obtain ⟨v0, hv0, e27⟩ := hF.get 0 27 (by kernel_rfl) (by kernel_rfl)
              obtain rfl : v0 = _ := hv0 _ (Ok.refl _)
              have e0 := (HX.out _ hR).c0
              have e1 := (HX.out _ hR).c1
              refine wpOp_run (v := .int .i64 x) rfl rfl ?_ (fun _ _ => rfl) (Ok.refl _)
              clear hF
              go_simp
            · intro a' w' hF hR
              have e9 : a'.tmps[9]? = some (.pointer (some ⟨hh, 0, none⟩)) := hF.slot 9 (by kernel_rfl) rfl
              refine wpOp_run (v := .pointer (some ⟨hh, 1, none⟩)) rfl rfl ?_ (fun _ _ => rfl) (Ok.refl _)
              clear hF
              go_simp
            · intro a' w' hF hR
              obtain ⟨v2, hv2, e29⟩ := hF.get 2 29 (by kernel_rfl) (by kernel_rfl)
              obtain rfl : v2 = _ := hv2 _ (Ok.refl _)
              have e0 := (HX.out _ hR).c0
              have e1 := (HX.out _ hR).c1
              refine wpOp_run (v := .int .i64 y) rfl rfl ?_ (fun _ _ => rfl) (Ok.refl _)
              clear hF
              go_simp
            · intro a' w' hF hR
              obtain ⟨v1, hv1, e28⟩ := hF.get 1 28 (by kernel_rfl) (by kernel_rfl)
              obtain rfl : v1 = _ := hv1 _ (Ok.refl _)
              obtain ⟨v3, hv3, e30⟩ := hF.get 3 30 (by kernel_rfl) (by kernel_rfl)
              obtain rfl : v3 = _ := hv3 _ (Ok.refl _)
              refine wpOp_run (v := .bool true) rfl rfl ?_ (fun _ _ => rfl) (Ok.refl _)
              clear hF
              go_simp
            · intro a' w' hF hR
              obtain ⟨v4, hv4, e31⟩ := hF.get 4 31 (by kernel_rfl) (by kernel_rfl)
              obtain rfl : v4 = _ := hv4 _ (Ok.refl _)
              refine wpOp_run (v := .bool true) rfl rfl ?_ (fun _ _ => rfl) (Ok.refl _)
              clear hF
              go_simp
            · intro a' w' hF hR
              have e6 : a'.tmps[6]? = some (.bool true) := hF.slot 6 (by kernel_rfl) rfl
              obtain ⟨vg, hvg, eg⟩ := hF.get 5 32 (by kernel_rfl) (by kernel_rfl)
              obtain rfl : vg = _ := hvg _ (Ok.refl _)
              refine wpOp_runG (v := .bool true) rfl (wanted_yes rfl (by kernel_rfl) eg) ?_ (fun _ _ => rfl) (Ok.refl _)
              clear hF
              go_simp
            · intro a' w' hF hR
              obtain ⟨v6, hv6, e33⟩ := hF.get 6 33 (by kernel_rfl) (by kernel_rfl)
              obtain rfl : v6 = _ := hv6 _ (Ok.refl _)
              obtain ⟨vg, hvg, eg⟩ := hF.get 5 32 (by kernel_rfl) (by kernel_rfl)
              obtain rfl : vg = _ := hvg _ (Ok.refl _)
              refine wpOp_runG (v := .bool false) rfl (wanted_yes rfl (by kernel_rfl) eg) ?_ (fun _ _ => rfl) (Ok.refl _)
              clear hF
              go_simp
            · intro a' w' hF hR
              obtain ⟨v7, hv7, e34⟩ := hF.get 7 34 (by kernel_rfl) (by kernel_rfl)
              obtain rfl : v7 = _ := hv7 _ (Ok.refl _)
              obtain ⟨vg, hvg, eg⟩ := hF.get 5 32 (by kernel_rfl) (by kernel_rfl)
              obtain rfl : vg = _ := hvg _ (Ok.refl _)
              refine wpOp_runG (v := .bool false) rfl (wanted_yes rfl (by kernel_rfl) eg) ?_ (fun _ _ => rfl) (Ok.refl _)
              clear hF
              go_simp
            · intro a' w' hF hR
              have e9 : a'.tmps[9]? = some (.pointer (some ⟨hh, 0, none⟩)) := hF.slot 9 (by kernel_rfl) rfl
              obtain ⟨vg, hvg, eg⟩ := hF.get 8 35 (by kernel_rfl) (by kernel_rfl)
              obtain rfl : vg = _ := hvg _ (Ok.refl _)
              have e0 := (HX.out _ hR).c0
              have e1 := (HX.out _ hR).c1
              refine wpOp_runG (v := spanV x y) rfl (wanted_yes rfl (by kernel_rfl) eg) ?_ (fun _ _ => rfl) (Ok.refl _)
              clear hF
              go_simp
            · intro a' w' hF hR
              obtain ⟨v9, hv9, e36⟩ := hF.get 9 36 (by kernel_rfl) (by kernel_rfl)
              obtain rfl : v9 = _ := hv9 _ (Ok.refl _)
              obtain ⟨vg, hvg, eg⟩ := hF.get 8 35 (by kernel_rfl) (by kernel_rfl)
              obtain rfl : vg = _ := hvg _ (Ok.refl _)
              refine wpOp_callG (f := 11) (args := #[spanV x y]) rfl (wanted_yes rfl (by kernel_rfl) eg) ?_ ((KW.out _).mono ?_)
              · go_simp
              · rintro e w2 ⟨rfl, hb2⟩; exact ⟨_, rfl, fun _ _ => rfl, hb2⟩
            · intro a' w' hF hR
              have e5 : a'.tmps[5]? = some (.pointer (some ⟨b, 0, none⟩)) := hF.slot 5 (by kernel_rfl) rfl
              obtain ⟨vg, hvg, eg⟩ := hF.get 8 35 (by kernel_rfl) (by kernel_rfl)
              obtain rfl : vg = _ := hvg _ (Ok.refl _)
              have e0 := (HB.out _ hR).c0
              have e1 := (HB.out _ hR).c1
              refine wpOp_runG (v := spanV b1 b2) rfl (wanted_yes rfl (by kernel_rfl) eg) ?_ (fun _ _ => rfl) (Ok.refl _)
              clear hF
              go_simp
            · intro a' w' hF hR
              obtain ⟨v11, hv11, e38⟩ := hF.get 11 38 (by kernel_rfl) (by kernel_rfl)
              obtain rfl : v11 = _ := hv11 _ (Ok.refl _)
              obtain ⟨vg, hvg, eg⟩ := hF.get 8 35 (by kernel_rfl) (by kernel_rfl)
              obtain rfl : vg = _ := hvg _ (Ok.refl _)
              refine wpOp_callG (f := 11) (args := #[spanV b1 b2]) rfl (wanted_yes rfl (by kernel_rfl) eg) ?_ ((KV.out _).mono ?_)
              · go_simp
              · rintro e w2 ⟨rfl, hb2⟩; exact ⟨_, rfl, fun _ _ => rfl, hb2⟩
            · intro a' w' hF hR
              obtain ⟨v10, hv10, e37⟩ := hF.get 10 37 (by kernel_rfl) (by kernel_rfl)
              obtain rfl : v10 = _ := hv10 _ (Ok.refl _)
              obtain ⟨v12, hv12, e39⟩ := hF.get 12 39 (by kernel_rfl) (by kernel_rfl)
              obtain rfl : v12 = _ := hv12 _ (Ok.refl _)
              obtain ⟨vg, hvg, eg⟩ := hF.get 8 35 (by kernel_rfl) (by kernel_rfl)
              obtain rfl : vg = _ := hvg _ (Ok.refl _)
              refine wpOp_runG (v := .bool true) rfl (wanted_yes rfl (by kernel_rfl) eg) ?_ (fun _ _ => rfl) (Ok.refl _)
              clear hF
              go_simp
            · intro a' w' hF hR
              obtain ⟨v8, hv8, e35⟩ := hF.get 8 35 (by kernel_rfl) (by kernel_rfl)
              obtain rfl : v8 = _ := hv8 _ (Ok.refl _)
              obtain ⟨v13, hv13, e40⟩ := hF.get 13 40 (by kernel_rfl) (by kernel_rfl)
              obtain rfl : v13 = _ := hv13 _ (Ok.refl _)
              obtain ⟨vg, hvg, eg⟩ := hF.get 5 32 (by kernel_rfl) (by kernel_rfl)
              obtain rfl : vg = _ := hvg _ (Ok.refl _)
              refine wpOp_runG (v := .bool true) rfl (wanted_yes rfl (by kernel_rfl) eg) ?_ (fun _ _ => rfl) (Ok.refl _)
              clear hF
              go_simp
            · intro a' w' hF hR
              obtain ⟨v5, hv5, e32⟩ := hF.get 5 32 (by kernel_rfl) (by kernel_rfl)
              obtain rfl : v5 = _ := hv5 _ (Ok.refl _)
              obtain ⟨v14, hv14, e41⟩ := hF.get 14 41 (by kernel_rfl) (by kernel_rfl)
              obtain rfl : v14 = _ := hv14 _ (Ok.refl _)
              refine wpOp_run (v := .bool true) rfl rfl ?_ (fun _ _ => rfl) (Ok.refl _)
              clear hF
              go_simp
            · intro vs w' hV hR
              have e15 : vs 15 = .bool true := hV 15 (by decide) _ (Ok.refl _)
              have hok2 := hok.trans ((Ok.refl W).drew.trans hR)
              have hP2 := HP.out _ hR
              have hX2 := HX.out _ hR
              have hB2 := HB.out _ hR
              clear hV HP HX HB KW KV
              simp only [putFrom, e15]
              simp only [Act.put, List.setIfInBounds_toArray, List.set_cons_zero, List.set_cons_succ]
              clear e15
              have c0 := hX2.c0
              have c1 := hX2.c1
              have d0 := hB2.c0
              have d1 := hB2.c1
              have f0 := hB2.f0
              have f1 := hB2.f1
              go_wp2
              have hF := hB2.set x y
              have hok3 := (hok2.setCell (p := ⟨b, 0, none⟩) hbw (.int .i64 x)).setCell (p := ⟨b, 1, none⟩) hbw (.int .i64 y)
              have hP3 := (hP2.setOther (a := ⟨b, 0, none⟩) hBb (.int .i64 x)).setOther (a := ⟨b, 1, none⟩) hBb (.int .i64 y)
              go_roundw
              case rel => exact ⟨k + 1, by omega, by go_num, by rw [HNX.out], hP3, by rw [HNX.out]; exact hF, hok3⟩
              case measure => simp [intOf]; omega
          · rw [decide_eq_false hW] at hT
            rw [HN.out hT] at HBS
            obtain rfl := HBS.out
            have hdw := decide_eq_false hW
            clear hT HT HN HY HBS hE
            refine wp_region_facts (by kernel_rfl) 59 rfl (VCLo hh x y b1 b2 wx wb) Ok (by kernel_rfl) (fun i v w w' h k w'' k' => h w'' (k.trans k')) (fun a b c => Ok.trans) (Ok.refl _) [some 27, some 28, some 29, some 30, some 31, some 32, some 33, some 34, some 35, some 36, some 37, some 38, some 39, some 40, some 41, some 42] rfl 16 rfl ⟨?_, ?_, ?_, ?_, ?_, ?_, ?_, ?_, ?_, ?_, ?_, ?_, ?_, ?_, ?_, ?_, trivial⟩ ?_
            · intro a' w' hF hR
              have e9 : a'.tmps[9]? = some (.pointer (some ⟨hh, 0, none⟩)) := hF.slot 9 (by kernel_rfl) rfl
              refine wpOp_run (v := .pointer (some ⟨hh, 0, none⟩)) rfl rfl ?_ (fun _ _ => rfl) (Ok.refl _)
              clear hF
              go_simp
            · intro a' w' hF hR
              obtain ⟨v0, hv0, e27⟩ := hF.get 0 27 (by kernel_rfl) (by kernel_rfl)
              obtain rfl : v0 = _ := hv0 _ (Ok.refl _)
              have e0 := (HX.out _ hR).c0
              have e1 := (HX.out _ hR).c1
              refine wpOp_run (v := .int .i64 x) rfl rfl ?_ (fun _ _ => rfl) (Ok.refl _)
              clear hF
              go_simp
            · intro a' w' hF hR
              have e9 : a'.tmps[9]? = some (.pointer (some ⟨hh, 0, none⟩)) := hF.slot 9 (by kernel_rfl) rfl
              refine wpOp_run (v := .pointer (some ⟨hh, 1, none⟩)) rfl rfl ?_ (fun _ _ => rfl) (Ok.refl _)
              clear hF
              go_simp
            · intro a' w' hF hR
              obtain ⟨v2, hv2, e29⟩ := hF.get 2 29 (by kernel_rfl) (by kernel_rfl)
              obtain rfl : v2 = _ := hv2 _ (Ok.refl _)
              have e0 := (HX.out _ hR).c0
              have e1 := (HX.out _ hR).c1
              refine wpOp_run (v := .int .i64 y) rfl rfl ?_ (fun _ _ => rfl) (Ok.refl _)
              clear hF
              go_simp
            · intro a' w' hF hR
              obtain ⟨v1, hv1, e28⟩ := hF.get 1 28 (by kernel_rfl) (by kernel_rfl)
              obtain rfl : v1 = _ := hv1 _ (Ok.refl _)
              obtain ⟨v3, hv3, e30⟩ := hF.get 3 30 (by kernel_rfl) (by kernel_rfl)
              obtain rfl : v3 = _ := hv3 _ (Ok.refl _)
              refine wpOp_run (v := .bool true) rfl rfl ?_ (fun _ _ => rfl) (Ok.refl _)
              clear hF
              go_simp
            · intro a' w' hF hR
              obtain ⟨v4, hv4, e31⟩ := hF.get 4 31 (by kernel_rfl) (by kernel_rfl)
              obtain rfl : v4 = _ := hv4 _ (Ok.refl _)
              refine wpOp_run (v := .bool true) rfl rfl ?_ (fun _ _ => rfl) (Ok.refl _)
              clear hF
              go_simp
            · intro a' w' hF hR
              have e6 : a'.tmps[6]? = some (.bool true) := hF.slot 6 (by kernel_rfl) rfl
              obtain ⟨vg, hvg, eg⟩ := hF.get 5 32 (by kernel_rfl) (by kernel_rfl)
              obtain rfl : vg = _ := hvg _ (Ok.refl _)
              refine wpOp_runG (v := .bool true) rfl (wanted_yes rfl (by kernel_rfl) eg) ?_ (fun _ _ => rfl) (Ok.refl _)
              clear hF
              go_simp
            · intro a' w' hF hR
              obtain ⟨v6, hv6, e33⟩ := hF.get 6 33 (by kernel_rfl) (by kernel_rfl)
              obtain rfl : v6 = _ := hv6 _ (Ok.refl _)
              obtain ⟨vg, hvg, eg⟩ := hF.get 5 32 (by kernel_rfl) (by kernel_rfl)
              obtain rfl : vg = _ := hvg _ (Ok.refl _)
              refine wpOp_runG (v := .bool false) rfl (wanted_yes rfl (by kernel_rfl) eg) ?_ (fun _ _ => rfl) (Ok.refl _)
              clear hF
              go_simp
            · intro a' w' hF hR
              obtain ⟨v7, hv7, e34⟩ := hF.get 7 34 (by kernel_rfl) (by kernel_rfl)
              obtain rfl : v7 = _ := hv7 _ (Ok.refl _)
              obtain ⟨vg, hvg, eg⟩ := hF.get 5 32 (by kernel_rfl) (by kernel_rfl)
              obtain rfl : vg = _ := hvg _ (Ok.refl _)
              refine wpOp_runG (v := .bool false) rfl (wanted_yes rfl (by kernel_rfl) eg) ?_ (fun _ _ => rfl) (Ok.refl _)
              clear hF
              go_simp
            · intro a' w' hF hR
              have e9 : a'.tmps[9]? = some (.pointer (some ⟨hh, 0, none⟩)) := hF.slot 9 (by kernel_rfl) rfl
              obtain ⟨vg, hvg, eg⟩ := hF.get 8 35 (by kernel_rfl) (by kernel_rfl)
              obtain rfl : vg = _ := hvg _ (Ok.refl _)
              have e0 := (HX.out _ hR).c0
              have e1 := (HX.out _ hR).c1
              refine wpOp_runG (v := spanV x y) rfl (wanted_yes rfl (by kernel_rfl) eg) ?_ (fun _ _ => rfl) (Ok.refl _)
              clear hF
              go_simp
            · intro a' w' hF hR
              obtain ⟨v9, hv9, e36⟩ := hF.get 9 36 (by kernel_rfl) (by kernel_rfl)
              obtain rfl : v9 = _ := hv9 _ (Ok.refl _)
              obtain ⟨vg, hvg, eg⟩ := hF.get 8 35 (by kernel_rfl) (by kernel_rfl)
              obtain rfl : vg = _ := hvg _ (Ok.refl _)
              refine wpOp_callG (f := 11) (args := #[spanV x y]) rfl (wanted_yes rfl (by kernel_rfl) eg) ?_ ((KW.out _).mono ?_)
              · go_simp
              · rintro e w2 ⟨rfl, hb2⟩; exact ⟨_, rfl, fun _ _ => rfl, hb2⟩
            · intro a' w' hF hR
              have e5 : a'.tmps[5]? = some (.pointer (some ⟨b, 0, none⟩)) := hF.slot 5 (by kernel_rfl) rfl
              obtain ⟨vg, hvg, eg⟩ := hF.get 8 35 (by kernel_rfl) (by kernel_rfl)
              obtain rfl : vg = _ := hvg _ (Ok.refl _)
              have e0 := (HB.out _ hR).c0
              have e1 := (HB.out _ hR).c1
              refine wpOp_runG (v := spanV b1 b2) rfl (wanted_yes rfl (by kernel_rfl) eg) ?_ (fun _ _ => rfl) (Ok.refl _)
              clear hF
              go_simp
            · intro a' w' hF hR
              obtain ⟨v11, hv11, e38⟩ := hF.get 11 38 (by kernel_rfl) (by kernel_rfl)
              obtain rfl : v11 = _ := hv11 _ (Ok.refl _)
              obtain ⟨vg, hvg, eg⟩ := hF.get 8 35 (by kernel_rfl) (by kernel_rfl)
              obtain rfl : vg = _ := hvg _ (Ok.refl _)
              refine wpOp_callG (f := 11) (args := #[spanV b1 b2]) rfl (wanted_yes rfl (by kernel_rfl) eg) ?_ ((KV.out _).mono ?_)
              · go_simp
              · rintro e w2 ⟨rfl, hb2⟩; exact ⟨_, rfl, fun _ _ => rfl, hb2⟩
            · intro a' w' hF hR
              obtain ⟨v10, hv10, e37⟩ := hF.get 10 37 (by kernel_rfl) (by kernel_rfl)
              obtain rfl : v10 = _ := hv10 _ (Ok.refl _)
              obtain ⟨v12, hv12, e39⟩ := hF.get 12 39 (by kernel_rfl) (by kernel_rfl)
              obtain rfl : v12 = _ := hv12 _ (Ok.refl _)
              obtain ⟨vg, hvg, eg⟩ := hF.get 8 35 (by kernel_rfl) (by kernel_rfl)
              obtain rfl : vg = _ := hvg _ (Ok.refl _)
              refine wpOp_runG (v := .bool false) rfl (wanted_yes rfl (by kernel_rfl) eg) ?_ (fun _ _ => rfl) (Ok.refl _)
              clear hF
              go_simp
            · intro a' w' hF hR
              obtain ⟨v8, hv8, e35⟩ := hF.get 8 35 (by kernel_rfl) (by kernel_rfl)
              obtain rfl : v8 = _ := hv8 _ (Ok.refl _)
              obtain ⟨v13, hv13, e40⟩ := hF.get 13 40 (by kernel_rfl) (by kernel_rfl)
              obtain rfl : v13 = _ := hv13 _ (Ok.refl _)
              obtain ⟨vg, hvg, eg⟩ := hF.get 5 32 (by kernel_rfl) (by kernel_rfl)
              obtain rfl : vg = _ := hvg _ (Ok.refl _)
              refine wpOp_runG (v := .bool false) rfl (wanted_yes rfl (by kernel_rfl) eg) ?_ (fun _ _ => rfl) (Ok.refl _)
              clear hF
              go_simp
            · intro a' w' hF hR
              obtain ⟨v5, hv5, e32⟩ := hF.get 5 32 (by kernel_rfl) (by kernel_rfl)
              obtain rfl : v5 = _ := hv5 _ (Ok.refl _)
              obtain ⟨v14, hv14, e41⟩ := hF.get 14 41 (by kernel_rfl) (by kernel_rfl)
              obtain rfl : v14 = _ := hv14 _ (Ok.refl _)
              refine wpOp_run (v := .bool false) rfl rfl ?_ (fun _ _ => rfl) (Ok.refl _)
              clear hF
              go_simp
            · intro vs w' hV hR
              have e15 : vs 15 = .bool false := hV 15 (by decide) _ (Ok.refl _)
              have hok2 := hok.trans ((Ok.refl W).drew.trans hR)
              have hP2 := HP.out _ hR
              have hX2 := HX.out _ hR
              have hB2 := HB.out _ hR
              clear hV HP HX HB KW KV
              simp only [putFrom, e15]
              simp only [Act.put, List.setIfInBounds_toArray, List.set_cons_zero, List.set_cons_succ]
              clear e15
              go_wp2
              go_roundw
              case rel => exact ⟨k + 1, by omega, by go_num, by rw [HNX.out], hP2, by rw [HNX.out]; exact hB2, hok2⟩
              case measure => simp [intOf]; omega
    · have ek : l.take k = l := List.take_of_length_le (by omega)
      rw [ek] at hB ⊢
      have KB := Lib.hid (probeBest p A l cap wr (h.below hok) hl)
      obtain ⟨⟨⟨x, y⟩, fd⟩, hbs⟩ : ∃ bs, Probe.best p l = bs := ⟨_, rfl⟩
      rw [hbs] at hB KB ⊢
      clear hbs ek
      simp only at hB KB ⊢
      obtain ⟨p0, p1, p2, p3, p4, p5, p6, p7, p8, p9, p10, p11⟩ := hP.pars
      have hPl := hP.lt
      go_wp2_with (go_at_call 12; (with_reducible refine KB.out.mono ?_); rintro e w2 ⟨rfl, hb1⟩; replace hB := hB.next hb1; replace hok := hok.trans hb1; clear hb1 KB p0 p1 p2 p3 p4 p5 p6 p7 p8 p9 p10 p11; have c0 := hB.c0; have c1 := hB.c1; have hbl := hB.lt)
      go_ret
      exact ⟨rfl, hok.alloc _⟩
theorem own : ownKnob Try.prog.godebug = none := by kernel_rfl
theorem laidOut : laidOutB Try.prog = true := by kernel_rfl
set_option maxRecDepth 100000 in
theorem lifted (os : Os) (started : os.Started) (H : Type) (enc : TypeId × Value → H) :
    ReturnsInHanded {} Try.checked os 4 .any (Rows.probeBestSpec.pre6 enc Try.prog Try.f4 Rows.probeBestRow.domain false) (Rows.probeBestSpec.post enc Try.prog Try.f4 false true false false) := by
  refine returnsInHanded_of_change (C := Try.checked) own started (by kernel_rfl) Try.func4
    (ChangeSpec.witness6 (enc := enc) (C := Try.checked) false ⟨#[], #[.agg #[.int .i64 0, .int .i64 0, .int .i64 0, .int .i64 0, .int .i64 0, .int .i64 0, .int .i64 0, .int .i64 0, .int .i64 0, .int .i64 0, .int .i64 0, .int .i64 0], .slice none 0 0], []⟩ 8 (by kernel_rfl) (by kernel_rfl) (by kernel_rfl) (by kernel_rfl)) ?_
  intro W base args ds gs before hval0 hW _ _
  have hval : ∀ (j : Nat) t v, Try.f4.params[j]? = some t → args[j]? = some v → Value.okWide Try.prog W .any base t v := hval0
  have hW' := hW
  obtain ⟨p, q, hA, hV, rfl, _, _⟩ := hW
  obtain ⟨rfl, rfl⟩ := trodVars_none hV
  replace hA : DataW.TrodAll enc Try.prog W 0 (fun _ => true) true Try.f4.params.toList args.toList ds p := hA
  rw [Try.params4] at hA hval
  obtain ⟨v0, vs0, d0, ds0, p0, q0, hargs, rfl, rfl, h0, r0⟩ := trodAll_cons hA
  obtain ⟨v1, vs1, d1, ds1, p1, q1, rfl, rfl, rfl, h1, r1⟩ := trodAll_cons r0
  obtain ⟨rfl, rfl, rfl⟩ := trodAll_nil r1
  obtain rfl : args = #[v0, v1] := by cases args; simp_all
  obtain ⟨p0, rfl, wp0⟩ := open_par Try.underlying23 rfl (by kernel_rfl) (by kernel_rfl) (by kernel_rfl) (hval 0 23 v0 rfl rfl) h0
  obtain ⟨A1, l1, c1, rfl, hA1, hl1, hw1⟩ := open_slice_rows tripcells tripok tripkinds triplen tripof (by decide) Try.underlying31 Try.underlying25 (by kernel_rfl) (by kernel_rfl) (by kernel_rfl) (hval 1 31 v1 rfl rfl) h1
  refine (walk W p0 wp0 A1 l1 c1 hA1 hl1 hw1).mono fun e W' ⟨he, hb⟩ => ?_
  subst he
  exact ⟨_, rfl, law_post hW' laidOut (by rw [Try.params4]; exact params_ok (by kernel_rfl)) rfl (by kernel_rfl) Try.underlying4 rfl rfl rfl hb⟩
theorem over : Rows.probeBestRow.holds Try.pinned (OpenSpec.ofChange Rows.probeBestSpec) :=
  OpenClaim.holds_of_wide 4 Try.f4 rfl rfl rfl rfl rfl rfl rfl ⟨rfl, rfl, rfl, rfl, rfl⟩ rfl rfl rfl rfl rfl (by kernel_rfl) Try.func4 (by kernel_rfl)
    (of_decide_eq_true (by kernel_rfl)) (by unfold Func.isWrapper; first | (rw [if_pos (by decide +kernel)]; kernel_rfl) | (rw [if_neg (by decide +kernel)]; exact ⟨rfl, rfl⟩))
    (fun os started H enc _ => lifted os started H enc)
theorem proved : Rows.ProbeBestSaid := over
end Go.Proofs.Ytfhagccelkjflaa.probeBest
