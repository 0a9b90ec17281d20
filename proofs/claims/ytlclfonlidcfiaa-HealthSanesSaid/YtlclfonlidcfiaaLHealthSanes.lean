/- HealthSanes: for every fabric and state the law answers true: Sane, Of and Far answer what the document says, Sane of Sane is Sane. No condition. -/
import Derived.Test.YtlclfonlidcfiaaC21h
import Derived.Test.YtlclfonlidcfiaaW06
namespace Go.Proofs.Ytlclfonlidcfiaa.healthSanes
open Go.ChangeShapes Go.WideShapes Go.ChangeAt Go.RowKit
set_option linter.unusedVariables false
set_option maxRecDepth 100000
attribute [local go_sem ↓] Go.wp_at_zero Go.wp_at_succ
/-- What each operation leaves. -/
def VMQ (B G N : Nat) (p : Par) (s t : Sta) (A AX : Option Addr) (cap cX : Nat) (o f : Int) (w : World) (v : Value) : Nat → Prop
  | 0 => v = .agg #[.int .i64 t.lo, .int .i64 t.hi, .int .i64 t.time, .bool t.set, .int .i64 t.held, .int .i64 t.hops, .bool t.good, .slice AX t.table.length cX, .int .i64 t.st, .int .i64 t.sn, .int .i64 t.life]
  | 1 => v = parV p
  | 2 => v = .agg #[.int .i64 s.lo, .int .i64 s.hi, .int .i64 s.time, .bool s.set, .int .i64 s.held, .int .i64 s.hops, .bool s.good, .slice A s.table.length cap, .int .i64 s.st, .int .i64 s.sn, .int .i64 s.life]
  | 3 => ∃ A c, v = staV (t) A c ∧ PairsAt w A (t).table
  | 4 => v = .bool true
  | 5 => v = .bool true
  | 6 => v = parV p
  | 7 => v = .agg #[.int .i64 t.lo, .int .i64 t.hi, .int .i64 t.time, .bool t.set, .int .i64 t.held, .int .i64 t.hops, .bool t.good, .slice AX t.table.length cX, .int .i64 t.st, .int .i64 t.sn, .int .i64 t.life]
  | 8 => ∃ A c, v = staV (t) A c ∧ PairsAt w A (t).table
  | 9 => v = .agg #[.int .i64 t.lo, .int .i64 t.hi, .int .i64 t.time, .bool t.set, .int .i64 t.held, .int .i64 t.hops, .bool t.good, .slice AX t.table.length cX, .int .i64 t.st, .int .i64 t.sn, .int .i64 t.life]
  | 10 => v = .bool true
  | 11 => v = .bool true
  | 12 => v = .bool true
  | 13 => v = parV p
  | 14 => v = .agg #[.int .i64 s.lo, .int .i64 s.hi, .int .i64 s.time, .bool s.set, .int .i64 s.held, .int .i64 s.hops, .bool s.good, .slice A s.table.length cap, .int .i64 s.st, .int .i64 s.sn, .int .i64 s.life]
  | 15 => v = .int .i64 o
  | 16 => v = parV p
  | 17 => v = .agg #[.int .i64 s.lo, .int .i64 s.hi, .int .i64 s.time, .bool s.set, .int .i64 s.held, .int .i64 s.hops, .bool s.good, .slice A s.table.length cap, .int .i64 s.st, .int .i64 s.sn, .int .i64 s.life]
  | 18 => v = .int .i64 o
  | 19 => v = .bool true
  | 20 => v = .bool true
  | 21 => v = .bool true
  | 22 => v = parV p
  | 23 => v = .pointer (some ⟨G, 4, none⟩)
  | 24 => v = .int .i64 s.held
  | 25 => v = .int .i64 f
  | 26 => v = parV p
  | 27 => v = .pointer (some ⟨G, 4, none⟩)
  | 28 => v = .int .i64 s.held
  | 29 => v = .int .i64 f
  | 30 => v = .bool true
  | 31 => v = .bool true
  | 32 => v = .bool true
  | _ => v = .bool true
/-- It stays so. -/
def VCQ (B G N : Nat) (p : Par) (s t : Sta) (A AX : Option Addr) (cap cX : Nat) (o f : Int) (i : Nat) (v : Value) (w : World) : Prop := ∀ w', Ok w w' → VMQ B G N p s t A AX cap cX o f w' v i
set_option maxHeartbeats 6400000 in
theorem walkF (F : FrontDoes) (w : World) (p : Par) (s : Sta) (A : Option Addr) (cap : Nat) (hA : PairsAt w A s.table) (hl : s.table.length ≤ 9223372036854775807) :
    Calls Try.prog 3 #[parV p, staV s A cap] w fun e w' => e = .returned (.bool true) ∧ Ok w w' := by
  have KAL := Lib.hid fun w => law21AliveF F w
  have KLO := Lib.hid fun w => law21Long s s A A cap cap w
  obtain ⟨t, ht⟩ : ∃ t, Health.sane p s = t := ⟨_, rfl⟩
  have hst : Health.sane p t = t := by rw [← ht]; exact Health.sane_sane p s
  have htl : t.table.length ≤ 9223372036854775807 := by
    rw [← ht]
    unfold Health.sane
    simp only
    split
    · exact hl
    · simp
  have KS := Lib.hid fun w h => ref21Sane p s A cap w h hl
  rw [ht] at KS
  have KHS := Lib.hid fun w h => F.healthSane p s A cap w h hl
  rw [ht] at KHS
  have KX := Lib.hid fun w A c h => F.healthSane p t A c w h htl
  rw [hst] at KX
  have KE := Lib.hid fun w A C c d h1 h2 => ref21Same t t A C c d w h1 h2 htl htl
  rw [decide_eq_true (rfl : t = t)] at KE
  have KO := Lib.hid fun w => F.healthOf p s A cap w
  have KP := Lib.hid fun w => ref21Of p s A cap w
  have KF := Lib.hid fun w => F.healthFar p s.held w
  have KG := Lib.hid fun w => ref21Far p s.held w
  generalize Health.of p s = o at KO KP
  generalize Health.far p s.held = f at KF KG
  have hP := (Own.new w (parCells p) 23 rfl).alloc (.cells (staCells s A cap) 30)
  have hS := Own.new (w.alloc (.cells (parCells p) 23)) (staCells s A cap) 30 (g := w.heap.size + 1) (by simp)
  have hok := ((Ok.refl w).alloc (.cells (parCells p) 23)).alloc (.cells (staCells s A cap) 30)
  have HA0 := Lib.hid hA
  clear hA ht hst htl
  obtain ⟨lg, hlg⟩ : ∃ b, decide (256 < s.table.length ∨ 256 < s.table.length) = b := ⟨_, rfl⟩
  rw [hlg] at KLO
  clear hlg hl
  go_enter Try.func3, Try.ntmps3
  go_upto_region 1 with fail
  change Code.wp _ _ _ _ ((w.alloc (.cells (parCells p) 23)).alloc (.cells (staCells s A cap) 30))
  generalize (w.alloc (.cells (parCells p) 23)).alloc (.cells (staCells s A cap) 30) = W at hP hS hok ⊢
  obtain ⟨G, hG⟩ : ∃ r, w.heap.size + 1 = r := ⟨_, rfl⟩
  obtain ⟨B, hB⟩ : ∃ r, w.heap.size = r := ⟨_, rfl⟩
  rw [hG] at hS
  rw [hB] at hP
  rw [hG, hB]
  clear hG hB
  go_upto_region 3 with (go_at_call 9; (with_reducible refine (KAL.out _).mono ?_); rintro e w1 ⟨rfl, hb1⟩; replace hP := hP.next hb1; replace hS := hS.next hb1; replace hok := hok.trans hb1; clear hb1)
  obtain ⟨s0, s1, s2, s3, s4, s5, s6, s7, s8, s9, s10⟩ := hS.sta
  have hSl := hS.lt
  go_upto_if 10 with (go_at_call 10; refine (KLO.out _).mono ?_; rintro e w2 ⟨rfl, hb1⟩; clear s0 s1 s2 s3 s4 s5 s6 s7 s8 s9 s10 hSl; replace hP := hP.next hb1; replace hS := hS.next hb1; replace hok := hok.trans hb1; clear hb1)
  cases lg with
  | true =>
    go_wp2_with fail
    go_ret
    exact ⟨rfl, hok⟩
  | false =>
    obtain ⟨s0, s1, s2, s3, s4, s5, s6, s7, s8, s9, s10⟩ := hS.sta
    have hSl := hS.lt
    obtain ⟨c0, c1, c2, c3, c4, c5, c6, c7, c8, c9, c10, c11⟩ := hP.pars
    have hPl := hP.lt
    have KHS2 := Lib.hid (show ∀ w, PairsAt w A s.table → Calls Try.prog 11 #[parV p, staV s A cap] w (fun e w' => ∃ (A2 : Option Addr) (cap2 : Nat), e = .returned (.agg #[.int .i64 t.lo, .int .i64 t.hi, .int .i64 t.time, .bool t.set, .int .i64 t.held, .int .i64 t.hops, .bool t.good, .slice A2 t.table.length cap2, .int .i64 t.st, .int .i64 t.sn, .int .i64 t.life]) ∧ PairsOf w.heap.size w' A2 t.table ∧ Ok w w') from KHS.out)
    clear KHS
    go_upto_region 6 with (go_at_call 11; refine (KHS2.out _ (HA0.out.below hok)).mono ?_; rintro e w3 ⟨AX, cX, rfl, hT, hb1⟩; clear s0 s1 s2 s3 s4 s5 s6 s7 s8 s9 s10 hSl c0 c1 c2 c3 c4 c5 c6 c7 c8 c9 c10 c11 hPl; replace hP := hP.next hb1; replace hS := hS.next hb1; replace hok := hok.trans hb1; clear hb1)
    change Code.wp _ _ _ _ (w3.alloc (.cells (staCells t AX cX) 30))
    have hX := Own.new w3 (staCells t AX cX) 30 rfl
    replace hP := hP.alloc (.cells (staCells t AX cX) 30)
    replace hS := hS.alloc (.cells (staCells t AX cX) 30)
    replace hok := hok.alloc (.cells (staCells t AX cX) 30)
    have hTX := hT.1.alloc (.cells (staCells t AX cX) 30)
    generalize w3.alloc (.cells (staCells t AX cX) 30) = WA at hX hP hS hok hTX ⊢
    clear hT
    generalize w3.heap.size = N at hX ⊢
    have HA := Lib.hid fun W' (k : Ok WA.drew W') => ((HA0.out.below hok).drew).below k
    have HT := Lib.hid fun W' (k : Ok WA.drew W') => hTX.drew.below k
    have HP := Lib.hid fun W' (k : Ok WA.drew W') => hP.drew.next k
    have HS := Lib.hid fun W' (k : Ok WA.drew W') => hS.drew.next k
    have HX := Lib.hid fun W' (k : Ok WA.drew W') => hX.drew.next k
    have HOK := Lib.hid hok
    clear hP hS hX hok hTX HA0 KHS2 KLO KAL
    refine wp_region_facts (by kernel_rfl) 46 rfl (VCQ B G N p s t A AX cap cX o f) Ok (by kernel_rfl) (fun i v w w' h k w'' k' => h w'' (k.trans k')) (fun a b c => Ok.trans) (Ok.refl _) [some 14, some 15, some 16, some 17, some 18, some 19, some 20, some 21, some 22, some 23, some 24, some 25, some 26, some 27, some 28, some 29, some 30, some 31, some 32, some 33, some 34, some 35, some 36, some 37, some 38, some 39, some 40, some 41, some 42, some 43, some 44, some 45, some 4] rfl 33 rfl ⟨?_, ?_, ?_, ?_, ?_, ?_, ?_, ?_, ?_, ?_, ?_, ?_, ?_, ?_, ?_, ?_, ?_, ?_, ?_, ?_, ?_, ?_, ?_, ?_, ?_, ?_, ?_, ?_, ?_, ?_, ?_, ?_, ?_, trivial⟩ ?_
    · intro a' w' hF hR
      have e5 : a'.tmps[5]? = some (.pointer (some ⟨N, 0, none⟩)) := hF.slot 5 (by kernel_rfl) rfl
      obtain ⟨s0, s1, s2, s3, s4, s5, s6, s7, s8, s9, s10⟩ := (HX.out _ hR).sta
      have hSl := (HX.out _ hR).lt
      refine wpOp_run (v := .agg #[.int .i64 t.lo, .int .i64 t.hi, .int .i64 t.time, .bool t.set, .int .i64 t.held, .int .i64 t.hops, .bool t.good, .slice AX t.table.length cX, .int .i64 t.st, .int .i64 t.sn, .int .i64 t.life]) rfl rfl ?_ (fun _ _ => rfl) (Ok.refl _)
      clear hF
      go_simp
    · intro a' w' hF hR
      have e2 : a'.tmps[2]? = some (.pointer (some ⟨B, 0, none⟩)) := hF.slot 2 (by kernel_rfl) rfl
      obtain ⟨c0, c1, c2, c3, c4, c5, c6, c7, c8, c9, c10, c11⟩ := (HP.out _ hR).pars
      refine wpOp_run (v := parV p) rfl rfl ?_ (fun _ _ => rfl) (Ok.refl _)
      clear hF
      go_simp
    · intro a' w' hF hR
      have e3 : a'.tmps[3]? = some (.pointer (some ⟨G, 0, none⟩)) := hF.slot 3 (by kernel_rfl) rfl
      obtain ⟨s0, s1, s2, s3, s4, s5, s6, s7, s8, s9, s10⟩ := (HS.out _ hR).sta
      have hSl := (HS.out _ hR).lt
      refine wpOp_run (v := .agg #[.int .i64 s.lo, .int .i64 s.hi, .int .i64 s.time, .bool s.set, .int .i64 s.held, .int .i64 s.hops, .bool s.good, .slice A s.table.length cap, .int .i64 s.st, .int .i64 s.sn, .int .i64 s.life]) rfl rfl ?_ (fun _ _ => rfl) (Ok.refl _)
      clear hF
      go_simp
    · intro a' w' hF hR
      obtain ⟨v1, hv1, e15⟩ := hF.get 1 15 (by kernel_rfl) (by kernel_rfl)
      obtain rfl : v1 = _ := hv1 _ (Ok.refl _)
      obtain ⟨v2, hv2, e16⟩ := hF.get 2 16 (by kernel_rfl) (by kernel_rfl)
      obtain rfl : v2 = _ := hv2 _ (Ok.refl _)
      clear hF
      refine wpOp_call (f := 13) (args := #[parV p, .agg #[.int .i64 s.lo, .int .i64 s.hi, .int .i64 s.time, .bool s.set, .int .i64 s.held, .int .i64 s.hops, .bool s.good, .slice A s.table.length cap, .int .i64 s.st, .int .i64 s.sn, .int .i64 s.life]]) rfl rfl ?_ ((KS.out _ (HA.out _ hR)).mono ?_)
      · go_simp
      · rintro e w2 ⟨A2, c2, rfl, hI2, hb2⟩; exact ⟨_, rfl, fun w3 k => ⟨A2, c2, rfl, hI2.1.below k⟩, hb2⟩
    · intro a' w' hF hR
      obtain ⟨v0, hv0, e14⟩ := hF.get 0 14 (by kernel_rfl) (by kernel_rfl)
      obtain rfl : v0 = _ := hv0 _ (Ok.refl _)
      obtain ⟨v3, hv3, e17⟩ := hF.get 3 17 (by kernel_rfl) (by kernel_rfl)
      obtain ⟨A3, c3, rfl, hp3⟩ := hv3 _ (Ok.refl _)
      clear hF
      refine wpOp_call (f := 12) (args := #[.agg #[.int .i64 t.lo, .int .i64 t.hi, .int .i64 t.time, .bool t.set, .int .i64 t.held, .int .i64 t.hops, .bool t.good, .slice AX t.table.length cX, .int .i64 t.st, .int .i64 t.sn, .int .i64 t.life], staV t A3 c3]) rfl rfl ?_ ((KE.out _ AX A3 cX c3 (HT.out _ hR) hp3).mono ?_)
      · go_simp
      · rintro e w2 ⟨rfl, hb2⟩; exact ⟨_, rfl, fun _ _ => rfl, hb2⟩
    · intro a' w' hF hR
      obtain ⟨v4, hv4, e18⟩ := hF.get 4 18 (by kernel_rfl) (by kernel_rfl)
      obtain rfl : v4 = _ := hv4 _ (Ok.refl _)
      refine wpOp_run (v := .bool true) rfl rfl ?_ (fun _ _ => rfl) (Ok.refl _)
      clear hF
      go_simp
    · intro a' w' hF hR
      have e2 : a'.tmps[2]? = some (.pointer (some ⟨B, 0, none⟩)) := hF.slot 2 (by kernel_rfl) rfl
      obtain ⟨vg, hvg, eg⟩ := hF.get 5 19 (by kernel_rfl) (by kernel_rfl)
      obtain rfl : vg = _ := hvg _ (Ok.refl _)
      obtain ⟨c0, c1, c2, c3, c4, c5, c6, c7, c8, c9, c10, c11⟩ := (HP.out _ hR).pars
      refine wpOp_runG (v := parV p) rfl (wanted_yes rfl (by kernel_rfl) eg) ?_ (fun _ _ => rfl) (Ok.refl _)
      clear hF
      go_simp
    · intro a' w' hF hR
      have e5 : a'.tmps[5]? = some (.pointer (some ⟨N, 0, none⟩)) := hF.slot 5 (by kernel_rfl) rfl
      obtain ⟨vg, hvg, eg⟩ := hF.get 5 19 (by kernel_rfl) (by kernel_rfl)
      obtain rfl : vg = _ := hvg _ (Ok.refl _)
      obtain ⟨s0, s1, s2, s3, s4, s5, s6, s7, s8, s9, s10⟩ := (HX.out _ hR).sta
      have hSl := (HX.out _ hR).lt
      refine wpOp_runG (v := .agg #[.int .i64 t.lo, .int .i64 t.hi, .int .i64 t.time, .bool t.set, .int .i64 t.held, .int .i64 t.hops, .bool t.good, .slice AX t.table.length cX, .int .i64 t.st, .int .i64 t.sn, .int .i64 t.life]) rfl (wanted_yes rfl (by kernel_rfl) eg) ?_ (fun _ _ => rfl) (Ok.refl _)
      clear hF
      go_simp
    · intro a' w' hF hR
      obtain ⟨v6, hv6, e20⟩ := hF.get 6 20 (by kernel_rfl) (by kernel_rfl)
      obtain rfl : v6 = _ := hv6 _ (Ok.refl _)
      obtain ⟨v7, hv7, e21⟩ := hF.get 7 21 (by kernel_rfl) (by kernel_rfl)
      obtain rfl : v7 = _ := hv7 _ (Ok.refl _)
      obtain ⟨vg, hvg, eg⟩ := hF.get 5 19 (by kernel_rfl) (by kernel_rfl)
      obtain rfl : vg = _ := hvg _ (Ok.refl _)
      refine wpOp_callG (f := 11) (args := #[parV p, .agg #[.int .i64 t.lo, .int .i64 t.hi, .int .i64 t.time, .bool t.set, .int .i64 t.held, .int .i64 t.hops, .bool t.good, .slice AX t.table.length cX, .int .i64 t.st, .int .i64 t.sn, .int .i64 t.life]]) rfl (wanted_yes rfl (by kernel_rfl) eg) ?_ ((KX.out _ AX cX (HT.out _ hR)).mono ?_)
      · go_simp
      · rintro e w2 ⟨A2, c2, rfl, hI2, hb2⟩; exact ⟨_, rfl, fun w3 k => ⟨A2, c2, rfl, hI2.1.below k⟩, hb2⟩
    · intro a' w' hF hR
      have e5 : a'.tmps[5]? = some (.pointer (some ⟨N, 0, none⟩)) := hF.slot 5 (by kernel_rfl) rfl
      obtain ⟨vg, hvg, eg⟩ := hF.get 5 19 (by kernel_rfl) (by kernel_rfl)
      obtain rfl : vg = _ := hvg _ (Ok.refl _)
      obtain ⟨s0, s1, s2, s3, s4, s5, s6, s7, s8, s9, s10⟩ := (HX.out _ hR).sta
      have hSl := (HX.out _ hR).lt
      refine wpOp_runG (v := .agg #[.int .i64 t.lo, .int .i64 t.hi, .int .i64 t.time, .bool t.set, .int .i64 t.held, .int .i64 t.hops, .bool t.good, .slice AX t.table.length cX, .int .i64 t.st, .int .i64 t.sn, .int .i64 t.life]) rfl (wanted_yes rfl (by kernel_rfl) eg) ?_ (fun _ _ => rfl) (Ok.refl _)
      clear hF
      go_simp
    · intro a' w' hF hR
      obtain ⟨v8, hv8, e22⟩ := hF.get 8 22 (by kernel_rfl) (by kernel_rfl)
      obtain ⟨A8, c8, rfl, hp8⟩ := hv8 _ (Ok.refl _)
      obtain ⟨v9, hv9, e23⟩ := hF.get 9 23 (by kernel_rfl) (by kernel_rfl)
      obtain rfl : v9 = _ := hv9 _ (Ok.refl _)
      obtain ⟨vg, hvg, eg⟩ := hF.get 5 19 (by kernel_rfl) (by kernel_rfl)
      obtain rfl : vg = _ := hvg _ (Ok.refl _)
      refine wpOp_callG (f := 12) (args := #[staV t A8 c8, .agg #[.int .i64 t.lo, .int .i64 t.hi, .int .i64 t.time, .bool t.set, .int .i64 t.held, .int .i64 t.hops, .bool t.good, .slice AX t.table.length cX, .int .i64 t.st, .int .i64 t.sn, .int .i64 t.life]]) rfl (wanted_yes rfl (by kernel_rfl) eg) ?_ ((KE.out _ A8 AX c8 cX hp8 (HT.out _ hR)).mono ?_)
      · go_simp
      · rintro e w2 ⟨rfl, hb2⟩; exact ⟨_, rfl, fun _ _ => rfl, hb2⟩
    · intro a' w' hF hR
      obtain ⟨v5, hv5, e19⟩ := hF.get 5 19 (by kernel_rfl) (by kernel_rfl)
      obtain rfl : v5 = _ := hv5 _ (Ok.refl _)
      obtain ⟨v10, hv10, e24⟩ := hF.get 10 24 (by kernel_rfl) (by kernel_rfl)
      obtain rfl : v10 = _ := hv10 _ (Ok.refl _)
      refine wpOp_run (v := .bool true) rfl rfl ?_ (fun _ _ => rfl) (Ok.refl _)
      clear hF
      go_simp
    · intro a' w' hF hR
      obtain ⟨v11, hv11, e25⟩ := hF.get 11 25 (by kernel_rfl) (by kernel_rfl)
      obtain rfl : v11 = _ := hv11 _ (Ok.refl _)
      refine wpOp_run (v := .bool true) rfl rfl ?_ (fun _ _ => rfl) (Ok.refl _)
      clear hF
      go_simp
    · intro a' w' hF hR
      have e2 : a'.tmps[2]? = some (.pointer (some ⟨B, 0, none⟩)) := hF.slot 2 (by kernel_rfl) rfl
      obtain ⟨vg, hvg, eg⟩ := hF.get 12 26 (by kernel_rfl) (by kernel_rfl)
      obtain rfl : vg = _ := hvg _ (Ok.refl _)
      obtain ⟨c0, c1, c2, c3, c4, c5, c6, c7, c8, c9, c10, c11⟩ := (HP.out _ hR).pars
      refine wpOp_runG (v := parV p) rfl (wanted_yes rfl (by kernel_rfl) eg) ?_ (fun _ _ => rfl) (Ok.refl _)
      clear hF
      go_simp
    · intro a' w' hF hR
      have e3 : a'.tmps[3]? = some (.pointer (some ⟨G, 0, none⟩)) := hF.slot 3 (by kernel_rfl) rfl
      obtain ⟨vg, hvg, eg⟩ := hF.get 12 26 (by kernel_rfl) (by kernel_rfl)
      obtain rfl : vg = _ := hvg _ (Ok.refl _)
      obtain ⟨s0, s1, s2, s3, s4, s5, s6, s7, s8, s9, s10⟩ := (HS.out _ hR).sta
      have hSl := (HS.out _ hR).lt
      refine wpOp_runG (v := .agg #[.int .i64 s.lo, .int .i64 s.hi, .int .i64 s.time, .bool s.set, .int .i64 s.held, .int .i64 s.hops, .bool s.good, .slice A s.table.length cap, .int .i64 s.st, .int .i64 s.sn, .int .i64 s.life]) rfl (wanted_yes rfl (by kernel_rfl) eg) ?_ (fun _ _ => rfl) (Ok.refl _)
      clear hF
      go_simp
    · intro a' w' hF hR
      obtain ⟨v13, hv13, e27⟩ := hF.get 13 27 (by kernel_rfl) (by kernel_rfl)
      obtain rfl : v13 = _ := hv13 _ (Ok.refl _)
      obtain ⟨v14, hv14, e28⟩ := hF.get 14 28 (by kernel_rfl) (by kernel_rfl)
      obtain rfl : v14 = _ := hv14 _ (Ok.refl _)
      obtain ⟨vg, hvg, eg⟩ := hF.get 12 26 (by kernel_rfl) (by kernel_rfl)
      obtain rfl : vg = _ := hvg _ (Ok.refl _)
      refine wpOp_callG (f := 14) (args := #[parV p, .agg #[.int .i64 s.lo, .int .i64 s.hi, .int .i64 s.time, .bool s.set, .int .i64 s.held, .int .i64 s.hops, .bool s.good, .slice A s.table.length cap, .int .i64 s.st, .int .i64 s.sn, .int .i64 s.life]]) rfl (wanted_yes rfl (by kernel_rfl) eg) ?_ ((KO.out _).mono ?_)
      · go_simp
      · rintro e w2 ⟨rfl, hb2⟩; exact ⟨_, rfl, fun _ _ => rfl, hb2⟩
    · intro a' w' hF hR
      have e2 : a'.tmps[2]? = some (.pointer (some ⟨B, 0, none⟩)) := hF.slot 2 (by kernel_rfl) rfl
      obtain ⟨vg, hvg, eg⟩ := hF.get 12 26 (by kernel_rfl) (by kernel_rfl)
      obtain rfl : vg = _ := hvg _ (Ok.refl _)
      obtain ⟨c0, c1, c2, c3, c4, c5, c6, c7, c8, c9, c10, c11⟩ := (HP.out _ hR).pars
      refine wpOp_runG (v := parV p) rfl (wanted_yes rfl (by kernel_rfl) eg) ?_ (fun _ _ => rfl) (Ok.refl _)
      clear hF
      go_simp
    · intro a' w' hF hR
      have e3 : a'.tmps[3]? = some (.pointer (some ⟨G, 0, none⟩)) := hF.slot 3 (by kernel_rfl) rfl
      obtain ⟨vg, hvg, eg⟩ := hF.get 12 26 (by kernel_rfl) (by kernel_rfl)
      obtain rfl : vg = _ := hvg _ (Ok.refl _)
      obtain ⟨s0, s1, s2, s3, s4, s5, s6, s7, s8, s9, s10⟩ := (HS.out _ hR).sta
      have hSl := (HS.out _ hR).lt
      refine wpOp_runG (v := .agg #[.int .i64 s.lo, .int .i64 s.hi, .int .i64 s.time, .bool s.set, .int .i64 s.held, .int .i64 s.hops, .bool s.good, .slice A s.table.length cap, .int .i64 s.st, .int .i64 s.sn, .int .i64 s.life]) rfl (wanted_yes rfl (by kernel_rfl) eg) ?_ (fun _ _ => rfl) (Ok.refl _)
      clear hF
      go_simp
    · intro a' w' hF hR
      obtain ⟨v16, hv16, e30⟩ := hF.get 16 30 (by kernel_rfl) (by kernel_rfl)
      obtain rfl : v16 = _ := hv16 _ (Ok.refl _)
      obtain ⟨v17, hv17, e31⟩ := hF.get 17 31 (by kernel_rfl) (by kernel_rfl)
      obtain rfl : v17 = _ := hv17 _ (Ok.refl _)
      obtain ⟨vg, hvg, eg⟩ := hF.get 12 26 (by kernel_rfl) (by kernel_rfl)
      obtain rfl : vg = _ := hvg _ (Ok.refl _)
      refine wpOp_callG (f := 15) (args := #[parV p, .agg #[.int .i64 s.lo, .int .i64 s.hi, .int .i64 s.time, .bool s.set, .int .i64 s.held, .int .i64 s.hops, .bool s.good, .slice A s.table.length cap, .int .i64 s.st, .int .i64 s.sn, .int .i64 s.life]]) rfl (wanted_yes rfl (by kernel_rfl) eg) ?_ ((KP.out _).mono ?_)
      · go_simp
      · rintro e w2 ⟨rfl, hb2⟩; exact ⟨_, rfl, fun _ _ => rfl, hb2⟩
    · intro a' w' hF hR
      obtain ⟨v15, hv15, e29⟩ := hF.get 15 29 (by kernel_rfl) (by kernel_rfl)
      obtain rfl : v15 = _ := hv15 _ (Ok.refl _)
      obtain ⟨v18, hv18, e32⟩ := hF.get 18 32 (by kernel_rfl) (by kernel_rfl)
      obtain rfl : v18 = _ := hv18 _ (Ok.refl _)
      obtain ⟨vg, hvg, eg⟩ := hF.get 12 26 (by kernel_rfl) (by kernel_rfl)
      obtain rfl : vg = _ := hvg _ (Ok.refl _)
      refine wpOp_runG (v := .bool true) rfl (wanted_yes rfl (by kernel_rfl) eg) ?_ (fun _ _ => rfl) (Ok.refl _)
      clear hF
      go_simp
    · intro a' w' hF hR
      obtain ⟨v12, hv12, e26⟩ := hF.get 12 26 (by kernel_rfl) (by kernel_rfl)
      obtain rfl : v12 = _ := hv12 _ (Ok.refl _)
      obtain ⟨v19, hv19, e33⟩ := hF.get 19 33 (by kernel_rfl) (by kernel_rfl)
      obtain rfl : v19 = _ := hv19 _ (Ok.refl _)
      refine wpOp_run (v := .bool true) rfl rfl ?_ (fun _ _ => rfl) (Ok.refl _)
      clear hF
      go_simp
    · intro a' w' hF hR
      obtain ⟨v20, hv20, e34⟩ := hF.get 20 34 (by kernel_rfl) (by kernel_rfl)
      obtain rfl : v20 = _ := hv20 _ (Ok.refl _)
      refine wpOp_run (v := .bool true) rfl rfl ?_ (fun _ _ => rfl) (Ok.refl _)
      clear hF
      go_simp
    · intro a' w' hF hR
      have e2 : a'.tmps[2]? = some (.pointer (some ⟨B, 0, none⟩)) := hF.slot 2 (by kernel_rfl) rfl
      obtain ⟨vg, hvg, eg⟩ := hF.get 21 35 (by kernel_rfl) (by kernel_rfl)
      obtain rfl : vg = _ := hvg _ (Ok.refl _)
      obtain ⟨c0, c1, c2, c3, c4, c5, c6, c7, c8, c9, c10, c11⟩ := (HP.out _ hR).pars
      refine wpOp_runG (v := parV p) rfl (wanted_yes rfl (by kernel_rfl) eg) ?_ (fun _ _ => rfl) (Ok.refl _)
      clear hF
      go_simp
    · intro a' w' hF hR
      have e3 : a'.tmps[3]? = some (.pointer (some ⟨G, 0, none⟩)) := hF.slot 3 (by kernel_rfl) rfl
      obtain ⟨vg, hvg, eg⟩ := hF.get 21 35 (by kernel_rfl) (by kernel_rfl)
      obtain rfl : vg = _ := hvg _ (Ok.refl _)
      refine wpOp_runG (v := .pointer (some ⟨G, 4, none⟩)) rfl (wanted_yes rfl (by kernel_rfl) eg) ?_ (fun _ _ => rfl) (Ok.refl _)
      clear hF
      go_simp
    · intro a' w' hF hR
      obtain ⟨v23, hv23, e37⟩ := hF.get 23 37 (by kernel_rfl) (by kernel_rfl)
      obtain rfl : v23 = _ := hv23 _ (Ok.refl _)
      obtain ⟨vg, hvg, eg⟩ := hF.get 21 35 (by kernel_rfl) (by kernel_rfl)
      obtain rfl : vg = _ := hvg _ (Ok.refl _)
      obtain ⟨s0, s1, s2, s3, s4, s5, s6, s7, s8, s9, s10⟩ := (HS.out _ hR).sta
      have hSl := (HS.out _ hR).lt
      refine wpOp_runG (v := .int .i64 s.held) rfl (wanted_yes rfl (by kernel_rfl) eg) ?_ (fun _ _ => rfl) (Ok.refl _)
      clear hF
      go_simp
    · intro a' w' hF hR
      obtain ⟨v22, hv22, e36⟩ := hF.get 22 36 (by kernel_rfl) (by kernel_rfl)
      obtain rfl : v22 = _ := hv22 _ (Ok.refl _)
      obtain ⟨v24, hv24, e38⟩ := hF.get 24 38 (by kernel_rfl) (by kernel_rfl)
      obtain rfl : v24 = _ := hv24 _ (Ok.refl _)
      obtain ⟨vg, hvg, eg⟩ := hF.get 21 35 (by kernel_rfl) (by kernel_rfl)
      obtain rfl : vg = _ := hvg _ (Ok.refl _)
      refine wpOp_callG (f := 16) (args := #[parV p, .int .i64 s.held]) rfl (wanted_yes rfl (by kernel_rfl) eg) ?_ ((KF.out _).mono ?_)
      · go_simp
      · rintro e w2 ⟨rfl, hb2⟩; exact ⟨_, rfl, fun _ _ => rfl, hb2⟩
    · intro a' w' hF hR
      have e2 : a'.tmps[2]? = some (.pointer (some ⟨B, 0, none⟩)) := hF.slot 2 (by kernel_rfl) rfl
      obtain ⟨vg, hvg, eg⟩ := hF.get 21 35 (by kernel_rfl) (by kernel_rfl)
      obtain rfl : vg = _ := hvg _ (Ok.refl _)
      obtain ⟨c0, c1, c2, c3, c4, c5, c6, c7, c8, c9, c10, c11⟩ := (HP.out _ hR).pars
      refine wpOp_runG (v := parV p) rfl (wanted_yes rfl (by kernel_rfl) eg) ?_ (fun _ _ => rfl) (Ok.refl _)
      clear hF
      go_simp
    · intro a' w' hF hR
      have e3 : a'.tmps[3]? = some (.pointer (some ⟨G, 0, none⟩)) := hF.slot 3 (by kernel_rfl) rfl
      obtain ⟨vg, hvg, eg⟩ := hF.get 21 35 (by kernel_rfl) (by kernel_rfl)
      obtain rfl : vg = _ := hvg _ (Ok.refl _)
      refine wpOp_runG (v := .pointer (some ⟨G, 4, none⟩)) rfl (wanted_yes rfl (by kernel_rfl) eg) ?_ (fun _ _ => rfl) (Ok.refl _)
      clear hF
      go_simp
    · intro a' w' hF hR
      obtain ⟨v27, hv27, e41⟩ := hF.get 27 41 (by kernel_rfl) (by kernel_rfl)
      obtain rfl : v27 = _ := hv27 _ (Ok.refl _)
      obtain ⟨vg, hvg, eg⟩ := hF.get 21 35 (by kernel_rfl) (by kernel_rfl)
      obtain rfl : vg = _ := hvg _ (Ok.refl _)
      obtain ⟨s0, s1, s2, s3, s4, s5, s6, s7, s8, s9, s10⟩ := (HS.out _ hR).sta
      have hSl := (HS.out _ hR).lt
      refine wpOp_runG (v := .int .i64 s.held) rfl (wanted_yes rfl (by kernel_rfl) eg) ?_ (fun _ _ => rfl) (Ok.refl _)
      clear hF
      go_simp
    · intro a' w' hF hR
      obtain ⟨v26, hv26, e40⟩ := hF.get 26 40 (by kernel_rfl) (by kernel_rfl)
      obtain rfl : v26 = _ := hv26 _ (Ok.refl _)
      obtain ⟨v28, hv28, e42⟩ := hF.get 28 42 (by kernel_rfl) (by kernel_rfl)
      obtain rfl : v28 = _ := hv28 _ (Ok.refl _)
      obtain ⟨vg, hvg, eg⟩ := hF.get 21 35 (by kernel_rfl) (by kernel_rfl)
      obtain rfl : vg = _ := hvg _ (Ok.refl _)
      refine wpOp_callG (f := 17) (args := #[parV p, .int .i64 s.held]) rfl (wanted_yes rfl (by kernel_rfl) eg) ?_ ((KG.out _).mono ?_)
      · go_simp
      · rintro e w2 ⟨rfl, hb2⟩; exact ⟨_, rfl, fun _ _ => rfl, hb2⟩
    · intro a' w' hF hR
      obtain ⟨v25, hv25, e39⟩ := hF.get 25 39 (by kernel_rfl) (by kernel_rfl)
      obtain rfl : v25 = _ := hv25 _ (Ok.refl _)
      obtain ⟨v29, hv29, e43⟩ := hF.get 29 43 (by kernel_rfl) (by kernel_rfl)
      obtain rfl : v29 = _ := hv29 _ (Ok.refl _)
      obtain ⟨vg, hvg, eg⟩ := hF.get 21 35 (by kernel_rfl) (by kernel_rfl)
      obtain rfl : vg = _ := hvg _ (Ok.refl _)
      refine wpOp_runG (v := .bool true) rfl (wanted_yes rfl (by kernel_rfl) eg) ?_ (fun _ _ => rfl) (Ok.refl _)
      clear hF
      go_simp
    · intro a' w' hF hR
      obtain ⟨v21, hv21, e35⟩ := hF.get 21 35 (by kernel_rfl) (by kernel_rfl)
      obtain rfl : v21 = _ := hv21 _ (Ok.refl _)
      obtain ⟨v30, hv30, e44⟩ := hF.get 30 44 (by kernel_rfl) (by kernel_rfl)
      obtain rfl : v30 = _ := hv30 _ (Ok.refl _)
      refine wpOp_run (v := .bool true) rfl rfl ?_ (fun _ _ => rfl) (Ok.refl _)
      clear hF
      go_simp
    · intro a' w' hF hR
      obtain ⟨v31, hv31, e45⟩ := hF.get 31 45 (by kernel_rfl) (by kernel_rfl)
      obtain rfl : v31 = _ := hv31 _ (Ok.refl _)
      refine wpOp_run (v := .bool true) rfl rfl ?_ (fun _ _ => rfl) (Ok.refl _)
      clear hF
      go_simp
    intro vs w8 hV hR
    have e32 : vs 32 = .bool true := hV 32 (by decide) _ (Ok.refl _)
    have hok := HOK.out.trans ((Ok.refl WA).drew.trans hR)
    clear hV HA HT HP HS HX HOK KS KX KE KO KP KF KG
    simp only [putFrom, e32]
    simp only [Act.put, List.setIfInBounds_toArray, List.set_cons_zero, List.set_cons_succ]
    go_wp2_with fail
    go_ret
    exact ⟨rfl, hok⟩
theorem walk (w : World) (p : Par) (wp : ParWf p) (s : Sta) (A : Option Addr) (cap : Nat) (hA : PairsAt w A s.table) (hcs : s.table.length ≤ cap) (hms : cap ≤ maxLen) (ws : StaWf s) :
    Calls Try.prog 3 #[parV p, staV s A cap] w fun e w' => e = .returned (.bool true) ∧ Below w.heap.size w w' :=
  walkF front21 w p s A cap hA (Nat.le_trans hcs (Nat.le_trans hms (by decide)))
theorem own : ownKnob Try.prog.godebug = none := by kernel_rfl
theorem laidOut : laidOutB Try.prog = true := by kernel_rfl
set_option maxRecDepth 100000 in
theorem lifted (os : Os) (started : os.Started) (H : Type) (enc : TypeId × Value → H) :
    ReturnsInHanded {} Try.checked os 3 .any (Rows.healthSanesSpec.pre6 enc Try.prog Try.f3 Rows.healthSanesRow.domain false) (Rows.healthSanesSpec.post enc Try.prog Try.f3 false true false false) := by
  refine returnsInHanded_of_change (C := Try.checked) own started (by kernel_rfl) Try.func3
    (ChangeSpec.witness6 (enc := enc) (C := Try.checked) false ⟨#[], #[.agg #[.int .i64 0, .int .i64 0, .int .i64 0, .int .i64 0, .int .i64 0, .int .i64 0, .int .i64 0, .int .i64 0, .int .i64 0, .int .i64 0, .int .i64 0, .int .i64 0], .agg #[.int .i64 0, .int .i64 0, .int .i64 0, .bool false, .int .i64 0, .int .i64 0, .bool false, .slice none 0 0, .int .i64 0, .int .i64 0, .int .i64 0]], []⟩ 8 (by kernel_rfl) (by kernel_rfl) (by kernel_rfl) (by kernel_rfl)) ?_
  intro W base args ds gs before hval0 hW _ _
  have hval : ∀ (j : Nat) t v, Try.f3.params[j]? = some t → args[j]? = some v → Value.okWide Try.prog W .any base t v := hval0
  have hW' := hW
  obtain ⟨p, q, hA, hV, rfl, _, _⟩ := hW
  obtain ⟨rfl, rfl⟩ := trodVars_none hV
  replace hA : DataW.TrodAll enc Try.prog W 0 (fun _ => true) true Try.f3.params.toList args.toList ds p := hA
  rw [Try.params3] at hA hval
  obtain ⟨v0, vs0, d0, ds0, p0, q0, hargs, rfl, rfl, h0, r0⟩ := trodAll_cons hA
  obtain ⟨v1, vs1, d1, ds1, p1, q1, rfl, rfl, rfl, h1, r1⟩ := trodAll_cons r0
  obtain ⟨rfl, rfl, rfl⟩ := trodAll_nil r1
  obtain rfl : args = #[v0, v1] := by cases args; simp_all
  obtain ⟨p0, rfl, wp0⟩ := open_par Try.underlying23 rfl (by kernel_rfl) (by kernel_rfl) (by kernel_rfl) (hval 0 23 v0 rfl rfl) h0
  obtain ⟨s1, A1, c1, rfl, hA1, hc1, hm1, w1⟩ := open_sta (hval 1 30 v1 rfl rfl) h1
  refine (walk W p0 wp0 s1 A1 c1 hA1 hc1 hm1 w1).mono fun e W' ⟨he, hb⟩ => ?_
  subst he
  exact ⟨_, rfl, law_post hW' laidOut (by rw [Try.params3]; exact params_ok (by kernel_rfl)) rfl (by kernel_rfl) Try.underlying4 rfl rfl rfl hb⟩
theorem over : Rows.healthSanesRow.holds Try.pinned (OpenSpec.ofChange Rows.healthSanesSpec) :=
  OpenClaim.holds_of_wide 3 Try.f3 rfl rfl rfl rfl rfl rfl rfl ⟨rfl, rfl, rfl, rfl, rfl⟩ rfl rfl rfl rfl rfl (by kernel_rfl) Try.func3 (by kernel_rfl)
    (of_decide_eq_true (by kernel_rfl)) (by unfold Func.isWrapper; first | (rw [if_pos (by decide +kernel)]; kernel_rfl) | (rw [if_neg (by decide +kernel)]; exact ⟨rfl, rfl⟩))
    (fun os started H enc _ => lifted os started H enc)
theorem proved : Rows.HealthSanesSaid := over
end Go.Proofs.Ytlclfonlidcfiaa.healthSanes
