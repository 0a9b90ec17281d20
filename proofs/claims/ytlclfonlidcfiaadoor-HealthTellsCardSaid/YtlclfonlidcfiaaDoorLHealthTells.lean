/- HealthTells: for every fabric and state the law answers true: Health, Now, Interval, UTC and Pulse answer what the document says; a nil Front tells nothing. The row lists the table of months' lengths, tied to the program's text. No other condition. -/
import Derived.Test.YtlclfonlidcfiaaDoorC21u
import Derived.Test.YtlclfonlidcfiaaDoorC17e
import Derived.Test.YtlclfonlidcfiaaDoorW06
namespace Go.Proofs.YtlclfonlidcfiaaDoor.healthTells
open Go.ChangeShapes Go.WideShapes Go.ChangeAt Go.RowKit
set_option linter.unusedVariables false
set_option maxRecDepth 100000
attribute [local go_sem ↓] Go.wp_at_zero Go.wp_at_succ
/-- What each operation leaves. -/
def VMTelP (B G N0 : Nat) (p : Par) (s : Sta) (nm : Int) (w : World) (v : Value) : Nat → Prop
  | 0 => v = .pointer (some ⟨G, 2, none⟩)
  | 1 => v = .int .i64 s.time
  | 2 => v = .pointer (some ⟨G, 0, none⟩)
  | 3 => v = spanV s.lo s.hi
  | 4 => v = parV p
  | 5 => v = .pointer (some ⟨G, 2, none⟩)
  | 6 => v = .int .i64 s.time
  | 7 => v = .int .i64 nm
  | 8 => ∃ g : Nat, v = .pointer (some ⟨g, 0, none⟩) ∧ Own w g #[.int .i64 0, .int .i64 0] ∧ N0 ≤ g
  | 9 => v = .int .i64 0
  | 10 => v = .int .i64 s.time
  | _ => v = .bool true
/-- It stays so. -/
def VCTelP (B G N0 : Nat) (p : Par) (s : Sta) (nm : Int) (i : Nat) (v : Value) (w : World) : Prop := ∀ w', Ok w w' → VMTelP B G N0 p s nm w' v i
/-- What each operation leaves. -/
def VMTelQ (B G F g9 g11 g13 gi : Nat) (p : Par) (s : Sta) (A : Option Addr) (cap : Nat) (h E NT a b NU q y mo dd hh mi sc : Int) (w : World) (v : Value) : Nat → Prop
  | 0 => v = .pointer (some ⟨F, 0, none⟩)
  | 1 => v = .int .i64 h
  | 2 => v = .int .i64 h
  | 3 => v = .bool false
  | 4 => v = .bool false
  | 5 => v = .int .i64 E
  | 6 => v = .int .i64 E
  | 7 => v = .bool false
  | 8 => v = .bool false
  | 9 => v = .bool false
  | 10 => v = .int .i64 E
  | 11 => v = .int .i64 E
  | 12 => v = .bool false
  | 13 => v = .bool false
  | 14 => v = .bool false
  | 15 => v = .int .i64 E
  | 16 => v = .int .i64 E
  | 17 => v = .bool false
  | 18 => v = .bool false
  | 19 => v = .bool false
  | 20 => v = .int .i64 NT
  | 21 => v = .int .i64 NT
  | 22 => v = .bool false
  | 23 => v = .bool false
  | 24 => v = .bool false
  | 25 => v = spanV a b
  | 26 => v = spanV a b
  | 27 => v = .bool false
  | 28 => v = .bool false
  | 29 => v = .bool false
  | 30 => v = .int .i64 NU
  | 31 => v = .int .i64 NU
  | 32 => v = .bool false
  | 33 => v = .bool false
  | 34 => v = .bool false
  | 35 => v = .agg #[.int .i64 y, .int .i64 mo, .int .i64 dd, .int .i64 hh, .int .i64 mi, .int .i64 sc]
  | 36 => v = .agg #[.int .i64 y, .int .i64 mo, .int .i64 dd, .int .i64 hh, .int .i64 mi, .int .i64 sc]
  | 37 => v = .bool false
  | 38 => v = .bool false
  | 39 => v = .bool false
  | 40 => v = .int .i64 q
  | 41 => v = .int .i64 q
  | 42 => v = .bool false
  | 43 => v = .bool false
  | 44 => v = .bool false
  | 45 => v = .pointer (some ⟨F, 0, none⟩)
  | 46 => v = .pointer (some ⟨F, 0, none⟩)
  | 47 => v = .pointer (some ⟨F, 12, none⟩)
  | 48 => v = .agg #[.int .i64 s.lo, .int .i64 s.hi, .int .i64 s.time, .bool s.set, .int .i64 s.held, .int .i64 s.hops, .bool s.good, .slice A s.table.length cap, .int .i64 s.st, .int .i64 s.sn, .int .i64 s.life]
  | 49 => v = .agg #[.int .i64 s.lo, .int .i64 s.hi, .int .i64 s.time, .bool s.set, .int .i64 s.held, .int .i64 s.hops, .bool s.good, .slice A s.table.length cap, .int .i64 s.st, .int .i64 s.sn, .int .i64 s.life]
  | 50 => v = .bool true
  | 51 => v = .bool false
  | 52 => v = .bool false
  | _ => v = .bool true
/-- It stays so. -/
def VCTelQ (B G F g9 g11 g13 gi : Nat) (p : Par) (s : Sta) (A : Option Addr) (cap : Nat) (h E NT a b NU q y mo dd hh mi sc : Int) (i : Nat) (v : Value) (w : World) : Prop := ∀ w', Ok w w' → VMTelQ B G F g9 g11 g13 gi p s A cap h E NT a b NU q y mo dd hh mi sc w' v i
set_option maxHeartbeats 12800000 in
theorem walkF (w : World) (hT : Tab w) (p : Par) (s : Sta) (A : Option Addr) (cap : Nat) (hA : PairsAt w A s.table) (hl : s.table.length ≤ 9223372036854775807) :
    Calls Tryd.prog 3 #[parV p, staV s A cap] w fun e w' => e = .returned (.bool true) ∧ Ok w w' := by
  have KAL := Lib.hid fun w => law21AliveF front21 w
  have KLO := Lib.hid fun w => law21Long s s A A cap cap w
  obtain ⟨lg, hlg⟩ : ∃ b, decide (256 < s.table.length ∨ 256 < s.table.length) = b := ⟨_, rfl⟩
  rw [hlg] at KLO
  clear hlg
  have KF := Lib.hid fun w => ref21Of p s A cap w
  have KN := Lib.hid fun G w h => frontNow G p s A cap w h
  have KI := Lib.hid fun G w h => frontInterval G p s A cap w h
  have KC := Lib.hid fun G w hT hA h => frontUTC G p s A cap w hT hA hl h
  have KR := Lib.hid fun w hA => ref21UTC p s A cap w hA hl
  have KP := Lib.hid fun G w h => frontPulse G p s A cap w h
  have KU := Lib.hid fun w => refNumber p s.time w
  have KH := Lib.hid fun G w h => frontHealth G p s A cap w h
  have KE := Lib.hid fun w h => ref21Same s s A A cap cap w h h hl hl
  rw [decide_eq_true (rfl : s = s)] at KE
  have KX : Hid (∀ w, Calls Tryd.prog 16 #[.pointer none, .agg #[.int .i64 0, .int .i64 0]] w fun e w' => e = .returned (.tuple #[]) ∧ Ok w w') := Lib.hid fun w => nilListen (0, 0) w
  have KY : Hid (∀ w, Calls Tryd.prog 17 #[.pointer none, .int .i64 1, .agg #[.int .i64 0, .int .i64 0, .int .i64 0, .bool false, .int .i64 0, .int .i64 0, .bool false, .slice none 0 0, .int .i64 0, .int .i64 0, .int .i64 0]] w fun e w' => e = .returned (.tuple #[]) ∧ Ok w w') := Lib.hid fun w => nilStep 1 zeroSta none 0 w
  obtain ⟨⟨⟨y, mo, dd, hh, mi, sc⟩, q⟩, hU⟩ : ∃ U, Health.utc p s = U := ⟨_, rfl⟩
  rw [hU] at KC KR
  unfold lbV at KC KR
  simp only at KC KR
  clear hU
  obtain ⟨nm, hnm⟩ : ∃ r, Pulse.num p.pulse s.time = r := ⟨_, rfl⟩
  rw [hnm] at KP KU
  obtain ⟨h, hh0⟩ : ∃ r, Health.of p s = r := ⟨_, rfl⟩
  rw [hh0] at KF KN KI KP KH
  obtain ⟨E, hE⟩ : ∃ r, (if h = 0 then (20 : Int) else 0) = r := ⟨_, rfl⟩
  obtain ⟨NT, hNT⟩ : ∃ r, (if h = 0 then 0 else s.time) = r := ⟨_, rfl⟩
  obtain ⟨NU, hNU⟩ : ∃ r, (if h = 0 then 0 else nm) = r := ⟨_, rfl⟩
  obtain ⟨a, ha⟩ : ∃ r, (if h = 0 then 0 else s.lo) = r := ⟨_, rfl⟩
  obtain ⟨b, hb⟩ : ∃ r, (if h = 0 then 0 else s.hi) = r := ⟨_, rfl⟩
  rw [hE] at KN KI KP
  rw [hNT] at KN
  rw [ha, hb] at KI
  rw [hNU] at KP
  have HE := Lib.hid hE
  have HNT := Lib.hid hNT
  have HNU := Lib.hid hNU
  have Ha := Lib.hid ha
  have Hb := Lib.hid hb
  have HA0 := Lib.hid hA
  have hz : ∀ w, Sem.run Tryd.prog (zeroValue 30) w = .ok (.agg #[.int .i64 0, .int .i64 0, .int .i64 0, .bool false, .int .i64 0, .int .i64 0, .bool false, .slice none 0 0, .int .i64 0, .int .i64 0, .int .i64 0]) w := fun w => by kernel_rfl
  clear hE hNT hNU ha hb hh0 hnm hl
  have hP := (Own.new w (parCells p) 23 rfl).alloc (.cells (staCells s A cap) 30)
  have hS := Own.new (w.alloc (.cells (parCells p) 23)) (staCells s A cap) 30 (g := w.heap.size + 1) (by simp)
  have hok := ((Ok.refl w).alloc (.cells (parCells p) 23)).alloc (.cells (staCells s A cap) 30)
  replace hT := hT.next hok
  replace hA := hA.below hok
  go_enter Tryd.func3, Tryd.ntmps3
  go_upto_region 1 with fail
  change Code.wp _ _ _ _ ((w.alloc (.cells (parCells p) 23)).alloc (.cells (staCells s A cap) 30))
  generalize (w.alloc (.cells (parCells p) 23)).alloc (.cells (staCells s A cap) 30) = W at hP hS hok hT hA ⊢
  obtain ⟨G, hG⟩ : ∃ r, w.heap.size + 1 = r := ⟨_, rfl⟩
  obtain ⟨B, hB⟩ : ∃ r, w.heap.size = r := ⟨_, rfl⟩
  rw [hG] at hS
  rw [hB] at hP
  rw [hG, hB]
  clear hG hB
  go_upto_region 3 with (go_at_call 4; (with_reducible refine (KAL.out _).mono ?_); rintro e w1 ⟨rfl, hb1⟩; replace hP := hP.next hb1; replace hS := hS.next hb1; replace hT := hT.next hb1; replace hA := hA.below hb1; replace hok := hok.trans hb1; clear hb1)
  obtain ⟨s0, s1, s2, s3, s4, s5, s6, s7, s8, s9, s10⟩ := hS.sta; have hsl := hS.lt
  cases lg with
  | true =>
    go_wp2_with (go_at_call 5; refine (KLO.out _).mono ?_; rintro e w2 ⟨rfl, hb1⟩; replace hok := hok.trans hb1; clear hb1)
    go_ret
    exact ⟨rfl, hok⟩
  | false =>
    go_upto_region 5 with (go_at_call 5; refine (KLO.out _).mono ?_; rintro e w2 ⟨rfl, hb1⟩; clear s0 s1 s2 s3 s4 s5 s6 s7 s8 s9 s10 hsl; replace hP := hP.next hb1; replace hS := hS.next hb1; replace hT := hT.next hb1; replace hA := hA.below hb1; replace hok := hok.trans hb1; clear hb1; obtain ⟨s0, s1, s2, s3, s4, s5, s6, s7, s8, s9, s10⟩ := hS.sta; have hsl := hS.lt; obtain ⟨c0, c1, c2, c3, c4, c5, c6, c7, c8, c9, c10, c11⟩ := hP.pars; have hPl := hP.lt)
    go_upto_region 6 with fail
    clear s0 s1 s2 s3 s4 s5 s6 s7 s8 s9 s10 hsl
    clear c0 c1 c2 c3 c4 c5 c6 c7 c8 c9 c10 c11 hPl
    change Code.wp _ _ _ _ (w2.alloc (.cells (frontCells p s A cap) 35))
    have hF := Own.new w2 (frontCells p s A cap) 35 rfl
    have hb1 := (Ok.refl w2).alloc (.cells (frontCells p s A cap) 35)
    replace hP := hP.next hb1
    replace hS := hS.next hb1
    replace hT := hT.next hb1
    replace hA := hA.below hb1
    replace hok := hok.trans hb1
    clear hb1
    generalize w2.alloc (.cells (frontCells p s A cap) 35) = W6 at hP hS hT hA hok hF ⊢
    generalize w2.heap.size = F at hF ⊢
    obtain ⟨s0, s1, s2, s3, s4, s5, s6, s7, s8, s9, s10⟩ := hS.sta; have hsl := hS.lt
    obtain ⟨c0, c1, c2, c3, c4, c5, c6, c7, c8, c9, c10, c11⟩ := hP.pars; have hPl := hP.lt
    go_upto_region 7 with (go_at_call 6; refine (KF.out _).mono ?_; rintro e w3 ⟨rfl, hb1⟩; clear s0 s1 s2 s3 s4 s5 s6 s7 s8 s9 s10 hsl; clear c0 c1 c2 c3 c4 c5 c6 c7 c8 c9 c10 c11 hPl; replace hP := hP.next hb1; replace hS := hS.next hb1; replace hF := hF.next hb1; replace hT := hT.next hb1; replace hA := hA.below hb1; replace hok := hok.trans hb1; clear hb1)
    go_upto_region 8 with (go_at_call 7; refine (KN.out _ _ hF).mono ?_; rintro e w4 ⟨rfl, hb1⟩; replace hP := hP.next hb1; replace hS := hS.next hb1; replace hF := hF.next hb1; replace hT := hT.next hb1; replace hA := hA.below hb1; replace hok := hok.trans hb1; clear hb1)
    go_upto_region 9 with (go_at_call 8; refine (KI.out _ _ hF).mono ?_; rintro e w5 ⟨rfl, hb1⟩; replace hP := hP.next hb1; replace hS := hS.next hb1; replace hF := hF.next hb1; replace hT := hT.next hb1; replace hA := hA.below hb1; replace hok := hok.trans hb1; clear hb1)
    change Code.wp _ _ _ _ (w5.alloc (.cells #[.int .i64 a, .int .i64 b] 25))
    have hg9 := Own.new w5 #[.int .i64 a, .int .i64 b] 25 rfl
    have hb1 := (Ok.refl w5).alloc (.cells #[.int .i64 a, .int .i64 b] 25)
    replace hP := hP.next hb1
    replace hS := hS.next hb1
    replace hF := hF.next hb1
    replace hT := hT.next hb1
    replace hA := hA.below hb1
    replace hok := hok.trans hb1
    clear hb1
    generalize w5.alloc (.cells #[.int .i64 a, .int .i64 b] 25) = W9 at hP hS hT hA hok hF hg9 ⊢
    generalize w5.heap.size = g9 at hg9 ⊢
    go_upto_region 10 with (go_at_call 9; refine (KC.out _ _ hT hA hF).mono ?_; rintro e w6 ⟨rfl, hb1⟩; replace hP := hP.next hb1; replace hS := hS.next hb1; replace hF := hF.next hb1; replace hT := hT.next hb1; replace hA := hA.below hb1; replace hg9 := hg9.next hb1; replace hok := hok.trans hb1; clear hb1)
    change Code.wp _ _ _ _ (w6.alloc (.cells #[.int .i64 y, .int .i64 mo, .int .i64 dd, .int .i64 hh, .int .i64 mi, .int .i64 sc] 43))
    have hg11 := Own.new w6 #[.int .i64 y, .int .i64 mo, .int .i64 dd, .int .i64 hh, .int .i64 mi, .int .i64 sc] 43 rfl
    have hb1 := (Ok.refl w6).alloc (.cells #[.int .i64 y, .int .i64 mo, .int .i64 dd, .int .i64 hh, .int .i64 mi, .int .i64 sc] 43)
    replace hP := hP.next hb1
    replace hS := hS.next hb1
    replace hF := hF.next hb1
    replace hT := hT.next hb1
    replace hA := hA.below hb1
    replace hg9 := hg9.next hb1
    replace hok := hok.trans hb1
    clear hb1
    generalize w6.alloc (.cells #[.int .i64 y, .int .i64 mo, .int .i64 dd, .int .i64 hh, .int .i64 mi, .int .i64 sc] 43) = WA at hP hS hT hA hok hF hg9 hg11 ⊢
    generalize w6.heap.size = g11 at hg11 ⊢
    obtain ⟨s0, s1, s2, s3, s4, s5, s6, s7, s8, s9, s10⟩ := hS.sta; have hsl := hS.lt
    obtain ⟨c0, c1, c2, c3, c4, c5, c6, c7, c8, c9, c10, c11⟩ := hP.pars; have hPl := hP.lt
    go_upto_region 11 with (go_at_call 10; refine (KR.out _ hA).mono ?_; rintro e w7 ⟨rfl, hb1⟩; clear s0 s1 s2 s3 s4 s5 s6 s7 s8 s9 s10 hsl; clear c0 c1 c2 c3 c4 c5 c6 c7 c8 c9 c10 c11 hPl; replace hP := hP.next hb1; replace hS := hS.next hb1; replace hF := hF.next hb1; replace hT := hT.next hb1; replace hA := hA.below hb1; replace hg9 := hg9.next hb1; replace hg11 := hg11.next hb1; replace hok := hok.trans hb1; clear hb1)
    change Code.wp _ _ _ _ (w7.alloc (.cells #[.int .i64 y, .int .i64 mo, .int .i64 dd, .int .i64 hh, .int .i64 mi, .int .i64 sc] 43))
    have hg13 := Own.new w7 #[.int .i64 y, .int .i64 mo, .int .i64 dd, .int .i64 hh, .int .i64 mi, .int .i64 sc] 43 rfl
    have hb1 := (Ok.refl w7).alloc (.cells #[.int .i64 y, .int .i64 mo, .int .i64 dd, .int .i64 hh, .int .i64 mi, .int .i64 sc] 43)
    replace hP := hP.next hb1
    replace hS := hS.next hb1
    replace hF := hF.next hb1
    replace hT := hT.next hb1
    replace hA := hA.below hb1
    replace hg9 := hg9.next hb1
    replace hg11 := hg11.next hb1
    replace hok := hok.trans hb1
    clear hb1
    generalize w7.alloc (.cells #[.int .i64 y, .int .i64 mo, .int .i64 dd, .int .i64 hh, .int .i64 mi, .int .i64 sc] 43) = WB at hP hS hT hA hok hF hg9 hg11 hg13 ⊢
    generalize w7.heap.size = g13 at hg13 ⊢
    go_upto_region 12 with (go_at_call 11; refine (KP.out _ _ hF).mono ?_; rintro e W12 ⟨rfl, hb1⟩; replace hP := hP.next hb1; replace hS := hS.next hb1; replace hF := hF.next hb1; replace hT := hT.next hb1; replace hA := hA.below hb1; replace hg9 := hg9.next hb1; replace hg11 := hg11.next hb1; replace hg13 := hg13.next hb1; replace hok := hok.trans hb1; clear hb1)
    obtain ⟨N0, hN0⟩ : ∃ r, W12.drew.heap.size = r := ⟨_, rfl⟩
    have HN := Lib.hid hN0
    have HP := Lib.hid fun W' (k : Ok W12.drew W') => hP.drew.next k
    have HS := Lib.hid fun W' (k : Ok W12.drew W') => hS.drew.next k
    have HS12 := Lib.hid hS
    have HF12 := Lib.hid hF
    have H9 := Lib.hid hg9
    have H11 := Lib.hid hg11
    have H13 := Lib.hid hg13
    have HA12 := Lib.hid hA
    have HOK12 := Lib.hid hok
    clear hP hS hF hg9 hg11 hg13 hA hok hT hN0 KAL KLO KF KN KI KC KR KP
    refine wp_region_facts_chain (by kernel_rfl) 6 180 rfl (VCTelP B G N0 p s nm) Ok _ 11 rfl rfl (by decide) (by kernel_rfl) (by kernel_rfl) (by kernel_rfl) (by kernel_rfl) (fun i v w w' h k w'' k' => h w'' (k.trans k')) (fun a b c => Ok.trans) (Ok.refl _) [some 62, some 63, some 64, some 65, some 66, some 67, some 68, some 69, some 19, some 17, some 18] rfl _ rfl ⟨?_, ?_, ?_, ?_, ?_, ?_, ?_, ?_, ?_, ?_, ?_, trivial⟩ ?_
    · intro a' w' hF hR
      have e3 : a'.tmps[3]? = some (.pointer (some ⟨G, 0, none⟩)) := hF.slot 3 (by kernel_rfl) rfl
      refine wpOp_run (v := .pointer (some ⟨G, 2, none⟩)) rfl rfl ?_ (fun _ _ => rfl) (Ok.refl _)
      clear hF
      go_simp
    · intro a' w' hF hR
      obtain ⟨v0, hv0, e62⟩ := hF.get 0 62 (by kernel_rfl) (by kernel_rfl)
      obtain rfl : v0 = _ := hv0 _ (Ok.refl _)
      obtain ⟨s0, s1, s2, s3, s4, s5, s6, s7, s8, s9, s10⟩ := (HS.out _ hR).sta
      have hsl := (HS.out _ hR).lt
      refine wpOp_run (v := .int .i64 s.time) rfl rfl ?_ (fun _ _ => rfl) (Ok.refl _)
      clear hF
      go_simp
    · intro a' w' hF hR
      have e3 : a'.tmps[3]? = some (.pointer (some ⟨G, 0, none⟩)) := hF.slot 3 (by kernel_rfl) rfl
      refine wpOp_run (v := .pointer (some ⟨G, 0, none⟩)) rfl rfl ?_ (fun _ _ => rfl) (Ok.refl _)
      clear hF
      go_simp
    · intro a' w' hF hR
      obtain ⟨v2, hv2, e64⟩ := hF.get 2 64 (by kernel_rfl) (by kernel_rfl)
      obtain rfl : v2 = _ := hv2 _ (Ok.refl _)
      obtain ⟨s0, s1, s2, s3, s4, s5, s6, s7, s8, s9, s10⟩ := (HS.out _ hR).sta
      have hsl := (HS.out _ hR).lt
      refine wpOp_run (v := spanV s.lo s.hi) rfl rfl ?_ (fun _ _ => rfl) (Ok.refl _)
      clear hF
      go_simp
    · intro a' w' hF hR
      have e2 : a'.tmps[2]? = some (.pointer (some ⟨B, 0, none⟩)) := hF.slot 2 (by kernel_rfl) rfl
      obtain ⟨c0, c1, c2, c3, c4, c5, c6, c7, c8, c9, c10, c11⟩ := (HP.out _ hR).pars
      have hPl := (HP.out _ hR).lt
      refine wpOp_run (v := parV p) rfl rfl ?_ (fun _ _ => rfl) (Ok.refl _)
      clear hF
      go_simp
    · intro a' w' hF hR
      have e3 : a'.tmps[3]? = some (.pointer (some ⟨G, 0, none⟩)) := hF.slot 3 (by kernel_rfl) rfl
      refine wpOp_run (v := .pointer (some ⟨G, 2, none⟩)) rfl rfl ?_ (fun _ _ => rfl) (Ok.refl _)
      clear hF
      go_simp
    · intro a' w' hF hR
      obtain ⟨v5, hv5, e67⟩ := hF.get 5 67 (by kernel_rfl) (by kernel_rfl)
      obtain rfl : v5 = _ := hv5 _ (Ok.refl _)
      obtain ⟨s0, s1, s2, s3, s4, s5, s6, s7, s8, s9, s10⟩ := (HS.out _ hR).sta
      have hsl := (HS.out _ hR).lt
      refine wpOp_run (v := .int .i64 s.time) rfl rfl ?_ (fun _ _ => rfl) (Ok.refl _)
      clear hF
      go_simp
    · intro a' w' hF hR
      obtain ⟨v4, hv4, e66⟩ := hF.get 4 66 (by kernel_rfl) (by kernel_rfl)
      obtain rfl : v4 = _ := hv4 _ (Ok.refl _)
      obtain ⟨v6, hv6, e68⟩ := hF.get 6 68 (by kernel_rfl) (by kernel_rfl)
      obtain rfl : v6 = _ := hv6 _ (Ok.refl _)
      clear hF
      refine wpOp_call (f := 12) (args := #[parV p, .int .i64 s.time]) rfl rfl ?_ ((KU.out _).mono ?_)
      · go_simp
      · rintro e w2 ⟨rfl, hb2⟩; exact ⟨_, rfl, fun _ _ => rfl, hb2⟩
    · intro a' w' hF hR
      have hzero : Sem.run Tryd.prog (zeroValue 25) w' = .ok (.agg #[.int .i64 0, .int .i64 0]) w' := by kernel_rfl
      refine wpOp_run (v := .pointer (some ⟨w'.heap.size, 0, none⟩)) (w' := w'.alloc (.cells #[.int .i64 0, .int .i64 0] 25)) rfl rfl ?_ (fun w'' k => ⟨_, rfl, (Own.new _ _ _ rfl).next k, (HN.out ▸ hR.size)⟩) ((Ok.refl _).alloc _)
      clear hF
      go_simp
    · intro a' w' hF hR
      refine wpOp_run (v := .int .i64 0) rfl rfl ?_ (fun _ _ => rfl) (Ok.refl _)
      clear hF
      go_simp
    · intro a' w' hF hR
      obtain ⟨v1, hv1, e63⟩ := hF.get 1 63 (by kernel_rfl) (by kernel_rfl)
      obtain rfl : v1 = _ := hv1 _ (Ok.refl _)
      refine wpOp_run (v := .int .i64 s.time) rfl rfl ?_ (fun _ _ => rfl) (Ok.refl _)
      clear hF
      go_simp
    intro vs W' hvs hR
    have e3 : vs 3 = spanV s.lo s.hi := hvs 3 (by decide) _ (Ok.refl _)
    have e7 : vs 7 = .int .i64 nm := hvs 7 (by decide) _ (Ok.refl _)
    obtain ⟨gi, e8, hi, hgi⟩ := hvs 8 (by decide) _ (Ok.refl _)
    have e9 : vs 9 = .int .i64 0 := hvs 9 (by decide) _ (Ok.refl _)
    have e10 : vs 10 = .int .i64 s.time := hvs 10 (by decide) _ (Ok.refl _)
    have k0 := (Ok.refl W12).drew.trans hR
    have hx : W12.heap.size ≤ gi := Nat.le_trans (Nat.le_of_eq HN.out) hgi
    clear hvs HP HS HN KU hgi hR
    simp only [putFrom, e3, e7, e8, e9, e10]
    simp only [Act.put, List.setIfInBounds_toArray, List.set_cons_zero, List.set_cons_succ]
    clear e3 e7 e8 e9 e10
    have z0 := hi.cell 0 (v := .int .i64 0) rfl
    have z1 := hi.cell 1 (v := .int .i64 0) rfl
    have y0 := hi.frozen 0
    have y1 := hi.frozen 1
    have hzl := hi.lt
    refine wpOp_store (w' := (W'.setCell ⟨gi, 0, none⟩ (.int .i64 s.lo)).setCell ⟨gi, 1, none⟩ (.int .i64 s.hi)) rfl rfl rfl ?_ ?_
    · go_simp
    have k2 := (k0.setCell (p := ⟨gi, 0, none⟩) hx (.int .i64 s.lo)).setCell (p := ⟨gi, 1, none⟩) hx (.int .i64 s.hi)
    have hi2 : Own ((W'.setCell ⟨gi, 0, none⟩ (.int .i64 s.lo)).setCell ⟨gi, 1, none⟩ (.int .i64 s.hi)) gi #[.int .i64 s.lo, .int .i64 s.hi] := ((hi.set 0 (.int .i64 s.lo)).set 1 (.int .i64 s.hi)).as (by simp)
    clear z0 z1 y0 y1 hzl hi k0
    generalize (W'.setCell ⟨gi, 0, none⟩ (.int .i64 s.lo)).setCell ⟨gi, 1, none⟩ (.int .i64 s.hi) = X1 at k2 hi2 ⊢
    refine wpOp_leaves (o := ⟨some 20, _, _, _, _, none⟩) (v := .int .i64 nm) (w' := X1) rfl rfl ?_ ?_
    · go_simp
    simp only [Act.put, List.setIfInBounds_toArray, List.set_cons_zero, List.set_cons_succ]
    try generalize vs 0 = x40
    try generalize vs 1 = x41
    try generalize vs 2 = x42
    try generalize vs 3 = x43
    try generalize vs 4 = x44
    try generalize vs 5 = x45
    try generalize vs 6 = x46
    try generalize vs 7 = x47
    try generalize vs 8 = x48
    try generalize vs 9 = x49
    try generalize vs 10 = x50
    clear vs
    simp only [TailFrom]
    have hS := HS12.out.next k2
    have hF := HF12.out.next k2
    have hg9 := H9.out.next k2
    have hg11 := H11.out.next k2
    have hg13 := H13.out.next k2
    have hA := HA12.out.below k2
    have hok := HOK12.out.trans k2
    have q0 : G ≠ gi ∧ F ≠ gi ∧ g9 ≠ gi ∧ g11 ≠ gi ∧ g13 ≠ gi := by have a1 := HS12.out.lt; have a2 := HF12.out.lt; have a3 := H9.out.lt; have a4 := H11.out.lt; have a5 := H13.out.lt; omega
    have hwi : w.heap.size ≤ gi := by have := HOK12.out.size; omega
    clear HS12 HF12 H9 H11 H13 HA12 HOK12 k2 hx
    go_upto_if 71 with fail
    go_cut [17, 18, 20] from 72 to 72 (fun v1 v2 v3 wx => v1 = .int .i64 E ∧ v2 = .int .i64 NT ∧ v3 = .int .i64 NU ∧ Own wx gi #[.int .i64 a, .int .i64 b] ∧ Own wx G (staCells s A cap) ∧ Own wx F (frontCells p s A cap) ∧ Own wx g9 #[.int .i64 a, .int .i64 b] ∧ Own wx g11 #[.int .i64 y, .int .i64 mo, .int .i64 dd, .int .i64 hh, .int .i64 mi, .int .i64 sc] ∧ Own wx g13 #[.int .i64 y, .int .i64 mo, .int .i64 dd, .int .i64 hh, .int .i64 mi, .int .i64 sc] ∧ PairsAt wx A s.table ∧ Ok w wx)
    case first =>
      by_cases j : h = 0
      · have e1 : (h == 0) = true := beq_iff_eq.2 j
        obtain rfl : E = 20 := by rw [← HE.out, if_pos j]
        obtain rfl : NT = 0 := by rw [← HNT.out, if_pos j]
        obtain rfl : NU = 0 := by rw [← HNU.out, if_pos j]
        obtain rfl : a = 0 := by rw [← Ha.out, if_pos j]
        obtain rfl : b = 0 := by rw [← Hb.out, if_pos j]
        clear j
        have z0 := hi2.cell 0 (v := .int .i64 s.lo) rfl
        have z1 := hi2.cell 1 (v := .int .i64 s.hi) rfl
        have y0 := hi2.frozen 0
        have y1 := hi2.frozen 1
        have hzl := hi2.lt
        go_wp2_with fail
        go_meet
        exact ⟨rfl, rfl, rfl, ((hi2.set 0 (.int .i64 0)).set 1 (.int .i64 0)).as (by simp), (hS.setOther (a := ⟨gi, 0, none⟩) q0.1 _).setOther (a := ⟨gi, 1, none⟩) q0.1 _, (hF.setOther (a := ⟨gi, 0, none⟩) q0.2.1 _).setOther (a := ⟨gi, 1, none⟩) q0.2.1 _, (hg9.setOther (a := ⟨gi, 0, none⟩) q0.2.2.1 _).setOther (a := ⟨gi, 1, none⟩) q0.2.2.1 _, (hg11.setOther (a := ⟨gi, 0, none⟩) q0.2.2.2.1 _).setOther (a := ⟨gi, 1, none⟩) q0.2.2.2.1 _, (hg13.setOther (a := ⟨gi, 0, none⟩) q0.2.2.2.2 _).setOther (a := ⟨gi, 1, none⟩) q0.2.2.2.2 _, HA0.out.below ((hok.setCell (p := ⟨gi, 0, none⟩) hwi _).setCell (p := ⟨gi, 1, none⟩) hwi _), (hok.setCell (p := ⟨gi, 0, none⟩) hwi _).setCell (p := ⟨gi, 1, none⟩) hwi _⟩
      · have e1 : (h == 0) = false := beq_eq_false_iff_ne.2 j
        obtain rfl : E = 0 := by rw [← HE.out, if_neg j]
        obtain rfl : NT = s.time := by rw [← HNT.out, if_neg j]
        obtain rfl : NU = nm := by rw [← HNU.out, if_neg j]
        obtain rfl : a = s.lo := by rw [← Ha.out, if_neg j]
        obtain rfl : b = s.hi := by rw [← Hb.out, if_neg j]
        clear j
        go_wp2_with fail
        go_meet
        exact ⟨rfl, rfl, rfl, hi2, hS, hF, hg9, hg11, hg13, hA, hok⟩
    case rest =>
    clear hi2 hS hF hg9 hg11 hg13 hA hok q0
    obtain ⟨rfl, rfl, rfl, hi2, hS, hF, hg9, hg11, hg13, hA, hok⟩ := hcut
    clear HE HNT HNU Ha Hb
    go_upto_region 15 with fail
    have HOK := Lib.hid hok
    have HS := Lib.hid fun W' (k : Ok wc.drew W') => hS.drew.next k
    have HF := Lib.hid fun W' (k : Ok wc.drew W') => hF.drew.next k
    have H9 := Lib.hid fun W' (k : Ok wc.drew W') => hg9.drew.next k
    have HI := Lib.hid fun W' (k : Ok wc.drew W') => hi2.drew.next k
    have H11 := Lib.hid fun W' (k : Ok wc.drew W') => hg11.drew.next k
    have H13 := Lib.hid fun W' (k : Ok wc.drew W') => hg13.drew.next k
    have HA := Lib.hid fun W' (k : Ok wc.drew W') => hA.below ((Ok.refl wc).drew.trans k)
    clear hi2 hS hF hg9 hg11 hg13 hA hok
    refine wp_region_facts (by kernel_rfl) 180 rfl (VCTelQ B G F g9 g11 g13 gi p s A cap h E NT a b NU q y mo dd hh mi sc) Ok (by kernel_rfl) (fun i v w w' h k w'' k' => h w'' (k.trans k')) (fun a b c => Ok.trans) (Ok.refl _) [some 73, some 74, some 75, some 76, some 77, some 78, some 79, some 80, some 81, some 82, some 83, some 84, some 85, some 86, some 87, some 88, some 89, some 90, some 91, some 92, some 93, some 94, some 95, some 96, some 97, some 98, some 99, some 100, some 101, some 102, some 103, some 104, some 105, some 106, some 107, some 108, some 109, some 110, some 111, some 112, some 113, some 114, some 115, some 116, some 117, some 118, some 119, some 120, some 121, some 122, some 123, some 124, some 125] rfl 53 rfl ⟨?_, ?_, ?_, ?_, ?_, ?_, ?_, ?_, ?_, ?_, ?_, ?_, ?_, ?_, ?_, ?_, ?_, ?_, ?_, ?_, ?_, ?_, ?_, ?_, ?_, ?_, ?_, ?_, ?_, ?_, ?_, ?_, ?_, ?_, ?_, ?_, ?_, ?_, ?_, ?_, ?_, ?_, ?_, ?_, ?_, ?_, ?_, ?_, ?_, ?_, ?_, ?_, ?_, trivial⟩ ?_
    · intro a' w' hF hR
      have e5 : a'.tmps[5]? = some (.pointer (some ⟨F, 0, none⟩)) := hF.slot 5 (by kernel_rfl) rfl
      refine wpOp_run (v := .pointer (some ⟨F, 0, none⟩)) rfl rfl ?_ (fun _ _ => rfl) (Ok.refl _)
      clear hF
      go_simp
    · intro a' w' hF hR
      obtain ⟨v0, hv0, e73⟩ := hF.get 0 73 (by kernel_rfl) (by kernel_rfl)
      obtain rfl : v0 = _ := hv0 _ (Ok.refl _)
      clear hF
      refine wpOp_call (f := 13) (args := #[.pointer (some ⟨F, 0, none⟩)]) rfl rfl ?_ ((KH.out _ _ (HF.out _ hR)).mono ?_)
      · go_simp
      · rintro e w2 ⟨rfl, hb2⟩; exact ⟨_, rfl, fun _ _ => rfl, hb2⟩
    · intro a' w' hF hR
      have e6 : a'.tmps[6]? = some (.int .i64 h) := hF.slot 6 (by kernel_rfl) rfl
      refine wpOp_run (v := .int .i64 h) rfl rfl ?_ (fun _ _ => rfl) (Ok.refl _)
      clear hF
      go_simp
    · intro a' w' hF hR
      obtain ⟨v1, hv1, e74⟩ := hF.get 1 74 (by kernel_rfl) (by kernel_rfl)
      obtain rfl : v1 = _ := hv1 _ (Ok.refl _)
      obtain ⟨v2, hv2, e75⟩ := hF.get 2 75 (by kernel_rfl) (by kernel_rfl)
      obtain rfl : v2 = _ := hv2 _ (Ok.refl _)
      refine wpOp_run (v := .bool false) rfl rfl ?_ (fun _ _ => rfl) (Ok.refl _)
      clear hF
      go_simp
    · intro a' w' hF hR
      obtain ⟨v3, hv3, e76⟩ := hF.get 3 76 (by kernel_rfl) (by kernel_rfl)
      obtain rfl : v3 = _ := hv3 _ (Ok.refl _)
      refine wpOp_run (v := .bool false) rfl rfl ?_ (fun _ _ => rfl) (Ok.refl _)
      clear hF
      go_simp
    · intro a' w' hF hR
      have e8 : a'.tmps[8]? = some (.int .i64 E) := hF.slot 8 (by kernel_rfl) rfl
      obtain ⟨vg, hvg, eg⟩ := hF.get 4 77 (by kernel_rfl) (by kernel_rfl)
      obtain rfl : vg = _ := hvg _ (Ok.refl _)
      refine wpOp_runG (v := .int .i64 E) rfl (wanted_yes rfl (by kernel_rfl) eg) ?_ (fun _ _ => rfl) (Ok.refl _)
      clear hF
      go_simp
    · intro a' w' hF hR
      have e17 : a'.tmps[17]? = some (.int .i64 E) := hF.slot 17 (by kernel_rfl) rfl
      obtain ⟨vg, hvg, eg⟩ := hF.get 4 77 (by kernel_rfl) (by kernel_rfl)
      obtain rfl : vg = _ := hvg _ (Ok.refl _)
      refine wpOp_runG (v := .int .i64 E) rfl (wanted_yes rfl (by kernel_rfl) eg) ?_ (fun _ _ => rfl) (Ok.refl _)
      clear hF
      go_simp
    · intro a' w' hF hR
      obtain ⟨v5, hv5, e78⟩ := hF.get 5 78 (by kernel_rfl) (by kernel_rfl)
      obtain rfl : v5 = _ := hv5 _ (Ok.refl _)
      obtain ⟨v6, hv6, e79⟩ := hF.get 6 79 (by kernel_rfl) (by kernel_rfl)
      obtain rfl : v6 = _ := hv6 _ (Ok.refl _)
      obtain ⟨vg, hvg, eg⟩ := hF.get 4 77 (by kernel_rfl) (by kernel_rfl)
      obtain rfl : vg = _ := hvg _ (Ok.refl _)
      refine wpOp_runG (v := .bool false) rfl (wanted_yes rfl (by kernel_rfl) eg) ?_ (fun _ _ => rfl) (Ok.refl _)
      clear hF
      go_simp
    · intro a' w' hF hR
      obtain ⟨v4, hv4, e77⟩ := hF.get 4 77 (by kernel_rfl) (by kernel_rfl)
      obtain rfl : v4 = _ := hv4 _ (Ok.refl _)
      obtain ⟨v7, hv7, e80⟩ := hF.get 7 80 (by kernel_rfl) (by kernel_rfl)
      obtain rfl : v7 = _ := hv7 _ (Ok.refl _)
      refine wpOp_run (v := .bool false) rfl rfl ?_ (fun _ _ => rfl) (Ok.refl _)
      clear hF
      go_simp
    · intro a' w' hF hR
      obtain ⟨v8, hv8, e81⟩ := hF.get 8 81 (by kernel_rfl) (by kernel_rfl)
      obtain rfl : v8 = _ := hv8 _ (Ok.refl _)
      refine wpOp_run (v := .bool false) rfl rfl ?_ (fun _ _ => rfl) (Ok.refl _)
      clear hF
      go_simp
    · intro a' w' hF hR
      have e10 : a'.tmps[10]? = some (.int .i64 E) := hF.slot 10 (by kernel_rfl) rfl
      obtain ⟨vg, hvg, eg⟩ := hF.get 9 82 (by kernel_rfl) (by kernel_rfl)
      obtain rfl : vg = _ := hvg _ (Ok.refl _)
      refine wpOp_runG (v := .int .i64 E) rfl (wanted_yes rfl (by kernel_rfl) eg) ?_ (fun _ _ => rfl) (Ok.refl _)
      clear hF
      go_simp
    · intro a' w' hF hR
      have e17 : a'.tmps[17]? = some (.int .i64 E) := hF.slot 17 (by kernel_rfl) rfl
      obtain ⟨vg, hvg, eg⟩ := hF.get 9 82 (by kernel_rfl) (by kernel_rfl)
      obtain rfl : vg = _ := hvg _ (Ok.refl _)
      refine wpOp_runG (v := .int .i64 E) rfl (wanted_yes rfl (by kernel_rfl) eg) ?_ (fun _ _ => rfl) (Ok.refl _)
      clear hF
      go_simp
    · intro a' w' hF hR
      obtain ⟨v10, hv10, e83⟩ := hF.get 10 83 (by kernel_rfl) (by kernel_rfl)
      obtain rfl : v10 = _ := hv10 _ (Ok.refl _)
      obtain ⟨v11, hv11, e84⟩ := hF.get 11 84 (by kernel_rfl) (by kernel_rfl)
      obtain rfl : v11 = _ := hv11 _ (Ok.refl _)
      obtain ⟨vg, hvg, eg⟩ := hF.get 9 82 (by kernel_rfl) (by kernel_rfl)
      obtain rfl : vg = _ := hvg _ (Ok.refl _)
      refine wpOp_runG (v := .bool false) rfl (wanted_yes rfl (by kernel_rfl) eg) ?_ (fun _ _ => rfl) (Ok.refl _)
      clear hF
      go_simp
    · intro a' w' hF hR
      obtain ⟨v9, hv9, e82⟩ := hF.get 9 82 (by kernel_rfl) (by kernel_rfl)
      obtain rfl : v9 = _ := hv9 _ (Ok.refl _)
      obtain ⟨v12, hv12, e85⟩ := hF.get 12 85 (by kernel_rfl) (by kernel_rfl)
      obtain rfl : v12 = _ := hv12 _ (Ok.refl _)
      refine wpOp_run (v := .bool false) rfl rfl ?_ (fun _ _ => rfl) (Ok.refl _)
      clear hF
      go_simp
    · intro a' w' hF hR
      obtain ⟨v13, hv13, e86⟩ := hF.get 13 86 (by kernel_rfl) (by kernel_rfl)
      obtain rfl : v13 = _ := hv13 _ (Ok.refl _)
      refine wpOp_run (v := .bool false) rfl rfl ?_ (fun _ _ => rfl) (Ok.refl _)
      clear hF
      go_simp
    · intro a' w' hF hR
      have e16 : a'.tmps[16]? = some (.int .i64 E) := hF.slot 16 (by kernel_rfl) rfl
      obtain ⟨vg, hvg, eg⟩ := hF.get 14 87 (by kernel_rfl) (by kernel_rfl)
      obtain rfl : vg = _ := hvg _ (Ok.refl _)
      refine wpOp_runG (v := .int .i64 E) rfl (wanted_yes rfl (by kernel_rfl) eg) ?_ (fun _ _ => rfl) (Ok.refl _)
      clear hF
      go_simp
    · intro a' w' hF hR
      have e17 : a'.tmps[17]? = some (.int .i64 E) := hF.slot 17 (by kernel_rfl) rfl
      obtain ⟨vg, hvg, eg⟩ := hF.get 14 87 (by kernel_rfl) (by kernel_rfl)
      obtain rfl : vg = _ := hvg _ (Ok.refl _)
      refine wpOp_runG (v := .int .i64 E) rfl (wanted_yes rfl (by kernel_rfl) eg) ?_ (fun _ _ => rfl) (Ok.refl _)
      clear hF
      go_simp
    · intro a' w' hF hR
      obtain ⟨v15, hv15, e88⟩ := hF.get 15 88 (by kernel_rfl) (by kernel_rfl)
      obtain rfl : v15 = _ := hv15 _ (Ok.refl _)
      obtain ⟨v16, hv16, e89⟩ := hF.get 16 89 (by kernel_rfl) (by kernel_rfl)
      obtain rfl : v16 = _ := hv16 _ (Ok.refl _)
      obtain ⟨vg, hvg, eg⟩ := hF.get 14 87 (by kernel_rfl) (by kernel_rfl)
      obtain rfl : vg = _ := hvg _ (Ok.refl _)
      refine wpOp_runG (v := .bool false) rfl (wanted_yes rfl (by kernel_rfl) eg) ?_ (fun _ _ => rfl) (Ok.refl _)
      clear hF
      go_simp
    · intro a' w' hF hR
      obtain ⟨v14, hv14, e87⟩ := hF.get 14 87 (by kernel_rfl) (by kernel_rfl)
      obtain rfl : v14 = _ := hv14 _ (Ok.refl _)
      obtain ⟨v17, hv17, e90⟩ := hF.get 17 90 (by kernel_rfl) (by kernel_rfl)
      obtain rfl : v17 = _ := hv17 _ (Ok.refl _)
      refine wpOp_run (v := .bool false) rfl rfl ?_ (fun _ _ => rfl) (Ok.refl _)
      clear hF
      go_simp
    · intro a' w' hF hR
      obtain ⟨v18, hv18, e91⟩ := hF.get 18 91 (by kernel_rfl) (by kernel_rfl)
      obtain rfl : v18 = _ := hv18 _ (Ok.refl _)
      refine wpOp_run (v := .bool false) rfl rfl ?_ (fun _ _ => rfl) (Ok.refl _)
      clear hF
      go_simp
    · intro a' w' hF hR
      have e7 : a'.tmps[7]? = some (.int .i64 NT) := hF.slot 7 (by kernel_rfl) rfl
      obtain ⟨vg, hvg, eg⟩ := hF.get 19 92 (by kernel_rfl) (by kernel_rfl)
      obtain rfl : vg = _ := hvg _ (Ok.refl _)
      refine wpOp_runG (v := .int .i64 NT) rfl (wanted_yes rfl (by kernel_rfl) eg) ?_ (fun _ _ => rfl) (Ok.refl _)
      clear hF
      go_simp
    · intro a' w' hF hR
      have e18 : a'.tmps[18]? = some (.int .i64 NT) := hF.slot 18 (by kernel_rfl) rfl
      obtain ⟨vg, hvg, eg⟩ := hF.get 19 92 (by kernel_rfl) (by kernel_rfl)
      obtain rfl : vg = _ := hvg _ (Ok.refl _)
      refine wpOp_runG (v := .int .i64 NT) rfl (wanted_yes rfl (by kernel_rfl) eg) ?_ (fun _ _ => rfl) (Ok.refl _)
      clear hF
      go_simp
    · intro a' w' hF hR
      obtain ⟨v20, hv20, e93⟩ := hF.get 20 93 (by kernel_rfl) (by kernel_rfl)
      obtain rfl : v20 = _ := hv20 _ (Ok.refl _)
      obtain ⟨v21, hv21, e94⟩ := hF.get 21 94 (by kernel_rfl) (by kernel_rfl)
      obtain rfl : v21 = _ := hv21 _ (Ok.refl _)
      obtain ⟨vg, hvg, eg⟩ := hF.get 19 92 (by kernel_rfl) (by kernel_rfl)
      obtain rfl : vg = _ := hvg _ (Ok.refl _)
      refine wpOp_runG (v := .bool false) rfl (wanted_yes rfl (by kernel_rfl) eg) ?_ (fun _ _ => rfl) (Ok.refl _)
      clear hF
      go_simp
    · intro a' w' hF hR
      obtain ⟨v19, hv19, e92⟩ := hF.get 19 92 (by kernel_rfl) (by kernel_rfl)
      obtain rfl : v19 = _ := hv19 _ (Ok.refl _)
      obtain ⟨v22, hv22, e95⟩ := hF.get 22 95 (by kernel_rfl) (by kernel_rfl)
      obtain rfl : v22 = _ := hv22 _ (Ok.refl _)
      refine wpOp_run (v := .bool false) rfl rfl ?_ (fun _ _ => rfl) (Ok.refl _)
      clear hF
      go_simp
    · intro a' w' hF hR
      obtain ⟨v23, hv23, e96⟩ := hF.get 23 96 (by kernel_rfl) (by kernel_rfl)
      obtain rfl : v23 = _ := hv23 _ (Ok.refl _)
      refine wpOp_run (v := .bool false) rfl rfl ?_ (fun _ _ => rfl) (Ok.refl _)
      clear hF
      go_simp
    · intro a' w' hF hR
      have e9 : a'.tmps[9]? = some (.pointer (some ⟨g9, 0, none⟩)) := hF.slot 9 (by kernel_rfl) rfl
      obtain ⟨vg, hvg, eg⟩ := hF.get 24 97 (by kernel_rfl) (by kernel_rfl)
      obtain rfl : vg = _ := hvg _ (Ok.refl _)
      have z0 := (H9.out _ hR).cell 0 (v := .int .i64 a) rfl
      have z1 := (H9.out _ hR).cell 1 (v := .int .i64 b) rfl
      have hzl := (H9.out _ hR).lt
      refine wpOp_runG (v := spanV a b) rfl (wanted_yes rfl (by kernel_rfl) eg) ?_ (fun _ _ => rfl) (Ok.refl _)
      clear hF
      go_simp
    · intro a' w' hF hR
      have e19 : a'.tmps[19]? = some (.pointer (some ⟨gi, 0, none⟩)) := hF.slot 19 (by kernel_rfl) rfl
      obtain ⟨vg, hvg, eg⟩ := hF.get 24 97 (by kernel_rfl) (by kernel_rfl)
      obtain rfl : vg = _ := hvg _ (Ok.refl _)
      have z0 := (HI.out _ hR).cell 0 (v := .int .i64 a) rfl
      have z1 := (HI.out _ hR).cell 1 (v := .int .i64 b) rfl
      have hzl := (HI.out _ hR).lt
      refine wpOp_runG (v := spanV a b) rfl (wanted_yes rfl (by kernel_rfl) eg) ?_ (fun _ _ => rfl) (Ok.refl _)
      clear hF
      go_simp
    · intro a' w' hF hR
      obtain ⟨v25, hv25, e98⟩ := hF.get 25 98 (by kernel_rfl) (by kernel_rfl)
      obtain rfl : v25 = _ := hv25 _ (Ok.refl _)
      obtain ⟨v26, hv26, e99⟩ := hF.get 26 99 (by kernel_rfl) (by kernel_rfl)
      obtain rfl : v26 = _ := hv26 _ (Ok.refl _)
      obtain ⟨vg, hvg, eg⟩ := hF.get 24 97 (by kernel_rfl) (by kernel_rfl)
      obtain rfl : vg = _ := hvg _ (Ok.refl _)
      have hE := eqSpan21 a b a b
      simp only [beq_self_eq_true, Bool.and_self] at hE
      refine wpOp_runG (v := .bool false) rfl (wanted_yes rfl (by kernel_rfl) eg) ?_ (fun _ _ => rfl) (Ok.refl _)
      clear hF
      go_simp
    · intro a' w' hF hR
      obtain ⟨v24, hv24, e97⟩ := hF.get 24 97 (by kernel_rfl) (by kernel_rfl)
      obtain rfl : v24 = _ := hv24 _ (Ok.refl _)
      obtain ⟨v27, hv27, e100⟩ := hF.get 27 100 (by kernel_rfl) (by kernel_rfl)
      obtain rfl : v27 = _ := hv27 _ (Ok.refl _)
      refine wpOp_run (v := .bool false) rfl rfl ?_ (fun _ _ => rfl) (Ok.refl _)
      clear hF
      go_simp
    · intro a' w' hF hR
      obtain ⟨v28, hv28, e101⟩ := hF.get 28 101 (by kernel_rfl) (by kernel_rfl)
      obtain rfl : v28 = _ := hv28 _ (Ok.refl _)
      refine wpOp_run (v := .bool false) rfl rfl ?_ (fun _ _ => rfl) (Ok.refl _)
      clear hF
      go_simp
    · intro a' w' hF hR
      have e15 : a'.tmps[15]? = some (.int .i64 NU) := hF.slot 15 (by kernel_rfl) rfl
      obtain ⟨vg, hvg, eg⟩ := hF.get 29 102 (by kernel_rfl) (by kernel_rfl)
      obtain rfl : vg = _ := hvg _ (Ok.refl _)
      refine wpOp_runG (v := .int .i64 NU) rfl (wanted_yes rfl (by kernel_rfl) eg) ?_ (fun _ _ => rfl) (Ok.refl _)
      clear hF
      go_simp
    · intro a' w' hF hR
      have e20 : a'.tmps[20]? = some (.int .i64 NU) := hF.slot 20 (by kernel_rfl) rfl
      obtain ⟨vg, hvg, eg⟩ := hF.get 29 102 (by kernel_rfl) (by kernel_rfl)
      obtain rfl : vg = _ := hvg _ (Ok.refl _)
      refine wpOp_runG (v := .int .i64 NU) rfl (wanted_yes rfl (by kernel_rfl) eg) ?_ (fun _ _ => rfl) (Ok.refl _)
      clear hF
      go_simp
    · intro a' w' hF hR
      obtain ⟨v30, hv30, e103⟩ := hF.get 30 103 (by kernel_rfl) (by kernel_rfl)
      obtain rfl : v30 = _ := hv30 _ (Ok.refl _)
      obtain ⟨v31, hv31, e104⟩ := hF.get 31 104 (by kernel_rfl) (by kernel_rfl)
      obtain rfl : v31 = _ := hv31 _ (Ok.refl _)
      obtain ⟨vg, hvg, eg⟩ := hF.get 29 102 (by kernel_rfl) (by kernel_rfl)
      obtain rfl : vg = _ := hvg _ (Ok.refl _)
      refine wpOp_runG (v := .bool false) rfl (wanted_yes rfl (by kernel_rfl) eg) ?_ (fun _ _ => rfl) (Ok.refl _)
      clear hF
      go_simp
    · intro a' w' hF hR
      obtain ⟨v29, hv29, e102⟩ := hF.get 29 102 (by kernel_rfl) (by kernel_rfl)
      obtain rfl : v29 = _ := hv29 _ (Ok.refl _)
      obtain ⟨v32, hv32, e105⟩ := hF.get 32 105 (by kernel_rfl) (by kernel_rfl)
      obtain rfl : v32 = _ := hv32 _ (Ok.refl _)
      refine wpOp_run (v := .bool false) rfl rfl ?_ (fun _ _ => rfl) (Ok.refl _)
      clear hF
      go_simp
    · intro a' w' hF hR
      obtain ⟨v33, hv33, e106⟩ := hF.get 33 106 (by kernel_rfl) (by kernel_rfl)
      obtain rfl : v33 = _ := hv33 _ (Ok.refl _)
      refine wpOp_run (v := .bool false) rfl rfl ?_ (fun _ _ => rfl) (Ok.refl _)
      clear hF
      go_simp
    · intro a' w' hF hR
      have e11 : a'.tmps[11]? = some (.pointer (some ⟨g11, 0, none⟩)) := hF.slot 11 (by kernel_rfl) rfl
      obtain ⟨vg, hvg, eg⟩ := hF.get 34 107 (by kernel_rfl) (by kernel_rfl)
      obtain rfl : vg = _ := hvg _ (Ok.refl _)
      have z0 := (H11.out _ hR).cell 0 (v := .int .i64 y) rfl
      have z1 := (H11.out _ hR).cell 1 (v := .int .i64 mo) rfl
      have z2 := (H11.out _ hR).cell 2 (v := .int .i64 dd) rfl
      have z3 := (H11.out _ hR).cell 3 (v := .int .i64 hh) rfl
      have z4 := (H11.out _ hR).cell 4 (v := .int .i64 mi) rfl
      have z5 := (H11.out _ hR).cell 5 (v := .int .i64 sc) rfl
      have hzl := (H11.out _ hR).lt
      refine wpOp_runG (v := .agg #[.int .i64 y, .int .i64 mo, .int .i64 dd, .int .i64 hh, .int .i64 mi, .int .i64 sc]) rfl (wanted_yes rfl (by kernel_rfl) eg) ?_ (fun _ _ => rfl) (Ok.refl _)
      clear hF
      go_simp
    · intro a' w' hF hR
      have e13 : a'.tmps[13]? = some (.pointer (some ⟨g13, 0, none⟩)) := hF.slot 13 (by kernel_rfl) rfl
      obtain ⟨vg, hvg, eg⟩ := hF.get 34 107 (by kernel_rfl) (by kernel_rfl)
      obtain rfl : vg = _ := hvg _ (Ok.refl _)
      have z0 := (H13.out _ hR).cell 0 (v := .int .i64 y) rfl
      have z1 := (H13.out _ hR).cell 1 (v := .int .i64 mo) rfl
      have z2 := (H13.out _ hR).cell 2 (v := .int .i64 dd) rfl
      have z3 := (H13.out _ hR).cell 3 (v := .int .i64 hh) rfl
      have z4 := (H13.out _ hR).cell 4 (v := .int .i64 mi) rfl
      have z5 := (H13.out _ hR).cell 5 (v := .int .i64 sc) rfl
      have hzl := (H13.out _ hR).lt
      refine wpOp_runG (v := .agg #[.int .i64 y, .int .i64 mo, .int .i64 dd, .int .i64 hh, .int .i64 mi, .int .i64 sc]) rfl (wanted_yes rfl (by kernel_rfl) eg) ?_ (fun _ _ => rfl) (Ok.refl _)
      clear hF
      go_simp
    · intro a' w' hF hR
      obtain ⟨v35, hv35, e108⟩ := hF.get 35 108 (by kernel_rfl) (by kernel_rfl)
      obtain rfl : v35 = _ := hv35 _ (Ok.refl _)
      obtain ⟨v36, hv36, e109⟩ := hF.get 36 109 (by kernel_rfl) (by kernel_rfl)
      obtain rfl : v36 = _ := hv36 _ (Ok.refl _)
      obtain ⟨vg, hvg, eg⟩ := hF.get 34 107 (by kernel_rfl) (by kernel_rfl)
      obtain rfl : vg = _ := hvg _ (Ok.refl _)
      have hE := eqLabel ⟨y, mo, dd, hh, mi, sc⟩ ⟨y, mo, dd, hh, mi, sc⟩
      simp only [decide_true, lbV] at hE
      refine wpOp_runG (v := .bool false) rfl (wanted_yes rfl (by kernel_rfl) eg) ?_ (fun _ _ => rfl) (Ok.refl _)
      clear hF
      go_simp
    · intro a' w' hF hR
      obtain ⟨v34, hv34, e107⟩ := hF.get 34 107 (by kernel_rfl) (by kernel_rfl)
      obtain rfl : v34 = _ := hv34 _ (Ok.refl _)
      obtain ⟨v37, hv37, e110⟩ := hF.get 37 110 (by kernel_rfl) (by kernel_rfl)
      obtain rfl : v37 = _ := hv37 _ (Ok.refl _)
      refine wpOp_run (v := .bool false) rfl rfl ?_ (fun _ _ => rfl) (Ok.refl _)
      clear hF
      go_simp
    · intro a' w' hF hR
      obtain ⟨v38, hv38, e111⟩ := hF.get 38 111 (by kernel_rfl) (by kernel_rfl)
      obtain rfl : v38 = _ := hv38 _ (Ok.refl _)
      refine wpOp_run (v := .bool false) rfl rfl ?_ (fun _ _ => rfl) (Ok.refl _)
      clear hF
      go_simp
    · intro a' w' hF hR
      have e12 : a'.tmps[12]? = some (.int .i64 q) := hF.slot 12 (by kernel_rfl) rfl
      obtain ⟨vg, hvg, eg⟩ := hF.get 39 112 (by kernel_rfl) (by kernel_rfl)
      obtain rfl : vg = _ := hvg _ (Ok.refl _)
      refine wpOp_runG (v := .int .i64 q) rfl (wanted_yes rfl (by kernel_rfl) eg) ?_ (fun _ _ => rfl) (Ok.refl _)
      clear hF
      go_simp
    · intro a' w' hF hR
      have e14 : a'.tmps[14]? = some (.int .i64 q) := hF.slot 14 (by kernel_rfl) rfl
      obtain ⟨vg, hvg, eg⟩ := hF.get 39 112 (by kernel_rfl) (by kernel_rfl)
      obtain rfl : vg = _ := hvg _ (Ok.refl _)
      refine wpOp_runG (v := .int .i64 q) rfl (wanted_yes rfl (by kernel_rfl) eg) ?_ (fun _ _ => rfl) (Ok.refl _)
      clear hF
      go_simp
    · intro a' w' hF hR
      obtain ⟨v40, hv40, e113⟩ := hF.get 40 113 (by kernel_rfl) (by kernel_rfl)
      obtain rfl : v40 = _ := hv40 _ (Ok.refl _)
      obtain ⟨v41, hv41, e114⟩ := hF.get 41 114 (by kernel_rfl) (by kernel_rfl)
      obtain rfl : v41 = _ := hv41 _ (Ok.refl _)
      obtain ⟨vg, hvg, eg⟩ := hF.get 39 112 (by kernel_rfl) (by kernel_rfl)
      obtain rfl : vg = _ := hvg _ (Ok.refl _)
      refine wpOp_runG (v := .bool false) rfl (wanted_yes rfl (by kernel_rfl) eg) ?_ (fun _ _ => rfl) (Ok.refl _)
      clear hF
      go_simp
    · intro a' w' hF hR
      obtain ⟨v39, hv39, e112⟩ := hF.get 39 112 (by kernel_rfl) (by kernel_rfl)
      obtain rfl : v39 = _ := hv39 _ (Ok.refl _)
      obtain ⟨v42, hv42, e115⟩ := hF.get 42 115 (by kernel_rfl) (by kernel_rfl)
      obtain rfl : v42 = _ := hv42 _ (Ok.refl _)
      refine wpOp_run (v := .bool false) rfl rfl ?_ (fun _ _ => rfl) (Ok.refl _)
      clear hF
      go_simp
    · intro a' w' hF hR
      obtain ⟨v43, hv43, e116⟩ := hF.get 43 116 (by kernel_rfl) (by kernel_rfl)
      obtain rfl : v43 = _ := hv43 _ (Ok.refl _)
      refine wpOp_run (v := .bool false) rfl rfl ?_ (fun _ _ => rfl) (Ok.refl _)
      clear hF
      go_simp
    · intro a' w' hF hR
      have e5 : a'.tmps[5]? = some (.pointer (some ⟨F, 0, none⟩)) := hF.slot 5 (by kernel_rfl) rfl
      obtain ⟨vg, hvg, eg⟩ := hF.get 44 117 (by kernel_rfl) (by kernel_rfl)
      obtain rfl : vg = _ := hvg _ (Ok.refl _)
      refine wpOp_runG (v := .pointer (some ⟨F, 0, none⟩)) rfl (wanted_yes rfl (by kernel_rfl) eg) ?_ (fun _ _ => rfl) (Ok.refl _)
      clear hF
      go_simp
    · intro a' w' hF hR
      obtain ⟨v45, hv45, e118⟩ := hF.get 45 118 (by kernel_rfl) (by kernel_rfl)
      obtain rfl : v45 = _ := hv45 _ (Ok.refl _)
      obtain ⟨vg, hvg, eg⟩ := hF.get 44 117 (by kernel_rfl) (by kernel_rfl)
      obtain rfl : vg = _ := hvg _ (Ok.refl _)
      refine wpOp_runG (v := .pointer (some ⟨F, 0, none⟩)) rfl (wanted_yes rfl (by kernel_rfl) eg) ?_ (fun _ _ => rfl) (Ok.refl _)
      clear hF
      go_simp
    · intro a' w' hF hR
      obtain ⟨v46, hv46, e119⟩ := hF.get 46 119 (by kernel_rfl) (by kernel_rfl)
      obtain rfl : v46 = _ := hv46 _ (Ok.refl _)
      obtain ⟨vg, hvg, eg⟩ := hF.get 44 117 (by kernel_rfl) (by kernel_rfl)
      obtain rfl : vg = _ := hvg _ (Ok.refl _)
      refine wpOp_runG (v := .pointer (some ⟨F, 12, none⟩)) rfl (wanted_yes rfl (by kernel_rfl) eg) ?_ (fun _ _ => rfl) (Ok.refl _)
      clear hF
      go_simp
    · intro a' w' hF hR
      obtain ⟨v47, hv47, e120⟩ := hF.get 47 120 (by kernel_rfl) (by kernel_rfl)
      obtain rfl : v47 = _ := hv47 _ (Ok.refl _)
      obtain ⟨vg, hvg, eg⟩ := hF.get 44 117 (by kernel_rfl) (by kernel_rfl)
      obtain rfl : vg = _ := hvg _ (Ok.refl _)
      obtain ⟨s0, s1, s2, s3, s4, s5, s6, s7, s8, s9, s10⟩ := (HF.out _ hR).frS
      have hgl := (HF.out _ hR).lt
      refine wpOp_runG (v := .agg #[.int .i64 s.lo, .int .i64 s.hi, .int .i64 s.time, .bool s.set, .int .i64 s.held, .int .i64 s.hops, .bool s.good, .slice A s.table.length cap, .int .i64 s.st, .int .i64 s.sn, .int .i64 s.life]) rfl (wanted_yes rfl (by kernel_rfl) eg) ?_ (fun _ _ => rfl) (Ok.refl _)
      clear hF
      go_simp
    · intro a' w' hF hR
      have e3 : a'.tmps[3]? = some (.pointer (some ⟨G, 0, none⟩)) := hF.slot 3 (by kernel_rfl) rfl
      obtain ⟨vg, hvg, eg⟩ := hF.get 44 117 (by kernel_rfl) (by kernel_rfl)
      obtain rfl : vg = _ := hvg _ (Ok.refl _)
      obtain ⟨s0, s1, s2, s3, s4, s5, s6, s7, s8, s9, s10⟩ := (HS.out _ hR).sta
      have hsl := (HS.out _ hR).lt
      refine wpOp_runG (v := .agg #[.int .i64 s.lo, .int .i64 s.hi, .int .i64 s.time, .bool s.set, .int .i64 s.held, .int .i64 s.hops, .bool s.good, .slice A s.table.length cap, .int .i64 s.st, .int .i64 s.sn, .int .i64 s.life]) rfl (wanted_yes rfl (by kernel_rfl) eg) ?_ (fun _ _ => rfl) (Ok.refl _)
      clear hF
      go_simp
    · intro a' w' hF hR
      obtain ⟨v48, hv48, e121⟩ := hF.get 48 121 (by kernel_rfl) (by kernel_rfl)
      obtain rfl : v48 = _ := hv48 _ (Ok.refl _)
      obtain ⟨v49, hv49, e122⟩ := hF.get 49 122 (by kernel_rfl) (by kernel_rfl)
      obtain rfl : v49 = _ := hv49 _ (Ok.refl _)
      obtain ⟨vg, hvg, eg⟩ := hF.get 44 117 (by kernel_rfl) (by kernel_rfl)
      obtain rfl : vg = _ := hvg _ (Ok.refl _)
      refine wpOp_callG (f := 14) (args := #[.agg #[.int .i64 s.lo, .int .i64 s.hi, .int .i64 s.time, .bool s.set, .int .i64 s.held, .int .i64 s.hops, .bool s.good, .slice A s.table.length cap, .int .i64 s.st, .int .i64 s.sn, .int .i64 s.life], .agg #[.int .i64 s.lo, .int .i64 s.hi, .int .i64 s.time, .bool s.set, .int .i64 s.held, .int .i64 s.hops, .bool s.good, .slice A s.table.length cap, .int .i64 s.st, .int .i64 s.sn, .int .i64 s.life]]) rfl (wanted_yes rfl (by kernel_rfl) eg) ?_ ((KE.out _ (HA.out _ hR)).mono ?_)
      · go_simp
      · rintro e w2 ⟨rfl, hb2⟩; exact ⟨_, rfl, fun _ _ => rfl, hb2⟩
    · intro a' w' hF hR
      obtain ⟨v50, hv50, e123⟩ := hF.get 50 123 (by kernel_rfl) (by kernel_rfl)
      obtain rfl : v50 = _ := hv50 _ (Ok.refl _)
      obtain ⟨vg, hvg, eg⟩ := hF.get 44 117 (by kernel_rfl) (by kernel_rfl)
      obtain rfl : vg = _ := hvg _ (Ok.refl _)
      refine wpOp_runG (v := .bool false) rfl (wanted_yes rfl (by kernel_rfl) eg) ?_ (fun _ _ => rfl) (Ok.refl _)
      clear hF
      go_simp
    · intro a' w' hF hR
      obtain ⟨v44, hv44, e117⟩ := hF.get 44 117 (by kernel_rfl) (by kernel_rfl)
      obtain rfl : v44 = _ := hv44 _ (Ok.refl _)
      obtain ⟨v51, hv51, e124⟩ := hF.get 51 124 (by kernel_rfl) (by kernel_rfl)
      obtain rfl : v51 = _ := hv51 _ (Ok.refl _)
      refine wpOp_run (v := .bool false) rfl rfl ?_ (fun _ _ => rfl) (Ok.refl _)
      clear hF
      go_simp
    intro vs w9 hV hR
    have e52 : vs 52 = .bool false := hV 52 (by decide) _ (Ok.refl _)
    have hok := HOK.out.trans ((Ok.refl wc).drew.trans hR)
    clear hV HOK HS HF H9 HI H11 H13 HA KH KE HA0
    simp only [putFrom, e52]
    simp only [Act.put, List.setIfInBounds_toArray, List.set_cons_zero, List.set_cons_succ]
    try generalize vs 0 = v100
    try generalize vs 1 = v101
    try generalize vs 2 = v102
    try generalize vs 3 = v103
    try generalize vs 4 = v104
    try generalize vs 5 = v105
    try generalize vs 6 = v106
    try generalize vs 7 = v107
    try generalize vs 8 = v108
    try generalize vs 9 = v109
    try generalize vs 10 = v110
    try generalize vs 11 = v111
    try generalize vs 12 = v112
    try generalize vs 13 = v113
    try generalize vs 14 = v114
    try generalize vs 15 = v115
    try generalize vs 16 = v116
    try generalize vs 17 = v117
    try generalize vs 18 = v118
    try generalize vs 19 = v119
    try generalize vs 20 = v120
    try generalize vs 21 = v121
    try generalize vs 22 = v122
    try generalize vs 23 = v123
    try generalize vs 24 = v124
    try generalize vs 25 = v125
    try generalize vs 26 = v126
    try generalize vs 27 = v127
    try generalize vs 28 = v128
    try generalize vs 29 = v129
    try generalize vs 30 = v130
    try generalize vs 31 = v131
    try generalize vs 32 = v132
    try generalize vs 33 = v133
    try generalize vs 34 = v134
    try generalize vs 35 = v135
    try generalize vs 36 = v136
    try generalize vs 37 = v137
    try generalize vs 38 = v138
    try generalize vs 39 = v139
    try generalize vs 40 = v140
    try generalize vs 41 = v141
    try generalize vs 42 = v142
    try generalize vs 43 = v143
    try generalize vs 44 = v144
    try generalize vs 45 = v145
    try generalize vs 46 = v146
    try generalize vs 47 = v147
    try generalize vs 48 = v148
    try generalize vs 49 = v149
    try generalize vs 50 = v150
    try generalize vs 51 = v151
    try generalize vs 52 = v152
    clear e52 vs
    go_upto_region 22 with (first | (go_at_call 7; refine (nilNow _).mono ?_; rintro e v1 ⟨rfl, hb1⟩; replace hok := hok.trans hb1; clear hb1) | (go_at_call 8; refine (nilInterval _).mono ?_; rintro e v2 ⟨rfl, hb1⟩; replace hok := hok.trans hb1; clear hb1) | (go_at_call 9; refine (nilUTC _).mono ?_; rintro e v3 ⟨rfl, hb1⟩; replace hok := hok.trans hb1; clear hb1) | (go_at_call 11; refine (nilPulse _).mono ?_; rintro e v4 ⟨rfl, hb1⟩; replace hok := hok.trans hb1; clear hb1))
    go_upto_region 23 with (go_at_call 15; refine (nilStamp _).mono ?_; rintro e v5 ⟨rfl, hb1⟩; replace hok := hok.trans hb1; clear hb1)
    replace hok := hok.alloc (.cells #[.int .i64 0, .int .i64 0] 28)
    change Code.wp _ _ _ _ (v5.alloc (.cells #[.int .i64 0, .int .i64 0] 28))
    generalize v5.alloc (.cells #[.int .i64 0, .int .i64 0] 28) = V5 at hok ⊢
    go_wp2_with (first | (go_at_call 16; refine (KX.out _).mono ?_; rintro e v6 ⟨rfl, hb1⟩; replace hok := hok.trans hb1; clear hb1) | (go_at_call 17; refine (KY.out _).mono ?_; rintro e v7 ⟨rfl, hb1⟩; replace hok := hok.trans hb1; clear hb1) | (go_at_call 13; refine (nilHealth _).mono ?_; rintro e v8 ⟨rfl, hb1⟩; replace hok := hok.trans hb1; clear hb1))
    go_ret
    exact ⟨rfl, hok⟩
theorem walk (w : World) (hT : Tab w) (p : Par) (wp : ParWf p) (s : Sta) (A : Option Addr) (cap : Nat) (hA : PairsAt w A s.table) (hcs : s.table.length ≤ cap) (hms : cap ≤ maxLen) (ws : StaWf s) :
    Calls Tryd.prog 3 #[parV p, staV s A cap] w fun e w' => e = .returned (.bool true) ∧ Below w.heap.size w w' :=
  walkF w hT p s A cap hA (Nat.le_trans hcs (Nat.le_trans hms (by decide)))
theorem own : ownKnob Tryd.prog.godebug = none := by kernel_rfl
theorem laidOut : laidOutB Tryd.prog = true := by kernel_rfl
theorem laid_met (os : Os) : laidMet Tryd.prog Rows.healthTellsRow.laid ((laidWorld os).forCall (fun _ _ => 0) ⟨#[], #[.agg #[.int .i64 0, .int .i64 0, .int .i64 0, .int .i64 0, .int .i64 0, .int .i64 0, .int .i64 0, .int .i64 0, .int .i64 0, .int .i64 0, .int .i64 0, .int .i64 0], .agg #[.int .i64 0, .int .i64 0, .int .i64 0, .bool false, .int .i64 0, .int .i64 0, .bool false, .slice none 0 0, .int .i64 0, .int .i64 0, .int .i64 0]], []⟩).memory :=
  laidMet_of_run' 8 (by kernel_rfl) (by kernel_rfl)
theorem reads (os : Os) {H : Type} (enc : TypeId × Value → H) : ∃ places, DataW.whole enc Tryd.prog ((laidWorld os).forCall (fun _ _ => 0) ⟨#[], #[.agg #[.int .i64 0, .int .i64 0, .int .i64 0, .int .i64 0, .int .i64 0, .int .i64 0, .int .i64 0, .int .i64 0, .int .i64 0, .int .i64 0, .int .i64 0, .int .i64 0], .agg #[.int .i64 0, .int .i64 0, .int .i64 0, .bool false, .int .i64 0, .int .i64 0, .bool false, .slice none 0 0, .int .i64 0, .int .i64 0, .int .i64 0]], []⟩).memory Tryd.f3.params.toList Rows.healthTellsSpec.vars false (#[.agg #[.int .i64 0, .int .i64 0, .int .i64 0, .int .i64 0, .int .i64 0, .int .i64 0, .int .i64 0, .int .i64 0, .int .i64 0, .int .i64 0, .int .i64 0, .int .i64 0], .agg #[.int .i64 0, .int .i64 0, .int .i64 0, .bool false, .int .i64 0, .int .i64 0, .bool false, .slice none 0 0, .int .i64 0, .int .i64 0, .int .i64 0]] : Array Value).toList 8 = some ([.agg [.lit (.int .i64 0), .lit (.int .i64 0), .lit (.int .i64 0), .lit (.int .i64 0), .lit (.int .i64 0), .lit (.int .i64 0), .lit (.int .i64 0), .lit (.int .i64 0), .lit (.int .i64 0), .lit (.int .i64 0), .lit (.int .i64 0), .lit (.int .i64 0)], .agg [.agg [.lit (.int .i64 0), .lit (.int .i64 0)], .lit (.int .i64 0), .lit (.bool false), .lit (.int .i64 0), .lit (.int .i64 0), .lit (.bool false), .nil, .agg [.lit (.int .i64 0), .lit (.int .i64 0)], .lit (.int .i64 0)]], [], places) :=
  ⟨[], by kernel_rfl⟩
set_option maxRecDepth 100000 in
theorem lifted (os : Os) (started : os.Started) (H : Type) (enc : TypeId × Value → H) (F : Stop.Interp) :
    ReturnsInHanded {} Tryd.checked os 3 .any ((OpenSpec.ofChange Rows.healthTellsSpec).preRow enc Tryd.prog Tryd.f3 Rows.healthTellsRow.domain false Rows.healthTellsRow.laid) (((OpenSpec.ofChange Rows.healthTellsSpec).at F).post enc Tryd.prog Tryd.f3 false true false false) := by
  obtain ⟨places, hx⟩ := reads os enc
  refine returnsInHanded_of_row (C := Tryd.checked) (s := OpenSpec.ofChange Rows.healthTellsSpec) own started (by kernel_rfl) Tryd.func3
    (witness_row_at (enc := enc) (C := Tryd.checked) false (laidWorld os) #[.agg #[.int .i64 0, .int .i64 0, .int .i64 0, .int .i64 0, .int .i64 0, .int .i64 0, .int .i64 0, .int .i64 0, .int .i64 0, .int .i64 0, .int .i64 0, .int .i64 0], .agg #[.int .i64 0, .int .i64 0, .int .i64 0, .bool false, .int .i64 0, .int .i64 0, .bool false, .slice none 0 0, .int .i64 0, .int .i64 0, .int .i64 0]] rfl (by kernel_rfl) (by kernel_rfl) (by kernel_rfl)
      (OpenSpec.preRow_of_cond 8 hx (by kernel_rfl) (fun k hk => by cases hk) (by kernel_rfl) (laid_met os))) ?_
  intro W base args ds gs before hval0 hW _ _ _ hL _ _
  have hval : ∀ (j : Nat) t v, Tryd.f3.params[j]? = some t → args[j]? = some v → Value.okWide Tryd.prog W .any base t v := hval0
  have hW' := hW
  obtain ⟨p, q, hA, hV, rfl, _, _⟩ := hW
  obtain ⟨rfl, rfl⟩ := trodVars_none hV
  replace hA : DataW.TrodAll enc Tryd.prog W 0 (fun _ => true) true Tryd.f3.params.toList args.toList ds p := hA
  rw [Tryd.params3] at hA hval
  obtain ⟨v0, vs0, d0, ds0, p0, q0, hargs, rfl, rfl, h0, r0⟩ := trodAll_cons hA
  obtain ⟨v1, vs1, d1, ds1, p1, q1, rfl, rfl, rfl, h1, r1⟩ := trodAll_cons r0
  obtain ⟨rfl, rfl, rfl⟩ := trodAll_nil r1
  obtain rfl : args = #[v0, v1] := by cases args; simp_all
  obtain ⟨p0, rfl, wp0⟩ := open_par Tryd.underlying23 rfl (by kernel_rfl) (by kernel_rfl) (by kernel_rfl) (hval 0 23 v0 rfl rfl) h0
  obtain ⟨s1, A1, c1, rfl, hA1, hc1, hm1, w1⟩ := open_sta (hval 1 30 v1 rfl rfl) h1
  refine (walk W (tab_of hL) p0 wp0 s1 A1 c1 hA1 hc1 hm1 w1).mono fun e W' ⟨he, hb⟩ => ?_
  subst he
  exact ⟨_, rfl, law_post hW' laidOut (by rw [Tryd.params3]; exact params_ok (by kernel_rfl)) rfl (by kernel_rfl) Tryd.underlying4 rfl rfl rfl hb⟩
theorem said : Rows.HealthTellsSaid :=
  OpenClaim.holds_of_cond 3 Tryd.f3 rfl rfl rfl rfl rfl rfl rfl ⟨rfl, rfl, rfl, rfl, rfl⟩ rfl rfl rfl rfl rfl (by kernel_rfl) Tryd.func3 (by kernel_rfl)
    (of_decide_eq_true (by kernel_rfl)) (by unfold Func.isWrapper; first | (rw [if_pos (by decide +kernel)]; kernel_rfl) | (rw [if_neg (by decide +kernel)]; exact ⟨rfl, rfl⟩))
    (fun os started H enc _ F => by rw [OpenClaim.pre_eq_preRow]; exact lifted os started H enc F)
theorem plain (f : FuncId) (fn : Func) (hf : Tryd.pinned.checked.prog.funcNamed "clepsydra/clepsydralaw21.HealthTells" = some f) (hfn : Tryd.pinned.checked.prog.funcs[f]? = some fn) :
    false = Tryd.pinned.checked.prog.looks [] ∧ ∀ (j : Nat) t, fn.params[j]? = some t → Tryd.pinned.checked.prog.wantsStandIn t = false := by
  obtain rfl : f = 3 := Option.some.inj ((show Tryd.prog.funcNamed "clepsydra/clepsydralaw21.HealthTells" = some 3 by kernel_rfl).symm.trans hf) |>.symm
  obtain rfl : fn = Tryd.f3 := (Option.some.inj (Tryd.func3.symm.trans hfn)).symm
  refine ⟨by kernel_rfl, fun j t ht => ?_⟩
  have hall : (Tryd.f3.params.toList.all fun u => !Tryd.prog.wantsStandIn u) = true := by kernel_rfl
  have hm : t ∈ Tryd.f3.params.toList := Array.mem_toList_iff.2 (Array.mem_of_getElem? ht)
  exact (show Tryd.prog.wantsStandIn t = false by simpa using List.all_eq_true.1 hall t hm)
theorem proved : Rows.HealthTellsCardSaid :=
  Claim7.holds_tied_plain_at .later [] _ _ _ _ said (fun _ h => by cases h) (by kernel_rfl) (fun _ h => by cases h) healthTells_row_tie rfl ⟨rfl, rfl⟩ (by kernel_rfl) rfl plain (by kernel_rfl)
end Go.Proofs.YtlclfonlidcfiaaDoor.healthTells
