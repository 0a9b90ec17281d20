import Derived.Test.YtmokofblmkeloaaGreatDoorP35
import Derived.Test.YtmokofblmkeloaaGreatDoorP45
import Derived.Test.YtmokofblmkeloaaGreatDoorB23
import Derived.Test.YtmokofblmkeloaaGreatDoorP22
import Derived.Deep.CutRange
namespace Go.Proofs.YtmokofblmkeloaaGreatDoor
open Go.RowKit
set_option linter.unusedVariables false
set_option maxRecDepth 100000
attribute [local go_sem ↓] Go.wp_at_zero Go.wp_at_succ
/-- Fourteen cells are stored over. -/
theorem own_over14 {w : World} {g : Nat} {x0 x1 x2 x3 x4 x5 x6 x7 x8 x9 x10 x11 x12 x13 : Value} (h : Own w g #[x0, x1, x2, x3, x4, x5, x6, x7, x8, x9, x10, x11, x12, x13]) (v0 v1 v2 v3 v4 v5 v6 v7 v8 v9 v10 v11 v12 v13 : Value) : Own ((((((((((((((w.setCell ⟨g, 0, none⟩ v0).setCell ⟨g, 1, none⟩ v1).setCell ⟨g, 2, none⟩ v2).setCell ⟨g, 3, none⟩ v3).setCell ⟨g, 4, none⟩ v4).setCell ⟨g, 5, none⟩ v5).setCell ⟨g, 6, none⟩ v6).setCell ⟨g, 7, none⟩ v7).setCell ⟨g, 8, none⟩ v8).setCell ⟨g, 9, none⟩ v9).setCell ⟨g, 10, none⟩ v10).setCell ⟨g, 11, none⟩ v11).setCell ⟨g, 12, none⟩ v12).setCell ⟨g, 13, none⟩ v13) g #[v0, v1, v2, v3, v4, v5, v6, v7, v8, v9, v10, v11, v12, v13] := by
  have e : (((((((((((((((#[x0, x1, x2, x3, x4, x5, x6, x7, x8, x9, x10, x11, x12, x13] : Array Value).set! 0 v0).set! 1 v1).set! 2 v2).set! 3 v3).set! 4 v4).set! 5 v5).set! 6 v6).set! 7 v7).set! 8 v8).set! 9 v9).set! 10 v10).set! 11 v11).set! 12 v12).set! 13 v13) = #[v0, v1, v2, v3, v4, v5, v6, v7, v8, v9, v10, v11, v12, v13] := by simp
  rw [← e]
  exact ((((((((((((((h.set 0 v0).set 1 v1).set 2 v2).set 3 v3).set 4 v4).set 5 v5).set 6 v6).set 7 v7).set 8 v8).set 9 v9).set 10 v10).set 11 v11).set 12 v12).set 13 v13)
/-- What each operation leaves. -/
def VMSay (G E T N2 : Nat) (p : Par) (s : Sta) (A : Option Addr) (cap : Nat) (kind me z1 z2 pn k1 k2 : Int) (rd : Bool) (w : World) (v : Value) : Nat → Prop
  | 0 => v = .int .i64 kind
  | 1 => v = .int .i64 me
  | 2 => v = .pointer (some ⟨G, 0, none⟩)
  | 3 => v = .pointer (some ⟨G, 0, none⟩)
  | 4 => v = .pointer (some ⟨G, 12, none⟩)
  | 5 => v = .pointer (some ⟨G, 12, none⟩)
  | 6 => v = .agg #[.int .i64 s.lo, .int .i64 s.hi]
  | 7 => v = .pointer (some ⟨G, 0, none⟩)
  | 8 => v = .pointer (some ⟨G, 0, none⟩)
  | 9 => v = .pointer (some ⟨G, 12, none⟩)
  | 10 => v = .pointer (some ⟨G, 16, none⟩)
  | 11 => v = .int .i64 s.held
  | 12 => v = .pointer (some ⟨G, 0, none⟩)
  | 13 => v = .pointer (some ⟨G, 0, none⟩)
  | 14 => v = .pointer (some ⟨G, 12, none⟩)
  | 15 => v = .pointer (some ⟨G, 17, none⟩)
  | 16 => v = .int .i64 s.hops
  | 17 => v = .pointer (some ⟨G, 0, none⟩)
  | 18 => v = .pointer (some ⟨G, 0, none⟩)
  | 19 => v = .pointer (some ⟨G, 12, none⟩)
  | 20 => v = .pointer (some ⟨G, 18, none⟩)
  | 21 => v = .bool s.good
  | 22 => v = .bool rd
  | 23 => v = .agg #[.int .i64 z1, .int .i64 z2]
  | 24 => v = .int .i64 pn
  | 25 => v = .agg #[.int .i64 k1, .int .i64 k2]
  | 26 => v = .pointer (some ⟨G, 0, none⟩)
  | 27 => v = .pointer (some ⟨G, 0, none⟩)
  | 28 => v = .pointer (some ⟨G, 12, none⟩)
  | 29 => v = .pointer (some ⟨G, 19, none⟩)
  | 30 => v = .slice A s.table.length cap
  | 31 => ∃ (A3 : Option Addr) (c3 : Nat), v = .slice A3 s.table.length c3 ∧ TabRow N2 w A3 c3 s.table
  | 32 => ∃ (A3 : Option Addr) (c3 : Nat), v = .agg #[.int .i64 kind, .int .i64 me, .int .i64 s.lo, .int .i64 s.hi, .int .i64 s.held, .int .i64 s.hops, .bool s.good, .bool rd, .int .i64 z1, .int .i64 z2, .int .i64 pn, .int .i64 k1, .int .i64 k2, .slice A3 s.table.length c3] ∧ TabRow N2 w A3 c3 s.table
  | _ => v = .bool true
/-- It stays so. -/
def VCSay (G E T N2 : Nat) (p : Par) (s : Sta) (A : Option Addr) (cap : Nat) (kind me z1 z2 pn k1 k2 : Int) (rd : Bool) (i : Nat) (v : Value) (w : World) : Prop := ∀ w', Ok w w' → VMSay G E T N2 p s A cap kind me z1 z2 pn k1 k2 rd w' v i
set_option maxHeartbeats 6400000 in
theorem gateSay (R : List Value) (G : Nat) (p : Par) (s0 : Sta) (A : Option Addr) (cap : Nat) (kind me : Int) (rd : Bool) (q1 q2 : Int) (K : Nat) (w : World) (hO : Own w G (frontCellsR R p s0 A cap)) (hTA : TabRow K w A cap s0.table) (hGK : G < K) (hl : s0.table.length ≤ 8796093022208) :
    Calls Tryz.prog 35 #[.pointer (some ⟨G, 0, none⟩), .int .i64 kind, .int .i64 me, .bool rd, spanV q1 q2] w fun e w' => ∃ (A3 : Option Addr) (c3 : Nat), e = .returned (msgV (Gate.say p s0 kind me rd (if rd = true then (q1, q2) else (0, 0))) A3 c3) ∧ Own w' G (frontCellsR R p (Health.stamped s0) A cap) ∧ TabRow w.heap.size w' A3 c3 s0.table ∧ Only G w w' := by
  have KP := Lib.hid fun w h => frontPulse R G p s0 A cap w h
  have KS := Lib.hid fun w h => frontStamp R G p s0 A cap w h
  obtain ⟨pn, hpn⟩ : ∃ y, (if Health.of p s0 = 0 then (0 : Int) else Pulse.num p.pulse s0.time) = y := ⟨_, rfl⟩
  obtain ⟨⟨k1, k2⟩, hk⟩ : ∃ y, Hlc.tick (s0.st, s0.sn) s0.time = y := ⟨_, rfl⟩
  obtain ⟨⟨z1, z2⟩, hz⟩ : ∃ y, (if rd = true then (q1, q2) else ((0 : Int), (0 : Int))) = y := ⟨_, rfl⟩
  obtain ⟨s, hs⟩ : ∃ y, Health.stamped s0 = y := ⟨_, rfl⟩
  generalize (if Health.of p s0 = 0 then (20 : Int) else 0) = er at KP
  obtain ⟨mv, hmv⟩ : ∃ f : Option Addr → Nat → Value, (fun A3 c3 => msgV (Gate.say p s0 kind me rd (if rd = true then (q1, q2) else (0, 0))) A3 c3) = f := ⟨_, rfl⟩
  have hmv' : ∀ A3 c3, msgV (Gate.say p s0 kind me rd (if rd = true then (q1, q2) else (0, 0))) A3 c3 = mv A3 c3 := fun A3 c3 => congrFun (congrFun hmv A3) c3
  simp only [hmv']
  have HMV : Hid (∀ A3 c3, mv A3 c3 = .agg #[.int .i64 kind, .int .i64 me, .int .i64 s.lo, .int .i64 s.hi, .int .i64 s.held, .int .i64 s.hops, .bool s.good, .bool rd, .int .i64 z1, .int .i64 z2, .int .i64 pn, .int .i64 k1, .int .i64 k2, .slice A3 s.table.length c3]) := Lib.hid fun A3 c3 => by
    rw [← hmv', hz, ← hs]
    unfold Gate.say Gate.pulse msgV
    rw [show (Health.stamped s0).st = k1 by show (Hlc.tick (s0.st, s0.sn) s0.time).1 = k1; rw [hk], show (Health.stamped s0).sn = k2 by show (Hlc.tick (s0.st, s0.sn) s0.time).2 = k2; rw [hk]]
    simp only [hpn]
    rfl
  rw [hpn] at KP
  rw [hk] at KS
  have HZT : Hid (rd = true → q1 = z1 ∧ q2 = z2) := Lib.hid fun h => by rw [h] at hz; injection hz with a b; exact ⟨a, b⟩
  have HZF : Hid (rd = false → z1 = 0 ∧ z2 = 0) := Lib.hid fun h => by rw [h] at hz; injection hz with a b; exact ⟨a.symm, b.symm⟩
  rw [hs] at KS ⊢
  have hst : s.table = s0.table := by rw [← hs]; rfl
  have HST := Lib.hid hst
  rw [← hst] at hTA hl
  clear hpn hk hz hs hst hmv hmv'
  have hE := (Own.new w #[.int .i64 q1, .int .i64 q2] 25 rfl).alloc (.cells #[.int .i64 0, .int .i64 0, .int .i64 0, .int .i64 0, .int .i64 0, .int .i64 0, .bool false, .bool false, .int .i64 0, .int .i64 0, .int .i64 0, .int .i64 0, .int .i64 0, .slice none 0 0] 51)
  have hM := Own.new (w.alloc (.cells #[.int .i64 q1, .int .i64 q2] 25)) #[.int .i64 0, .int .i64 0, .int .i64 0, .int .i64 0, .int .i64 0, .int .i64 0, .bool false, .bool false, .int .i64 0, .int .i64 0, .int .i64 0, .int .i64 0, .int .i64 0, .slice none 0 0] 51 (g := w.heap.size + 1) (by simp)
  have hon := ((Only.refl G w).alloc (.cells #[.int .i64 q1, .int .i64 q2] 25)).alloc (.cells #[.int .i64 0, .int .i64 0, .int .i64 0, .int .i64 0, .int .i64 0, .int .i64 0, .bool false, .bool false, .int .i64 0, .int .i64 0, .int .i64 0, .int .i64 0, .int .i64 0, .slice none 0 0] 51)
  have hQ := (hO.alloc (.cells #[.int .i64 q1, .int .i64 q2] 25)).alloc (.cells #[.int .i64 0, .int .i64 0, .int .i64 0, .int .i64 0, .int .i64 0, .int .i64 0, .bool false, .bool false, .int .i64 0, .int .i64 0, .int .i64 0, .int .i64 0, .int .i64 0, .slice none 0 0] 51)
  have hGl := hO.lt
  have HTA := Lib.hid hTA
  have HL := Lib.hid hl
  have HGK := Lib.hid hGK
  clear hO hTA hl hGK
  unfold spanV
  go_enter Tryz.func35, Tryz.ntmps35
  go_upto_region 1 with fail
  change Code.wp _ _ _ _ ((w.alloc (.cells #[.int .i64 q1, .int .i64 q2] 25)).alloc (.cells #[.int .i64 0, .int .i64 0, .int .i64 0, .int .i64 0, .int .i64 0, .int .i64 0, .bool false, .bool false, .int .i64 0, .int .i64 0, .int .i64 0, .int .i64 0, .int .i64 0, .slice none 0 0] 51))
  generalize (w.alloc (.cells #[.int .i64 q1, .int .i64 q2] 25)).alloc (.cells #[.int .i64 0, .int .i64 0, .int .i64 0, .int .i64 0, .int .i64 0, .int .i64 0, .bool false, .bool false, .int .i64 0, .int .i64 0, .int .i64 0, .int .i64 0, .int .i64 0, .slice none 0 0] 51) = W0 at hE hM hon hQ ⊢
  obtain ⟨M, hMe⟩ : ∃ r, w.heap.size + 1 = r := ⟨_, rfl⟩
  obtain ⟨E, hEe⟩ : ∃ r, w.heap.size = r := ⟨_, rfl⟩
  have HD0 : Hid (G ≠ M ∧ w.heap.size ≤ M ∧ w.heap.size ≤ E ∧ G ≠ E ∧ E ≠ M) := Lib.hid ⟨by omega, by omega, by omega, by omega, by omega⟩
  rw [hMe] at hM
  rw [hEe] at hE
  rw [hMe, hEe]
  clear hMe hEe hGl
  go_upto_if 19 with fail
  obtain ⟨nr, hnr⟩ : ∃ b, (!rd) = b := ⟨_, rfl⟩
  rw [hnr]
  have HNR := Lib.hid hnr
  clear hnr
  go_cut [] from 20 to 20 (fun wx => Own wx E #[.int .i64 z1, .int .i64 z2] ∧ Own wx M #[.int .i64 0, .int .i64 0, .int .i64 0, .int .i64 0, .int .i64 0, .int .i64 0, .bool false, .bool false, .int .i64 0, .int .i64 0, .int .i64 0, .int .i64 0, .int .i64 0, .slice none 0 0] ∧ Own wx G (frontCellsR R p s0 A cap) ∧ Only G w wx)
  case first =>
    cases nr with
    | true =>
      have hrd : rd = false := by have := HNR.out; cases rd <;> simp_all
      obtain ⟨y1, y2⟩ := HZF.out hrd
      subst y1 y2
      clear hrd
      have e0 := hE.cell 0 rfl
      have e1 := hE.cell 1 rfl
      have f0 := hE.frozen 0
      have f1 := hE.frozen 1
      have hel := hE.lt
      go_wp2_with fail
      go_meet
      exact ⟨(hE.set 0 (.int .i64 0)).set 1 (.int .i64 0), (hM.setOther (a := ⟨E, 0, none⟩) (Ne.symm HD0.out.2.2.2.2) (.int .i64 0)).setOther (a := ⟨E, 1, none⟩) (Ne.symm HD0.out.2.2.2.2) (.int .i64 0), (hQ.setOther (a := ⟨E, 0, none⟩) HD0.out.2.2.2.1 (.int .i64 0)).setOther (a := ⟨E, 1, none⟩) HD0.out.2.2.2.1 (.int .i64 0), (hon.setN HD0.out.2.2.1 0 (.int .i64 0)).setN HD0.out.2.2.1 1 (.int .i64 0)⟩
    | false =>
      have hrd : rd = true := by have := HNR.out; cases rd <;> simp_all
      obtain ⟨y1, y2⟩ := HZT.out hrd
      subst y1 y2
      clear hrd
      go_wp2_with fail
      go_meet
      exact ⟨hE, hM, hQ, hon⟩
  case rest =>
  clear hE hM hQ hon HZT HZF
  obtain ⟨hE, hM, hQ, hon⟩ := hcut
  go_upto_region 6 with (go_at_call 81; refine (KP.out _ hQ).mono ?_; rintro e w3 ⟨rfl, hb1⟩; replace hQ := hQ.next hb1; replace hE := hE.next hb1; replace hM := hM.next hb1; replace hon := hon.ok hb1; clear hb1)
  go_upto_region 7 with (go_at_call 82; refine (KS.out _ hQ).mono ?_; rintro e w4 ⟨rfl, hQ4, hb1⟩; replace hE := hb1.own hE (Ne.symm HD0.out.2.2.2.1); replace hM := hb1.own hM (Ne.symm HD0.out.1); replace hon := hon.trans hb1; clear hb1 hQ)
  have hT := Own.new w4 #[.int .i64 k1, .int .i64 k2] 28 rfl
  replace hQ4 := hQ4.alloc (.cells #[.int .i64 k1, .int .i64 k2] 28)
  replace hE := hE.alloc (.cells #[.int .i64 k1, .int .i64 k2] 28)
  replace hM := hM.alloc (.cells #[.int .i64 k1, .int .i64 k2] 28)
  replace hon := hon.alloc (.cells #[.int .i64 k1, .int .i64 k2] 28)
  change Code.wp _ _ _ _ (w4.alloc (.cells #[.int .i64 k1, .int .i64 k2] 28))
  generalize w4.alloc (.cells #[.int .i64 k1, .int .i64 k2] 28) = W at hT hQ4 hE hM hon ⊢
  generalize w4.heap.size = T at hT ⊢
  obtain ⟨N2, hN2⟩ : ∃ r, W.drew.heap.size = r := ⟨_, rfl⟩
  have HN := Lib.hid hN2
  have HD : Hid (G ≠ M ∧ w.heap.size ≤ M ∧ M < N2) := Lib.hid ⟨HD0.out.1, HD0.out.2.1, hN2 ▸ hM.drew.lt⟩
  have HD2 : Hid (w.heap.size ≤ N2) := Lib.hid (hN2 ▸ hon.size)
  clear hN2 KP KS
  have HA := Lib.hid fun W' (k : Ok W.drew W') => ((HTA.out.only ((hon.ok (Ok.refl W).drew).ok k) HGK.out).pairs).1
  have hq := hQ4
  clear hQ4
  have HQ := Lib.hid fun W' (k : Ok W.drew W') => hq.drew.next k
  have HE := Lib.hid fun W' (k : Ok W.drew W') => hE.drew.next k
  have HT := Lib.hid fun W' (k : Ok W.drew W') => hT.drew.next k
  have HM := Lib.hid fun W' (k : Ok W.drew W') => hM.drew.next k
  have HON := Lib.hid hon
  clear hq hE hT hM hon
  refine wp_region_facts_end (by kernel_rfl) 4 64 rfl (VCSay G E T N2 p s A cap kind me z1 z2 pn k1 k2 rd) Ok _ rfl _ 33 rfl rfl rfl rfl (by kernel_rfl) (by kernel_rfl) (by kernel_rfl) (fun i v w w' h k w'' k' => h w'' (k.trans k')) (fun a b c => Ok.trans) (Ok.refl _) [some 31, some 32, some 33, some 34, some 35, some 36, some 37, some 38, some 39, some 40, some 41, some 42, some 43, some 44, some 45, some 46, some 47, some 48, some 49, some 50, some 51, some 52, some 53, some 54, some 55, some 56, some 57, some 58, some 59, some 60, some 61, some 62, some 63] rfl ⟨?_, ?_, ?_, ?_, ?_, ?_, ?_, ?_, ?_, ?_, ?_, ?_, ?_, ?_, ?_, ?_, ?_, ?_, ?_, ?_, ?_, ?_, ?_, ?_, ?_, ?_, ?_, ?_, ?_, ?_, ?_, ?_, ?_, trivial⟩ ?_
  · intro a' w' hF hR
    have e1 : a'.tmps[1]? = some (.int .i64 kind) := hF.slot 1 (by kernel_rfl) rfl
    refine wpOp_run (v := .int .i64 kind) rfl rfl ?_ (fun _ _ => rfl) (Ok.refl _)
    clear hF
    go_simp
  · intro a' w' hF hR
    have e2 : a'.tmps[2]? = some (.int .i64 me) := hF.slot 2 (by kernel_rfl) rfl
    refine wpOp_run (v := .int .i64 me) rfl rfl ?_ (fun _ _ => rfl) (Ok.refl _)
    clear hF
    go_simp
  · intro a' w' hF hR
    have e0 : a'.tmps[0]? = some (.pointer (some ⟨G, 0, none⟩)) := hF.slot 0 (by kernel_rfl) rfl
    refine wpOp_run (v := .pointer (some ⟨G, 0, none⟩)) rfl rfl ?_ (fun _ _ => rfl) (Ok.refl _)
    clear hF
    go_simp
  · intro a' w' hF hR
    obtain ⟨v2, hv2, e33⟩ := hF.get 2 33 (by kernel_rfl) (by kernel_rfl)
    obtain rfl : v2 = _ := hv2 _ (Ok.refl _)
    refine wpOp_run (v := .pointer (some ⟨G, 0, none⟩)) rfl rfl ?_ (fun _ _ => rfl) (Ok.refl _)
    clear hF
    go_simp
  · intro a' w' hF hR
    obtain ⟨v3, hv3, e34⟩ := hF.get 3 34 (by kernel_rfl) (by kernel_rfl)
    obtain rfl : v3 = _ := hv3 _ (Ok.refl _)
    refine wpOp_run (v := .pointer (some ⟨G, 12, none⟩)) rfl rfl ?_ (fun _ _ => rfl) (Ok.refl _)
    clear hF
    go_simp
  · intro a' w' hF hR
    obtain ⟨v4, hv4, e35⟩ := hF.get 4 35 (by kernel_rfl) (by kernel_rfl)
    obtain rfl : v4 = _ := hv4 _ (Ok.refl _)
    refine wpOp_run (v := .pointer (some ⟨G, 12, none⟩)) rfl rfl ?_ (fun _ _ => rfl) (Ok.refl _)
    clear hF
    go_simp
  · intro a' w' hF hR
    obtain ⟨v5, hv5, e36⟩ := hF.get 5 36 (by kernel_rfl) (by kernel_rfl)
    obtain rfl : v5 = _ := hv5 _ (Ok.refl _)
    obtain ⟨s0, s1, s2, s3, s4, s5, s6, s7, s8, s9, s10⟩ := (HQ.out _ hR).frS
    have hgl := (HQ.out _ hR).lt
    refine wpOp_run (v := .agg #[.int .i64 s.lo, .int .i64 s.hi]) rfl rfl ?_ (fun _ _ => rfl) (Ok.refl _)
    clear hF
    go_simp
  · intro a' w' hF hR
    have e0 : a'.tmps[0]? = some (.pointer (some ⟨G, 0, none⟩)) := hF.slot 0 (by kernel_rfl) rfl
    refine wpOp_run (v := .pointer (some ⟨G, 0, none⟩)) rfl rfl ?_ (fun _ _ => rfl) (Ok.refl _)
    clear hF
    go_simp
  · intro a' w' hF hR
    obtain ⟨v7, hv7, e38⟩ := hF.get 7 38 (by kernel_rfl) (by kernel_rfl)
    obtain rfl : v7 = _ := hv7 _ (Ok.refl _)
    refine wpOp_run (v := .pointer (some ⟨G, 0, none⟩)) rfl rfl ?_ (fun _ _ => rfl) (Ok.refl _)
    clear hF
    go_simp
  · intro a' w' hF hR
    obtain ⟨v8, hv8, e39⟩ := hF.get 8 39 (by kernel_rfl) (by kernel_rfl)
    obtain rfl : v8 = _ := hv8 _ (Ok.refl _)
    refine wpOp_run (v := .pointer (some ⟨G, 12, none⟩)) rfl rfl ?_ (fun _ _ => rfl) (Ok.refl _)
    clear hF
    go_simp
  · intro a' w' hF hR
    obtain ⟨v9, hv9, e40⟩ := hF.get 9 40 (by kernel_rfl) (by kernel_rfl)
    obtain rfl : v9 = _ := hv9 _ (Ok.refl _)
    refine wpOp_run (v := .pointer (some ⟨G, 16, none⟩)) rfl rfl ?_ (fun _ _ => rfl) (Ok.refl _)
    clear hF
    go_simp
  · intro a' w' hF hR
    obtain ⟨v10, hv10, e41⟩ := hF.get 10 41 (by kernel_rfl) (by kernel_rfl)
    obtain rfl : v10 = _ := hv10 _ (Ok.refl _)
    obtain ⟨s0, s1, s2, s3, s4, s5, s6, s7, s8, s9, s10⟩ := (HQ.out _ hR).frS
    have hgl := (HQ.out _ hR).lt
    refine wpOp_run (v := .int .i64 s.held) rfl rfl ?_ (fun _ _ => rfl) (Ok.refl _)
    clear hF
    go_simp
  · intro a' w' hF hR
    have e0 : a'.tmps[0]? = some (.pointer (some ⟨G, 0, none⟩)) := hF.slot 0 (by kernel_rfl) rfl
    refine wpOp_run (v := .pointer (some ⟨G, 0, none⟩)) rfl rfl ?_ (fun _ _ => rfl) (Ok.refl _)
    clear hF
    go_simp
  · intro a' w' hF hR
    obtain ⟨v12, hv12, e43⟩ := hF.get 12 43 (by kernel_rfl) (by kernel_rfl)
    obtain rfl : v12 = _ := hv12 _ (Ok.refl _)
    refine wpOp_run (v := .pointer (some ⟨G, 0, none⟩)) rfl rfl ?_ (fun _ _ => rfl) (Ok.refl _)
    clear hF
    go_simp
  · intro a' w' hF hR
    obtain ⟨v13, hv13, e44⟩ := hF.get 13 44 (by kernel_rfl) (by kernel_rfl)
    obtain rfl : v13 = _ := hv13 _ (Ok.refl _)
    refine wpOp_run (v := .pointer (some ⟨G, 12, none⟩)) rfl rfl ?_ (fun _ _ => rfl) (Ok.refl _)
    clear hF
    go_simp
  · intro a' w' hF hR
    obtain ⟨v14, hv14, e45⟩ := hF.get 14 45 (by kernel_rfl) (by kernel_rfl)
    obtain rfl : v14 = _ := hv14 _ (Ok.refl _)
    refine wpOp_run (v := .pointer (some ⟨G, 17, none⟩)) rfl rfl ?_ (fun _ _ => rfl) (Ok.refl _)
    clear hF
    go_simp
  · intro a' w' hF hR
    obtain ⟨v15, hv15, e46⟩ := hF.get 15 46 (by kernel_rfl) (by kernel_rfl)
    obtain rfl : v15 = _ := hv15 _ (Ok.refl _)
    obtain ⟨s0, s1, s2, s3, s4, s5, s6, s7, s8, s9, s10⟩ := (HQ.out _ hR).frS
    have hgl := (HQ.out _ hR).lt
    refine wpOp_run (v := .int .i64 s.hops) rfl rfl ?_ (fun _ _ => rfl) (Ok.refl _)
    clear hF
    go_simp
  · intro a' w' hF hR
    have e0 : a'.tmps[0]? = some (.pointer (some ⟨G, 0, none⟩)) := hF.slot 0 (by kernel_rfl) rfl
    refine wpOp_run (v := .pointer (some ⟨G, 0, none⟩)) rfl rfl ?_ (fun _ _ => rfl) (Ok.refl _)
    clear hF
    go_simp
  · intro a' w' hF hR
    obtain ⟨v17, hv17, e48⟩ := hF.get 17 48 (by kernel_rfl) (by kernel_rfl)
    obtain rfl : v17 = _ := hv17 _ (Ok.refl _)
    refine wpOp_run (v := .pointer (some ⟨G, 0, none⟩)) rfl rfl ?_ (fun _ _ => rfl) (Ok.refl _)
    clear hF
    go_simp
  · intro a' w' hF hR
    obtain ⟨v18, hv18, e49⟩ := hF.get 18 49 (by kernel_rfl) (by kernel_rfl)
    obtain rfl : v18 = _ := hv18 _ (Ok.refl _)
    refine wpOp_run (v := .pointer (some ⟨G, 12, none⟩)) rfl rfl ?_ (fun _ _ => rfl) (Ok.refl _)
    clear hF
    go_simp
  · intro a' w' hF hR
    obtain ⟨v19, hv19, e50⟩ := hF.get 19 50 (by kernel_rfl) (by kernel_rfl)
    obtain rfl : v19 = _ := hv19 _ (Ok.refl _)
    refine wpOp_run (v := .pointer (some ⟨G, 18, none⟩)) rfl rfl ?_ (fun _ _ => rfl) (Ok.refl _)
    clear hF
    go_simp
  · intro a' w' hF hR
    obtain ⟨v20, hv20, e51⟩ := hF.get 20 51 (by kernel_rfl) (by kernel_rfl)
    obtain rfl : v20 = _ := hv20 _ (Ok.refl _)
    obtain ⟨s0, s1, s2, s3, s4, s5, s6, s7, s8, s9, s10⟩ := (HQ.out _ hR).frS
    have hgl := (HQ.out _ hR).lt
    refine wpOp_run (v := .bool s.good) rfl rfl ?_ (fun _ _ => rfl) (Ok.refl _)
    clear hF
    go_simp
  · intro a' w' hF hR
    have e3 : a'.tmps[3]? = some (.bool rd) := hF.slot 3 (by kernel_rfl) rfl
    refine wpOp_run (v := .bool rd) rfl rfl ?_ (fun _ _ => rfl) (Ok.refl _)
    clear hF
    go_simp
  · intro a' w' hF hR
    have e9 : a'.tmps[9]? = some (.pointer (some ⟨E, 0, none⟩)) := hF.slot 9 (by kernel_rfl) rfl
    have e0 := (HE.out _ hR).cell 0 (v := .int .i64 z1) rfl
    have e1 := (HE.out _ hR).cell 1 (v := .int .i64 z2) rfl
    have hel := (HE.out _ hR).lt
    refine wpOp_run (v := .agg #[.int .i64 z1, .int .i64 z2]) rfl rfl ?_ (fun _ _ => rfl) (Ok.refl _)
    clear hF
    go_simp
  · intro a' w' hF hR
    have e11 : a'.tmps[11]? = some (.int .i64 pn) := hF.slot 11 (by kernel_rfl) rfl
    refine wpOp_run (v := .int .i64 pn) rfl rfl ?_ (fun _ _ => rfl) (Ok.refl _)
    clear hF
    go_simp
  · intro a' w' hF hR
    have e13 : a'.tmps[13]? = some (.pointer (some ⟨T, 0, none⟩)) := hF.slot 13 (by kernel_rfl) rfl
    have t0 := (HT.out _ hR).cell 0 (v := .int .i64 k1) rfl
    have t1 := (HT.out _ hR).cell 1 (v := .int .i64 k2) rfl
    have htl := (HT.out _ hR).lt
    refine wpOp_run (v := .agg #[.int .i64 k1, .int .i64 k2]) rfl rfl ?_ (fun _ _ => rfl) (Ok.refl _)
    clear hF
    go_simp
  · intro a' w' hF hR
    have e0 : a'.tmps[0]? = some (.pointer (some ⟨G, 0, none⟩)) := hF.slot 0 (by kernel_rfl) rfl
    refine wpOp_run (v := .pointer (some ⟨G, 0, none⟩)) rfl rfl ?_ (fun _ _ => rfl) (Ok.refl _)
    clear hF
    go_simp
  · intro a' w' hF hR
    obtain ⟨v26, hv26, e57⟩ := hF.get 26 57 (by kernel_rfl) (by kernel_rfl)
    obtain rfl : v26 = _ := hv26 _ (Ok.refl _)
    refine wpOp_run (v := .pointer (some ⟨G, 0, none⟩)) rfl rfl ?_ (fun _ _ => rfl) (Ok.refl _)
    clear hF
    go_simp
  · intro a' w' hF hR
    obtain ⟨v27, hv27, e58⟩ := hF.get 27 58 (by kernel_rfl) (by kernel_rfl)
    obtain rfl : v27 = _ := hv27 _ (Ok.refl _)
    refine wpOp_run (v := .pointer (some ⟨G, 12, none⟩)) rfl rfl ?_ (fun _ _ => rfl) (Ok.refl _)
    clear hF
    go_simp
  · intro a' w' hF hR
    obtain ⟨v28, hv28, e59⟩ := hF.get 28 59 (by kernel_rfl) (by kernel_rfl)
    obtain rfl : v28 = _ := hv28 _ (Ok.refl _)
    refine wpOp_run (v := .pointer (some ⟨G, 19, none⟩)) rfl rfl ?_ (fun _ _ => rfl) (Ok.refl _)
    clear hF
    go_simp
  · intro a' w' hF hR
    obtain ⟨v29, hv29, e60⟩ := hF.get 29 60 (by kernel_rfl) (by kernel_rfl)
    obtain rfl : v29 = _ := hv29 _ (Ok.refl _)
    obtain ⟨s0, s1, s2, s3, s4, s5, s6, s7, s8, s9, s10⟩ := (HQ.out _ hR).frS
    have hgl := (HQ.out _ hR).lt
    refine wpOp_run (v := .slice A s.table.length cap) rfl rfl ?_ (fun _ _ => rfl) (Ok.refl _)
    clear hF
    go_simp
  · intro a' w' hF hR
    obtain ⟨v30, hv30, e61⟩ := hF.get 30 61 (by kernel_rfl) (by kernel_rfl)
    obtain rfl : v30 = _ := hv30 _ (Ok.refl _)
    clear hF
    refine wpOp_call (f := 83) (args := #[.slice A s.table.length cap]) rfl rfl ?_ ((cloneRow _ _ _ _ (HA.out _ hR) HL.out).mono ?_)
    · go_simp
    · rintro e w2 ⟨v2, rfl, hrow, hb2⟩
      obtain ⟨A3, c3, rfl, -⟩ := PairsAt.of_own hrow
      exact ⟨_, rfl, fun w3 k => ⟨A3, c3, rfl, (TabRow.mono (show TabRow _ w2 A3 c3 s.table from hrow) (HN.out ▸ hR.size)).next k⟩, hb2⟩
  · intro a' w' hF hR
    obtain ⟨v0, hv0, e31⟩ := hF.get 0 31 (by kernel_rfl) (by kernel_rfl)
    obtain rfl : v0 = _ := hv0 _ (Ok.refl _)
    obtain ⟨v1, hv1, e32⟩ := hF.get 1 32 (by kernel_rfl) (by kernel_rfl)
    obtain rfl : v1 = _ := hv1 _ (Ok.refl _)
    obtain ⟨v6, hv6, e37⟩ := hF.get 6 37 (by kernel_rfl) (by kernel_rfl)
    obtain rfl : v6 = _ := hv6 _ (Ok.refl _)
    obtain ⟨v11, hv11, e42⟩ := hF.get 11 42 (by kernel_rfl) (by kernel_rfl)
    obtain rfl : v11 = _ := hv11 _ (Ok.refl _)
    obtain ⟨v16, hv16, e47⟩ := hF.get 16 47 (by kernel_rfl) (by kernel_rfl)
    obtain rfl : v16 = _ := hv16 _ (Ok.refl _)
    obtain ⟨v21, hv21, e52⟩ := hF.get 21 52 (by kernel_rfl) (by kernel_rfl)
    obtain rfl : v21 = _ := hv21 _ (Ok.refl _)
    obtain ⟨v22, hv22, e53⟩ := hF.get 22 53 (by kernel_rfl) (by kernel_rfl)
    obtain rfl : v22 = _ := hv22 _ (Ok.refl _)
    obtain ⟨v23, hv23, e54⟩ := hF.get 23 54 (by kernel_rfl) (by kernel_rfl)
    obtain rfl : v23 = _ := hv23 _ (Ok.refl _)
    obtain ⟨v24, hv24, e55⟩ := hF.get 24 55 (by kernel_rfl) (by kernel_rfl)
    obtain rfl : v24 = _ := hv24 _ (Ok.refl _)
    obtain ⟨v25, hv25, e56⟩ := hF.get 25 56 (by kernel_rfl) (by kernel_rfl)
    obtain rfl : v25 = _ := hv25 _ (Ok.refl _)
    obtain ⟨v31, hv31, e62⟩ := hF.get 31 62 (by kernel_rfl) (by kernel_rfl)
    obtain ⟨A3, c3, rfl, hT3⟩ := hv31 _ (Ok.refl _)
    refine wpOp_run (v := .agg #[.int .i64 kind, .int .i64 me, .int .i64 s.lo, .int .i64 s.hi, .int .i64 s.held, .int .i64 s.hops, .bool s.good, .bool rd, .int .i64 z1, .int .i64 z2, .int .i64 pn, .int .i64 k1, .int .i64 k2, .slice A3 s.table.length c3]) rfl rfl ?_ (fun w'' k => ⟨A3, c3, rfl, hT3.next k⟩) (Ok.refl _)
    clear hF
    go_simp
  intro vs W' hvs hR
  obtain ⟨A3, c3, e32, hT3⟩ := hvs 32 (by decide) _ (Ok.refl _)
  have hM := HM.out _ hR
  have hQ := HQ.out _ hR
  have hon := (HON.out.ok (Ok.refl W).drew).ok hR
  clear hvs HQ HE HT HM HA HON
  have m0 := hM.cell 0 rfl
  have m1 := hM.cell 1 rfl
  have m2 := hM.cell 2 rfl
  have m3 := hM.cell 3 rfl
  have m4 := hM.cell 4 rfl
  have m5 := hM.cell 5 rfl
  have m6 := hM.cell 6 rfl
  have m7 := hM.cell 7 rfl
  have m8 := hM.cell 8 rfl
  have m9 := hM.cell 9 rfl
  have m10 := hM.cell 10 rfl
  have m11 := hM.cell 11 rfl
  have m12 := hM.cell 12 rfl
  have m13 := hM.cell 13 rfl
  have f0 := hM.frozen 0
  have f1 := hM.frozen 1
  have f2 := hM.frozen 2
  have f3 := hM.frozen 3
  have f4 := hM.frozen 4
  have f5 := hM.frozen 5
  have f6 := hM.frozen 6
  have f7 := hM.frozen 7
  have f8 := hM.frozen 8
  have f9 := hM.frozen 9
  have f10 := hM.frozen 10
  have f11 := hM.frozen 11
  have f12 := hM.frozen 12
  have f13 := hM.frozen 13
  have hml := hM.lt
  simp only [putFrom, e32]
  simp only [Act.put, List.setIfInBounds_toArray, List.set_cons_zero, List.set_cons_succ]
  refine wpOp_store (w' := ((((((((((((((W'.setCell ⟨M, 0, none⟩ (.int .i64 kind)).setCell ⟨M, 1, none⟩ (.int .i64 me)).setCell ⟨M, 2, none⟩ (.int .i64 s.lo)).setCell ⟨M, 3, none⟩ (.int .i64 s.hi)).setCell ⟨M, 4, none⟩ (.int .i64 s.held)).setCell ⟨M, 5, none⟩ (.int .i64 s.hops)).setCell ⟨M, 6, none⟩ (.bool s.good)).setCell ⟨M, 7, none⟩ (.bool rd)).setCell ⟨M, 8, none⟩ (.int .i64 z1)).setCell ⟨M, 9, none⟩ (.int .i64 z2)).setCell ⟨M, 10, none⟩ (.int .i64 pn)).setCell ⟨M, 11, none⟩ (.int .i64 k1)).setCell ⟨M, 12, none⟩ (.int .i64 k2)).setCell ⟨M, 13, none⟩ (.slice A3 s.table.length c3))) rfl rfl rfl ?_ ?_
  · go_simp
  clear m0 f0 m1 f1 m2 f2 m3 f3 m4 f4 m5 f5 m6 f6 m7 f7 m8 f8 m9 f9 m10 f10 m11 f11 m12 f12 m13 f13 hml e32
  replace hM := own_over14 hM (.int .i64 kind) (.int .i64 me) (.int .i64 s.lo) (.int .i64 s.hi) (.int .i64 s.held) (.int .i64 s.hops) (.bool s.good) (.bool rd) (.int .i64 z1) (.int .i64 z2) (.int .i64 pn) (.int .i64 k1) (.int .i64 k2) (.slice A3 s.table.length c3)
  replace hQ := ((((((((((((((hQ.setOther (a := ⟨M, 0, none⟩) HD.out.1 (.int .i64 kind)).setOther (a := ⟨M, 1, none⟩) HD.out.1 (.int .i64 me)).setOther (a := ⟨M, 2, none⟩) HD.out.1 (.int .i64 s.lo)).setOther (a := ⟨M, 3, none⟩) HD.out.1 (.int .i64 s.hi)).setOther (a := ⟨M, 4, none⟩) HD.out.1 (.int .i64 s.held)).setOther (a := ⟨M, 5, none⟩) HD.out.1 (.int .i64 s.hops)).setOther (a := ⟨M, 6, none⟩) HD.out.1 (.bool s.good)).setOther (a := ⟨M, 7, none⟩) HD.out.1 (.bool rd)).setOther (a := ⟨M, 8, none⟩) HD.out.1 (.int .i64 z1)).setOther (a := ⟨M, 9, none⟩) HD.out.1 (.int .i64 z2)).setOther (a := ⟨M, 10, none⟩) HD.out.1 (.int .i64 pn)).setOther (a := ⟨M, 11, none⟩) HD.out.1 (.int .i64 k1)).setOther (a := ⟨M, 12, none⟩) HD.out.1 (.int .i64 k2)).setOther (a := ⟨M, 13, none⟩) HD.out.1 (.slice A3 s.table.length c3))
  replace hon := ((((((((((((((hon.setN HD.out.2.1 0 (.int .i64 kind)).setN HD.out.2.1 1 (.int .i64 me)).setN HD.out.2.1 2 (.int .i64 s.lo)).setN HD.out.2.1 3 (.int .i64 s.hi)).setN HD.out.2.1 4 (.int .i64 s.held)).setN HD.out.2.1 5 (.int .i64 s.hops)).setN HD.out.2.1 6 (.bool s.good)).setN HD.out.2.1 7 (.bool rd)).setN HD.out.2.1 8 (.int .i64 z1)).setN HD.out.2.1 9 (.int .i64 z2)).setN HD.out.2.1 10 (.int .i64 pn)).setN HD.out.2.1 11 (.int .i64 k1)).setN HD.out.2.1 12 (.int .i64 k2)).setN HD.out.2.1 13 (.slice A3 s.table.length c3))
  replace hT3 := (TabRow.set (TabRow.set (TabRow.set (TabRow.set (TabRow.set (TabRow.set (TabRow.set (TabRow.set (TabRow.set (TabRow.set (TabRow.set (TabRow.set (TabRow.set (TabRow.set hT3 (p := ⟨M, 0, none⟩) HD.out.2.2 (.int .i64 kind)) (p := ⟨M, 1, none⟩) HD.out.2.2 (.int .i64 me)) (p := ⟨M, 2, none⟩) HD.out.2.2 (.int .i64 s.lo)) (p := ⟨M, 3, none⟩) HD.out.2.2 (.int .i64 s.hi)) (p := ⟨M, 4, none⟩) HD.out.2.2 (.int .i64 s.held)) (p := ⟨M, 5, none⟩) HD.out.2.2 (.int .i64 s.hops)) (p := ⟨M, 6, none⟩) HD.out.2.2 (.bool s.good)) (p := ⟨M, 7, none⟩) HD.out.2.2 (.bool rd)) (p := ⟨M, 8, none⟩) HD.out.2.2 (.int .i64 z1)) (p := ⟨M, 9, none⟩) HD.out.2.2 (.int .i64 z2)) (p := ⟨M, 10, none⟩) HD.out.2.2 (.int .i64 pn)) (p := ⟨M, 11, none⟩) HD.out.2.2 (.int .i64 k1)) (p := ⟨M, 12, none⟩) HD.out.2.2 (.int .i64 k2)) (p := ⟨M, 13, none⟩) HD.out.2.2 (.slice A3 s.table.length c3))
  generalize ((((((((((((((W'.setCell ⟨M, 0, none⟩ (.int .i64 kind)).setCell ⟨M, 1, none⟩ (.int .i64 me)).setCell ⟨M, 2, none⟩ (.int .i64 s.lo)).setCell ⟨M, 3, none⟩ (.int .i64 s.hi)).setCell ⟨M, 4, none⟩ (.int .i64 s.held)).setCell ⟨M, 5, none⟩ (.int .i64 s.hops)).setCell ⟨M, 6, none⟩ (.bool s.good)).setCell ⟨M, 7, none⟩ (.bool rd)).setCell ⟨M, 8, none⟩ (.int .i64 z1)).setCell ⟨M, 9, none⟩ (.int .i64 z2)).setCell ⟨M, 10, none⟩ (.int .i64 pn)).setCell ⟨M, 11, none⟩ (.int .i64 k1)).setCell ⟨M, 12, none⟩ (.int .i64 k2)).setCell ⟨M, 13, none⟩ (.slice A3 s.table.length c3)) = W9 at hM hQ hon hT3 ⊢
  generalize vs 0 = x20
  generalize vs 1 = x21
  generalize vs 2 = x22
  generalize vs 3 = x23
  generalize vs 4 = x24
  generalize vs 5 = x25
  generalize vs 6 = x26
  generalize vs 7 = x27
  generalize vs 8 = x28
  generalize vs 9 = x29
  generalize vs 10 = x30
  generalize vs 11 = x31
  generalize vs 12 = x32
  generalize vs 13 = x33
  generalize vs 14 = x34
  generalize vs 15 = x35
  generalize vs 16 = x36
  generalize vs 17 = x37
  generalize vs 18 = x38
  generalize vs 19 = x39
  generalize vs 20 = x40
  generalize vs 21 = x41
  generalize vs 22 = x42
  generalize vs 23 = x43
  generalize vs 24 = x44
  generalize vs 25 = x45
  generalize vs 26 = x46
  generalize vs 27 = x47
  generalize vs 28 = x48
  generalize vs 29 = x49
  generalize vs 30 = x50
  generalize vs 31 = x51
  clear hR vs
  have m0 := hM.cell 0 rfl
  have m1 := hM.cell 1 rfl
  have m2 := hM.cell 2 rfl
  have m3 := hM.cell 3 rfl
  have m4 := hM.cell 4 rfl
  have m5 := hM.cell 5 rfl
  have m6 := hM.cell 6 rfl
  have m7 := hM.cell 7 rfl
  have m8 := hM.cell 8 rfl
  have m9 := hM.cell 9 rfl
  have m10 := hM.cell 10 rfl
  have m11 := hM.cell 11 rfl
  have m12 := hM.cell 12 rfl
  have m13 := hM.cell 13 rfl
  have hml := hM.lt
  go_wp2_with fail
  exact bodyPost_ret (v := .agg #[.int .i64 kind, .int .i64 me, .int .i64 s.lo, .int .i64 s.hi, .int .i64 s.held, .int .i64 s.hops, .bool s.good, .bool rd, .int .i64 z1, .int .i64 z2, .int .i64 pn, .int .i64 k1, .int .i64 k2, .slice A3 s.table.length c3]) (by simp [results, Tryz.results35, go_sem, m0, m1, m2, m3, m4, m5, m6, m7, m8, m9, m10, m11, m12, m13]) rfl ⟨A3, c3, by rw [HMV.out], hQ, by rw [← HST.out]; exact TabRow.mono hT3 HD2.out, hon⟩
end Go.Proofs.YtmokofblmkeloaaGreatDoor
