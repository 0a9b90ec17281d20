/- Several texts of mine in one: C21b, C21c. -/
import Derived.Test.YtmmiboblofopgaaGreatB12
import Derived.Test.YtmmiboblofopgaaGreatB03
import Derived.Test.YtmmiboblofopgaaGreatMA
import Derived.Deep.RegionLaw
import Derived.Deep.CutRange
/- Contracts of layer 21: a state that is stored whole; the document's Jumps, Stamped, Listen and Same; the law's long. -/
namespace Go.Proofs.YtmmiboblofopgaaGreat
open Go.RowKit
set_option linter.unusedVariables false
set_option maxRecDepth 100000
attribute [local go_sem ↓] Go.wp_at_zero Go.wp_at_succ
/-- A state is stored over another. -/
theorem own_set11 {w : World} {g : Nat} {u : Sta} {B : Option Addr} {d : Nat} (h : Own w g (staCells u B d)) (s : Sta) (A : Option Addr) (cap : Nat) : Own (((((((((((w.setCell ⟨g, 0, none⟩ (.int .i64 s.lo)).setCell ⟨g, 1, none⟩ (.int .i64 s.hi)).setCell ⟨g, 2, none⟩ (.int .i64 s.time)).setCell ⟨g, 3, none⟩ (.bool s.set)).setCell ⟨g, 4, none⟩ (.int .i64 s.held)).setCell ⟨g, 5, none⟩ (.int .i64 s.hops)).setCell ⟨g, 6, none⟩ (.bool s.good)).setCell ⟨g, 7, none⟩ (.slice A s.table.length cap)).setCell ⟨g, 8, none⟩ (.int .i64 s.st)).setCell ⟨g, 9, none⟩ (.int .i64 s.sn)).setCell ⟨g, 10, none⟩ (.int .i64 s.life)) g (staCells s A cap) := by
  have e : ((((((((((((staCells u B d).set! 0 (.int .i64 s.lo)).set! 1 (.int .i64 s.hi)).set! 2 (.int .i64 s.time)).set! 3 (.bool s.set)).set! 4 (.int .i64 s.held)).set! 5 (.int .i64 s.hops)).set! 6 (.bool s.good)).set! 7 (.slice A s.table.length cap)).set! 8 (.int .i64 s.st)).set! 9 (.int .i64 s.sn)).set! 10 (.int .i64 s.life)) = staCells s A cap := by simp [staCells]
  rw [← e]
  exact (((((((((((h.set 0 (.int .i64 s.lo)).set 1 (.int .i64 s.hi)).set 2 (.int .i64 s.time)).set 3 (.bool s.set)).set 4 (.int .i64 s.held)).set 5 (.int .i64 s.hops)).set 6 (.bool s.good)).set 7 (.slice A s.table.length cap)).set 8 (.int .i64 s.st)).set 9 (.int .i64 s.sn)).set 10 (.int .i64 s.life))
theorem ok_set11 {w0 w : World} {g : Nat} (h : Ok w0 w) (hg : w0.heap.size ≤ g) (s : Sta) (A : Option Addr) (cap : Nat) : Ok w0 (((((((((((w.setCell ⟨g, 0, none⟩ (.int .i64 s.lo)).setCell ⟨g, 1, none⟩ (.int .i64 s.hi)).setCell ⟨g, 2, none⟩ (.int .i64 s.time)).setCell ⟨g, 3, none⟩ (.bool s.set)).setCell ⟨g, 4, none⟩ (.int .i64 s.held)).setCell ⟨g, 5, none⟩ (.int .i64 s.hops)).setCell ⟨g, 6, none⟩ (.bool s.good)).setCell ⟨g, 7, none⟩ (.slice A s.table.length cap)).setCell ⟨g, 8, none⟩ (.int .i64 s.st)).setCell ⟨g, 9, none⟩ (.int .i64 s.sn)).setCell ⟨g, 10, none⟩ (.int .i64 s.life)) :=
  (((((((((((h.setCell (p := ⟨g, 0, none⟩) hg (.int .i64 s.lo)).setCell (p := ⟨g, 1, none⟩) hg (.int .i64 s.hi)).setCell (p := ⟨g, 2, none⟩) hg (.int .i64 s.time)).setCell (p := ⟨g, 3, none⟩) hg (.bool s.set)).setCell (p := ⟨g, 4, none⟩) hg (.int .i64 s.held)).setCell (p := ⟨g, 5, none⟩) hg (.int .i64 s.hops)).setCell (p := ⟨g, 6, none⟩) hg (.bool s.good)).setCell (p := ⟨g, 7, none⟩) hg (.slice A s.table.length cap)).setCell (p := ⟨g, 8, none⟩) hg (.int .i64 s.st)).setCell (p := ⟨g, 9, none⟩) hg (.int .i64 s.sn)).setCell (p := ⟨g, 10, none⟩) hg (.int .i64 s.life))
/-- No state. -/
def zeroSta : Sta := ⟨0, 0, 0, false, 0, 0, false, [], 0, 0, 0⟩
theorem frozenSta {W : World} {g : Nat} {cs : Array Value} (h : Own W g cs) : W.frozen? ⟨g, 0, none⟩ = false ∧ W.frozen? ⟨g, 1, none⟩ = false ∧ W.frozen? ⟨g, 2, none⟩ = false ∧ W.frozen? ⟨g, 3, none⟩ = false ∧ W.frozen? ⟨g, 4, none⟩ = false ∧ W.frozen? ⟨g, 5, none⟩ = false ∧ W.frozen? ⟨g, 6, none⟩ = false ∧ W.frozen? ⟨g, 7, none⟩ = false ∧ W.frozen? ⟨g, 8, none⟩ = false ∧ W.frozen? ⟨g, 9, none⟩ = false ∧ W.frozen? ⟨g, 10, none⟩ = false := ⟨h.frozen 0, h.frozen 1, h.frozen 2, h.frozen 3, h.frozen 4, h.frozen 5, h.frozen 6, h.frozen 7, h.frozen 8, h.frozen 9, h.frozen 10⟩
/-- What each operation leaves. -/
def VMJ21 (B H G : Nat) (p : Par) (s u : Sta) (ticks tm z q : Int) (w : World) (v : Value) : Nat → Prop
  | 0 => v = .pointer (some ⟨G, 0, none⟩)
  | 1 => v = spanV u.lo u.hi
  | 2 => v = .int .i64 tm
  | 3 => v = .pointer (some ⟨H, 2, none⟩)
  | 4 => v = .int .i64 s.time
  | 5 => v = .int .i64 ticks
  | 6 => ∃ n : Addr, v = .slice (some n) 2 2 ∧ IntsAt w (some n) [s.time, ticks]
  | 7 => v = .int .i64 z
  | 8 => v = .int .i64 q
  | 9 => v = .int .i64 q
  | _ => v = .bool true
/-- It stays so. -/
def VCJ21 (B H G : Nat) (p : Par) (s u : Sta) (ticks tm z q : Int) (i : Nat) (v : Value) (w : World) : Prop := ∀ w', Ok w w' → VMJ21 B H G p s u ticks tm z q w' v i
set_option maxHeartbeats 1600000 in
theorem ref21Jumps (p : Par) (s : Sta) (A : Option Addr) (cap : Nat) (ticks : Int) (u : Sta) (C : Option Addr) (cup : Nat) (w : World) : Calls Tryz.prog 90 #[parV p, staV s A cap, .int .i64 ticks, staV u C cup] w fun e w' => e = .returned (.bool (Health.jumps p s ticks u)) ∧ Ok w w' := by
  have KM := Lib.hid fun w => ref3Mid u.lo u.hi w
  rw [show (Sat.clip u.lo + Sat.clip u.hi) / 2 = Health.mid u.lo u.hi from rfl] at KM
  have KA := Lib.hid fun w A h => refAdd A [s.time, ticks] 2 w h (by simp)
  have KS := Lib.hid fun w => refSub (Health.mid u.lo u.hi) (Sat.sum [s.time, ticks]) w
  have KF := Lib.hid fun w => ref21Far p u.held w
  have KO := Lib.hid fun w => ref21Of p s A cap w
  have hE : Health.jumps p s ticks u = decide (Health.of p s = 0 ∨ Health.far p u.held < Sat.sub (Health.mid u.lo u.hi) (Sat.sum [s.time, ticks]) ∨ Health.far p u.held < -Sat.sub (Health.mid u.lo u.hi) (Sat.sum [s.time, ticks])) := rfl
  rw [hE]
  clear hE
  have hq := Sat.sub_bd (Health.mid u.lo u.hi) (Sat.sum [s.time, ticks])
  generalize Sat.sub (Health.mid u.lo u.hi) (Sat.sum [s.time, ticks]) = q at KS hq ⊢
  generalize Sat.sum [s.time, ticks] = z at KA KS
  generalize Health.mid u.lo u.hi = tm at KM KS
  generalize Health.far p u.held = f at KF ⊢
  generalize Health.of p s = h at KO ⊢
  obtain ⟨Z, hZ⟩ : ∃ Z, decide (h = 0 ∨ f < q ∨ f < -q) = Z := ⟨_, rfl⟩
  rw [hZ]
  have HZ := Lib.hid hZ
  clear hZ
  have hP := (Own.new w (parCells p) 23 rfl).next (((Ok.refl _).alloc (.cells (staCells s A cap) 30)).alloc (.cells (staCells u C cup) 30))
  have hS := (Own.new (w.alloc (.cells (parCells p) 23)) (staCells s A cap) 30 (g := w.heap.size + 1) (by simp)).alloc (.cells (staCells u C cup) 30)
  have hN := Own.new ((w.alloc (.cells (parCells p) 23)).alloc (.cells (staCells s A cap) 30)) (staCells u C cup) 30 (g := w.heap.size + 1 + 1) (by simp)
  have hok := (((Ok.refl w).alloc (.cells (parCells p) 23)).alloc (.cells (staCells s A cap) 30)).alloc (.cells (staCells u C cup) 30)
  go_enter Tryz.func90, Tryz.ntmps90
  go_upto_region 1 with fail
  change Code.wp _ _ _ _ (((w.alloc (.cells (parCells p) 23)).alloc (.cells (staCells s A cap) 30)).alloc (.cells (staCells u C cup) 30))
  generalize (((w.alloc (.cells (parCells p) 23)).alloc (.cells (staCells s A cap) 30)).alloc (.cells (staCells u C cup) 30)) = W at hP hS hN hok ⊢
  obtain ⟨G, hG⟩ : ∃ r, w.heap.size + 1 + 1 = r := ⟨_, rfl⟩
  rw [hG] at hN ⊢
  clear hG
  obtain ⟨H, hH⟩ : ∃ r, w.heap.size + 1 = r := ⟨_, rfl⟩
  rw [hH] at hS ⊢
  clear hH
  obtain ⟨B, hB⟩ : ∃ r, w.heap.size = r := ⟨_, rfl⟩
  rw [hB] at hP ⊢
  clear hB
  have HOK := Lib.hid hok
  have HP := Lib.hid fun W' (k : Ok W.drew W') => hP.drew.next k
  have HS := Lib.hid fun W' (k : Ok W.drew W') => hS.drew.next k
  have HN := Lib.hid fun W' (k : Ok W.drew W') => hN.drew.next k
  clear hP hS hN hok
  refine wp_region_facts (by kernel_rfl) 39 rfl (VCJ21 B H G p s u ticks tm z q) Ok (by kernel_rfl) (fun i v w w' h k w'' k' => h w'' (k.trans k')) (fun a b c => Ok.trans) (Ok.refl _) [some 11, some 12, some 13, some 14, some 15, some 16, some 17, some 18, some 19, some 9] rfl 10 rfl ⟨?_, ?_, ?_, ?_, ?_, ?_, ?_, ?_, ?_, ?_, trivial⟩ ?_
  · intro a' w' hF hR
    have e7 : a'.tmps[7]? = some (.pointer (some ⟨G, 0, none⟩)) := hF.slot 7 (by kernel_rfl) rfl
    refine wpOp_run (v := .pointer (some ⟨G, 0, none⟩)) rfl rfl ?_ (fun _ _ => rfl) (Ok.refl _)
    clear hF
    go_simp
  · intro a' w' hF hR
    obtain ⟨v0, hv0, e11⟩ := hF.get 0 11 (by kernel_rfl) (by kernel_rfl)
    obtain rfl : v0 = _ := hv0 _ (Ok.refl _)
    obtain ⟨s0, s1, s2, s3, s4, s5, s6, s7, s8, s9, s10⟩ := (HN.out _ hR).sta
    refine wpOp_run (v := spanV u.lo u.hi) rfl rfl ?_ (fun _ _ => rfl) (Ok.refl _)
    clear hF
    go_simp
  · intro a' w' hF hR
    obtain ⟨v1, hv1, e12⟩ := hF.get 1 12 (by kernel_rfl) (by kernel_rfl)
    obtain rfl : v1 = _ := hv1 _ (Ok.refl _)
    clear hF
    refine wpOp_call (f := 88) (args := #[spanV u.lo u.hi]) rfl rfl ?_ ((KM.out _).mono ?_)
    · go_simp
    · rintro e w2 ⟨rfl, hb2⟩; exact ⟨_, rfl, fun _ _ => rfl, hb2⟩
  · intro a' w' hF hR
    have e5 : a'.tmps[5]? = some (.pointer (some ⟨H, 0, none⟩)) := hF.slot 5 (by kernel_rfl) rfl
    refine wpOp_run (v := .pointer (some ⟨H, 2, none⟩)) rfl rfl ?_ (fun _ _ => rfl) (Ok.refl _)
    clear hF
    go_simp
  · intro a' w' hF hR
    obtain ⟨v3, hv3, e14⟩ := hF.get 3 14 (by kernel_rfl) (by kernel_rfl)
    obtain rfl : v3 = _ := hv3 _ (Ok.refl _)
    obtain ⟨s0, s1, s2, s3, s4, s5, s6, s7, s8, s9, s10⟩ := (HS.out _ hR).sta
    refine wpOp_run (v := .int .i64 s.time) rfl rfl ?_ (fun _ _ => rfl) (Ok.refl _)
    clear hF
    go_simp
  · intro a' w' hF hR
    have e2 : a'.tmps[2]? = some (.int .i64 ticks) := hF.slot 2 (by kernel_rfl) rfl
    refine wpOp_run (v := .int .i64 ticks) rfl rfl ?_ (fun _ _ => rfl) (Ok.refl _)
    clear hF
    go_simp
  · intro a' w' hF hR
    obtain ⟨v4, hv4, e15⟩ := hF.get 4 15 (by kernel_rfl) (by kernel_rfl)
    obtain rfl : v4 = _ := hv4 _ (Ok.refl _)
    obtain ⟨v5, hv5, e16⟩ := hF.get 5 16 (by kernel_rfl) (by kernel_rfl)
    obtain rfl : v5 = _ := hv5 _ (Ok.refl _)
    refine wpOp_run (v := .slice (some ⟨w'.heap.size, 0, none⟩) 2 2) (w' := w'.alloc (.cells #[.int .i64 s.time, .int .i64 ticks] 3)) rfl rfl ?_ (fun w'' k => ⟨_, rfl, (ints_new _ [s.time, ticks] _ _ rfl rfl).below k⟩) ((Ok.refl _).alloc _)
    clear hF
    go_simp
  · intro a' w' hF hR
    obtain ⟨v6, hv6, e17⟩ := hF.get 6 17 (by kernel_rfl) (by kernel_rfl)
    obtain ⟨n6, rfl, hp6⟩ := hv6 _ (Ok.refl _)
    clear hF
    refine wpOp_call (f := 30) (args := #[.slice (some n6) 2 2]) rfl rfl ?_ ((KA.out _ _ hp6).mono ?_)
    · go_simp
    · rintro e w2 ⟨rfl, rfl⟩; exact ⟨_, rfl, fun _ _ => rfl, Ok.refl _⟩
  · intro a' w' hF hR
    obtain ⟨v2, hv2, e13⟩ := hF.get 2 13 (by kernel_rfl) (by kernel_rfl)
    obtain rfl : v2 = _ := hv2 _ (Ok.refl _)
    obtain ⟨v7, hv7, e18⟩ := hF.get 7 18 (by kernel_rfl) (by kernel_rfl)
    obtain rfl : v7 = _ := hv7 _ (Ok.refl _)
    clear hF
    refine wpOp_call (f := 80) (args := #[.int .i64 tm, .int .i64 z]) rfl rfl ?_ ((KS.out _).mono ?_)
    · go_simp
    · rintro e w2 ⟨rfl, rfl⟩; exact ⟨_, rfl, fun _ _ => rfl, Ok.refl _⟩
  · intro a' w' hF hR
    obtain ⟨v8, hv8, e19⟩ := hF.get 8 19 (by kernel_rfl) (by kernel_rfl)
    obtain rfl : v8 = _ := hv8 _ (Ok.refl _)
    refine wpOp_run (v := .int .i64 q) rfl rfl ?_ (fun _ _ => rfl) (Ok.refl _)
    clear hF
    go_simp
  intro vs w2 hV hR
  have e9 : vs 9 = .int .i64 q := hV 9 (by decide) _ (Ok.refl _)
  have hP := HP.out _ hR
  have hS := HS.out _ hR
  have hN := HN.out _ hR
  have hok := HOK.out.trans ((Ok.refl W).drew.trans hR)
  clear hV HP HS HN HOK KM KA KS
  simp only [putFrom, e9]
  simp only [Act.put, List.setIfInBounds_toArray, List.set_cons_zero, List.set_cons_succ]
  have HS := Lib.hid hS
  have HP := Lib.hid hP
  obtain ⟨c0, c1, c2, c3, c4, c5, c6, c7, c8, c9, c10, c11⟩ := hP.pars
  obtain ⟨s0, s1, s2, s3, s4, s5, s6, s7, s8, s9, s10⟩ := hN.sta
  have hPl := hP.lt
  have hNl := hN.lt
  clear hP hS hN
  by_cases j1 : h = 0
  · have hz := Lib.hid (show Z = true by rw [← HZ.out]; exact decide_eq_true (Or.inl j1))
    have e1 : (h == 0) = true := beq_iff_eq.2 j1
    clear j1
    go_wp2_with (first | (go_at_call 120; refine (KF.out _).mono ?_; rintro e w3 ⟨rfl, hb1⟩; clear c0 c1 c2 c3 c4 c5 c6 c7 c8 c9 c10 c11 s0 s1 s2 s3 s4 s5 s6 s7 s8 s9 s10 hPl hNl; have hP := HP.out.next hb1; have hS := HS.out.next hb1; replace hok := hok.trans hb1; clear hb1 HP HS; obtain ⟨c0, c1, c2, c3, c4, c5, c6, c7, c8, c9, c10, c11⟩ := hP.pars; obtain ⟨s0, s1, s2, s3, s4, s5, s6, s7, s8, s9, s10⟩ := hS.sta; have hPl := hP.lt; have hNl := hS.lt) | (go_at_call 85; refine (KO.out _).mono ?_; rintro e w4 ⟨rfl, hb1⟩; replace hok := hok.trans hb1; clear hb1))
    go_ret
    exact ⟨by rw [hz.out]; rfl, hok⟩
  have e1 : (h == 0) = false := beq_eq_false_iff_ne.2 j1
  by_cases j2 : f < q
  · have hz := Lib.hid (show Z = true by rw [← HZ.out]; exact decide_eq_true (Or.inr (Or.inl j2)))
    clear j1
    go_wp2_with (first | (go_at_call 120; refine (KF.out _).mono ?_; rintro e w3 ⟨rfl, hb1⟩; clear c0 c1 c2 c3 c4 c5 c6 c7 c8 c9 c10 c11 s0 s1 s2 s3 s4 s5 s6 s7 s8 s9 s10 hPl hNl; have hP := HP.out.next hb1; have hS := HS.out.next hb1; replace hok := hok.trans hb1; clear hb1 HP HS; obtain ⟨c0, c1, c2, c3, c4, c5, c6, c7, c8, c9, c10, c11⟩ := hP.pars; obtain ⟨s0, s1, s2, s3, s4, s5, s6, s7, s8, s9, s10⟩ := hS.sta; have hPl := hP.lt; have hNl := hS.lt) | (go_at_call 85; refine (KO.out _).mono ?_; rintro e w4 ⟨rfl, hb1⟩; replace hok := hok.trans hb1; clear hb1))
    go_ret
    exact ⟨by rw [hz.out]; rfl, hok⟩
  by_cases j3 : f < -q
  · have hz := Lib.hid (show Z = true by rw [← HZ.out]; exact decide_eq_true (Or.inr (Or.inr j3)))
    clear j1
    go_wp2_with (first | (go_at_call 120; refine (KF.out _).mono ?_; rintro e w3 ⟨rfl, hb1⟩; clear c0 c1 c2 c3 c4 c5 c6 c7 c8 c9 c10 c11 s0 s1 s2 s3 s4 s5 s6 s7 s8 s9 s10 hPl hNl; have hP := HP.out.next hb1; have hS := HS.out.next hb1; replace hok := hok.trans hb1; clear hb1 HP HS; obtain ⟨c0, c1, c2, c3, c4, c5, c6, c7, c8, c9, c10, c11⟩ := hP.pars; obtain ⟨s0, s1, s2, s3, s4, s5, s6, s7, s8, s9, s10⟩ := hS.sta; have hPl := hP.lt; have hNl := hS.lt) | (go_at_call 85; refine (KO.out _).mono ?_; rintro e w4 ⟨rfl, hb1⟩; replace hok := hok.trans hb1; clear hb1))
    go_ret
    exact ⟨by rw [hz.out]; rfl, hok⟩
  · have hz := Lib.hid (show Z = false by rw [← HZ.out]; exact decide_eq_false (fun g => g.elim j1 fun g => g.elim j2 j3))
    have d2 : decide (f < q) = false := decide_eq_false j2
    have d3 : decide (f < -q) = false := decide_eq_false j3
    clear j1
    go_wp2_with (first | (go_at_call 120; refine (KF.out _).mono ?_; rintro e w3 ⟨rfl, hb1⟩; clear c0 c1 c2 c3 c4 c5 c6 c7 c8 c9 c10 c11 s0 s1 s2 s3 s4 s5 s6 s7 s8 s9 s10 hPl hNl; have hP := HP.out.next hb1; have hS := HS.out.next hb1; replace hok := hok.trans hb1; clear hb1 HP HS; obtain ⟨c0, c1, c2, c3, c4, c5, c6, c7, c8, c9, c10, c11⟩ := hP.pars; obtain ⟨s0, s1, s2, s3, s4, s5, s6, s7, s8, s9, s10⟩ := hS.sta; have hPl := hP.lt; have hNl := hS.lt) | (go_at_call 85; refine (KO.out _).mono ?_; rintro e w4 ⟨rfl, hb1⟩; replace hok := hok.trans hb1; clear hb1))
    go_ret
    exact ⟨by rw [hz.out]; rfl, hok⟩
theorem ref21Stamped (s : Sta) (A : Option Addr) (cap : Nat) (w : World) : Calls Tryz.prog 87 #[staV s A cap] w fun e w' => e = .returned (staV (Health.stamped s) A cap) ∧ Ok w w' := by
  have KT := Lib.hid fun w => ref20Tick (s.st, s.sn) s.time w
  rw [show Health.stamped s = { s with st := (Hlc.tick (s.st, s.sn) s.time).1, sn := (Hlc.tick (s.st, s.sn) s.time).2 } from rfl]
  obtain ⟨⟨x, y⟩, hx⟩ : ∃ r, Hlc.tick (s.st, s.sn) s.time = r := ⟨_, rfl⟩
  rw [hx] at KT ⊢
  clear hx
  obtain ⟨u, hu⟩ : ∃ u, ({ s with st := x, sn := y } : Sta) = u := ⟨_, rfl⟩
  rw [hu]
  have HU := Lib.hid hu
  clear hu
  have HS := Lib.hid ((Own.new w (staCells s A cap) 30 rfl).alloc (.cells (staCells zeroSta none 0) 30))
  have HZ := Lib.hid (Own.new (w.alloc (.cells (staCells s A cap) 30)) (staCells zeroSta none 0) 30 (g := w.heap.size + 1) (by simp))
  have HK := Lib.hid (((Ok.refl w).alloc (.cells (staCells s A cap) 30)).alloc (.cells (staCells zeroSta none 0) 30))
  have hrw : w.heap.size ≤ w.heap.size + 1 := by omega
  go_enter Tryz.func87, Tryz.ntmps87
  go_upto_region 1 with fail
  change Code.wp _ _ _ _ ((w.alloc (.cells (staCells s A cap) 30)).alloc (.cells (staCells zeroSta none 0) 30))
  generalize (w.alloc (.cells (staCells s A cap) 30)).alloc (.cells (staCells zeroSta none 0) 30) = W at HS HZ HK ⊢
  obtain ⟨s0, s1, s2, s3, s4, s5, s6, s7, s8, s9, s10⟩ := HS.out.sta
  have hsl := HS.out.lt
  go_upto_region 2 with (go_at_call 92; refine (KT.out _).mono ?_; rintro e w2 ⟨rfl, hb1⟩; clear s0 s1 s2 s3 s4 s5 s6 s7 s8 s9 s10 hsl; have hS := HS.out.next hb1; have hZ := HZ.out.next hb1; have hok := HK.out.trans hb1; clear hb1 HS HZ HK; obtain ⟨s0, s1, s2, s3, s4, s5, s6, s7, s8, s9, s10⟩ := hS.sta; have hsl := hS.lt; have f8 := hS.frozen 8; have f9 := hS.frozen 9)
  have hS2 : Own ((w2.setCell ⟨w.heap.size, 8, none⟩ (.int .i64 x)).setCell ⟨w.heap.size, 9, none⟩ (.int .i64 y)) w.heap.size (staCells u A cap) := ((hS.set 8 (.int .i64 x)).set 9 (.int .i64 y)).as (by rw [← HU.out]; simp [staCells])
  have hZ2 := (hZ.setOther (a := ⟨w.heap.size, 8, none⟩) (by show w.heap.size + 1 ≠ w.heap.size; omega) (.int .i64 x)).setOther (a := ⟨w.heap.size, 9, none⟩) (by show w.heap.size + 1 ≠ w.heap.size; omega) (.int .i64 y)
  have hok2 := (hok.setCell (p := ⟨w.heap.size, 8, none⟩) (Nat.le_refl _) (.int .i64 x)).setCell (p := ⟨w.heap.size, 9, none⟩) (Nat.le_refl _) (.int .i64 y)
  clear s0 s1 s2 s3 s4 s5 s6 s7 s8 s9 s10 hsl f8 f9 hS hZ hok
  generalize (w2.setCell ⟨w.heap.size, 8, none⟩ (.int .i64 x)).setCell ⟨w.heap.size, 9, none⟩ (.int .i64 y) = W2 at hS2 hZ2 hok2 ⊢
  obtain ⟨s0, s1, s2, s3, s4, s5, s6, s7, s8, s9, s10⟩ := hS2.sta
  obtain ⟨z0, z1, z2, z3, z4, z5, z6, z7, z8, z9, z10⟩ := hZ2.sta
  obtain ⟨y0, y1, y2, y3, y4, y5, y6, y7, y8, y9, y10⟩ := frozenSta hZ2
  have hsl := hS2.lt
  have hzl := hZ2.lt
  have hX := own_set11 hZ2 u A cap
  have hok3 := ok_set11 hok2 hrw u A cap
  go_wp2_with fail
  clear s0 s1 s2 s3 s4 s5 s6 s7 s8 s9 s10 z0 z1 z2 z3 z4 z5 z6 z7 z8 z9 z10 y0 y1 y2 y3 y4 y5 y6 y7 y8 y9 y10 hsl hzl
  generalize (((((((((((W2.setCell ⟨w.heap.size + 1, 0, none⟩ (.int .i64 u.lo)).setCell ⟨w.heap.size + 1, 1, none⟩ (.int .i64 u.hi)).setCell ⟨w.heap.size + 1, 2, none⟩ (.int .i64 u.time)).setCell ⟨w.heap.size + 1, 3, none⟩ (.bool u.set)).setCell ⟨w.heap.size + 1, 4, none⟩ (.int .i64 u.held)).setCell ⟨w.heap.size + 1, 5, none⟩ (.int .i64 u.hops)).setCell ⟨w.heap.size + 1, 6, none⟩ (.bool u.good)).setCell ⟨w.heap.size + 1, 7, none⟩ (.slice A u.table.length cap)).setCell ⟨w.heap.size + 1, 8, none⟩ (.int .i64 u.st)).setCell ⟨w.heap.size + 1, 9, none⟩ (.int .i64 u.sn)).setCell ⟨w.heap.size + 1, 10, none⟩ (.int .i64 u.life)) = W5 at hX hok3 ⊢
  obtain ⟨s0, s1, s2, s3, s4, s5, s6, s7, s8, s9, s10⟩ := hX.sta
  exact bodyPost_ret (v := staV u A cap) (by simp [results, Tryz.results87, go_sem, s0, s1, s2, s3, s4, s5, s6, s7, s8, s9, s10, staV]) rfl ⟨rfl, hok3⟩
end Go.Proofs.YtmmiboblofopgaaGreat

/- Contracts of layer 21: the document's Same. -/
namespace Go.Proofs.YtmmiboblofopgaaGreat
open Go.RowKit
set_option linter.unusedVariables false
set_option maxRecDepth 100000
theorem eqSpan21 (a b c d : Int) (w : World) : (Op.equalIn 10000 25 (.agg #[.int .i64 a, .int .i64 b]) (.agg #[.int .i64 c, .int .i64 d])).run Tryz.prog w = .ok (a == c && b == d) w := by
  have u3 := Tryz.underlying3
  have ag := Tryz.isAgg3
  have z3 := Tryz.sizeOf3
  have hS : Tryz.prog.underlying 25 = some (.struct (Tryz.prog.fieldsOf 25)) := by kernel_rfl
  have hp : Tryz.prog.stoodInHeld 25 = false := by kernel_rfl
  rw [show (10000 : Nat) = 9999 + 1 from rfl, run_equalIn_struct w 9999 25 _ _ hS hp]
  simp only [Program.fieldsOf, Tryz.underlying25]
  go_simp
  by_cases h1 : a = c <;> by_cases h2 : b = d <;> simp [h1, h2]
set_option maxHeartbeats 1600000 in
theorem ref21Same (s u : Sta) (A C : Option Addr) (cap cup : Nat) (w : World) (hA : PairsAt w A s.table) (hC : PairsAt w C u.table) (hl : s.table.length ≤ 9223372036854775807) (hn : u.table.length ≤ 9223372036854775807) :
    Calls Tryz.prog 12 #[staV s A cap, staV u C cup] w fun e w' => e = .returned (.bool (decide (s = u))) ∧ Ok w w' := by
  have hok := Ok.refl w
  have hE := eqSpan21
  have hT := eqStamp20
  obtain ⟨lo, hi, time, set, held, hops, good, table, st, sn, life⟩ := s
  obtain ⟨lo', hi', time', set', held', hops', good', table', st', sn', life'⟩ := u
  simp only at hA hC hl hn
  have KT := Lib.hid fun W (hA : PairsAt W A table) (hB : PairsAt W C table') => ref6Tables A C table table' cap cup W hA hB hl hn
  unfold staV
  simp only
  by_cases h : lo = lo' ∧ hi = hi' ∧ time = time' ∧ set = set' ∧ held = held' ∧ hops = hops' ∧ good = good' ∧ st = st' ∧ sn = sn' ∧ life = life'
  · obtain ⟨rfl, rfl, rfl, rfl, rfl, rfl, rfl, rfl, rfl, rfl⟩ := h
    rw [show decide ((⟨lo, hi, time, set, held, hops, good, table, st, sn, life⟩ : Sta) = ⟨lo, hi, time, set, held, hops, good, table', st, sn, life⟩) = decide (table = table') by simp]
    have HA := Lib.hid hA
    have HC := Lib.hid hC
    clear hA hC
    go_enter Tryz.func12, Tryz.ntmps12
    go_wp2_with ((go_at_call 24; (with_reducible refine (KT.out _ ((HA.out.alloc _).alloc _) ((HC.out.alloc _).alloc _)).mono ?_); rintro e w5 ⟨rfl, hb1⟩; replace hok := ((hok.alloc _).alloc _).trans hb1; clear hb1))
    go_ret
    exact ⟨rfl, hok⟩
  · rw [decide_eq_false (fun g => h (by cases g; simp))]
    clear hA hC KT
    go_enter Tryz.func12, Tryz.ntmps12
    go_wp2_with fail
    all_goals
      first
        | (go_ret; exact ⟨rfl, (hok.alloc _).alloc _⟩)
        | exact absurd ⟨(‹lo = lo' ∧ hi = hi'›).1, (‹lo = lo' ∧ hi = hi'›).2, ‹time = time'›, ‹set = set'›, ‹held = held'›, ‹hops = hops'›, ‹good = good'›, (‹st = st' ∧ sn = sn'›).1, (‹st = st' ∧ sn = sn'›).2, ‹life = life'›⟩ h
end Go.Proofs.YtmmiboblofopgaaGreat
