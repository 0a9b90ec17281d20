import Derived.Test.YtmokofblmkeloaaGreatDoorB06
import Derived.Test.YtmokofblmkeloaaGreatDoorB03
import Derived.Test.YtmokofblmkeloaaGreatDoorB09
import Derived.Test.YtmokofblmkeloaaGreatDoorMA
import Derived.Deep.CutRange
namespace Go.Proofs.YtmokofblmkeloaaGreatDoor
open Go.RowKit
set_option maxRecDepth 100000
attribute [local go_sem ↓] Go.wp_at_zero Go.wp_at_succ
theorem routeLost (p : Par) (w : World) (h : 0 ≤ p.d ∧ p.d ≤ 16) : Calls Tryz.prog 128 #[parV p] w fun e w' => e = .returned (.int .i64 (p.d + 1)) ∧ Ok w w' := by
  have hok := Ok.refl w
  have hw : IntKind.i64.wrap (p.d + 1) = p.d + 1 := IntWalk.i64_in _ ⟨by omega, by omega⟩
  go_enter Tryz.func128, Tryz.ntmps128
  go_wp2
  go_ret
  exact ⟨rfl, hok.alloc _⟩
theorem routeLeads (p : Par) (s : Int) (w : World) : Calls Tryz.prog 190 #[parV p, .int .i64 s] w fun e w' => e = .returned (.bool (decide (0 ≤ s ∧ s < p.d))) ∧ Ok w w' := by
  have hok := Ok.refl w
  by_cases h0 : 0 ≤ s
  · by_cases h1 : s < p.d
    · rw [decide_eq_true ⟨h0, h1⟩]
      go_enter Tryz.func190, Tryz.ntmps190
      go_wp2
      go_ret
      exact ⟨rfl, hok.alloc _⟩
    · rw [decide_eq_false (fun g => h1 g.2)]
      go_enter Tryz.func190, Tryz.ntmps190
      go_wp2
      go_ret
      exact ⟨rfl, hok.alloc _⟩
  · rw [decide_eq_false (fun g => h0 g.1)]
    go_enter Tryz.func190, Tryz.ntmps190
    go_wp2
    go_ret
    exact ⟨rfl, hok.alloc _⟩
set_option maxHeartbeats 800000 in
theorem routeUsable (p : Par) (m : Msg) (A : Option Addr) (cap : Nat) (w : World) : Calls Tryz.prog 160 #[parV p, msgV m A cap] w fun e w' => e = .returned (.bool (Route.may p.d m)) ∧ Ok w w' := by
  have hok := Ok.refl w
  have KL := Lib.hid fun w => routeLeads p m.hops w
  have KE := Lib.hid fun w => spanEmpty m.lo m.hi w
  have HM := Lib.hid (Own.new (w.alloc (.cells (parCells p) 23)) (msgCells m A cap) 51 (g := w.heap.size + 1) (by simp))
  cases m with
  | mk kind frm lo hi held hops good ref slo shi pulse time num table =>
  unfold msgV
  simp only [msgCells] at KL KE HM ⊢
  by_cases hk : kind = 2
  · subst hk
    cases good
    · rw [show Route.may p.d ⟨2, frm, lo, hi, held, hops, false, ref, slo, shi, pulse, time, num, table⟩ = false from decide_eq_false (fun ⟨_, g, _⟩ => by cases g)]
      clear HM KL KE
      go_enter Tryz.func160, Tryz.ntmps160
      go_wp2_with (first
                | (go_at_call 190; (with_reducible refine (KL.out _).mono ?_); rintro e w1 ⟨rfl, hb1⟩; replace hok := ((hok.alloc _).alloc _).trans hb1; have hM := HM.out.next hb1; clear hb1; have m2 := hM.cell 2 (v := .int .i64 lo) rfl; have m3 := hM.cell 3 (v := .int .i64 hi) rfl; have hml := hM.lt; clear hM)
                | (go_at_call 52; (with_reducible refine (KE.out _).mono ?_); rintro e w2 ⟨rfl, hb1⟩; replace hok := hok.trans hb1; clear hb1))
      go_ret
      exact ⟨rfl, (hok.alloc _).alloc _⟩
    · by_cases hl : 0 ≤ hops ∧ hops < p.d
      · rw [decide_eq_true hl] at KL
        by_cases he : hi < lo
        · rw [decide_eq_true he] at KE
          rw [show Route.may p.d ⟨2, frm, lo, hi, held, hops, true, ref, slo, shi, pulse, time, num, table⟩ = false from decide_eq_false (fun ⟨_, _, _, _, g⟩ => by simp only at g; omega)]
          clear hl he
          go_enter Tryz.func160, Tryz.ntmps160
          go_wp2_with (first
                    | (go_at_call 190; (with_reducible refine (KL.out _).mono ?_); rintro e w1 ⟨rfl, hb1⟩; replace hok := ((hok.alloc _).alloc _).trans hb1; have hM := HM.out.next hb1; clear hb1; have m2 := hM.cell 2 (v := .int .i64 lo) rfl; have m3 := hM.cell 3 (v := .int .i64 hi) rfl; have hml := hM.lt; clear hM)
                    | (go_at_call 52; (with_reducible refine (KE.out _).mono ?_); rintro e w2 ⟨rfl, hb1⟩; replace hok := hok.trans hb1; clear hb1))
          go_ret
          exact ⟨rfl, hok⟩
        · rw [decide_eq_false he] at KE
          rw [show Route.may p.d ⟨2, frm, lo, hi, held, hops, true, ref, slo, shi, pulse, time, num, table⟩ = true from decide_eq_true ⟨rfl, rfl, hl.1, hl.2, by simp only; omega⟩]
          clear hl he
          go_enter Tryz.func160, Tryz.ntmps160
          go_wp2_with (first
                    | (go_at_call 190; (with_reducible refine (KL.out _).mono ?_); rintro e w1 ⟨rfl, hb1⟩; replace hok := ((hok.alloc _).alloc _).trans hb1; have hM := HM.out.next hb1; clear hb1; have m2 := hM.cell 2 (v := .int .i64 lo) rfl; have m3 := hM.cell 3 (v := .int .i64 hi) rfl; have hml := hM.lt; clear hM)
                    | (go_at_call 52; (with_reducible refine (KE.out _).mono ?_); rintro e w2 ⟨rfl, hb1⟩; replace hok := hok.trans hb1; clear hb1))
          go_ret
          exact ⟨rfl, hok⟩
      · rw [decide_eq_false hl] at KL
        rw [show Route.may p.d ⟨2, frm, lo, hi, held, hops, true, ref, slo, shi, pulse, time, num, table⟩ = false from decide_eq_false (fun ⟨_, _, g, k, _⟩ => hl ⟨g, k⟩)]
        clear hl
        go_enter Tryz.func160, Tryz.ntmps160
        go_wp2_with (first
                  | (go_at_call 190; (with_reducible refine (KL.out _).mono ?_); rintro e w1 ⟨rfl, hb1⟩; replace hok := ((hok.alloc _).alloc _).trans hb1; have hM := HM.out.next hb1; clear hb1; have m2 := hM.cell 2 (v := .int .i64 lo) rfl; have m3 := hM.cell 3 (v := .int .i64 hi) rfl; have hml := hM.lt; clear hM)
                  | (go_at_call 52; (with_reducible refine (KE.out _).mono ?_); rintro e w2 ⟨rfl, hb1⟩; replace hok := hok.trans hb1; clear hb1))
        go_ret
        exact ⟨rfl, hok⟩
  · have e : (kind == 2) = false := by rw [beq_eq_false_iff_ne]; exact hk
    rw [show Route.may p.d ⟨kind, frm, lo, hi, held, hops, good, ref, slo, shi, pulse, time, num, table⟩ = false from decide_eq_false (fun ⟨g, _⟩ => hk g)]
    clear HM KL KE hk
    go_enter Tryz.func160, Tryz.ntmps160
    go_wp2_with (first
              | (go_at_call 190; (with_reducible refine (KL.out _).mono ?_); rintro e w1 ⟨rfl, hb1⟩; replace hok := ((hok.alloc _).alloc _).trans hb1; have hM := HM.out.next hb1; clear hb1; have m2 := hM.cell 2 (v := .int .i64 lo) rfl; have m3 := hM.cell 3 (v := .int .i64 hi) rfl; have hml := hM.lt; clear hM)
              | (go_at_call 52; (with_reducible refine (KE.out _).mono ?_); rintro e w2 ⟨rfl, hb1⟩; replace hok := hok.trans hb1; clear hb1))
    go_ret
    exact ⟨rfl, (hok.alloc _).alloc _⟩
theorem Route.cmpNaN (x : Int) (w : World) : Calls Tryz.prog 182 #[.int .i64 x] w fun e w' => e = .returned (.bool false) ∧ w = w' := by
  have h : (x != x) = false := by simp
  go_enter Tryz.func182, Tryz.ntmps182
  go_wp2
  go_ret
  exact ⟨rfl, rfl⟩
theorem Route.cmpCompare (x y : Int) (w : World) : Calls Tryz.prog 153 #[.int .i64 x, .int .i64 y] w fun e w' => e = .returned (.int .i64 (Route.c3 x y)) ∧ w = w' := by
  rcases Int.lt_trichotomy x y with h | h | h
  · have e : Route.c3 x y = -1 := by unfold Route.c3; rw [if_pos h]
    rw [e]; clear e
    go_enter Tryz.func153, Tryz.ntmps153
    go_wp2_with (go_at_call 182; refine (Route.cmpNaN _ _).mono ?_; rintro e w' ⟨rfl, rfl⟩)
    go_ret
    exact ⟨rfl, rfl⟩
  · have e : Route.c3 x y = 0 := by unfold Route.c3; rw [if_neg (by omega), if_neg (by omega)]
    rw [e]; clear e
    have h1 : ¬ x < y := by omega
    have h2 : ¬ y < x := by omega
    clear h
    go_enter Tryz.func153, Tryz.ntmps153
    go_wp2_with (go_at_call 182; refine (Route.cmpNaN _ _).mono ?_; rintro e w' ⟨rfl, rfl⟩)
    go_ret
    exact ⟨rfl, rfl⟩
  · have e : Route.c3 x y = 1 := by unfold Route.c3; rw [if_neg (by omega), if_pos h]
    rw [e]; clear e
    go_enter Tryz.func153, Tryz.ntmps153
    go_wp2_with (go_at_call 182; refine (Route.cmpNaN _ _).mono ?_; rintro e w' ⟨rfl, rfl⟩)
    go_ret
    exact ⟨rfl, rfl⟩
set_option maxHeartbeats 800000 in
theorem Route.cmpOr (n : Addr) (x y z : Int) (w : World) (h : IntsAt w (some n) [x, y, z]) :
    Calls Tryz.prog 191 #[.slice (some n) 3 3] w fun e w' => e = .returned (.int .i64 (if x ≠ 0 then x else if y ≠ 0 then y else z)) ∧ w = w' := by
  obtain ⟨b, off, e0, hl, c0⟩ := h 0 (by simp)
  obtain ⟨_, _, e1, _, c1⟩ := h 1 (by simp)
  obtain ⟨_, _, e2, _, c2⟩ := h 2 (by simp)
  cases e0
  cases e1
  cases e2
  simp only [List.getElem_cons_zero, List.getElem_cons_succ, Nat.add_zero] at c0 c1 c2
  clear h
  by_cases hx : x = 0
  · subst hx
    rw [if_neg (by simp)]
    by_cases hy : y = 0
    · subst hy
      rw [if_neg (by simp)]
      by_cases hz : z = 0
      · subst hz
        go_enter Tryz.func191, Tryz.ntmps191
        go_wp2
        refine wp_loop_rounds 4 ?_
        repeat (rw [rounds_succ]; go_wp2)
        go_ret
        exact ⟨rfl, rfl⟩
      · have q1z : (z == 0) = false := by rw [beq_eq_false_iff_ne]; exact hz
        have q2z : (z != 0) = true := by rw [bne_iff_ne]; exact hz
        go_enter Tryz.func191, Tryz.ntmps191
        go_wp2
        refine wp_loop_rounds 4 ?_
        repeat (rw [rounds_succ]; go_wp2)
        go_ret
        exact ⟨rfl, rfl⟩
    · rw [if_pos hy]
      have q1y : (y == 0) = false := by rw [beq_eq_false_iff_ne]; exact hy
      have q2y : (y != 0) = true := by rw [bne_iff_ne]; exact hy
      go_enter Tryz.func191, Tryz.ntmps191
      go_wp2
      refine wp_loop_rounds 4 ?_
      repeat (rw [rounds_succ]; go_wp2)
      go_ret
      exact ⟨rfl, rfl⟩
  · rw [if_pos hx]
    have q1x : (x == 0) = false := by rw [beq_eq_false_iff_ne]; exact hx
    have q2x : (x != 0) = true := by rw [bne_iff_ne]; exact hx
    go_enter Tryz.func191, Tryz.ntmps191
    go_wp2
    refine wp_loop_rounds 4 ?_
    repeat (rw [rounds_succ]; go_wp2)
    go_ret
    exact ⟨rfl, rfl⟩
/-- What each operation leaves. -/
def VMOrd (B1 B2 : Nat) (a b : Msg) (w : World) (v : Value) : Nat → Prop
  | 0 => v = .pointer (some ⟨B1, 5, none⟩)
  | 1 => v = .int .i64 a.hops
  | 2 => v = .pointer (some ⟨B2, 5, none⟩)
  | 3 => v = .int .i64 b.hops
  | 4 => v = .int .i64 (Route.c3 a.hops b.hops)
  | 5 => v = .pointer (some ⟨B1, 4, none⟩)
  | 6 => v = .int .i64 a.held
  | 7 => v = .pointer (some ⟨B2, 4, none⟩)
  | 8 => v = .int .i64 b.held
  | 9 => v = .int .i64 (Route.c3 a.held b.held)
  | 10 => v = .pointer (some ⟨B1, 1, none⟩)
  | 11 => v = .int .i64 a.frm
  | 12 => v = .pointer (some ⟨B2, 1, none⟩)
  | 13 => v = .int .i64 b.frm
  | 14 => v = .int .i64 (Route.c3 a.frm b.frm)
  | 15 => ∃ n : Addr, v = .slice (some n) 3 3 ∧ IntsAt w (some n) [Route.c3 a.hops b.hops, Route.c3 a.held b.held, Route.c3 a.frm b.frm]
  | 16 => v = .int .i64 (Route.ord a b)
  | 17 => v = .int .i64 (Route.ord a b)
  | _ => v = .bool true
/-- It stays so. -/
def VCOrd (B1 B2 : Nat) (a b : Msg) (i : Nat) (v : Value) (w : World) : Prop := ∀ w', Ok w w' → VMOrd B1 B2 a b w' v i
set_option maxHeartbeats 1600000 in
theorem routeOrder (a b : Msg) (A B : Option Addr) (ca cb : Nat) (w : World) : Calls Tryz.prog 161 #[msgV a A ca, msgV b B cb] w fun e w' => e = .returned (.int .i64 (Route.ord a b)) ∧ Ok w w' := by
  unfold msgV
  go_enter Tryz.func161, Tryz.ntmps161
  go_upto_region 1 with (fail)
  have hA := (Own.new w (msgCells a A ca) 51 rfl).alloc (.cells (msgCells b B cb) 51)
  have hB := Own.new (w.alloc (.cells (msgCells a A ca) 51)) (msgCells b B cb) 51 (g := w.heap.size + 1) (by simp)
  have hok := ((Ok.refl w).alloc (.cells (msgCells a A ca) 51)).alloc (.cells (msgCells b B cb) 51)
  unfold msgCells at hA hB hok
  generalize (w.alloc (.cells #[.int .i64 a.kind, .int .i64 a.frm, .int .i64 a.lo, .int .i64 a.hi, .int .i64 a.held, .int .i64 a.hops, .bool a.good, .bool a.ref, .int .i64 a.slo, .int .i64 a.shi, .int .i64 a.pulse, .int .i64 a.time, .int .i64 a.num, .slice A a.table.length ca] 51)).alloc (.cells #[.int .i64 b.kind, .int .i64 b.frm, .int .i64 b.lo, .int .i64 b.hi, .int .i64 b.held, .int .i64 b.hops, .bool b.good, .bool b.ref, .int .i64 b.slo, .int .i64 b.shi, .int .i64 b.pulse, .int .i64 b.time, .int .i64 b.num, .slice B b.table.length cb] 51) = W at hA hB hok ⊢
  generalize w.heap.size + 1 = B2 at hB ⊢
  generalize w.heap.size = B1 at hA ⊢
  have HA := Lib.hid fun W' (k : Ok W.drew W') => have h := hA.drew.next k; And.intro (h.cell 1 (v := .int .i64 a.frm) rfl) (And.intro (h.cell 4 (v := .int .i64 a.held) rfl) (h.cell 5 (v := .int .i64 a.hops) rfl))
  have HB := Lib.hid fun W' (k : Ok W.drew W') => have h := hB.drew.next k; And.intro (h.cell 1 (v := .int .i64 b.frm) rfl) (And.intro (h.cell 4 (v := .int .i64 b.held) rfl) (h.cell 5 (v := .int .i64 b.hops) rfl))
  clear hA hB
  refine wp_region_facts (by kernel_rfl) 22 rfl (VCOrd B1 B2 a b) Ok (by kernel_rfl) (fun i v w w' h k w'' k' => h w'' (k.trans k')) (fun a b c => Ok.trans) (Ok.refl _) [some 5, some 6, some 7, some 8, some 9, some 10, some 11, some 12, some 13, some 14, some 15, some 16, some 17, some 18, some 19, some 20, some 21, some 4] rfl 18 rfl ⟨?_, ?_, ?_, ?_, ?_, ?_, ?_, ?_, ?_, ?_, ?_, ?_, ?_, ?_, ?_, ?_, ?_, ?_, trivial⟩ ?_
  · intro a' w' hF hR
    have e2 : a'.tmps[2]? = some (.pointer (some ⟨B1, 0, none⟩)) := hF.slot 2 (by kernel_rfl) rfl
    refine wpOp_run (v := .pointer (some ⟨B1, 5, none⟩)) rfl rfl ?_ (fun _ _ => rfl) (Ok.refl _)
    clear hF
    go_simp
  · intro a' w' hF hR
    obtain ⟨v0, hv0, e5⟩ := hF.get 0 5 (by kernel_rfl) (by kernel_rfl)
    obtain rfl : v0 = _ := hv0 _ (Ok.refl _)
    obtain ⟨q1, q4, q5⟩ := HA.out _ hR
    refine wpOp_run (v := .int .i64 a.hops) rfl rfl ?_ (fun _ _ => rfl) (Ok.refl _)
    clear hF
    go_simp
  · intro a' w' hF hR
    have e3 : a'.tmps[3]? = some (.pointer (some ⟨B2, 0, none⟩)) := hF.slot 3 (by kernel_rfl) rfl
    refine wpOp_run (v := .pointer (some ⟨B2, 5, none⟩)) rfl rfl ?_ (fun _ _ => rfl) (Ok.refl _)
    clear hF
    go_simp
  · intro a' w' hF hR
    obtain ⟨v2, hv2, e7⟩ := hF.get 2 7 (by kernel_rfl) (by kernel_rfl)
    obtain rfl : v2 = _ := hv2 _ (Ok.refl _)
    obtain ⟨q1, q4, q5⟩ := HB.out _ hR
    refine wpOp_run (v := .int .i64 b.hops) rfl rfl ?_ (fun _ _ => rfl) (Ok.refl _)
    clear hF
    go_simp
  · intro a' w' hF hR
    obtain ⟨v1, hv1, e6⟩ := hF.get 1 6 (by kernel_rfl) (by kernel_rfl)
    obtain rfl : v1 = _ := hv1 _ (Ok.refl _)
    obtain ⟨v3, hv3, e8⟩ := hF.get 3 8 (by kernel_rfl) (by kernel_rfl)
    obtain rfl : v3 = _ := hv3 _ (Ok.refl _)
    clear hF
    refine wpOp_call (f := 153) (args := #[.int .i64 a.hops, .int .i64 b.hops]) rfl rfl ?_ ((Route.cmpCompare a.hops b.hops _).mono ?_)
    · go_simp
    · rintro e w2 ⟨rfl, rfl⟩; exact ⟨_, rfl, fun _ _ => rfl, Ok.refl _⟩
  · intro a' w' hF hR
    have e2 : a'.tmps[2]? = some (.pointer (some ⟨B1, 0, none⟩)) := hF.slot 2 (by kernel_rfl) rfl
    refine wpOp_run (v := .pointer (some ⟨B1, 4, none⟩)) rfl rfl ?_ (fun _ _ => rfl) (Ok.refl _)
    clear hF
    go_simp
  · intro a' w' hF hR
    obtain ⟨v5, hv5, e10⟩ := hF.get 5 10 (by kernel_rfl) (by kernel_rfl)
    obtain rfl : v5 = _ := hv5 _ (Ok.refl _)
    obtain ⟨q1, q4, q5⟩ := HA.out _ hR
    refine wpOp_run (v := .int .i64 a.held) rfl rfl ?_ (fun _ _ => rfl) (Ok.refl _)
    clear hF
    go_simp
  · intro a' w' hF hR
    have e3 : a'.tmps[3]? = some (.pointer (some ⟨B2, 0, none⟩)) := hF.slot 3 (by kernel_rfl) rfl
    refine wpOp_run (v := .pointer (some ⟨B2, 4, none⟩)) rfl rfl ?_ (fun _ _ => rfl) (Ok.refl _)
    clear hF
    go_simp
  · intro a' w' hF hR
    obtain ⟨v7, hv7, e12⟩ := hF.get 7 12 (by kernel_rfl) (by kernel_rfl)
    obtain rfl : v7 = _ := hv7 _ (Ok.refl _)
    obtain ⟨q1, q4, q5⟩ := HB.out _ hR
    refine wpOp_run (v := .int .i64 b.held) rfl rfl ?_ (fun _ _ => rfl) (Ok.refl _)
    clear hF
    go_simp
  · intro a' w' hF hR
    obtain ⟨v6, hv6, e11⟩ := hF.get 6 11 (by kernel_rfl) (by kernel_rfl)
    obtain rfl : v6 = _ := hv6 _ (Ok.refl _)
    obtain ⟨v8, hv8, e13⟩ := hF.get 8 13 (by kernel_rfl) (by kernel_rfl)
    obtain rfl : v8 = _ := hv8 _ (Ok.refl _)
    clear hF
    refine wpOp_call (f := 153) (args := #[.int .i64 a.held, .int .i64 b.held]) rfl rfl ?_ ((Route.cmpCompare a.held b.held _).mono ?_)
    · go_simp
    · rintro e w2 ⟨rfl, rfl⟩; exact ⟨_, rfl, fun _ _ => rfl, Ok.refl _⟩
  · intro a' w' hF hR
    have e2 : a'.tmps[2]? = some (.pointer (some ⟨B1, 0, none⟩)) := hF.slot 2 (by kernel_rfl) rfl
    refine wpOp_run (v := .pointer (some ⟨B1, 1, none⟩)) rfl rfl ?_ (fun _ _ => rfl) (Ok.refl _)
    clear hF
    go_simp
  · intro a' w' hF hR
    obtain ⟨v10, hv10, e15⟩ := hF.get 10 15 (by kernel_rfl) (by kernel_rfl)
    obtain rfl : v10 = _ := hv10 _ (Ok.refl _)
    obtain ⟨q1, q4, q5⟩ := HA.out _ hR
    refine wpOp_run (v := .int .i64 a.frm) rfl rfl ?_ (fun _ _ => rfl) (Ok.refl _)
    clear hF
    go_simp
  · intro a' w' hF hR
    have e3 : a'.tmps[3]? = some (.pointer (some ⟨B2, 0, none⟩)) := hF.slot 3 (by kernel_rfl) rfl
    refine wpOp_run (v := .pointer (some ⟨B2, 1, none⟩)) rfl rfl ?_ (fun _ _ => rfl) (Ok.refl _)
    clear hF
    go_simp
  · intro a' w' hF hR
    obtain ⟨v12, hv12, e17⟩ := hF.get 12 17 (by kernel_rfl) (by kernel_rfl)
    obtain rfl : v12 = _ := hv12 _ (Ok.refl _)
    obtain ⟨q1, q4, q5⟩ := HB.out _ hR
    refine wpOp_run (v := .int .i64 b.frm) rfl rfl ?_ (fun _ _ => rfl) (Ok.refl _)
    clear hF
    go_simp
  · intro a' w' hF hR
    obtain ⟨v11, hv11, e16⟩ := hF.get 11 16 (by kernel_rfl) (by kernel_rfl)
    obtain rfl : v11 = _ := hv11 _ (Ok.refl _)
    obtain ⟨v13, hv13, e18⟩ := hF.get 13 18 (by kernel_rfl) (by kernel_rfl)
    obtain rfl : v13 = _ := hv13 _ (Ok.refl _)
    clear hF
    refine wpOp_call (f := 153) (args := #[.int .i64 a.frm, .int .i64 b.frm]) rfl rfl ?_ ((Route.cmpCompare a.frm b.frm _).mono ?_)
    · go_simp
    · rintro e w2 ⟨rfl, rfl⟩; exact ⟨_, rfl, fun _ _ => rfl, Ok.refl _⟩
  · intro a' w' hF hR
    obtain ⟨v4, hv4, e9⟩ := hF.get 4 9 (by kernel_rfl) (by kernel_rfl)
    obtain rfl : v4 = _ := hv4 _ (Ok.refl _)
    obtain ⟨v9, hv9, e14⟩ := hF.get 9 14 (by kernel_rfl) (by kernel_rfl)
    obtain rfl : v9 = _ := hv9 _ (Ok.refl _)
    obtain ⟨v14, hv14, e19⟩ := hF.get 14 19 (by kernel_rfl) (by kernel_rfl)
    obtain rfl : v14 = _ := hv14 _ (Ok.refl _)
    refine wpOp_run (v := .slice (some ⟨w'.heap.size, 0, none⟩) 3 3) (w' := w'.alloc (.cells #[.int .i64 (Route.c3 a.hops b.hops), .int .i64 (Route.c3 a.held b.held), .int .i64 (Route.c3 a.frm b.frm)] 3)) rfl rfl ?_ (fun w'' k => ⟨_, rfl, (ints_new _ [Route.c3 a.hops b.hops, Route.c3 a.held b.held, Route.c3 a.frm b.frm] _ _ rfl rfl).below k⟩) ((Ok.refl _).alloc _)
    clear hF
    go_simp
  · intro a' w' hF hR
    obtain ⟨v15, hv15, e20⟩ := hF.get 15 20 (by kernel_rfl) (by kernel_rfl)
    obtain ⟨n15, rfl, hp15⟩ := hv15 _ (Ok.refl _)
    clear hF
    refine wpOp_call (f := 191) (args := #[.slice (some n15) 3 3]) rfl rfl ?_ ((Route.cmpOr n15 _ _ _ _ hp15).mono ?_)
    · go_simp
    · rintro e w2 ⟨rfl, rfl⟩; exact ⟨_, rfl, fun _ _ => rfl, Ok.refl _⟩
  · intro a' w' hF hR
    obtain ⟨v16, hv16, e21⟩ := hF.get 16 21 (by kernel_rfl) (by kernel_rfl)
    obtain rfl : v16 = _ := hv16 _ (Ok.refl _)
    refine wpOp_run (v := .int .i64 (Route.ord a b)) rfl rfl ?_ (fun _ _ => rfl) (Ok.refl _)
    clear hF
    go_simp
  intro vs w2 hV hR
  have e17 : vs 17 = .int .i64 (Route.ord a b) := hV 17 (by decide) _ (Ok.refl _)
  have hok2 := hok.trans ((Ok.refl W).drew.trans hR)
  clear hV HA HB
  simp only [putFrom, e17]
  simp only [Act.put, List.setIfInBounds_toArray, List.set_cons_zero, List.set_cons_succ]
  go_wp2
  go_ret
  exact ⟨rfl, hok2⟩
end Go.Proofs.YtmokofblmkeloaaGreatDoor
