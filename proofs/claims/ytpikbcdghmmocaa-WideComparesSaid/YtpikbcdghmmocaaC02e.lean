/- Contracts of layer 2's functions: how rates stand. -/
import Derived.Test.YtpikbcdghmmocaaC02b
import Derived.Test.YtpikbcdghmmocaaM03
import Derived.Deep.RegionHeld3
namespace Go.Proofs.Ytpikbcdghmmocaa
open Go.RowKit
set_option maxRecDepth 100000

theorem cmpNaNu (x : Int) (w : World) : Calls Try.prog 36 #[.int .u64 x] w fun e w' => e = .returned (.bool false) ∧ w = w' := by
  have h : (x != x) = false := by simp
  go_enter Try.func36, Try.ntmps36
  go_wp2
  go_ret
  exact ⟨rfl, rfl⟩
theorem cmpCompareu (x y : Int) (w : World) : Calls Try.prog 29 #[.int .u64 x, .int .u64 y] w fun e w' => e = .returned (.int .i64 (Wide.cmp x y)) ∧ w = w' := by
  rcases Int.lt_trichotomy x y with h | h | h
  · have e : Wide.cmp x y = -1 := by unfold Wide.cmp; rw [if_pos h]
    rw [e]; clear e
    go_enter Try.func29, Try.ntmps29
    go_wp2_with (go_at_call 36; refine (cmpNaNu _ _).mono ?_; rintro e w' ⟨rfl, rfl⟩)
    go_ret
    exact ⟨rfl, rfl⟩
  · have e : Wide.cmp x y = 0 := by unfold Wide.cmp; rw [if_neg (by omega), if_neg (by omega)]
    rw [e]; clear e
    have h1 : ¬ x < y := by omega
    have h2 : ¬ y < x := by omega
    clear h
    go_enter Try.func29, Try.ntmps29
    go_wp2_with (go_at_call 36; refine (cmpNaNu _ _).mono ?_; rintro e w' ⟨rfl, rfl⟩)
    go_ret
    exact ⟨rfl, rfl⟩
  · have e : Wide.cmp x y = 1 := by unfold Wide.cmp; rw [if_neg (by omega), if_pos h]
    rw [e]; clear e
    go_enter Try.func29, Try.ntmps29
    go_wp2_with (go_at_call 36; refine (cmpNaNu _ _).mono ?_; rintro e w' ⟨rfl, rfl⟩)
    go_ret
    exact ⟨rfl, rfl⟩
theorem cmpComparei (x y : Int) (w : World) : Calls Try.prog 28 #[.int .i64 x, .int .i64 y] w fun e w' => e = .returned (.int .i64 (Wide.cmp x y)) ∧ w = w' :=
  (Try.cmp_Compare_int x y w).mono fun e w' g => ⟨g.1, g.2.symm⟩
set_option maxHeartbeats 400000 in
theorem cmpOr2 (x y : Int) (w : World) (t : TypeId) (b : Nat) (hb : b = w.heap.size) :
    Calls Try.prog 27 #[.slice (some ⟨b, 0, none⟩) 2 2] (w.alloc (.cells #[.int .i64 x, .int .i64 y] t)) fun e w' => e = .returned (.int .i64 (if x ≠ 0 then x else y)) ∧ (w.alloc (.cells #[.int .i64 x, .int .i64 y] t)) = w' := by
  have H := ints_new w [x, y] t #[.int .i64 x, .int .i64 y] rfl hb
  obtain ⟨_, _, h1, _, c0⟩ := H 0 (by simp)
  obtain ⟨_, _, h2, _, c1⟩ := H 1 (by simp)
  cases h1
  cases h2
  clear H
  obtain ⟨W, hW⟩ : ∃ W, w.alloc (.cells #[.int .i64 x, .int .i64 y] t) = W := ⟨_, rfl⟩
  rw [hW] at c0 c1 ⊢
  clear hW hb
  simp only [List.getElem_cons_zero, List.getElem_cons_succ, Nat.zero_add] at c0 c1
  by_cases hx : x = 0
  · subst hx
    rw [if_neg (by simp)]
    by_cases hy : y = 0
    · subst hy
      go_enter Try.func27, Try.ntmps27
      go_wp2
      refine wp_loop_rounds 3 ?_
      repeat (rw [rounds_succ]; go_wp2)
      go_ret
      exact ⟨rfl, rfl⟩
    · have h1 : (y == 0) = false := by rw [beq_eq_false_iff_ne]; exact hy
      have h2 : (y != 0) = true := by rw [bne_iff_ne]; exact hy
      go_enter Try.func27, Try.ntmps27
      go_wp2
      refine wp_loop_rounds 3 ?_
      repeat (rw [rounds_succ]; go_wp2)
      go_ret
      exact ⟨rfl, rfl⟩
  · rw [if_pos hx]
    have h1 : (x == 0) = false := by rw [beq_eq_false_iff_ne]; exact hx
    have h2 : (x != 0) = true := by rw [bne_iff_ne]; exact hx
    go_enter Try.func27, Try.ntmps27
    go_wp2
    refine wp_loop_rounds 3 ?_
    repeat (rw [rounds_succ]; go_wp2)
    go_ret
    exact ⟨rfl, rfl⟩
theorem two_words (a : Int) (d x : Nat) (hx : (x : Int) = a + 18446744073709551616) : ((x * d / 18446744073709551616 : Nat) : Int) = a * d / 18446744073709551616 + d ∧ ((x * d % 18446744073709551616 : Nat) : Int) = a * d % 18446744073709551616 := by
  have e : ((x * d : Nat) : Int) = a * d + d * 18446744073709551616 := by rw [Int.natCast_mul, hx, Int.add_mul, Int.mul_comm (18446744073709551616 : Int)]
  generalize x * d = p at *
  generalize a * (d : Int) = q at *
  omega
theorem hi_small {a d : Int} (h1 : -2305843009213693952 ≤ a) (h2 : a ≤ 2305843009213693952) (h3 : 1 ≤ d) (h4 : d ≤ 2305843009213693952) : -288230376151711744 ≤ a * d / 18446744073709551616 ∧ a * d / 18446744073709551616 ≤ 288230376151711744 := by
  have k1 := Int.mul_le_mul_of_nonneg_right h1 (show 0 ≤ d by omega)
  have k2 := Int.mul_le_mul_of_nonneg_right h2 (show 0 ≤ d by omega)
  generalize a * d = q at *
  omega
set_option maxHeartbeats 800000 in
theorem wideProduct (a d : Int) (hd : 1 ≤ d) (hd' : d ≤ 2305843009213693952) (w : World) :
    Calls Try.prog 26 #[.int .i64 a, .int .i64 d] w fun e w' => e = .returned (.tuple #[.int .i64 (Sat.clip a * d / 18446744073709551616), .int .u64 (Sat.clip a * d % 18446744073709551616)]) ∧ w = w' := by
  have ha := Sat.clip_bd a
  obtain ⟨n, rfl⟩ := Int.eq_ofNat_of_zero_le (show 0 ≤ d by omega)
  have hs := hi_small ha.1 ha.2 hd hd'
  obtain ⟨c, hc⟩ : ∃ c, Sat.clip a = c := ⟨_, rfl⟩
  rw [hc] at ha hs ⊢
  by_cases h : c < 0
  · obtain ⟨x, hx⟩ : ∃ x : Nat, (x : Int) = c + 18446744073709551616 := ⟨(c + 18446744073709551616).toNat, by omega⟩
    obtain ⟨e1, e2⟩ := two_words c n x hx
    obtain ⟨q, hq⟩ : ∃ q, x * n / 18446744073709551616 = q := ⟨_, rfl⟩
    obtain ⟨r, hr⟩ : ∃ r, x * n % 18446744073709551616 = r := ⟨_, rfl⟩
    have K := Lib.hid fun w => bitsMul64' x n q r (by omega) (by omega) (Lib.hid hq) (Lib.hid hr) w
    rw [hq] at e1
    rw [hr] at e2
    rw [← e2]
    obtain ⟨z, hz⟩ : ∃ z, c * (n : Int) / 18446744073709551616 = z := ⟨_, rfl⟩
    rw [hz] at e1 hs ⊢
    have ex : IntKind.u64.wrap c = (x : Int) := by rw [IntKind.wrap_u64]; omega
    have bq : (q : Int) ≤ 2594073385365405696 := by omega
    have ez : (q : Int) - n = z := by omega
    clear hx e1 e2 hq hr hz
    go_enter Try.func26, Try.ntmps26
    go_wp2_with (first | (go_at_call 11; refine (satClip _ _).mono ?_; rintro e w' ⟨rfl, rfl⟩) | (go_at_call 34; refine (K.out _).mono ?_; rintro e w' ⟨rfl, rfl⟩))
    go_ret2
    exact ⟨rfl, rfl⟩
  · obtain ⟨x, rfl⟩ := Int.eq_ofNat_of_zero_le (show 0 ≤ c by omega)
    obtain ⟨q, hq⟩ : ∃ q, x * n / 18446744073709551616 = q := ⟨_, rfl⟩
    obtain ⟨r, hr⟩ : ∃ r, x * n % 18446744073709551616 = r := ⟨_, rfl⟩
    have K := Lib.hid fun w => bitsMul64' x n q r (by omega) (by omega) (Lib.hid hq) (Lib.hid hr) w
    have e1 : (x : Int) * (n : Int) / 18446744073709551616 = (q : Int) := by rw [← hq, ← Int.natCast_mul]; rfl
    have e2 : (x : Int) * (n : Int) % 18446744073709551616 = (r : Int) := by rw [← hr, ← Int.natCast_mul]; rfl
    rw [e1, e2]
    rw [e1] at hs
    clear hq hr e1 e2
    go_enter Try.func26, Try.ntmps26
    go_wp2_with (first | (go_at_call 11; refine (satClip _ _).mono ?_; rintro e w' ⟨rfl, rfl⟩) | (go_at_call 34; refine (K.out _).mono ?_; rintro e w' ⟨rfl, rfl⟩))
    go_ret2
    exact ⟨rfl, rfl⟩
/-- Two structs of two integers that were laid in new blocks. -/
def Box2 (g : Nat) (w : World) (an ad bn bd : Int) (w' : World) : Prop :=
  w'.cell? ⟨g, 0, none⟩ = some (.int .i64 an) ∧ w'.cell? ⟨g, 1, none⟩ = some (.int .i64 ad) ∧ w'.cell? ⟨g + 1, 0, none⟩ = some (.int .i64 bn) ∧ w'.cell? ⟨g + 1, 1, none⟩ = some (.int .i64 bd) ∧ g + 1 < w'.heap.size ∧ Ok w w'
theorem Box2.drew {g : Nat} {w w' : World} {an ad bn bd : Int} (h : Box2 g w an ad bn bd w') : Box2 g w an ad bn bd w'.drew := ⟨h.1, h.2.1, h.2.2.1, h.2.2.2.1, h.2.2.2.2.1, h.2.2.2.2.2.drew⟩
theorem Box2.next {g : Nat} {w w' w1 : World} {an ad bn bd : Int} (h : Box2 g w an ad bn bd w') (k : Ok w' w1) : Box2 g w an ad bn bd w1 := by
  obtain ⟨c0, c1, c2, c3, hs, ho⟩ := h
  exact ⟨(k.cell (p := ⟨g, 0, none⟩) (by show g < _; omega)).trans c0, (k.cell (p := ⟨g, 1, none⟩) (by show g < _; omega)).trans c1, (k.cell (p := ⟨g + 1, 0, none⟩) hs).trans c2, (k.cell (p := ⟨g + 1, 1, none⟩) hs).trans c3, Nat.lt_of_lt_of_le hs k.size, ho.trans k⟩
theorem Box2.start (w : World) (an ad bn bd : Int) (t : TypeId) : Box2 w.heap.size w an ad bn bd ((w.alloc (.cells #[.int .i64 an, .int .i64 ad] t)).alloc (.cells #[.int .i64 bn, .int .i64 bd] t)) := by
  have H1 := ints_new w [an, ad] t #[.int .i64 an, .int .i64 ad] rfl rfl
  have H2 := ints_new (w.alloc (.cells #[.int .i64 an, .int .i64 ad] t)) [bn, bd] t #[.int .i64 bn, .int .i64 bd] rfl rfl
  have H3 := H1.below (below_alloc _ (.cells #[.int .i64 bn, .int .i64 bd] t))
  obtain ⟨_, _, e0, _, c0⟩ := H3 0 (by simp)
  obtain ⟨_, _, e1, _, c1⟩ := H3 1 (by simp)
  obtain ⟨_, _, e2, _, c2⟩ := H2 0 (by simp)
  obtain ⟨_, _, e3, _, c3⟩ := H2 1 (by simp)
  cases e0; cases e1; cases e2; cases e3
  have hsz : (w.alloc (.cells #[.int .i64 an, .int .i64 ad] t)).heap.size = w.heap.size + 1 := by simp
  rw [hsz] at c2 c3
  exact ⟨c0, c1, c2, c3, by simp, ((Ok.refl w).alloc _).alloc _⟩
set_option maxHeartbeats 1600000 in
theorem wideCompare (an ad bn bd : Int) (w : World) :
    Calls Try.prog 17 #[.agg #[.int .i64 an, .int .i64 ad], .agg #[.int .i64 bn, .int .i64 bd]] w fun e w' => e = .returned (.int .i64 (Wide.rates an ad bn bd)) ∧ Ok w w' := by
  have oa := Wide.one_bd ad
  have ob := Wide.one_bd bd
  obtain ⟨P, hP⟩ : ∃ P, Sat.clip an * Wide.one bd = P := ⟨_, rfl⟩
  obtain ⟨Q, hQ⟩ : ∃ Q, Sat.clip bn * Wide.one ad = Q := ⟨_, rfl⟩
  have KP := Lib.hid fun w => wideProduct an (Wide.one bd) ob.1 ob.2 w
  have KQ := Lib.hid fun w => wideProduct bn (Wide.one ad) oa.1 oa.2 w
  rw [hP] at KP
  rw [hQ] at KQ
  have hr : Wide.rates an ad bn bd = Wide.cmp P Q := by unfold Wide.rates; rw [hP, hQ]
  rw [hr]
  clear hP hQ hr oa ob
  go_enter Try.func17, Try.ntmps17
  go_wp2
  have hB := Box2.start w an ad bn bd 29
  obtain ⟨W, hW⟩ : ∃ W, (w.alloc (.cells #[.int .i64 an, .int .i64 ad] 29)).alloc (.cells #[.int .i64 bn, .int .i64 bd] 29) = W := ⟨_, rfl⟩
  rw [hW] at hB ⊢
  clear hW
  obtain ⟨g, hg⟩ : ∃ g, w.heap.size = g := ⟨_, rfl⟩
  rw [hg] at hB ⊢
  go_region_held3 (fun w' => w'.cell? ⟨g, 0, none⟩ = some (.int .i64 an) ∧ w'.cell? ⟨g, 1, none⟩ = some (.int .i64 ad) ∧ w'.cell? ⟨g + 1, 0, none⟩ = some (.int .i64 bn) ∧ w'.cell? ⟨g + 1, 1, none⟩ = some (.int .i64 bd) ∧ g + 1 < w'.heap.size ∧ Ok w w')
    (first | assumption | exact hB.drew | exact Box2.next hB.drew (by assumption) | exact Box2.next (by assumption) (by assumption))
    (first | (go_at_call 20; refine (wideDivisor _ _).mono ?_; rintro e w1 ⟨rfl, hb1⟩) | (go_at_call 26; refine (KP.out _).mono ?_; rintro e w1 ⟨rfl, rfl⟩))
  all_goals
    rename_i hS
    have hB1 : Box2 g w an ad bn bd w1 := hS
    clear hS hb1
    go_wp2
    go_region_held3 (fun w' => w'.cell? ⟨g, 0, none⟩ = some (.int .i64 an) ∧ w'.cell? ⟨g, 1, none⟩ = some (.int .i64 ad) ∧ w'.cell? ⟨g + 1, 0, none⟩ = some (.int .i64 bn) ∧ w'.cell? ⟨g + 1, 1, none⟩ = some (.int .i64 bd) ∧ g + 1 < w'.heap.size ∧ Ok w w')
      (first | assumption | exact hB1.drew | exact Box2.next hB1.drew (by assumption) | exact Box2.next (by assumption) (by assumption))
      (first | (go_at_call 20; refine (wideDivisor _ _).mono ?_; rintro e w2 ⟨rfl, hb1⟩) | (go_at_call 26; refine (KQ.out _).mono ?_; rintro e w1 ⟨rfl, rfl⟩))
    all_goals
      rename_i hS
      have hB2 : Box2 g w an ad bn bd w2 := hS
      clear hS hb1
      have hok := hB2.2.2.2.2.2
      obtain ⟨k1, k2⟩ := Wide.cmp_words P Q
      have hfin : (if Wide.cmp (P / 18446744073709551616) (Q / 18446744073709551616) ≠ 0 then Wide.cmp (P / 18446744073709551616) (Q / 18446744073709551616) else Wide.cmp (P % 18446744073709551616) (Q % 18446744073709551616)) = Wide.cmp P Q := by
        by_cases h : Wide.cmp (P / 18446744073709551616) (Q / 18446744073709551616) = 0
        · rw [if_neg (by simp [h])]; exact k2 h
        · rw [if_pos h]; exact k1 h
      have FIN := Lib.hid hfin
      clear k1 k2 hfin
      go_wp2_with (first
        | (go_at_call 28; refine (cmpComparei _ _ _).mono ?_; rintro e w' ⟨rfl, rfl⟩)
        | (go_at_call 29; refine (cmpCompareu _ _ _).mono ?_; rintro e w' ⟨rfl, rfl⟩)
        | (go_at_call 27; (with_reducible refine (cmpOr2 _ _ _ _ _ (by simp)).mono ?_); rintro e w' ⟨rfl, rfl⟩; rw [FIN.out]))
      go_ret
      exact ⟨rfl, hok.alloc _⟩
end Go.Proofs.Ytpikbcdghmmocaa
