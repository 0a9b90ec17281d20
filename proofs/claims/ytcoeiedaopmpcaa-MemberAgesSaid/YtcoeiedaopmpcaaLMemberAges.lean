/- MemberAges: for every script of calls, every number, and all integers the law answers true: who is heard in each of n beats has an age of n behind them; who isn't heard then for patience and two beats is none behind them. No condition. -/
import Derived.Test.YtcoeiedaopmpcaaC14j
import Derived.Test.YtcoeiedaopmpcaaM29
namespace Go.Proofs.Ytcoeiedaopmpcaa.memberAges
open Go.ChangeShapes Go.WideShapes Go.ChangeAt Go.RowKit
set_option linter.unusedVariables false
set_option maxRecDepth 100000
def Some (w W : World) (g b : Nat) : Prop := ∃ f, MineM w W g b f
def Heard (w W : World) (g b k n : Nat) : Prop := ∃ f, MineM w W g b f ∧ Mem.Aged f k n ∧ (0 < n → Mem.quiet (f k) = 1)
def Unheard (w W : World) (g b k : Nat) (p : Int) (j : Nat) : Prop := ∃ f, MineM w W g b f ∧ Mem.Going f k p j
theorem some_hear {w W : World} {g b : Nat} (h : Some w W g b) {x : Int} (hx : (Lit.int .i64 x).wf = true) : Calls Try.prog 9 #[.pointer (some ⟨g, 0, none⟩), .int .i64 x] W fun e w' => ∃ z, e = .returned (.int .i64 z) ∧ Some w w' g b := by
  obtain ⟨f, h⟩ := h
  exact (h.hear hx).mono fun e w' ⟨h1, h2, _⟩ => ⟨_, h1, _, h2⟩
theorem some_tick {w W : World} {g b : Nat} (h : Some w W g b) {x : Int} (hx : (Lit.int .i64 x).wf = true) : Calls Try.prog 12 #[.pointer (some ⟨g, 0, none⟩), .int .i64 x] W fun e w' => ∃ v, e = .returned v ∧ Some w w' g b := by
  obtain ⟨f, h⟩ := h
  exact (h.tick hx).mono fun e w' ⟨A, c, h1, _, _, h2, _⟩ => ⟨_, h1, _, h2⟩
theorem some_drop {w W : World} {g b : Nat} (h : Some w W g b) {x : Int} (hx : (Lit.int .i64 x).wf = true) : Calls Try.prog 14 #[.pointer (some ⟨g, 0, none⟩), .int .i64 x] W fun e w' => e = .returned (.tuple #[]) ∧ Some w w' g b := by
  obtain ⟨f, h⟩ := h
  exact (h.drop hx).mono fun e w' ⟨h1, h2, _⟩ => ⟨h1, _, h2⟩
theorem some_next {w W W1 : World} {g b : Nat} (h : Some w W g b) (k : Ok W W1) : Some w W1 g b := by
  obtain ⟨f, h⟩ := h
  exact ⟨f, h.next k⟩
theorem some_ok {w W : World} {g b : Nat} (h : Some w W g b) : Ok w W := by
  obtain ⟨f, h⟩ := h
  exact h.ok
/-- The first time: either it isn't taken, or it is a neighbour. -/
theorem first_hear {w W : World} {g b : Nat} (h : Some w W g b) {x : Int} (hx : (Lit.int .i64 x).wf = true) : Calls Try.prog 9 #[.pointer (some ⟨g, 0, none⟩), .int .i64 x] W fun e w' => (∃ z, (z != 0) = true ∧ e = .returned (.int .i64 z) ∧ Ok w w') ∨ (e = .returned (.int .i64 0) ∧ ∃ k : Nat, x = k ∧ k < 48 ∧ Heard w w' g b k 0) := by
  obtain ⟨f, h⟩ := h
  refine (h.hear hx).mono fun e w' ⟨h1, h2, _⟩ => ?_
  by_cases hz : Mem.hearE f x = 0
  · obtain ⟨hb, hn⟩ := Mem.hearE_zero hz
    obtain ⟨k, rfl⟩ : ∃ k : Nat, x = k := ⟨x.toNat, by omega⟩
    have hk : k < 48 := by omega
    rw [Mem.look_at] at hn
    have hor : f k ≠ none ∨ (Mem.nums f).length ≠ 16 := by
      by_cases e : f k = none
      · exact .inr fun e2 => hn ⟨e, e2⟩
      · exact .inl e
    exact .inr ⟨by rw [h1, hz], k, rfl, hk, _, h2, Mem.aged_hear hk hor h.good, fun h => absurd h (Nat.lt_irrefl 0)⟩
  · exact .inl ⟨_, by simpa using hz, h1, h2.ok⟩
def HeardMid (w W : World) (g b k n : Nat) : Prop := ∃ f, MineM w W g b (Mem.hear f (k : Int)) ∧ Mem.Aged f k n
theorem heard_hear {w W : World} {g b k n : Nat} (hk : k < 48) (h : Heard w W g b k n) : Calls Try.prog 9 #[.pointer (some ⟨g, 0, none⟩), .int .i64 (k : Int)] W fun e w' => e = .returned (.int .i64 0) ∧ HeardMid w w' g b k n := by
  obtain ⟨f, h, ha, -⟩ := h
  exact (h.hear (wf_nat (by omega))).mono fun e w' ⟨h1, h2, _⟩ => ⟨by rw [h1, Mem.hearE_at hk (.inl ha.some)], f, h2, ha⟩
theorem heard_tick {w W : World} {g b k n : Nat} {p : Int} (hp : (Lit.int .i64 p).wf = true) (hk : k < 48) (hn : n < 60) (h : HeardMid w W g b k n) : Calls Try.prog 12 #[.pointer (some ⟨g, 0, none⟩), .int .i64 p] W fun e w' => ∃ v, e = .returned v ∧ Heard w w' g b k (n + 1) := by
  obtain ⟨f, h, ha⟩ := h
  have := Mem.aged_tick (m := p) hk ha hn
  exact (h.tick hp).mono fun e w' ⟨A, c, h1, _, _, h2, _⟩ => ⟨_, h1, _, h2, this.1, fun _ => this.2⟩
theorem heard_age {w W : World} {g b k n : Nat} {p : Int} (hk : k < 48) (h1 : 0 < n) (hp : 0 ≤ p) (h : Heard w W g b k n) : Calls Try.prog 17 #[.pointer (some ⟨g, 0, none⟩), .int .i64 (k : Int)] W fun e w' => ∃ a : Int, ¬ a < (n : Int) ∧ e = .returned (.tuple #[.int .i64 a, .bool true]) ∧ Unheard w w' g b k p 0 := by
  obtain ⟨f, h, ha, hq⟩ := h
  have hgo := Mem.going_start ha (hq h1) hp
  obtain ⟨a, q, e, hle⟩ := ha
  refine (h.age (wf_nat (by omega))).mono fun e' w' ⟨h1, h2, _⟩ => ⟨a, by omega, ?_, f, h2, hgo⟩
  rw [h1, Mem.look_at, e]
  rfl
theorem unheard_tick {w W : World} {g b k j : Nat} {p : Int} (hw : (Lit.int .i64 p).wf = true) (hp : p ≤ 50) (h : Unheard w W g b k p j) : Calls Try.prog 12 #[.pointer (some ⟨g, 0, none⟩), .int .i64 p] W fun e w' => ∃ v, e = .returned v ∧ Unheard w w' g b k p (j + 1) := by
  obtain ⟨f, h, hg⟩ := h
  exact (h.tick hw).mono fun e w' ⟨A, c, h1, _, _, h2, _⟩ => ⟨_, h1, _, h2, Mem.going_tick hg hp⟩
theorem unheard_age {w W : World} {g b k j : Nat} {p : Int} (hk : k < 48) (hj : p < (j : Int)) (h : Unheard w W g b k p j) : Calls Try.prog 17 #[.pointer (some ⟨g, 0, none⟩), .int .i64 (k : Int)] W fun e w' => ∃ a : Int, e = .returned (.tuple #[.int .i64 a, .bool false]) ∧ Ok w w' := by
  obtain ⟨f, h, hg⟩ := h
  refine (h.age (wf_nat (by omega))).mono fun e' w' ⟨h1, h2, _⟩ => ⟨Mem.age (Mem.look f (k : Int)), ?_, h2.ok⟩
  rw [h1, Mem.look_at, Mem.going_end hg hj]
  rfl
set_option maxHeartbeats 4000000 in
theorem walk (w : World) (A : Option Addr) (l : List (Int × Int)) (c : Nat) (hA : PairsAt w A l) (hl : l.length ≤ 9223372036854775807) (hw : ∀ s ∈ l, (Lit.int .i64 s.1).wf = true ∧ (Lit.int .i64 s.2).wf = true) (x : Int) (wx : (Lit.int .i64 x).wf = true) (n : Int) (wn : (Lit.int .i64 n).wf = true) (p : Int) (wp : (Lit.int .i64 p).wf = true) :
    Calls Try.prog 4 #[.slice A l.length c, .int .i64 x, .int .i64 n, .int .i64 p] w fun e w' => e = .returned (.bool true) ∧ Below w.heap.size w w' := by
  have HA := Lib.hid hA
  have HW := Lib.hid hw
  have HX := Lib.hid (And.intro wx (And.intro wn wp))
  clear hA hw wx wn wp
  by_cases hc : 200 < l.length ∨ n < 1 ∨ 60 < n ∨ p < 0 ∨ 50 < p
  · go_enter Try.func4, Try.ntmps4
    go_wp2_with (go_at_call 7; (with_reducible refine (memAlive _).mono ?_); rintro e w1 ⟨rfl, hok1⟩)
    all_goals first
      | (exfalso; omega)
      | (go_ret; exact ⟨rfl, hok1⟩)
  · have h1 : ¬ 200 < l.length := by omega
    have h2 : ¬ n < 1 := by omega
    have h3 : ¬ 60 < n := by omega
    have h4 : ¬ p < 0 := by omega
    have h5 : ¬ 50 < p := by omega
    clear hc
    go_enter Try.func4, Try.ntmps4
    go_wp2_with (first
      | (go_at_call 7; (with_reducible refine (memAlive _).mono ?_); rintro e w1 ⟨rfl, hok1⟩)
      | (go_at_call 8; (with_reducible refine (memNew _).mono ?_); rintro e w2 ⟨rfl, hk2, hT2⟩))
    have H0 : Hid (Some w w2 (w1.heap.size + 1) w1.heap.size) := Lib.hid ⟨_, MineM.made hok1 hk2 hT2⟩
    clear hok1 hk2 hT2
    generalize w1.heap.size + 1 = g at H0 ⊢
    generalize w1.heap.size = b at H0
    go_loopw [40] (fun i wr => ∃ k : Nat, k ≤ l.length ∧ i = .int .i64 k ∧ Hid (Some w wr g b)) (fun i _ => l.length - (intOf i).toNat)
    case atStart => exact ⟨0, Nat.zero_le _, rfl, H0⟩
    case round =>
      obtain ⟨k, hk, rfl, hrel⟩ := hrel
      clear H0
      by_cases hlt : k < l.length
      · obtain ⟨B, off, hAe, hb1, c0, c1⟩ := (HA.out.below (some_ok hrel.out)) k hlt
        subst hAe
        have hwx := (HW.out l[k] (List.getElem_mem hlt)).2
        obtain ⟨s, hs⟩ : ∃ s, l[k] = s := ⟨_, rfl⟩
        rw [hs] at c0 c1 hwx
        obtain ⟨xk, xn⟩ := s
        simp only at c0 c1 hwx
        have hwx := Lib.hid hwx
        have HI : Hid (Some w (wr.alloc (.cells #[.int .i64 xk, .int .i64 xn] 33)) g b) := Lib.hid (some_next hrel.out ((Ok.refl _).alloc _))
        clear hs hb1 hrel
        by_cases h0 : xk = 0
        · subst h0
          go_wp2_with (go_at_call 9; (with_reducible refine (some_hear HI.out hwx.out).mono ?_); rintro e w5 ⟨z, rfl, hM5⟩; replace hM5 := Lib.hid hM5)
          go_roundw
          case rel => exact ⟨k + 1, by omega, by go_num, hM5⟩
          case measure => simp [intOf]; omega
        · have d0 : (xk == 0) = false := by rw [beq_eq_false_iff_ne]; exact h0
          by_cases h1 : xk = 1
          · subst h1
            go_wp2_with (go_at_call 12; (with_reducible refine (some_tick HI.out hwx.out).mono ?_); rintro e w5 ⟨v, rfl, hM5⟩; replace hM5 := Lib.hid hM5)
            go_roundw
            case rel => exact ⟨k + 1, by omega, by go_num, hM5⟩
            case measure => simp [intOf]; omega
          · have d1 : (xk == 1) = false := by rw [beq_eq_false_iff_ne]; exact h1
            by_cases h2 : xk = 2
            · subst h2
              go_wp2_with (go_at_call 14; (with_reducible refine (some_drop HI.out hwx.out).mono ?_); rintro e w5 ⟨rfl, hM5⟩; replace hM5 := Lib.hid hM5)
              go_roundw
              case rel => exact ⟨k + 1, by omega, by go_num, hM5⟩
              case measure => simp [intOf]; omega
            · have d2 : (xk == 2) = false := by rw [beq_eq_false_iff_ne]; exact h2
              clear h0 h1 h2
              go_wp2
              go_roundw
              case rel => exact ⟨k + 1, by omega, by go_num, HI⟩
              case measure => simp [intOf]; omega
      · clear HA HW hl h1
        obtain ⟨N, rfl⟩ : ∃ N : Nat, n = N := ⟨n.toNat, by omega⟩
        obtain ⟨M, rfl⟩ : ∃ M : Nat, p = M := ⟨p.toNat, by omega⟩
        have hN1 : 0 < N := by omega
        have hN2 : N ≤ 60 := by omega
        have hM2 : M ≤ 50 := by omega
        have hp0 : (0 : Int) ≤ (M : Int) := by omega
        have hp5 : (M : Int) ≤ 50 := by omega
        have HP := Lib.hid (And.intro hp0 hp5)
        clear h2 h3 h4 h5 hp0 hp5
        go_wp2_with fail
        refine (first_hear hrel.out HX.out.1).mono ?_
        rintro e w5 (⟨z, hz, rfl, hok5⟩ | ⟨rfl, kk, rfl, hkk, hM5⟩)
        · clear hrel
          go_wp2_with fail
          go_ret
          exact ⟨rfl, hok5⟩
        · replace hM5 := Lib.hid hM5
          clear hrel
          go_wp2_with fail
          go_loopw [12] (fun v wr2 => ∃ i : Nat, i ≤ N ∧ v = .int .i64 i ∧ Hid (Heard w wr2 g b kk i)) (fun v _ => N - (intOf v).toNat)
          case atStart => exact ⟨0, Nat.zero_le _, rfl, hM5⟩
          case round =>
            obtain ⟨i, hi, rfl, hrel2⟩ := hrel
            clear hM5
            by_cases hlt2 : i < N
            · have hi60 : i < 60 := by omega
              go_wp2_with (first
                | (go_at_call 9; (with_reducible refine (heard_hear hkk hrel2.out).mono ?_); rintro e w6 ⟨rfl, hM6⟩; replace hM6 := Lib.hid hM6)
                | (go_at_call 12; (with_reducible refine (heard_tick HX.out.2.2 hkk hi60 hM6.out).mono ?_); rintro e w7 ⟨v7, rfl, hM7⟩; replace hM7 := Lib.hid hM7))
              go_roundw
              case rel => exact ⟨i + 1, by omega, by go_num, hM7⟩
              case measure => simp [intOf]; omega
            · obtain rfl : i = N := by omega
              go_wp2_with (go_at_call 17; (with_reducible refine (heard_age (p := (M : Int)) hkk hN1 HP.out.1 hrel2.out).mono ?_); rintro e w6 ⟨a, ha, rfl, hM6⟩; replace hM6 := Lib.hid hM6)
              go_loopw [15] (fun v wr3 => ∃ j : Nat, j ≤ M + 2 ∧ v = .int .i64 j ∧ Hid (Unheard w wr3 g b kk M j)) (fun v _ => M + 2 - (intOf v).toNat)
              case atStart => exact ⟨0, Nat.zero_le _, rfl, hM6⟩
              case round =>
                obtain ⟨j, hj, rfl, hrel3⟩ := hrel
                clear hM6 hrel2
                by_cases hlt3 : j < M + 2
                · go_wp2_with (go_at_call 12; (with_reducible refine (unheard_tick HX.out.2.2 HP.out.2 hrel3.out).mono ?_); rintro e w7 ⟨v7, rfl, hM7⟩; replace hM7 := Lib.hid hM7)
                  go_roundw
                  case rel => exact ⟨j + 1, by omega, by go_num, hM7⟩
                  case measure => simp [intOf]; omega
                · have hjM : (M : Int) < (j : Int) := by omega
                  go_wp2_with (go_at_call 17; (with_reducible refine (unheard_age hkk hjM hrel3.out).mono ?_); rintro e w7 ⟨a7, rfl, hok7⟩)
                  go_ret
                  exact ⟨rfl, hok7⟩
theorem own : ownKnob Try.prog.godebug = none := by kernel_rfl
theorem laidOut : laidOutB Try.prog = true := by kernel_rfl
set_option maxRecDepth 100000 in
theorem lifted (os : Os) (started : os.Started) (H : Type) (enc : TypeId × Value → H) :
    ReturnsInHanded {} Try.checked os 4 .any (Rows.memberAgesSpec.pre6 enc Try.prog Try.f4 Rows.memberAgesRow.domain false) (Rows.memberAgesSpec.post enc Try.prog Try.f4 false true false false) := by
  refine returnsInHanded_of_change (C := Try.checked) own started (by kernel_rfl) Try.func4
    (ChangeSpec.witness6 (enc := enc) (C := Try.checked) false ⟨#[], #[.slice none 0 0, .int .i64 0, .int .i64 0, .int .i64 0], []⟩ 8 (by kernel_rfl) (by kernel_rfl) (by kernel_rfl) (by kernel_rfl)) ?_
  intro W base args ds gs before hval0 hW _ _
  have hval : ∀ (j : Nat) t v, Try.f4.params[j]? = some t → args[j]? = some v → Value.okWide Try.prog W .any base t v := hval0
  have hW' := hW
  obtain ⟨p, q, hA, hV, rfl, _, _⟩ := hW
  obtain ⟨rfl, rfl⟩ := trodVars_none hV
  replace hA : DataW.TrodAll enc Try.prog W 0 (fun _ => true) true Try.f4.params.toList args.toList ds p := hA
  rw [Try.params4] at hA hval
  obtain ⟨v0, vs0, d0, ds0, p0, q0, hargs, rfl, rfl, h0, r0⟩ := trodAll_cons hA
  obtain ⟨v1, vs1, d1, ds1, p1, q1, rfl, rfl, rfl, h1, r1⟩ := trodAll_cons r0
  obtain ⟨v2, vs2, d2, ds2, p2, q2, rfl, rfl, rfl, h2, r2⟩ := trodAll_cons r1
  obtain ⟨v3, vs3, d3, ds3, p3, q3, rfl, rfl, rfl, h3, r3⟩ := trodAll_cons r2
  obtain ⟨rfl, rfl, rfl⟩ := trodAll_nil r3
  obtain rfl : args = #[v0, v1, v2, v3] := by cases args; simp_all
  obtain ⟨A0, l0, c0, rfl, hA0, hl0, hw0⟩ := open_slice_pairs Try.underlying22 Try.underlying33 (by kernel_rfl) (by kernel_rfl) (by kernel_rfl) (by kernel_rfl) (hval 0 22 v0 rfl rfl) h0
  obtain ⟨a1, rfl, rfl, rfl, w1⟩ := open_int Try.underlying3 (hval 1 3 v1 rfl rfl) h1
  obtain ⟨a2, rfl, rfl, rfl, w2⟩ := open_int Try.underlying3 (hval 2 3 v2 rfl rfl) h2
  obtain ⟨a3, rfl, rfl, rfl, w3⟩ := open_int Try.underlying3 (hval 3 3 v3 rfl rfl) h3
  refine (walk W A0 l0 c0 hA0 hl0 hw0 a1 w1 a2 w2 a3 w3).mono fun e W' ⟨he, hb⟩ => ?_
  subst he
  exact ⟨_, rfl, law_post hW' laidOut (by rw [Try.params4]; exact params_ok (by kernel_rfl)) rfl (by kernel_rfl) Try.underlying4 rfl rfl rfl hb⟩
theorem over : Rows.memberAgesRow.holds Try.pinned (OpenSpec.ofChange Rows.memberAgesSpec) :=
  OpenClaim.holds_of_wide 4 Try.f4 rfl rfl rfl rfl rfl rfl rfl ⟨rfl, rfl, rfl, rfl, rfl⟩ rfl rfl rfl rfl rfl (by kernel_rfl) Try.func4 (by kernel_rfl)
    (of_decide_eq_true (by kernel_rfl)) (by unfold Func.isWrapper; first | (rw [if_pos (by decide +kernel)]; kernel_rfl) | (rw [if_neg (by decide +kernel)]; exact ⟨rfl, rfl⟩))
    (fun os started H enc _ => lifted os started H enc)
theorem proved : Rows.MemberAgesSaid := over
end Go.Proofs.Ytcoeiedaopmpcaa.memberAges
