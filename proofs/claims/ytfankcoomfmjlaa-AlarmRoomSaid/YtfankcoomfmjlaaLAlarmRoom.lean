/- AlarmRoom: for both integers the law answers true: as many timers are set as may be, one more isn't, until one goes off. No condition. -/
import Derived.Test.YtfankcoomfmjlaaC09q
import Derived.Test.YtfankcoomfmjlaaM22
namespace Go.Proofs.Ytfankcoomfmjlaa.alarmRoom
open Go.ChangeShapes Go.WideShapes Go.ChangeAt Go.RowKit
set_option linter.unusedVariables false
set_option maxRecDepth 100000
def At (w : World) (g : Nat) (L : List Tm) (W : World) : Prop := ∃ r, Mine 50 w W g r L
theorem at_set {w W : World} {g : Nat} {L E : List Tm} (h : At w g L W) (hG : Alarm.Good L) (i t : Int) {z : Int} (hz : Alarm.setE i L = z) (hE : ∀ L', SetTo i t L L' → L' = E) :
    Calls Try.prog 9 #[.pointer (some ⟨g, 0, none⟩), .int .i64 i, .int .i64 t] W fun e w' => e = .returned (.int .i64 z) ∧ At w g E w' := by
  obtain ⟨r, h⟩ := h
  subst hz
  exact (tabSet g r i t L W h.tab hG).mono fun e w' ⟨h1, L', h2, h3⟩ => by
    obtain rfl := hE L' h2
    exact ⟨h1, h.step h3⟩
theorem at_due {w W : World} {g : Nat} {L : List Tm} (h : At w g L W) (hG : Alarm.Good L) (now : Int) {k : Nat} (hk : Alarm.cut now L = k) :
    Calls Try.prog 14 #[.pointer (some ⟨g, 0, none⟩), .int .i64 now] W fun e w' => ∃ A c, e = .returned (.slice A k c) ∧ At w g (L.drop k) w' := by
  obtain ⟨r, h⟩ := h
  subst hk
  exact (tabDue g r now L W h.tab hG).mono fun e w' ⟨A, c, r', h1, h2, h3, h4, h5, h6⟩ => ⟨A, c, h1, r', h.far h5 h4 h6⟩
theorem setE_zero {i : Int} {L : List Tm} (h : Alarm.has i L = true ∨ L.length ≠ 64) : Alarm.setE i L = 0 := by
  unfold Alarm.setE
  rw [if_neg (fun c => h.elim (fun h => by rw [h] at c; exact absurd c.1 (by decide)) (fun h => h c.2))]
set_option maxHeartbeats 4000000 in
theorem walk (w : World) (a : Int) (wa : (Lit.int .i64 a).wf = true) (x : Int) (wx : (Lit.int .i64 x).wf = true) :
    Calls Try.prog 6 #[.int .i64 a, .int .i64 x] w fun e w' => e = .returned (.bool true) ∧ Below w.heap.size w w' := by
  clear wa wx
  by_cases hc : 4611686018427387904 < a ∨ a < -4611686018427387904 ∨ (0 ≤ x ∧ x < 64)
  · go_enter Try.func6, Try.ntmps6
    go_wp2_with (go_at_call 7; (with_reducible refine (alarmAlive _).mono ?_); rintro e w1 ⟨rfl, hok1⟩)
    all_goals first
      | (exfalso; omega)
      | (go_ret; exact ⟨rfl, hok1⟩)
  · have h1 : a ≤ 4611686018427387904 := by omega
    have h2 : -4611686018427387904 ≤ a := by omega
    have h3 : x < 0 ∨ 64 ≤ x := by omega
    have K1 : ∀ W g (k : Nat), k < 64 → At w g (Alarm.row a k) W → Calls Try.prog 9 #[.pointer (some ⟨g, 0, none⟩), .int .i64 k, .int .i64 (a + k)] W fun e w' => e = .returned (.int .i64 0) ∧ At w g (Alarm.row a (k + 1)) w' := fun W g k hk h => by
      have hh := Alarm.row_has a (k := k) (i := (k : Int)) (.inr (Int.le_refl _))
      have hz := setE_zero (i := (k : Int)) (L := Alarm.row a k) (.inr (by rw [Alarm.row_length]; omega))
      refine at_set h (Alarm.row_good a (by omega)) k (a + k) hz fun L' hs => setTo_is hs (by rw [hz]; decide) (Alarm.row_good a (by omega)) ?_
      rw [Alarm.drop_none hh, Alarm.row_succ]
      exact List.perm_append_singleton _ _
    have hg64 := Alarm.row_good a (Nat.le_refl 64)
    have hl64 := Alarm.row_length a 64
    have K2 : ∀ W g, At w g (Alarm.row a 64) W → Calls Try.prog 9 #[.pointer (some ⟨g, 0, none⟩), .int .i64 x, .int .i64 a] W fun e w' => e = .returned (.int .i64 7) ∧ At w g (Alarm.row a 64) w' := fun W g h => by
      have hz : Alarm.setE x (Alarm.row a 64) = 7 := by unfold Alarm.setE; rw [if_pos ⟨Alarm.row_has a (by omega), hl64⟩]
      refine at_set h hg64 x a hz fun L' hs => ?_
      have := hs.2
      rwa [if_pos hz] at this
    have K3 : ∀ W g, At w g (Alarm.row a 64) W → Calls Try.prog 9 #[.pointer (some ⟨g, 0, none⟩), .int .i64 3, .int .i64 (a + 3)] W fun e w' => e = .returned (.int .i64 0) ∧ At w g (Alarm.row a 64) w' := fun W g h => by
      have hx : (Alarm.row a 64)[3]'(by rw [hl64]; decide) = ⟨3, a + 3⟩ := Alarm.row_at a _
      have hz := setE_zero (i := 3) (L := Alarm.row a 64) (.inl (Alarm.has_at (k := 3) (by rw [hl64]; decide) (by rw [hx])))
      exact at_set h hg64 3 (a + 3) hz fun L' hs => setTo_is hs (by rw [hz]; decide) hg64 (Alarm.again hg64 (k := 3) (by rw [hl64]; decide) hx)
    have K4 : ∀ W g, At w g (Alarm.row a 64) W → Calls Try.prog 14 #[.pointer (some ⟨g, 0, none⟩), .int .i64 a] W fun e w' => ∃ A c, e = .returned (.slice A 1 c) ∧ At w g ((Alarm.row a 64).drop 1) w' := fun W g h => by
      refine at_due h hg64 a (Alarm.cut_unique (by rw [hl64]; decide) (fun j hj hk => ?_) (fun hk => ?_))
      · obtain rfl : j = 0 := by omega
        rw [Alarm.row_at]
        simp only
        omega
      · rw [Alarm.row_at]
        simp only
        omega
    have hg63 : Alarm.Good ((Alarm.row a 64).drop 1) := hg64.skip 1
    have hl63 : ((Alarm.row a 64).drop 1).length = 63 := by rw [List.length_drop, hl64]
    have hx63 : Alarm.has x ((Alarm.row a 64).drop 1) = false := by
      have h := Alarm.row_has a (k := 64) (i := x) (by omega)
      rw [Bool.eq_false_iff] at h ⊢
      intro hh
      obtain ⟨y, hy, hi⟩ := Alarm.has_iff.1 hh
      exact h (Alarm.has_iff.2 ⟨y, List.mem_of_mem_drop hy, hi⟩)
    have K5 : ∀ W g, At w g ((Alarm.row a 64).drop 1) W → Calls Try.prog 9 #[.pointer (some ⟨g, 0, none⟩), .int .i64 x, .int .i64 (a + 500)] W fun e w' => e = .returned (.int .i64 0) ∧ ∃ L, (Alarm.Good L ∧ L.length = 64 ∧ Alarm.cut (a + 499) L = 63) ∧ At w g L w' := fun W g ⟨r, h⟩ => by
      have hz := setE_zero (i := x) (L := (Alarm.row a 64).drop 1) (.inr (by rw [hl63]; decide))
      have := tabSet g r x (a + 500) _ W h.tab hg63
      unfold SetEnd at this
      rw [hz] at this
      refine this.mono fun e w' ⟨q1, L', ⟨q2, q3⟩, q4⟩ => ⟨q1, L', ⟨q2, ?_, ?_⟩, h.step q4⟩
      · rw [if_neg (by rw [hz]; decide), Alarm.drop_none hx63] at q3
        rw [q3.length_eq, List.length_cons, hl63]
      · rw [if_neg (by rw [hz]; decide), Alarm.drop_none hx63] at q3
        rw [Alarm.cut_perm q2 q3, List.filter_cons, if_neg (by simp only [decide_eq_true_eq]; omega)]
        rw [List.filter_eq_self.2 fun y hy => ?_]
        · exact hl63
        · have hy' := List.mem_of_mem_drop hy
          obtain ⟨j, hj, rfl⟩ := List.mem_iff_getElem.1 hy'
          rw [Alarm.row_at]
          rw [hl64] at hj
          simp
          omega
    have K6 : ∀ W g L, (Alarm.Good L ∧ L.length = 64 ∧ Alarm.cut (a + 499) L = 63) → At w g L W → Calls Try.prog 18 #[.pointer (some ⟨g, 0, none⟩)] W fun e w' => e = .returned (.int .i64 64) ∧ W = w' := fun W g L hL ⟨r, h⟩ => by
      have := tabLen g r L W h.tab
      rwa [hL.2.1] at this
    have K7 : ∀ W g L, (Alarm.Good L ∧ L.length = 64 ∧ Alarm.cut (a + 499) L = 63) → At w g L W → Calls Try.prog 14 #[.pointer (some ⟨g, 0, none⟩), .int .i64 (a + 499)] W fun e w' => ∃ A c, e = .returned (.slice A 63 c) ∧ Ok w w' := fun W g L hL h =>
      (at_due h hL.1 (a + 499) hL.2.2).mono fun e w' ⟨A, c, q1, r, q2⟩ => ⟨A, c, q1, q2.ok⟩
    have H1 := Lib.hid K1
    have H2 := Lib.hid K2
    have H3 := Lib.hid K3
    have H4 := Lib.hid K4
    have H5 := Lib.hid K5
    have H6 := Lib.hid K6
    have H7 := Lib.hid K7
    have r1 : ¬ 4611686018427387904 < a := by omega
    have r2 : ¬ a < -4611686018427387904 := by omega
    clear K1 K2 K3 K4 K5 K6 K7 hg64 hl64 hg63 hl63 hx63 hc
    rcases h3 with h3 | h3
    · have r3 : ¬ 0 ≤ x := by omega
      go_enter Try.func6, Try.ntmps6
      go_wp2_with (first
        | (go_at_call 7; (with_reducible refine (alarmAlive _).mono ?_); rintro e w1 ⟨rfl, hok1⟩)
        | (go_at_call 8; (with_reducible refine (tabNew _).mono ?_); rintro e w2 ⟨rfl, hok2, hL2⟩))
      have H0 : Hid (At w w1.heap.size (Alarm.row a 0) w2) := Lib.hid ⟨_, hok1.trans hok2, hok1.size, hok1.size, hL2⟩
      clear hok1 hok2 hL2
      generalize w1.heap.size = g at H0 ⊢
      go_loopw [6] (fun i wr => ∃ k : Nat, k ≤ 64 ∧ i = .int .i64 k ∧ Hid (At w g (Alarm.row a k) wr)) (fun i _ => 64 - (intOf i).toNat)
      case atStart => exact ⟨0, by decide, rfl, H0⟩
      case round =>
        obtain ⟨k, hk, rfl, hrel⟩ := hrel
        clear H0
        by_cases hlt : k < 64
        · go_wp2_with (go_at_call 9; (with_reducible refine (H1.out _ _ k hlt hrel.out).mono ?_); rintro e w3 ⟨rfl, hT3⟩; replace hT3 := Lib.hid hT3)
          go_roundw
          case rel => exact ⟨k + 1, by omega, by go_num, hT3⟩
          case measure => simp [intOf]; omega
        · obtain rfl : k = 64 := by omega
          go_wp2_with (first
            | (go_at_call 9; (with_reducible refine (H2.out _ _ hrel.out).mono ?_); rintro e w3 ⟨rfl, hT3⟩; replace hT3 := Lib.hid hT3)
            | (go_at_call 9; (with_reducible refine (H3.out _ _ hT3.out).mono ?_); rintro e w4 ⟨rfl, hT4⟩; replace hT4 := Lib.hid hT4)
            | (go_at_call 14; (with_reducible refine (H4.out _ _ hT4.out).mono ?_); rintro e w5 ⟨A5, c5, rfl, hT5⟩; replace hT5 := Lib.hid hT5)
            | (go_at_call 9; (with_reducible refine (H5.out _ _ hT5.out).mono ?_); rintro e w6 ⟨rfl, L6, hL6, hT6⟩; replace hT6 := Lib.hid hT6; replace hL6 := Lib.hid hL6)
            | (go_at_call 18; (with_reducible refine (H6.out _ _ _ hL6.out hT6.out).mono ?_); rintro e w7 ⟨rfl, rfl⟩)
            | (go_at_call 14; (with_reducible refine (H7.out _ _ _ hL6.out hT6.out).mono ?_); rintro e w8 ⟨A8, c8, rfl, hok8⟩))
          go_ret
          exact ⟨rfl, hok8⟩
    · have r3 : 0 ≤ x := by omega
      have r4 : ¬ x < 64 := by omega
      go_enter Try.func6, Try.ntmps6
      go_wp2_with (first
        | (go_at_call 7; (with_reducible refine (alarmAlive _).mono ?_); rintro e w1 ⟨rfl, hok1⟩)
        | (go_at_call 8; (with_reducible refine (tabNew _).mono ?_); rintro e w2 ⟨rfl, hok2, hL2⟩))
      have H0 : Hid (At w w1.heap.size (Alarm.row a 0) w2) := Lib.hid ⟨_, hok1.trans hok2, hok1.size, hok1.size, hL2⟩
      clear hok1 hok2 hL2
      generalize w1.heap.size = g at H0 ⊢
      go_loopw [6] (fun i wr => ∃ k : Nat, k ≤ 64 ∧ i = .int .i64 k ∧ Hid (At w g (Alarm.row a k) wr)) (fun i _ => 64 - (intOf i).toNat)
      case atStart => exact ⟨0, by decide, rfl, H0⟩
      case round =>
        obtain ⟨k, hk, rfl, hrel⟩ := hrel
        clear H0
        by_cases hlt : k < 64
        · go_wp2_with (go_at_call 9; (with_reducible refine (H1.out _ _ k hlt hrel.out).mono ?_); rintro e w3 ⟨rfl, hT3⟩; replace hT3 := Lib.hid hT3)
          go_roundw
          case rel => exact ⟨k + 1, by omega, by go_num, hT3⟩
          case measure => simp [intOf]; omega
        · obtain rfl : k = 64 := by omega
          go_wp2_with (first
            | (go_at_call 9; (with_reducible refine (H2.out _ _ hrel.out).mono ?_); rintro e w3 ⟨rfl, hT3⟩; replace hT3 := Lib.hid hT3)
            | (go_at_call 9; (with_reducible refine (H3.out _ _ hT3.out).mono ?_); rintro e w4 ⟨rfl, hT4⟩; replace hT4 := Lib.hid hT4)
            | (go_at_call 14; (with_reducible refine (H4.out _ _ hT4.out).mono ?_); rintro e w5 ⟨A5, c5, rfl, hT5⟩; replace hT5 := Lib.hid hT5)
            | (go_at_call 9; (with_reducible refine (H5.out _ _ hT5.out).mono ?_); rintro e w6 ⟨rfl, L6, hL6, hT6⟩; replace hT6 := Lib.hid hT6; replace hL6 := Lib.hid hL6)
            | (go_at_call 18; (with_reducible refine (H6.out _ _ _ hL6.out hT6.out).mono ?_); rintro e w7 ⟨rfl, rfl⟩)
            | (go_at_call 14; (with_reducible refine (H7.out _ _ _ hL6.out hT6.out).mono ?_); rintro e w8 ⟨A8, c8, rfl, hok8⟩))
          go_ret
          exact ⟨rfl, hok8⟩
theorem own : ownKnob Try.prog.godebug = none := by kernel_rfl
theorem laidOut : laidOutB Try.prog = true := by kernel_rfl
set_option maxRecDepth 100000 in
theorem lifted (os : Os) (started : os.Started) (H : Type) (enc : TypeId × Value → H) :
    ReturnsInHanded {} Try.checked os 6 .any (Rows.alarmRoomSpec.pre6 enc Try.prog Try.f6 Rows.alarmRoomRow.domain false) (Rows.alarmRoomSpec.post enc Try.prog Try.f6 false true false false) := by
  refine returnsInHanded_of_change (C := Try.checked) own started (by kernel_rfl) Try.func6
    (ChangeSpec.witness6 (enc := enc) (C := Try.checked) false ⟨#[], #[.int .i64 0, .int .i64 0], []⟩ 8 (by kernel_rfl) (by kernel_rfl) (by kernel_rfl) (by kernel_rfl)) ?_
  intro W base args ds gs before hval0 hW _ _
  have hval : ∀ (j : Nat) t v, Try.f6.params[j]? = some t → args[j]? = some v → Value.okWide Try.prog W .any base t v := hval0
  have hW' := hW
  obtain ⟨p, q, hA, hV, rfl, _, _⟩ := hW
  obtain ⟨rfl, rfl⟩ := trodVars_none hV
  replace hA : DataW.TrodAll enc Try.prog W 0 (fun _ => true) true Try.f6.params.toList args.toList ds p := hA
  rw [Try.params6] at hA hval
  obtain ⟨v0, vs0, d0, ds0, p0, q0, hargs, rfl, rfl, h0, r0⟩ := trodAll_cons hA
  obtain ⟨v1, vs1, d1, ds1, p1, q1, rfl, rfl, rfl, h1, r1⟩ := trodAll_cons r0
  obtain ⟨rfl, rfl, rfl⟩ := trodAll_nil r1
  obtain rfl : args = #[v0, v1] := by cases args; simp_all
  obtain ⟨a0, rfl, rfl, rfl, w0⟩ := open_int Try.underlying3 (hval 0 3 v0 rfl rfl) h0
  obtain ⟨a1, rfl, rfl, rfl, w1⟩ := open_int Try.underlying3 (hval 1 3 v1 rfl rfl) h1
  refine (walk W a0 w0 a1 w1).mono fun e W' ⟨he, hb⟩ => ?_
  subst he
  exact ⟨_, rfl, law_post hW' laidOut (by rw [Try.params6]; exact params_ok (by kernel_rfl)) rfl (by kernel_rfl) Try.underlying4 rfl rfl rfl hb⟩
theorem over : Rows.alarmRoomRow.holds Try.pinned (OpenSpec.ofChange Rows.alarmRoomSpec) :=
  OpenClaim.holds_of_wide 6 Try.f6 rfl rfl rfl rfl rfl rfl rfl ⟨rfl, rfl, rfl, rfl, rfl⟩ rfl rfl rfl rfl rfl (by kernel_rfl) Try.func6 (by kernel_rfl)
    (of_decide_eq_true (by kernel_rfl)) (by unfold Func.isWrapper; first | (rw [if_pos (by decide +kernel)]; kernel_rfl) | (rw [if_neg (by decide +kernel)]; exact ⟨rfl, rfl⟩))
    (fun os started H enc _ => lifted os started H enc)
theorem proved : Rows.AlarmRoomSaid := over
end Go.Proofs.Ytfankcoomfmjlaa.alarmRoom
