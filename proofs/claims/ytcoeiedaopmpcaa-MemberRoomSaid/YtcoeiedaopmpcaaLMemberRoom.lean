/- MemberRoom: for both integers the law answers true: as many neighbours as may be are taken, and one more isn't, until one is dropped. No condition. -/
import Derived.Test.YtcoeiedaopmpcaaC14j
import Derived.Test.YtcoeiedaopmpcaaM29
namespace Go.Proofs.Ytcoeiedaopmpcaa.memberRoom
open Go.ChangeShapes Go.WideShapes Go.ChangeAt Go.RowKit
set_option linter.unusedVariables false
set_option maxRecDepth 100000
theorem hear_to {w W : World} {g b k : Nat} {f E : NF} (hk : k < 48) (h : MineM w W g b f) (hn : f k ≠ none ∨ (Mem.nums f).length ≠ 16) (hE : Mem.put f k (Mem.age (f k), 0) = E) :
    Calls Try.prog 9 #[.pointer (some ⟨g, 0, none⟩), .int .i64 (k : Int)] W fun e w' => e = .returned (.int .i64 0) ∧ MineM w w' g b E :=
  (h.hear (wf_nat (by omega))).mono fun e w' ⟨h1, h2, _⟩ => ⟨by rw [h1, Mem.hearE_at hk hn], by rw [← hE, ← Mem.hear_at hk hn]; exact h2⟩
theorem row_at {a k j : Nat} (h : a ≤ j ∧ j < a + k) : Mem.rowM a k j = some (0, 0) := if_pos h
theorem row_out {a k j : Nat} (h : ¬ (a ≤ j ∧ j < a + k)) : Mem.rowM a k j = none := if_neg h
set_option maxHeartbeats 4000000 in
theorem walk (w : World) (a : Int) (wa : (Lit.int .i64 a).wf = true) (x : Int) (wx : (Lit.int .i64 x).wf = true) :
    Calls Try.prog 5 #[.int .i64 a, .int .i64 x] w fun e w' => e = .returned (.bool true) ∧ Below w.heap.size w w' := by
  clear wa wx
  by_cases hc : a < 0 ∨ 31 < a ∨ x < 0 ∨ 47 < x ∨ (a ≤ x ∧ x < a + 16)
  · have hw : a < 0 ∨ 31 < a ∨ IntKind.i64.wrap (a + 16) = a + 16 := by
      by_cases h : a < 0 ∨ 31 < a
      · omega
      · exact .inr (.inr (IntWalk.i64_in _ ⟨by omega, by omega⟩))
    go_enter Try.func5, Try.ntmps5
    go_wp2_with (go_at_call 7; (with_reducible refine (memAlive _).mono ?_); rintro e w1 ⟨rfl, hok1⟩)
    all_goals first
      | (exfalso; omega)
      | (go_ret; exact ⟨rfl, hok1⟩)
  · obtain ⟨m, rfl⟩ : ∃ m : Nat, a = m := ⟨a.toNat, by omega⟩
    obtain ⟨o, rfl⟩ : ∃ o : Nat, x = o := ⟨x.toNat, by omega⟩
    have hm : m < 32 := by omega
    have ho : o < 48 := by omega
    have hout : o < m ∨ m + 16 ≤ o := by omega
    have h5 : ¬ ((m : Int) ≤ (o : Int) ∧ (o : Int) < (m : Int) + 16) := by omega
    have hlen := Mem.rowM_len m hm
    have K1 : Hid (∀ W g b (k : Nat), k < 16 → MineM w W g b (Mem.rowM m k) → Calls Try.prog 9 #[.pointer (some ⟨g, 0, none⟩), .int .i64 ((m : Int) + (k : Int))] W fun e w' => e = .returned (.int .i64 0) ∧ MineM w w' g b (Mem.rowM m (k + 1))) := Lib.hid fun W g b k hk h => by
      have e : (m : Int) + (k : Int) = ((m + k : Nat) : Int) := by omega
      rw [e]
      refine hear_to (by omega) h (.inr (by rw [hlen k (by omega)]; omega)) ?_
      rw [row_out (by omega)]
      exact Mem.rowM_put m k
    have K2 : Hid (∀ W g b (k : Nat), k < 16 → MineM w W g b (Mem.rowM m (k + 1)) → Calls Try.prog 9 #[.pointer (some ⟨g, 0, none⟩), .int .i64 ((m : Int) + (k : Int))] W fun e w' => e = .returned (.int .i64 0) ∧ MineM w w' g b (Mem.rowM m (k + 1))) := Lib.hid fun W g b k hk h => by
      have e : (m : Int) + (k : Int) = ((m + k : Nat) : Int) := by omega
      rw [e]
      refine hear_to (by omega) h (.inl (by rw [row_at (by omega)]; exact fun h => by cases h)) ?_
      rw [row_at (by omega)]
      exact Mem.rowM_again m k
    have K3 : Hid (∀ W g b, MineM w W g b (Mem.rowM m 16) → Calls Try.prog 9 #[.pointer (some ⟨g, 0, none⟩), .int .i64 (o : Int)] W fun e w' => e = .returned (.int .i64 7) ∧ MineM w w' g b (Mem.rowM m 16)) := Lib.hid fun W g b h => by
      have hz := Mem.hearE_full ho (row_out (a := m) (k := 16) (by omega)) (hlen 16 (by omega))
      refine (h.hear (wf_nat (by omega))).mono fun e w' ⟨h1, h2, _⟩ => ⟨by rw [h1, hz], ?_⟩
      rwa [show Mem.hear (Mem.rowM m 16) o = Mem.rowM m 16 from hear_not (by rw [hz]; decide)] at h2
    have K4 : Hid (∀ W g b, MineM w W g b (Mem.rowM m 16) → Calls Try.prog 15 #[.pointer (some ⟨g, 0, none⟩)] W fun e w' => ∃ A c, e = .returned (.slice A 16 c) ∧ MineM w w' g b (Mem.rowM m 16)) := Lib.hid fun W g b h => h.near.mono fun e w' ⟨A, c, h1, _, h3, _⟩ => ⟨A, c, by rw [h1, hlen 16 (by omega)], h3⟩
    have K5 : Hid (∀ W g b, MineM w W g b (Mem.rowM m 16) → Calls Try.prog 14 #[.pointer (some ⟨g, 0, none⟩), .int .i64 ((m : Int) + 3)] W fun e w' => e = .returned (.tuple #[]) ∧ MineM w w' g b (Mem.drop (Mem.rowM m 16) (m + 3))) := Lib.hid fun W g b h => by
      have e : (m : Int) + 3 = ((m + 3 : Nat) : Int) := by omega
      rw [e]
      refine (h.drop (wf_nat (by omega))).mono fun e w' ⟨h1, h2, _⟩ => ⟨h1, ?_⟩
      rwa [Mem.dropI_at] at h2
    have K6 : Hid (∀ W g b, MineM w W g b (Mem.drop (Mem.rowM m 16) (m + 3)) → Calls Try.prog 9 #[.pointer (some ⟨g, 0, none⟩), .int .i64 (o : Int)] W fun e w' => e = .returned (.int .i64 0) ∧ MineM w w' g b (Mem.put (Mem.drop (Mem.rowM m 16) (m + 3)) o (0, 0))) := Lib.hid fun W g b h => by
      refine hear_to ho h (.inr (by rw [Mem.rowM_less m hm]; decide)) ?_
      have : Mem.drop (Mem.rowM m 16) (m + 3) o = none := by
        unfold Mem.drop
        split
        · rfl
        · exact row_out (by omega)
      rw [this]
      rfl
    have K7 : Hid (∀ W g b, MineM w W g b (Mem.put (Mem.drop (Mem.rowM m 16) (m + 3)) o (0, 0)) → Calls Try.prog 15 #[.pointer (some ⟨g, 0, none⟩)] W fun e w' => ∃ A c, e = .returned (.slice A 16 c) ∧ Ok w w') := Lib.hid fun W g b h => h.near.mono fun e w' ⟨A, c, h1, _, h3, _⟩ => ⟨A, c, by rw [h1, Mem.rowM_full m hm o ho hout], h3.ok⟩
    have H00 := Mem.rowM_zero m
    have s1 : ¬ (m : Int) < 0 := by omega
    have s2 : ¬ (31 : Int) < (m : Int) := by omega
    have s3 : ¬ (o : Int) < 0 := by omega
    have s4 : ¬ (47 : Int) < (o : Int) := by omega
    clear hc hout hlen
    go_enter Try.func5, Try.ntmps5
    go_wp2_with (first
      | (go_at_call 7; (with_reducible refine (memAlive _).mono ?_); rintro e w1 ⟨rfl, hok1⟩)
      | (go_at_call 8; (with_reducible refine (memNew _).mono ?_); rintro e w2 ⟨rfl, hk2, hT2⟩))
    all_goals first
      | (exfalso; omega)
      | skip
    all_goals (
      have H0 : Hid (MineM w w2 (w1.heap.size + 1) w1.heap.size (Mem.rowM m 0)) := Lib.hid (by rw [H00]; exact MineM.made hok1 hk2 hT2)
      clear hok1 hk2 hT2 H00
      generalize w1.heap.size + 1 = g at H0 ⊢
      generalize w1.heap.size = b at H0
      go_loopw [6] (fun i wr => ∃ k : Nat, k ≤ 16 ∧ i = .int .i64 k ∧ Hid (MineM w wr g b (Mem.rowM m k))) (fun i _ => 16 - (intOf i).toNat)
      case atStart => exact ⟨0, by decide, rfl, H0⟩
      case round =>
        obtain ⟨k, hk, rfl, hrel⟩ := hrel
        clear H0
        by_cases hlt : k < 16
        · go_wp2_with (first
            | (go_at_call 9; (with_reducible refine (K1.out _ _ _ k hlt hrel.out).mono ?_); rintro e w3 ⟨rfl, hT3⟩; replace hT3 := Lib.hid hT3)
            | (go_at_call 9; (with_reducible refine (K2.out _ _ _ k hlt hT3.out).mono ?_); rintro e w4 ⟨rfl, hT4⟩; replace hT4 := Lib.hid hT4))
          go_roundw
          case rel => exact ⟨k + 1, by omega, by go_num, hT4⟩
          case measure => simp [intOf]; omega
        · obtain rfl : k = 16 := by omega
          go_wp2_with (first
            | (go_at_call 9; (with_reducible refine (K3.out _ _ _ hrel.out).mono ?_); rintro e w3 ⟨rfl, hT3⟩; replace hT3 := Lib.hid hT3)
            | (go_at_call 15; (with_reducible refine (K4.out _ _ _ hT3.out).mono ?_); rintro e w4 ⟨A4, c4, rfl, hT4⟩; replace hT4 := Lib.hid hT4)
            | (go_at_call 14; (with_reducible refine (K5.out _ _ _ hT4.out).mono ?_); rintro e w5 ⟨rfl, hT5⟩; replace hT5 := Lib.hid hT5)
            | (go_at_call 9; (with_reducible refine (K6.out _ _ _ hT5.out).mono ?_); rintro e w6 ⟨rfl, hT6⟩; replace hT6 := Lib.hid hT6)
            | (go_at_call 15; (with_reducible refine (K7.out _ _ _ hT6.out).mono ?_); rintro e w7 ⟨A7, c7, rfl, hok7⟩))
          go_ret
          exact ⟨rfl, hok7⟩)
theorem own : ownKnob Try.prog.godebug = none := by kernel_rfl
theorem laidOut : laidOutB Try.prog = true := by kernel_rfl
set_option maxRecDepth 100000 in
theorem lifted (os : Os) (started : os.Started) (H : Type) (enc : TypeId × Value → H) :
    ReturnsInHanded {} Try.checked os 5 .any (Rows.memberRoomSpec.pre6 enc Try.prog Try.f5 Rows.memberRoomRow.domain false) (Rows.memberRoomSpec.post enc Try.prog Try.f5 false true false false) := by
  refine returnsInHanded_of_change (C := Try.checked) own started (by kernel_rfl) Try.func5
    (ChangeSpec.witness6 (enc := enc) (C := Try.checked) false ⟨#[], #[.int .i64 0, .int .i64 0], []⟩ 8 (by kernel_rfl) (by kernel_rfl) (by kernel_rfl) (by kernel_rfl)) ?_
  intro W base args ds gs before hval0 hW _ _
  have hval : ∀ (j : Nat) t v, Try.f5.params[j]? = some t → args[j]? = some v → Value.okWide Try.prog W .any base t v := hval0
  have hW' := hW
  obtain ⟨p, q, hA, hV, rfl, _, _⟩ := hW
  obtain ⟨rfl, rfl⟩ := trodVars_none hV
  replace hA : DataW.TrodAll enc Try.prog W 0 (fun _ => true) true Try.f5.params.toList args.toList ds p := hA
  rw [Try.params5] at hA hval
  obtain ⟨v0, vs0, d0, ds0, p0, q0, hargs, rfl, rfl, h0, r0⟩ := trodAll_cons hA
  obtain ⟨v1, vs1, d1, ds1, p1, q1, rfl, rfl, rfl, h1, r1⟩ := trodAll_cons r0
  obtain ⟨rfl, rfl, rfl⟩ := trodAll_nil r1
  obtain rfl : args = #[v0, v1] := by cases args; simp_all
  obtain ⟨a0, rfl, rfl, rfl, w0⟩ := open_int Try.underlying3 (hval 0 3 v0 rfl rfl) h0
  obtain ⟨a1, rfl, rfl, rfl, w1⟩ := open_int Try.underlying3 (hval 1 3 v1 rfl rfl) h1
  refine (walk W a0 w0 a1 w1).mono fun e W' ⟨he, hb⟩ => ?_
  subst he
  exact ⟨_, rfl, law_post hW' laidOut (by rw [Try.params5]; exact params_ok (by kernel_rfl)) rfl (by kernel_rfl) Try.underlying4 rfl rfl rfl hb⟩
theorem over : Rows.memberRoomRow.holds Try.pinned (OpenSpec.ofChange Rows.memberRoomSpec) :=
  OpenClaim.holds_of_wide 5 Try.f5 rfl rfl rfl rfl rfl rfl rfl ⟨rfl, rfl, rfl, rfl, rfl⟩ rfl rfl rfl rfl rfl (by kernel_rfl) Try.func5 (by kernel_rfl)
    (of_decide_eq_true (by kernel_rfl)) (by unfold Func.isWrapper; first | (rw [if_pos (by decide +kernel)]; kernel_rfl) | (rw [if_neg (by decide +kernel)]; exact ⟨rfl, rfl⟩))
    (fun os started H enc _ => lifted os started H enc)
theorem proved : Rows.MemberRoomSaid := over
end Go.Proofs.Ytcoeiedaopmpcaa.memberRoom
