/- AlarmParts: for all three integers the law answers true: two tables know nothing of one another; a timer that is set anew goes off at its new time alone. No condition. -/
import Derived.Test.YtfankcoomfmjlaaC09q
namespace Go.Proofs.Ytfankcoomfmjlaa.alarmParts
open Go.ChangeShapes Go.WideShapes Go.ChangeAt Go.RowKit
set_option linter.unusedVariables false
set_option maxRecDepth 100000
/-- Two of the program's tables. -/
def Two (w : World) (g r : Nat) (L M : List Tm) (W : World) : Prop := ∃ r1 r2, Both 50 50 w W g r1 L r r2 M
theorem Two.left {w W W1 : World} {g r : Nat} {L M L' : List Tm} {r1 r2 : Nat} (h : Both 50 50 w W g r1 L r r2 M) (k : TabStep 50 g r1 L' W W1) : Two w g r L' M W1 := by
  obtain ⟨r', k1, k2, k3⟩ := k
  exact ⟨r', r2, h.left k2 k1 k3⟩
theorem Two.right {w W W1 : World} {g r : Nat} {L M M' : List Tm} {r1 r2 : Nat} (h : Both 50 50 w W g r1 L r r2 M) (k : TabStep 50 r r2 M' W W1) : Two w g r L M' W1 := by
  obtain ⟨r', k1, k2, k3⟩ := k
  exact ⟨r1, r', h.right k2 k1 k3⟩
theorem two_start {w w1 w2 w3 : World} (hok : Ok w w1) (h2 : Ok w1 w2) (hL : TabAt 50 w2 w1.heap.size w1.heap.size []) (h3 : Ok w2 w3) (hM : TabAt 50 w3 w2.heap.size w2.heap.size []) : Two w w1.heap.size w2.heap.size [] [] w3 := by
  have a1 := hok.size
  have a2 := hL.lt.1
  have o3 := (hok.trans h2).trans h3
  exact ⟨_, _, ⟨o3, a1, a1, hL.next h3⟩, ⟨o3, by omega, by omega, hM⟩, by omega, by omega, by omega, by omega⟩
set_option maxHeartbeats 4000000 in
theorem walk (w : World) (a : Int) (wa : (Lit.int .i64 a).wf = true) (b : Int) (wb : (Lit.int .i64 b).wf = true) (c : Int) (wc : (Lit.int .i64 c).wf = true) :
    Calls Try.prog 5 #[.int .i64 a, .int .i64 b, .int .i64 c] w fun e w' => e = .returned (.bool true) ∧ Below w.heap.size w w' := by
  clear wa wb wc
  have K1 : ∀ W g r, Two w g r [] [] W → Calls Try.prog 9 #[.pointer (some ⟨g, 0, none⟩), .int .i64 7, .int .i64 a] W fun e w' => e = .returned (.int .i64 0) ∧ Two w g r [⟨7, a⟩] [] w' := fun W g r ⟨r1, r2, h⟩ =>
    (tabSet g r1 7 a [] W h.a.tab Alarm.Good.nil).mono fun e w' ⟨h1, L', h2, h3⟩ => by
      obtain rfl := setTo_is (E := [⟨7, a⟩]) h2 (by decide) (good1 _) (List.Perm.refl _)
      exact ⟨h1, Two.left h h3⟩
  have e2 : Alarm.setE 7 [⟨7, a⟩] = 0 := rfl
  have K2 : ∀ W g r, Two w g r [⟨7, a⟩] [] W → Calls Try.prog 9 #[.pointer (some ⟨g, 0, none⟩), .int .i64 7, .int .i64 b] W fun e w' => e = .returned (.int .i64 0) ∧ Two w g r [⟨7, b⟩] [] w' := fun W g r ⟨r1, r2, h⟩ =>
    (tabSet g r1 7 b [⟨7, a⟩] W h.a.tab (good1 _)).mono fun e w' ⟨h1, L', h2, h3⟩ => by
      obtain rfl := setTo_is (E := [⟨7, b⟩]) h2 (by rw [e2]; decide) (good1 _) (List.Perm.refl _)
      exact ⟨h1, Two.left h h3⟩
  have K3 : ∀ W g r, Two w g r [⟨7, b⟩] [] W → Calls Try.prog 9 #[.pointer (some ⟨r, 0, none⟩), .int .i64 7, .int .i64 c] W fun e w' => e = .returned (.int .i64 0) ∧ Two w g r [⟨7, b⟩] [⟨7, c⟩] w' := fun W g r ⟨r1, r2, h⟩ =>
    (tabSet r r2 7 c [] W h.b.tab Alarm.Good.nil).mono fun e w' ⟨h1, L', h2, h3⟩ => by
      obtain rfl := setTo_is (E := [⟨7, c⟩]) h2 (by decide) (good1 _) (List.Perm.refl _)
      exact ⟨h1, Two.right h h3⟩
  have K4 : ∀ W g r, Two w g r [⟨7, b⟩] [⟨7, c⟩] W → Calls Try.prog 16 #[.pointer (some ⟨g, 0, none⟩)] W fun e w' => e = .returned (.tuple #[.int .i64 b, .bool true]) ∧ W = w' := fun W g r ⟨r1, r2, h⟩ => tabNext g r1 [⟨7, b⟩] W h.a.tab (by simp)
  have e5 : Alarm.cut b [⟨7, b⟩] = 1 := by rw [Alarm.cut_cons, if_pos (show b ≤ b from Int.le_refl b)]; rfl
  have K5 : ∀ W g r, Two w g r [⟨7, b⟩] [⟨7, c⟩] W → Calls Try.prog 14 #[.pointer (some ⟨g, 0, none⟩), .int .i64 b] W fun e w' => ∃ d o k, e = .returned (.slice (some ⟨d, o, none⟩) 1 k) ∧ w'.cell? ⟨d, o, none⟩ = some (.int .i64 7) ∧ Two w g r [] [⟨7, c⟩] w' := fun W g r ⟨r1, r2, h⟩ =>
    (tabDue g r1 b [⟨7, b⟩] W h.a.tab (good1 _)).mono fun e w' ⟨A, k, r', h1, h2, h3, h4, h5, h6⟩ => by
      rw [e5] at h1 h2 h6
      obtain ⟨d, o, hA, _, hc⟩ := h2 0 (by simp [ids])
      subst hA
      exact ⟨d, o, k, h1, hc, r', r2, h.left h5 h4 h6⟩
  have K6 : ∀ W g r, Two w g r [] [⟨7, c⟩] W → Calls Try.prog 18 #[.pointer (some ⟨g, 0, none⟩)] W fun e w' => e = .returned (.int .i64 0) ∧ W = w' := fun W g r ⟨r1, r2, h⟩ => tabLen g r1 [] W h.a.tab
  have K7 : ∀ W g r, Two w g r [] [⟨7, c⟩] W → Calls Try.prog 18 #[.pointer (some ⟨r, 0, none⟩)] W fun e w' => e = .returned (.int .i64 1) ∧ W = w' := fun W g r ⟨r1, r2, h⟩ => tabLen r r2 [⟨7, c⟩] W h.b.tab
  have K8 : ∀ W g r, Two w g r [] [⟨7, c⟩] W → Calls Try.prog 14 #[.pointer (some ⟨g, 0, none⟩), .int .i64 a] W fun e w' => ∃ A k, e = .returned (.slice A 0 k) ∧ Ok w w' := fun W g r ⟨r1, r2, h⟩ =>
    (tabDue g r1 a [] W h.a.tab Alarm.Good.nil).mono fun e w' ⟨A, k, r', h1, h2, h3, h4, h5, h6⟩ => ⟨A, k, h1, (h.left h5 h4 h6).a.ok⟩
  have H1 := Lib.hid K1
  have H2 := Lib.hid K2
  have H3 := Lib.hid K3
  have H4 := Lib.hid K4
  have H5 := Lib.hid K5
  have H6 := Lib.hid K6
  have H7 := Lib.hid K7
  have H8 := Lib.hid K8
  clear K1 K2 K3 K4 K5 K6 K7 K8 e2 e5
  go_enter Try.func5, Try.ntmps5
  go_wp2_with (first
    | (go_at_call 7; (with_reducible refine (alarmAlive _).mono ?_); rintro e w1 ⟨rfl, hok1⟩)
    | (go_at_call 8; (with_reducible refine (tabNew w1).mono ?_); rintro e w2 ⟨rfl, hok2, hL2⟩; obtain ⟨g, hg⟩ : ∃ g, w1.heap.size = g := ⟨_, rfl⟩)
    | (go_at_call 8; (with_reducible refine (tabNew w2).mono ?_); rintro e w3 ⟨rfl, hok3, hL3⟩; obtain ⟨r, hr⟩ : ∃ r, w2.heap.size = r := ⟨_, rfl⟩; have hT3 : Hid (Two w g r [] [] w3) := Lib.hid (by rw [← hg, ← hr]; exact two_start hok1 hok2 hL2 hok3 hL3); clear hok1 hok2 hL2 hok3 hL3)
    | (go_at_call 9; (with_reducible refine (H1.out _ _ _ hT3.out).mono ?_); rintro e w4 ⟨rfl, hT4⟩; replace hT4 := Lib.hid hT4)
    | (go_at_call 9; (with_reducible refine (H2.out _ _ _ hT4.out).mono ?_); rintro e w5 ⟨rfl, hT5⟩; replace hT5 := Lib.hid hT5)
    | (go_at_call 9; (with_reducible refine (H3.out _ _ _ hT5.out).mono ?_); rintro e w6 ⟨rfl, hT6⟩; replace hT6 := Lib.hid hT6)
    | (go_at_call 16; (with_reducible refine (H4.out _ _ _ hT6.out).mono ?_); rintro e w7 ⟨rfl, rfl⟩)
    | (go_at_call 14; (with_reducible refine (H5.out _ _ _ hT6.out).mono ?_); rintro e w8 ⟨d8, o8, k8, rfl, c8, hT8⟩; replace hT8 := Lib.hid hT8)
    | (go_at_call 18; (with_reducible refine (H6.out _ _ _ hT8.out).mono ?_); rintro e w9 ⟨rfl, rfl⟩)
    | (go_at_call 18; (with_reducible refine (H7.out _ _ _ hT8.out).mono ?_); rintro e w10 ⟨rfl, rfl⟩)
    | (go_at_call 14; (with_reducible refine (H8.out _ _ _ hT8.out).mono ?_); rintro e w11 ⟨A11, k11, rfl, hok11⟩))
  go_ret
  exact ⟨rfl, hok11⟩
theorem own : ownKnob Try.prog.godebug = none := by kernel_rfl
theorem laidOut : laidOutB Try.prog = true := by kernel_rfl
set_option maxRecDepth 100000 in
theorem lifted (os : Os) (started : os.Started) (H : Type) (enc : TypeId × Value → H) :
    ReturnsInHanded {} Try.checked os 5 .any (Rows.alarmPartsSpec.pre6 enc Try.prog Try.f5 Rows.alarmPartsRow.domain false) (Rows.alarmPartsSpec.post enc Try.prog Try.f5 false true false false) := by
  refine returnsInHanded_of_change (C := Try.checked) own started (by kernel_rfl) Try.func5
    (ChangeSpec.witness6 (enc := enc) (C := Try.checked) false ⟨#[], #[.int .i64 0, .int .i64 0, .int .i64 0], []⟩ 8 (by kernel_rfl) (by kernel_rfl) (by kernel_rfl) (by kernel_rfl)) ?_
  intro W base args ds gs before hval0 hW _ _
  have hval : ∀ (j : Nat) t v, Try.f5.params[j]? = some t → args[j]? = some v → Value.okWide Try.prog W .any base t v := hval0
  have hW' := hW
  obtain ⟨p, q, hA, hV, rfl, _, _⟩ := hW
  obtain ⟨rfl, rfl⟩ := trodVars_none hV
  replace hA : DataW.TrodAll enc Try.prog W 0 (fun _ => true) true Try.f5.params.toList args.toList ds p := hA
  rw [Try.params5] at hA hval
  obtain ⟨v0, vs0, d0, ds0, p0, q0, hargs, rfl, rfl, h0, r0⟩ := trodAll_cons hA
  obtain ⟨v1, vs1, d1, ds1, p1, q1, rfl, rfl, rfl, h1, r1⟩ := trodAll_cons r0
  obtain ⟨v2, vs2, d2, ds2, p2, q2, rfl, rfl, rfl, h2, r2⟩ := trodAll_cons r1
  obtain ⟨rfl, rfl, rfl⟩ := trodAll_nil r2
  obtain rfl : args = #[v0, v1, v2] := by cases args; simp_all
  obtain ⟨a0, rfl, rfl, rfl, w0⟩ := open_int Try.underlying3 (hval 0 3 v0 rfl rfl) h0
  obtain ⟨a1, rfl, rfl, rfl, w1⟩ := open_int Try.underlying3 (hval 1 3 v1 rfl rfl) h1
  obtain ⟨a2, rfl, rfl, rfl, w2⟩ := open_int Try.underlying3 (hval 2 3 v2 rfl rfl) h2
  refine (walk W a0 w0 a1 w1 a2 w2).mono fun e W' ⟨he, hb⟩ => ?_
  subst he
  exact ⟨_, rfl, law_post hW' laidOut (by rw [Try.params5]; exact params_ok (by kernel_rfl)) rfl (by kernel_rfl) Try.underlying4 rfl rfl rfl hb⟩
theorem over : Rows.alarmPartsRow.holds Try.pinned (OpenSpec.ofChange Rows.alarmPartsSpec) :=
  OpenClaim.holds_of_wide 5 Try.f5 rfl rfl rfl rfl rfl rfl rfl ⟨rfl, rfl, rfl, rfl, rfl⟩ rfl rfl rfl rfl rfl (by kernel_rfl) Try.func5 (by kernel_rfl)
    (of_decide_eq_true (by kernel_rfl)) (by unfold Func.isWrapper; first | (rw [if_pos (by decide +kernel)]; kernel_rfl) | (rw [if_neg (by decide +kernel)]; exact ⟨rfl, rfl⟩))
    (fun os started H enc _ => lifted os started H enc)
theorem proved : Rows.AlarmPartsSaid := over
end Go.Proofs.Ytfankcoomfmjlaa.alarmParts
