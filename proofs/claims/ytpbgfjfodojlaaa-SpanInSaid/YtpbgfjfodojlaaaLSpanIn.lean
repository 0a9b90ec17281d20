/- SpanIn: for every slice of spans and every integer the law answers true: a time is in Meet just if it is in all, and in Hull if it is in one. No condition. -/
import Derived.Test.YtpbgfjfodojlaaaC03c
import Derived.Test.YtpbgfjfodojlaaaC03d
namespace Go.Proofs.Ytpbgfjfodojlaaa.spanIn
open Go.ChangeShapes Go.WideShapes Go.ChangeAt Go.RowKit
set_option linter.unusedVariables false
set_option maxRecDepth 100000

def isIn (x : Int) (s : Int × Int) : Bool := decide (s.1 ≤ x ∧ x ≤ s.2)
/-- Ends not beyond api.Most. -/
def Near (s : Int × Int) : Prop := (-2305843009213693952 ≤ s.1 ∧ s.1 ≤ 2305843009213693952) ∧ (-2305843009213693952 ≤ s.2 ∧ s.2 ≤ 2305843009213693952)
theorem meet_in {l : List (Int × Int)} {x : Int} (h : ∀ s ∈ l, Near s) (h1 : -2305843009213693952 ≤ x) (h2 : x ≤ 2305843009213693952) :
    decide (Sat.clip (Span.mLo l) ≤ x ∧ x ≤ Sat.clip (Span.mHi l)) = l.all (isIn x) := by
  have b1 := Span.mLo_ge l
  have b2 := Span.mHi_le l
  have b3 : Span.mLo l ≤ 2305843009213693952 := (Span.mLo_iff l _).2 ⟨by omega, fun s hs => (h s hs).1.2⟩
  have b4 : -2305843009213693952 ≤ Span.mHi l := (Span.mHi_iff l _).2 ⟨by omega, fun s hs => (h s hs).2.1⟩
  rw [Sat.clip_in b1 b3, Sat.clip_in b4 b2, Bool.eq_iff_iff, decide_eq_true_iff, List.all_eq_true, Span.mLo_iff, Span.mHi_iff]
  constructor
  · rintro ⟨⟨_, k1⟩, _, k2⟩ s hs
    exact decide_eq_true ⟨k1 s hs, k2 s hs⟩
  · intro k
    exact ⟨⟨h1, fun s hs => (of_decide_eq_true (k s hs)).1⟩, h2, fun s hs => (of_decide_eq_true (k s hs)).2⟩
theorem hull_in {l : List (Int × Int)} {x : Int} (h1 : -2305843009213693952 ≤ x) (h2 : x ≤ 2305843009213693952) (h : l.any (isIn x) = true) :
    decide (Sat.clip (Span.hLo l) ≤ x ∧ x ≤ Sat.clip (Span.hHi l)) = true := by
  obtain ⟨s, hs, hx⟩ := List.any_eq_true.1 h
  have hx' := of_decide_eq_true hx
  have k1 := ((Span.hLo_iff l _).1 (Int.le_refl _)).2 s hs (by omega)
  have k2 := ((Span.hHi_iff l _).1 (Int.le_refl _)).2 s hs (by omega)
  have m1 := Sat.clip_mono (show Span.hLo l ≤ x by omega)
  have m2 := Sat.clip_mono (show x ≤ Span.hHi l by omega)
  rw [Sat.clip_in h1 h2] at m1 m2
  exact decide_eq_true ⟨m1, m2⟩
set_option maxHeartbeats 1600000 in
theorem walk (w : World) (A : Option Addr) (l : List (Int × Int)) (c : Nat) (hA : PairsAt w A l) (hl : l.length ≤ 9223372036854775807) (hw : ∀ s ∈ l, (Lit.int .i64 s.1).wf = true ∧ (Lit.int .i64 s.2).wf = true) (x : Int) (wx : (Lit.int .i64 x).wf = true) :
    Calls Try.prog 5 #[.slice A l.length c, .int .i64 x] w fun e w' => e = .returned (.bool true) ∧ Below w.heap.size w w' := by
  clear hw wx
  have hok := Ok.refl w
  by_cases hbig : (1024 < l.length ∨ 2305843009213693952 < x) ∨ x < -2305843009213693952
  · go_enter Try.func5, Try.ntmps5
    go_wp2_with (go_at_call 21; refine (law3Alive _).mono ?_; rintro e w1 ⟨rfl, hb1⟩; replace hok := hok.trans hb1; clear hb1)
    all_goals first
      | (exfalso; omega)
      | (go_ret; exact ⟨rfl, hok⟩)
  · have h1 : l.length ≤ 1024 := by omega
    have h2 : x ≤ 2305843009213693952 := by omega
    have h3 : -2305843009213693952 ≤ x := by omega
    clear hbig
    go_enter Try.func5, Try.ntmps5
    go_wp2_with (go_at_call 21; refine (law3Alive _).mono ?_; rintro e w1 ⟨rfl, hb1⟩; replace hok := hok.trans hb1; clear hb1)
    go_loopw [5, 6, 24] (fun p q i wr => ∃ k : Nat, k ≤ l.length ∧ i = .int .i64 k ∧ p = .bool ((l.take k).all (isIn x)) ∧ q = .bool ((l.take k).any (isIn x)) ∧ (∀ s ∈ l.take k, Near s) ∧ Ok w wr) (fun _ _ i _ => l.length - (intOf i).toNat)
    case atStart => exact ⟨0, Nat.zero_le _, rfl, rfl, rfl, by simp, hok⟩
    case round =>
      obtain ⟨k, hk, rfl, rfl, rfl, hnear, hok2⟩ := hrel
      clear hok
      by_cases hlt : k < l.length
      · obtain ⟨b, off, hA2, hb, p0, p1⟩ := hA.below hok2 k hlt
        subst hA2
        have hl1 : l.length ≤ 9223372036854775807 := by omega
        have N := Lib.hid hnear
        clear hnear
        have e1 : (l.take (k + 1)).all (isIn x) = ((l.take k).all (isIn x) && isIn x l[k]) := by rw [take_more hlt, List.all_append]; simp only [List.all_cons, List.all_nil, Bool.and_true]
        have e2 : (l.take (k + 1)).any (isIn x) = ((l.take k).any (isIn x) || isIn x l[k]) := by rw [take_more hlt, List.any_append]; simp only [List.any_cons, List.any_nil, Bool.or_false]
        have e3 : Near l[k] → ∀ s ∈ l.take (k + 1), Near s := by
          intro h s hs
          rw [take_more hlt] at hs
          rcases List.mem_append.1 hs with h' | h'
          · exact N.out s h'
          · rw [List.mem_singleton.1 h']; exact h
        have E1 := Lib.hid e1
        have E2 := Lib.hid e2
        have E3 := Lib.hid e3
        have K := Lib.hid fun w => spanHas l[k].1 l[k].2 x w
        rw [show decide (l[k].1 ≤ x ∧ x ≤ l[k].2) = isIn x l[k] from rfl] at K
        clear e1 e2 e3
        by_cases hn : ((2305843009213693952 < l[k].1 ∨ l[k].1 < -2305843009213693952) ∨ 2305843009213693952 < l[k].2) ∨ l[k].2 < -2305843009213693952
        · go_wp2_with fail
          all_goals first
            | (exfalso; omega)
            | (go_ret; exact ⟨rfl, hok2.alloc _⟩)
        · have n1 : l[k].1 ≤ 2305843009213693952 := by omega
          have n2 : -2305843009213693952 ≤ l[k].1 := by omega
          have n3 : l[k].2 ≤ 2305843009213693952 := by omega
          have n4 : -2305843009213693952 ≤ l[k].2 := by omega
          clear hn
          replace E3 := Lib.hid (E3.out ⟨⟨n2, n1⟩, n4, n3⟩)
          obtain ⟨v, hv⟩ : ∃ v, isIn x l[k] = v := ⟨_, rfl⟩
          rw [hv] at E1 E2 K
          clear hv
          generalize (l.take k).all (isIn x) = P at E1 ⊢
          generalize (l.take k).any (isIn x) = Q at E2 ⊢
          cases P <;> cases Q
          all_goals
            go_wp2_with (go_at_call 14; refine (K.out _).mono ?_; rintro e w2 ⟨rfl, hb2⟩; first | (obtain ⟨s0, s1, hs⟩ := (Box.new _ _ _ _ rfl).next hb2; replace hok2 := (hok2.alloc _).trans hb2; clear hb2) | (obtain ⟨s0, s1, hs⟩ := (Box.mk s0 s1 hs).next hb2; replace hok2 := hok2.trans hb2; clear hb2))
            go_roundw
            case rel => exact ⟨k + 1, by omega, by go_num, by rw [E1.out]; simp, by rw [E2.out]; simp, E3.out, by first | exact hok2 | exact hok2.alloc _⟩
            case measure => simp [intOf]; omega
      · have ek : l.take k = l := List.take_of_length_le (by omega)
        rw [ek] at hnear ⊢
        clear ek
        have KM := Lib.hid fun w h => spanMeet A l c w h hl
        have KH := Lib.hid fun w h => spanHull A l c w h hl
        have HM := Lib.hid fun w => spanHas (Sat.clip (Span.mLo l)) (Sat.clip (Span.mHi l)) x w
        have HH := Lib.hid fun w => spanHas (Sat.clip (Span.hLo l)) (Sat.clip (Span.hHi l)) x w
        rw [meet_in hnear h3 h2] at HM
        have hh := hull_in h3 h2 (l := l)
        obtain ⟨r, hr⟩ : ∃ r, decide (Sat.clip (Span.hLo l) ≤ x ∧ x ≤ Sat.clip (Span.hHi l)) = r := ⟨_, rfl⟩
        rw [hr] at HH hh
        clear hr hnear
        generalize Sat.clip (Span.mLo l) = a1 at KM HM
        generalize Sat.clip (Span.mHi l) = a2 at KM HM
        generalize Sat.clip (Span.hLo l) = a3 at KH HH
        generalize Sat.clip (Span.hHi l) = a4 at KH HH
        generalize l.all (isIn x) = P at HM ⊢
        generalize l.any (isIn x) = Q at hh ⊢
        cases Q
        · clear hh
          go_wp2_with (first
            | (go_at_call 22; refine (KM.out _ (hA.below hok2)).mono ?_; rintro e w2 ⟨rfl, hb2⟩; replace hok2 := hok2.trans hb2; clear hb2)
            | (go_at_call 14; refine (HM.out _).mono ?_; rintro e w2 ⟨rfl, hb2⟩; replace hok2 := hok2.trans hb2; clear hb2))
          go_ret
          exact ⟨rfl, hok2⟩
        · rw [hh rfl] at HH
          clear hh
          go_wp2_with (first
            | (go_at_call 22; refine (KM.out _ (hA.below hok2)).mono ?_; rintro e w2 ⟨rfl, hb2⟩; replace hok2 := hok2.trans hb2; clear hb2)
            | (go_at_call 24; refine (KH.out _ (hA.below hok2)).mono ?_; rintro e w2 ⟨rfl, hb2⟩; replace hok2 := hok2.trans hb2; clear hb2)
            | (go_at_call 14; (with_reducible refine (HM.out _).mono ?_); rintro e w2 ⟨rfl, hb2⟩; replace hok2 := hok2.trans hb2; clear hb2)
            | (go_at_call 14; (with_reducible refine (HH.out _).mono ?_); rintro e w2 ⟨rfl, hb2⟩; replace hok2 := hok2.trans hb2; clear hb2))
          go_ret
          exact ⟨rfl, hok2⟩
theorem own : ownKnob Try.prog.godebug = none := by kernel_rfl
theorem laidOut : laidOutB Try.prog = true := by kernel_rfl
set_option maxRecDepth 100000 in
theorem lifted (os : Os) (started : os.Started) (H : Type) (enc : TypeId × Value → H) :
    ReturnsInHanded {} Try.checked os 5 .any (Rows.spanInSpec.pre6 enc Try.prog Try.f5 Rows.spanInRow.domain false) (Rows.spanInSpec.post enc Try.prog Try.f5 false true false false) := by
  refine returnsInHanded_of_change (C := Try.checked) own started (by kernel_rfl) Try.func5
    (ChangeSpec.witness6 (enc := enc) (C := Try.checked) false ⟨#[], #[.slice none 0 0, .int .i64 0], []⟩ 8 (by kernel_rfl) (by kernel_rfl) (by kernel_rfl) (by kernel_rfl)) ?_
  intro W base args ds gs before hval0 hW _ _
  have hval : ∀ (j : Nat) t v, Try.f5.params[j]? = some t → args[j]? = some v → Value.okWide Try.prog W .any base t v := hval0
  have hW' := hW
  obtain ⟨p, q, hA, hV, rfl, _, _⟩ := hW
  obtain ⟨rfl, rfl⟩ := trodVars_none hV
  replace hA : DataW.TrodAll enc Try.prog W 0 (fun _ => true) true Try.f5.params.toList args.toList ds p := hA
  rw [Try.params5] at hA hval
  obtain ⟨v0, vs0, d0, ds0, p0, q0, hargs, rfl, rfl, h0, r0⟩ := trodAll_cons hA
  obtain ⟨v1, vs1, d1, ds1, p1, q1, rfl, rfl, rfl, h1, r1⟩ := trodAll_cons r0
  obtain ⟨rfl, rfl, rfl⟩ := trodAll_nil r1
  obtain rfl : args = #[v0, v1] := by cases args; simp_all
  obtain ⟨A0, l0, c0, rfl, hA0, hl0, hw0⟩ := open_slice_pairs Try.underlying31 Try.underlying23 (by kernel_rfl) (by kernel_rfl) (by kernel_rfl) (by kernel_rfl) (hval 0 31 v0 rfl rfl) h0
  obtain ⟨a1, rfl, rfl, rfl, w1⟩ := open_int Try.underlying3 (hval 1 3 v1 rfl rfl) h1
  refine (walk W A0 l0 c0 hA0 hl0 hw0 a1 w1).mono fun e W' ⟨he, hb⟩ => ?_
  subst he
  exact ⟨_, rfl, law_post hW' laidOut (by rw [Try.params5]; exact params_ok (by kernel_rfl)) rfl (by kernel_rfl) Try.underlying4 rfl rfl rfl hb⟩
theorem over : Rows.spanInRow.holds Try.pinned (OpenSpec.ofChange Rows.spanInSpec) :=
  OpenClaim.holds_of_wide 5 Try.f5 rfl rfl rfl rfl rfl rfl rfl ⟨rfl, rfl, rfl, rfl, rfl⟩ rfl rfl rfl rfl rfl (by kernel_rfl) Try.func5 (by kernel_rfl)
    (of_decide_eq_true (by kernel_rfl)) (by unfold Func.isWrapper; first | (rw [if_pos (by decide +kernel)]; kernel_rfl) | (rw [if_neg (by decide +kernel)]; exact ⟨rfl, rfl⟩))
    (fun os started H enc _ => lifted os started H enc)
theorem proved : Rows.SpanInSaid := over
end Go.Proofs.Ytpbgfjfodojlaaa.spanIn
