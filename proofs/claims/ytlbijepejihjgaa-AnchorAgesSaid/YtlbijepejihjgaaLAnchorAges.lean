/- AnchorAges: for all numbers of a fabric, every slice of integers and any two ends the law answers true: if all that tell but F were anchored from one beat to another ago, what is told is from the one to the other, and one more. No condition. -/
import Derived.Test.YtlbijepejihjgaaC16c
import Derived.Test.YtlbijepejihjgaaW18
namespace Go.Proofs.Ytlbijepejihjgaa.anchorAges
open Go.ChangeShapes Go.WideShapes Go.ChangeAt Go.RowKit
set_option linter.unusedVariables false
set_option maxRecDepth 100000
/-- Who is wrong. -/
def out (lo hi x : Int) : Bool := !decide (lo ≤ x ∧ x ≤ hi)
theorem count_snoc (lo hi : Int) {l : List Int} {k : Nat} (h : k < l.length) : (l.take (k + 1)).countP (out lo hi) = (l.take k).countP (out lo hi) + if out lo hi l[k] = true then 1 else 0 := by
  rw [take_more h, List.countP_append, List.countP_cons, List.countP_nil, Nat.zero_add]
theorem told {f lo hi : Int} {l : List Int} (hf : 0 ≤ f) (hl : 2 * f + 1 ≤ l.length) (h0 : 0 ≤ lo) (h1 : hi ≤ 536870912) (hw : (l.countP (out lo hi) : Int) ≤ f) : Trim.is f l.length = true ∧ lo + 1 ≤ Anchor.held f l ∧ Anchor.held f l ≤ hi + 1 := by
  obtain ⟨n, rfl⟩ : ∃ n : Nat, f = n := ⟨f.toNat, by omega⟩
  have hi1 : Trim.is (n : Int) l.length = true := Trim.is_t (by omega)
  have hp : Trim.Pick n l (Trim.val (n : Int) l) := by
    have := Trim.val_pick (k := (n : Int)) (l := l) (by omega)
    rwa [Int.toNat_natCast] at this
  obtain ⟨v, hv⟩ := Trim.Pick.exists (l := l) (k := l.length - 1 - n) (by omega)
  have hb := (Trim.between (f := n) (lo := lo) (hi := hi) (by omega) hp hv (by show l.countP (out lo hi) ≤ n; omega)).1
  have hh : Anchor.held (n : Int) l = Trim.val (n : Int) l + 1 := by
    unfold Anchor.held
    rw [if_pos hi1, Anchor.more_in (by omega)]
  exact ⟨hi1, by omega, by omega⟩
set_option maxHeartbeats 3200000 in
theorem walk (w : World) (p : Par) (wp : ParWf p) (A : Option Addr) (l : List Int) (c : Nat) (hA : IntsAt w A l) (hl : l.length ≤ 9223372036854775807) (hw : ∀ x ∈ l, (Lit.int .i64 x).wf = true) (lo : Int) (w1 : (Lit.int .i64 lo).wf = true) (hi : Int) (w2 : (Lit.int .i64 hi).wf = true) :
    Calls Try.prog 5 #[parV p, .slice A l.length c, .int .i64 lo, .int .i64 hi] w fun e w' => e = .returned (.bool true) ∧ Below w.heap.size w w' := by
  show Calls Try.prog 5 #[parV p, .slice A l.length c, .int .i64 lo, .int .i64 hi] w fun e w' => e = .returned (.bool true) ∧ Ok w w'
  clear hw w1 w2 wp
  have hok := (Ok.refl w).alloc (.cells (parCells p) 23)
  have hP := Own.new w (parCells p) 23 rfl
  replace hA := hA.below hok
  by_cases hbig : ((((256 < l.length ∨ p.f < 0) ∨ (l.length : Int) ≤ p.f) ∨ (l.length : Int) - p.f ≤ p.f) ∨ lo < 0) ∨ 536870912 < hi
  · go_enter Try.func5, Try.ntmps5
    go_upto_region 1 with fail
    generalize w.alloc (.cells (parCells p) 23) = W at hP hok hA ⊢
    obtain ⟨g, hg⟩ : ∃ r, w.heap.size = r := ⟨_, rfl⟩
    rw [hg] at hP ⊢
    clear hg
    go_wp2_with (go_at_call 7; refine (law16Alive _).mono ?_; rintro e w1 ⟨rfl, hb1⟩; replace hP := hP.next hb1; replace hok := hok.trans hb1; clear hb1; obtain ⟨c0, c1, c2, c3, c4, c5, c6, c7, c8, c9, c10, c11⟩ := hP.pars; have hPl := hP.lt)
    all_goals first
      | (exfalso; omega)
      | (go_ret; exact ⟨rfl, hok⟩)
  · have h1 : l.length ≤ 256 := by omega
    have h2 : 0 ≤ p.f := by omega
    have h3 : p.f < (l.length : Int) := by omega
    have h4 : p.f < (l.length : Int) - p.f := by omega
    have h5 : 0 ≤ lo := by omega
    have h6 : hi ≤ 536870912 := by omega
    clear hbig hl
    have HT := Lib.hid (fun h => told (f := p.f) (lo := lo) (hi := hi) (l := l) h2 (by omega) h5 h6 h)
    have KH := Lib.hid fun w h => anchorHeld p A l c w h (by omega)
    go_enter Try.func5, Try.ntmps5
    go_upto_region 1 with fail
    generalize w.alloc (.cells (parCells p) 23) = W at hP hok hA ⊢
    obtain ⟨g, hg⟩ : ∃ r, w.heap.size = r := ⟨_, rfl⟩
    rw [hg] at hP ⊢
    clear hg
    go_wp2_with (go_at_call 7; refine (law16Alive _).mono ?_; rintro e w1 ⟨rfl, hb1⟩; replace hP := hP.next hb1; replace hA := hA.below hb1; replace hok := hok.trans hb1; clear hb1; obtain ⟨c0, c1, c2, c3, c4, c5, c6, c7, c8, c9, c10, c11⟩ := hP.pars; have hPl := hP.lt)
    clear c0 c2 c3 c4 c5 c6 c7 c8 c9 c10 c11 h3 h4
    go_loop [9, 51] (fun s i => ∃ k : Nat, k ≤ l.length ∧ i = .int .i64 k ∧ s = .int .i64 (((l.take k).countP (out lo hi) : Nat) : Int)) (fun _ i => l.length - (intOf i).toNat)
    case atStart => exact ⟨0, Nat.zero_le _, rfl, rfl⟩
    case round =>
      obtain ⟨k, hk, rfl, rfl⟩ := hrel
      by_cases hlt : k < l.length
      · obtain ⟨b, off, hA2, hb, hc⟩ := hA k hlt
        subst hA2
        have E1 := Lib.hid (count_snoc lo hi hlt)
        have hcl : (l.take k).countP (out lo hi) ≤ k := by have := (l.take k).countP_le_length (p := out lo hi); rw [List.length_take] at this; omega
        have EI : out lo hi l[k] = !decide (lo ≤ l[k] ∧ l[k] ≤ hi) := rfl
        rw [EI] at E1
        clear EI HT KH
        generalize l[k] = x at hc E1
        generalize (l.take k).countP (out lo hi) = cnt at E1 hcl ⊢
        by_cases d1 : x < lo
        · have e1 : (l.take (k + 1)).countP (out lo hi) = cnt + 1 := by rw [E1.out, if_pos (by simp; omega)]
          have F1 := Lib.hid e1
          clear e1 E1
          go_wp2_with fail
          go_round
          case rel => exact ⟨k + 1, by omega, by go_num, by rw [F1.out]; go_num⟩
          case measure => simp [intOf]; omega
        · by_cases d2 : hi < x
          · have e1 : (l.take (k + 1)).countP (out lo hi) = cnt + 1 := by rw [E1.out, if_pos (by simp; omega)]
            have F1 := Lib.hid e1
            clear e1 E1
            go_wp2_with fail
            go_round
            case rel => exact ⟨k + 1, by omega, by go_num, by rw [F1.out]; go_num⟩
            case measure => simp [intOf]; omega
          · have e1 : (l.take (k + 1)).countP (out lo hi) = cnt := by rw [E1.out, if_neg (by simp; omega)]; rfl
            have F1 := Lib.hid e1
            clear e1 E1
            go_wp2_with fail
            go_round
            case rel => exact ⟨k + 1, by omega, by go_num, by rw [F1.out]⟩
            case measure => simp [intOf]; omega
      · have ek : l.take k = l := List.take_of_length_le (by omega)
        rw [ek]
        clear ek
        have hcl : l.countP (out lo hi) ≤ l.length := List.countP_le_length
        generalize l.countP (out lo hi) = cnt at HT hcl ⊢
        by_cases hr : p.f < (cnt : Int)
        · clear HT KH
          go_wp2_with fail
          go_ret
          exact ⟨rfl, hok⟩
        · obtain ⟨g1, g2, g3⟩ := HT.out (by omega)
          rw [g1] at KH
          generalize Anchor.held p.f l = n at KH g2 g3
          clear HT g1
          obtain ⟨c0, c1, c2, c3, c4, c5, c6, c7, c8, c9, c10, c11⟩ := hP.pars
          go_wp2_with (go_at_call 10; refine (KH.out _ hA).mono ?_; rintro e w2 ⟨rfl, hb1⟩; replace hok := hok.trans hb1; clear hb1)
          go_ret
          exact ⟨rfl, hok⟩
theorem own : ownKnob Try.prog.godebug = none := by kernel_rfl
theorem laidOut : laidOutB Try.prog = true := by kernel_rfl
set_option maxRecDepth 100000 in
theorem lifted (os : Os) (started : os.Started) (H : Type) (enc : TypeId × Value → H) :
    ReturnsInHanded {} Try.checked os 5 .any (Rows.anchorAgesSpec.pre6 enc Try.prog Try.f5 Rows.anchorAgesRow.domain false) (Rows.anchorAgesSpec.post enc Try.prog Try.f5 false true false false) := by
  refine returnsInHanded_of_change (C := Try.checked) own started (by kernel_rfl) Try.func5
    (ChangeSpec.witness6 (enc := enc) (C := Try.checked) false ⟨#[], #[.agg #[.int .i64 0, .int .i64 0, .int .i64 0, .int .i64 0, .int .i64 0, .int .i64 0, .int .i64 0, .int .i64 0, .int .i64 0, .int .i64 0, .int .i64 0, .int .i64 0], .slice none 0 0, .int .i64 0, .int .i64 0], []⟩ 8 (by kernel_rfl) (by kernel_rfl) (by kernel_rfl) (by kernel_rfl)) ?_
  intro W base args ds gs before hval0 hW _ _
  have hval : ∀ (j : Nat) t v, Try.f5.params[j]? = some t → args[j]? = some v → Value.okWide Try.prog W .any base t v := hval0
  have hW' := hW
  obtain ⟨p, q, hA, hV, rfl, _, _⟩ := hW
  obtain ⟨rfl, rfl⟩ := trodVars_none hV
  replace hA : DataW.TrodAll enc Try.prog W 0 (fun _ => true) true Try.f5.params.toList args.toList ds p := hA
  rw [Try.params5] at hA hval
  obtain ⟨v0, vs0, d0, ds0, p0, q0, hargs, rfl, rfl, h0, r0⟩ := trodAll_cons hA
  obtain ⟨v1, vs1, d1, ds1, p1, q1, rfl, rfl, rfl, h1, r1⟩ := trodAll_cons r0
  obtain ⟨v2, vs2, d2, ds2, p2, q2, rfl, rfl, rfl, h2, r2⟩ := trodAll_cons r1
  obtain ⟨v3, vs3, d3, ds3, p3, q3, rfl, rfl, rfl, h3, r3⟩ := trodAll_cons r2
  obtain ⟨rfl, rfl, rfl⟩ := trodAll_nil r3
  obtain rfl : args = #[v0, v1, v2, v3] := by cases args; simp_all
  obtain ⟨p0, rfl, wp0⟩ := open_par Try.underlying23 rfl (by kernel_rfl) (by kernel_rfl) (by kernel_rfl) (hval 0 23 v0 rfl rfl) h0
  obtain ⟨A1, l1, c1, rfl, hA1, hl1, hw1⟩ := open_sliceK Try.underlying24 Try.underlying3 (by kernel_rfl) (hval 1 24 v1 rfl rfl) h1
  obtain ⟨a2, rfl, rfl, rfl, w2⟩ := open_int Try.underlying3 (hval 2 3 v2 rfl rfl) h2
  obtain ⟨a3, rfl, rfl, rfl, w3⟩ := open_int Try.underlying3 (hval 3 3 v3 rfl rfl) h3
  refine (walk W p0 wp0 A1 l1 c1 hA1 hl1 hw1 a2 w2 a3 w3).mono fun e W' ⟨he, hb⟩ => ?_
  subst he
  exact ⟨_, rfl, law_post hW' laidOut (by rw [Try.params5]; exact params_ok (by kernel_rfl)) rfl (by kernel_rfl) Try.underlying4 rfl rfl rfl hb⟩
theorem over : Rows.anchorAgesRow.holds Try.pinned (OpenSpec.ofChange Rows.anchorAgesSpec) :=
  OpenClaim.holds_of_wide 5 Try.f5 rfl rfl rfl rfl rfl rfl rfl ⟨rfl, rfl, rfl, rfl, rfl⟩ rfl rfl rfl rfl rfl (by kernel_rfl) Try.func5 (by kernel_rfl)
    (of_decide_eq_true (by kernel_rfl)) (by unfold Func.isWrapper; first | (rw [if_pos (by decide +kernel)]; kernel_rfl) | (rw [if_neg (by decide +kernel)]; exact ⟨rfl, rfl⟩))
    (fun os started H enc _ => lifted os started H enc)
theorem proved : Rows.AnchorAgesSaid := over
end Go.Proofs.Ytlbijepejihjgaa.anchorAges
