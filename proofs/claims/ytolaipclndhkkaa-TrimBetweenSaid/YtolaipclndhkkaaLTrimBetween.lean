/- TrimBetween: for every f, slice of integers and two ends the law answers true: if all but f are from one to the other, the middle is, too. No condition. -/
import Derived.Test.YtolaipclndhkkaaC07h
import Derived.Test.YtolaipclndhkkaaW18
namespace Go.Proofs.Ytolaipclndhkkaa.trimBetween
open Go.ChangeShapes Go.WideShapes Go.ChangeAt Go.RowKit
set_option linter.unusedVariables false
set_option maxRecDepth 100000

def out (lo hi : Int) (y : Int) : Bool := decide (y < lo ∨ hi < y)
theorem count_snoc (lo hi : Int) {l : List Int} {k : Nat} (h : k < l.length) : (l.take (k + 1)).countP (out lo hi) = (l.take k).countP (out lo hi) + if out lo hi l[k] = true then 1 else 0 := by
  rw [take_more h, List.countP_append, List.countP_cons, List.countP_nil, Nat.zero_add]
theorem amid {f : Nat} {l : List Int} {lo hi : Int} (hlo : -2305843009213693952 ≤ lo) (hhi : hi ≤ 2305843009213693952) (hl : 2 * f + 1 ≤ l.length) (hc : l.countP (out lo hi) ≤ f) :
    Trim.many f l.length = true ∧ lo ≤ Trim.mid f l Sat.clip ∧ Trim.mid f l Sat.clip ≤ hi := by
  have hm : Trim.many f l.length = true := decide_eq_true (by omega)
  have h1 : Trim.Pick f l (Trim.val f l) := by
    have := Trim.val_pick (k := (f : Int)) (l := l) (by omega)
    rwa [Int.toNat_natCast] at this
  have h2 : Trim.PickMost f l (Trim.val ((l.length : Int) - 1 - f) l) := by
    unfold Trim.PickMost
    have := Trim.val_pick (k := (l.length : Int) - 1 - f) (l := l) (by omega)
    rwa [show ((l.length : Int) - 1 - f).toNat = l.length - 1 - f by omega] at this
  have e : l.countP (fun y => !decide (lo ≤ y ∧ y ≤ hi)) = l.countP (out lo hi) := by
    congr 1
    funext y
    unfold out
    by_cases a : lo ≤ y <;> by_cases b : y ≤ hi <;> simp [a, b] <;> omega
  obtain ⟨⟨a1, a2⟩, b1, b2⟩ := Trim.between hl h1 h2 (by rw [e]; exact hc)
  refine ⟨hm, ?_⟩
  unfold Trim.mid
  rw [if_pos hm, Sat.clip_in (by omega) (by omega), Sat.clip_in (by omega) (by omega)]
  omega
set_option maxHeartbeats 3200000 in
theorem walk (w : World) (f : Int) (wf : (Lit.int .i64 f).wf = true) (A : Option Addr) (l : List Int) (c : Nat) (hA : IntsAt w A l) (hl : l.length ≤ 9223372036854775807) (hw : ∀ x ∈ l, (Lit.int .i64 x).wf = true) (lo : Int) (wlo : (Lit.int .i64 lo).wf = true) (hi : Int) (whi : (Lit.int .i64 hi).wf = true) :
    Calls Try.prog 7 #[.int .i64 f, .slice A l.length c, .int .i64 lo, .int .i64 hi] w fun e w' => e = .returned (.bool true) ∧ Below w.heap.size w w' := by
  clear hw wf wlo whi
  have hok := Ok.refl w
  by_cases hbig : ((((256 < l.length ∨ f < 0) ∨ 256 < f) ∨ (l.length : Int) < 2 * f + 1) ∨ lo < -2305843009213693952) ∨ 2305843009213693952 < hi
  · go_enter Try.func7, Try.ntmps7
    go_wp2_with (go_at_call 17; refine (law7Alive _).mono ?_; rintro e w1 ⟨rfl, hb1⟩; replace hok := hok.trans hb1; clear hb1)
    all_goals first
      | (exfalso; omega)
      | (go_ret; exact ⟨rfl, hok⟩)
  · obtain ⟨n, rfl⟩ : ∃ n : Nat, f = n := ⟨f.toNat, by omega⟩
    have h1 : l.length ≤ 256 := by omega
    have h2 : n ≤ 256 := by omega
    have h3 : 2 * n + 1 ≤ l.length := by omega
    have h3' : ¬ (l.length : Int) < 2 * (n : Int) + 1 := by omega
    have h4 : -2305843009213693952 ≤ lo := by omega
    have h5 : hi ≤ 2305843009213693952 := by omega
    clear hbig hl
    go_enter Try.func7, Try.ntmps7
    go_wp2_with (go_at_call 17; refine (law7Alive _).mono ?_; rintro e w1 ⟨rfl, hb1⟩; replace hok := hok.trans hb1; clear hb1)
    go_loopw [9, 45] (fun p i wr => ∃ k : Nat, k ≤ l.length ∧ i = .int .i64 k ∧ p = .int .i64 (((l.take k).countP (out lo hi) : Nat) : Int) ∧ Ok w wr) (fun _ i _ => l.length - (intOf i).toNat)
    case atStart => exact ⟨0, Nat.zero_le _, rfl, rfl, hok⟩
    case round =>
      obtain ⟨k, hk, rfl, rfl, hok2⟩ := hrel
      clear hok
      by_cases hlt : k < l.length
      · obtain ⟨b, off, hA2, hb, p0⟩ := (hA.below hok2) k hlt
        subst hA2
        have E1 := Lib.hid (count_snoc lo hi hlt)
        have hc : (l.take k).countP (out lo hi) ≤ k := by have := (l.take k).countP_le_length (p := out lo hi); rw [List.length_take] at this; omega
        generalize l[k] = y at p0 E1
        generalize (l.take k).countP (out lo hi) = cnt at E1 hc ⊢
        by_cases d : y < lo ∨ hi < y
        · have e1 : (l.take (k + 1)).countP (out lo hi) = cnt + 1 := by rw [E1.out, show out lo hi y = true from decide_eq_true d, if_pos rfl]
          have F1 := Lib.hid e1
          clear e1 E1
          by_cases d1 : y < lo
          · clear d
            go_wp2
            go_roundw
            case rel => exact ⟨k + 1, by omega, by go_num, by rw [F1.out]; go_num, hok2⟩
            case measure => simp [intOf]; omega
          · have d2 : hi < y := by omega
            clear d
            go_wp2
            go_roundw
            case rel => exact ⟨k + 1, by omega, by go_num, by rw [F1.out]; go_num, hok2⟩
            case measure => simp [intOf]; omega
        · have e1 : (l.take (k + 1)).countP (out lo hi) = cnt := by rw [E1.out, show out lo hi y = false from decide_eq_false d]; rfl
          have F1 := Lib.hid e1
          have d1 : ¬ y < lo := by omega
          have d2 : ¬ hi < y := by omega
          clear e1 E1 d
          go_wp2
          go_roundw
          case rel => exact ⟨k + 1, by omega, by go_num, by rw [F1.out], hok2⟩
          case measure => simp [intOf]; omega
      · have ek : l.take k = l := List.take_of_length_le (by omega)
        rw [ek]
        clear ek
        have hcl : l.countP (out lo hi) ≤ l.length := List.countP_le_length
        have HF := Lib.hid fun h => amid (f := n) (l := l) (lo := lo) (hi := hi) h4 h5 h3 h
        have KF := Lib.hid fun w h => trimMiddle (n : Int) A l c w h (by omega) (by omega)
        generalize l.countP (out lo hi) = cnt at HF hcl ⊢
        by_cases hr : cnt ≤ n
        · obtain ⟨g1, g2, g3⟩ := HF.out hr
          rw [g1] at KF
          generalize Trim.mid (n : Int) l Sat.clip = m at KF g2 g3
          clear HF g1
          go_wp2_with (go_at_call 13; refine (KF.out _ (hA.below hok2)).mono ?_; rintro e w2 ⟨rfl, hb1⟩; replace hok2 := hok2.trans hb1; clear hb1)
          go_ret
          exact ⟨rfl, hok2⟩
        · clear HF KF
          go_wp2_with fail
          go_ret
          exact ⟨rfl, hok2⟩
theorem own : ownKnob Try.prog.godebug = none := by kernel_rfl
theorem laidOut : laidOutB Try.prog = true := by kernel_rfl
set_option maxRecDepth 100000 in
theorem lifted (os : Os) (started : os.Started) (H : Type) (enc : TypeId × Value → H) :
    ReturnsInHanded {} Try.checked os 7 .any (Rows.trimBetweenSpec.pre6 enc Try.prog Try.f7 Rows.trimBetweenRow.domain false) (Rows.trimBetweenSpec.post enc Try.prog Try.f7 false true false false) := by
  refine returnsInHanded_of_change (C := Try.checked) own started (by kernel_rfl) Try.func7
    (ChangeSpec.witness6 (enc := enc) (C := Try.checked) false ⟨#[], #[.int .i64 0, .slice none 0 0, .int .i64 0, .int .i64 0], []⟩ 8 (by kernel_rfl) (by kernel_rfl) (by kernel_rfl) (by kernel_rfl)) ?_
  intro W base args ds gs before hval0 hW _ _
  have hval : ∀ (j : Nat) t v, Try.f7.params[j]? = some t → args[j]? = some v → Value.okWide Try.prog W .any base t v := hval0
  have hW' := hW
  obtain ⟨p, q, hA, hV, rfl, _, _⟩ := hW
  obtain ⟨rfl, rfl⟩ := trodVars_none hV
  replace hA : DataW.TrodAll enc Try.prog W 0 (fun _ => true) true Try.f7.params.toList args.toList ds p := hA
  rw [Try.params7] at hA hval
  obtain ⟨v0, vs0, d0, ds0, p0, q0, hargs, rfl, rfl, h0, r0⟩ := trodAll_cons hA
  obtain ⟨v1, vs1, d1, ds1, p1, q1, rfl, rfl, rfl, h1, r1⟩ := trodAll_cons r0
  obtain ⟨v2, vs2, d2, ds2, p2, q2, rfl, rfl, rfl, h2, r2⟩ := trodAll_cons r1
  obtain ⟨v3, vs3, d3, ds3, p3, q3, rfl, rfl, rfl, h3, r3⟩ := trodAll_cons r2
  obtain ⟨rfl, rfl, rfl⟩ := trodAll_nil r3
  obtain rfl : args = #[v0, v1, v2, v3] := by cases args; simp_all
  obtain ⟨a0, rfl, rfl, rfl, w0⟩ := open_int Try.underlying3 (hval 0 3 v0 rfl rfl) h0
  obtain ⟨A1, l1, c1, rfl, hA1, hl1, hw1⟩ := open_sliceK Try.underlying22 Try.underlying3 (by kernel_rfl) (hval 1 22 v1 rfl rfl) h1
  obtain ⟨a2, rfl, rfl, rfl, w2⟩ := open_int Try.underlying3 (hval 2 3 v2 rfl rfl) h2
  obtain ⟨a3, rfl, rfl, rfl, w3⟩ := open_int Try.underlying3 (hval 3 3 v3 rfl rfl) h3
  refine (walk W a0 w0 A1 l1 c1 hA1 hl1 hw1 a2 w2 a3 w3).mono fun e W' ⟨he, hb⟩ => ?_
  subst he
  exact ⟨_, rfl, law_post hW' laidOut (by rw [Try.params7]; exact params_ok (by kernel_rfl)) rfl (by kernel_rfl) Try.underlying4 rfl rfl rfl hb⟩
theorem over : Rows.trimBetweenRow.holds Try.pinned (OpenSpec.ofChange Rows.trimBetweenSpec) :=
  OpenClaim.holds_of_wide 7 Try.f7 rfl rfl rfl rfl rfl rfl rfl ⟨rfl, rfl, rfl, rfl, rfl⟩ rfl rfl rfl rfl rfl (by kernel_rfl) Try.func7 (by kernel_rfl)
    (of_decide_eq_true (by kernel_rfl)) (by unfold Func.isWrapper; first | (rw [if_pos (by decide +kernel)]; kernel_rfl) | (rw [if_neg (by decide +kernel)]; exact ⟨rfl, rfl⟩))
    (fun os started H enc _ => lifted os started H enc)
theorem proved : Rows.TrimBetweenSaid := over
end Go.Proofs.Ytolaipclndhkkaa.trimBetween
