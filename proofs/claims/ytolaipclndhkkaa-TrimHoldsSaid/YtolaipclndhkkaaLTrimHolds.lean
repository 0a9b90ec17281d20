/- TrimHolds: for every f, slice of spans and time the law answers true: whoever lies, a time that is in all spans but f is in the fused one, which isn't wider than the widest of those that have it. No condition. -/
import Derived.Test.YtolaipclndhkkaaC07h
import Derived.Test.YtolaipclndhkkaaW18
namespace Go.Proofs.Ytolaipclndhkkaa.trimHolds
open Go.ChangeShapes Go.WideShapes Go.ChangeAt Go.RowKit
set_option linter.unusedVariables false
set_option maxRecDepth 100000

def isIn (x : Int) (s : Int × Int) : Bool := decide (s.1 ≤ x ∧ x ≤ s.2)
/-- The widest of those that have the time. -/
def wide (x : Int) (l : List (Int × Int)) : Int := l.foldl (fun m s => if isIn x s = true then max m (min s.2 2305843009213693952 - max s.1 (-2305843009213693952)) else m) 0
theorem wide_snoc (x : Int) {l : List (Int × Int)} {k : Nat} (h : k < l.length) : wide x (l.take (k + 1)) = if isIn x l[k] = true then max (wide x (l.take k)) (min l[k].2 2305843009213693952 - max l[k].1 (-2305843009213693952)) else wide x (l.take k) := by
  unfold wide
  rw [take_more h, List.foldl_append]
  rfl
theorem count_snoc (x : Int) {l : List (Int × Int)} {k : Nat} (h : k < l.length) : (l.take (k + 1)).countP (isIn x) = (l.take k).countP (isIn x) + if isIn x l[k] = true then 1 else 0 := by
  rw [take_more h, List.countP_append, List.countP_cons, List.countP_nil, Nat.zero_add]
theorem wide_bd (x : Int) (hx : -2305843009213693952 ≤ x ∧ x ≤ 2305843009213693952) : ∀ (l : List (Int × Int)) (m : Int), 0 ≤ m ∧ m ≤ 4611686018427387904 →
    (0 ≤ l.foldl (fun m s => if isIn x s = true then max m (min s.2 2305843009213693952 - max s.1 (-2305843009213693952)) else m) m ∧ l.foldl (fun m s => if isIn x s = true then max m (min s.2 2305843009213693952 - max s.1 (-2305843009213693952)) else m) m ≤ 4611686018427387904) ∧
    m ≤ l.foldl (fun m s => if isIn x s = true then max m (min s.2 2305843009213693952 - max s.1 (-2305843009213693952)) else m) m ∧
    ∀ s ∈ l, isIn x s = true → min s.2 2305843009213693952 - max s.1 (-2305843009213693952) ≤ l.foldl (fun m s => if isIn x s = true then max m (min s.2 2305843009213693952 - max s.1 (-2305843009213693952)) else m) m := by
  intro l
  induction l with
  | nil => intro m hm; exact ⟨hm, Int.le_refl _, fun s hs => by cases hs⟩
  | cons s l ih =>
    intro m hm
    simp only [List.foldl_cons]
    by_cases h : isIn x s = true
    · rw [if_pos h]
      have h' := of_decide_eq_true h
      obtain ⟨h1, h2, h3⟩ := ih (max m (min s.2 2305843009213693952 - max s.1 (-2305843009213693952))) (by omega)
      refine ⟨h1, by omega, fun t ht hi => ?_⟩
      rcases List.mem_cons.1 ht with rfl | g
      · omega
      · exact h3 t g hi
    · rw [if_neg h]
      obtain ⟨h1, h2, h3⟩ := ih m hm
      refine ⟨h1, h2, fun t ht hi => ?_⟩
      rcases List.mem_cons.1 ht with rfl | g
      · exact absurd hi h
      · exact h3 t g hi
theorem fused {f : Nat} {l : List (Int × Int)} {x : Int} (hx : -2305843009213693952 ≤ x ∧ x ≤ 2305843009213693952) (hl : 2 * f + 1 ≤ l.length) (hr : l.length ≤ l.countP (isIn x) + f) :
    fLeft f l = true ∧ ((-2305843009213693952 ≤ (fz f l).1 ∧ (fz f l).1 ≤ x) ∧ (x ≤ (fz f l).2 ∧ (fz f l).2 ≤ 2305843009213693952)) ∧ (2 * f + 1 ≤ l.countP (isIn x) → (fz f l).2 - (fz f l).1 ≤ wide x l) := by
  have hf : f < l.length := by omega
  have hlo : Trim.PickMost f (l.map (·.1)) (fLo f l) := by
    unfold Trim.PickMost fLo
    have := Trim.val_pick (k := (l.length : Int) - 1 - f) (l := l.map (·.1)) (by rw [List.length_map]; omega)
    rw [List.length_map]
    rwa [show ((l.length : Int) - 1 - f).toNat = l.length - 1 - f by omega] at this
  have hhi : Trim.Pick f (l.map (·.2)) (fHi f l) := by
    have := Trim.val_pick (k := (f : Int)) (l := l.map (·.2)) (by rw [List.length_map]; omega)
    rwa [Int.toNat_natCast] at this
  have hn := Trim.countP_not (isIn x) l
  obtain ⟨h1, h2, h3⟩ := Trim.fuse_holds hf hlo hhi (x := x) (by have e : l.countP (fun s => !decide (s.1 ≤ x ∧ x ≤ s.2)) = l.countP (fun s => !isIn x s) := rfl; rw [e]; omega)
  obtain ⟨h4, h5⟩ := fLeft_t (f := (f : Int)) (l := l) (decide_eq_true (by omega)) (Int.le_trans h1 h2)
  have m1 := Sat.clip_mono h1
  have m2 := Sat.clip_mono h2
  rw [Sat.clip_in hx.1 hx.2] at m1 m2
  have b1 := Sat.clip_bd (fLo f l)
  have b2 := Sat.clip_bd (fHi f l)
  rw [h5]
  refine ⟨h4, ⟨⟨b1.1, m1⟩, m2, b2.2⟩, fun h => ?_⟩
  obtain ⟨s, hs, hin, k1, k2⟩ := h3 h
  have hw := (wide_bd x hx l 0 (by omega)).2.2 s hs (decide_eq_true hin)
  show Sat.clip (fHi f l) - Sat.clip (fLo f l) ≤ wide x l
  unfold wide
  have c1 := Sat.clip_mono k1
  have c2 := Sat.clip_mono k2
  have c3 : Sat.clip s.1 = max s.1 (-2305843009213693952) := by unfold Sat.clip; omega
  have c4 : Sat.clip s.2 = min s.2 2305843009213693952 := by unfold Sat.clip; omega
  omega
set_option maxHeartbeats 3200000 in
theorem walk (w : World) (f : Int) (wf : (Lit.int .i64 f).wf = true) (A : Option Addr) (l : List (Int × Int)) (c : Nat) (hA : PairsAt w A l) (hl : l.length ≤ 9223372036854775807) (hw : ∀ s ∈ l, (Lit.int .i64 s.1).wf = true ∧ (Lit.int .i64 s.2).wf = true) (x : Int) (wx : (Lit.int .i64 x).wf = true) :
    Calls Try.prog 6 #[.int .i64 f, .slice A l.length c, .int .i64 x] w fun e w' => e = .returned (.bool true) ∧ Below w.heap.size w w' := by
  clear hw wx wf
  have hok := Ok.refl w
  by_cases hbig : ((((256 < l.length ∨ f < 0) ∨ 256 < f) ∨ (l.length : Int) < 2 * f + 1) ∨ 2305843009213693952 < x) ∨ x < -2305843009213693952
  · go_enter Try.func6, Try.ntmps6
    go_wp2_with (go_at_call 17; refine (law7Alive _).mono ?_; rintro e w1 ⟨rfl, hb1⟩; replace hok := hok.trans hb1; clear hb1)
    all_goals first
      | (exfalso; omega)
      | (go_ret; exact ⟨rfl, hok⟩)
  · obtain ⟨n, rfl⟩ : ∃ n : Nat, f = n := ⟨f.toNat, by omega⟩
    have h1 : l.length ≤ 256 := by omega
    have h2 : n ≤ 256 := by omega
    have h3 : 2 * n + 1 ≤ l.length := by omega
    have h3' : ¬ (l.length : Int) < 2 * (n : Int) + 1 := by omega
    have h4 : x ≤ 2305843009213693952 := by omega
    have h5 : -2305843009213693952 ≤ x := by omega
    clear hbig hl
    go_enter Try.func6, Try.ntmps6
    go_wp2_with (go_at_call 17; refine (law7Alive _).mono ?_; rintro e w1 ⟨rfl, hb1⟩; replace hok := hok.trans hb1; clear hb1)
    go_loopw [7, 8, 44] (fun p q i wr => ∃ k : Nat, k ≤ l.length ∧ i = .int .i64 k ∧ p = .int .i64 (((l.take k).countP (isIn x) : Nat) : Int) ∧ q = .int .i64 (wide x (l.take k)) ∧ Ok w wr) (fun _ _ i _ => l.length - (intOf i).toNat)
    case atStart => exact ⟨0, Nat.zero_le _, rfl, rfl, rfl, hok⟩
    case round =>
      obtain ⟨k, hk, rfl, rfl, rfl, hok2⟩ := hrel
      clear hok
      by_cases hlt : k < l.length
      · obtain ⟨b, off, hA2, hb, p0, p1⟩ := hA.below hok2 k hlt
        subst hA2
        have E1 := Lib.hid (count_snoc x hlt)
        have E2 := Lib.hid (wide_snoc x hlt)
        have hc : (l.take k).countP (isIn x) ≤ k := by have := (l.take k).countP_le_length (p := isIn x); rw [List.length_take] at this; omega
        have hwd := (wide_bd x ⟨h5, h4⟩ (l.take k) 0 (by omega)).1
        rw [show (l.take k).foldl (fun m s => if isIn x s = true then max m (min s.2 2305843009213693952 - max s.1 (-2305843009213693952)) else m) 0 = wide x (l.take k) from rfl] at hwd
        have EI : isIn x l[k] = decide (l[k].1 ≤ x ∧ x ≤ l[k].2) := rfl
        rw [EI] at E1 E2
        clear EI
        generalize l[k].1 = lo at p0 E1 E2
        generalize l[k].2 = hi at p1 E1 E2
        generalize (l.take k).countP (isIn x) = cnt at E1 hc ⊢
        generalize wide x (l.take k) = wd at E2 hwd ⊢
        by_cases d1 : lo ≤ x
        · by_cases d2 : x ≤ hi
          · have e1 : (l.take (k + 1)).countP (isIn x) = cnt + 1 := by rw [E1.out, if_pos (decide_eq_true ⟨d1, d2⟩)]
            have e2 : wide x (l.take (k + 1)) = max wd (min hi 2305843009213693952 - max lo (-2305843009213693952)) := by rw [E2.out, if_pos (decide_eq_true ⟨d1, d2⟩)]
            have F1 := Lib.hid e1
            have F2 := Lib.hid e2
            clear e1 e2 E1 E2
            go_wp2_with fail
            all_goals
              go_roundw
              case rel => exact ⟨k + 1, by omega, by go_num, by rw [F1.out]; go_num, by rw [F2.out] <;> go_num, hok2.alloc _⟩
              case measure => simp [intOf]; omega
          · have e1 : (l.take (k + 1)).countP (isIn x) = cnt := by rw [E1.out, if_neg (by simp; omega)]; rfl
            have e2 : wide x (l.take (k + 1)) = wd := by rw [E2.out, if_neg (by simp; omega)]
            have F1 := Lib.hid e1
            have F2 := Lib.hid e2
            clear e1 e2 E1 E2
            go_wp2_with fail
            go_roundw
            case rel => exact ⟨k + 1, by omega, by go_num, by rw [F1.out], by rw [F2.out], hok2.alloc _⟩
            case measure => simp [intOf]; omega
        · have e1 : (l.take (k + 1)).countP (isIn x) = cnt := by rw [E1.out, if_neg (by simp; omega)]; rfl
          have e2 : wide x (l.take (k + 1)) = wd := by rw [E2.out, if_neg (by simp; omega)]
          have F1 := Lib.hid e1
          have F2 := Lib.hid e2
          clear e1 e2 E1 E2
          go_wp2_with fail
          go_roundw
          case rel => exact ⟨k + 1, by omega, by go_num, by rw [F1.out], by rw [F2.out], hok2.alloc _⟩
          case measure => simp [intOf]; omega
      · have ek : l.take k = l := List.take_of_length_le (by omega)
        rw [ek]
        clear ek
        have hwd := (wide_bd x ⟨h5, h4⟩ l 0 (by omega)).1
        rw [show l.foldl (fun m s => if isIn x s = true then max m (min s.2 2305843009213693952 - max s.1 (-2305843009213693952)) else m) 0 = wide x l from rfl] at hwd
        have hcl : l.countP (isIn x) ≤ l.length := List.countP_le_length
        have HF := Lib.hid fun h => fused (f := n) (l := l) (x := x) ⟨h5, h4⟩ h3 h
        have KF := Lib.hid fun w h => trimFuse (n : Int) A l c w h (by omega) (by omega)
        generalize l.countP (isIn x) = cnt at HF hcl ⊢
        generalize wide x l = wd at HF hwd ⊢
        by_cases hr : l.length ≤ cnt + n
        · obtain ⟨g1, ⟨⟨g2, g3⟩, g4, g5⟩, g6⟩ := HF.out hr
          rw [g1] at KF
          generalize (fz (n : Int) l).1 = a at KF g2 g3 g6
          generalize (fz (n : Int) l).2 = b at KF g4 g5 g6
          clear HF g1
          have hr2 : ¬ (n : Int) < (l.length : Int) - (cnt : Int) := by omega
          by_cases hs : cnt < 2 * n + 1
          · have hs2 : (cnt : Int) < 2 * (n : Int) + 1 := by omega
            clear g6
            go_wp2_with (go_at_call 18; refine (KF.out _ (hA.below hok2)).mono ?_; rintro e w2 ⟨rfl, hb1⟩; replace hok2 := hok2.trans hb1; clear hb1)
            go_ret
            exact ⟨rfl, hok2.alloc _⟩
          · have hs2 : ¬ (cnt : Int) < 2 * (n : Int) + 1 := by omega
            have g7 := g6 (by omega)
            clear g6
            go_wp2_with (go_at_call 18; refine (KF.out _ (hA.below hok2)).mono ?_; rintro e w2 ⟨rfl, hb1⟩; replace hok2 := hok2.trans hb1; clear hb1)
            go_ret
            exact ⟨rfl, hok2.alloc _⟩
        · clear HF KF
          have hr2 : (n : Int) < (l.length : Int) - (cnt : Int) := by omega
          go_wp2_with fail
          go_ret
          exact ⟨rfl, hok2⟩
theorem own : ownKnob Try.prog.godebug = none := by kernel_rfl
theorem laidOut : laidOutB Try.prog = true := by kernel_rfl
set_option maxRecDepth 100000 in
theorem lifted (os : Os) (started : os.Started) (H : Type) (enc : TypeId × Value → H) :
    ReturnsInHanded {} Try.checked os 6 .any (Rows.trimHoldsSpec.pre6 enc Try.prog Try.f6 Rows.trimHoldsRow.domain false) (Rows.trimHoldsSpec.post enc Try.prog Try.f6 false true false false) := by
  refine returnsInHanded_of_change (C := Try.checked) own started (by kernel_rfl) Try.func6
    (ChangeSpec.witness6 (enc := enc) (C := Try.checked) false ⟨#[], #[.int .i64 0, .slice none 0 0, .int .i64 0], []⟩ 8 (by kernel_rfl) (by kernel_rfl) (by kernel_rfl) (by kernel_rfl)) ?_
  intro W base args ds gs before hval0 hW _ _
  have hval : ∀ (j : Nat) t v, Try.f6.params[j]? = some t → args[j]? = some v → Value.okWide Try.prog W .any base t v := hval0
  have hW' := hW
  obtain ⟨p, q, hA, hV, rfl, _, _⟩ := hW
  obtain ⟨rfl, rfl⟩ := trodVars_none hV
  replace hA : DataW.TrodAll enc Try.prog W 0 (fun _ => true) true Try.f6.params.toList args.toList ds p := hA
  rw [Try.params6] at hA hval
  obtain ⟨v0, vs0, d0, ds0, p0, q0, hargs, rfl, rfl, h0, r0⟩ := trodAll_cons hA
  obtain ⟨v1, vs1, d1, ds1, p1, q1, rfl, rfl, rfl, h1, r1⟩ := trodAll_cons r0
  obtain ⟨v2, vs2, d2, ds2, p2, q2, rfl, rfl, rfl, h2, r2⟩ := trodAll_cons r1
  obtain ⟨rfl, rfl, rfl⟩ := trodAll_nil r2
  obtain rfl : args = #[v0, v1, v2] := by cases args; simp_all
  obtain ⟨a0, rfl, rfl, rfl, w0⟩ := open_int Try.underlying3 (hval 0 3 v0 rfl rfl) h0
  obtain ⟨A1, l1, c1, rfl, hA1, hl1, hw1⟩ := open_slice_pairs Try.underlying27 Try.underlying30 (by kernel_rfl) (by kernel_rfl) (by kernel_rfl) (by kernel_rfl) (hval 1 27 v1 rfl rfl) h1
  obtain ⟨a2, rfl, rfl, rfl, w2⟩ := open_int Try.underlying3 (hval 2 3 v2 rfl rfl) h2
  refine (walk W a0 w0 A1 l1 c1 hA1 hl1 hw1 a2 w2).mono fun e W' ⟨he, hb⟩ => ?_
  subst he
  exact ⟨_, rfl, law_post hW' laidOut (by rw [Try.params6]; exact params_ok (by kernel_rfl)) rfl (by kernel_rfl) Try.underlying4 rfl rfl rfl hb⟩
theorem over : Rows.trimHoldsRow.holds Try.pinned (OpenSpec.ofChange Rows.trimHoldsSpec) :=
  OpenClaim.holds_of_wide 6 Try.f6 rfl rfl rfl rfl rfl rfl rfl ⟨rfl, rfl, rfl, rfl, rfl⟩ rfl rfl rfl rfl rfl (by kernel_rfl) Try.func6 (by kernel_rfl)
    (of_decide_eq_true (by kernel_rfl)) (by unfold Func.isWrapper; first | (rw [if_pos (by decide +kernel)]; kernel_rfl) | (rw [if_neg (by decide +kernel)]; exact ⟨rfl, rfl⟩))
    (fun os started H enc _ => lifted os started H enc)
theorem proved : Rows.TrimHoldsSaid := over
end Go.Proofs.Ytolaipclndhkkaa.trimHolds
