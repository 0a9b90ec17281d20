/- TrimOrders: for every integer, slice of integers and slice of spans the law answers true: what is picked, fused, and in the middle doesn't hang on the order. No condition. -/
import Derived.Test.YtolaipclndhkkaaC07h
import Derived.Test.YtolaipclndhkkaaW18
import Derived.Test.YtolaipclndhkkaaW19
namespace Go.Proofs.Ytolaipclndhkkaa.trimOrders
open Go.ChangeShapes Go.WideShapes Go.ChangeAt Go.RowKit
set_option linter.unusedVariables false
set_option maxRecDepth 100000

theorem infoSpan : (Try.prog.info? 30).map (fun i => (i.zero, i.size, i.bytes)) = some (some (.agg #[.int .i64 0, .int .i64 0]), 2, 16) := by kernel_rfl
theorem rev_at {α : Type} (l : List α) (j : Nat) (h : j < l.length) : l.reverse.take (j + 1) = l.reverse.take j ++ [l[l.length - 1 - j]] := by
  rw [take_more (by simpa using h), List.getElem_reverse]
theorem rev_to {α : Type} (l : List α) (r : Nat) (h : r < l.length) : l.reverse.take (l.length - r) = l.reverse.take (l.length - (r + 1)) ++ [l[r]] := by
  have := rev_at l (l.length - (r + 1)) (by omega)
  rw [show l.length - (r + 1) + 1 = l.length - r by omega] at this
  rw [this]
  congr 3
  omega
theorem cells_append (l k : List (Int × Int)) : cellsOfPairs (l ++ k) = cellsOfPairs l ++ cellsOfPairs k := by simp [cellsOfPairs]
def RowI (B : Nat) (w : World) (v : Value) (l : List Int) : Prop := w.ownsRow B 3 1 v l.length (l.map (Value.int .i64))
def RowP (B : Nat) (w : World) (v : Value) (l : List (Int × Int)) : Prop := w.ownsRow B 30 2 v l.length (cellsOfPairs l)
theorem turned (f : Int) (l : List Int) : Trim.val f l.reverse = Trim.val f l ∧ Trim.is f l.reverse.length = Trim.is f l.length ∧ Trim.mid f l.reverse Sat.clip = Trim.mid f l Sat.clip ∧ Trim.many f l.reverse.length = Trim.many f l.length := by
  have hp : l.reverse.Perm l := List.reverse_perm l
  refine ⟨Trim.val_perm hp, by rw [List.length_reverse], ?_, by rw [List.length_reverse]⟩
  unfold Trim.mid
  rw [List.length_reverse, Trim.val_perm hp, Trim.val_perm hp]
theorem turnedP (f : Int) (l : List (Int × Int)) : fz f l.reverse = fz f l ∧ fLeft f l.reverse = fLeft f l := by
  have e1 : fLo f l.reverse = fLo f l := by unfold fLo; rw [List.length_reverse, List.map_reverse, Trim.val_perm (List.reverse_perm _)]
  have e2 : fHi f l.reverse = fHi f l := by unfold fHi; rw [List.map_reverse, Trim.val_perm (List.reverse_perm _)]
  have e3 : fLeft f l.reverse = fLeft f l := by unfold fLeft; rw [List.length_reverse, e1, e2]
  refine ⟨?_, e3⟩
  unfold fz
  rw [e1, e2, e3]
set_option maxHeartbeats 6400000 in
theorem walk (w : World) (f : Int) (wf : (Lit.int .i64 f).wf = true) (A : Option Addr) (l : List Int) (c : Nat) (hA : IntsAt w A l) (hl : l.length ≤ 9223372036854775807) (hw : ∀ x ∈ l, (Lit.int .i64 x).wf = true) (B : Option Addr) (p : List (Int × Int)) (c2 : Nat) (hB : PairsAt w B p) (hl2 : p.length ≤ 9223372036854775807) (hw2 : ∀ s ∈ p, (Lit.int .i64 s.1).wf = true ∧ (Lit.int .i64 s.2).wf = true) :
    Calls Try.prog 10 #[.int .i64 f, .slice A l.length c, .slice B p.length c2] w fun e w' => e = .returned (.bool true) ∧ Below w.heap.size w w' := by
  clear hw hw2
  have hok := Ok.refl w
  by_cases hbig : 256 < l.length ∨ 256 < p.length
  · clear wf
    go_enter Try.func10, Try.ntmps10
    go_wp2_with (go_at_call 17; refine (law7Alive _).mono ?_; rintro e w1 ⟨rfl, hb1⟩; replace hok := hok.trans hb1; clear hb1)
    all_goals first
      | (exfalso; omega)
      | (go_ret; exact ⟨rfl, hok⟩)
  · have hf := wf_bd wf
    have h1 : l.length ≤ 256 := by omega
    have h2 : p.length ≤ 256 := by omega
    obtain ⟨t1, t2, t3, t4⟩ := turned f l
    obtain ⟨t5, t6⟩ := turnedP f p
    have KL := Lib.hid fun w h => trimLeast f A l c w h (by omega)
    have KM := Lib.hid fun w h => trimMiddle f A l c w h (by omega) hf
    have KF := Lib.hid fun w h => trimFuse f B p c2 w h (by omega) hf
    have RL := Lib.hid fun B c w h => trimLeast f B l.reverse c w h (by simp; omega)
    have RM := Lib.hid fun B c w h => trimMiddle f B l.reverse c w h (by simp; omega) hf
    have RF := Lib.hid fun B c w h => trimFuse f B p.reverse c w h (by simp; omega) hf
    rw [t1, t2] at RL
    rw [t3, t4] at RM
    rw [t5, t6] at RF
    rw [List.length_reverse] at RL RM RF
    clear t1 t2 t3 t4 t5 t6 wf hf hbig hl hl2
    generalize Trim.val f l = v1 at KL RL
    generalize Trim.is f l.length = q1 at KL RL
    generalize Trim.mid f l Sat.clip = v2 at KM RM
    generalize Trim.many f l.length = q2 at KM RM
    generalize (fz f p).1 = v3 at KF RF
    generalize (fz f p).2 = v4 at KF RF
    generalize fLeft f p = q3 at KF RF
    go_enter Try.func10, Try.ntmps10
    go_wp2_with (go_at_call 17; refine (law7Alive _).mono ?_; rintro e w1 ⟨rfl, hb1⟩; replace hok := hok.trans hb1; clear hb1)
    go_loopw [7, 8] (fun v i wr => ∃ r : Nat, r ≤ l.length ∧ i = .int .i64 ((r : Int) - 1) ∧ RowI w.heap.size wr v (l.reverse.take (l.length - r)) ∧ Ok w wr) (fun _ i _ => (intOf i + 1).toNat)
    case atStart => exact ⟨l.length, Nat.le_refl _, rfl, by rw [Nat.sub_self]; exact World.ownsRow_nil _ _ _ _, hok⟩
    case round =>
      obtain ⟨r, hr, rfl, hown, hok2⟩ := hrel
      clear hok
      have hsz := hok2.size
      cases r with
      | succ r =>
        have ei : (((r + 1 : Nat) : Int) - 1) = (r : Int) := by omega
        rw [ei]
        clear ei
        have hlt : r < l.length := by omega
        obtain ⟨b, off, hA2, hb, p0⟩ := (hA.below hok2) r hlt
        subst hA2
        have T := Lib.hid (rev_to l r hlt)
        have L := Lib.hid (show (l.reverse.take (l.length - (r + 1))).length = l.length - (r + 1) by simp <;> omega)
        generalize l[r] = y at p0 T
        generalize l.reverse.take (l.length - (r + 1)) = la at T L hown
        go_wp2_with (at_builtin; refine wpList_append_ints rfl _ _ 22 rfl w.heap.size 3 Try.underlying22 infoInt _ la la.length rfl rfl (World.ownsRow.alloc hown _) (some ⟨wr.heap.size, 0, none⟩) [y] 1 1 rfl rfl (ints_new _ [y] _ _ rfl rfl) (by rw [L.out]; simp; omega) (by simp; omega) ?_; intro v' w2 hown2 hgrow)
        have hb1 : Ok w w2 := Below.grown (hok2.alloc _) hgrow (by simp; omega) (fun g hg => (World.ownsRow.lt hown g hg).1)
        rw [← T.out] at hown2
        clear hown hgrow hok2 hsz
        go_wp2
        go_roundw
        case rel => exact ⟨r, by omega, by go_num, hown2, hb1⟩
        case measure => simp [intOf]
      | zero =>
        rw [Nat.sub_zero, show l.reverse.take l.length = l.reverse from List.take_of_length_le (by simp)] at hown
        obtain ⟨A2, c3, hv, hI⟩ := IntsAt.of_own hown
        subst hv
        rw [List.length_reverse]
        generalize l.reverse = lr at hI RL RM
        clear hown
        go_wp2
        obtain ⟨W2, rfl⟩ : ∃ W2, W2 = wr := ⟨_, rfl⟩
        go_loopw [9, 10] (fun v i wx => ∃ r : Nat, r ≤ p.length ∧ i = .int .i64 ((r : Int) - 1) ∧ RowP W2.heap.size wx v (p.reverse.take (p.length - r)) ∧ Ok W2 wx) (fun _ i _ => (intOf i + 1).toNat)
        case atStart => exact ⟨p.length, Nat.le_refl _, rfl, by rw [Nat.sub_self]; exact World.ownsRow_nil _ _ _ _, Ok.refl _⟩
        case round =>
          obtain ⟨r, hr2, rfl, hown, hok3⟩ := hrel
          have hsz2 := hok3.size
          cases r with
          | succ r =>
            have ei : (((r + 1 : Nat) : Int) - 1) = (r : Int) := by omega
            rw [ei]
            clear ei
            have hlt : r < p.length := by omega
            obtain ⟨b, off, hA2, hb, p0, p1⟩ := (hB.below (hok2.trans hok3)) r hlt
            subst hA2
            have T := Lib.hid (rev_to p r hlt)
            have L := Lib.hid (show (p.reverse.take (p.length - (r + 1))).length = p.length - (r + 1) by simp <;> omega)
            obtain ⟨i0, hi, hz0, hz1, hz2⟩ := info_parts infoSpan
            have hM := Lib.hid hi
            have hM0 := Lib.hid hz0
            have hM1 := Lib.hid hz1
            have hM2 := Lib.hid hz2
            clear hi hz0 hz1 hz2
            generalize p[r] = s at p0 p1 T
            generalize p.reverse.take (p.length - (r + 1)) = la at T L hown
            go_wp2_with (at_builtin; refine wpList_append_own _ rfl _ _ 27 rfl W2.heap.size 30 i0 (.agg #[.int .i64 0, .int .i64 0]) 2 16 Try.underlying27 hM.out hM0.out hM1.out hM2.out rfl (by decide) _ _ _ rfl (World.ownsRow.alloc hown _) ⟨wr.heap.size, 0, none⟩ 1 1 [.int .i64 s.1, .int .i64 s.2] rfl rfl ?c1 ?c2 ?c3 ?c4 ?c5 ?_)
            case c1 =>
              intro j u hj
              match j, hj with
              | 0, hj => simp at hj; subst hj; simp [Addr.add]
              | 1, hj => simp at hj; subst hj; simp [Addr.add]
            case c2 => intro u hu; simp at hu; rcases hu with rfl | rfl <;> rfl
            case c3 => rw [L.out]; unfold maxLen; omega
            case c4 => rw [L.out]; omega
            case c5 => simp; omega
            intro v' w2 hown' hgrow _
            have hb1 : Ok W2 w2 := Below.grown (hok3.alloc _) hgrow (by simp; omega) (fun g hg => (World.ownsRow.lt hown g hg).1)
            have hown2 : RowP W2.heap.size w2 v' (p.reverse.take (p.length - r)) := by
              unfold RowP
              rw [T.out, cells_append, List.length_append]
              exact hown'
            clear hown' hgrow hown hok3 hsz2
            go_wp2
            go_roundw
            case rel => exact ⟨_, _, _, _, _, _, _, _, _, _, _, _, _, ⟨r, by omega, by go_num, hown2, hb1⟩, rfl⟩
            case measure => simp [intOf]
          | zero =>
            rw [Nat.sub_zero, show p.reverse.take p.length = p.reverse from List.take_of_length_le (by simp)] at hown
            obtain ⟨B2, c4, hv, hP⟩ := PairsAt.of_own hown
            subst hv
            rw [List.length_reverse]
            generalize p.reverse = pr at hP RF
            replace hI := hI.below hok3
            replace hok2 := hok2.trans hok3
            clear hown hok3 hsz hsz2 hr hr2
            go_wp2_with (first
              | (go_at_call 13; refine (KM.out _ (hA.below hok2)).mono ?_; rintro e w5 ⟨rfl, hb1⟩; replace hok2 := hok2.trans hb1; replace hI := hI.below hb1; replace hP := hP.below hb1; clear hb1 KM)
              | (go_at_call 13; refine (RM.out _ _ _ hI).mono ?_; rintro e w6 ⟨rfl, hb1⟩; replace hok2 := hok2.trans hb1; replace hI := hI.below hb1; replace hP := hP.below hb1; clear hb1)
              | (go_at_call 11; refine (KL.out _ (hA.below hok2)).mono ?_; rintro e w7 ⟨rfl, hb1⟩; replace hok2 := hok2.trans hb1; replace hI := hI.below hb1; replace hP := hP.below hb1; clear hb1 KL)
              | (go_at_call 11; refine (RL.out _ _ _ hI).mono ?_; rintro e w8 ⟨rfl, hb1⟩; replace hok2 := hok2.trans hb1; replace hI := hI.below hb1; replace hP := hP.below hb1; clear hb1)
              | (go_at_call 18; refine (KF.out _ (hB.below hok2)).mono ?_; rintro e w9 ⟨rfl, hb1⟩; replace hok2 := (hok2.trans hb1).alloc (.cells #[.int .i64 v3, .int .i64 v4] 30); replace hP := (hP.below hb1).alloc (.cells #[.int .i64 v3, .int .i64 v4] 30); clear hb1 KF)
              | (go_at_call 18; refine (RF.out _ _ _ hP).mono ?_; rintro e w10 ⟨rfl, hb1⟩; obtain ⟨s0, s1, s2⟩ := (Box.new w9 v3 v4 30 rfl).next hb1; replace hok2 := hok2.trans hb1; clear hb1))
            go_ret
            exact ⟨rfl, hok2.alloc _⟩
theorem own : ownKnob Try.prog.godebug = none := by kernel_rfl
theorem laidOut : laidOutB Try.prog = true := by kernel_rfl
set_option maxRecDepth 100000 in
theorem lifted (os : Os) (started : os.Started) (H : Type) (enc : TypeId × Value → H) :
    ReturnsInHanded {} Try.checked os 10 .any (Rows.trimOrdersSpec.pre6 enc Try.prog Try.f10 Rows.trimOrdersRow.domain false) (Rows.trimOrdersSpec.post enc Try.prog Try.f10 false true false false) := by
  refine returnsInHanded_of_change (C := Try.checked) own started (by kernel_rfl) Try.func10
    (ChangeSpec.witness6 (enc := enc) (C := Try.checked) false ⟨#[], #[.int .i64 0, .slice none 0 0, .slice none 0 0], []⟩ 8 (by kernel_rfl) (by kernel_rfl) (by kernel_rfl) (by kernel_rfl)) ?_
  intro W base args ds gs before hval0 hW _ _
  have hval : ∀ (j : Nat) t v, Try.f10.params[j]? = some t → args[j]? = some v → Value.okWide Try.prog W .any base t v := hval0
  have hW' := hW
  obtain ⟨p, q, hA, hV, rfl, _, _⟩ := hW
  obtain ⟨rfl, rfl⟩ := trodVars_none hV
  replace hA : DataW.TrodAll enc Try.prog W 0 (fun _ => true) true Try.f10.params.toList args.toList ds p := hA
  rw [Try.params10] at hA hval
  obtain ⟨v0, vs0, d0, ds0, p0, q0, hargs, rfl, rfl, h0, r0⟩ := trodAll_cons hA
  obtain ⟨v1, vs1, d1, ds1, p1, q1, rfl, rfl, rfl, h1, r1⟩ := trodAll_cons r0
  obtain ⟨v2, vs2, d2, ds2, p2, q2, rfl, rfl, rfl, h2, r2⟩ := trodAll_cons r1
  obtain ⟨rfl, rfl, rfl⟩ := trodAll_nil r2
  obtain rfl : args = #[v0, v1, v2] := by cases args; simp_all
  obtain ⟨a0, rfl, rfl, rfl, w0⟩ := open_int Try.underlying3 (hval 0 3 v0 rfl rfl) h0
  obtain ⟨A1, l1, c1, rfl, hA1, hl1, hw1⟩ := open_sliceK Try.underlying22 Try.underlying3 (by kernel_rfl) (hval 1 22 v1 rfl rfl) h1
  obtain ⟨A2, l2, c2, rfl, hA2, hl2, hw2⟩ := open_slice_pairs Try.underlying27 Try.underlying30 (by kernel_rfl) (by kernel_rfl) (by kernel_rfl) (by kernel_rfl) (hval 2 27 v2 rfl rfl) h2
  refine (walk W a0 w0 A1 l1 c1 hA1 hl1 hw1 A2 l2 c2 hA2 hl2 hw2).mono fun e W' ⟨he, hb⟩ => ?_
  subst he
  exact ⟨_, rfl, law_post hW' laidOut (by rw [Try.params10]; exact params_ok (by kernel_rfl)) rfl (by kernel_rfl) Try.underlying4 rfl rfl rfl hb⟩
theorem over : Rows.trimOrdersRow.holds Try.pinned (OpenSpec.ofChange Rows.trimOrdersSpec) :=
  OpenClaim.holds_of_wide 10 Try.f10 rfl rfl rfl rfl rfl rfl rfl ⟨rfl, rfl, rfl, rfl, rfl⟩ rfl rfl rfl rfl rfl (by kernel_rfl) Try.func10 (by kernel_rfl)
    (of_decide_eq_true (by kernel_rfl)) (by unfold Func.isWrapper; first | (rw [if_pos (by decide +kernel)]; kernel_rfl) | (rw [if_neg (by decide +kernel)]; exact ⟨rfl, rfl⟩))
    (fun os started H enc _ => lifted os started H enc)
theorem proved : Rows.TrimOrdersSaid := over
end Go.Proofs.Ytolaipclndhkkaa.trimOrders
