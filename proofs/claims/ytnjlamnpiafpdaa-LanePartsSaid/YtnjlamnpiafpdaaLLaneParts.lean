/- LaneParts: for every script of calls and integer the law answers true: what is done to one neighbour's lane changes no other one's. No condition. -/
import Derived.Test.YtnjlamnpiafpdaaC08k
import Derived.Test.YtnjlamnpiafpdaaC08l
import Derived.Test.YtnjlamnpiafpdaaM20
import Derived.Laws.StructEq
namespace Go.Proofs.Ytnjlamnpiafpdaa.laneParts
open Go.ChangeShapes Go.WideShapes Go.ChangeAt Go.RowKit
set_option linter.unusedVariables false
set_option maxRecDepth 100000
theorem eqItem (s : ByteArray) (a : Int) (w : World) : (Op.equalIn 10000 36 (.agg #[.string s, .int .i64 a]) (.agg #[.string s, .int .i64 a])).run Try.prog w = .ok true w := by
  have u3 := Try.underlying3
  have ag := Try.isAgg3
  have z3 := Try.sizeOf3
  have u9 := Try.underlying9
  have ag9 := Try.isAgg9
  have z9 := Try.sizeOf9
  have hS : Try.prog.underlying 36 = some (.struct (Try.prog.fieldsOf 36)) := by kernel_rfl
  have hp : Try.prog.stoodInHeld 36 = false := by kernel_rfl
  rw [show (10000 : Nat) = 9999 + 1 from rfl, run_equalIn_struct w 9999 36 _ _ hS hp]
  simp only [Program.fieldsOf, Try.underlying36]
  go_simp
theorem push_same {L O : List It} {who : Int} (h : Lane.row L who = Lane.row O who) (s : ByteArray) : Lane.row (Lane.pushL L who s) who = Lane.row (Lane.pushL O who s) who := by
  by_cases hc : (0 ≤ who ∧ who < 48) ∧ s.size ≤ 4096
  · rw [Lane.push_row L hc.1 hc.2, Lane.push_row O hc.1 hc.2, if_pos rfl, if_pos rfl, h]
  · unfold Lane.pushL
    rw [if_neg hc, if_neg hc, h]
/-- The two of them: in the row of one waits the same. -/
def PartsAt (g r : Nat) (who : Int) (w wr : World) : Prop :=
  Ok w wr ∧ w.heap.size ≤ g ∧ w.heap.size ≤ r ∧ g ≠ r ∧ ∃ L O, LaneL wr g L ∧ LaneL wr r O ∧ Lane.Good 0 L ∧ Lane.Good 0 O ∧ Lane.row L who = Lane.row O who
theorem PartsAt.next {g r : Nat} {who : Int} {w wr w1 : World} (h : PartsAt g r who w wr) (k : Ok wr w1) : PartsAt g r who w w1 := by
  obtain ⟨h1, h2, h3, h4, L, O, h5, h6, h7⟩ := h
  exact ⟨h1.trans k, h2, h3, h4, L, O, h5.next k, h6.next k, h7⟩
theorem lanesPopAny (g : Nat) (L : List It) (who N : Int) (w : World) (hL : LaneL w g L) (hG : Lane.Good N L) :
    Calls Try.prog 12 #[.pointer (some ⟨g, 0, none⟩), .int .i64 who] w fun e w' => ∃ a b c, e = .returned (.tuple #[.agg #[a, b], c]) ∧ Only g w w' ∧ LaneL w' g (Lane.drop who L) := by
  cases h : Lane.row L who with
  | nil => exact (lanesPopNone g L who N w hL hG h).mono fun e w' ⟨h1, h2⟩ => ⟨_, _, _, h1, h2⟩
  | cons x t => exact (lanesPopSome g L who N x t w hL hG h).mono fun e w' ⟨h1, h2⟩ => ⟨_, _, _, h1, h2⟩
set_option maxHeartbeats 4000000 in
theorem walk (w : World) (A : Option Addr) (l : List Cal) (c : Nat) (hA : CellsAt w A (l.flatMap calcells)) (hl : l.length ≤ 9223372036854775807) (hw : ∀ x ∈ l, calok x) (who : Int) (wn : (Lit.int .i64 who).wf = true) :
    Calls Try.prog 6 #[.slice A l.length c, .int .i64 who] w fun e w' => e = .returned (.bool true) ∧ Below w.heap.size w w' := by
  have HC := Lib.hid hA
  have HW := Lib.hid hw
  clear wn hA hw
  go_enter Try.func6, Try.ntmps6
  go_wp2_with (go_at_call 7; (with_reducible refine (laneAlive _).mono ?_); rintro e w1 ⟨rfl, hok1⟩)
  refine (laneGreat A l c _ (HC.out.below hok1) hl).mono ?_
  rintro e w2 ⟨b, rfl, hb, hok2⟩
  have hok : Ok w w2 := hok1.trans hok2
  clear hok1 hok2
  cases b with
  | true =>
    clear hb
    go_wp2_with fail
    go_ret
    exact ⟨rfl, hok⟩
  | false =>
    replace hb := hb rfl
    go_wp2_with fail
    refine (laneNew _).mono ?_
    rintro e w3 ⟨rfl, hk3, hL3⟩
    have hL3' : LaneL w3 w2.heap.size [] := hL3
    have HL3 := Lib.hid hL3'
    have hok3 : Ok w w3 := hok.trans hk3
    have hs2 : w.heap.size ≤ w2.heap.size := hok.size
    have hlt3 : w2.heap.size < w3.heap.size := hL3'.lt
    clear hok hk3 hL3 hL3'
    go_wp2_with fail
    refine (laneNew _).mono ?_
    rintro e w4 ⟨rfl, hk4, hL4⟩
    have hL4' : LaneL w4 w3.heap.size [] := hL4
    have H0 : Hid (PartsAt w2.heap.size w3.heap.size who w w4) := Lib.hid ⟨hok3.trans hk4, hs2, by omega, by omega, [], [], HL3.out.next hk4, hL4', Lane.Good.nil 0, Lane.Good.nil 0, rfl⟩
    clear hok3 hk4 hL4 hL4' HL3
    generalize w2.heap.size = g at H0 hs2 hlt3 ⊢
    generalize w3.heap.size = r at H0 hlt3 ⊢
    clear hs2 hlt3
    go_wp2_with fail
    go_loopw [22] (fun i wr => ∃ k : Nat, k ≤ l.length ∧ i = .int .i64 k ∧ Hid (PartsAt g r who w wr)) (fun i _ => l.length - (intOf i).toNat)
    case atStart => exact ⟨0, Nat.zero_le _, rfl, H0⟩
    case round =>
      obtain ⟨k, hk, rfl, hrel⟩ := hrel
      clear H0
      by_cases hlt : k < l.length
      · obtain ⟨hok1, hg, hr, hgr, L, O, hL, hO, hGL, hGO, hrow⟩ := hrel.out
        obtain ⟨b, off, hAe, hb1, hc⟩ := (HC.out.below hok1).at callen (by decide) k hlt
        subst hAe
        have hcal := HW.out _ (List.getElem_mem hlt)
        obtain ⟨x, hx⟩ : ∃ x, l[k] = x := ⟨_, rfl⟩
        rw [hx] at hc hcal
        have c0 := hc 0 _ rfl
        have c1 := hc 1 _ rfl
        have c2 := hc 2 _ rfl
        have c3 := hc 3 _ rfl
        obtain ⟨xk, xa, xb, xs⟩ := x
        simp only [calkinds, List.length_cons, List.length_nil, Nat.zero_add, Nat.reduceAdd, Nat.add_zero] at c0 c1 c2 c3
        have hs : xs.size ≤ 9223372036854775807 := by have := hcal.2.2.2; unfold maxLen at this; exact this
        have hok2 : Ok wr (wr.alloc (.cells (calcells ⟨xk, xa, xb, xs⟩).toArray 32)) := (Ok.refl _).alloc _
        have HX := Lib.hid (And.intro hok1 (And.intro hg (And.intro hr hgr)))
        have HG := Lib.hid (And.intro hGL (And.intro hGO hrow))
        have HL := Lib.hid hL
        have HO := Lib.hid hO
        have HS := Lib.hid hrel.out
        clear hc hx hcal hok1 hg hr hgr hL hO hGL hGO hrow hrel hb1 hok2
        by_cases h0 : xk = 0
        · subst h0
          by_cases he : xa = who
          · subst he
            go_wp2_with (first
              | (go_at_call 10; (with_reducible refine (lanesPush g L xa xs _ (HL.out.next ((Ok.refl _).alloc _)) hs).mono ?_); rintro e w5 ⟨rfl, hB, hL5⟩; have HB5 := Lib.hid hB; have HL5 := Lib.hid hL5; have d0 := hB.cell (p := ⟨wr.heap.size, 0, none⟩) (by simp) (by have := HL.out.lt; simp; omega); have d1 := hB.cell (p := ⟨wr.heap.size, 1, none⟩) (by simp) (by have := HL.out.lt; simp; omega); have d3 := hB.cell (p := ⟨wr.heap.size, 3, none⟩) (by simp) (by have := HL.out.lt; simp; omega); have tok1 : True := trivial; clear hB hL5)
              | (go_at_call 10; have _t := tok1; (with_reducible refine (lanesPush r O xa xs _ ((HO.out.next ((Ok.refl _).alloc _)).only HB5.out (Ne.symm HX.out.2.2.2)) hs).mono ?_); rintro e w6 ⟨rfl, hB, hL6⟩; have HN : Hid (PartsAt g r xa w w6) := Lib.hid ⟨Only.then_ok (Only.then_ok (HX.out.1.alloc _) HB5.out HX.out.2.1) hB HX.out.2.2.1, HX.out.2.1, HX.out.2.2.1, HX.out.2.2.2, _, _, HL5.out.only hB HX.out.2.2.2, hL6, HG.out.1.push (Int.le_refl 0) _ _, HG.out.2.1.push (Int.le_refl 0) _ _, push_same HG.out.2.2 xs⟩; clear hB hL6))
            go_roundw
            case rel => exact ⟨k + 1, by omega, by go_num, HN⟩
            case measure => simp [intOf]; omega
          · have hd : (xa == who) = false := by rw [beq_eq_false_iff_ne]; exact he
            have HE := Lib.hid he
            clear he
            go_wp2_with (go_at_call 10; (with_reducible refine (lanesPush g L xa xs _ (HL.out.next ((Ok.refl _).alloc _)) hs).mono ?_); rintro e w5 ⟨rfl, hB, hL5⟩; have d0 := hB.cell (p := ⟨wr.heap.size, 0, none⟩) (by simp) (by have := HL.out.lt; simp; omega); have d1 := hB.cell (p := ⟨wr.heap.size, 1, none⟩) (by simp) (by have := HL.out.lt; simp; omega); have d3 := hB.cell (p := ⟨wr.heap.size, 3, none⟩) (by simp) (by have := HL.out.lt; simp; omega); have HN : Hid (PartsAt g r who w w5) := Lib.hid ⟨Only.then_ok (HX.out.1.alloc _) hB HX.out.2.1, HX.out.2.1, HX.out.2.2.1, HX.out.2.2.2, _, _, hL5, (HO.out.next ((Ok.refl _).alloc _)).only hB (Ne.symm HX.out.2.2.2), HG.out.1.push (Int.le_refl 0) _ _, HG.out.2.1, by rw [Lane.push_other _ (Ne.symm HE.out)]; exact HG.out.2.2⟩; clear hB hL5)
            go_roundw
            case rel => exact ⟨k + 1, by omega, by go_num, HN⟩
            case measure => simp [intOf]; omega
        · have hd0 : (xk == 0) = false := by rw [beq_eq_false_iff_ne]; exact h0
          have HN0 : ∀ o, Hid (PartsAt g r who w (wr.alloc o)) := fun o => Lib.hid ⟨HX.out.1.alloc _, HX.out.2.1, HX.out.2.2.1, HX.out.2.2.2, _, _, HL.out.next ((Ok.refl _).alloc _), HO.out.next ((Ok.refl _).alloc _), HG.out.1, HG.out.2.1, HG.out.2.2⟩
          have HNN := Lib.hid HN0
          clear h0 HN0
          by_cases he : xa = who
          · subst he
            go_wp2_with fail
            go_roundw
            case rel => exact ⟨k + 1, by omega, by go_num, HNN.out _⟩
            case measure => simp [intOf]; omega
          · have hd : (xa == who) = false := by rw [beq_eq_false_iff_ne]; exact he
            have hd' : (xa != who) = true := by rw [bne, hd]; rfl
            have HE := Lib.hid he
            clear he
            by_cases h1 : xk = 1
            · subst h1
              go_wp2_with (go_at_call 12; (with_reducible refine (lanesPopAny g L xa 0 _ (HL.out.next ((Ok.refl _).alloc _)) HG.out.1).mono ?_); rintro e w5 ⟨p1, p2, p3, rfl, hB, hL5⟩; have d0 := hB.cell (p := ⟨wr.heap.size, 0, none⟩) (by simp) (by have := HL.out.lt; simp; omega); have d1 := hB.cell (p := ⟨wr.heap.size, 1, none⟩) (by simp) (by have := HL.out.lt; simp; omega); have d3 := hB.cell (p := ⟨wr.heap.size, 3, none⟩) (by simp) (by have := HL.out.lt; simp; omega); have HN : Hid (PartsAt g r who w w5) := Lib.hid ⟨Only.then_ok (HX.out.1.alloc _) hB HX.out.2.1, HX.out.2.1, HX.out.2.2.1, HX.out.2.2.2, _, _, hL5, (HO.out.next ((Ok.refl _).alloc _)).only hB (Ne.symm HX.out.2.2.2), HG.out.1.drop xa, HG.out.2.1, by rw [Lane.row_drop, if_neg (Ne.symm HE.out)]; exact HG.out.2.2⟩; clear hB hL5)
              go_roundw
              case rel => exact ⟨k + 1, by omega, by go_num, HN⟩
              case measure => simp [intOf]; omega
            · have hd1 : (xk == 1) = false := by rw [beq_eq_false_iff_ne]; exact h1
              clear h1
              by_cases h3 : xk = 3
              · subst h3
                go_wp2_with (go_at_call 16; (with_reducible refine (lanesClear g L xa 0 _ (HL.out.next ((Ok.refl _).alloc _)) HG.out.1).mono ?_); rintro e w5 ⟨rfl, hB, hL5⟩; have d0 := hB.cell (p := ⟨wr.heap.size, 0, none⟩) (by simp) (by have := HL.out.lt; simp; omega); have d1 := hB.cell (p := ⟨wr.heap.size, 1, none⟩) (by simp) (by have := HL.out.lt; simp; omega); have d3 := hB.cell (p := ⟨wr.heap.size, 3, none⟩) (by simp) (by have := HL.out.lt; simp; omega); have HN : Hid (PartsAt g r who w w5) := Lib.hid ⟨Only.then_ok (HX.out.1.alloc _) hB HX.out.2.1, HX.out.2.1, HX.out.2.2.1, HX.out.2.2.2, _, _, hL5, (HO.out.next ((Ok.refl _).alloc _)).only hB (Ne.symm HX.out.2.2.2), HG.out.1.clear xa, HG.out.2.1, by rw [Lane.row_clear, if_neg (Ne.symm HE.out)]; exact HG.out.2.2⟩; clear hB hL5)
                go_roundw
                case rel => exact ⟨k + 1, by omega, by go_num, HN⟩
                case measure => simp [intOf]; omega
              · have hd3 : (xk == 3) = false := by rw [beq_eq_false_iff_ne]; exact h3
                clear h3
                go_wp2_with fail
                go_roundw
                case rel => exact ⟨k + 1, by omega, by go_num, HNN.out _⟩
                case measure => simp [intOf]; omega
      · have HP := Lib.hid hrel.out
        clear hrel
        go_wp2_with fail
        go_loopw [9] (fun i wr => ∃ k : Nat, k ≤ 65 ∧ i = .int .i64 k ∧ Hid (PartsAt g r who w wr)) (fun i _ => 65 - (intOf i).toNat)
        case atStart => exact ⟨0, Nat.zero_le _, rfl, HP⟩
        case round =>
          obtain ⟨k, hk, rfl, hrel⟩ := hrel
          clear HP
          obtain ⟨hok1, hg, hr, hgr, L, O, hL, hO, hGL, hGO, hrow⟩ := hrel.out
          have HX := Lib.hid (And.intro hok1 (And.intro hg (And.intro hr hgr)))
          have HG := Lib.hid (And.intro hGL (And.intro hGO hrow))
          have HL := Lib.hid hL
          have HO := Lib.hid hO
          have HR : Hid (Lane.row (Lane.drop who L) who = Lane.row (Lane.drop who O) who) := Lib.hid (by rw [Lane.row_drop, Lane.row_drop, if_pos rfl, if_pos rfl, hrow])
          clear hok1 hg hr hgr hL hO hGL hGO hrow hrel
          by_cases hlt : k < 65
          · cases hx : Lane.row L who with
            | nil =>
              have HL0 := Lib.hid hx
              have HO0 : Hid (Lane.row O who = []) := Lib.hid (by rw [← HG.out.2.2]; exact hx)
              have hq := eqItem ⟨#[]⟩ 0
              clear hx
              go_wp2_with (first
                | (go_at_call 12; (with_reducible refine (lanesPopNone g L who 0 _ HL.out HG.out.1 HL0.out).mono ?_); rintro e w5 ⟨rfl, hB, hL5⟩; have HB5 := Lib.hid hB; have HL5 := Lib.hid hL5; have tok1 : True := trivial; clear hB hL5)
                | (go_at_call 12; have _t := tok1; (with_reducible refine (lanesPopNone r O who 0 _ ((HO.out.only HB5.out (Ne.symm HX.out.2.2.2)).next ((Ok.refl _).alloc _)) HG.out.2.1 HO0.out).mono ?_); rintro e w6 ⟨rfl, hB, hL6⟩; have hx5 : Own w6 w5.heap.size #[.string ⟨#[]⟩, .int .i64 0] := hB.own (Own.new w5 _ 36 rfl) (by have := HO.out.lt; have := HB5.out.size; omega); have x0 := hx5.cell 0 (v := .string ⟨#[]⟩) rfl; have x1 := hx5.cell 1 (v := .int .i64 0) rfl; have hl5 := hx5.lt; have HN : Hid (PartsAt g r who w w6) := Lib.hid ⟨Only.then_ok ((Only.then_ok HX.out.1 HB5.out HX.out.2.1).alloc _) hB HX.out.2.2.1, HX.out.2.1, HX.out.2.2.1, HX.out.2.2.2, _, _, (HL5.out.next ((Ok.refl _).alloc _)).only hB HX.out.2.2.2, hL6, HG.out.1.drop who, HG.out.2.1.drop who, HR.out⟩; clear hB hL6 hx5))
              go_roundw
              case rel => exact ⟨k + 1, by omega, by go_num, Lib.hid (HN.out.next ((Ok.refl _).alloc _))⟩
              case measure => simp [intOf]; omega
            | cons x t =>
              obtain ⟨xs, xa⟩ := x
              have HL0 := Lib.hid hx
              have HO0 : Hid (Lane.row O who = (xs, xa) :: t) := Lib.hid (by rw [← HG.out.2.2]; exact hx)
              have hq := eqItem xs xa
              clear hx
              go_wp2_with (first
                | (go_at_call 12; (with_reducible refine (lanesPopSome g L who 0 (xs, xa) t _ HL.out HG.out.1 HL0.out).mono ?_); rintro e w5 ⟨rfl, hB, hL5⟩; have HB5 := Lib.hid hB; have HL5 := Lib.hid hL5; have tok1 : True := trivial; clear hB hL5)
                | (go_at_call 12; have _t := tok1; (with_reducible refine (lanesPopSome r O who 0 (xs, xa) t _ ((HO.out.only HB5.out (Ne.symm HX.out.2.2.2)).next ((Ok.refl _).alloc _)) HG.out.2.1 HO0.out).mono ?_); rintro e w6 ⟨rfl, hB, hL6⟩; have hx5 : Own w6 w5.heap.size #[.string xs, .int .i64 xa] := hB.own (Own.new w5 _ 36 rfl) (by have := HO.out.lt; have := HB5.out.size; omega); have x0 := hx5.cell 0 (v := .string xs) rfl; have x1 := hx5.cell 1 (v := .int .i64 xa) rfl; have hl5 := hx5.lt; have HN : Hid (PartsAt g r who w w6) := Lib.hid ⟨Only.then_ok ((Only.then_ok HX.out.1 HB5.out HX.out.2.1).alloc _) hB HX.out.2.2.1, HX.out.2.1, HX.out.2.2.1, HX.out.2.2.2, _, _, (HL5.out.next ((Ok.refl _).alloc _)).only hB HX.out.2.2.2, hL6, HG.out.1.drop who, HG.out.2.1.drop who, HR.out⟩; clear hB hL6 hx5))
              go_roundw
              case rel => exact ⟨k + 1, by omega, by go_num, Lib.hid (HN.out.next ((Ok.refl _).alloc _))⟩
              case measure => simp [intOf]; omega
          · go_wp2_with fail
            go_ret
            exact ⟨rfl, HX.out.1⟩
theorem own : ownKnob Try.prog.godebug = none := by kernel_rfl
theorem laidOut : laidOutB Try.prog = true := by kernel_rfl
set_option maxRecDepth 100000 in
theorem lifted (os : Os) (started : os.Started) (H : Type) (enc : TypeId × Value → H) :
    ReturnsInHanded {} Try.checked os 6 .any (Rows.lanePartsSpec.pre6 enc Try.prog Try.f6 Rows.lanePartsRow.domain false) (Rows.lanePartsSpec.post enc Try.prog Try.f6 false true false false) := by
  refine returnsInHanded_of_change (C := Try.checked) own started (by kernel_rfl) Try.func6
    (ChangeSpec.witness6 (enc := enc) (C := Try.checked) false ⟨#[], #[.slice none 0 0, .int .i64 0], []⟩ 8 (by kernel_rfl) (by kernel_rfl) (by kernel_rfl) (by kernel_rfl)) ?_
  intro W base args ds gs before hval0 hW _ _
  have hval : ∀ (j : Nat) t v, Try.f6.params[j]? = some t → args[j]? = some v → Value.okWide Try.prog W .any base t v := hval0
  have hW' := hW
  obtain ⟨p, q, hA, hV, rfl, _, _⟩ := hW
  obtain ⟨rfl, rfl⟩ := trodVars_none hV
  replace hA : DataW.TrodAll enc Try.prog W 0 (fun _ => true) true Try.f6.params.toList args.toList ds p := hA
  rw [Try.params6] at hA hval
  obtain ⟨v0, vs0, d0, ds0, p0, q0, hargs, rfl, rfl, h0, r0⟩ := trodAll_cons hA
  obtain ⟨v1, vs1, d1, ds1, p1, q1, rfl, rfl, rfl, h1, r1⟩ := trodAll_cons r0
  obtain ⟨rfl, rfl, rfl⟩ := trodAll_nil r1
  obtain rfl : args = #[v0, v1] := by cases args; simp_all
  obtain ⟨A0, l0, c0, rfl, hA0, hl0, hw0⟩ := open_slice_rows calcells calok calkinds callen calof (by decide) Try.underlying22 Try.underlying32 (by kernel_rfl) (by kernel_rfl) (by kernel_rfl) (hval 0 22 v0 rfl rfl) h0
  obtain ⟨a1, rfl, rfl, rfl, w1⟩ := open_int Try.underlying3 (hval 1 3 v1 rfl rfl) h1
  refine (walk W A0 l0 c0 hA0 hl0 hw0 a1 w1).mono fun e W' ⟨he, hb⟩ => ?_
  subst he
  exact ⟨_, rfl, law_post hW' laidOut (by rw [Try.params6]; exact params_ok (by kernel_rfl)) rfl (by kernel_rfl) Try.underlying4 rfl rfl rfl hb⟩
theorem over : Rows.lanePartsRow.holds Try.pinned (OpenSpec.ofChange Rows.lanePartsSpec) :=
  OpenClaim.holds_of_wide 6 Try.f6 rfl rfl rfl rfl rfl rfl rfl ⟨rfl, rfl, rfl, rfl, rfl⟩ rfl rfl rfl rfl rfl (by kernel_rfl) Try.func6 (by kernel_rfl)
    (of_decide_eq_true (by kernel_rfl)) (by unfold Func.isWrapper; first | (rw [if_pos (by decide +kernel)]; kernel_rfl) | (rw [if_neg (by decide +kernel)]; exact ⟨rfl, rfl⟩))
    (fun os started H enc _ => lifted os started H enc)
theorem proved : Rows.LanePartsSaid := over
end Go.Proofs.Ytnjlamnpiafpdaa.laneParts
