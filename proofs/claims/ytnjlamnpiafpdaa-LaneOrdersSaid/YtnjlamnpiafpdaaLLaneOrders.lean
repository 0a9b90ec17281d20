/- LaneOrders: for all two integers and every slice of strings the law answers true: what comes out of a row are the last 64 that came in, in that order, each once, whatever waits in others. No condition. -/
import Derived.Test.YtnjlamnpiafpdaaC08k
import Derived.Test.YtnjlamnpiafpdaaM20
import Derived.Test.YtnjlamnpiafpdaaW24
import Derived.Deep.QuietTactic
import Derived.BigQuiet
namespace Go.Proofs.Ytnjlamnpiafpdaa.laneOrders
open Go.ChangeShapes Go.WideShapes Go.ChangeAt Go.RowKit
set_option linter.unusedVariables false
set_option maxRecDepth 100000
/-- Behind the first k frames. -/
def FedAt (g : Nat) (who other : Int) (l : List ByteArray) (w : World) (k : Nat) (wr : World) : Prop := Ok w wr ∧ w.heap.size ≤ g ∧ LaneL wr g (Lane.fed who other (l.take k))
/-- From the i-th frame on they wait. -/
def LeftAt (g : Nat) (who : Int) (l : List ByteArray) (w : World) (i : Nat) (wr : World) : Prop := Ok w wr ∧ w.heap.size ≤ g ∧ ∃ L, LaneL wr g L ∧ Lane.Good 0 L ∧ Lane.row L who = (l.drop i).map fun s => (s, 0)
set_option maxHeartbeats 4000000 in
theorem walk (w : World) (who : Int) (wwho : (Lit.int .i64 who).wf = true) (A : Option Addr) (l : List ByteArray) (c : Nat) (hA : StrsAt w A l) (hl : l.length ≤ 9223372036854775807) (hw : ∀ s ∈ l, s.size ≤ 9223372036854775807) (other : Int) (wo : (Lit.int .i64 other).wf = true) :
    Calls Try.prog 4 #[.int .i64 who, .slice A l.length c, .int .i64 other] w fun e w' => e = .returned (.bool true) ∧ Below w.heap.size w w' := by
  have HC := Lib.hid hA
  have HW := Lib.hid hw
  clear wwho wo hA hw
  go_enter Try.func4, Try.ntmps4
  go_wp2_with (go_at_call 7; (with_reducible refine (laneAlive _).mono ?_); rintro e w1 ⟨rfl, hok⟩)
  go_loop [7, 23] (fun v i => ∃ (k : Nat) (n : Int), k ≤ l.length ∧ 0 ≤ n ∧ n ≤ 32768 ∧ i = .int .i64 k ∧ v = .int .i64 n ∧ Hid (∀ s ∈ l.take k, s.size ≤ 4096)) (fun _ i => l.length - (intOf i).toNat)
  case atStart => exact ⟨0, 0, Nat.zero_le _, by omega, by omega, rfl, rfl, Lib.hid (by simp)⟩
  case round =>
    obtain ⟨k, n, hk, hn1, hn2, rfl, rfl, hrel⟩ := hrel
    by_cases hlt : k < l.length
    · obtain ⟨b, off, hAe, hb1, hc⟩ := HC.out.below hok k hlt
      subst hAe
      have hs := HW.out _ (List.getElem_mem hlt)
      have hmore : ∀ s ∈ l.take (k + 1), s.size ≤ 4096 ∨ s = l[k] := fun s h => by
        rw [take_more hlt] at h
        rcases List.mem_append.1 h with h | h
        · exact .inl (hrel.out s h)
        · exact .inr (List.mem_singleton.1 h)
      obtain ⟨x, hx⟩ : ∃ x, l[k] = x := ⟨_, rfl⟩
      rw [hx] at hc hs hmore
      have HM := Lib.hid hmore
      clear hx hmore hrel
      by_cases h4 : 4096 < x.size
      · by_cases h5 : 32768 < wrap64 (n + (x.size : Int))
        · go_wp2_with fail
          go_ret
          exact ⟨rfl, hok⟩
        · go_wp2_with fail
          go_ret
          exact ⟨rfl, hok⟩
      · by_cases h5 : 32768 < n + (x.size : Int)
        · go_wp2_with fail
          go_ret
          exact ⟨rfl, hok⟩
        · have HN : Hid (∀ s ∈ l.take (k + 1), s.size ≤ 4096) := Lib.hid fun s h => by
            rcases HM.out s h with h | rfl
            · exact h
            · omega
          go_wp2_with fail
          go_round
          case rel => exact ⟨k + 1, _, by omega, by omega, by omega, by go_num, rfl, HN⟩
          case measure => simp [intOf]; omega
    · have HS : Hid (∀ s ∈ l, s.size ≤ 4096) := Lib.hid (by have := hrel.out; rwa [List.take_of_length_le (by omega)] at this)
      clear hrel
      by_cases h1 : 200 < l.length
      · go_wp2_with fail
        go_ret
        exact ⟨rfl, hok⟩
      by_cases h2 : who < 0
      · go_wp2_with fail
        go_ret
        exact ⟨rfl, hok⟩
      by_cases h3 : 47 < who
      · go_wp2_with fail
        go_ret
        exact ⟨rfl, hok⟩
      by_cases h4 : other = who
      · subst h4
        go_wp2_with fail
        go_ret
        exact ⟨rfl, hok⟩
      have hd : (other == who) = false := by rw [beq_eq_false_iff_ne]; exact h4
      have HO := Lib.hid h4
      have hw1 : 0 ≤ who := by omega
      have hw2 : who ≤ 47 := by omega
      clear h4 h2 h3
      go_wp2_with (go_at_call 9; (with_reducible refine (laneNew _).mono ?_); rintro e w3 ⟨rfl, hk, hL0⟩; have H0 : Hid (FedAt w1.heap.size who other l w 0 w3) := Lib.hid ⟨hok.trans hk, hok.size, hL0⟩; clear hk hL0)
      generalize w1.heap.size = g at H0 ⊢
      clear hok
      go_loopw [58] (fun i wr => ∃ k : Nat, k ≤ l.length ∧ i = .int .i64 k ∧ Hid (FedAt g who other l w k wr)) (fun i _ => l.length - (intOf i).toNat)
      case atStart => exact ⟨0, Nat.zero_le _, rfl, H0⟩
      case round =>
        obtain ⟨k, hk, rfl, hrel⟩ := hrel
        clear H0
        by_cases hlt : k < l.length
        · obtain ⟨hok1, hg, hL⟩ := hrel.out
          obtain ⟨b, off, hAe, hb1, hc⟩ := HC.out.below hok1 k hlt
          subst hAe
          have hs := HW.out _ (List.getElem_mem hlt)
          have hmore := Lane.fed_more who other hlt
          have hans := Lane.fed_answer ⟨hw1, by omega⟩ HO.out HS.out hlt
          obtain ⟨x, hx⟩ : ∃ x, l[k] = x := ⟨_, rfl⟩
          rw [hx] at hc hs hmore hans
          generalize Lane.fed who other (l.take k) = L at hL hans hmore
          have HX := Lib.hid (And.intro hok1 (And.intro hg hL))
          have K : ∀ W, LaneL W g (Lane.pushL L other x) → Calls Try.prog 10 #[.pointer (some ⟨g, 0, none⟩), .int .i64 who, .string x] W fun e w' => e = .returned (.int .i64 (if 64 ≤ k then 8 else 0)) ∧ Only g W w' ∧ LaneL w' g (Lane.fed who other (l.take (k + 1))) := fun W h => by
            have h := lanesPush g _ who x W h hs
            rwa [hans, ← hmore] at h
          have HK := Lib.hid K
          clear hx hmore hans hok1 hg hL hrel K
          by_cases h64 : 64 ≤ k
          all_goals
            first | rw [if_pos h64] at HK | rw [if_neg h64] at HK
            go_wp2_with (first
              | (go_at_call 10; (with_reducible refine (lanesPush g L other x _ HX.out.2.2 hs).mono ?_); rintro e w4 ⟨rfl, hB, hL4⟩; have HB4 := Lib.hid hB; have HL4 := Lib.hid hL4; clear hB hL4)
              | (go_at_call 10; (with_reducible refine (HK.out _ HL4.out).mono ?_); rintro e w5 ⟨rfl, hB, hL5⟩; have HN : Hid (FedAt g who other l w (k + 1) w5) := Lib.hid ⟨Only.then_ok (Only.then_ok HX.out.1 HB4.out HX.out.2.1) hB HX.out.2.1, HX.out.2.1, hL5⟩; clear hB hL5))
            go_roundw
            case rel => exact ⟨k + 1, by omega, by go_num, HN⟩
            case measure => simp [intOf]; omega
        · obtain rfl : k = l.length := by omega
          obtain ⟨hok1, hg, hL⟩ := hrel.out
          have hrow := Lane.fed_row ⟨hw1, by omega⟩ HO.out HS.out l.length (Nat.le_refl _)
          rw [Lane.last_all] at hrow
          have hG : Lane.Good 0 (Lane.fed who other (l.take l.length)) := Lane.fed_good who other _
          generalize Lane.fed who other (l.take l.length) = L at hL hrow hG
          have HX := Lib.hid (And.intro hok1 (And.intro hg (And.intro hL (And.intro hG hrow))))
          clear hok1 hg hL hG hrow hrel
          by_cases h64 : 64 ≤ l.length
          · go_wp2_with (go_at_call 16; (with_reducible refine (lanesClear g L other 0 _ HX.out.2.2.1 HX.out.2.2.2.1).mono ?_); rintro e w5 ⟨rfl, hB, hL5⟩; have HN : Hid (LeftAt g who l w (l.length - 64) w5) := Lib.hid ⟨Only.then_ok HX.out.1 hB HX.out.2.1, HX.out.2.1, _, hL5, HX.out.2.2.2.1.clear other, by rw [Lane.row_clear, if_neg (Ne.symm HO.out), HX.out.2.2.2.2]⟩; clear hB hL5)
            clear HX
            go_loopw [14] (fun i wr => ∃ k : Nat, k ≤ l.length ∧ i = .int .i64 k ∧ Hid (LeftAt g who l w k wr)) (fun i _ => l.length - (intOf i).toNat)
            case atStart => exact ⟨l.length - 64, by omega, by congr 1; omega, HN⟩
            case round =>
              obtain ⟨k, hk, rfl, hrel⟩ := hrel
              obtain ⟨hok1, hg, L, hL, hG, hrow⟩ := hrel.out
              clear HN hrel
              by_cases hlt : k < l.length
              · rw [List.drop_eq_getElem_cons hlt, List.map_cons] at hrow
                obtain ⟨b, off, hAe, hb1, hc⟩ := HC.out k hlt
                subst hAe
                obtain ⟨x, hx⟩ : ∃ x, l[k] = x := ⟨_, rfl⟩
                rw [hx] at hc hrow
                have K := lanesPopSome g L who 0 (x, 0) _ wr hL hG hrow
                have HD : Hid (Lane.Good 0 (Lane.drop who L) ∧ Lane.row (Lane.drop who L) who = (l.drop (k + 1)).map fun s => (s, 0)) := Lib.hid ⟨hG.drop who, by rw [Lane.row_drop, if_pos rfl, hrow]; rfl⟩
                have HK := Lib.hid K
                have HX := Lib.hid (And.intro hok1 hg)
                have HCC := Lib.hid (And.intro hb1 hc)
                have hk1 : (0 : Int) ≤ (k : Int) := by omega
                have hk2 : (k : Int) < (l.length : Int) := by omega
                clear K hrow hL hG hx hok1 hg hb1 hc
                go_wp2_with (go_at_call 12; (with_reducible refine HK.out.mono ?_); rintro e w6 ⟨rfl, hB, hL6⟩; have hok6 := Only.then_ok HX.out.1 hB HX.out.2; have HN : Hid (Ok w w6 ∧ w.heap.size ≤ g ∧ LaneL w6 g (Lane.drop who L)) := Lib.hid ⟨hok6, HX.out.2, hL6⟩; have hc6 := ((hok6.alloc (.cells #[.string x, .int .i64 0] 36)).cell (p := ⟨b, off + k, none⟩) HCC.out.1).trans HCC.out.2; clear hB hL6 hok6)
                go_quiet (fail)
                go_wp2_with fail
                go_roundw
                case rel => exact ⟨k + 1, by omega, by go_num, Lib.hid ⟨(HN.out.1.alloc _).drewN _, HN.out.2.1, Lane.drop who L, (HN.out.2.2.next ((Ok.refl _).alloc _)).next ((Ok.refl _).drewN _), HD.out.1, HD.out.2⟩⟩
                case measure => simp [intOf]; omega
              · rw [List.drop_of_length_le (by omega), List.map_nil] at hrow
                have K := lanesPopNone g L who 0 wr hL hG hrow
                have hrow2 : Lane.row (Lane.drop who L) who = [] := by rw [Lane.row_drop, if_pos rfl, hrow]; rfl
                have K2 : ∀ W, LaneL W g (Lane.drop who L) → Calls Try.prog 18 #[.pointer (some ⟨g, 0, none⟩), .int .i64 who] W fun e w' => e = .returned (.int .i64 0) ∧ W = w' := fun W h => by
                  have h := lanesLen g _ who 0 W h (hG.drop who)
                  rwa [hrow2] at h
                have HK := Lib.hid K
                have HK2 := Lib.hid K2
                have HX := Lib.hid (And.intro hok1 hg)
                clear K K2 hrow hrow2 hL hG hok1 hg
                go_wp2_with (first
                  | (go_at_call 12; (with_reducible refine HK.out.mono ?_); rintro e w6 ⟨rfl, hB, hL6⟩; have HN : Hid (Ok w w6 ∧ LaneL w6 g (Lane.drop who L)) := Lib.hid ⟨Only.then_ok HX.out.1 hB HX.out.2, hL6⟩; clear hB hL6)
                  | (go_at_call 18; (with_reducible refine (HK2.out _ (HN.out.2.next ((Ok.refl _).alloc _))).mono ?_); rintro e w7 ⟨rfl, rfl⟩))
                go_ret
                exact ⟨rfl, HN.out.1.alloc _⟩
          · go_wp2_with (go_at_call 16; (with_reducible refine (lanesClear g L other 0 _ HX.out.2.2.1 HX.out.2.2.2.1).mono ?_); rintro e w5 ⟨rfl, hB, hL5⟩; have HN : Hid (LeftAt g who l w (l.length - 64) w5) := Lib.hid ⟨Only.then_ok HX.out.1 hB HX.out.2.1, HX.out.2.1, _, hL5, HX.out.2.2.2.1.clear other, by rw [Lane.row_clear, if_neg (Ne.symm HO.out), HX.out.2.2.2.2]⟩; clear hB hL5)
            clear HX
            go_loopw [14] (fun i wr => ∃ k : Nat, k ≤ l.length ∧ i = .int .i64 k ∧ Hid (LeftAt g who l w k wr)) (fun i _ => l.length - (intOf i).toNat)
            case atStart => exact ⟨l.length - 64, by omega, by congr 1; omega, HN⟩
            case round =>
              obtain ⟨k, hk, rfl, hrel⟩ := hrel
              obtain ⟨hok1, hg, L, hL, hG, hrow⟩ := hrel.out
              clear HN hrel
              by_cases hlt : k < l.length
              · rw [List.drop_eq_getElem_cons hlt, List.map_cons] at hrow
                obtain ⟨b, off, hAe, hb1, hc⟩ := HC.out k hlt
                subst hAe
                obtain ⟨x, hx⟩ : ∃ x, l[k] = x := ⟨_, rfl⟩
                rw [hx] at hc hrow
                have K := lanesPopSome g L who 0 (x, 0) _ wr hL hG hrow
                have HD : Hid (Lane.Good 0 (Lane.drop who L) ∧ Lane.row (Lane.drop who L) who = (l.drop (k + 1)).map fun s => (s, 0)) := Lib.hid ⟨hG.drop who, by rw [Lane.row_drop, if_pos rfl, hrow]; rfl⟩
                have HK := Lib.hid K
                have HX := Lib.hid (And.intro hok1 hg)
                have HCC := Lib.hid (And.intro hb1 hc)
                have hk1 : (0 : Int) ≤ (k : Int) := by omega
                have hk2 : (k : Int) < (l.length : Int) := by omega
                clear K hrow hL hG hx hok1 hg hb1 hc
                go_wp2_with (go_at_call 12; (with_reducible refine HK.out.mono ?_); rintro e w6 ⟨rfl, hB, hL6⟩; have hok6 := Only.then_ok HX.out.1 hB HX.out.2; have HN : Hid (Ok w w6 ∧ w.heap.size ≤ g ∧ LaneL w6 g (Lane.drop who L)) := Lib.hid ⟨hok6, HX.out.2, hL6⟩; have hc6 := ((hok6.alloc (.cells #[.string x, .int .i64 0] 36)).cell (p := ⟨b, off + k, none⟩) HCC.out.1).trans HCC.out.2; clear hB hL6 hok6)
                go_quiet (fail)
                go_wp2_with fail
                go_roundw
                case rel => exact ⟨k + 1, by omega, by go_num, Lib.hid ⟨(HN.out.1.alloc _).drewN _, HN.out.2.1, Lane.drop who L, (HN.out.2.2.next ((Ok.refl _).alloc _)).next ((Ok.refl _).drewN _), HD.out.1, HD.out.2⟩⟩
                case measure => simp [intOf]; omega
              · rw [List.drop_of_length_le (by omega), List.map_nil] at hrow
                have K := lanesPopNone g L who 0 wr hL hG hrow
                have hrow2 : Lane.row (Lane.drop who L) who = [] := by rw [Lane.row_drop, if_pos rfl, hrow]; rfl
                have K2 : ∀ W, LaneL W g (Lane.drop who L) → Calls Try.prog 18 #[.pointer (some ⟨g, 0, none⟩), .int .i64 who] W fun e w' => e = .returned (.int .i64 0) ∧ W = w' := fun W h => by
                  have h := lanesLen g _ who 0 W h (hG.drop who)
                  rwa [hrow2] at h
                have HK := Lib.hid K
                have HK2 := Lib.hid K2
                have HX := Lib.hid (And.intro hok1 hg)
                clear K K2 hrow hrow2 hL hG hok1 hg
                go_wp2_with (first
                  | (go_at_call 12; (with_reducible refine HK.out.mono ?_); rintro e w6 ⟨rfl, hB, hL6⟩; have HN : Hid (Ok w w6 ∧ LaneL w6 g (Lane.drop who L)) := Lib.hid ⟨Only.then_ok HX.out.1 hB HX.out.2, hL6⟩; clear hB hL6)
                  | (go_at_call 18; (with_reducible refine (HK2.out _ (HN.out.2.next ((Ok.refl _).alloc _))).mono ?_); rintro e w7 ⟨rfl, rfl⟩))
                go_ret
                exact ⟨rfl, HN.out.1.alloc _⟩
theorem own : ownKnob Try.prog.godebug = none := by kernel_rfl
theorem laidOut : laidOutB Try.prog = true := by kernel_rfl
set_option maxRecDepth 100000 in
theorem lifted (os : Os) (started : os.Started) (H : Type) (enc : TypeId × Value → H) :
    ReturnsInHanded {} Try.checked os 4 .any (Rows.laneOrdersSpec.pre6 enc Try.prog Try.f4 Rows.laneOrdersRow.domain false) (Rows.laneOrdersSpec.post enc Try.prog Try.f4 false true false false) := by
  refine returnsInHanded_of_change (C := Try.checked) own started (by kernel_rfl) Try.func4
    (ChangeSpec.witness6 (enc := enc) (C := Try.checked) false ⟨#[], #[.int .i64 0, .slice none 0 0, .int .i64 0], []⟩ 8 (by kernel_rfl) (by kernel_rfl) (by kernel_rfl) (by kernel_rfl)) ?_
  intro W base args ds gs before hval0 hW _ _
  have hval : ∀ (j : Nat) t v, Try.f4.params[j]? = some t → args[j]? = some v → Value.okWide Try.prog W .any base t v := hval0
  have hW' := hW
  obtain ⟨p, q, hA, hV, rfl, _, _⟩ := hW
  obtain ⟨rfl, rfl⟩ := trodVars_none hV
  replace hA : DataW.TrodAll enc Try.prog W 0 (fun _ => true) true Try.f4.params.toList args.toList ds p := hA
  rw [Try.params4] at hA hval
  obtain ⟨v0, vs0, d0, ds0, p0, q0, hargs, rfl, rfl, h0, r0⟩ := trodAll_cons hA
  obtain ⟨v1, vs1, d1, ds1, p1, q1, rfl, rfl, rfl, h1, r1⟩ := trodAll_cons r0
  obtain ⟨v2, vs2, d2, ds2, p2, q2, rfl, rfl, rfl, h2, r2⟩ := trodAll_cons r1
  obtain ⟨rfl, rfl, rfl⟩ := trodAll_nil r2
  obtain rfl : args = #[v0, v1, v2] := by cases args; simp_all
  obtain ⟨a0, rfl, rfl, rfl, w0⟩ := open_int Try.underlying3 (hval 0 3 v0 rfl rfl) h0
  obtain ⟨A1, l1, c1, rfl, hA1, hl1, hw1⟩ := open_strs Try.underlying45 Try.underlying9 (by kernel_rfl) (hval 1 45 v1 rfl rfl) h1
  obtain ⟨a2, rfl, rfl, rfl, w2⟩ := open_int Try.underlying3 (hval 2 3 v2 rfl rfl) h2
  refine (walk W a0 w0 A1 l1 c1 hA1 hl1 hw1 a2 w2).mono fun e W' ⟨he, hb⟩ => ?_
  subst he
  exact ⟨_, rfl, law_post hW' laidOut (by rw [Try.params4]; exact params_ok (by kernel_rfl)) rfl (by kernel_rfl) Try.underlying4 rfl rfl rfl hb⟩
theorem over : Rows.laneOrdersRow.holds Try.pinned (OpenSpec.ofChange Rows.laneOrdersSpec) :=
  OpenClaim.holds_of_wide 4 Try.f4 rfl rfl rfl rfl rfl rfl rfl ⟨rfl, rfl, rfl, rfl, rfl⟩ rfl rfl rfl rfl rfl (by kernel_rfl) Try.func4 (by kernel_rfl)
    (of_decide_eq_true (by kernel_rfl)) (by unfold Func.isWrapper; first | (rw [if_pos (by decide +kernel)]; kernel_rfl) | (rw [if_neg (by decide +kernel)]; exact ⟨rfl, rfl⟩))
    (fun os started H enc _ => lifted os started H enc)
theorem proved : Rows.LaneOrdersSaid := over
end Go.Proofs.Ytnjlamnpiafpdaa.laneOrders
