/- LaneAges: for every script of calls and integer the law answers true: behind so many ticks and one more nothing waits that waited ahead of them; as many as waited are gone. No condition. -/
import Derived.Test.YtnjlamnpiafpdaaC08k
import Derived.Test.YtnjlamnpiafpdaaC08l
import Derived.Test.YtnjlamnpiafpdaaM19
namespace Go.Proofs.Ytnjlamnpiafpdaa.laneAges
open Go.ChangeShapes Go.WideShapes Go.ChangeAt Go.RowKit
set_option linter.unusedVariables false
set_option maxRecDepth 100000
/-- Behind the script's first k calls. -/
def PushedAt (g : Nat) (l : List Cal) (w : World) (k : Nat) (wr : World) : Prop := Ok w wr ∧ w.heap.size ≤ g ∧ LaneL wr g (Lane.play (l.take k))
/-- Behind i ticks. -/
def TickedAt (g : Nat) (L : List It) (n : Int) (w : World) (i : Nat) (wr : World) : Prop := Ok w wr ∧ w.heap.size ≤ g ∧ LaneL wr g (Lane.behind n L i)
set_option maxHeartbeats 4000000 in
theorem walk (w : World) (A : Option Addr) (l : List Cal) (c : Nat) (hA : CellsAt w A (l.flatMap calcells)) (hl : l.length ≤ 9223372036854775807) (hw : ∀ x ∈ l, calok x) (n : Int) (wn : (Lit.int .i64 n).wf = true) :
    Calls Try.prog 5 #[.slice A l.length c, .int .i64 n] w fun e w' => e = .returned (.bool true) ∧ Below w.heap.size w w' := by
  have HC := Lib.hid hA
  have HW := Lib.hid hw
  clear wn hA hw
  go_enter Try.func5, Try.ntmps5
  go_wp2_with (go_at_call 7; (with_reducible refine (laneAlive _).mono ?_); rintro e w1 ⟨rfl, hok1⟩)
  refine (laneGreat A l c _ (HC.out.below hok1) hl).mono ?_
  rintro e w2 ⟨b, rfl, hb, hok2⟩
  have hok : Ok w w2 := hok1.trans hok2
  clear hok1 hok2
  cases b with
  | true =>
    clear hb
    go_wp2_with fail
    go_ret
    exact ⟨rfl, hok⟩
  | false =>
    replace hb := hb rfl
    by_cases hn : n < 0 ∨ 60 < n
    · by_cases hn0 : n < 0
      · go_wp2_with fail
        go_ret
        exact ⟨rfl, hok⟩
      · have hn6 : 60 < n := by omega
        clear hn
        go_wp2_with fail
        go_ret
        exact ⟨rfl, hok⟩
    · have hn0 : 0 ≤ n := by omega
      have hn6 : n ≤ 60 := by omega
      clear hn
      go_wp2_with (go_at_call 9; (with_reducible refine (laneNew _).mono ?_); rintro e w3 ⟨rfl, hk, hL0⟩; have H0 : Hid (PushedAt w2.heap.size l w 0 w3) := Lib.hid ⟨hok.trans hk, hok.size, hL0⟩; clear hk hL0)
      generalize w2.heap.size = g at H0 ⊢
      go_loopw [30] (fun i wr => ∃ k : Nat, k ≤ l.length ∧ i = .int .i64 k ∧ Hid (PushedAt g l w k wr)) (fun i _ => l.length - (intOf i).toNat)
      case atStart => exact ⟨0, Nat.zero_le _, rfl, H0⟩
      case round =>
        obtain ⟨k, hk, rfl, hrel⟩ := hrel
        clear H0
        by_cases hlt : k < l.length
        · obtain ⟨hok1, hg, hL⟩ := hrel.out
          obtain ⟨b, off, hAe, hb1, hc⟩ := (HC.out.below hok1).at callen (by decide) k hlt
          subst hAe
          have hmore := Lane.play_more hlt
          have hcal := HW.out _ (List.getElem_mem hlt)
          obtain ⟨x, hx⟩ : ∃ x, l[k] = x := ⟨_, rfl⟩
          rw [hx] at hc hmore hcal
          have c0 := hc 0 _ rfl
          have c1 := hc 1 _ rfl
          have c2 := hc 2 _ rfl
          have c3 := hc 3 _ rfl
          obtain ⟨xk, xa, xb, xs⟩ := x
          simp only [calkinds, List.length_cons, List.length_nil, Nat.zero_add, Nat.reduceAdd, Nat.add_zero] at c0 c1 c2 c3
          unfold Lane.step at hmore
          simp only at hmore
          have HM := Lib.hid hmore
          have HX := Lib.hid (And.intro hok1 (And.intro hg hL))
          have hs : xs.size ≤ 9223372036854775807 := by have := hcal.2.2.2; unfold maxLen at this; exact this
          clear hc hx hmore hcal hok1 hg hL hrel hb1
          by_cases h0 : xk = 0
          · subst h0
            rw [if_pos rfl] at HM
            go_wp2_with (go_at_call 10; (with_reducible refine (lanesPush g _ xa xs _ (HX.out.2.2.next ((Ok.refl _).alloc _)) hs).mono ?_); rintro e w4 ⟨rfl, hB, hL4⟩; have HN : Hid (PushedAt g l w (k + 1) w4) := Lib.hid ⟨Only.then_ok (HX.out.1.alloc _) hB HX.out.2.1, HX.out.2.1, by rw [HM.out]; exact hL4⟩; clear hB hL4)
            go_roundw
            case rel => exact ⟨k + 1, by omega, by go_num, HN⟩
            case measure => simp [intOf]; omega
          · rw [if_neg h0] at HM
            have hd : (xk == 0) = false := by rw [beq_eq_false_iff_ne]; exact h0
            clear h0
            go_wp2_with fail
            go_roundw
            case rel => exact ⟨k + 1, by omega, by go_num, Lib.hid ⟨HX.out.1.alloc _, HX.out.2.1, by rw [HM.out]; exact HX.out.2.2.next ((Ok.refl _).alloc _)⟩⟩
            case measure => simp [intOf]; omega
        · obtain ⟨hok1, hg, hL⟩ := hrel.out
          rw [List.take_of_length_le (by omega)] at hL
          have hG := Lane.play_good l
          generalize Lane.play l = L at hL hG
          have HL : Hid (LaneL wr g L) := Lib.hid hL
          have HG := Lib.hid hG
          have hsm := hG.small
          have HT : Hid (Lane.total (fun i => Lane.row L i) 48 = L.length) := Lib.hid hG.total
          have HS : Hid (TickedAt g L n w 0 wr) := Lib.hid ⟨hok1, hg, by rw [Lane.behind_zero hn0]; exact hL⟩
          clear hL hG hok1 hg hrel
          go_wp2_with fail
          go_loop [8, 10] (fun v i => ∃ k : Nat, k ≤ 48 ∧ i = .int .i64 k ∧ v = .int .i64 (Lane.total (fun i => Lane.row L i) k : Nat)) (fun _ i => 48 - (intOf i).toNat)
          case atStart => exact ⟨0, Nat.zero_le _, rfl, rfl⟩
          case round =>
            obtain ⟨k, hk, rfl, rfl⟩ := hrel
            by_cases hlt : k < 48
            · have hbd := HG.out.bd k
              have hsh := HG.out.short k
              have HM : Hid (Lane.total (fun i => Lane.row L i) (k + 1) = Lane.total (fun i => Lane.row L i) k + (Lane.row L k).length) := Lib.hid rfl
              have K := lanesLen g L k 0 wr HL.out HG.out
              generalize Lane.total (fun i => Lane.row L i) k = t at hbd HM ⊢
              generalize (Lane.row L k).length = m at hsh HM K
              have HK := Lib.hid K
              clear K
              go_wp2_with (go_at_call 18; (with_reducible refine HK.out.mono ?_); rintro e w4 ⟨rfl, rfl⟩)
              go_round
              case rel => exact ⟨k + 1, by omega, by go_num, by rw [HM.out]; go_num⟩
              case measure => simp [intOf]; omega
            · obtain rfl : k = 48 := by omega
              rw [HT.out]
              have H0 : Hid (Lane.Good 0 L) := HG
              obtain ⟨Q, hQ⟩ : ∃ Q, L.length = Q := ⟨_, rfl⟩
              rw [hQ] at hsm ⊢
              have HQ := Lib.hid hQ
              clear hQ HL
              obtain ⟨w3, rfl⟩ : ∃ w3, w3 = wr := ⟨_, rfl⟩
              go_wp2_with fail
              go_loopw [9, 11] (fun v i wr => ∃ k : Nat, (k : Int) ≤ n + 1 ∧ i = .int .i64 k ∧ v = .int .i64 (Lane.lost n L k : Nat) ∧ Hid (TickedAt g L n w k wr)) (fun _ i _ => (n + 1 - intOf i).toNat)
              case atStart => exact ⟨0, by omega, rfl, by unfold Lane.lost; rw [if_pos (by simpa using hn0)]; rfl, HS⟩
              case round =>
                obtain ⟨i, hi, rfl, rfl, hrel⟩ := hrel
                clear HS
                by_cases hin : (i : Int) ≤ n
                · obtain ⟨hok1, hg, hL⟩ := hrel.out
                  have hGi := Lane.behind_good hn0 HG.out.fresh HG.out i hi
                  have hnx := Lane.lost_next HG.out.fresh hin
                  have hbn := Lane.behind_next HG.out.fresh hin
                  have hlo : Lane.lost n L i = 0 := by unfold Lane.lost; rw [if_pos hin]
                  have hlen : (Lane.behind n L i).length = Q := by unfold Lane.behind; rw [if_pos hin, Lane.up_length, HQ.out]
                  rw [hlo] at hnx ⊢
                  rw [show ((0 : Nat) : Int) = 0 from rfl]
                  have K := lanesTick g (Lane.behind n L i) n i wr hL hGi (by omega)
                  rw [hbn] at K hnx
                  generalize Lane.behind n L i = B at hL hGi hlen K hnx
                  have HGi := Lib.hid hGi
                  have HLB := Lib.hid hL
                  have HKT := Lib.hid K
                  have HX := Lib.hid (And.intro hok1 hg)
                  have hdq : B.length - (Lane.behind n L (i + 1)).length ≤ Q := by omega
                  generalize hDD : B.length - (Lane.behind n L (i + 1)).length = D at hnx HKT hdq
                  have HNX := Lib.hid hnx
                  have HTB : Hid (Lane.total (fun i => Lane.row B i) 48 = Q) := Lib.hid (by rw [hGi.total, hlen])
                  clear hGi hL K hok1 hg hrel hnx hbn hlo hlen hDD
                  by_cases hie : (i : Int) = n
                  · have hd : ((i : Int) == n) = true := by simpa using hie
                    have HI := Lib.hid hie
                    clear hie
                    go_wp2_with fail
                    go_loop [12, 13] (fun v i => ∃ k : Nat, k ≤ 48 ∧ i = .int .i64 k ∧ v = .int .i64 (Lane.total (fun i => Lane.row B i) k : Nat)) (fun _ i => 48 - (intOf i).toNat)
                    case atStart => exact ⟨0, Nat.zero_le _, rfl, rfl⟩
                    case round =>
                      obtain ⟨k, hk, rfl, rfl⟩ := hrel
                      by_cases hlt : k < 48
                      · have hbd := HGi.out.bd k
                        have hsh := HGi.out.short k
                        have HM : Hid (Lane.total (fun i => Lane.row B i) (k + 1) = Lane.total (fun i => Lane.row B i) k + (Lane.row B k).length) := Lib.hid rfl
                        have K := lanesLen g B k i wr HLB.out HGi.out
                        generalize Lane.total (fun i => Lane.row B i) k = t at hbd HM ⊢
                        generalize (Lane.row B k).length = m at hsh HM K
                        have HK := Lib.hid K
                        clear K
                        go_wp2_with (go_at_call 18; (with_reducible refine HK.out.mono ?_); rintro e w4 ⟨rfl, rfl⟩)
                        go_round
                        case rel => exact ⟨k + 1, by omega, by go_num, by rw [HM.out]; go_num⟩
                        case measure => simp [intOf]; omega
                      · obtain rfl : k = 48 := by omega
                        rw [HTB.out]
                        go_wp2_with (go_at_call 14; (with_reducible refine HKT.out.mono ?_); rintro e w5 ⟨rfl, hB, hL5⟩; have HN : Hid (TickedAt g L n w (i + 1) w5) := Lib.hid ⟨Only.then_ok HX.out.1 hB HX.out.2, HX.out.2, hL5⟩; clear hB hL5)
                        go_roundw
                        case rel => exact ⟨i + 1, by omega, by go_num, by rw [← HNX.out]; go_num, HN⟩
                        case measure => simp [intOf]; omega
                  · have hd : ((i : Int) == n) = false := by rw [beq_eq_false_iff_ne]; exact hie
                    have HI := Lib.hid hie
                    clear hie
                    go_wp2_with (go_at_call 14; (with_reducible refine HKT.out.mono ?_); rintro e w5 ⟨rfl, hB, hL5⟩; have HN : Hid (TickedAt g L n w (i + 1) w5) := Lib.hid ⟨Only.then_ok HX.out.1 hB HX.out.2, HX.out.2, hL5⟩; clear hB hL5)
                    go_roundw
                    case rel => exact ⟨i + 1, by omega, by go_num, by rw [← HNX.out]; go_num, HN⟩
                    case measure => simp [intOf]; omega
                · have hlo : Lane.lost n L i = Q := by unfold Lane.lost; rw [if_neg hin]; exact HQ.out
                  have hbe : Lane.behind n L i = [] := by unfold Lane.behind; rw [if_neg hin]
                  obtain ⟨hok1, hg, hL⟩ := hrel.out
                  rw [hbe] at hL
                  rw [hlo]
                  have HLB := Lib.hid hL
                  have HX := Lib.hid (And.intro hok1 hg)
                  clear hrel hok1 hg hL hbe hlo
                  go_wp2_with fail
                  go_loop [14] (fun i => ∃ k : Nat, k ≤ 48 ∧ i = .int .i64 k) (fun i => 48 - (intOf i).toNat)
                  case atStart => exact ⟨0, Nat.zero_le _, rfl⟩
                  case round =>
                    obtain ⟨k, hk, rfl⟩ := hrel
                    by_cases hlt : k < 48
                    · have K := lanesLen g [] k 0 wr HLB.out (Lane.Good.nil 0)
                      rw [Lane.row_nil, List.length_nil] at K
                      have HK := Lib.hid K
                      clear K
                      go_wp2_with (go_at_call 18; (with_reducible refine HK.out.mono ?_); rintro e w4 ⟨rfl, rfl⟩)
                      go_round
                      case rel => exact ⟨k + 1, by omega, by go_num⟩
                      case measure => simp [intOf]; omega
                    · go_wp2_with fail
                      go_ret
                      exact ⟨rfl, HX.out.1⟩
theorem own : ownKnob Try.prog.godebug = none := by kernel_rfl
theorem laidOut : laidOutB Try.prog = true := by kernel_rfl
set_option maxRecDepth 100000 in
theorem lifted (os : Os) (started : os.Started) (H : Type) (enc : TypeId × Value → H) :
    ReturnsInHanded {} Try.checked os 5 .any (Rows.laneAgesSpec.pre6 enc Try.prog Try.f5 Rows.laneAgesRow.domain false) (Rows.laneAgesSpec.post enc Try.prog Try.f5 false true false false) := by
  refine returnsInHanded_of_change (C := Try.checked) own started (by kernel_rfl) Try.func5
    (ChangeSpec.witness6 (enc := enc) (C := Try.checked) false ⟨#[], #[.slice none 0 0, .int .i64 0], []⟩ 8 (by kernel_rfl) (by kernel_rfl) (by kernel_rfl) (by kernel_rfl)) ?_
  intro W base args ds gs before hval0 hW _ _
  have hval : ∀ (j : Nat) t v, Try.f5.params[j]? = some t → args[j]? = some v → Value.okWide Try.prog W .any base t v := hval0
  have hW' := hW
  obtain ⟨p, q, hA, hV, rfl, _, _⟩ := hW
  obtain ⟨rfl, rfl⟩ := trodVars_none hV
  replace hA : DataW.TrodAll enc Try.prog W 0 (fun _ => true) true Try.f5.params.toList args.toList ds p := hA
  rw [Try.params5] at hA hval
  obtain ⟨v0, vs0, d0, ds0, p0, q0, hargs, rfl, rfl, h0, r0⟩ := trodAll_cons hA
  obtain ⟨v1, vs1, d1, ds1, p1, q1, rfl, rfl, rfl, h1, r1⟩ := trodAll_cons r0
  obtain ⟨rfl, rfl, rfl⟩ := trodAll_nil r1
  obtain rfl : args = #[v0, v1] := by cases args; simp_all
  obtain ⟨A0, l0, c0, rfl, hA0, hl0, hw0⟩ := open_slice_rows calcells calok calkinds callen calof (by decide) Try.underlying22 Try.underlying32 (by kernel_rfl) (by kernel_rfl) (by kernel_rfl) (hval 0 22 v0 rfl rfl) h0
  obtain ⟨a1, rfl, rfl, rfl, w1⟩ := open_int Try.underlying3 (hval 1 3 v1 rfl rfl) h1
  refine (walk W A0 l0 c0 hA0 hl0 hw0 a1 w1).mono fun e W' ⟨he, hb⟩ => ?_
  subst he
  exact ⟨_, rfl, law_post hW' laidOut (by rw [Try.params5]; exact params_ok (by kernel_rfl)) rfl (by kernel_rfl) Try.underlying4 rfl rfl rfl hb⟩
theorem over : Rows.laneAgesRow.holds Try.pinned (OpenSpec.ofChange Rows.laneAgesSpec) :=
  OpenClaim.holds_of_wide 5 Try.f5 rfl rfl rfl rfl rfl rfl rfl ⟨rfl, rfl, rfl, rfl, rfl⟩ rfl rfl rfl rfl rfl (by kernel_rfl) Try.func5 (by kernel_rfl)
    (of_decide_eq_true (by kernel_rfl)) (by unfold Func.isWrapper; first | (rw [if_pos (by decide +kernel)]; kernel_rfl) | (rw [if_neg (by decide +kernel)]; exact ⟨rfl, rfl⟩))
    (fun os started H enc _ => lifted os started H enc)
theorem proved : Rows.LaneAgesSaid := over
end Go.Proofs.Ytnjlamnpiafpdaa.laneAges
