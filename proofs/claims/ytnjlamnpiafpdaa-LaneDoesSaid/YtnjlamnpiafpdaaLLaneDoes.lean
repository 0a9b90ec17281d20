/- LaneDoes: for every script of calls the law answers true: each answer, and how many wait, is the document's; and of nil lanes nothing. No condition. -/
import Derived.Test.YtnjlamnpiafpdaaC08k
import Derived.Test.YtnjlamnpiafpdaaC08l
import Derived.Test.YtnjlamnpiafpdaaC08o
import Derived.Deep.RegionHeld3
import Derived.Deep.DrawnRows
namespace Go.Proofs.Ytnjlamnpiafpdaa.laneDoes
open Go.ChangeShapes Go.WideShapes Go.ChangeAt Go.RowKit
set_option linter.unusedVariables false
set_option maxRecDepth 100000
attribute [local go_sem ↓] Go.wp_at_zero Go.wp_at_succ
/-- Behind the first k calls. -/
def DoesAt (g r : Nat) (w : World) (k : Nat) (wr : World) : Prop := ∃ L, PairAt g r L L w wr ∧ Lane.Good k L
theorem pair_start {w w1 w2 : World} (hok : Ok w w1) (hk : Ok w1 w2) (hL : LanesAt w2 w1.heap.size fun _ => []) : PairAt w1.heap.size w2.heap.size [] [] w (w2.alloc (.cells #[.slice none 0 0] 30)) := by
  have hL' : LaneL w2 w1.heap.size [] := hL
  have h1 := hok.size
  have h2 := hL'.lt
  exact ⟨(hok.trans hk).alloc _, h1, by omega, by omega, hL'.next ((Ok.refl _).alloc _), ⟨none, 0, Own.new _ _ _ rfl, World.ownsRow_nil _ _ _ _, by simp⟩⟩
theorem cells_drew {w : World} {b : Nat} {x y : Value} (h : w.cell? ⟨b, 1, none⟩ = some x ∧ w.cell? ⟨b, 3, none⟩ = some y ∧ b < w.heap.size) : w.drew.cell? ⟨b, 1, none⟩ = some x ∧ w.drew.cell? ⟨b, 3, none⟩ = some y ∧ b < w.drew.heap.size := h
theorem cells_two {w w1 : World} {b g r : Nat} {x y : Value} (h : w.cell? ⟨b, 1, none⟩ = some x ∧ w.cell? ⟨b, 3, none⟩ = some y ∧ b < w.heap.size) (hT : Only2 g r w w1) (h1 : b ≠ g) (h2 : b ≠ r) : w1.cell? ⟨b, 1, none⟩ = some x ∧ w1.cell? ⟨b, 3, none⟩ = some y ∧ b < w1.heap.size :=
  ⟨hT.cell h.1 h.2.2 h1 h2, hT.cell h.2.1 h.2.2 h1 h2, Nat.lt_of_lt_of_le h.2.2 hT.size⟩
theorem cells_ok {w w1 : World} {b : Nat} {x y : Value} (h : w.cell? ⟨b, 1, none⟩ = some x ∧ w.cell? ⟨b, 3, none⟩ = some y ∧ b < w.heap.size) (k : Ok w w1) : w1.cell? ⟨b, 1, none⟩ = some x ∧ w1.cell? ⟨b, 3, none⟩ = some y ∧ b < w1.heap.size :=
  ⟨(k.cell (p := ⟨b, 1, none⟩) h.2.2).trans h.1, (k.cell (p := ⟨b, 3, none⟩) h.2.2).trans h.2.1, Nat.lt_of_lt_of_le h.2.2 k.size⟩
theorem cell2_drew {w : World} {b : Nat} {x : Value} (h : w.cell? ⟨b, 2, none⟩ = some x ∧ b < w.heap.size) : w.drew.cell? ⟨b, 2, none⟩ = some x ∧ b < w.drew.heap.size := h
theorem cell2_two {w w1 : World} {b g r : Nat} {x : Value} (h : w.cell? ⟨b, 2, none⟩ = some x ∧ b < w.heap.size) (hT : Only2 g r w w1) (h1 : b ≠ g) (h2 : b ≠ r) : w1.cell? ⟨b, 2, none⟩ = some x ∧ b < w1.heap.size :=
  ⟨hT.cell h.1 h.2 h1 h2, Nat.lt_of_lt_of_le h.2 hT.size⟩
set_option maxHeartbeats 4000000 in
theorem walk (w : World) (A : Option Addr) (l : List Cal) (c : Nat) (hA : CellsAt w A (l.flatMap calcells)) (hl : l.length ≤ 9223372036854775807) (hw : ∀ x ∈ l, calok x) :
    Calls Try.prog 3 #[.slice A l.length c] w fun e w' => e = .returned (.bool true) ∧ Below w.heap.size w w' := by
  have HC := Lib.hid hA
  have HW := Lib.hid hw
  clear hA hw
  go_enter Try.func3, Try.ntmps3
  go_wp2_with (go_at_call 7; (with_reducible refine (laneAlive _).mono ?_); rintro e w1 ⟨rfl, hok1⟩)
  refine (laneGreat A l c _ (HC.out.below hok1) hl).mono ?_
  rintro e w2 ⟨b, rfl, hb, hok2⟩
  have hok : Ok w w2 := hok1.trans hok2
  clear hok1 hok2
  cases b with
  | true =>
    clear hb
    go_wp2_with fail
    go_ret
    exact ⟨rfl, hok⟩
  | false =>
    replace hb := hb rfl
    go_wp2_with fail
    refine (laneNew _).mono ?_
    rintro e w3 ⟨rfl, hk3, hL3⟩
    have H0 : Hid (DoesAt w2.heap.size w3.heap.size w 0 (w3.alloc (.cells #[.slice none 0 0] 30))) := Lib.hid ⟨[], pair_start hok hk3 hL3, Lane.Good.nil _⟩
    clear hok hk3 hL3
    go_wp2_with fail
    generalize w3.alloc (.cells #[.slice none 0 0] 30) = w4 at H0 ⊢
    generalize w2.heap.size = g at H0 ⊢
    generalize w3.heap.size = r at H0 ⊢
    go_loopw [23] (fun i wr => ∃ k : Nat, k ≤ l.length ∧ i = .int .i64 k ∧ Hid (DoesAt g r w k wr)) (fun i _ => l.length - (intOf i).toNat)
    case atStart => exact ⟨0, Nat.zero_le _, rfl, H0⟩
    case round =>
      obtain ⟨k, hk, rfl, hrel⟩ := hrel
      clear H0
      obtain ⟨L, hP, hG⟩ := hrel.out
      clear hrel
      by_cases hlt : k < l.length
      · obtain ⟨b, off, hAe, hb1, hc⟩ := (HC.out.below hP.ok).at callen (by decide) k hlt
        subst hAe
        have hcal := HW.out _ (List.getElem_mem hlt)
        obtain ⟨x, hx⟩ : ∃ x, l[k] = x := ⟨_, rfl⟩
        rw [hx] at hc hcal
        have c0 := hc 0 _ rfl
        have c1 := hc 1 _ rfl
        have c2 := hc 2 _ rfl
        have c3 := hc 3 _ rfl
        obtain ⟨xk, xa, xb, xs⟩ := x
        simp only [calkinds, List.length_cons, List.length_nil, Nat.zero_add, Nat.reduceAdd, Nat.add_zero] at c0 c1 c2 c3
        have hs : xs.size ≤ 9223372036854775807 := by have := hcal.2.2.2; unfold maxLen at this; exact this
        have hP1 := hP.next ((Ok.refl _).alloc (.cells #[.int .i64 xk, .int .i64 xa, .int .i64 xb, .string xs] 32))
        have hO1 := Own.new wr #[.int .i64 xk, .int .i64 xa, .int .i64 xb, .string xs] 32 rfl
        have hgb : wr.heap.size ≠ g := by have := hP.la.lt; omega
        have hrb : wr.heap.size ≠ r := by have := hP.lb.lt; omega
        have HG := Lib.hid hG
        have hQ := Ok.refl w
        clear hQ hc hx hcal hb1 hP hG
        by_cases h0 : xk = 0
        · subst h0
          go_wp2_with fail
          generalize wr.alloc (.cells #[.int .i64 0, .int .i64 xa, .int .i64 xb, .string xs] 32) = W at hP1 hO1 ⊢
          have hd0 : W.cell? ⟨wr.heap.size, 1, none⟩ = some (.int .i64 xa) ∧ W.cell? ⟨wr.heap.size, 3, none⟩ = some (.string xs) ∧ wr.heap.size < W.heap.size := ⟨hO1.cell 1 rfl, hO1.cell 3 rfl, hO1.lt⟩
          have hcb := hO1.cell 2 (v := .int .i64 xb) rfl
          clear hcb
          have HP0 := Lib.hid (hP1.next (Ok.refl _).drew)
          have KA : Hid (∀ (V : World) (M : List It), PairAt g r L M w V → Calls Try.prog 10 #[.pointer (some ⟨g, 0, none⟩), .int .i64 xa, .string xs] V fun e w' => e = .returned (.int .i64 (Lane.pushE L xa xs)) ∧ Only2 g r V w' ∧ PairAt g r (Lane.pushL L xa xs) M w w') := Lib.hid fun V M h => h.pushL xa xs hs
          have KB : Hid (∀ (V : World) (M : List It), PairAt g r M L w V → Calls Try.prog 11 #[.pointer (some ⟨r, 0, none⟩), .int .i64 xa, .string xs] V fun e w' => e = .returned (.int .i64 (Lane.pushE L xa xs)) ∧ Only2 g r V w' ∧ PairAt g r M (Lane.pushL L xa xs) w w') := Lib.hid fun V M h => h.pushR xa xs hs HG.out
          have HG1 : Hid (Lane.Good k (Lane.pushL L xa xs)) := Lib.hid (HG.out.push (by omega) xa xs)
          generalize Lane.pushE L xa xs = E at KA KB
          generalize Lane.pushL L xa xs = L1 at KA KB HG1
          clear hP1 hO1
          go_region_held3 (fun w' => w'.cell? ⟨wr.heap.size, 1, none⟩ = some (.int .i64 xa) ∧ w'.cell? ⟨wr.heap.size, 3, none⟩ = some (.string xs) ∧ wr.heap.size < w'.heap.size)
            (first | exact cells_drew hd0 | exact hd6.out | exact hd5.out)
            (first
              | (go_at_call 10; (with_reducible refine (KA.out _ _ HP0.out).mono ?_); rintro e w5 ⟨rfl, hT, hP5⟩; have hd5 := Lib.hid (cells_two (cells_drew hd0) hT hgb hrb); have HP5 := Lib.hid hP5; clear hT hP5)
              | (go_at_call 11; (with_reducible refine (KB.out _ _ HP5.out).mono ?_); rintro e w6 ⟨rfl, hT, hP6⟩; have hd6 := Lib.hid (cells_two hd5.out hT hgb hrb); have HP6 := Lib.hid hP6; clear hT hP6))
          clear hd0
          go_wp2_with fail
          have hz0 := hd6.out
          have KC : Hid (∀ (V : World) (M : List It), PairAt g r L1 M w V → Calls Try.prog 18 #[.pointer (some ⟨g, 0, none⟩), .int .i64 xa] V fun e w' => e = .returned (.int .i64 ((Lane.row L1 xa).length : Nat)) ∧ Only2 g r V w' ∧ PairAt g r L1 M w w') := Lib.hid fun V M h => h.lenL xa HG1.out
          have KD : Hid (∀ (V : World) (M : List It), PairAt g r M L1 w V → Calls Try.prog 19 #[.pointer (some ⟨r, 0, none⟩), .int .i64 xa] V fun e w' => e = .returned (.int .i64 ((Lane.row L1 xa).length : Nat)) ∧ Only2 g r V w' ∧ PairAt g r M L1 w w') := Lib.hid fun V M h => h.lenR xa
          generalize ((Lane.row L1 xa).length : Nat) = n at KC KD
          have HPz := Lib.hid (HP6.out.next (Ok.refl _).drew)
          go_region_held3 (fun w' => w'.cell? ⟨wr.heap.size, 1, none⟩ = some (.int .i64 xa) ∧ w'.cell? ⟨wr.heap.size, 3, none⟩ = some (.string xs) ∧ wr.heap.size < w'.heap.size)
            (first | exact cells_drew hz0 | exact hd9.out | exact hd8.out)
            (first
              | (go_at_call 18; (with_reducible refine (KC.out _ _ HPz.out).mono ?_); rintro e w8 ⟨rfl, hT, hP8⟩; have hd8 := Lib.hid (cells_two (cells_drew hz0) hT hgb hrb); have HP8 := Lib.hid hP8; clear hT hP8)
              | (go_at_call 19; (with_reducible refine (KD.out _ _ HP8.out).mono ?_); rintro e w9 ⟨rfl, hT, hP9⟩; have hd9 := Lib.hid (cells_two hd8.out hT hgb hrb); have HN : Hid (DoesAt g r w (k + 1) w9) := Lib.hid ⟨_, hP9, HG1.out.more (by omega)⟩; clear hT hP9))
          go_wp2_with fail
          go_roundw
          case rel => exact ⟨k + 1, by omega, by go_num, HN⟩
          case measure => simp [intOf]; omega
        · have g0 : (xk == 0) = false := by rw [beq_eq_false_iff_ne]; exact h0
          clear h0
          by_cases h1 : xk = 1
          · subst h1
            cases hx : Lane.row L xa with
            | nil =>
              have HROW := Lib.hid hx
              clear hx
              go_wp2_with fail
              generalize wr.alloc (.cells #[.int .i64 1, .int .i64 xa, .int .i64 xb, .string xs] 32) = W at hP1 hO1 ⊢
              have hd0 : W.cell? ⟨wr.heap.size, 1, none⟩ = some (.int .i64 xa) ∧ W.cell? ⟨wr.heap.size, 3, none⟩ = some (.string xs) ∧ wr.heap.size < W.heap.size := ⟨hO1.cell 1 rfl, hO1.cell 3 rfl, hO1.lt⟩
              have hcb := hO1.cell 2 (v := .int .i64 xb) rfl
              clear hcb
              have e1 := hd0.1
              have KA : Hid (∀ (V : World) (M : List It), PairAt g r L M w V → Calls Try.prog 12 #[.pointer (some ⟨g, 0, none⟩), .int .i64 xa] V fun e w' => e = .returned (.tuple #[.agg #[.string ⟨#[]⟩, .int .i64 0], .bool false]) ∧ Only2 g r V w' ∧ PairAt g r (Lane.drop xa L) M w w') := Lib.hid fun V M h => h.popNoneL xa HG.out HROW.out
              have KB : Hid (∀ (V : World) (M : List It), PairAt g r M L w V → Calls Try.prog 13 #[.pointer (some ⟨r, 0, none⟩), .int .i64 xa] V fun e w' => e = .returned (.tuple #[.agg #[.int .i64 0, .string ⟨#[]⟩, .int .i64 0], .bool false]) ∧ Only2 g r V w' ∧ PairAt g r M (Lane.drop xa L) w w') := Lib.hid fun V M h => h.popNoneR xa HG.out HROW.out
              have HG1 : Hid (Lane.Good k (Lane.drop xa L)) := Lib.hid (HG.out.drop xa)
              generalize Lane.drop xa L = L1 at KA KB HG1
              have HP0 := Lib.hid hP1
              have HD0 := Lib.hid hd0
              clear hP1 hO1 hd0 HROW
              go_wp2_with (go_at_call 12; (with_reducible refine (KA.out _ _ HP0.out).mono ?_); rintro e w5 ⟨rfl, hT, hP5⟩; have hd5 := cells_two HD0.out hT hgb hrb; have s5 := hT.size; have e5 := hd5.1; have f5 := hd5.2.2; have HD5 := Lib.hid (cells_ok hd5 ((Ok.refl w5).alloc (.cells #[.string ⟨#[]⟩, .int .i64 0] 36))); have HP5 := Lib.hid (hP5.next ((Ok.refl w5).alloc (.cells #[.string ⟨#[]⟩, .int .i64 0] 36))); have HX5 := Lib.hid (Own.new w5 #[.string ⟨#[]⟩, .int .i64 0] 36 rfl); clear hT hP5 hd5)
              refine (KB.out _ _ HP5.out).mono ?_
              rintro e w6 ⟨rfl, hT, hP6⟩
              have n1 : w5.heap.size ≠ g := by have := HP0.out.la.lt; omega
              have n2 : w5.heap.size ≠ r := by have := HP0.out.lb.lt; omega
              have x0 := hT.cell (HX5.out.cell 0 (v := .string ⟨#[]⟩) rfl) HX5.out.lt n1 n2
              have x1 := hT.cell (HX5.out.cell 1 (v := .int .i64 0) rfl) HX5.out.lt n1 n2
              have x9 : w5.heap.size < w6.heap.size := Nat.lt_of_lt_of_le HX5.out.lt hT.size
              have HD6 := Lib.hid (cells_ok (cells_two HD5.out hT hgb hrb) ((Ok.refl w6).alloc (.cells #[.int .i64 0, .string ⟨#[]⟩, .int .i64 0] 40)))
              have HP6 := Lib.hid (hP6.next ((Ok.refl w6).alloc (.cells #[.int .i64 0, .string ⟨#[]⟩, .int .i64 0] 40)))
              have e6 := (cells_two HD5.out hT hgb hrb).1
              have e7 := (cells_two HD5.out hT hgb hrb).2.2
              clear hT hP6 e1 e5 n1 n2
              go_wp2_with fail
              have hz0 := HD6.out
              have KC : Hid (∀ (V : World) (M : List It), PairAt g r L1 M w V → Calls Try.prog 18 #[.pointer (some ⟨g, 0, none⟩), .int .i64 xa] V fun e w' => e = .returned (.int .i64 ((Lane.row L1 xa).length : Nat)) ∧ Only2 g r V w' ∧ PairAt g r L1 M w w') := Lib.hid fun V M h => h.lenL xa HG1.out
              have KD : Hid (∀ (V : World) (M : List It), PairAt g r M L1 w V → Calls Try.prog 19 #[.pointer (some ⟨r, 0, none⟩), .int .i64 xa] V fun e w' => e = .returned (.int .i64 ((Lane.row L1 xa).length : Nat)) ∧ Only2 g r V w' ∧ PairAt g r M L1 w w') := Lib.hid fun V M h => h.lenR xa
              generalize ((Lane.row L1 xa).length : Nat) = n at KC KD
              have HPz := Lib.hid (HP6.out.next (Ok.refl _).drew)
              go_region_held3 (fun w' => w'.cell? ⟨wr.heap.size, 1, none⟩ = some (.int .i64 xa) ∧ w'.cell? ⟨wr.heap.size, 3, none⟩ = some (.string xs) ∧ wr.heap.size < w'.heap.size)
                (first | exact cells_drew hz0 | exact hd9.out | exact hd8.out)
                (first
                  | (go_at_call 18; (with_reducible refine (KC.out _ _ HPz.out).mono ?_); rintro e w8 ⟨rfl, hT, hP8⟩; have hd8 := Lib.hid (cells_two (cells_drew hz0) hT hgb hrb); have HP8 := Lib.hid hP8; clear hT hP8)
                  | (go_at_call 19; (with_reducible refine (KD.out _ _ HP8.out).mono ?_); rintro e w9 ⟨rfl, hT, hP9⟩; have hd9 := Lib.hid (cells_two hd8.out hT hgb hrb); have HN : Hid (DoesAt g r w (k + 1) w9) := Lib.hid ⟨_, hP9, HG1.out.more (by omega)⟩; clear hT hP9))
              go_wp2_with fail
              go_roundw
              case rel => exact ⟨k + 1, by omega, by go_num, HN⟩
              case measure => simp [intOf]; omega
            | cons t0 tt =>
              obtain ⟨ts, ta⟩ := t0
              have HROW := Lib.hid hx
              clear hx
              go_wp2_with fail
              generalize wr.alloc (.cells #[.int .i64 1, .int .i64 xa, .int .i64 xb, .string xs] 32) = W at hP1 hO1 ⊢
              have hd0 : W.cell? ⟨wr.heap.size, 1, none⟩ = some (.int .i64 xa) ∧ W.cell? ⟨wr.heap.size, 3, none⟩ = some (.string xs) ∧ wr.heap.size < W.heap.size := ⟨hO1.cell 1 rfl, hO1.cell 3 rfl, hO1.lt⟩
              have hcb := hO1.cell 2 (v := .int .i64 xb) rfl
              clear hcb
              have e1 := hd0.1
              have KA : Hid (∀ (V : World) (M : List It), PairAt g r L M w V → Calls Try.prog 12 #[.pointer (some ⟨g, 0, none⟩), .int .i64 xa] V fun e w' => e = .returned (.tuple #[.agg #[.string ts, .int .i64 ta], .bool true]) ∧ Only2 g r V w' ∧ PairAt g r (Lane.drop xa L) M w w') := Lib.hid fun V M h => h.popSomeL xa HG.out HROW.out
              have KB : Hid (∀ (V : World) (M : List It), PairAt g r M L w V → Calls Try.prog 13 #[.pointer (some ⟨r, 0, none⟩), .int .i64 xa] V fun e w' => e = .returned (.tuple #[.agg #[.int .i64 xa, .string ts, .int .i64 ta], .bool true]) ∧ Only2 g r V w' ∧ PairAt g r M (Lane.drop xa L) w w') := Lib.hid fun V M h => h.popSomeR xa HG.out HROW.out
              have HG1 : Hid (Lane.Good k (Lane.drop xa L)) := Lib.hid (HG.out.drop xa)
              generalize Lane.drop xa L = L1 at KA KB HG1
              have HP0 := Lib.hid hP1
              have HD0 := Lib.hid hd0
              clear hP1 hO1 hd0 HROW
              go_wp2_with (go_at_call 12; (with_reducible refine (KA.out _ _ HP0.out).mono ?_); rintro e w5 ⟨rfl, hT, hP5⟩; have hd5 := cells_two HD0.out hT hgb hrb; have s5 := hT.size; have e5 := hd5.1; have f5 := hd5.2.2; have HD5 := Lib.hid (cells_ok hd5 ((Ok.refl w5).alloc (.cells #[.string ts, .int .i64 ta] 36))); have HP5 := Lib.hid (hP5.next ((Ok.refl w5).alloc (.cells #[.string ts, .int .i64 ta] 36))); have HX5 := Lib.hid (Own.new w5 #[.string ts, .int .i64 ta] 36 rfl); clear hT hP5 hd5)
              refine (KB.out _ _ HP5.out).mono ?_
              rintro e w6 ⟨rfl, hT, hP6⟩
              have n1 : w5.heap.size ≠ g := by have := HP0.out.la.lt; omega
              have n2 : w5.heap.size ≠ r := by have := HP0.out.lb.lt; omega
              have x0 := hT.cell (HX5.out.cell 0 (v := .string ts) rfl) HX5.out.lt n1 n2
              have x1 := hT.cell (HX5.out.cell 1 (v := .int .i64 ta) rfl) HX5.out.lt n1 n2
              have x9 : w5.heap.size < w6.heap.size := Nat.lt_of_lt_of_le HX5.out.lt hT.size
              have HD6 := Lib.hid (cells_ok (cells_two HD5.out hT hgb hrb) ((Ok.refl w6).alloc (.cells #[.int .i64 xa, .string ts, .int .i64 ta] 40)))
              have HP6 := Lib.hid (hP6.next ((Ok.refl w6).alloc (.cells #[.int .i64 xa, .string ts, .int .i64 ta] 40)))
              have e6 := (cells_two HD5.out hT hgb hrb).1
              have e7 := (cells_two HD5.out hT hgb hrb).2.2
              clear hT hP6 e1 e5 n1 n2
              go_wp2_with fail
              have hz0 := HD6.out
              have KC : Hid (∀ (V : World) (M : List It), PairAt g r L1 M w V → Calls Try.prog 18 #[.pointer (some ⟨g, 0, none⟩), .int .i64 xa] V fun e w' => e = .returned (.int .i64 ((Lane.row L1 xa).length : Nat)) ∧ Only2 g r V w' ∧ PairAt g r L1 M w w') := Lib.hid fun V M h => h.lenL xa HG1.out
              have KD : Hid (∀ (V : World) (M : List It), PairAt g r M L1 w V → Calls Try.prog 19 #[.pointer (some ⟨r, 0, none⟩), .int .i64 xa] V fun e w' => e = .returned (.int .i64 ((Lane.row L1 xa).length : Nat)) ∧ Only2 g r V w' ∧ PairAt g r M L1 w w') := Lib.hid fun V M h => h.lenR xa
              generalize ((Lane.row L1 xa).length : Nat) = n at KC KD
              have HPz := Lib.hid (HP6.out.next (Ok.refl _).drew)
              go_region_held3 (fun w' => w'.cell? ⟨wr.heap.size, 1, none⟩ = some (.int .i64 xa) ∧ w'.cell? ⟨wr.heap.size, 3, none⟩ = some (.string xs) ∧ wr.heap.size < w'.heap.size)
                (first | exact cells_drew hz0 | exact hd9.out | exact hd8.out)
                (first
                  | (go_at_call 18; (with_reducible refine (KC.out _ _ HPz.out).mono ?_); rintro e w8 ⟨rfl, hT, hP8⟩; have hd8 := Lib.hid (cells_two (cells_drew hz0) hT hgb hrb); have HP8 := Lib.hid hP8; clear hT hP8)
                  | (go_at_call 19; (with_reducible refine (KD.out _ _ HP8.out).mono ?_); rintro e w9 ⟨rfl, hT, hP9⟩; have hd9 := Lib.hid (cells_two hd8.out hT hgb hrb); have HN : Hid (DoesAt g r w (k + 1) w9) := Lib.hid ⟨_, hP9, HG1.out.more (by omega)⟩; clear hT hP9))
              go_wp2_with fail
              go_roundw
              case rel => exact ⟨k + 1, by omega, by go_num, HN⟩
              case measure => simp [intOf]; omega
          · have g1 : (xk == 1) = false := by rw [beq_eq_false_iff_ne]; exact h1
            clear h1
            by_cases h2 : xk = 2
            · subst h2
              go_wp2_with fail
              generalize wr.alloc (.cells #[.int .i64 2, .int .i64 xa, .int .i64 xb, .string xs] 32) = W at hP1 hO1 ⊢
              have hd0 : W.cell? ⟨wr.heap.size, 1, none⟩ = some (.int .i64 xa) ∧ W.cell? ⟨wr.heap.size, 3, none⟩ = some (.string xs) ∧ wr.heap.size < W.heap.size := ⟨hO1.cell 1 rfl, hO1.cell 3 rfl, hO1.lt⟩
              have hcb := hO1.cell 2 (v := .int .i64 xb) rfl
              have hd2 : W.cell? ⟨wr.heap.size, 2, none⟩ = some (.int .i64 xb) ∧ wr.heap.size < W.heap.size := ⟨hcb, hO1.lt⟩
              have HD0 := Lib.hid hd0
              clear hcb
              have HP0 := Lib.hid (hP1.next (Ok.refl _).drew)
              have KA : Hid (∀ (V : World) (M : List It), PairAt g r L M w V → Calls Try.prog 14 #[.pointer (some ⟨g, 0, none⟩), .int .i64 xb] V fun e w' => e = .returned (.int .i64 ((L.length - (Lane.tick xb L).length : Nat) : Int)) ∧ Only2 g r V w' ∧ PairAt g r (Lane.tick xb L) M w w') := Lib.hid fun V M h => h.tickL xb HG.out (by omega)
              have KB : Hid (∀ (V : World) (M : List It), PairAt g r M L w V → Calls Try.prog 15 #[.pointer (some ⟨r, 0, none⟩), .int .i64 xb] V fun e w' => e = .returned (.int .i64 ((L.length - (Lane.tick xb L).length : Nat) : Int)) ∧ Only2 g r V w' ∧ PairAt g r M (Lane.tick xb L) w w') := Lib.hid fun V M h => h.tickR xb HG.out (by omega)
              have HG1 : Hid (Lane.Good ((k : Int) + 1) (Lane.tick xb L)) := Lib.hid (HG.out.tick xb)
              generalize (L.length - (Lane.tick xb L).length : Nat) = E at KA KB
              generalize Lane.tick xb L = L1 at KA KB HG1
              clear hP1 hO1 hd0
              go_region_held3 (fun w' => w'.cell? ⟨wr.heap.size, 2, none⟩ = some (.int .i64 xb) ∧ wr.heap.size < w'.heap.size)
                (first | exact cell2_drew hd2 | exact hd6.out | exact hd5.out)
                (first
                  | (go_at_call 14; (with_reducible refine (KA.out _ _ HP0.out).mono ?_); rintro e w5 ⟨rfl, hT, hP5⟩; have hd5 := Lib.hid (cell2_two (cell2_drew hd2) hT hgb hrb); have HD5 := Lib.hid (cells_two (cells_drew HD0.out) hT hgb hrb); have HP5 := Lib.hid hP5; clear hT hP5)
                  | (go_at_call 15; (with_reducible refine (KB.out _ _ HP5.out).mono ?_); rintro e w6 ⟨rfl, hT, hP6⟩; have hd6 := Lib.hid (cell2_two hd5.out hT hgb hrb); have HD6 := Lib.hid (cells_two HD5.out hT hgb hrb); have HP6 := Lib.hid hP6; clear hT hP6))
              clear hd2
              go_wp2_with fail
              have hz0 := HD6.out
              have KC : Hid (∀ (V : World) (M : List It), PairAt g r L1 M w V → Calls Try.prog 18 #[.pointer (some ⟨g, 0, none⟩), .int .i64 xa] V fun e w' => e = .returned (.int .i64 ((Lane.row L1 xa).length : Nat)) ∧ Only2 g r V w' ∧ PairAt g r L1 M w w') := Lib.hid fun V M h => h.lenL xa HG1.out
              have KD : Hid (∀ (V : World) (M : List It), PairAt g r M L1 w V → Calls Try.prog 19 #[.pointer (some ⟨r, 0, none⟩), .int .i64 xa] V fun e w' => e = .returned (.int .i64 ((Lane.row L1 xa).length : Nat)) ∧ Only2 g r V w' ∧ PairAt g r M L1 w w') := Lib.hid fun V M h => h.lenR xa
              generalize ((Lane.row L1 xa).length : Nat) = n at KC KD
              have HPz := Lib.hid (HP6.out.next (Ok.refl _).drew)
              go_region_held3 (fun w' => w'.cell? ⟨wr.heap.size, 1, none⟩ = some (.int .i64 xa) ∧ w'.cell? ⟨wr.heap.size, 3, none⟩ = some (.string xs) ∧ wr.heap.size < w'.heap.size)
                (first | exact cells_drew hz0 | exact hd9.out | exact hd8.out)
                (first
                  | (go_at_call 18; (with_reducible refine (KC.out _ _ HPz.out).mono ?_); rintro e w8 ⟨rfl, hT, hP8⟩; have hd8 := Lib.hid (cells_two (cells_drew hz0) hT hgb hrb); have HP8 := Lib.hid hP8; clear hT hP8)
                  | (go_at_call 19; (with_reducible refine (KD.out _ _ HP8.out).mono ?_); rintro e w9 ⟨rfl, hT, hP9⟩; have hd9 := Lib.hid (cells_two hd8.out hT hgb hrb); have HN : Hid (DoesAt g r w (k + 1) w9) := Lib.hid ⟨_, hP9, HG1.out.more (by omega)⟩; clear hT hP9))
              go_wp2_with fail
              go_roundw
              case rel => exact ⟨k + 1, by omega, by go_num, HN⟩
              case measure => simp [intOf]; omega
            · have g2 : (xk == 2) = false := by rw [beq_eq_false_iff_ne]; exact h2
              clear h2
              by_cases h3 : xk = 3
              · subst h3
                go_wp2_with fail
                generalize wr.alloc (.cells #[.int .i64 3, .int .i64 xa, .int .i64 xb, .string xs] 32) = W at hP1 hO1 ⊢
                have hd0 : W.cell? ⟨wr.heap.size, 1, none⟩ = some (.int .i64 xa) ∧ W.cell? ⟨wr.heap.size, 3, none⟩ = some (.string xs) ∧ wr.heap.size < W.heap.size := ⟨hO1.cell 1 rfl, hO1.cell 3 rfl, hO1.lt⟩
                have hcb := hO1.cell 2 (v := .int .i64 xb) rfl
                clear hcb
                have e1 := hd0.1
                have KA : Hid (∀ (V : World) (M : List It), PairAt g r L M w V → Calls Try.prog 16 #[.pointer (some ⟨g, 0, none⟩), .int .i64 xa] V fun e w' => e = .returned (.tuple #[]) ∧ Only2 g r V w' ∧ PairAt g r (Lane.clear xa L) M w w') := Lib.hid fun V M h => h.clearL xa HG.out
                have KB : Hid (∀ (V : World) (M : List It), PairAt g r M L w V → Calls Try.prog 17 #[.pointer (some ⟨r, 0, none⟩), .int .i64 xa] V fun e w' => e = .returned (.tuple #[]) ∧ Only2 g r V w' ∧ PairAt g r M (Lane.clear xa L) w w') := Lib.hid fun V M h => h.clearR xa HG.out
                have HG1 : Hid (Lane.Good k (Lane.clear xa L)) := Lib.hid (HG.out.clear xa)
                generalize Lane.clear xa L = L1 at KA KB HG1
                have HP0 := Lib.hid hP1
                have HD0 := Lib.hid hd0
                clear hP1 hO1 hd0
                go_wp2_with (go_at_call 16; (with_reducible refine (KA.out _ _ HP0.out).mono ?_); rintro e w5 ⟨rfl, hT, hP5⟩; have hd5 := cells_two HD0.out hT hgb hrb; have e5 := hd5.1; have HD5 := Lib.hid hd5; have HP5 := Lib.hid hP5; clear hT hP5 hd5)
                refine (KB.out _ _ HP5.out).mono ?_
                rintro e w6 ⟨rfl, hT, hP6⟩
                have HD6 := Lib.hid (cells_two HD5.out hT hgb hrb)
                have HP6 := Lib.hid hP6
                have e6 := HD6.out.1
                clear hT hP6 e1 e5
                go_wp2_with fail
                have hz0 := HD6.out
                have KC : Hid (∀ (V : World) (M : List It), PairAt g r L1 M w V → Calls Try.prog 18 #[.pointer (some ⟨g, 0, none⟩), .int .i64 xa] V fun e w' => e = .returned (.int .i64 ((Lane.row L1 xa).length : Nat)) ∧ Only2 g r V w' ∧ PairAt g r L1 M w w') := Lib.hid fun V M h => h.lenL xa HG1.out
                have KD : Hid (∀ (V : World) (M : List It), PairAt g r M L1 w V → Calls Try.prog 19 #[.pointer (some ⟨r, 0, none⟩), .int .i64 xa] V fun e w' => e = .returned (.int .i64 ((Lane.row L1 xa).length : Nat)) ∧ Only2 g r V w' ∧ PairAt g r M L1 w w') := Lib.hid fun V M h => h.lenR xa
                generalize ((Lane.row L1 xa).length : Nat) = n at KC KD
                have HPz := Lib.hid (HP6.out.next (Ok.refl _).drew)
                go_region_held3 (fun w' => w'.cell? ⟨wr.heap.size, 1, none⟩ = some (.int .i64 xa) ∧ w'.cell? ⟨wr.heap.size, 3, none⟩ = some (.string xs) ∧ wr.heap.size < w'.heap.size)
                  (first | exact cells_drew hz0 | exact hd9.out | exact hd8.out)
                  (first
                    | (go_at_call 18; (with_reducible refine (KC.out _ _ HPz.out).mono ?_); rintro e w8 ⟨rfl, hT, hP8⟩; have hd8 := Lib.hid (cells_two (cells_drew hz0) hT hgb hrb); have HP8 := Lib.hid hP8; clear hT hP8)
                    | (go_at_call 19; (with_reducible refine (KD.out _ _ HP8.out).mono ?_); rintro e w9 ⟨rfl, hT, hP9⟩; have hd9 := Lib.hid (cells_two hd8.out hT hgb hrb); have HN : Hid (DoesAt g r w (k + 1) w9) := Lib.hid ⟨_, hP9, HG1.out.more (by omega)⟩; clear hT hP9))
                go_wp2_with fail
                go_roundw
                case rel => exact ⟨k + 1, by omega, by go_num, HN⟩
                case measure => simp [intOf]; omega
              · have g3 : (xk == 3) = false := by rw [beq_eq_false_iff_ne]; exact h3
                clear h3
                go_wp2_with fail
                generalize wr.alloc (.cells #[.int .i64 xk, .int .i64 xa, .int .i64 xb, .string xs] 32) = W at hP1 hO1 ⊢
                have hd0 : W.cell? ⟨wr.heap.size, 1, none⟩ = some (.int .i64 xa) ∧ W.cell? ⟨wr.heap.size, 3, none⟩ = some (.string xs) ∧ wr.heap.size < W.heap.size := ⟨hO1.cell 1 rfl, hO1.cell 3 rfl, hO1.lt⟩
                have hcb := hO1.cell 2 (v := .int .i64 xb) rfl
                clear hcb
                have HD0 := Lib.hid hd0
                have HP0 := Lib.hid hP1
                clear hd0 hO1 hP1
                go_wp2_with fail
                have hz0 := HD0.out
                have KC : Hid (∀ (V : World) (M : List It), PairAt g r L M w V → Calls Try.prog 18 #[.pointer (some ⟨g, 0, none⟩), .int .i64 xa] V fun e w' => e = .returned (.int .i64 ((Lane.row L xa).length : Nat)) ∧ Only2 g r V w' ∧ PairAt g r L M w w') := Lib.hid fun V M h => h.lenL xa HG.out
                have KD : Hid (∀ (V : World) (M : List It), PairAt g r M L w V → Calls Try.prog 19 #[.pointer (some ⟨r, 0, none⟩), .int .i64 xa] V fun e w' => e = .returned (.int .i64 ((Lane.row L xa).length : Nat)) ∧ Only2 g r V w' ∧ PairAt g r M L w w') := Lib.hid fun V M h => h.lenR xa
                generalize ((Lane.row L xa).length : Nat) = n at KC KD
                have HPz := Lib.hid (HP0.out.next (Ok.refl _).drew)
                go_region_held3 (fun w' => w'.cell? ⟨wr.heap.size, 1, none⟩ = some (.int .i64 xa) ∧ w'.cell? ⟨wr.heap.size, 3, none⟩ = some (.string xs) ∧ wr.heap.size < w'.heap.size)
                  (first | exact cells_drew hz0 | exact hd9.out | exact hd8.out)
                  (first
                    | (go_at_call 18; (with_reducible refine (KC.out _ _ HPz.out).mono ?_); rintro e w8 ⟨rfl, hT, hP8⟩; have hd8 := Lib.hid (cells_two (cells_drew hz0) hT hgb hrb); have HP8 := Lib.hid hP8; clear hT hP8)
                    | (go_at_call 19; (with_reducible refine (KD.out _ _ HP8.out).mono ?_); rintro e w9 ⟨rfl, hT, hP9⟩; have hd9 := Lib.hid (cells_two hd8.out hT hgb hrb); have HN : Hid (DoesAt g r w (k + 1) w9) := Lib.hid ⟨_, hP9, HG.out.more (by omega)⟩; clear hT hP9))
                go_wp2_with fail
                go_roundw
                case rel => exact ⟨k + 1, by omega, by go_num, HN⟩
                case measure => simp [intOf]; omega
      · have HQ := Lib.hid hP.ok
        clear hP hG
        go_wp2_with (first
          | (go_at_call 16; (with_reducible refine (lanesClearNil _ _).mono ?_); rintro e w5 ⟨rfl, rfl⟩)
          | (go_at_call 12; (with_reducible refine (lanesPopNil _ _).mono ?_); rintro e w6 ⟨rfl, hK6⟩; have HK6 := Lib.hid hK6; clear hK6)
          | (go_at_call 10; (with_reducible refine (lanesPushNil _ _ _).mono ?_); rintro e w7 ⟨rfl, rfl⟩)
          | (go_at_call 18; (with_reducible refine (lanesLenNil _ _).mono ?_); rintro e w7 ⟨rfl, rfl⟩)
          | (go_at_call 14; (with_reducible refine (lanesTickNil _ _).mono ?_); rintro e w7 ⟨rfl, rfl⟩))
        go_ret
        exact ⟨rfl, (HQ.out.trans HK6.out).alloc _⟩
theorem own : ownKnob Try.prog.godebug = none := by kernel_rfl
theorem laidOut : laidOutB Try.prog = true := by kernel_rfl
set_option maxRecDepth 100000 in
theorem lifted (os : Os) (started : os.Started) (H : Type) (enc : TypeId × Value → H) :
    ReturnsInHanded {} Try.checked os 3 .any (Rows.laneDoesSpec.pre6 enc Try.prog Try.f3 Rows.laneDoesRow.domain false) (Rows.laneDoesSpec.post enc Try.prog Try.f3 false true false false) := by
  refine returnsInHanded_of_change (C := Try.checked) own started (by kernel_rfl) Try.func3
    (ChangeSpec.witness6 (enc := enc) (C := Try.checked) false ⟨#[], #[.slice none 0 0], []⟩ 8 (by kernel_rfl) (by kernel_rfl) (by kernel_rfl) (by kernel_rfl)) ?_
  intro W base args ds gs before hval0 hW _ _
  have hval : ∀ (j : Nat) t v, Try.f3.params[j]? = some t → args[j]? = some v → Value.okWide Try.prog W .any base t v := hval0
  have hW' := hW
  obtain ⟨p, q, hA, hV, rfl, _, _⟩ := hW
  obtain ⟨rfl, rfl⟩ := trodVars_none hV
  replace hA : DataW.TrodAll enc Try.prog W 0 (fun _ => true) true Try.f3.params.toList args.toList ds p := hA
  rw [Try.params3] at hA hval
  obtain ⟨v0, vs0, d0, ds0, p0, q0, hargs, rfl, rfl, h0, r0⟩ := trodAll_cons hA
  obtain ⟨rfl, rfl, rfl⟩ := trodAll_nil r0
  obtain rfl : args = #[v0] := by cases args; simp_all
  obtain ⟨A0, l0, c0, rfl, hA0, hl0, hw0⟩ := open_slice_rows calcells calok calkinds callen calof (by decide) Try.underlying22 Try.underlying32 (by kernel_rfl) (by kernel_rfl) (by kernel_rfl) (hval 0 22 v0 rfl rfl) h0
  refine (walk W A0 l0 c0 hA0 hl0 hw0).mono fun e W' ⟨he, hb⟩ => ?_
  subst he
  exact ⟨_, rfl, law_post hW' laidOut (by rw [Try.params3]; exact params_ok (by kernel_rfl)) rfl (by kernel_rfl) Try.underlying4 rfl rfl rfl hb⟩
theorem over : Rows.laneDoesRow.holds Try.pinned (OpenSpec.ofChange Rows.laneDoesSpec) :=
  OpenClaim.holds_of_wide 3 Try.f3 rfl rfl rfl rfl rfl rfl rfl ⟨rfl, rfl, rfl, rfl, rfl⟩ rfl rfl rfl rfl rfl (by kernel_rfl) Try.func3 (by kernel_rfl)
    (of_decide_eq_true (by kernel_rfl)) (by unfold Func.isWrapper; first | (rw [if_pos (by decide +kernel)]; kernel_rfl) | (rw [if_neg (by decide +kernel)]; exact ⟨rfl, rfl⟩))
    (fun os started H enc _ => lifted os started H enc)
theorem proved : Rows.LaneDoesSaid := over
end Go.Proofs.Ytnjlamnpiafpdaa.laneDoes
