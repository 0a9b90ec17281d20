/- MemberDoes: for every script of calls the law answers true: each answer, the neighbours and their ages are the document's; of a nil table nothing. No condition. -/
import Derived.Test.YtcoeiedaopmpcaaC14k
import Derived.Deep.RegionHeld3
namespace Go.Proofs.Ytcoeiedaopmpcaa.memberDoes
open Go.ChangeShapes Go.WideShapes Go.ChangeAt Go.RowKit
set_option linter.unusedVariables false
set_option maxRecDepth 100000
attribute [local go_sem ↓] Go.wp_at_zero Go.wp_at_succ
def Does (w W : World) (g b r : Nat) : Prop := ∃ f, PairM w W g b r f f
def TickMid (B : Nat) (x : Int) (w : World) (g b r : Nat) (f f' : NF) (l : List Int) (A : Option Addr) (W : World) : Prop := IntsAt W A l ∧ (∀ a, A = some a → a.block ≠ r) ∧ In B x w W g b r f f'
def TickFin (B : Nat) (x : Int) (w : World) (g b r : Nat) (f f' : NF) (l : List Int) (A A2 : Option Addr) (W : World) : Prop := IntsAt W A l ∧ IntsAt W A2 l ∧ In B x w W g b r f f'
def NMid (w : World) (g b r : Nat) (f : NF) (l : List Int) (A : Option Addr) (W : World) : Prop := IntsAt W A l ∧ PairM w W g b r f f
def NFin (w : World) (g b r : Nat) (f : NF) (l : List Int) (A A2 : Option Addr) (W : World) : Prop := IntsAt W A l ∧ IntsAt W A2 l ∧ PairM w W g b r f f
/-- What each operation leaves. -/
def VMD18 (r B q : Nat) (w : World) (v : Value) : Nat → Prop
  | 0 => v = .pointer (some ⟨r, 0, none⟩)
  | 1 => v = .pointer (some ⟨B, 1, none⟩)
  | 2 => v = .int .i64 (q : Int)
  | 3 => v = .agg #[.bool false, .int .i64 0, .int .i64 0]
  | 4 => v = .pointer (some ⟨r, 0, none⟩)
  | 5 => v = .pointer (some ⟨r, 0, none⟩)
  | 6 => v = .pointer (some ⟨r, q * 3, none⟩)
  | _ => v = .bool true
/-- It stays so. -/
def VCD18 (r B q : Nat) (i : Nat) (v : Value) (w : World) : Prop := ∀ w', Ok w w' → VMD18 r B q w' v i
set_option maxHeartbeats 16000000 in
theorem walk (w : World) (A : Option Addr) (l : List (Int × Int)) (c : Nat) (hA : PairsAt w A l) (hl : l.length ≤ 9223372036854775807) (hw : ∀ s ∈ l, (Lit.int .i64 s.1).wf = true ∧ (Lit.int .i64 s.2).wf = true) :
    Calls Try.prog 3 #[.slice A l.length c] w fun e w' => e = .returned (.bool true) ∧ Below w.heap.size w w' := by
  have HA := Lib.hid hA
  have HW := Lib.hid hw
  clear hA hw
  by_cases hc : 400 < l.length
  · go_enter Try.func3, Try.ntmps3
    go_wp2_with (go_at_call 7; (with_reducible refine (memAlive _).mono ?_); rintro e w1 ⟨rfl, hok1⟩)
    go_ret
    exact ⟨rfl, hok1⟩
  · have hz := zeroRef
    go_enter Try.func3, Try.ntmps3
    go_wp2_with (first
      | (go_at_call 7; (with_reducible refine (memAlive _).mono ?_); rintro e w1 ⟨rfl, hok1⟩)
      | (go_at_call 8; (with_reducible refine (memNew _).mono ?_); rintro e w2 ⟨rfl, hk2, hT2⟩))
    have H0 : Hid (Does w (w2.alloc (.cells zeroT 31)) (w1.heap.size + 1) w1.heap.size w2.heap.size) := Lib.hid ⟨_, pair_start hok1 hk2 hT2⟩
    clear hok1 hk2 hT2 hz
    generalize w2.alloc (.cells zeroT 31) = w3 at H0 ⊢
    generalize w1.heap.size + 1 = g at H0 ⊢
    generalize w1.heap.size = b at H0
    generalize w2.heap.size = r at H0 ⊢
    go_loopw [25] (fun i wr => ∃ k : Nat, k ≤ l.length ∧ i = .int .i64 k ∧ Hid (Does w wr g b r)) (fun i _ => l.length - (intOf i).toNat)
    case atStart => exact ⟨0, Nat.zero_le _, rfl, H0⟩
    case round =>
      obtain ⟨k, hk, rfl, hrel⟩ := hrel
      clear H0
      obtain ⟨f, hP⟩ := hrel.out
      clear hrel
      by_cases hlt : k < l.length
      · obtain ⟨B0, off, hAe, hb1, c0, c1⟩ := (HA.out.below hP.tab.ok) k hlt
        subst hAe
        have hwx := (HW.out l[k] (List.getElem_mem hlt)).2
        obtain ⟨s, hs⟩ : ∃ s, l[k] = s := ⟨_, rfl⟩
        rw [hs] at c0 c1 hwx
        obtain ⟨xk, xn⟩ := s
        simp only at c0 c1 hwx
        have hwx := Lib.hid hwx
        have hI0 : In wr.heap.size xn w (wr.alloc (.cells #[.int .i64 xk, .int .i64 xn] 33)) g b r f f :=
          ⟨hP.next ((Ok.refl _).alloc _), (Own.new wr #[.int .i64 xk, .int .i64 xn] 33 rfl).cell 1 rfl, (Own.new wr #[.int .i64 xk, .int .i64 xn] 33 rfl).lt, by have := hP.tab.tab.lt; have := hP.ref.lt; omega⟩
        have HG := Lib.hid hP.tab.good
        clear hs hb1 hP
        by_cases h0 : xk = 0
        · subst h0
          go_wp2_with fail
          generalize wr.alloc (.cells #[.int .i64 0, .int .i64 xn] 33) = W at hI0 ⊢
          have HI0 := Lib.hid (hI0.next (Ok.refl _).drew)
          have hd0 := (hI0.next (Ok.refl _).drew).cel
          clear hI0 c0 c1
          have KA : Hid (∀ V, In wr.heap.size xn w V g b r f f → Calls Try.prog 9 #[.pointer (some ⟨g, 0, none⟩), .int .i64 xn] V fun e w' => e = .returned (.int .i64 (Mem.hearE f xn)) ∧ In wr.heap.size xn w w' g b r (Mem.hear f xn) f) := Lib.hid fun V h => h.hearL hwx.out
          have KB : Hid (∀ V, In wr.heap.size xn w V g b r (Mem.hear f xn) f → Calls Try.prog 10 #[.pointer (some ⟨r, 0, none⟩), .int .i64 xn] V fun e w' => e = .returned (.int .i64 (Mem.hearE f xn)) ∧ In wr.heap.size xn w w' g b r (Mem.hear f xn) (Mem.hear f xn)) := Lib.hid fun V h => h.hearR
          generalize Mem.hearE f xn = E at KA KB
          generalize wr.heap.size = B at *
          go_region_held3 (fun w' => w'.cell? ⟨B, 1, none⟩ = some (.int .i64 xn) ∧ B < w'.heap.size)
            (first | exact hd0 | exact hd6.out | exact hd5.out)
            (first
              | (go_at_call 9; (with_reducible refine (KA.out _ HI0.out).mono ?_); rintro e w5 ⟨rfl, hI5⟩; have hd5 := Lib.hid hI5.cel; have HI5 := Lib.hid hI5; clear hI5)
              | (go_at_call 10; (with_reducible refine (KB.out _ HI5.out).mono ?_); rintro e w6 ⟨rfl, hI6⟩; have hd6 := Lib.hid hI6.cel; have HI6 := Lib.hid hI6; clear hI6))
          have HF := Lib.hid HI6.out.pair
          have qE : (E == E) = true := by simp
          clear hd0 KA KB HI0 HI5 HI6 hd5 hd6
          have HGF := Lib.hid HF.out.tab.good
          generalize (Mem.hear f xn) = F at HF HGF
          obtain ⟨n, hn⟩ : ∃ n, (Mem.nums F).length = n := ⟨_, rfl⟩
          have hn48 : n ≤ 48 := by rw [← hn]; exact Mem.nums_le F
          have hnl : (Mem.ints (Mem.nums F)).length = n := by rw [Mem.ints_length, hn]
          have KNr : Hid (∀ V, PairM w V g b r F F → Calls Try.prog 15 #[.pointer (some ⟨g, 0, none⟩)] V fun e w' => ∃ A c, e = .returned (.slice A n c) ∧ NMid w g b r F (Mem.ints (Mem.nums F)) A w') := Lib.hid fun V h => by
            refine h.tab.near.mono fun e w' ⟨A, c, h1, h2, h3, h4⟩ => ⟨A, c, by rw [h1, hn], h2, h.next h4⟩
          have KNu : Hid (∀ V A, NMid w g b r F (Mem.ints (Mem.nums F)) A V → Calls Try.prog 16 #[.pointer (some ⟨r, 0, none⟩)] V fun e w' => ∃ A2 c, e = .returned (.slice A2 n c) ∧ NFin w g b r F (Mem.ints (Mem.nums F)) A A2 w') := Lib.hid fun V A h => by
            refine (refNumbers r F V h.2.ref).mono fun e w' ⟨A2, c, h1, h2, _, h4⟩ => ⟨A2, c, by rw [h1, hn], h4.ints h.1, h2, h.2.next h4⟩
          have KSm : Hid (∀ V A A2 c c', NFin w g b r F (Mem.ints (Mem.nums F)) A A2 V → Calls Try.prog 11 #[.slice A n c, .slice A2 n c'] V fun e w' => e = .returned (.bool true) ∧ PairM w w' g b r F F) := Lib.hid fun V A A2 c c' h => by
            exact (sameTrue A A2 _ n c c' V hnl h.1 h.2.1 (by omega)).mono fun e w' ⟨k1, k2⟩ => ⟨k1, h.2.2.next k2⟩
          have KAg : Hid (∀ V (j : Nat), j < 48 → PairM w V g b r F F → Calls Try.prog 17 #[.pointer (some ⟨g, 0, none⟩), .int .i64 (j : Int)] V fun e w' => e = .returned (.tuple #[.int .i64 (Mem.age (F j)), .bool (F j).isSome]) ∧ PairM w w' g b r F F ∧ Ok V w') := Lib.hid fun V j hj h => by
            refine (h.tab.age (wf_nat (by omega))).mono fun e w' ⟨h1, _, h3⟩ => ⟨by rw [h1, Mem.look_at], h.next h3, h3⟩
          clear hn hn48 hnl HGF
          generalize Mem.ints (Mem.nums F) = nl at KNr KNu KSm
          go_wp2_with (first
            | (go_at_call 15; (with_reducible refine (KNr.out _ HF.out).mono ?_); rintro e w7 ⟨A7, c7, rfl, hN7⟩; replace hN7 := Lib.hid hN7)
            | (go_at_call 16; (with_reducible refine (KNu.out _ _ hN7.out).mono ?_); rintro e w8 ⟨A8, c8, rfl, hN8⟩; replace hN8 := Lib.hid hN8)
            | (go_at_call 11; (with_reducible refine (KSm.out _ _ _ _ _ hN8.out).mono ?_); rintro e w9 ⟨rfl, hP9⟩; obtain ⟨cs, ⟨tt, hBk⟩, hC⟩ := hP9.ref; have HI := Lib.hid (refInfo hC.size); have HX := Lib.hid fun k hk W => refIndex hC (k := k) hk W; replace hP9 := Lib.hid hP9; clear hC)
            | (with_reducible refine wpList_load_row rfl 29 (.tmp 86) rfl r rfl tt cs (0, 0) _ hBk Try.underlying29 rfl HI.out ?_))
          clear KNr KNu KSm hN7 hN8 HF HI hBk
          go_loopw [88] (fun v wr2 => ∃ j : Nat, j ≤ 48 ∧ v = .int .i64 j ∧ Hid (PairM w wr2 g b r F F)) (fun v _ => 48 - (intOf v).toNat)
          case atStart => exact ⟨0, by omega, rfl, hP9⟩
          case round =>
            obtain ⟨j, hj, rfl, hrel⟩ := hrel
            clear hP9
            by_cases hj2 : j < 48
            · have hx := HX.out j hj2
              have KA := Lib.hid fun V h => KAg.out V j hj2 h
              generalize (F j).isSome = s at hx KA
              generalize Mem.age (F j) = a at hx KA
              generalize Mem.quiet (F j) = y at hx
              have q1 : (s != s) = false := by simp
              have q2 : (a != a) = false := by simp
              have HW0 : Hid (PairM w (wr.alloc (.cells #[.bool s, .int .i64 a, .int .i64 y] 28)) g b r F F) := Lib.hid (hrel.out.next ((Ok.refl _).alloc _))
              have hOx := Own.new wr #[.bool s, .int .i64 a, .int .i64 y] 28 rfl
              have HOx := Lib.hid hOx
              clear hOx
              go_wp2_with (go_at_call 17; (with_reducible refine (KA.out _ HW0.out).mono ?_); rintro e w10 ⟨rfl, hP10, hk10⟩; have hOx := HOx.out.next hk10; have y0 := hOx.cell 0 (v := .bool s) rfl; have y1 := hOx.cell 1 (v := .int .i64 a) rfl; clear hOx hk10; replace hP10 := Lib.hid hP10)
              go_roundw
              case rel => exact ⟨j + 1, by omega, by go_num, hP10⟩
              case measure => simp [intOf]; omega
            · obtain rfl : j = 48 := by omega
              have HF : Hid (Does w wr g b r) := Lib.hid ⟨F, hrel.out⟩
              clear hrel
              go_wp2_with fail
              go_roundw
              case rel => exact ⟨k + 1, by omega, by go_num, HF⟩
              case measure => simp [intOf]; omega
        · have e0 : (xk == 0) = false := by rw [beq_eq_false_iff_ne]; exact h0
          by_cases h1 : xk = 1
          · subst h1
            go_wp2_with fail
            generalize wr.alloc (.cells #[.int .i64 1, .int .i64 xn] 33) = W at hI0 ⊢
            have HI0 := Lib.hid (hI0.next (Ok.refl _).drew)
            have hd0 := (hI0.next (Ok.refl _).drew).cel
            clear hI0 c0 c1
            have hQl : (Mem.ints (Mem.gone xn f)).length = (Mem.gone xn f).length := Mem.ints_length _
            have hQ48 : (Mem.gone xn f).length ≤ 48 := Mem.goneTo_le xn f 48
            have KA : Hid (∀ V, In wr.heap.size xn w V g b r f f → Calls Try.prog 12 #[.pointer (some ⟨g, 0, none⟩), .int .i64 xn] V fun e w' => ∃ A c, e = .returned (.slice A (Mem.gone xn f).length c) ∧ TickMid wr.heap.size xn w g b r (Mem.tick xn f) f (Mem.ints (Mem.gone xn f)) A w') := Lib.hid fun V h => h.tickL hwx.out
            have KB : Hid (∀ V A, TickMid wr.heap.size xn w g b r (Mem.tick xn f) f (Mem.ints (Mem.gone xn f)) A V → Calls Try.prog 13 #[.pointer (some ⟨r, 0, none⟩), .int .i64 xn] V fun e w' => ∃ A2 c, e = .returned (.slice A2 (Mem.gone xn f).length c) ∧ TickFin wr.heap.size xn w g b r (Mem.tick xn f) (Mem.tick xn f) (Mem.ints (Mem.gone xn f)) A A2 w') := Lib.hid fun V A h =>
              (h.2.2.tickR HG.out h.1 h.2.1).mono fun e w' ⟨A2, c, k1, k2, k3, k4⟩ => ⟨A2, c, k1, k3, k2, k4⟩
            have KC : Hid (∀ V A A2 c c', TickFin wr.heap.size xn w g b r (Mem.tick xn f) (Mem.tick xn f) (Mem.ints (Mem.gone xn f)) A A2 V → Calls Try.prog 11 #[.slice A (Mem.gone xn f).length c, .slice A2 (Mem.gone xn f).length c'] V fun e w' => e = .returned (.bool true) ∧ In wr.heap.size xn w w' g b r (Mem.tick xn f) (Mem.tick xn f)) := Lib.hid fun V A A2 c c' h =>
              (sameTrue A A2 _ _ c c' V hQl h.1 h.2.1 (by omega)).mono fun e w' ⟨k1, k2⟩ => ⟨k1, h.2.2.next k2⟩
            generalize Mem.ints (Mem.gone xn f) = gl at KA KB KC hQl
            generalize (Mem.gone xn f).length = Q at KA KB KC hQl hQ48
            clear hQl hQ48
            generalize wr.heap.size = B at *
            go_region_held3 (fun w' => w'.cell? ⟨B, 1, none⟩ = some (.int .i64 xn) ∧ B < w'.heap.size)
              (first | exact hd0 | exact hd7.out | exact hd6.out | exact hd5.out)
              (first
                | (go_at_call 12; (with_reducible refine (KA.out _ HI0.out).mono ?_); rintro e w5 ⟨A5, c5, rfl, hI5⟩; have hd5 := Lib.hid hI5.2.2.cel; have HI5 := Lib.hid hI5; clear hI5)
                | (go_at_call 13; (with_reducible refine (KB.out _ _ HI5.out).mono ?_); rintro e w6 ⟨A6, c6, rfl, hI6⟩; have hd6 := Lib.hid hI6.2.2.cel; have HI6 := Lib.hid hI6; clear hI6)
                | (go_at_call 11; (with_reducible refine (KC.out _ _ _ _ _ HI6.out).mono ?_); rintro e w7 ⟨rfl, hI7⟩; have hd7 := Lib.hid hI7.cel; have HI7 := Lib.hid hI7; clear hI7))
            have HF := Lib.hid HI7.out.pair
            clear hd0 KA KB KC HI0 HI5 HI6 HI7 hd5 hd6 hd7
            have HGF := Lib.hid HF.out.tab.good
            generalize (Mem.tick xn f) = F at HF HGF
            obtain ⟨n, hn⟩ : ∃ n, (Mem.nums F).length = n := ⟨_, rfl⟩
            have hn48 : n ≤ 48 := by rw [← hn]; exact Mem.nums_le F
            have hnl : (Mem.ints (Mem.nums F)).length = n := by rw [Mem.ints_length, hn]
            have KNr : Hid (∀ V, PairM w V g b r F F → Calls Try.prog 15 #[.pointer (some ⟨g, 0, none⟩)] V fun e w' => ∃ A c, e = .returned (.slice A n c) ∧ NMid w g b r F (Mem.ints (Mem.nums F)) A w') := Lib.hid fun V h => by
              refine h.tab.near.mono fun e w' ⟨A, c, h1, h2, h3, h4⟩ => ⟨A, c, by rw [h1, hn], h2, h.next h4⟩
            have KNu : Hid (∀ V A, NMid w g b r F (Mem.ints (Mem.nums F)) A V → Calls Try.prog 16 #[.pointer (some ⟨r, 0, none⟩)] V fun e w' => ∃ A2 c, e = .returned (.slice A2 n c) ∧ NFin w g b r F (Mem.ints (Mem.nums F)) A A2 w') := Lib.hid fun V A h => by
              refine (refNumbers r F V h.2.ref).mono fun e w' ⟨A2, c, h1, h2, _, h4⟩ => ⟨A2, c, by rw [h1, hn], h4.ints h.1, h2, h.2.next h4⟩
            have KSm : Hid (∀ V A A2 c c', NFin w g b r F (Mem.ints (Mem.nums F)) A A2 V → Calls Try.prog 11 #[.slice A n c, .slice A2 n c'] V fun e w' => e = .returned (.bool true) ∧ PairM w w' g b r F F) := Lib.hid fun V A A2 c c' h => by
              exact (sameTrue A A2 _ n c c' V hnl h.1 h.2.1 (by omega)).mono fun e w' ⟨k1, k2⟩ => ⟨k1, h.2.2.next k2⟩
            have KAg : Hid (∀ V (j : Nat), j < 48 → PairM w V g b r F F → Calls Try.prog 17 #[.pointer (some ⟨g, 0, none⟩), .int .i64 (j : Int)] V fun e w' => e = .returned (.tuple #[.int .i64 (Mem.age (F j)), .bool (F j).isSome]) ∧ PairM w w' g b r F F ∧ Ok V w') := Lib.hid fun V j hj h => by
              refine (h.tab.age (wf_nat (by omega))).mono fun e w' ⟨h1, _, h3⟩ => ⟨by rw [h1, Mem.look_at], h.next h3, h3⟩
            clear hn hn48 hnl HGF
            generalize Mem.ints (Mem.nums F) = nl at KNr KNu KSm
            go_wp2_with (first
              | (go_at_call 15; (with_reducible refine (KNr.out _ HF.out).mono ?_); rintro e w7 ⟨A7, c7, rfl, hN7⟩; replace hN7 := Lib.hid hN7)
              | (go_at_call 16; (with_reducible refine (KNu.out _ _ hN7.out).mono ?_); rintro e w8 ⟨A8, c8, rfl, hN8⟩; replace hN8 := Lib.hid hN8)
              | (go_at_call 11; (with_reducible refine (KSm.out _ _ _ _ _ hN8.out).mono ?_); rintro e w9 ⟨rfl, hP9⟩; obtain ⟨cs, ⟨tt, hBk⟩, hC⟩ := hP9.ref; have HI := Lib.hid (refInfo hC.size); have HX := Lib.hid fun k hk W => refIndex hC (k := k) hk W; replace hP9 := Lib.hid hP9; clear hC)
              | (with_reducible refine wpList_load_row rfl 29 (.tmp 86) rfl r rfl tt cs (0, 0) _ hBk Try.underlying29 rfl HI.out ?_))
            clear KNr KNu KSm hN7 hN8 HF HI hBk
            go_loopw [88] (fun v wr2 => ∃ j : Nat, j ≤ 48 ∧ v = .int .i64 j ∧ Hid (PairM w wr2 g b r F F)) (fun v _ => 48 - (intOf v).toNat)
            case atStart => exact ⟨0, by omega, rfl, hP9⟩
            case round =>
              obtain ⟨j, hj, rfl, hrel⟩ := hrel
              clear hP9
              by_cases hj2 : j < 48
              · have hx := HX.out j hj2
                have KA := Lib.hid fun V h => KAg.out V j hj2 h
                generalize (F j).isSome = s at hx KA
                generalize Mem.age (F j) = a at hx KA
                generalize Mem.quiet (F j) = y at hx
                have q1 : (s != s) = false := by simp
                have q2 : (a != a) = false := by simp
                have HW0 : Hid (PairM w (wr.alloc (.cells #[.bool s, .int .i64 a, .int .i64 y] 28)) g b r F F) := Lib.hid (hrel.out.next ((Ok.refl _).alloc _))
                have hOx := Own.new wr #[.bool s, .int .i64 a, .int .i64 y] 28 rfl
                have HOx := Lib.hid hOx
                clear hOx
                go_wp2_with (go_at_call 17; (with_reducible refine (KA.out _ HW0.out).mono ?_); rintro e w10 ⟨rfl, hP10, hk10⟩; have hOx := HOx.out.next hk10; have y0 := hOx.cell 0 (v := .bool s) rfl; have y1 := hOx.cell 1 (v := .int .i64 a) rfl; clear hOx hk10; replace hP10 := Lib.hid hP10)
                go_roundw
                case rel => exact ⟨j + 1, by omega, by go_num, hP10⟩
                case measure => simp [intOf]; omega
              · obtain rfl : j = 48 := by omega
                have HF : Hid (Does w wr g b r) := Lib.hid ⟨F, hrel.out⟩
                clear hrel
                go_wp2_with fail
                go_roundw
                case rel => exact ⟨k + 1, by omega, by go_num, HF⟩
                case measure => simp [intOf]; omega
          · have e1 : (xk == 1) = false := by rw [beq_eq_false_iff_ne]; exact h1
            by_cases h2 : xk = 2
            · subst h2
              have HI0 := Lib.hid hI0
              clear hI0
              by_cases hin : 0 ≤ xn ∧ xn ≤ 47
              · obtain ⟨q, rfl⟩ : ∃ q : Nat, xn = q := ⟨xn.toNat, by omega⟩
                have hq : q < 48 := by omega
                have hle47 : (q : Int) ≤ 47 := by omega
                clear hin
                go_upto_region 18 with (go_at_call 14; (with_reducible refine (HI0.out.dropL hwx.out).mono ?_); rintro e w5 ⟨rfl, hI5⟩; have c2 := hI5.cell; have hl5 := hI5.lt; have HI5 := Lib.hid hI5; clear hI5)
                have HC : Hid (∀ W', Ok w5.drew W' → In wr.heap.size (q : Int) w W' g b r (Mem.dropI f (q : Int)) f) := Lib.hid fun W' h => HI5.out.next ((Ok.refl w5).drew.trans h)
                clear HI0 HI5 c2 hl5 c0 c1
                generalize wr.heap.size = B at *
                refine wp_region_facts_end (by kernel_rfl) 8 136 rfl (VCD18 r B q) Ok _ rfl _ 7 rfl rfl rfl rfl (by kernel_rfl) (by kernel_rfl) (by kernel_rfl) (fun i v w w' h k w'' k' => h w'' (k.trans k')) (fun a b c => Ok.trans) (Ok.refl _) [some 67, some 68, some 69, some 70, some 71, some 72, some 73] rfl ⟨?_, ?_, ?_, ?_, ?_, ?_, ?_, trivial⟩ ?_
                · intro a' w' hF hR
                  have e4 : a'.tmps[4]? = some (.pointer (some ⟨r, 0, none⟩)) := hF.slot 4 (by kernel_rfl) rfl
                  refine wpOp_run (v := .pointer (some ⟨r, 0, none⟩)) rfl rfl ?_ (fun _ _ => rfl) (Ok.refl _)
                  clear hF
                  go_simp
                · intro a' w' hF hR
                  have e6 : a'.tmps[6]? = some (.pointer (some ⟨B, 0, none⟩)) := hF.slot 6 (by kernel_rfl) rfl
                  refine wpOp_run (v := .pointer (some ⟨B, 1, none⟩)) rfl rfl ?_ (fun _ _ => rfl) (Ok.refl _)
                  clear hF
                  go_simp
                · intro a' w' hF hR
                  obtain ⟨v1, hv1, e68⟩ := hF.get 1 68 (by kernel_rfl) (by kernel_rfl)
                  obtain rfl : v1 = _ := hv1 _ (Ok.refl _)
                  have c1 := (HC.out _ hR).cell
                  refine wpOp_run (v := .int .i64 (q : Int)) rfl rfl ?_ (fun _ _ => rfl) (Ok.refl _)
                  clear hF
                  go_simp
                · intro a' w' hF hR
                  refine wpOp_run (v := .agg #[.bool false, .int .i64 0, .int .i64 0]) rfl rfl ?_ (fun _ _ => rfl) (Ok.refl _)
                  clear hF
                  go_simp
                · intro a' w' hF hR
                  obtain ⟨v0, hv0, e67⟩ := hF.get 0 67 (by kernel_rfl) (by kernel_rfl)
                  obtain rfl : v0 = _ := hv0 _ (Ok.refl _)
                  refine wpOp_run (v := .pointer (some ⟨r, 0, none⟩)) rfl rfl ?_ (fun _ _ => rfl) (Ok.refl _)
                  clear hF
                  go_simp
                · intro a' w' hF hR
                  obtain ⟨v4, hv4, e71⟩ := hF.get 4 71 (by kernel_rfl) (by kernel_rfl)
                  obtain rfl : v4 = _ := hv4 _ (Ok.refl _)
                  refine wpOp_run (v := .pointer (some ⟨r, 0, none⟩)) rfl rfl ?_ (fun _ _ => rfl) (Ok.refl _)
                  clear hF
                  go_simp
                · intro a' w' hF hR
                  obtain ⟨v5, hv5, e72⟩ := hF.get 5 72 (by kernel_rfl) (by kernel_rfl)
                  obtain rfl : v5 = _ := hv5 _ (Ok.refl _)
                  obtain ⟨v2, hv2, e69⟩ := hF.get 2 69 (by kernel_rfl) (by kernel_rfl)
                  obtain rfl : v2 = _ := hv2 _ (Ok.refl _)
                  have hq2 : ¬ 48 ≤ (q : Int) := by omega
                  refine wpOp_run (v := .pointer (some ⟨r, q * 3, none⟩)) rfl rfl ?_ (fun _ _ => rfl) (Ok.refl _)
                  clear hF
                  go_simp
                intro vs W' hvs hR
                have e3 : vs 3 = .agg #[.bool false, .int .i64 0, .int .i64 0] := hvs 3 (by decide) _ (Ok.refl _)
                have e6 : vs 6 = .pointer (some ⟨r, q * 3, none⟩) := hvs 6 (by decide) _ (Ok.refl _)
                obtain ⟨cs1, hO1, hC1⟩ := (HC.out W' hR).pair.ref
                have hs1 := hC1.size
                have g0 := hO1.cell (q * 3) (Array.getElem?_eq_getElem (show q * 3 < cs1.size by omega))
                have g1 := hO1.cell (q * 3 + 1) (Array.getElem?_eq_getElem (show q * 3 + 1 < cs1.size by omega))
                have g2 := hO1.cell (q * 3 + 2) (Array.getElem?_eq_getElem (show q * 3 + 2 < cs1.size by omega))
                have f0 := hO1.frozen (q * 3)
                have f1 := hO1.frozen (q * 3 + 1)
                have f2 := hO1.frozen (q * 3 + 2)
                have hF0 := Lib.hid (pair_put (HC.out W' hR).pair hq hO1 hC1)
                clear hvs hO1 hC1 HC
                simp only [putFrom, e3, e6]
                simp only [Act.put, List.setIfInBounds_toArray, List.set_cons_zero, List.set_cons_succ]
                refine wpOp_store (w' := ((W'.setCell ⟨r, q * 3, none⟩ (.bool false)).setCell ⟨r, q * 3 + 1, none⟩ (.int .i64 0)).setCell ⟨r, q * 3 + 2, none⟩ (.int .i64 0)) rfl rfl rfl ?_ ?_
                · go_simp
                clear g0 g1 g2 f0 f1 f2 hs1 hR
                generalize ((W'.setCell ⟨r, q * 3, none⟩ (.bool false)).setCell ⟨r, q * 3 + 1, none⟩ (.int .i64 0)).setCell ⟨r, q * 3 + 2, none⟩ (.int .i64 0) = W6 at hF0 ⊢
                have HF : Hid (PairM w W6 g b r (Mem.dropI f (q : Int)) (Mem.dropI f (q : Int))) := Lib.hid (by have := hF0.out; rwa [← Mem.dropI_at] at this)
                clear hF0
                go_wp2_with fail
                have HGF := Lib.hid HF.out.tab.good
                generalize (Mem.dropI f (q : Int)) = F at HF HGF
                obtain ⟨n, hn⟩ : ∃ n, (Mem.nums F).length = n := ⟨_, rfl⟩
                have hn48 : n ≤ 48 := by rw [← hn]; exact Mem.nums_le F
                have hnl : (Mem.ints (Mem.nums F)).length = n := by rw [Mem.ints_length, hn]
                have KNr : Hid (∀ V, PairM w V g b r F F → Calls Try.prog 15 #[.pointer (some ⟨g, 0, none⟩)] V fun e w' => ∃ A c, e = .returned (.slice A n c) ∧ NMid w g b r F (Mem.ints (Mem.nums F)) A w') := Lib.hid fun V h => by
                  refine h.tab.near.mono fun e w' ⟨A, c, h1, h2, h3, h4⟩ => ⟨A, c, by rw [h1, hn], h2, h.next h4⟩
                have KNu : Hid (∀ V A, NMid w g b r F (Mem.ints (Mem.nums F)) A V → Calls Try.prog 16 #[.pointer (some ⟨r, 0, none⟩)] V fun e w' => ∃ A2 c, e = .returned (.slice A2 n c) ∧ NFin w g b r F (Mem.ints (Mem.nums F)) A A2 w') := Lib.hid fun V A h => by
                  refine (refNumbers r F V h.2.ref).mono fun e w' ⟨A2, c, h1, h2, _, h4⟩ => ⟨A2, c, by rw [h1, hn], h4.ints h.1, h2, h.2.next h4⟩
                have KSm : Hid (∀ V A A2 c c', NFin w g b r F (Mem.ints (Mem.nums F)) A A2 V → Calls Try.prog 11 #[.slice A n c, .slice A2 n c'] V fun e w' => e = .returned (.bool true) ∧ PairM w w' g b r F F) := Lib.hid fun V A A2 c c' h => by
                  exact (sameTrue A A2 _ n c c' V hnl h.1 h.2.1 (by omega)).mono fun e w' ⟨k1, k2⟩ => ⟨k1, h.2.2.next k2⟩
                have KAg : Hid (∀ V (j : Nat), j < 48 → PairM w V g b r F F → Calls Try.prog 17 #[.pointer (some ⟨g, 0, none⟩), .int .i64 (j : Int)] V fun e w' => e = .returned (.tuple #[.int .i64 (Mem.age (F j)), .bool (F j).isSome]) ∧ PairM w w' g b r F F ∧ Ok V w') := Lib.hid fun V j hj h => by
                  refine (h.tab.age (wf_nat (by omega))).mono fun e w' ⟨h1, _, h3⟩ => ⟨by rw [h1, Mem.look_at], h.next h3, h3⟩
                clear hn hn48 hnl HGF
                generalize Mem.ints (Mem.nums F) = nl at KNr KNu KSm
                go_wp2_with (first
                  | (go_at_call 15; (with_reducible refine (KNr.out _ HF.out).mono ?_); rintro e w7 ⟨A7, c7, rfl, hN7⟩; replace hN7 := Lib.hid hN7)
                  | (go_at_call 16; (with_reducible refine (KNu.out _ _ hN7.out).mono ?_); rintro e w8 ⟨A8, c8, rfl, hN8⟩; replace hN8 := Lib.hid hN8)
                  | (go_at_call 11; (with_reducible refine (KSm.out _ _ _ _ _ hN8.out).mono ?_); rintro e w9 ⟨rfl, hP9⟩; obtain ⟨cs, ⟨tt, hBk⟩, hC⟩ := hP9.ref; have HI := Lib.hid (refInfo hC.size); have HX := Lib.hid fun k hk W => refIndex hC (k := k) hk W; replace hP9 := Lib.hid hP9; clear hC)
                  | (with_reducible refine wpList_load_row rfl 29 (.tmp 86) rfl r rfl tt cs (0, 0) _ hBk Try.underlying29 rfl HI.out ?_))
                clear KNr KNu KSm hN7 hN8 HF HI hBk
                go_loopw [88] (fun v wr2 => ∃ j : Nat, j ≤ 48 ∧ v = .int .i64 j ∧ Hid (PairM w wr2 g b r F F)) (fun v _ => 48 - (intOf v).toNat)
                case atStart => exact ⟨0, by omega, rfl, hP9⟩
                case round =>
                  obtain ⟨j, hj, rfl, hrel⟩ := hrel
                  clear hP9
                  by_cases hj2 : j < 48
                  · have hx := HX.out j hj2
                    have KA := Lib.hid fun V h => KAg.out V j hj2 h
                    generalize (F j).isSome = s at hx KA
                    generalize Mem.age (F j) = a at hx KA
                    generalize Mem.quiet (F j) = y at hx
                    have q1 : (s != s) = false := by simp
                    have q2 : (a != a) = false := by simp
                    have HW0 : Hid (PairM w (wr.alloc (.cells #[.bool s, .int .i64 a, .int .i64 y] 28)) g b r F F) := Lib.hid (hrel.out.next ((Ok.refl _).alloc _))
                    have hOx := Own.new wr #[.bool s, .int .i64 a, .int .i64 y] 28 rfl
                    have HOx := Lib.hid hOx
                    clear hOx
                    go_wp2_with (go_at_call 17; (with_reducible refine (KA.out _ HW0.out).mono ?_); rintro e w10 ⟨rfl, hP10, hk10⟩; have hOx := HOx.out.next hk10; have y0 := hOx.cell 0 (v := .bool s) rfl; have y1 := hOx.cell 1 (v := .int .i64 a) rfl; clear hOx hk10; replace hP10 := Lib.hid hP10)
                    go_roundw
                    case rel => exact ⟨j + 1, by omega, by go_num, hP10⟩
                    case measure => simp [intOf]; omega
                  · obtain rfl : j = 48 := by omega
                    have HF : Hid (Does w wr g b r) := Lib.hid ⟨F, hrel.out⟩
                    clear hrel
                    go_wp2_with fail
                    go_roundw
                    case rel => exact ⟨k + 1, by omega, by go_num, HF⟩
                    case measure => simp [intOf]; omega
              · have HE : Hid (Mem.dropI f xn = f) := Lib.hid (by
                  unfold Mem.dropI
                  split
                  · funext j
                    unfold Mem.drop
                    split
                    · rename_i e
                      rw [HG.out.far j (by omega)]
                    · rfl
                  · rfl)
                have hor : xn < 0 ∨ 47 < xn := by omega
                clear hin
                rcases hor with hn0 | hn0
                · go_wp2_with (go_at_call 14; (with_reducible refine (HI0.out.dropL hwx.out).mono ?_); rintro e w5 ⟨rfl, hI5⟩; have c2 := hI5.cell; have hl5 := hI5.lt; have HI5 := Lib.hid hI5; clear hI5)
                  have HF : Hid (PairM w w5 g b r f f) := Lib.hid (by have := HI5.out.pair; rwa [HE.out] at this)
                  clear HI0 HI5 c2 hl5 c0 c1
                  generalize wr.heap.size = B at *
                  have HGF := Lib.hid HF.out.tab.good
                  generalize f = F at *
                  obtain ⟨n, hn⟩ : ∃ n, (Mem.nums F).length = n := ⟨_, rfl⟩
                  have hn48 : n ≤ 48 := by rw [← hn]; exact Mem.nums_le F
                  have hnl : (Mem.ints (Mem.nums F)).length = n := by rw [Mem.ints_length, hn]
                  have KNr : Hid (∀ V, PairM w V g b r F F → Calls Try.prog 15 #[.pointer (some ⟨g, 0, none⟩)] V fun e w' => ∃ A c, e = .returned (.slice A n c) ∧ NMid w g b r F (Mem.ints (Mem.nums F)) A w') := Lib.hid fun V h => by
                    refine h.tab.near.mono fun e w' ⟨A, c, h1, h2, h3, h4⟩ => ⟨A, c, by rw [h1, hn], h2, h.next h4⟩
                  have KNu : Hid (∀ V A, NMid w g b r F (Mem.ints (Mem.nums F)) A V → Calls Try.prog 16 #[.pointer (some ⟨r, 0, none⟩)] V fun e w' => ∃ A2 c, e = .returned (.slice A2 n c) ∧ NFin w g b r F (Mem.ints (Mem.nums F)) A A2 w') := Lib.hid fun V A h => by
                    refine (refNumbers r F V h.2.ref).mono fun e w' ⟨A2, c, h1, h2, _, h4⟩ => ⟨A2, c, by rw [h1, hn], h4.ints h.1, h2, h.2.next h4⟩
                  have KSm : Hid (∀ V A A2 c c', NFin w g b r F (Mem.ints (Mem.nums F)) A A2 V → Calls Try.prog 11 #[.slice A n c, .slice A2 n c'] V fun e w' => e = .returned (.bool true) ∧ PairM w w' g b r F F) := Lib.hid fun V A A2 c c' h => by
                    exact (sameTrue A A2 _ n c c' V hnl h.1 h.2.1 (by omega)).mono fun e w' ⟨k1, k2⟩ => ⟨k1, h.2.2.next k2⟩
                  have KAg : Hid (∀ V (j : Nat), j < 48 → PairM w V g b r F F → Calls Try.prog 17 #[.pointer (some ⟨g, 0, none⟩), .int .i64 (j : Int)] V fun e w' => e = .returned (.tuple #[.int .i64 (Mem.age (F j)), .bool (F j).isSome]) ∧ PairM w w' g b r F F ∧ Ok V w') := Lib.hid fun V j hj h => by
                    refine (h.tab.age (wf_nat (by omega))).mono fun e w' ⟨h1, _, h3⟩ => ⟨by rw [h1, Mem.look_at], h.next h3, h3⟩
                  clear hn hn48 hnl HGF
                  generalize Mem.ints (Mem.nums F) = nl at KNr KNu KSm
                  go_wp2_with (first
                    | (go_at_call 15; (with_reducible refine (KNr.out _ HF.out).mono ?_); rintro e w7 ⟨A7, c7, rfl, hN7⟩; replace hN7 := Lib.hid hN7)
                    | (go_at_call 16; (with_reducible refine (KNu.out _ _ hN7.out).mono ?_); rintro e w8 ⟨A8, c8, rfl, hN8⟩; replace hN8 := Lib.hid hN8)
                    | (go_at_call 11; (with_reducible refine (KSm.out _ _ _ _ _ hN8.out).mono ?_); rintro e w9 ⟨rfl, hP9⟩; obtain ⟨cs, ⟨tt, hBk⟩, hC⟩ := hP9.ref; have HI := Lib.hid (refInfo hC.size); have HX := Lib.hid fun k hk W => refIndex hC (k := k) hk W; replace hP9 := Lib.hid hP9; clear hC)
                    | (with_reducible refine wpList_load_row rfl 29 (.tmp 86) rfl r rfl tt cs (0, 0) _ hBk Try.underlying29 rfl HI.out ?_))
                  clear KNr KNu KSm hN7 hN8 HF HI hBk
                  go_loopw [88] (fun v wr2 => ∃ j : Nat, j ≤ 48 ∧ v = .int .i64 j ∧ Hid (PairM w wr2 g b r F F)) (fun v _ => 48 - (intOf v).toNat)
                  case atStart => exact ⟨0, by omega, rfl, hP9⟩
                  case round =>
                    obtain ⟨j, hj, rfl, hrel⟩ := hrel
                    clear hP9
                    by_cases hj2 : j < 48
                    · have hx := HX.out j hj2
                      have KA := Lib.hid fun V h => KAg.out V j hj2 h
                      generalize (F j).isSome = s at hx KA
                      generalize Mem.age (F j) = a at hx KA
                      generalize Mem.quiet (F j) = y at hx
                      have q1 : (s != s) = false := by simp
                      have q2 : (a != a) = false := by simp
                      have HW0 : Hid (PairM w (wr.alloc (.cells #[.bool s, .int .i64 a, .int .i64 y] 28)) g b r F F) := Lib.hid (hrel.out.next ((Ok.refl _).alloc _))
                      have hOx := Own.new wr #[.bool s, .int .i64 a, .int .i64 y] 28 rfl
                      have HOx := Lib.hid hOx
                      clear hOx
                      go_wp2_with (go_at_call 17; (with_reducible refine (KA.out _ HW0.out).mono ?_); rintro e w10 ⟨rfl, hP10, hk10⟩; have hOx := HOx.out.next hk10; have y0 := hOx.cell 0 (v := .bool s) rfl; have y1 := hOx.cell 1 (v := .int .i64 a) rfl; clear hOx hk10; replace hP10 := Lib.hid hP10)
                      go_roundw
                      case rel => exact ⟨j + 1, by omega, by go_num, hP10⟩
                      case measure => simp [intOf]; omega
                    · obtain rfl : j = 48 := by omega
                      have HF : Hid (Does w wr g b r) := Lib.hid ⟨F, hrel.out⟩
                      clear hrel
                      go_wp2_with fail
                      go_roundw
                      case rel => exact ⟨k + 1, by omega, by go_num, HF⟩
                      case measure => simp [intOf]; omega
                · go_wp2_with (go_at_call 14; (with_reducible refine (HI0.out.dropL hwx.out).mono ?_); rintro e w5 ⟨rfl, hI5⟩; have c2 := hI5.cell; have hl5 := hI5.lt; have HI5 := Lib.hid hI5; clear hI5)
                  have HF : Hid (PairM w w5 g b r f f) := Lib.hid (by have := HI5.out.pair; rwa [HE.out] at this)
                  clear HI0 HI5 c2 hl5 c0 c1
                  generalize wr.heap.size = B at *
                  have HGF := Lib.hid HF.out.tab.good
                  generalize f = F at *
                  obtain ⟨n, hn⟩ : ∃ n, (Mem.nums F).length = n := ⟨_, rfl⟩
                  have hn48 : n ≤ 48 := by rw [← hn]; exact Mem.nums_le F
                  have hnl : (Mem.ints (Mem.nums F)).length = n := by rw [Mem.ints_length, hn]
                  have KNr : Hid (∀ V, PairM w V g b r F F → Calls Try.prog 15 #[.pointer (some ⟨g, 0, none⟩)] V fun e w' => ∃ A c, e = .returned (.slice A n c) ∧ NMid w g b r F (Mem.ints (Mem.nums F)) A w') := Lib.hid fun V h => by
                    refine h.tab.near.mono fun e w' ⟨A, c, h1, h2, h3, h4⟩ => ⟨A, c, by rw [h1, hn], h2, h.next h4⟩
                  have KNu : Hid (∀ V A, NMid w g b r F (Mem.ints (Mem.nums F)) A V → Calls Try.prog 16 #[.pointer (some ⟨r, 0, none⟩)] V fun e w' => ∃ A2 c, e = .returned (.slice A2 n c) ∧ NFin w g b r F (Mem.ints (Mem.nums F)) A A2 w') := Lib.hid fun V A h => by
                    refine (refNumbers r F V h.2.ref).mono fun e w' ⟨A2, c, h1, h2, _, h4⟩ => ⟨A2, c, by rw [h1, hn], h4.ints h.1, h2, h.2.next h4⟩
                  have KSm : Hid (∀ V A A2 c c', NFin w g b r F (Mem.ints (Mem.nums F)) A A2 V → Calls Try.prog 11 #[.slice A n c, .slice A2 n c'] V fun e w' => e = .returned (.bool true) ∧ PairM w w' g b r F F) := Lib.hid fun V A A2 c c' h => by
                    exact (sameTrue A A2 _ n c c' V hnl h.1 h.2.1 (by omega)).mono fun e w' ⟨k1, k2⟩ => ⟨k1, h.2.2.next k2⟩
                  have KAg : Hid (∀ V (j : Nat), j < 48 → PairM w V g b r F F → Calls Try.prog 17 #[.pointer (some ⟨g, 0, none⟩), .int .i64 (j : Int)] V fun e w' => e = .returned (.tuple #[.int .i64 (Mem.age (F j)), .bool (F j).isSome]) ∧ PairM w w' g b r F F ∧ Ok V w') := Lib.hid fun V j hj h => by
                    refine (h.tab.age (wf_nat (by omega))).mono fun e w' ⟨h1, _, h3⟩ => ⟨by rw [h1, Mem.look_at], h.next h3, h3⟩
                  clear hn hn48 hnl HGF
                  generalize Mem.ints (Mem.nums F) = nl at KNr KNu KSm
                  go_wp2_with (first
                    | (go_at_call 15; (with_reducible refine (KNr.out _ HF.out).mono ?_); rintro e w7 ⟨A7, c7, rfl, hN7⟩; replace hN7 := Lib.hid hN7)
                    | (go_at_call 16; (with_reducible refine (KNu.out _ _ hN7.out).mono ?_); rintro e w8 ⟨A8, c8, rfl, hN8⟩; replace hN8 := Lib.hid hN8)
                    | (go_at_call 11; (with_reducible refine (KSm.out _ _ _ _ _ hN8.out).mono ?_); rintro e w9 ⟨rfl, hP9⟩; obtain ⟨cs, ⟨tt, hBk⟩, hC⟩ := hP9.ref; have HI := Lib.hid (refInfo hC.size); have HX := Lib.hid fun k hk W => refIndex hC (k := k) hk W; replace hP9 := Lib.hid hP9; clear hC)
                    | (with_reducible refine wpList_load_row rfl 29 (.tmp 86) rfl r rfl tt cs (0, 0) _ hBk Try.underlying29 rfl HI.out ?_))
                  clear KNr KNu KSm hN7 hN8 HF HI hBk
                  go_loopw [88] (fun v wr2 => ∃ j : Nat, j ≤ 48 ∧ v = .int .i64 j ∧ Hid (PairM w wr2 g b r F F)) (fun v _ => 48 - (intOf v).toNat)
                  case atStart => exact ⟨0, by omega, rfl, hP9⟩
                  case round =>
                    obtain ⟨j, hj, rfl, hrel⟩ := hrel
                    clear hP9
                    by_cases hj2 : j < 48
                    · have hx := HX.out j hj2
                      have KA := Lib.hid fun V h => KAg.out V j hj2 h
                      generalize (F j).isSome = s at hx KA
                      generalize Mem.age (F j) = a at hx KA
                      generalize Mem.quiet (F j) = y at hx
                      have q1 : (s != s) = false := by simp
                      have q2 : (a != a) = false := by simp
                      have HW0 : Hid (PairM w (wr.alloc (.cells #[.bool s, .int .i64 a, .int .i64 y] 28)) g b r F F) := Lib.hid (hrel.out.next ((Ok.refl _).alloc _))
                      have hOx := Own.new wr #[.bool s, .int .i64 a, .int .i64 y] 28 rfl
                      have HOx := Lib.hid hOx
                      clear hOx
                      go_wp2_with (go_at_call 17; (with_reducible refine (KA.out _ HW0.out).mono ?_); rintro e w10 ⟨rfl, hP10, hk10⟩; have hOx := HOx.out.next hk10; have y0 := hOx.cell 0 (v := .bool s) rfl; have y1 := hOx.cell 1 (v := .int .i64 a) rfl; clear hOx hk10; replace hP10 := Lib.hid hP10)
                      go_roundw
                      case rel => exact ⟨j + 1, by omega, by go_num, hP10⟩
                      case measure => simp [intOf]; omega
                    · obtain rfl : j = 48 := by omega
                      have HF : Hid (Does w wr g b r) := Lib.hid ⟨F, hrel.out⟩
                      clear hrel
                      go_wp2_with fail
                      go_roundw
                      case rel => exact ⟨k + 1, by omega, by go_num, HF⟩
                      case measure => simp [intOf]; omega
            · have e2 : (xk == 2) = false := by rw [beq_eq_false_iff_ne]; exact h2
              clear h0 h1 h2
              go_wp2_with fail
              have HF := Lib.hid hI0.pair
              clear hI0 c0 c1
              generalize wr.alloc (.cells #[.int .i64 xk, .int .i64 xn] 33) = w5 at HF ⊢
              generalize wr.heap.size = B at *
              have HGF := Lib.hid HF.out.tab.good
              generalize f = F at *
              obtain ⟨n, hn⟩ : ∃ n, (Mem.nums F).length = n := ⟨_, rfl⟩
              have hn48 : n ≤ 48 := by rw [← hn]; exact Mem.nums_le F
              have hnl : (Mem.ints (Mem.nums F)).length = n := by rw [Mem.ints_length, hn]
              have KNr : Hid (∀ V, PairM w V g b r F F → Calls Try.prog 15 #[.pointer (some ⟨g, 0, none⟩)] V fun e w' => ∃ A c, e = .returned (.slice A n c) ∧ NMid w g b r F (Mem.ints (Mem.nums F)) A w') := Lib.hid fun V h => by
                refine h.tab.near.mono fun e w' ⟨A, c, h1, h2, h3, h4⟩ => ⟨A, c, by rw [h1, hn], h2, h.next h4⟩
              have KNu : Hid (∀ V A, NMid w g b r F (Mem.ints (Mem.nums F)) A V → Calls Try.prog 16 #[.pointer (some ⟨r, 0, none⟩)] V fun e w' => ∃ A2 c, e = .returned (.slice A2 n c) ∧ NFin w g b r F (Mem.ints (Mem.nums F)) A A2 w') := Lib.hid fun V A h => by
                refine (refNumbers r F V h.2.ref).mono fun e w' ⟨A2, c, h1, h2, _, h4⟩ => ⟨A2, c, by rw [h1, hn], h4.ints h.1, h2, h.2.next h4⟩
              have KSm : Hid (∀ V A A2 c c', NFin w g b r F (Mem.ints (Mem.nums F)) A A2 V → Calls Try.prog 11 #[.slice A n c, .slice A2 n c'] V fun e w' => e = .returned (.bool true) ∧ PairM w w' g b r F F) := Lib.hid fun V A A2 c c' h => by
                exact (sameTrue A A2 _ n c c' V hnl h.1 h.2.1 (by omega)).mono fun e w' ⟨k1, k2⟩ => ⟨k1, h.2.2.next k2⟩
              have KAg : Hid (∀ V (j : Nat), j < 48 → PairM w V g b r F F → Calls Try.prog 17 #[.pointer (some ⟨g, 0, none⟩), .int .i64 (j : Int)] V fun e w' => e = .returned (.tuple #[.int .i64 (Mem.age (F j)), .bool (F j).isSome]) ∧ PairM w w' g b r F F ∧ Ok V w') := Lib.hid fun V j hj h => by
                refine (h.tab.age (wf_nat (by omega))).mono fun e w' ⟨h1, _, h3⟩ => ⟨by rw [h1, Mem.look_at], h.next h3, h3⟩
              clear hn hn48 hnl HGF
              generalize Mem.ints (Mem.nums F) = nl at KNr KNu KSm
              go_wp2_with (first
                | (go_at_call 15; (with_reducible refine (KNr.out _ HF.out).mono ?_); rintro e w7 ⟨A7, c7, rfl, hN7⟩; replace hN7 := Lib.hid hN7)
                | (go_at_call 16; (with_reducible refine (KNu.out _ _ hN7.out).mono ?_); rintro e w8 ⟨A8, c8, rfl, hN8⟩; replace hN8 := Lib.hid hN8)
                | (go_at_call 11; (with_reducible refine (KSm.out _ _ _ _ _ hN8.out).mono ?_); rintro e w9 ⟨rfl, hP9⟩; obtain ⟨cs, ⟨tt, hBk⟩, hC⟩ := hP9.ref; have HI := Lib.hid (refInfo hC.size); have HX := Lib.hid fun k hk W => refIndex hC (k := k) hk W; replace hP9 := Lib.hid hP9; clear hC)
                | (with_reducible refine wpList_load_row rfl 29 (.tmp 86) rfl r rfl tt cs (0, 0) _ hBk Try.underlying29 rfl HI.out ?_))
              clear KNr KNu KSm hN7 hN8 HF HI hBk
              go_loopw [88] (fun v wr2 => ∃ j : Nat, j ≤ 48 ∧ v = .int .i64 j ∧ Hid (PairM w wr2 g b r F F)) (fun v _ => 48 - (intOf v).toNat)
              case atStart => exact ⟨0, by omega, rfl, hP9⟩
              case round =>
                obtain ⟨j, hj, rfl, hrel⟩ := hrel
                clear hP9
                by_cases hj2 : j < 48
                · have hx := HX.out j hj2
                  have KA := Lib.hid fun V h => KAg.out V j hj2 h
                  generalize (F j).isSome = s at hx KA
                  generalize Mem.age (F j) = a at hx KA
                  generalize Mem.quiet (F j) = y at hx
                  have q1 : (s != s) = false := by simp
                  have q2 : (a != a) = false := by simp
                  have HW0 : Hid (PairM w (wr.alloc (.cells #[.bool s, .int .i64 a, .int .i64 y] 28)) g b r F F) := Lib.hid (hrel.out.next ((Ok.refl _).alloc _))
                  have hOx := Own.new wr #[.bool s, .int .i64 a, .int .i64 y] 28 rfl
                  have HOx := Lib.hid hOx
                  clear hOx
                  go_wp2_with (go_at_call 17; (with_reducible refine (KA.out _ HW0.out).mono ?_); rintro e w10 ⟨rfl, hP10, hk10⟩; have hOx := HOx.out.next hk10; have y0 := hOx.cell 0 (v := .bool s) rfl; have y1 := hOx.cell 1 (v := .int .i64 a) rfl; clear hOx hk10; replace hP10 := Lib.hid hP10)
                  go_roundw
                  case rel => exact ⟨j + 1, by omega, by go_num, hP10⟩
                  case measure => simp [intOf]; omega
                · obtain rfl : j = 48 := by omega
                  have HF : Hid (Does w wr g b r) := Lib.hid ⟨F, hrel.out⟩
                  clear hrel
                  go_wp2_with fail
                  go_roundw
                  case rel => exact ⟨k + 1, by omega, by go_num, HF⟩
                  case measure => simp [intOf]; omega
      · have HOK := Lib.hid hP.tab.ok
        clear hP
        go_wp2_with (first
          | (go_at_call 14; (with_reducible refine (memDropNil 1 _).mono ?_); rintro e w5 ⟨rfl, rfl⟩)
          | (go_at_call 17; (with_reducible refine (memAgeNil 1 _).mono ?_); rintro e w6 ⟨rfl, rfl⟩)
          | (go_at_call 9; (with_reducible refine (memHearNil 1 _).mono ?_); rintro e w7 ⟨rfl, rfl⟩)
          | (go_at_call 12; (with_reducible refine (memTickNil 1 _).mono ?_); rintro e w8 ⟨rfl, rfl⟩)
          | (go_at_call 15; (with_reducible refine (memNearNil _).mono ?_); rintro e w9 ⟨rfl, rfl⟩))
        go_ret
        exact ⟨rfl, HOK.out⟩
theorem own : ownKnob Try.prog.godebug = none := by kernel_rfl
theorem laidOut : laidOutB Try.prog = true := by kernel_rfl
set_option maxRecDepth 100000 in
theorem lifted (os : Os) (started : os.Started) (H : Type) (enc : TypeId × Value → H) :
    ReturnsInHanded {} Try.checked os 3 .any (Rows.memberDoesSpec.pre6 enc Try.prog Try.f3 Rows.memberDoesRow.domain false) (Rows.memberDoesSpec.post enc Try.prog Try.f3 false true false false) := by
  refine returnsInHanded_of_change (C := Try.checked) own started (by kernel_rfl) Try.func3
    (ChangeSpec.witness6 (enc := enc) (C := Try.checked) false ⟨#[], #[.slice none 0 0], []⟩ 8 (by kernel_rfl) (by kernel_rfl) (by kernel_rfl) (by kernel_rfl)) ?_
  intro W base args ds gs before hval0 hW _ _
  have hval : ∀ (j : Nat) t v, Try.f3.params[j]? = some t → args[j]? = some v → Value.okWide Try.prog W .any base t v := hval0
  have hW' := hW
  obtain ⟨p, q, hA, hV, rfl, _, _⟩ := hW
  obtain ⟨rfl, rfl⟩ := trodVars_none hV
  replace hA : DataW.TrodAll enc Try.prog W 0 (fun _ => true) true Try.f3.params.toList args.toList ds p := hA
  rw [Try.params3] at hA hval
  obtain ⟨v0, vs0, d0, ds0, p0, q0, hargs, rfl, rfl, h0, r0⟩ := trodAll_cons hA
  obtain ⟨rfl, rfl, rfl⟩ := trodAll_nil r0
  obtain rfl : args = #[v0] := by cases args; simp_all
  obtain ⟨A0, l0, c0, rfl, hA0, hl0, hw0⟩ := open_slice_pairs Try.underlying22 Try.underlying33 (by kernel_rfl) (by kernel_rfl) (by kernel_rfl) (by kernel_rfl) (hval 0 22 v0 rfl rfl) h0
  refine (walk W A0 l0 c0 hA0 hl0 hw0).mono fun e W' ⟨he, hb⟩ => ?_
  subst he
  exact ⟨_, rfl, law_post hW' laidOut (by rw [Try.params3]; exact params_ok (by kernel_rfl)) rfl (by kernel_rfl) Try.underlying4 rfl rfl rfl hb⟩
theorem over : Rows.memberDoesRow.holds Try.pinned (OpenSpec.ofChange Rows.memberDoesSpec) :=
  OpenClaim.holds_of_wide 3 Try.f3 rfl rfl rfl rfl rfl rfl rfl ⟨rfl, rfl, rfl, rfl, rfl⟩ rfl rfl rfl rfl rfl (by kernel_rfl) Try.func3 (by kernel_rfl)
    (of_decide_eq_true (by kernel_rfl)) (by unfold Func.isWrapper; first | (rw [if_pos (by decide +kernel)]; kernel_rfl) | (rw [if_neg (by decide +kernel)]; exact ⟨rfl, rfl⟩))
    (fun os started H enc _ => lifted os started H enc)
theorem proved : Rows.MemberDoesSaid := over
end Go.Proofs.Ytcoeiedaopmpcaa.memberDoes
