/- MemberFew: for every script of calls the law answers true: neighbours are never more than may be, stand in order, each once, and were heard. No condition. -/
import Derived.Test.YtcoeiedaopmpcaaC14j
namespace Go.Proofs.Ytcoeiedaopmpcaa.memberFew
open Go.ChangeShapes Go.WideShapes Go.ChangeAt Go.RowKit
set_option linter.unusedVariables false
set_option maxRecDepth 100000
def zeros48 : Array Value := Array.replicate 48 (.bool false)
theorem zero48 (w : World) : Sem.run Try.prog (zeroValue 46) w = .ok (.agg zeros48) w := by kernel_rfl
/-- A table of one's own, and an array of truth values in block h: who is a neighbour was heard. -/
structure Few (w W : World) (g b h : Nat) (f : NF) : Prop where
  tab : MineM w W g b f
  arr : ∃ cs, Own W h cs ∧ cs.size = 48 ∧ (∀ k, k < 48 → ∃ t, cs[k]? = some (.bool t)) ∧ ∀ k, k < 48 → (f k).isSome = true → cs[k]? = some (.bool true)
  hh : w.heap.size ≤ h ∧ h ≠ b
namespace Few
variable {w W W1 : World} {g b h : Nat} {f f' : NF}
theorem next (F : Few w W g b h f) (k : Ok W W1) : Few w W1 g b h f := by
  obtain ⟨cs, hO, r⟩ := F.arr
  exact ⟨F.tab.next k, ⟨cs, hO.next k, r⟩, F.hh⟩
theorem less (F : Few w W g b h f) (hM : MineM w W1 g b f') (k : Only b W W1) (hf : ∀ j, (f' j).isSome = true → (f j).isSome = true) : Few w W1 g b h f' := by
  obtain ⟨cs, hO, h1, h2, h3⟩ := F.arr
  exact ⟨hM, ⟨cs, k.own hO F.hh.2, h1, h2, fun j hj hs => h3 j hj (hf j hs)⟩, F.hh⟩
theorem lt (F : Few w W g b h f) : b < W.heap.size := F.tab.tab.lt.2
end Few
theorem few_start {w W W1 : World} (hok : Ok w W) (hk : Ok W W1) (hT : TabM W1 (W.heap.size + 1) W.heap.size Mem.nobody) : Few w (W1.alloc (.cells zeros48 46)) (W.heap.size + 1) W.heap.size W1.heap.size Mem.nobody := by
  have hM := MineM.made hok hk hT
  have h1 := hM.tab.lt
  have h2 := hok.size
  refine ⟨hM.next ((Ok.refl _).alloc _), ⟨zeros48, Own.new _ _ _ rfl, by simp [zeros48], fun k hk => ⟨false, by simp [zeros48, hk]⟩, fun k _ h => by cases h⟩, by omega, by omega⟩
def FewAt (w W : World) (g b h : Nat) : Prop := ∃ f, Few w W g b h f
/-- What a list of neighbours is. -/
structure FewL (w W : World) (g b h : Nat) (A : Option Addr) (ns : List Nat) : Prop where
  ints : IntsAt W A (Mem.ints ns)
  sorted : ns.Pairwise (· < ·)
  heard : ∀ k, k ∈ ns → k < 48 ∧ W.cell? ⟨h, k, none⟩ = some (.bool true)
  few : FewAt w W g b h
theorem few_near {w W : World} {g b h : Nat} (F : FewAt w W g b h) : Calls Try.prog 15 #[.pointer (some ⟨g, 0, none⟩)] W fun e w' => ∃ (A : Option Addr) (c : Nat) (ns : List Nat), e = .returned (.slice A ns.length c) ∧ ns.length ≤ 16 ∧ FewL w w' g b h A ns := by
  obtain ⟨f, F⟩ := F
  refine F.tab.near.mono fun e w' ⟨A, c, h1, h2, h3, h4⟩ => ⟨A, c, Mem.nums f, h1, F.tab.good.few, h2, List.pairwise_lt_range.filter _, fun k hk => ?_, f, F.next h4⟩
  obtain ⟨hk1, hk2⟩ := Mem.mem_nums.1 hk
  obtain ⟨cs, hO, _, _, h5⟩ := (F.next h4).arr
  exact ⟨hk1, hO.cell k (h5 k hk1 hk2)⟩
theorem few_tick {w W : World} {g b h : Nat} (F : FewAt w W g b h) {x : Int} (hx : (Lit.int .i64 x).wf = true) : Calls Try.prog 12 #[.pointer (some ⟨g, 0, none⟩), .int .i64 x] W fun e w' => ∃ v, e = .returned v ∧ FewAt w w' g b h := by
  obtain ⟨f, F⟩ := F
  exact (F.tab.tick hx).mono fun e w' ⟨A, c, h1, _, _, h2, h3⟩ => ⟨_, h1, _, F.less h2 h3 fun j hj => Mem.step_isSome hj⟩
theorem few_drop {w W : World} {g b h : Nat} (F : FewAt w W g b h) {x : Int} (hx : (Lit.int .i64 x).wf = true) : Calls Try.prog 14 #[.pointer (some ⟨g, 0, none⟩), .int .i64 x] W fun e w' => e = .returned (.tuple #[]) ∧ FewAt w w' g b h := by
  obtain ⟨f, F⟩ := F
  refine (F.tab.drop hx).mono fun e w' ⟨h1, h2, h3⟩ => ⟨h1, _, F.less h2 h3 fun j hj => ?_⟩
  unfold Mem.dropI Mem.drop at hj
  split at hj
  · simp only at hj
    split at hj
    · cases hj
    · exact hj
  · exact hj
/-- Hear: either it isn't taken, or it is a neighbour now, of which the array doesn't tell yet. -/
theorem few_hear {w W : World} {g b h B : Nat} (F : FewAt w W g b h) {x : Int} (hx : (Lit.int .i64 x).wf = true) (hB : B < W.heap.size) (hb : B ≠ b) (hc : W.cell? ⟨B, 1, none⟩ = some (.int .i64 x)) :
    Calls Try.prog 9 #[.pointer (some ⟨g, 0, none⟩), .int .i64 x] W fun e w' =>
      (∃ z, (z == 0) = false ∧ e = .returned (.int .i64 z) ∧ FewAt w w' g b h) ∨
      (e = .returned (.int .i64 0) ∧ ∃ k : Nat, x = k ∧ k < 48 ∧ w'.cell? ⟨B, 1, none⟩ = some (.int .i64 (k : Int)) ∧ ∃ v, w'.cell? ⟨h, k, none⟩ = some v ∧ w'.frozen? ⟨h, k, none⟩ = false ∧ FewAt w (w'.setCell ⟨h, k, none⟩ (.bool true)) g b h) := by
  obtain ⟨f, F⟩ := F
  refine (F.tab.hear hx).mono fun e w' ⟨h1, h2, h3⟩ => ?_
  by_cases hz : Mem.hearE f x = 0
  · obtain ⟨hb2, hn⟩ := Mem.hearE_zero hz
    obtain ⟨k, rfl⟩ : ∃ k : Nat, x = k := ⟨x.toNat, by omega⟩
    have hk : k < 48 := by omega
    obtain ⟨cs, hO, i1, i2, i3⟩ := F.arr
    obtain ⟨t, ht⟩ := i2 k hk
    have hO1 := h3.own hO F.hh.2
    refine .inr ⟨by rw [h1, hz], k, rfl, hk, (h3.cell (p := ⟨B, 1, none⟩) hB hb).trans hc, .bool t, hO1.cell k ht, hO1.frozen k, _, ⟨h2.ok.setCell (p := ⟨h, k, none⟩) F.hh.1 _, h2.hg, h2.hb, ?_, h2.good⟩, ⟨cs.set! k (.bool true), hO1.set k _, by rw [set_size]; exact i1, fun j hj => ?_, fun j hj hs => ?_⟩, F.hh⟩
    · exact h2.tab.only ((Only.refl h _).setR k _) (fun e => by
        have hg := h2.tab.own.cell 0 (v := .map (some b)) rfl
        have hh := hO1.cell 0 (Array.getElem?_eq_getElem (show 0 < cs.size by omega))
        rw [e, hh] at hg
        obtain ⟨t0, ht0⟩ := i2 0 (by decide)
        rw [Array.getElem?_eq_getElem (show 0 < cs.size by omega)] at ht0
        rw [ht0] at hg
        cases hg) (fun e => F.hh.2 e.symm)
    · by_cases e : j = k
      · subst e; exact ⟨true, set_same _ _ _ (by omega)⟩
      · rw [set_else _ _ (by omega)]; exact i2 j hj
    · by_cases e : j = k
      · subst e; exact set_same _ _ _ (by omega)
      · rw [set_else _ _ (by omega)]
        refine i3 j hj ?_
        unfold Mem.hear at hs
        rw [if_pos hz] at hs
        have : Mem.put f (k : Int).toNat (Mem.age (Mem.look f (k : Int)), 0) j = f j := if_neg (by omega)
        rwa [this] at hs
  · refine .inl ⟨_, by rw [beq_eq_false_iff_ne]; exact hz, h1, _, F.less h2 h3 fun j hj => ?_⟩
    rwa [hear_not hz] at hj
set_option maxHeartbeats 8000000 in
theorem walk (w : World) (A : Option Addr) (l : List (Int × Int)) (c : Nat) (hA : PairsAt w A l) (hl : l.length ≤ 9223372036854775807) (hw : ∀ s ∈ l, (Lit.int .i64 s.1).wf = true ∧ (Lit.int .i64 s.2).wf = true) :
    Calls Try.prog 6 #[.slice A l.length c] w fun e w' => e = .returned (.bool true) ∧ Below w.heap.size w w' := by
  have HA := Lib.hid hA
  have HW := Lib.hid hw
  clear hA hw
  by_cases hc : 400 < l.length
  · go_enter Try.func6, Try.ntmps6
    go_wp2_with (go_at_call 7; (with_reducible refine (memAlive _).mono ?_); rintro e w1 ⟨rfl, hok1⟩)
    go_ret
    exact ⟨rfl, hok1⟩
  · have hz := zero48
    go_enter Try.func6, Try.ntmps6
    go_wp2_with (first
      | (go_at_call 7; (with_reducible refine (memAlive _).mono ?_); rintro e w1 ⟨rfl, hok1⟩)
      | (go_at_call 8; (with_reducible refine (memNew _).mono ?_); rintro e w2 ⟨rfl, hk2, hT2⟩))
    have H0 : Hid (FewAt w (w2.alloc (.cells zeros48 46)) (w1.heap.size + 1) w1.heap.size w2.heap.size) := Lib.hid ⟨_, few_start hok1 hk2 hT2⟩
    clear hok1 hk2 hT2 hz
    generalize w2.alloc (.cells zeros48 46) = w3 at H0 ⊢
    generalize w1.heap.size + 1 = g at H0 ⊢
    generalize w1.heap.size = b at H0
    generalize w2.heap.size = h at H0 ⊢
    go_loopw [18] (fun i wr => ∃ k : Nat, k ≤ l.length ∧ i = .int .i64 k ∧ Hid (FewAt w wr g b h)) (fun i _ => l.length - (intOf i).toNat)
    case atStart => exact ⟨0, Nat.zero_le _, rfl, H0⟩
    case round =>
      obtain ⟨k, hk, rfl, hrel⟩ := hrel
      clear H0
      by_cases hlt : k < l.length
      · have hokr : Ok w wr := by obtain ⟨f, F⟩ := hrel.out; exact F.tab.ok
        have hbr : b < wr.heap.size := by obtain ⟨f, F⟩ := hrel.out; exact F.lt
        obtain ⟨B0, off, hAe, hb1, c0, c1⟩ := (HA.out.below hokr) k hlt
        subst hAe
        have hwx := (HW.out l[k] (List.getElem_mem hlt)).2
        obtain ⟨s, hs⟩ : ∃ s, l[k] = s := ⟨_, rfl⟩
        rw [hs] at c0 c1 hwx
        obtain ⟨xk, xn⟩ := s
        simp only at c0 c1 hwx
        have hwx := Lib.hid hwx
        have HI : Hid (FewAt w (wr.alloc (.cells #[.int .i64 xk, .int .i64 xn] 33)) g b h) := Lib.hid (by obtain ⟨f, F⟩ := hrel.out; exact ⟨f, F.next ((Ok.refl _).alloc _)⟩)
        have HB := Lib.hid (Own.new wr #[.int .i64 xk, .int .i64 xn] 33 rfl)
        clear hs hb1 hrel hokr
        by_cases h0 : xk = 0
        · subst h0
          go_wp2_with fail
          refine (few_hear HI.out hwx.out HB.out.lt (by omega) (HB.out.cell 1 rfl)).mono ?_
          rintro e w5 (⟨z, hz, rfl, hF5⟩ | ⟨rfl, m, rfl, hm, d1, v, d2, d3, hF5⟩)
          · replace hF5 := Lib.hid hF5
            clear HI HB c0 c1 hbr
            go_wp2_with fail
            generalize wr.heap.size = Bx at *
            refine (few_near hF5.out).mono ?_
            rintro e w7 ⟨A7, c7, ns, rfl, hns, hL⟩
            replace hL := Lib.hid hL
            clear hF5
            go_wp2_with fail
            go_loopw [63] (fun v wr2 => ∃ j : Nat, j ≤ ns.length ∧ v = .int .i64 j ∧ Hid (FewL w wr2 g b h A7 ns)) (fun v _ => ns.length - (intOf v).toNat)
            case atStart => exact ⟨0, Nat.zero_le _, rfl, hL⟩
            case round =>
              obtain ⟨j, hj, rfl, hrel⟩ := hrel
              clear hL
              by_cases hj2 : j < ns.length
              · obtain ⟨bA, oA, hAe2, _, cA⟩ := hrel.out.ints j (by rw [Mem.ints_length]; exact hj2)
                have hval : (Mem.ints ns)[j]'(by rw [Mem.ints_length]; exact hj2) = (ns[j] : Int) := by simp only [Mem.ints, List.getElem_map]
                rw [hval] at cA
                obtain ⟨hn48, cH⟩ := hrel.out.heard ns[j] (List.getElem_mem hj2)
                by_cases hj0 : 0 < j
                · obtain ⟨bA', oA', hAe3, _, cP⟩ := hrel.out.ints (j - 1) (by rw [Mem.ints_length]; omega)
                  have hval2 : (Mem.ints ns)[j - 1]'(by rw [Mem.ints_length]; omega) = (ns[j - 1]'(by omega) : Int) := by simp only [Mem.ints, List.getElem_map]
                  rw [hval2] at cP
                  have hlt2 := List.pairwise_iff_getElem.1 hrel.out.sorted (j - 1) j (by omega) hj2 (by omega)
                  rw [hAe2] at hAe3
                  cases hAe3
                  subst hAe2
                  generalize ns[j]'hj2 = nk at cA cH hn48 hlt2
                  generalize ns[j - 1]'(by omega) = np at cP hlt2
                  clear hval hval2
                  have hw1 : IntKind.i64.wrap ((j : Int) - 1) = ((j - 1 : Nat) : Int) := by rw [IntWalk.i64_in _ ⟨by omega, by omega⟩]; omega
                  have hlt3 : (np : Int) < (nk : Int) := by omega
                  go_wp2_with fail
                  go_roundw
                  case rel => exact ⟨j + 1, by omega, by go_num, hrel⟩
                  case measure => simp [intOf]; omega
                · obtain rfl : j = 0 := by omega
                  subst hAe2
                  rw [Nat.add_zero] at cA
                  generalize ns[0]'hj2 = nk at cA cH hn48
                  clear hval
                  go_wp2_with fail
                  go_roundw
                  case rel => exact ⟨1, by omega, by go_num, hrel⟩
                  case measure => simp [intOf]; omega
              · obtain rfl : j = ns.length := by omega
                have HF : Hid (FewAt w wr g b h) := Lib.hid hrel.out.few
                clear hrel
                go_wp2_with fail
                go_roundw
                case rel => exact ⟨k + 1, by omega, by go_num, HF⟩
                case measure => simp [intOf]; omega
          · replace hF5 := Lib.hid hF5
            clear HI HB c0 c1 hbr
            go_wp2_with fail
            generalize w5.setCell ⟨h, m, none⟩ (.bool true) = w6 at hF5 ⊢
            generalize wr.heap.size = Bx at *
            clear d1 d2 d3
            refine (few_near hF5.out).mono ?_
            rintro e w7 ⟨A7, c7, ns, rfl, hns, hL⟩
            replace hL := Lib.hid hL
            clear hF5
            go_wp2_with fail
            go_loopw [63] (fun v wr2 => ∃ j : Nat, j ≤ ns.length ∧ v = .int .i64 j ∧ Hid (FewL w wr2 g b h A7 ns)) (fun v _ => ns.length - (intOf v).toNat)
            case atStart => exact ⟨0, Nat.zero_le _, rfl, hL⟩
            case round =>
              obtain ⟨j, hj, rfl, hrel⟩ := hrel
              clear hL
              by_cases hj2 : j < ns.length
              · obtain ⟨bA, oA, hAe2, _, cA⟩ := hrel.out.ints j (by rw [Mem.ints_length]; exact hj2)
                have hval : (Mem.ints ns)[j]'(by rw [Mem.ints_length]; exact hj2) = (ns[j] : Int) := by simp only [Mem.ints, List.getElem_map]
                rw [hval] at cA
                obtain ⟨hn48, cH⟩ := hrel.out.heard ns[j] (List.getElem_mem hj2)
                by_cases hj0 : 0 < j
                · obtain ⟨bA', oA', hAe3, _, cP⟩ := hrel.out.ints (j - 1) (by rw [Mem.ints_length]; omega)
                  have hval2 : (Mem.ints ns)[j - 1]'(by rw [Mem.ints_length]; omega) = (ns[j - 1]'(by omega) : Int) := by simp only [Mem.ints, List.getElem_map]
                  rw [hval2] at cP
                  have hlt2 := List.pairwise_iff_getElem.1 hrel.out.sorted (j - 1) j (by omega) hj2 (by omega)
                  rw [hAe2] at hAe3
                  cases hAe3
                  subst hAe2
                  generalize ns[j]'hj2 = nk at cA cH hn48 hlt2
                  generalize ns[j - 1]'(by omega) = np at cP hlt2
                  clear hval hval2
                  have hw1 : IntKind.i64.wrap ((j : Int) - 1) = ((j - 1 : Nat) : Int) := by rw [IntWalk.i64_in _ ⟨by omega, by omega⟩]; omega
                  have hlt3 : (np : Int) < (nk : Int) := by omega
                  go_wp2_with fail
                  go_roundw
                  case rel => exact ⟨j + 1, by omega, by go_num, hrel⟩
                  case measure => simp [intOf]; omega
                · obtain rfl : j = 0 := by omega
                  subst hAe2
                  rw [Nat.add_zero] at cA
                  generalize ns[0]'hj2 = nk at cA cH hn48
                  clear hval
                  go_wp2_with fail
                  go_roundw
                  case rel => exact ⟨1, by omega, by go_num, hrel⟩
                  case measure => simp [intOf]; omega
              · obtain rfl : j = ns.length := by omega
                have HF : Hid (FewAt w wr g b h) := Lib.hid hrel.out.few
                clear hrel
                go_wp2_with fail
                go_roundw
                case rel => exact ⟨k + 1, by omega, by go_num, HF⟩
                case measure => simp [intOf]; omega
        · have e0 : (xk == 0) = false := by rw [beq_eq_false_iff_ne]; exact h0
          by_cases h1 : xk = 1
          · subst h1
            go_wp2_with (go_at_call 12; (with_reducible refine (few_tick HI.out hwx.out).mono ?_); rintro e w5 ⟨v, rfl, hF5⟩; replace hF5 := Lib.hid hF5; clear HI HB c0 c1 hbr; generalize wr.heap.size = Bx at *)
            refine (few_near hF5.out).mono ?_
            rintro e w7 ⟨A7, c7, ns, rfl, hns, hL⟩
            replace hL := Lib.hid hL
            clear hF5
            go_wp2_with fail
            go_loopw [63] (fun v wr2 => ∃ j : Nat, j ≤ ns.length ∧ v = .int .i64 j ∧ Hid (FewL w wr2 g b h A7 ns)) (fun v _ => ns.length - (intOf v).toNat)
            case atStart => exact ⟨0, Nat.zero_le _, rfl, hL⟩
            case round =>
              obtain ⟨j, hj, rfl, hrel⟩ := hrel
              clear hL
              by_cases hj2 : j < ns.length
              · obtain ⟨bA, oA, hAe2, _, cA⟩ := hrel.out.ints j (by rw [Mem.ints_length]; exact hj2)
                have hval : (Mem.ints ns)[j]'(by rw [Mem.ints_length]; exact hj2) = (ns[j] : Int) := by simp only [Mem.ints, List.getElem_map]
                rw [hval] at cA
                obtain ⟨hn48, cH⟩ := hrel.out.heard ns[j] (List.getElem_mem hj2)
                by_cases hj0 : 0 < j
                · obtain ⟨bA', oA', hAe3, _, cP⟩ := hrel.out.ints (j - 1) (by rw [Mem.ints_length]; omega)
                  have hval2 : (Mem.ints ns)[j - 1]'(by rw [Mem.ints_length]; omega) = (ns[j - 1]'(by omega) : Int) := by simp only [Mem.ints, List.getElem_map]
                  rw [hval2] at cP
                  have hlt2 := List.pairwise_iff_getElem.1 hrel.out.sorted (j - 1) j (by omega) hj2 (by omega)
                  rw [hAe2] at hAe3
                  cases hAe3
                  subst hAe2
                  generalize ns[j]'hj2 = nk at cA cH hn48 hlt2
                  generalize ns[j - 1]'(by omega) = np at cP hlt2
                  clear hval hval2
                  have hw1 : IntKind.i64.wrap ((j : Int) - 1) = ((j - 1 : Nat) : Int) := by rw [IntWalk.i64_in _ ⟨by omega, by omega⟩]; omega
                  have hlt3 : (np : Int) < (nk : Int) := by omega
                  go_wp2_with fail
                  go_roundw
                  case rel => exact ⟨j + 1, by omega, by go_num, hrel⟩
                  case measure => simp [intOf]; omega
                · obtain rfl : j = 0 := by omega
                  subst hAe2
                  rw [Nat.add_zero] at cA
                  generalize ns[0]'hj2 = nk at cA cH hn48
                  clear hval
                  go_wp2_with fail
                  go_roundw
                  case rel => exact ⟨1, by omega, by go_num, hrel⟩
                  case measure => simp [intOf]; omega
              · obtain rfl : j = ns.length := by omega
                have HF : Hid (FewAt w wr g b h) := Lib.hid hrel.out.few
                clear hrel
                go_wp2_with fail
                go_roundw
                case rel => exact ⟨k + 1, by omega, by go_num, HF⟩
                case measure => simp [intOf]; omega
          · have e1 : (xk == 1) = false := by rw [beq_eq_false_iff_ne]; exact h1
            by_cases h2 : xk = 2
            · subst h2
              go_wp2_with (go_at_call 14; (with_reducible refine (few_drop HI.out hwx.out).mono ?_); rintro e w5 ⟨rfl, hF5⟩; replace hF5 := Lib.hid hF5; clear HI HB c0 c1 hbr; generalize wr.heap.size = Bx at *)
              refine (few_near hF5.out).mono ?_
              rintro e w7 ⟨A7, c7, ns, rfl, hns, hL⟩
              replace hL := Lib.hid hL
              clear hF5
              go_wp2_with fail
              go_loopw [63] (fun v wr2 => ∃ j : Nat, j ≤ ns.length ∧ v = .int .i64 j ∧ Hid (FewL w wr2 g b h A7 ns)) (fun v _ => ns.length - (intOf v).toNat)
              case atStart => exact ⟨0, Nat.zero_le _, rfl, hL⟩
              case round =>
                obtain ⟨j, hj, rfl, hrel⟩ := hrel
                clear hL
                by_cases hj2 : j < ns.length
                · obtain ⟨bA, oA, hAe2, _, cA⟩ := hrel.out.ints j (by rw [Mem.ints_length]; exact hj2)
                  have hval : (Mem.ints ns)[j]'(by rw [Mem.ints_length]; exact hj2) = (ns[j] : Int) := by simp only [Mem.ints, List.getElem_map]
                  rw [hval] at cA
                  obtain ⟨hn48, cH⟩ := hrel.out.heard ns[j] (List.getElem_mem hj2)
                  by_cases hj0 : 0 < j
                  · obtain ⟨bA', oA', hAe3, _, cP⟩ := hrel.out.ints (j - 1) (by rw [Mem.ints_length]; omega)
                    have hval2 : (Mem.ints ns)[j - 1]'(by rw [Mem.ints_length]; omega) = (ns[j - 1]'(by omega) : Int) := by simp only [Mem.ints, List.getElem_map]
                    rw [hval2] at cP
                    have hlt2 := List.pairwise_iff_getElem.1 hrel.out.sorted (j - 1) j (by omega) hj2 (by omega)
                    rw [hAe2] at hAe3
                    cases hAe3
                    subst hAe2
                    generalize ns[j]'hj2 = nk at cA cH hn48 hlt2
                    generalize ns[j - 1]'(by omega) = np at cP hlt2
                    clear hval hval2
                    have hw1 : IntKind.i64.wrap ((j : Int) - 1) = ((j - 1 : Nat) : Int) := by rw [IntWalk.i64_in _ ⟨by omega, by omega⟩]; omega
                    have hlt3 : (np : Int) < (nk : Int) := by omega
                    go_wp2_with fail
                    go_roundw
                    case rel => exact ⟨j + 1, by omega, by go_num, hrel⟩
                    case measure => simp [intOf]; omega
                  · obtain rfl : j = 0 := by omega
                    subst hAe2
                    rw [Nat.add_zero] at cA
                    generalize ns[0]'hj2 = nk at cA cH hn48
                    clear hval
                    go_wp2_with fail
                    go_roundw
                    case rel => exact ⟨1, by omega, by go_num, hrel⟩
                    case measure => simp [intOf]; omega
                · obtain rfl : j = ns.length := by omega
                  have HF : Hid (FewAt w wr g b h) := Lib.hid hrel.out.few
                  clear hrel
                  go_wp2_with fail
                  go_roundw
                  case rel => exact ⟨k + 1, by omega, by go_num, HF⟩
                  case measure => simp [intOf]; omega
            · have e2 : (xk == 2) = false := by rw [beq_eq_false_iff_ne]; exact h2
              clear h0 h1 h2
              go_wp2_with fail
              have hF5 := HI
              clear HI HB c0 c1 hbr
              generalize wr.alloc (.cells #[.int .i64 xk, .int .i64 xn] 33) = w5 at hF5 ⊢
              generalize wr.heap.size = Bx at *
              refine (few_near hF5.out).mono ?_
              rintro e w7 ⟨A7, c7, ns, rfl, hns, hL⟩
              replace hL := Lib.hid hL
              clear hF5
              go_wp2_with fail
              go_loopw [63] (fun v wr2 => ∃ j : Nat, j ≤ ns.length ∧ v = .int .i64 j ∧ Hid (FewL w wr2 g b h A7 ns)) (fun v _ => ns.length - (intOf v).toNat)
              case atStart => exact ⟨0, Nat.zero_le _, rfl, hL⟩
              case round =>
                obtain ⟨j, hj, rfl, hrel⟩ := hrel
                clear hL
                by_cases hj2 : j < ns.length
                · obtain ⟨bA, oA, hAe2, _, cA⟩ := hrel.out.ints j (by rw [Mem.ints_length]; exact hj2)
                  have hval : (Mem.ints ns)[j]'(by rw [Mem.ints_length]; exact hj2) = (ns[j] : Int) := by simp only [Mem.ints, List.getElem_map]
                  rw [hval] at cA
                  obtain ⟨hn48, cH⟩ := hrel.out.heard ns[j] (List.getElem_mem hj2)
                  by_cases hj0 : 0 < j
                  · obtain ⟨bA', oA', hAe3, _, cP⟩ := hrel.out.ints (j - 1) (by rw [Mem.ints_length]; omega)
                    have hval2 : (Mem.ints ns)[j - 1]'(by rw [Mem.ints_length]; omega) = (ns[j - 1]'(by omega) : Int) := by simp only [Mem.ints, List.getElem_map]
                    rw [hval2] at cP
                    have hlt2 := List.pairwise_iff_getElem.1 hrel.out.sorted (j - 1) j (by omega) hj2 (by omega)
                    rw [hAe2] at hAe3
                    cases hAe3
                    subst hAe2
                    generalize ns[j]'hj2 = nk at cA cH hn48 hlt2
                    generalize ns[j - 1]'(by omega) = np at cP hlt2
                    clear hval hval2
                    have hw1 : IntKind.i64.wrap ((j : Int) - 1) = ((j - 1 : Nat) : Int) := by rw [IntWalk.i64_in _ ⟨by omega, by omega⟩]; omega
                    have hlt3 : (np : Int) < (nk : Int) := by omega
                    go_wp2_with fail
                    go_roundw
                    case rel => exact ⟨j + 1, by omega, by go_num, hrel⟩
                    case measure => simp [intOf]; omega
                  · obtain rfl : j = 0 := by omega
                    subst hAe2
                    rw [Nat.add_zero] at cA
                    generalize ns[0]'hj2 = nk at cA cH hn48
                    clear hval
                    go_wp2_with fail
                    go_roundw
                    case rel => exact ⟨1, by omega, by go_num, hrel⟩
                    case measure => simp [intOf]; omega
                · obtain rfl : j = ns.length := by omega
                  have HF : Hid (FewAt w wr g b h) := Lib.hid hrel.out.few
                  clear hrel
                  go_wp2_with fail
                  go_roundw
                  case rel => exact ⟨k + 1, by omega, by go_num, HF⟩
                  case measure => simp [intOf]; omega
      · go_wp2_with fail
        go_ret
        exact ⟨rfl, by obtain ⟨f, F⟩ := hrel.out; exact F.tab.ok⟩
theorem own : ownKnob Try.prog.godebug = none := by kernel_rfl
theorem laidOut : laidOutB Try.prog = true := by kernel_rfl
set_option maxRecDepth 100000 in
theorem lifted (os : Os) (started : os.Started) (H : Type) (enc : TypeId × Value → H) :
    ReturnsInHanded {} Try.checked os 6 .any (Rows.memberFewSpec.pre6 enc Try.prog Try.f6 Rows.memberFewRow.domain false) (Rows.memberFewSpec.post enc Try.prog Try.f6 false true false false) := by
  refine returnsInHanded_of_change (C := Try.checked) own started (by kernel_rfl) Try.func6
    (ChangeSpec.witness6 (enc := enc) (C := Try.checked) false ⟨#[], #[.slice none 0 0], []⟩ 8 (by kernel_rfl) (by kernel_rfl) (by kernel_rfl) (by kernel_rfl)) ?_
  intro W base args ds gs before hval0 hW _ _
  have hval : ∀ (j : Nat) t v, Try.f6.params[j]? = some t → args[j]? = some v → Value.okWide Try.prog W .any base t v := hval0
  have hW' := hW
  obtain ⟨p, q, hA, hV, rfl, _, _⟩ := hW
  obtain ⟨rfl, rfl⟩ := trodVars_none hV
  replace hA : DataW.TrodAll enc Try.prog W 0 (fun _ => true) true Try.f6.params.toList args.toList ds p := hA
  rw [Try.params6] at hA hval
  obtain ⟨v0, vs0, d0, ds0, p0, q0, hargs, rfl, rfl, h0, r0⟩ := trodAll_cons hA
  obtain ⟨rfl, rfl, rfl⟩ := trodAll_nil r0
  obtain rfl : args = #[v0] := by cases args; simp_all
  obtain ⟨A0, l0, c0, rfl, hA0, hl0, hw0⟩ := open_slice_pairs Try.underlying22 Try.underlying33 (by kernel_rfl) (by kernel_rfl) (by kernel_rfl) (by kernel_rfl) (hval 0 22 v0 rfl rfl) h0
  refine (walk W A0 l0 c0 hA0 hl0 hw0).mono fun e W' ⟨he, hb⟩ => ?_
  subst he
  exact ⟨_, rfl, law_post hW' laidOut (by rw [Try.params6]; exact params_ok (by kernel_rfl)) rfl (by kernel_rfl) Try.underlying4 rfl rfl rfl hb⟩
theorem over : Rows.memberFewRow.holds Try.pinned (OpenSpec.ofChange Rows.memberFewSpec) :=
  OpenClaim.holds_of_wide 6 Try.f6 rfl rfl rfl rfl rfl rfl rfl ⟨rfl, rfl, rfl, rfl, rfl⟩ rfl rfl rfl rfl rfl (by kernel_rfl) Try.func6 (by kernel_rfl)
    (of_decide_eq_true (by kernel_rfl)) (by unfold Func.isWrapper; first | (rw [if_pos (by decide +kernel)]; kernel_rfl) | (rw [if_neg (by decide +kernel)]; exact ⟨rfl, rfl⟩))
    (fun os started H enc _ => lifted os started H enc)
theorem proved : Rows.MemberFewSaid := over
end Go.Proofs.Ytcoeiedaopmpcaa.memberFew
