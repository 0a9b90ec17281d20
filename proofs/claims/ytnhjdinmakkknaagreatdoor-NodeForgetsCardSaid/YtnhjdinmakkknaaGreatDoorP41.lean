/- Several texts of mine in one: B27, C19a, C19b. -/
import Derived.Test.YtnhjdinmakkknaaGreatDoorB19
import Derived.Test.YtnhjdinmakkknaaGreatDoorB03
import Derived.Test.YtnhjdinmakkknaaGreatDoorMA
import Derived.Test.YtnhjdinmakkknaaGreatDoorP46
import Derived.Test.YtnhjdinmakkknaaGreatDoorB00
import Derived.Test.YtnhjdinmakkknaaGreatDoorShelf
import Derived.Test.YtnhjdinmakkknaaGreatDoorP03
import Derived.Test.YtnhjdinmakkknaaGreatDoorP39
import Derived.Lib.Small
import Derived.Sort.Grow
import Derived.Lib.AppendIntMem
import Derived.Lib.ItoaLen
import Derived.Lib.OthersKept
import Derived.Lib.BufferRead
import Derived.Laws.IdiomStrings
import Derived.Laws.AppendOwn
import Derived.Deep.QuietTactic
import Derived.BigQuiet
import Derived.Deep.RegionHeld3
import Derived.Deep.DrawnRows
import Derived.Deep.CutRange
import Derived.Deep.RegionWith
/- Contracts of layer 22: whose message it is; how two stand. -/
namespace Go.Proofs.YtnhjdinmakkknaaGreatDoor
open Go.RowKit
set_option linter.unusedVariables false
set_option maxRecDepth 100000
attribute [local go_sem ↓] Go.wp_at_zero Go.wp_at_succ
theorem gateOthers (p : Par) (me : Int) (m : Msg) (age : Int) (A : Option Addr) (cap : Nat) (w : World) : Calls Tryz.prog 151 #[parV p, .int .i64 me, msgV m A cap] w fun e w' => e = .returned (.bool (Gate.other p me ⟨m, age⟩)) ∧ Ok w w' := by
  have hok := Ok.refl w
  obtain ⟨kind, frm, lo, hi, held, hops, good, ref, slo, shi, pulse, time, num, table⟩ := m
  unfold msgV Gate.other
  simp only
  by_cases h0 : kind = 1
  rotate_left
  · rw [decide_eq_false (fun h => h0 h.1)]
    go_enter Tryz.func151, Tryz.ntmps151
    go_wp2
    go_ret
    exact ⟨rfl, (hok.alloc _).alloc _⟩
  by_cases h1 : 0 ≤ frm
  rotate_left
  · rw [decide_eq_false (fun h => h1 h.2.1)]
    go_enter Tryz.func151, Tryz.ntmps151
    go_wp2
    go_ret
    exact ⟨rfl, (hok.alloc _).alloc _⟩
  by_cases h2 : frm < p.n
  rotate_left
  · rw [decide_eq_false (fun h => h2 h.2.2.1)]
    go_enter Tryz.func151, Tryz.ntmps151
    go_wp2
    go_ret
    exact ⟨rfl, (hok.alloc _).alloc _⟩
  by_cases h3 : frm < 16
  rotate_left
  · rw [decide_eq_false (fun h => h3 h.2.2.2.1)]
    go_enter Tryz.func151, Tryz.ntmps151
    go_wp2
    go_ret
    exact ⟨rfl, (hok.alloc _).alloc _⟩
  by_cases h4 : ¬ frm = me
  rotate_left
  · rw [decide_eq_false (fun h => h4 h.2.2.2.2)]
    replace h4 : frm = me := by omega
    go_enter Tryz.func151, Tryz.ntmps151
    go_wp2
    go_ret
    exact ⟨rfl, (hok.alloc _).alloc _⟩
  rw [decide_eq_true ⟨h0, h1, h2, h3, h4⟩]
  have h5 : (frm != me) = true := by simpa using h4
  go_enter Tryz.func151, Tryz.ntmps151
  go_wp2
  go_ret
  exact ⟨rfl, (hok.alloc _).alloc _⟩
theorem cmpNaN22 (x : Int) (w : World) : Calls Tryz.prog 183 #[.int .i64 x] w fun e w' => e = .returned (.bool false) ∧ w = w' := by
  have h : (x != x) = false := by simp
  go_enter Tryz.func183, Tryz.ntmps183
  go_wp2
  go_ret
  exact ⟨rfl, rfl⟩
theorem cmpCompare22 (x y : Int) (w : World) : Calls Tryz.prog 154 #[.int .i64 x, .int .i64 y] w fun e w' => e = .returned (.int .i64 (Lib.compareInt x y)) ∧ w = w' := by
  rcases Int.lt_trichotomy x y with h | h | h
  · have e : Lib.compareInt x y = -1 := by unfold Lib.compareInt; rw [if_pos h]
    rw [e]; clear e
    go_enter Tryz.func154, Tryz.ntmps154
    go_wp2_with (go_at_call 183; refine (cmpNaN22 _ _).mono ?_; rintro e w' ⟨rfl, rfl⟩)
    go_ret
    exact ⟨rfl, rfl⟩
  · have e : Lib.compareInt x y = 0 := by unfold Lib.compareInt; rw [if_neg (by omega), if_neg (by omega)]
    rw [e]; clear e
    have h1 : ¬ x < y := by omega
    have h2 : ¬ y < x := by omega
    clear h
    go_enter Tryz.func154, Tryz.ntmps154
    go_wp2_with (go_at_call 183; refine (cmpNaN22 _ _).mono ?_; rintro e w' ⟨rfl, rfl⟩)
    go_ret
    exact ⟨rfl, rfl⟩
  · have e : Lib.compareInt x y = 1 := by unfold Lib.compareInt; rw [if_neg (by omega), if_pos h]
    rw [e]; clear e
    go_enter Tryz.func154, Tryz.ntmps154
    go_wp2_with (go_at_call 183; refine (cmpNaN22 _ _).mono ?_; rintro e w' ⟨rfl, rfl⟩)
    go_ret
    exact ⟨rfl, rfl⟩
theorem toldLess (x y : HA) (w : World) : Calls Tryz.prog 153 #[.agg (haL x).toArray, .agg (haL y).toArray] w fun e w' => e = .returned (.int .i64 (Lib.compareInt x.m.frm y.m.frm)) ∧ ∃ q os', w' = Sort.grow (w.drewN q) os' := by
  have hc := Lib.hid fun W => cmpCompare22 x.m.frm y.m.frm W
  obtain ⟨⟨kind, frm, lo, hi, held, hops, good, ref, slo, shi, pulse, time, num, table⟩, A, cap, age⟩ := x
  obtain ⟨⟨kind2, frm2, lo2, hi2, held2, hops2, good2, ref2, slo2, shi2, pulse2, time2, num2, table2⟩, A2, cap2, age2⟩ := y
  simp only [haL, msgCells, List.cons_append, List.nil_append] at hc ⊢
  generalize Lib.compareInt frm frm2 = r at hc ⊢
  go_enter Tryz.func153, Tryz.ntmps153
  go_wp2_with (go_at_call 154; refine (hc.out _).mono ?_; rintro e w' ⟨rfl, rfl⟩)
  go_ret
  exact ⟨rfl, 0, _, by rw [Sort.alloc_eq_grow, Sort.alloc_eq_grow, Sort.grow_grow]; rfl⟩
end Go.Proofs.YtnhjdinmakkknaaGreatDoor
namespace Go.Proofs.YtnhjdinmakkknaaGreatDoor
open Go.RowKit
set_option maxRecDepth 100000
attribute [local go_sem ↓] Go.wp_at_zero Go.wp_at_succ
/-- The table of powers of ten reads as its initialiser lays it. -/
def Pow (w : World) : Prop := Lib.TabIs Tryz.prog w "internal/strconv.uint64pow10" .u64 Lib.pow10Tab
theorem Pow.next {w w' : World} (h : Pow w) (k : Ok w w') : Pow w' := (Lib.tabBelow_of_tabIs h) w' k.below
/-- A text, as a value. -/
def strB (l : List UInt8) : ByteArray := ⟨l.toArray⟩
theorem strB_size (l : List UInt8) : (strB l).size = l.length := by simp [strB, ByteArray.size]
theorem strB_one {a b : List UInt8} (h : strB a = strB b) : a = b := by
  have := congrArg (fun s => s.data.toList) h
  simpa [strB] using this
theorem appendIntOk {w0 w : World} (hok : Ok w0 w) (hT : Pow w0) (n : Nat) (i : Int) (h : -9223372036854775808 ≤ i ∧ i ≤ 9223372036854775807) (sv : Value) (xs : List Value) (hown : w.ownsRow w0.heap.size 5 1 sv n xs) (hlim : n + 21 ≤ 140737488355328) :
    Calls Tryz.prog 188 #[sv, .int .i64 i, .int .i64 10] w fun e w' => ∃ v', e = .returned v' ∧ w'.ownsRow w0.heap.size 5 1 v' (n + (Lib.itoa i).length) (xs ++ Lib.byteCells (Lib.itoa i)) ∧ Ok w0 w' ∧ Lib.OthersKept 5 none w w' :=
  (Tryz.strconv_AppendInt_10 w0.heap.size n i h.1 h.2 sv xs w hown hok.size hlim ((Lib.tabBelow_of_tabIs hT).on hok.below)).mono (by rintro e w' ⟨v', rfl, h1, h2, h3⟩; exact ⟨v', rfl, h1, Below.trans hok h2, h3⟩)
theorem itoa_le (n : Int) (h : -9223372036854775808 ≤ n ∧ n ≤ 9223372036854775807) : (Lib.itoa n).length ≤ 21 := Lib.itoa_length_le n h.1 h.2
/-- A row of one's own lies in a block of its elements' type. -/
theorem row_typed {w : World} {B n k : Nat} {e : TypeId} {v : Value} {xs : List Value} (h : w.ownsRow B e k v n xs) : ∀ g, v.ownBlock = some g → ∃ c fz, w.heap[g]? = some (.cells c e fz) := fun g hg => by
  rcases h.2 with ⟨rfl, _⟩ | ⟨g', cap, cur, rfl, _, hh, _⟩
  · cases hg
  · cases hg; exact ⟨_, _, hh⟩
theorem row_from {w : World} {B n k : Nat} {e : TypeId} {v : Value} {xs : List Value} (h : w.ownsRow B e k v n xs) : ∀ g, v.ownBlock = some g → B ≤ g := fun g hg => by
  rcases h.2 with ⟨rfl, _⟩ | ⟨g', cap, cur, rfl, hb, _⟩
  · cases hg
  · cases hg; exact hb
/-- 'string(b)' of a row of bytes of one's own. -/
theorem row_str {w : World} {B : Nat} {v : Value} {l : List UInt8} {n : Nat} (hn : n = l.length) (h : w.ownsRow B 5 1 v n (Lib.byteCells l)) : Sem.run Tryz.prog (convert 217 9 v) w = .ok (.string (strB l)) w := by
  subst hn
  rcases h.2 with ⟨rfl, hx⟩ | ⟨g, cap, cur, rfl, hb, hh, hnc, r⟩
  · have : l = [] := by simpa [Lib.byteCells] using hx
    subst this
    exact Lib.run_convert_nil_bytes w _ _ _ 0 Tryz.underlying217 Tryz.underlying5 Tryz.underlying9
  · refine run_convert_bytes_back w _ _ _ ⟨g, 0, none⟩ cap l Tryz.underlying217 Tryz.underlying5 Tryz.underlying9 fun j hj => ?_
    have := h.cellAt (g := g) j (by omega)
    rw [Go.WideShapes.add_plain, Nat.zero_add, this]
    simp [Lib.byteCells, hj]
/-- A key's length. -/
theorem key_length {l : List (Int × Int)} (h : ∀ e ∈ l, (-9223372036854775808 ≤ e.1 ∧ e.1 ≤ 9223372036854775807) ∧ -9223372036854775808 ≤ e.2 ∧ e.2 ≤ 9223372036854775807) : (Vote.key l).length ≤ l.length * 44 := by
  induction l with
  | nil => simp [Vote.key]
  | cons e l ih =>
    have h0 := h e List.mem_cons_self
    have h1 := itoa_le e.1 h0.1
    have h2 := itoa_le e.2 h0.2
    have h3 := ih fun x hx => h x (List.mem_cons_of_mem _ hx)
    rw [Vote.key_cons]
    simp only [List.length_append, List.length_cons]
    omega
theorem key_take {l : List (Int × Int)} {k : Nat} (hk : k < l.length) : Vote.key (l.take (k + 1)) = Vote.key (l.take k) ++ (Lib.itoa l[k].1 ++ 58 :: (Lib.itoa l[k].2 ++ [59])) := by
  rw [List.take_succ_eq_append_getElem hk, Vote.key_snoc]
theorem byteInfo : (Tryz.prog.info? 5).map (fun i => (i.zero, i.size, i.bytes)) = some (some (.int .u8 0), 1, 1) := by kernel_rfl
end Go.Proofs.YtnhjdinmakkknaaGreatDoor
namespace Go.Proofs.YtnhjdinmakkknaaGreatDoor
open Go.RowKit
set_option maxRecDepth 100000
attribute [local go_sem ↓] Go.wp_at_zero Go.wp_at_succ
/-- Blocks that hold no bytes are as they were. -/
theorem kept_cell {W W' : World} {g o : Nat} {cs : Array Value} {e t : TypeId} (hne : t ≠ e) (hb : W.heap[g]? = some (.cells cs t (0, 0))) (k : Lib.OthersKept e none W W') {v : Value} (hv : cs[o]? = some v) : W'.cell? ⟨g, o, none⟩ = some v := by
  have h := k g _ hb (by simp) (fun c fz h => by injection h with _ h2 _; exact hne h2)
  have hO : Own W' g cs := ⟨t, h⟩
  exact hO.cell o hv
theorem kept_lt {W W' : World} {g : Nat} {cs : Array Value} {e t : TypeId} (hne : t ≠ e) (hb : W.heap[g]? = some (.cells cs t (0, 0))) (k : Lib.OthersKept e none W W') : g < W'.heap.size := by
  have h := k g _ hb (by simp) (fun c fz h => by injection h with _ h2 _; exact hne h2)
  exact (Array.getElem?_eq_some_iff.1 h).1
theorem ok_grow19 {w w1 w2 : World} {row : Option Nat} (h : Ok w w1) (hg : w1.grownBy w2 row) (hr : ∀ k, row = some k → w.heap.size ≤ k) : Ok w w2 := Below.grown h hg h.size hr
/-- A byte is put behind a row of one's own. -/
theorem wpList_append_byte {P : Program} {w : World} {ops : Array Oper} {rest : List Oper} {o : Oper} {a : Act} {Q : Exit → Act → World → Prop} (hgd : o.guard = none) (s x : Operand) (t : TypeId)
    (ho : o.op = .call { callee := .builtin .append, args := #[s, x], argTypes := #[t, t] })
    (base : Nat) (e : TypeId) (ht : P.underlying t = some (.slice e)) (hi : (P.info? e).map (fun i => (i.zero, i.size, i.bytes)) = some (some (.int .u8 0), 1, 1))
    (v : Value) (n : Nat) (xs : List Value) (hs : a.eval s = v) (hown : w.ownsRow base e 1 v n xs) (g : Nat) (b : Int) (hx : a.eval x = .slice (some ⟨g, 0, none⟩) 1 1) (hc : w.cell? ⟨g, 0, none⟩ = some (.int .u8 b))
    (h63 : n ≤ 1000000) (hbase : base ≤ w.heap.size)
    (h : ∀ v' w', w'.ownsRow base e 1 v' (n + 1) (xs ++ [.int .u8 b]) → w.grownBy w' v.ownBlock → wpList P ops Q rest (a.put o.dst v') w') : wpList P ops Q (o :: rest) a w := by
  obtain ⟨i, i0, i1, i2, i3⟩ := info_parts hi
  refine wpList_append_own w hgd s x t ho base e i (.int .u8 0) 1 1 ht i0 i1 i2 i3 rfl (by decide) v n xs hs hown ⟨g, 0, none⟩ 1 1 [.int .u8 b] hx rfl (fun j u hj => ?_) (by simp [Value.oneCell']) (by unfold maxLen; omega) (by omega) hbase fun v' w' h1 h2 _ => h v' w' h1 h2
  have : j = 0 := by
    have := (List.getElem?_eq_some_iff.1 hj).1
    simp at this; omega
  subst this
  cases hj
  exact hc
set_option maxHeartbeats 3200000 in
theorem voteKey (A : Option Addr) (l : List (Int × Int)) (cap : Nat) (w : World) (hT : Pow w) (hA : PairsAt w A l) (hl : l.length ≤ 4096) (hb : ∀ e ∈ l, (-9223372036854775808 ≤ e.1 ∧ e.1 ≤ 9223372036854775807) ∧ -9223372036854775808 ≤ e.2 ∧ e.2 ≤ 9223372036854775807) :
    Calls Tryz.prog 158 #[.slice A l.length cap] w fun e w' => e = .returned (.string (strB (Vote.key l))) ∧ Ok w w' := by
  have hok := Ok.refl w
  have H := Lib.hid hA
  have HB := Lib.hid hb
  have HT := Lib.hid hT
  clear hA hb hT
  go_enter Tryz.func158, Tryz.ntmps158
  go_wp2
  go_loopw [3, 8] (fun s i wx => ∃ k : Nat, k ≤ l.length ∧ i = .int .i64 k ∧ wx.ownsRow w.heap.size 5 1 s (Vote.key (l.take k)).length (Lib.byteCells (Vote.key (l.take k))) ∧ Ok w wx) (fun _ i _ => l.length - (intOf i).toNat)
  case atStart => exact ⟨0, Nat.zero_le _, rfl, World.ownsRow_nil _ _ _ _, hok⟩
  case round =>
    obtain ⟨k, hkl, rfl, hrow, hok⟩ := hrel
    by_cases hlt : k < l.length
    · obtain ⟨b, off, hA, hbs, c1, c2⟩ := H.out.below hok k hlt
      subst hA
      have hm := HB.out l[k] (List.getElem_mem _)
      have zs : (Vote.key (l.take k)).length ≤ 200000 := by
        have := key_length (l := l.take k) (fun e he => HB.out e (List.mem_of_mem_take he))
        rw [List.length_take] at this
        omega
      have za := itoa_le _ hm.1
      have zb := itoa_le _ hm.2
      have K1 := Lib.hid fun W (ok : Ok w W) n sv xs h1 h2 => appendIntOk ok HT.out n l[k].1 hm.1 sv xs h1 h2
      have K2 := Lib.hid fun W (ok : Ok w W) n sv xs h1 h2 => appendIntOk ok HT.out n l[k].2 hm.2 sv xs h1 h2
      have HST := Lib.hid (key_take hlt)
      obtain ⟨K, h1⟩ : ∃ s, Vote.key (l.take k) = s := ⟨_, rfl⟩
      obtain ⟨ia, h2⟩ : ∃ s, Lib.itoa l[k].1 = s := ⟨_, rfl⟩
      obtain ⟨ib, h3⟩ : ∃ s, Lib.itoa l[k].2 = s := ⟨_, rfl⟩
      rw [h2] at K1 za
      rw [h3] at K2 zb
      rw [h1, h2, h3] at HST
      rw [h1] at zs hrow
      obtain ⟨x, h4⟩ : ∃ s, l[k].1 = s := ⟨_, rfl⟩
      obtain ⟨y, h5⟩ : ∃ s, l[k].2 = s := ⟨_, rfl⟩
      rw [h4] at K1 c1
      rw [h5] at K2 c2
      clear h1 h2 h3 h4 h5 hm
      go_upto_region 5 with fail
      have hbox : (wr.alloc (.cells #[.int .i64 x, .int .i64 y] 81)).heap[wr.heap.size]? = some (.cells #[.int .i64 x, .int .i64 y] 81 (0, 0)) := (MapKept.heap_alloc wr _).1
      have hrow2 := hrow.alloc (.cells #[.int .i64 x, .int .i64 y] 81)
      have hok2 := hok.alloc (.cells #[.int .i64 x, .int .i64 y] 81)
      generalize wr.alloc (.cells #[.int .i64 x, .int .i64 y] 81) = W2 at hbox hrow2 hok2 ⊢
      generalize wr.heap.size = g at hbox ⊢
      clear hrow hok c1 c2
      have HK := Lib.hid fun W' (k : Lib.OthersKept 5 none W2 W') => (⟨kept_cell (o := 0) (by decide) hbox k rfl, kept_cell (o := 1) (by decide) hbox k rfl, kept_lt (by decide) hbox k⟩ : W'.cell? ⟨g, 0, none⟩ = some (.int .i64 x) ∧ W'.cell? ⟨g, 1, none⟩ = some (.int .i64 y) ∧ g < W'.heap.size)
      have hk := Lib.OthersKept.refl 5 none W2
      obtain ⟨c0, c1, cl⟩ := HK.out _ hk
      clear hbox
      go_wp2_with (first
        | (go_at_call 188; refine (K1.out _ hok2 _ _ _ hrow2 (by omega)).mono ?_; rintro e w3 ⟨v3, rfl, hr3, hok3, hk3⟩; replace hk := hk.trans hk3; obtain ⟨d0, d1, dl⟩ := HK.out _ hk; clear hk3 hrow2 hok2 c0 c1 cl)
        | (go_at_call 188; refine (K2.out _ hok4 _ _ _ hr4 (by omega)).mono ?_; rintro e w5 ⟨v5, rfl, hr5, hok5, hk5⟩; clear hk5 hr4 hok4)
        | (at_builtin; refine wpList_append_byte rfl (.tmp 15) (.tmp 16) 217 rfl w.heap.size 5 Tryz.underlying217 byteInfo v3 _ _ rfl (hr3.alloc _) w3.heap.size 58 rfl (by simp) (by omega) (hok3.alloc _).size ?_; intro v4 w4 hr4 hg4; have hok4 := ok_grow19 (hok3.alloc _) hg4 (row_from hr3); replace hk := (hk.alloc _).grown hg4 (row_typed (hr3.alloc _)); clear hg4 hr3 hok3 d0 d1 dl; obtain ⟨d0, d1, dl⟩ := HK.out _ hk)
        | (at_builtin; refine wpList_append_byte rfl (.tmp 21) (.tmp 22) 217 rfl w.heap.size 5 Tryz.underlying217 byteInfo v5 _ _ rfl (hr5.alloc _) w5.heap.size 59 rfl (by simp) (by omega) (hok5.alloc _).size ?_; intro v6 w6 hr6 hg6; have hok6 := ok_grow19 (hok5.alloc _) hg6 (row_from hr5); clear hg6 hr5 hok5 hk d0 d1 dl))
      go_roundw
      case rel => exact ⟨k + 1, by omega, by go_num, by rw [HST.out, show (K ++ (ia ++ 58 :: (ib ++ [59])) : List UInt8).length = K.length + ia.length + 1 + ib.length + 1 by simp only [List.length_append, List.length_cons, List.length_nil]; omega]; simpa [Lib.byteCells] using hr6, hok6⟩
      case measure => simp [intOf]; omega
    · obtain rfl : k = l.length := by omega
      rw [List.take_length] at hrow
      have hcv := row_str rfl hrow
      go_wp2
      go_ret
      exact ⟨rfl, hok⟩
end Go.Proofs.YtnhjdinmakkknaaGreatDoor
