/- Layer 19: a table's key, the program's. -/
import Derived.Test.YtbbkohpaebeidaaDoorC19a
import Derived.Test.YtbbkohpaebeidaaDoorW05
import Derived.Test.YtbbkohpaebeidaaDoorW25
namespace Go.Proofs.YtbbkohpaebeidaaDoor
open Go.RowKit
set_option maxRecDepth 100000
attribute [local go_sem ↓] Go.wp_at_zero Go.wp_at_succ
/-- Blocks that hold no bytes are as they were. -/
theorem kept_cell {W W' : World} {g o : Nat} {cs : Array Value} {e t : TypeId} (hne : t ≠ e) (hb : W.heap[g]? = some (.cells cs t (0, 0))) (k : Lib.OthersKept e none W W') {v : Value} (hv : cs[o]? = some v) : W'.cell? ⟨g, o, none⟩ = some v := by
  have h := k g _ hb (by simp) (fun c fz h => by injection h with _ h2 _; exact hne h2)
  have hO : Own W' g cs := ⟨t, h⟩
  exact hO.cell o hv
theorem kept_lt {W W' : World} {g : Nat} {cs : Array Value} {e t : TypeId} (hne : t ≠ e) (hb : W.heap[g]? = some (.cells cs t (0, 0))) (k : Lib.OthersKept e none W W') : g < W'.heap.size := by
  have h := k g _ hb (by simp) (fun c fz h => by injection h with _ h2 _; exact hne h2)
  exact (Array.getElem?_eq_some_iff.1 h).1
theorem ok_grow19 {w w1 w2 : World} {row : Option Nat} (h : Ok w w1) (hg : w1.grownBy w2 row) (hr : ∀ k, row = some k → w.heap.size ≤ k) : Ok w w2 := Below.grown h hg h.size hr
/-- A byte is put behind a row of one's own. -/
theorem wpList_append_byte {P : Program} {w : World} {ops : Array Oper} {rest : List Oper} {o : Oper} {a : Act} {Q : Exit → Act → World → Prop} (hgd : o.guard = none) (s x : Operand) (t : TypeId)
    (ho : o.op = .call { callee := .builtin .append, args := #[s, x], argTypes := #[t, t] })
    (base : Nat) (e : TypeId) (ht : P.underlying t = some (.slice e)) (hi : (P.info? e).map (fun i => (i.zero, i.size, i.bytes)) = some (some (.int .u8 0), 1, 1))
    (v : Value) (n : Nat) (xs : List Value) (hs : a.eval s = v) (hown : w.ownsRow base e 1 v n xs) (g : Nat) (b : Int) (hx : a.eval x = .slice (some ⟨g, 0, none⟩) 1 1) (hc : w.cell? ⟨g, 0, none⟩ = some (.int .u8 b))
    (h63 : n ≤ 1000000) (hbase : base ≤ w.heap.size)
    (h : ∀ v' w', w'.ownsRow base e 1 v' (n + 1) (xs ++ [.int .u8 b]) → w.grownBy w' v.ownBlock → wpList P ops Q rest (a.put o.dst v') w') : wpList P ops Q (o :: rest) a w := by
  obtain ⟨i, i0, i1, i2, i3⟩ := info_parts hi
  refine wpList_append_own w hgd s x t ho base e i (.int .u8 0) 1 1 ht i0 i1 i2 i3 rfl (by decide) v n xs hs hown ⟨g, 0, none⟩ 1 1 [.int .u8 b] hx rfl (fun j u hj => ?_) (by simp [Value.oneCell']) (by unfold maxLen; omega) (by omega) hbase fun v' w' h1 h2 _ => h v' w' h1 h2
  have : j = 0 := by
    have := (List.getElem?_eq_some_iff.1 hj).1
    simp at this; omega
  subst this
  cases hj
  exact hc
set_option maxHeartbeats 3200000 in
theorem voteKey (A : Option Addr) (l : List (Int × Int)) (cap : Nat) (w : World) (hT : Pow w) (hA : PairsAt w A l) (hl : l.length ≤ 4096) (hb : ∀ e ∈ l, (-9223372036854775808 ≤ e.1 ∧ e.1 ≤ 9223372036854775807) ∧ -9223372036854775808 ≤ e.2 ∧ e.2 ≤ 9223372036854775807) :
    Calls Tryd.prog 10 #[.slice A l.length cap] w fun e w' => e = .returned (.string (strB (Vote.key l))) ∧ Ok w w' := by
  have hok := Ok.refl w
  have H := Lib.hid hA
  have HB := Lib.hid hb
  have HT := Lib.hid hT
  clear hA hb hT
  go_enter Tryd.func10, Tryd.ntmps10
  go_wp2
  go_loopw [3, 8] (fun s i wx => ∃ k : Nat, k ≤ l.length ∧ i = .int .i64 k ∧ wx.ownsRow w.heap.size 5 1 s (Vote.key (l.take k)).length (Lib.byteCells (Vote.key (l.take k))) ∧ Ok w wx) (fun _ i _ => l.length - (intOf i).toNat)
  case atStart => exact ⟨0, Nat.zero_le _, rfl, World.ownsRow_nil _ _ _ _, hok⟩
  case round =>
    obtain ⟨k, hkl, rfl, hrow, hok⟩ := hrel
    by_cases hlt : k < l.length
    · obtain ⟨b, off, hA, hbs, c1, c2⟩ := H.out.below hok k hlt
      subst hA
      have hm := HB.out l[k] (List.getElem_mem _)
      have zs : (Vote.key (l.take k)).length ≤ 200000 := by
        have := key_length (l := l.take k) (fun e he => HB.out e (List.mem_of_mem_take he))
        rw [List.length_take] at this
        omega
      have za := itoa_le _ hm.1
      have zb := itoa_le _ hm.2
      have K1 := Lib.hid fun W (ok : Ok w W) n sv xs h1 h2 => appendIntOk ok HT.out n l[k].1 hm.1 sv xs h1 h2
      have K2 := Lib.hid fun W (ok : Ok w W) n sv xs h1 h2 => appendIntOk ok HT.out n l[k].2 hm.2 sv xs h1 h2
      have HST := Lib.hid (key_take hlt)
      obtain ⟨K, h1⟩ : ∃ s, Vote.key (l.take k) = s := ⟨_, rfl⟩
      obtain ⟨ia, h2⟩ : ∃ s, Lib.itoa l[k].1 = s := ⟨_, rfl⟩
      obtain ⟨ib, h3⟩ : ∃ s, Lib.itoa l[k].2 = s := ⟨_, rfl⟩
      rw [h2] at K1 za
      rw [h3] at K2 zb
      rw [h1, h2, h3] at HST
      rw [h1] at zs hrow
      obtain ⟨x, h4⟩ : ∃ s, l[k].1 = s := ⟨_, rfl⟩
      obtain ⟨y, h5⟩ : ∃ s, l[k].2 = s := ⟨_, rfl⟩
      rw [h4] at K1 c1
      rw [h5] at K2 c2
      clear h1 h2 h3 h4 h5 hm
      go_upto_region 5 with fail
      have hbox : (wr.alloc (.cells #[.int .i64 x, .int .i64 y] 37)).heap[wr.heap.size]? = some (.cells #[.int .i64 x, .int .i64 y] 37 (0, 0)) := (MapKept.heap_alloc wr _).1
      have hrow2 := hrow.alloc (.cells #[.int .i64 x, .int .i64 y] 37)
      have hok2 := hok.alloc (.cells #[.int .i64 x, .int .i64 y] 37)
      generalize wr.alloc (.cells #[.int .i64 x, .int .i64 y] 37) = W2 at hbox hrow2 hok2 ⊢
      generalize wr.heap.size = g at hbox ⊢
      clear hrow hok c1 c2
      have HK := Lib.hid fun W' (k : Lib.OthersKept 5 none W2 W') => (⟨kept_cell (o := 0) (by decide) hbox k rfl, kept_cell (o := 1) (by decide) hbox k rfl, kept_lt (by decide) hbox k⟩ : W'.cell? ⟨g, 0, none⟩ = some (.int .i64 x) ∧ W'.cell? ⟨g, 1, none⟩ = some (.int .i64 y) ∧ g < W'.heap.size)
      have hk := Lib.OthersKept.refl 5 none W2
      obtain ⟨c0, c1, cl⟩ := HK.out _ hk
      clear hbox
      go_wp2_with (first
        | (go_at_call 16; refine (K1.out _ hok2 _ _ _ hrow2 (by omega)).mono ?_; rintro e w3 ⟨v3, rfl, hr3, hok3, hk3⟩; replace hk := hk.trans hk3; obtain ⟨d0, d1, dl⟩ := HK.out _ hk; clear hk3 hrow2 hok2 c0 c1 cl)
        | (go_at_call 16; refine (K2.out _ hok4 _ _ _ hr4 (by omega)).mono ?_; rintro e w5 ⟨v5, rfl, hr5, hok5, hk5⟩; clear hk5 hr4 hok4)
        | (at_builtin; refine wpList_append_byte rfl (.tmp 15) (.tmp 16) 38 rfl w.heap.size 5 Tryd.underlying38 byteInfo v3 _ _ rfl (hr3.alloc _) w3.heap.size 58 rfl (by simp) (by omega) (hok3.alloc _).size ?_; intro v4 w4 hr4 hg4; have hok4 := ok_grow19 (hok3.alloc _) hg4 (row_from hr3); replace hk := (hk.alloc _).grown hg4 (row_typed (hr3.alloc _)); clear hg4 hr3 hok3 d0 d1 dl; obtain ⟨d0, d1, dl⟩ := HK.out _ hk)
        | (at_builtin; refine wpList_append_byte rfl (.tmp 21) (.tmp 22) 38 rfl w.heap.size 5 Tryd.underlying38 byteInfo v5 _ _ rfl (hr5.alloc _) w5.heap.size 59 rfl (by simp) (by omega) (hok5.alloc _).size ?_; intro v6 w6 hr6 hg6; have hok6 := ok_grow19 (hok5.alloc _) hg6 (row_from hr5); clear hg6 hr5 hok5 hk d0 d1 dl))
      go_roundw
      case rel => exact ⟨k + 1, by omega, by go_num, by rw [HST.out, show (K ++ (ia ++ 58 :: (ib ++ [59])) : List UInt8).length = K.length + ia.length + 1 + ib.length + 1 by simp only [List.length_append, List.length_cons, List.length_nil]; omega]; simpa [Lib.byteCells] using hr6, hok6⟩
      case measure => simp [intOf]; omega
    · obtain rfl : k = l.length := by omega
      rw [List.take_length] at hrow
      have hcv := row_str rfl hrow
      go_wp2
      go_ret
      exact ⟨rfl, hok⟩
end Go.Proofs.YtbbkohpaebeidaaDoor
