/- Several texts of mine in one: C23i, W51, W26, C22f. -/
import Derived.Test.YtnhjdinmakkknaaGreatDoorC23g
import Derived.Test.YtnhjdinmakkknaaGreatDoorP39
import Derived.Test.YtnhjdinmakkknaaGreatDoorB23
import Derived.Test.YtnhjdinmakkknaaGreatDoorP36
import Derived.Test.YtnhjdinmakkknaaGreatDoorW16
import Derived.Test.YtnhjdinmakkknaaGreatDoorB18
import Derived.Test.YtnhjdinmakkknaaGreatDoorB05
import Derived.Test.YtnhjdinmakkknaaGreatDoorC22e
import Derived.Test.YtnhjdinmakkknaaGreatDoorB12
import Derived.Test.YtnhjdinmakkknaaGreatDoorB10
import Derived.Test.YtnhjdinmakkknaaGreatDoorB15
import Derived.Test.YtnhjdinmakkknaaGreatDoorP33
import Derived.Deep.AppendSrc
import Derived.Lib.AppendZerosOnto
import Derived.Lib.Overlaps
namespace Go.Proofs.YtnhjdinmakkknaaGreatDoor
open Go.RowKit
set_option linter.unusedVariables false
set_option maxRecDepth 100000
attribute [local go_sem ↓] Go.wp_at_zero Go.wp_at_succ
/-- The numbers that may be, of the law's `some`. -/
def par23 : Par := ⟨1, 0, 4, 1000, 1, 100, 10, 50, 20, 6, 5000, 1000⟩
theorem law23Some (w : World) : Calls Tryz.prog 27 #[] w fun e w' => e = .returned (parV par23) ∧ Ok w w' := by
  have hok := Ok.refl w
  go_enter Tryz.func27, Tryz.ntmps27
  go_wp2
  exact bodyPost_ret (v := parV par23) (by simp [results, Tryz.results27, go_sem, parV, par23]) rfl ⟨rfl, hok.alloc _⟩
/-- More than is played, or not. -/
noncomputable def great23 (s : Sta) (l : List In) : Bool := by classical exact !decide (Few s l)
theorem great23_true {s : Sta} {l : List In} (h : ¬ Few s l) : great23 s l = true := by unfold great23; simp [h]
theorem great23_false {s : Sta} {l : List In} (h : Few s l) : great23 s l = false := by unfold great23; simp [h]
theorem great23_few {s : Sta} {l : List In} (h : great23 s l = false) : Few s l := by unfold great23 at h; simpa using h
/-- A slice of one input. -/
theorem InsAt.new (w : World) (x : In) (hx : InAt w x) (T : TypeId) {b : Nat} (hb : b = w.heap.size) : InsAt (w.alloc (.cells (inCells x) T)) (some ⟨b, 0, none⟩) [x] :=
  ⟨CellsAt.new w T (inCells x) (by simp [inCells, inL]) hb, fun y hy => by
    rw [List.mem_singleton] at hy
    subst hy
    exact hx.below ((Ok.refl w).alloc _)⟩
set_option maxHeartbeats 3200000 in
theorem law23Great (s : Sta) (A : Option Addr) (cap : Nat) (B : Option Addr) (l : List In) (c : Nat) (w : World) (hB : InsAt w B l) (hl : l.length ≤ 9223372036854775807) (hw : ∀ x ∈ l, x.heard.length ≤ 9223372036854775807) :
    Calls Tryz.prog 10 #[staV s A cap, .slice B l.length c] w fun e w' => e = .returned (.bool (great23 s l)) ∧ Ok w w' := by
  have HB := Lib.hid hB
  have HW := Lib.hid hw
  clear hB hw
  obtain ⟨R, hR⟩ : ∃ R, great23 s l = R := ⟨_, rfl⟩
  have HT := Lib.hid fun (h : ¬ Few s l) => hR.symm.trans (great23_true h)
  have HF := Lib.hid fun (h : Few s l) => hR.symm.trans (great23_false h)
  rw [hR]
  clear hR
  by_cases t1 : 128 < s.table.length
  · have HE : Hid (R = true) := Lib.hid (HT.out fun f => by have := f.table; omega)
    have d1 : decide ((128 : Int) < (s.table.length : Int)) = true := decide_eq_true (by omega)
    have hok := (Ok.refl w).alloc (.cells (staCells s A cap) 30)
    have hS := Own.new w (staCells s A cap) 30 rfl
    go_enter Tryz.func10, Tryz.ntmps10
    go_upto_region 1 with fail
    change Code.wp _ _ _ _ (w.alloc (.cells (staCells s A cap) 30))
    generalize w.alloc (.cells (staCells s A cap) 30) = W at hok hS ⊢
    generalize w.heap.size = G at hS ⊢
    obtain ⟨s0, s1, s2, s3, s4, s5, s6, s7, s8, s9, s10⟩ := hS.sta; have hsl := hS.lt
    go_wp2_with fail
    go_ret
    exact ⟨by rw [HE.out]; rfl, hok⟩
  have d1 : decide ((128 : Int) < (s.table.length : Int)) = false := decide_eq_false (by omega)
  by_cases t2 : 12 < l.length
  · have HE : Hid (R = true) := Lib.hid (HT.out fun f => by have := f.list; omega)
    have d2 : decide ((12 : Int) < (l.length : Int)) = true := decide_eq_true (by omega)
    have hok := (Ok.refl w).alloc (.cells (staCells s A cap) 30)
    have hS := Own.new w (staCells s A cap) 30 rfl
    go_enter Tryz.func10, Tryz.ntmps10
    go_upto_region 1 with fail
    change Code.wp _ _ _ _ (w.alloc (.cells (staCells s A cap) 30))
    generalize w.alloc (.cells (staCells s A cap) 30) = W at hok hS ⊢
    generalize w.heap.size = G at hS ⊢
    obtain ⟨s0, s1, s2, s3, s4, s5, s6, s7, s8, s9, s10⟩ := hS.sta; have hsl := hS.lt
    go_wp2_with fail
    go_ret
    exact ⟨by rw [HE.out]; rfl, hok⟩
  have d2 : decide ((12 : Int) < (l.length : Int)) = false := decide_eq_false (by omega)
  have T1 : Hid (s.table.length ≤ 128 ∧ l.length ≤ 12) := Lib.hid ⟨by omega, by omega⟩
  have hok := (Ok.refl w).alloc (.cells (staCells s A cap) 30)
  have hS := Own.new w (staCells s A cap) 30 rfl
  go_enter Tryz.func10, Tryz.ntmps10
  go_upto_region 1 with fail
  change Code.wp _ _ _ _ (w.alloc (.cells (staCells s A cap) 30))
  generalize w.alloc (.cells (staCells s A cap) 30) = W at hok hS ⊢
  generalize w.heap.size = G at hS ⊢
  obtain ⟨s0, s1, s2, s3, s4, s5, s6, s7, s8, s9, s10⟩ := hS.sta; have hsl := hS.lt
  go_upto_region 3 with fail
  clear s0 s1 s2 s3 s4 s5 s6 s7 s8 s9 s10 hsl hS d1 d2 t1 t2
  go_wp2_with fail
  go_loopw [20] (fun i wr => ∃ k : Nat, k ≤ l.length ∧ i = .int .i64 k ∧ Hid (∀ j (hj : j < l.length), j < k → l[j].heard.length ≤ 40 ∧ l[j].table.length ≤ 128 ∧ ∀ h ∈ l[j].heard, h.m.table.length ≤ 128) ∧ Ok w wr) (fun i _ => l.length - (intOf i).toNat)
  case atStart => exact ⟨0, Nat.zero_le _, rfl, Lib.hid (fun j _ h => absurd h (Nat.not_lt_zero _)), hok⟩
  case round =>
    clear hok
    obtain ⟨k, hk, rfl, hrel, hok⟩ := hrel
    by_cases hkl : k < l.length
    · obtain ⟨b, off, e, hb, hc⟩ := (HB.out.below hok).nthAt k hkl
      have hx := List.getElem_mem hkl
      have HX := Lib.hid ((HB.out.parts _ hx).heard)
      have hwx := HW.out _ hx
      have HK : Hid (∀ x, l[k] = x → x.heard.length ≤ 40 → x.table.length ≤ 128 → (∀ h ∈ x.heard, h.m.table.length ≤ 128) → ∀ j (hj : j < l.length), j < k + 1 → l[j].heard.length ≤ 40 ∧ l[j].table.length ≤ 128 ∧ ∀ h ∈ l[j].heard, h.m.table.length ≤ 128) := Lib.hid fun x hx a1 a2 a3 j hj hjk => by
        by_cases e : j = k
        · subst e; rw [hx]; exact ⟨a1, a2, a3⟩
        · exact hrel.out j hj (by omega)
      obtain ⟨x, hxe⟩ : ∃ x, l[k] = x := ⟨_, rfl⟩
      rw [hxe] at HX hwx hx
      have HMX := Lib.hid hx
      have HK := Lib.hid (HK.out x hxe)
      obtain ⟨i0, i1, i2, i3, i4, i5⟩ := hc x hxe
      subst e
      clear hc hx hrel hxe
      obtain ⟨xt, xB, xh, xhc, xr, xrd, xg, xT, xtb, xtc⟩ := x
      simp only at HX hwx HK HMX i0 i1 i2 i3 i4 i5
      by_cases u1 : 40 < xh.length
      · have HE : Hid (R = true) := Lib.hid (HT.out fun f => by have := f.heard _ HMX.out; simp only at this; omega)
        have d1 : decide ((40 : Int) < (xh.length : Int)) = true := decide_eq_true (by omega)
        go_wp2_with fail
        go_ret
        exact ⟨by rw [HE.out]; rfl, hok.alloc _⟩
      have d1 : decide ((40 : Int) < (xh.length : Int)) = false := decide_eq_false (by omega)
      by_cases u2 : 128 < xtb.length
      · have HE : Hid (R = true) := Lib.hid (HT.out fun f => by have := f.tables _ HMX.out; simp only at this; omega)
        have d2 : decide ((128 : Int) < (xtb.length : Int)) = true := decide_eq_true (by omega)
        go_wp2_with fail
        go_ret
        exact ⟨by rw [HE.out]; rfl, hok.alloc _⟩
      have d2 : decide ((128 : Int) < (xtb.length : Int)) = false := decide_eq_false (by omega)
      have HU : Hid (xh.length ≤ 40 ∧ xtb.length ≤ 128) := Lib.hid ⟨by omega, by omega⟩
      go_upto_region 8 with fail
      replace hok := hok.alloc (.cells #[.int .i64 xt, .slice xB xh.length xhc, .bool xr, .int .i64 xrd, .bool xg, .slice xT xtb.length xtc] 49)
      clear d1 d2 u1 u2
      go_wp2_with fail
      have hk0 := hok
      generalize wr.alloc (.cells #[.int .i64 xt, .slice xB xh.length xhc, .bool xr, .int .i64 xrd, .bool xg, .slice xT xtb.length xtc] 49) = W2 at hok hk0 ⊢
      go_loopw [37] (fun i wx => ∃ m : Nat, m ≤ xh.length ∧ i = .int .i64 m ∧ Hid (∀ j (hj : j < xh.length), j < m → xh[j].m.table.length ≤ 128) ∧ Ok w wx) (fun i _ => xh.length - (intOf i).toNat)
      case atStart => exact ⟨0, Nat.zero_le _, rfl, Lib.hid (fun j _ h => absurd h (Nat.not_lt_zero _)), hok⟩
      case round =>
        clear hok hk0 i0 i1 i2 i3 i4 i5
        obtain ⟨m, hm, rfl, hrel, hok⟩ := hrel
        by_cases hml : m < xh.length
        · obtain ⟨b2, off2, e2, hb2, hc2⟩ := (HX.out.below hok).nthAt m hml
          have HM : Hid (∀ y, xh[m] = y → y.m.table.length ≤ 128 → ∀ j (hj : j < xh.length), j < m + 1 → xh[j].m.table.length ≤ 128) := Lib.hid fun y hy a1 j hj hjk => by
            by_cases e : j = m
            · subst e; rw [hy]; exact a1
            · exact hrel.out j hj (by omega)
          have hym := List.getElem_mem hml
          obtain ⟨y, hye⟩ : ∃ y, xh[m] = y := ⟨_, rfl⟩
          rw [hye] at hym
          have HMY := Lib.hid hym
          have HM := Lib.hid (HM.out y hye)
          obtain ⟨c0, c1, c2, c3, c4, c5, c6, c7, c8, c9, c10, c11, c12, c13, c14⟩ := hc2 y hye
          subst e2
          clear hc2 hrel hye hym
          by_cases v1 : 128 < y.m.table.length
          · have HE : Hid (R = true) := Lib.hid (HT.out fun f => by have := f.told _ HMX.out y HMY.out; omega)
            have d1 : decide ((128 : Int) < (y.m.table.length : Int)) = true := decide_eq_true (by omega)
            go_wp2_with fail
            go_ret
            exact ⟨by rw [HE.out]; rfl, hok.alloc _⟩
          · have d1 : decide ((128 : Int) < (y.m.table.length : Int)) = false := decide_eq_false (by omega)
            have HV : Hid (y.m.table.length ≤ 128) := Lib.hid (by omega)
            clear v1
            go_wp2_with fail
            go_roundw
            case rel => exact ⟨m + 1, by omega, by go_num, Lib.hid (HM.out HV.out), hok.alloc _⟩
            case measure => simp [intOf]; omega
        · have HE : Hid (∀ h ∈ xh, h.m.table.length ≤ 128) := Lib.hid fun h hh => by
            obtain ⟨j, hj, rfl⟩ := List.getElem_of_mem hh
            exact hrel.out j hj (by omega)
          clear hrel
          go_wp2_with fail
          go_roundw
          case rel => exact ⟨k + 1, by omega, by go_num, Lib.hid (HK.out HU.out.1 HU.out.2 HE.out), hok⟩
          case measure => simp [intOf]; omega
    · have HE : Hid (Few s l) := Lib.hid ⟨T1.out.1, T1.out.2, fun x hx => by
          obtain ⟨j, hj, rfl⟩ := List.getElem_of_mem hx
          exact (hrel.out j hj (by omega)).1, fun x hx => by
          obtain ⟨j, hj, rfl⟩ := List.getElem_of_mem hx
          exact (hrel.out j hj (by omega)).2.1, fun x hx => by
          obtain ⟨j, hj, rfl⟩ := List.getElem_of_mem hx
          exact (hrel.out j hj (by omega)).2.2⟩
      clear hrel
      have HE2 : Hid (R = false) := Lib.hid (HF.out HE.out)
      go_wp2_with fail
      go_ret
      exact ⟨by rw [HE2.out]; rfl, hok⟩
end Go.Proofs.YtnhjdinmakkknaaGreatDoor
namespace Go.Proofs.YtnhjdinmakkknaaGreatDoor
open Go.RowKit Go.WideShapes Go.ChangeShapes
set_option maxRecDepth 100000
theorem infoMsg51 : (Tryz.prog.info? 51).map (fun i => (i.zero, i.size, i.bytes)) = some (some (.agg #[.int .i64 0, .int .i64 0, .int .i64 0, .int .i64 0, .int .i64 0, .int .i64 0, .bool false, .bool false, .int .i64 0, .int .i64 0, .int .i64 0, .int .i64 0, .int .i64 0, .slice none 0 0]), 14, 120) := by kernel_rfl
theorem maL_one (y : MA) : ∀ u ∈ maL y, u.oneCell' = true := by
  intro u hu
  simp only [maL, msgCells, List.mem_cons, List.not_mem_nil, or_false] at hu
  rcases hu with (rfl | rfl | rfl | rfl | rfl | rfl | rfl | rfl | rfl | rfl | rfl | rfl | rfl | rfl) <;> rfl
/-- A message is put behind a row of one's own. -/
theorem wpList_append_msg {w : World} {ops : Array Oper} {rest : List Oper} {o : Oper} {a : Act} {Q : Exit → Act → World → Prop} (hgd : o.guard = none) (s x : Operand)
    (ho : o.op = .call { callee := .builtin .append, args := #[s, x], argTypes := #[148, 148] })
    (base : Nat) (v : Value) (l : List MA) (n : Nat) (hs : a.eval s = v) (hown : w.ownsRow base 51 14 v n (l.flatMap maL)) (g : Nat) (y : MA) (hx : a.eval x = .slice (some ⟨g, 0, none⟩) 1 1) (hy : Own w g (maL y).toArray)
    (h63 : n ≤ 100000) (hbase : base ≤ w.heap.size)
    (h : ∀ v' w', w'.ownsRow base 51 14 v' (n + 1) ((l ++ [y]).flatMap maL) → w.grownBy w' v.ownBlock → wpList Tryz.prog ops Q rest (a.put o.dst v') w') : wpList Tryz.prog ops Q (o :: rest) a w := by
  obtain ⟨i, i0, i1, i2, i3⟩ := info_parts infoMsg51
  refine wpList_append_own w hgd s x 148 ho base 51 i _ 14 120 Tryz.underlying148 i0 i1 i2 i3 rfl (by decide) v n (l.flatMap maL) hs hown ⟨g, 0, none⟩ 1 1 (maL y) hx rfl (fun j u hj => ?_) (maL_one y) (by unfold maxLen; omega) (by omega) hbase fun v' w' h1 h2 _ => h v' w' (by rw [List.flatMap_append]; simpa using h1) h2
  rw [Go.WideShapes.add_plain, Nat.zero_add]
  exact hy.cell j (by rw [List.getElem?_toArray]; exact hj)
/-- Such a row reads so. -/
theorem msgs_of_row {w : World} {B : Nat} {v : Value} {l : List MA} {n : Nat} (hn : n = l.length) (h : w.ownsRow B 51 14 v n (l.flatMap maL)) (ht : ∀ x ∈ l, PairsAt w x.A x.m.table) : ∃ A c, v = .slice A l.length c ∧ MsgsAt w A l := by
  subst hn
  obtain ⟨A, c, e, hc⟩ := CellsAt.of_own h (by
    have : ∀ m : List MA, (m.flatMap maL).length = m.length * 14 := fun m => by
      induction m with
      | nil => rfl
      | cons a m ih => rw [List.flatMap_cons, List.length_append, ih, maL_len, List.length_cons]; omega
    exact (this l).symm) (by decide)
  exact ⟨A, c, e, hc, ht⟩
end Go.Proofs.YtnhjdinmakkknaaGreatDoor
namespace Go.Proofs.YtnhjdinmakkknaaGreatDoor
open Go.RowKit Go.WideShapes Go.ChangeShapes Go.Joins Go.Deep
/-- The row lies where it lay, or in a new block. -/
def Near (w : World) (A A' : Option Addr) : Prop := ∀ a, A' = some a → A = some a ∨ (a.off = 0 ∧ a.spot = none ∧ w.heap.size ≤ a.block)
section
variable {P : Program}
theorem first_row {w : World} {B : Nat} {e : TypeId} {k n c : Nat} {A : Option Addr} {xs : List Value} (h : w.ownsRow B e k (.slice A n c) n xs) : (Builtin.firstCells k n (.slice A n c)).run P w = .ok xs.toArray w := by
  rcases h.2 with ⟨h1, h2⟩ | ⟨g, cap, cur, h1, hb, hh, r⟩
  · cases h1
    have : xs = [] := List.length_eq_zero_iff.1 (by rw [h.1]; simp)
    subst this
    exact run_firstCells_none w k 0 0 0
  · cases h1
    exact run_firstCells_some w k n ⟨g, 0, none⟩ n c xs (by rw [h.1]) (h.cells (g := g) rfl)
/-- append of one struct that lies in a block of its own. -/
theorem run_append_one {w : World} {t e : TypeId} {z : Value} {k bytes : Nat} (ht : P.underlying t = some (.slice e)) (hi : (P.info? e).map (fun i => (i.zero, i.size, i.bytes)) = some (some z, k, bytes)) (hz : z.cells.size = k) (_hk : 0 < k) (hby : bytes ≤ 100000)
    {B : Nat} (hB : B ≤ w.heap.size) {A : Option Addr} {n c : Nat} {xs : List Value} (hR : w.ownsRow B e k (.slice A n c) n xs) {vb : Nat} {ys : Array Value} (hV : Own w vb ys) (hy : ys.size = k) (h1 : ∀ u ∈ ys.toList, u.oneCell' = true) (hlen : n ≤ 1000000) (ty : TypeId) :
    ∃ A' c' w1, (Builtin.append_ #[t, t] ty #[.slice A n c, .slice (some ⟨vb, 0, none⟩) 1 1]).run P w = .ok (.slice A' (n + 1) c') w1 ∧
      w1.ownsRow B e k (.slice A' (n + 1) c') (n + 1) (xs ++ ys.toList) ∧ w.grownBy w1 (Value.slice A n c).ownBlock ∧ Near w A A' := by
  obtain ⟨i0, i1, i2, i3, i4⟩ := info_parts hi
  have hys : ∀ j u, ys.toList[j]? = some u → w.cell? ((⟨vb, 0, none⟩ : Addr).add j) = some u := fun j u hj => by
    rw [Go.WideShapes.add_plain, Nat.zero_add]
    exact hV.cell j (by rwa [Array.getElem?_toList] at hj)
  have hyl : ys.toList.length = 1 * k := by rw [Array.length_toList, hy, Nat.one_mul]
  by_cases hroom : n + 1 ≤ c
  · obtain ⟨h0, ⟨h2, _⟩ | ⟨g, cap, cur, h2, h3⟩⟩ := hR
    · cases h2; omega
    · cases h2
      obtain ⟨w1, a1, a2, a3⟩ := run_append_fits (P := P) w B t ty e i0 k ht i1 i3 g n c xs ⟨h0, .inr ⟨g, c, cur, rfl, h3⟩⟩ ⟨vb, 0, none⟩ 1 1 ys.toList hyl hys h1 hroom
      exact ⟨_, _, w1, a1, a2, a3, fun a ha => .inl ha⟩
  · have hnc : n ≤ c ∧ c ≤ maxLen := by
      obtain ⟨A0, c0, e0, p, q, _⟩ := row_form hR
      cases e0
      exact ⟨p, q⟩
    have hsrc : Src P i0.size t (.slice (some ⟨vb, 0, none⟩) 1 1) 1 ys.toList w := Src.ofSlice w ht _ 1 1 _ (by rw [i3]; exact hyl) hys h1
    have hold : (Builtin.firstCells i0.size n (.slice A n c)).run P w.drew = .ok xs.toArray w.drew := by rw [i3]; exact first_row hR.drew
    have hfit : Builtin.nextslicecap (n + 1) c * i0.bytes ≤ 281474976710656 := by
      refine growslice_fits (by omega) ?_
      rw [i4]
      exact Nat.le_trans (Nat.mul_le_mul (show n + 1 ≤ 1000001 by omega) hby) (by decide)
    have hrun := run_append_grow_src w t t ty e i0 z ht i1 i2 A n c xs hold _ 1 ys.toList hsrc (by omega) (by omega) hfit
    obtain ⟨G, hG⟩ : ∃ G, grownCap w (n + 1) c e = G := ⟨_, rfl⟩
    have hG1 : n + 1 ≤ G := by rw [← hG]; exact grownCap_ge w _ _ _
    have hG2 : G ≤ maxLen := by rw [← hG]; exact grownCap_le_maxLen w _ _ _ (by unfold maxLen; omega)
    rw [hG] at hrun
    have hxl := hR.1
    refine ⟨_, _, _, hrun, ?_, grown_trans (grown_drew w _) (grown_alloc w.drew _ _), fun a ha => .inr ?_⟩
    · have hsz : ((xs ++ ys.toList).toArray ++ Builtin.zeroCells z.cells (G - (n + 1))).size = G * k := by
        rw [Array.size_append, List.size_toArray, List.length_append, size_zeroCells, hxl, hyl, hz, ← Nat.add_mul, ← Nat.add_mul]
        congr 1
        omega
      refine row_of_own (OwnT.new w.drew _ e rfl) hB (by rw [List.length_append, hxl, hyl, ← Nat.add_mul]) hG1 hG2 hsz fun j u hj => ?_
      have hjl : j < (xs ++ ys.toList).length := (List.getElem?_eq_some_iff.1 hj).1
      rw [Array.getElem?_append_left (by simpa using hjl), List.getElem?_toArray]
      exact hj
    · cases ha
      exact ⟨rfl, rfl, Nat.le_refl _⟩
end
end Go.Proofs.YtnhjdinmakkknaaGreatDoor
namespace Go.Proofs.YtnhjdinmakkknaaGreatDoor
open Go.RowKit
set_option linter.unusedVariables false
set_option maxRecDepth 100000
attribute [local go_sem ↓] Go.wp_at_zero Go.wp_at_succ
theorem Own.inp {w : World} {g : Nat} {x : In} (h : Own w g (inCells x)) : w.cell? ⟨g, 0, none⟩ = some (.int .i64 x.ticks) ∧ w.cell? ⟨g, 1, none⟩ = some (.slice x.B x.heard.length x.hcap) ∧ w.cell? ⟨g, 2, none⟩ = some (.bool x.ref) ∧ w.cell? ⟨g, 3, none⟩ = some (.int .i64 x.reading) ∧ w.cell? ⟨g, 4, none⟩ = some (.bool x.given) ∧ w.cell? ⟨g, 5, none⟩ = some (.slice x.T x.table.length x.tcap) :=
  ⟨h.cell 0 rfl, h.cell 1 rfl, h.cell 2 rfl, h.cell 3 rfl, h.cell 4 rfl, h.cell 5 rfl⟩
theorem Outs.heards {K : Nat} {w : World} {A : Option Addr} {c : Nat} {o : List HA} (h : Outs K w (.slice A o.length c) o) : HeardsAt w A o := by
  obtain ⟨A2, c2, e, h2⟩ := heards_of_row rfl h.row (fun x hx => ((h.tabs x hx).pairs).1)
  cases e
  exact h2
theorem spanInfo22 : (Tryz.prog.info? 25).map (fun i => (i.zero, i.size, i.bytes)) = some (some (.agg #[.int .i64 0, .int .i64 0]), 2, 16) := by kernel_rfl
theorem exec_append22 {o : Oper} {a : Act} {w w' : World} {s x : Operand} {t : TypeId} {v v1 v2 : Value} (ho : o.op = .call { callee := .builtin .append, args := #[s, x], argTypes := #[t, t] }) (hs : a.eval s = v1) (hx : a.eval x = v2) (hr : (Builtin.append_ #[t, t] o.type #[v1, v2]).run Tryz.prog w = .ok v w') :
    (execOp a.eval o).run Tryz.prog w = .ok (.value v) w' := by
  unfold execOp
  simp only [ho, resolve, invoke, builtin, Sem.run_bind, Sem.run_pure, Result.andThen_ok, List.map_toArray, List.map_cons, List.map_nil, hs, hx, hr]
/-- The spans that are told, in a row of one's own. -/
def WaysRow (K : Nat) (w : World) (v : Value) (l : List (Int × Int)) : Prop := w.ownsRow K 25 2 v l.length (cellsOfPairs l)
end Go.Proofs.YtnhjdinmakkknaaGreatDoor
