/- Contracts of layer 22: what the law asks first. -/
import Derived.Test.YtmmiboblofopgaaGreatC22p
import Derived.Test.YtmmiboblofopgaaGreatB20
namespace Go.Proofs.YtmmiboblofopgaaGreat
open Go.RowKit
set_option linter.unusedVariables false
set_option maxRecDepth 100000
attribute [local go_sem ↓] Go.wp_at_zero Go.wp_at_succ
/-- The numbers that may be, of the law's `some`. -/
def par22 : Par := ⟨1, 0, 0, 1000, 1, 100, 10, 50, 20, 5, 5000, 1000⟩
theorem law22Some (w : World) : Calls Tryz.prog 25 #[] w fun e w' => e = .returned (parV par22) ∧ Ok w w' := by
  have hok := Ok.refl w
  go_enter Tryz.func25, Tryz.ntmps25
  go_wp2
  exact bodyPost_ret (v := parV par22) (by simp [results, Tryz.results25, go_sem, parV, par22]) rfl ⟨rfl, hok.alloc _⟩
/-- More than is played, or not. -/
noncomputable def great22 (s : Sta) (l : List In) : Bool := by classical exact !decide (Few s l)
theorem great_true {s : Sta} {l : List In} (h : ¬ Few s l) : great22 s l = true := by unfold great22; simp [h]
theorem great_false {s : Sta} {l : List In} (h : Few s l) : great22 s l = false := by unfold great22; simp [h]
theorem great_few {s : Sta} {l : List In} (h : great22 s l = false) : Few s l := by unfold great22 at h; simpa using h
/-- A slice of one input. -/
theorem InsAt.new (w : World) (x : In) (hx : InAt w x) (T : TypeId) {b : Nat} (hb : b = w.heap.size) : InsAt (w.alloc (.cells (inCells x) T)) (some ⟨b, 0, none⟩) [x] :=
  ⟨CellsAt.new w T (inCells x) (by simp [inCells, inL]) hb, fun y hy => by
    rw [List.mem_singleton] at hy
    subst hy
    exact hx.below ((Ok.refl w).alloc _)⟩
set_option maxHeartbeats 3200000 in
theorem law22Great (s : Sta) (A : Option Addr) (cap : Nat) (B : Option Addr) (l : List In) (c : Nat) (w : World) (hB : InsAt w B l) (hl : l.length ≤ 9223372036854775807) (hw : ∀ x ∈ l, x.heard.length ≤ 9223372036854775807) :
    Calls Tryz.prog 9 #[staV s A cap, .slice B l.length c] w fun e w' => e = .returned (.bool (great22 s l)) ∧ Ok w w' := by
  have HB := Lib.hid hB
  have HW := Lib.hid hw
  clear hB hw
  obtain ⟨R, hR⟩ : ∃ R, great22 s l = R := ⟨_, rfl⟩
  have HT := Lib.hid fun (h : ¬ Few s l) => hR.symm.trans (great_true h)
  have HF := Lib.hid fun (h : Few s l) => hR.symm.trans (great_false h)
  rw [hR]
  clear hR
  by_cases t1 : 128 < s.table.length
  · have HE : Hid (R = true) := Lib.hid (HT.out fun f => by have := f.table; omega)
    have d1 : decide ((128 : Int) < (s.table.length : Int)) = true := decide_eq_true (by omega)
    have hok := (Ok.refl w).alloc (.cells (staCells s A cap) 30)
    have hS := Own.new w (staCells s A cap) 30 rfl
    go_enter Tryz.func9, Tryz.ntmps9
    go_upto_region 1 with fail
    change Code.wp _ _ _ _ (w.alloc (.cells (staCells s A cap) 30))
    generalize w.alloc (.cells (staCells s A cap) 30) = W at hok hS ⊢
    generalize w.heap.size = G at hS ⊢
    obtain ⟨s0, s1, s2, s3, s4, s5, s6, s7, s8, s9, s10⟩ := hS.sta; have hsl := hS.lt
    go_wp2_with fail
    go_ret
    exact ⟨by rw [HE.out]; rfl, hok⟩
  have d1 : decide ((128 : Int) < (s.table.length : Int)) = false := decide_eq_false (by omega)
  by_cases t2 : 12 < l.length
  · have HE : Hid (R = true) := Lib.hid (HT.out fun f => by have := f.list; omega)
    have d2 : decide ((12 : Int) < (l.length : Int)) = true := decide_eq_true (by omega)
    have hok := (Ok.refl w).alloc (.cells (staCells s A cap) 30)
    have hS := Own.new w (staCells s A cap) 30 rfl
    go_enter Tryz.func9, Tryz.ntmps9
    go_upto_region 1 with fail
    change Code.wp _ _ _ _ (w.alloc (.cells (staCells s A cap) 30))
    generalize w.alloc (.cells (staCells s A cap) 30) = W at hok hS ⊢
    generalize w.heap.size = G at hS ⊢
    obtain ⟨s0, s1, s2, s3, s4, s5, s6, s7, s8, s9, s10⟩ := hS.sta; have hsl := hS.lt
    go_wp2_with fail
    go_ret
    exact ⟨by rw [HE.out]; rfl, hok⟩
  have d2 : decide ((12 : Int) < (l.length : Int)) = false := decide_eq_false (by omega)
  have T1 : Hid (s.table.length ≤ 128 ∧ l.length ≤ 12) := Lib.hid ⟨by omega, by omega⟩
  have hok := (Ok.refl w).alloc (.cells (staCells s A cap) 30)
  have hS := Own.new w (staCells s A cap) 30 rfl
  go_enter Tryz.func9, Tryz.ntmps9
  go_upto_region 1 with fail
  change Code.wp _ _ _ _ (w.alloc (.cells (staCells s A cap) 30))
  generalize w.alloc (.cells (staCells s A cap) 30) = W at hok hS ⊢
  generalize w.heap.size = G at hS ⊢
  obtain ⟨s0, s1, s2, s3, s4, s5, s6, s7, s8, s9, s10⟩ := hS.sta; have hsl := hS.lt
  go_upto_region 3 with fail
  clear s0 s1 s2 s3 s4 s5 s6 s7 s8 s9 s10 hsl hS d1 d2 t1 t2
  go_wp2_with fail
  go_loopw [20] (fun i wr => ∃ k : Nat, k ≤ l.length ∧ i = .int .i64 k ∧ Hid (∀ j (hj : j < l.length), j < k → l[j].heard.length ≤ 40 ∧ l[j].table.length ≤ 128 ∧ ∀ h ∈ l[j].heard, h.m.table.length ≤ 128) ∧ Ok w wr) (fun i _ => l.length - (intOf i).toNat)
  case atStart => exact ⟨0, Nat.zero_le _, rfl, Lib.hid (fun j _ h => absurd h (Nat.not_lt_zero _)), hok⟩
  case round =>
    clear hok
    obtain ⟨k, hk, rfl, hrel, hok⟩ := hrel
    by_cases hkl : k < l.length
    · obtain ⟨b, off, e, hb, hc⟩ := (HB.out.below hok).nthAt k hkl
      have hx := List.getElem_mem hkl
      have HX := Lib.hid ((HB.out.parts _ hx).heard)
      have hwx := HW.out _ hx
      have HK : Hid (∀ x, l[k] = x → x.heard.length ≤ 40 → x.table.length ≤ 128 → (∀ h ∈ x.heard, h.m.table.length ≤ 128) → ∀ j (hj : j < l.length), j < k + 1 → l[j].heard.length ≤ 40 ∧ l[j].table.length ≤ 128 ∧ ∀ h ∈ l[j].heard, h.m.table.length ≤ 128) := Lib.hid fun x hx a1 a2 a3 j hj hjk => by
        by_cases e : j = k
        · subst e; rw [hx]; exact ⟨a1, a2, a3⟩
        · exact hrel.out j hj (by omega)
      obtain ⟨x, hxe⟩ : ∃ x, l[k] = x := ⟨_, rfl⟩
      rw [hxe] at HX hwx hx
      have HMX := Lib.hid hx
      have HK := Lib.hid (HK.out x hxe)
      obtain ⟨i0, i1, i2, i3, i4, i5⟩ := hc x hxe
      subst e
      clear hc hx hrel hxe
      obtain ⟨xt, xB, xh, xhc, xr, xrd, xg, xT, xtb, xtc⟩ := x
      simp only at HX hwx HK HMX i0 i1 i2 i3 i4 i5
      by_cases u1 : 40 < xh.length
      · have HE : Hid (R = true) := Lib.hid (HT.out fun f => by have := f.heard _ HMX.out; simp only at this; omega)
        have d1 : decide ((40 : Int) < (xh.length : Int)) = true := decide_eq_true (by omega)
        go_wp2_with fail
        go_ret
        exact ⟨by rw [HE.out]; rfl, hok.alloc _⟩
      have d1 : decide ((40 : Int) < (xh.length : Int)) = false := decide_eq_false (by omega)
      by_cases u2 : 128 < xtb.length
      · have HE : Hid (R = true) := Lib.hid (HT.out fun f => by have := f.tables _ HMX.out; simp only at this; omega)
        have d2 : decide ((128 : Int) < (xtb.length : Int)) = true := decide_eq_true (by omega)
        go_wp2_with fail
        go_ret
        exact ⟨by rw [HE.out]; rfl, hok.alloc _⟩
      have d2 : decide ((128 : Int) < (xtb.length : Int)) = false := decide_eq_false (by omega)
      have HU : Hid (xh.length ≤ 40 ∧ xtb.length ≤ 128) := Lib.hid ⟨by omega, by omega⟩
      go_upto_region 8 with fail
      replace hok := hok.alloc (.cells #[.int .i64 xt, .slice xB xh.length xhc, .bool xr, .int .i64 xrd, .bool xg, .slice xT xtb.length xtc] 44)
      clear d1 d2 u1 u2
      go_wp2_with fail
      have hk0 := hok
      generalize wr.alloc (.cells #[.int .i64 xt, .slice xB xh.length xhc, .bool xr, .int .i64 xrd, .bool xg, .slice xT xtb.length xtc] 44) = W2 at hok hk0 ⊢
      go_loopw [37] (fun i wx => ∃ m : Nat, m ≤ xh.length ∧ i = .int .i64 m ∧ Hid (∀ j (hj : j < xh.length), j < m → xh[j].m.table.length ≤ 128) ∧ Ok w wx) (fun i _ => xh.length - (intOf i).toNat)
      case atStart => exact ⟨0, Nat.zero_le _, rfl, Lib.hid (fun j _ h => absurd h (Nat.not_lt_zero _)), hok⟩
      case round =>
        clear hok hk0 i0 i1 i2 i3 i4 i5
        obtain ⟨m, hm, rfl, hrel, hok⟩ := hrel
        by_cases hml : m < xh.length
        · obtain ⟨b2, off2, e2, hb2, hc2⟩ := (HX.out.below hok).nthAt m hml
          have HM : Hid (∀ y, xh[m] = y → y.m.table.length ≤ 128 → ∀ j (hj : j < xh.length), j < m + 1 → xh[j].m.table.length ≤ 128) := Lib.hid fun y hy a1 j hj hjk => by
            by_cases e : j = m
            · subst e; rw [hy]; exact a1
            · exact hrel.out j hj (by omega)
          have hym := List.getElem_mem hml
          obtain ⟨y, hye⟩ : ∃ y, xh[m] = y := ⟨_, rfl⟩
          rw [hye] at hym
          have HMY := Lib.hid hym
          have HM := Lib.hid (HM.out y hye)
          obtain ⟨c0, c1, c2, c3, c4, c5, c6, c7, c8, c9, c10, c11, c12, c13, c14⟩ := hc2 y hye
          subst e2
          clear hc2 hrel hye hym
          by_cases v1 : 128 < y.m.table.length
          · have HE : Hid (R = true) := Lib.hid (HT.out fun f => by have := f.told _ HMX.out y HMY.out; omega)
            have d1 : decide ((128 : Int) < (y.m.table.length : Int)) = true := decide_eq_true (by omega)
            go_wp2_with fail
            go_ret
            exact ⟨by rw [HE.out]; rfl, hok.alloc _⟩
          · have d1 : decide ((128 : Int) < (y.m.table.length : Int)) = false := decide_eq_false (by omega)
            have HV : Hid (y.m.table.length ≤ 128) := Lib.hid (by omega)
            clear v1
            go_wp2_with fail
            go_roundw
            case rel => exact ⟨m + 1, by omega, by go_num, Lib.hid (HM.out HV.out), hok.alloc _⟩
            case measure => simp [intOf]; omega
        · have HE : Hid (∀ h ∈ xh, h.m.table.length ≤ 128) := Lib.hid fun h hh => by
            obtain ⟨j, hj, rfl⟩ := List.getElem_of_mem hh
            exact hrel.out j hj (by omega)
          clear hrel
          go_wp2_with fail
          go_roundw
          case rel => exact ⟨k + 1, by omega, by go_num, Lib.hid (HK.out HU.out.1 HU.out.2 HE.out), hok⟩
          case measure => simp [intOf]; omega
    · have HE : Hid (Few s l) := Lib.hid ⟨T1.out.1, T1.out.2, fun x hx => by
          obtain ⟨j, hj, rfl⟩ := List.getElem_of_mem hx
          exact (hrel.out j hj (by omega)).1, fun x hx => by
          obtain ⟨j, hj, rfl⟩ := List.getElem_of_mem hx
          exact (hrel.out j hj (by omega)).2.1, fun x hx => by
          obtain ⟨j, hj, rfl⟩ := List.getElem_of_mem hx
          exact (hrel.out j hj (by omega)).2.2⟩
      clear hrel
      have HE2 : Hid (R = false) := Lib.hid (HF.out HE.out)
      go_wp2_with fail
      go_ret
      exact ⟨by rw [HE2.out]; rfl, hok⟩
end Go.Proofs.YtmmiboblofopgaaGreat
