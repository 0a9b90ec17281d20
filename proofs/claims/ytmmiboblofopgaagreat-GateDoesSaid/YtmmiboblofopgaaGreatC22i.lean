/- Contracts of layer 22: Told, the document's. -/
import Derived.Test.YtmmiboblofopgaaGreatC22w
import Derived.Test.YtmmiboblofopgaaGreatW44
import Derived.Test.YtmmiboblofopgaaGreatC22e
import Derived.Deep.CutRange
import Derived.Deep.CutBlock
namespace Go.Proofs.YtmmiboblofopgaaGreat
open Go.RowKit
set_option linter.unusedVariables false
set_option maxRecDepth 100000
attribute [local go_sem ↓] Go.wp_at_zero Go.wp_at_succ
theorem Gate.find_first {l : List Hd} {k j : Nat} (hj : j < l.length) (h1 : Gate.has k l[j] = true) (h2 : ∀ m (hm : m < l.length), m < j → Gate.has k l[m] = false) : l.find? (Gate.has k) = some l[j] :=
  List.find?_eq_some_iff_getElem.2 ⟨h1, j, hj, rfl, fun m hm => by rw [h2 m (by omega) hm]; rfl⟩
theorem Gate.find_no {l : List Hd} {k : Nat} (h2 : ∀ m (hm : m < l.length), Gate.has k l[m] = false) : l.find? (Gate.has k) = none := by
  rw [List.find?_eq_none]
  intro x hx
  obtain ⟨m, hm, rfl⟩ := List.getElem_of_mem hx
  rw [h2 m hm]
  simp
/-- What is told by the first k. -/
def toldTo (me : Int) (l : List Hd) (k : Nat) : List Hd := (List.range k).filterMap (Gate.one me l)
theorem toldTo_next (me : Int) (l : List Hd) (k : Nat) : toldTo me l (k + 1) = toldTo me l k ++ (Gate.one me l k).toList := by
  unfold toldTo
  rw [List.range_succ, List.filterMap_append]
  cases h : Gate.one me l k <;> simp [h]
theorem toldTo_few (me : Int) (l : List Hd) (k : Nat) : (toldTo me l k).length ≤ k := by
  have := List.length_filterMap_le (Gate.one me l) (List.range k)
  rw [List.length_range] at this
  exact this
set_option maxHeartbeats 6400000 in
theorem ref22Told (p : Par) (me : Int) (B : Option Addr) (l : List HA) (cap : Nat) (w : World) (hB : HeardsAt w B l) (hl : l.length ≤ 1000) :
    Calls Tryz.prog 14 #[parV p, .int .i64 me, .slice B l.length cap] w fun e w' => ∃ (A : Option Addr) (c : Nat) (o : List HA), e = .returned (.slice A o.length c) ∧ o.map HA.hd = Gate.told p me (l.map HA.hd) ∧ (∀ x ∈ o, x ∈ l) ∧ w'.ownsRow w.heap.size 49 15 (.slice A o.length c) o.length (o.flatMap haL) ∧ Ok w w' := by
  have HB := Lib.hid hB
  clear hB
  have hP := Own.new w (parCells p) 23 rfl
  have hok := (Ok.refl w).alloc (.cells (parCells p) 23)
  go_enter Tryz.func14, Tryz.ntmps14
  go_upto_region 1 with fail
  change Code.wp _ _ _ _ (w.alloc (.cells (parCells p) 23))
  generalize w.alloc (.cells (parCells p) 23) = W at hP hok ⊢
  obtain ⟨BP, hBP⟩ : ∃ r, w.heap.size = r := ⟨_, rfl⟩
  rw [hBP] at hP ⊢
  obtain ⟨K, hK⟩ : ∃ r, W.heap.size = r := ⟨_, rfl⟩
  have HK : Hid (w.heap.size ≤ K ∧ BP < K) := Lib.hid ⟨by have := hP.lt; omega, by have := hP.lt; omega⟩
  have HKW : Hid (∀ wr, Ok W wr → K ≤ wr.heap.size) := Lib.hid fun wr j => hK ▸ j.size
  have HOKW := Lib.hid hok
  have HKE : Hid (W.heap.size = K) := Lib.hid hK
  clear hBP hK hok
  have hokW := Ok.refl W
  have hrow0 := World.ownsRow_nil W K 49 15
  have hcn : Gate.cnt p ≤ 16 := by unfold Gate.cnt; omega
  go_wp2_with fail
  go_loopw [7, 8] (fun v i wr => ∃ (k : Nat) (o : List HA), k ≤ Gate.cnt p ∧ i = .int .i64 k ∧ Hid (o.map HA.hd = toldTo me (l.map HA.hd) k ∧ (∀ x ∈ o, x ∈ l) ∧ o.length ≤ 16) ∧ wr.ownsRow K 49 15 v o.length (o.flatMap haL) ∧ Own wr BP (parCells p) ∧ Ok W wr) (fun _ i _ => Gate.cnt p - (intOf i).toNat)
  case atStart => exact ⟨0, [], Nat.zero_le _, rfl, Lib.hid ⟨rfl, by simp, by simp⟩, hrow0, hP, hokW⟩
  case round =>
    clear hP hrow0 hokW
    obtain ⟨k, o, hk, rfl, ho, hrow, hP, hok⟩ := hrel
    by_cases hlt : k < Gate.cnt p
    · have hn : (k : Int) < p.n := by unfold Gate.cnt at hlt; omega
      have h16 : (k : Int) < 16 := by omega
      have c0 := hP.cell 0 (v := .int .i64 p.n) rfl
      have hPl := hP.lt
      go_upto_block 1 with fail
      clear c0 hPl hn
      go_cut [7, 10] from 21 to 47 (fun v z wx => ∃ o2 : List HA, Hid (o2.map HA.hd = toldTo me (l.map HA.hd) (k + 1) ∧ (∀ x ∈ o2, x ∈ l) ∧ o2.length ≤ 16) ∧ wx.ownsRow K 49 15 v o2.length (o2.flatMap haL) ∧ Own wx BP (parCells p) ∧ Ok W wx)
      case first =>
        have HNO : Hid (Gate.one me (l.map HA.hd) k = none → o.map HA.hd = toldTo me (l.map HA.hd) (k + 1)) := Lib.hid fun h => by rw [toldTo_next, h, ho.out.1]; simp
        have HYES : Hid (∀ x : HA, Gate.one me (l.map HA.hd) k = some x.hd → x ∈ l → (o ++ [x]).map HA.hd = toldTo me (l.map HA.hd) (k + 1) ∧ (∀ y ∈ o ++ [x], y ∈ l) ∧ (o ++ [x]).length ≤ 16) := Lib.hid fun x h hx => by
          have e1 : (o ++ [x]).map HA.hd = toldTo me (l.map HA.hd) (k + 1) := by rw [toldTo_next, h, List.map_append, ho.out.1]; rfl
          refine ⟨e1, fun y hy => ?_, ?_⟩
          · rcases List.mem_append.1 hy with h | h
            · exact ho.out.2.1 y h
            · rw [List.mem_singleton.1 h]; exact hx
          · have := congrArg List.length e1
            rw [List.length_map] at this
            have h2 := toldTo_few me (l.map HA.hd) (k + 1)
            omega
        obtain ⟨Av, mv, cv, rfl⟩ := row_slice22 hrow
        have HLE := Lib.hid ho.out.2.2
        have HM := Lib.hid ho.out.2.1
        have HR := Lib.hid hrow
        have HP := Lib.hid hP
        have HOK := Lib.hid hok
        clear ho hrow hP hok
        have hoki := Ok.refl wr
        obtain ⟨wo, hwo⟩ : ∃ y, wr = y := ⟨_, rfl⟩
        rw [hwo] at HR HP HOK hoki ⊢
        clear hwo
        go_wp2_with fail
        go_loopw [7, 23] (fun v2 i wi => ∃ j : Nat, j ≤ l.length ∧ i = .int .i64 j ∧ v2 = .slice Av mv cv ∧ Hid ((k : Int) ≠ me → ∀ m (hm : m < (l.map HA.hd).length), m < j → Gate.has k (l.map HA.hd)[m] = false) ∧ Ok wo wi) (fun _ i _ => l.length - (intOf i).toNat)
        case atStart => exact ⟨0, Nat.zero_le _, rfl, rfl, Lib.hid (fun _ m hm h => absurd h (Nat.not_lt_zero _)), hoki⟩
        case round =>
          clear hoki
          obtain ⟨j, hj, rfl, rfl, hno, hoki⟩ := hrel
          by_cases hjl : j < l.length
          · obtain ⟨b, off, hB2, hb, hcx⟩ := (HB.out.below ((HOKW.out.trans HOK.out).trans hoki)).nthAt j hjl
            obtain ⟨x, hx⟩ : ∃ x, l[j] = x := ⟨_, rfl⟩
            have HXM : Hid (x ∈ l) := Lib.hid (hx ▸ List.getElem_mem hjl)
            have hxj : ∀ h, (l.map HA.hd)[j]'h = x.hd := fun h => by rw [List.getElem_map, hx]
            have HNX : Hid (((k : Int) ≠ me → Gate.has k x.hd = false) → ((k : Int) ≠ me → ∀ m (hm : m < (l.map HA.hd).length), m < j + 1 → Gate.has k (l.map HA.hd)[m] = false)) := Lib.hid fun h hme m hm hmj => by
              by_cases e : m = j
              · subst e; rw [hxj]; exact h hme
              · exact hno.out hme m hm (by omega)
            have HFI : Hid ((k : Int) ≠ me → Gate.has k x.hd = true → Gate.one me (l.map HA.hd) k = some x.hd) := Lib.hid fun hme h => by
              unfold Gate.one
              rw [if_neg hme, Gate.find_first (j := j) (by rw [List.length_map]; exact hjl) (by rw [hxj]; exact h) (hno.out hme), hxj]
            obtain ⟨t0, t1, t2, t3, t4, t5, t6, t7, t8, t9, t10, t11, t12, t13, t14⟩ := hcx x hx
            subst hB2
            clear hcx hx hxj hno
            go_upto_region 8 with fail
            clear t0 t1 t2 t3 t4 t5 t6 t7 t8 t9 t10 t11 t12 t13 t14 hb
            have hZ := Own.new wr #[.int .i64 x.m.kind, .int .i64 x.m.frm, .int .i64 x.m.lo, .int .i64 x.m.hi, .int .i64 x.m.held, .int .i64 x.m.hops, .bool x.m.good, .bool x.m.ref, .int .i64 x.m.slo, .int .i64 x.m.shi, .int .i64 x.m.pulse, .int .i64 x.m.time, .int .i64 x.m.num, .slice x.A x.m.table.length x.cap, .int .i64 x.age] 49 rfl
            replace hoki := hoki.alloc (.cells #[.int .i64 x.m.kind, .int .i64 x.m.frm, .int .i64 x.m.lo, .int .i64 x.m.hi, .int .i64 x.m.held, .int .i64 x.m.hops, .bool x.m.good, .bool x.m.ref, .int .i64 x.m.slo, .int .i64 x.m.shi, .int .i64 x.m.pulse, .int .i64 x.m.time, .int .i64 x.m.num, .slice x.A x.m.table.length x.cap, .int .i64 x.age] 49)
            change Code.wp _ _ _ _ (wr.alloc (.cells #[.int .i64 x.m.kind, .int .i64 x.m.frm, .int .i64 x.m.lo, .int .i64 x.m.hi, .int .i64 x.m.held, .int .i64 x.m.hops, .bool x.m.good, .bool x.m.ref, .int .i64 x.m.slo, .int .i64 x.m.shi, .int .i64 x.m.pulse, .int .i64 x.m.time, .int .i64 x.m.num, .slice x.A x.m.table.length x.cap, .int .i64 x.age] 49))
            generalize wr.alloc (.cells #[.int .i64 x.m.kind, .int .i64 x.m.frm, .int .i64 x.m.lo, .int .i64 x.m.hi, .int .i64 x.m.held, .int .i64 x.m.hops, .bool x.m.good, .bool x.m.ref, .int .i64 x.m.slo, .int .i64 x.m.shi, .int .i64 x.m.pulse, .int .i64 x.m.time, .int .i64 x.m.num, .slice x.A x.m.table.length x.cap, .int .i64 x.age] 49) = W3 at hZ hoki ⊢
            generalize wr.heap.size = Z at hZ ⊢
            have z0 := hZ.cell 0 rfl
            have z1 := hZ.cell 1 rfl
            have hZl := hZ.lt
            by_cases hme : (k : Int) = me
            · have q1 : ((k : Int) != me) = false := by simpa using hme
              have HE := Lib.hid (HNX.out fun h => absurd hme h)
              clear hme
              go_wp2_with fail
              go_roundw
              case rel => exact ⟨j + 1, hjl, by go_num, rfl, HE, hoki⟩
              case measure => simp [intOf]; omega
            have q1 : ((k : Int) != me) = true := by simpa using hme
            by_cases hki : x.m.kind = 1
            · have q2 : (x.m.kind == 1) = true := by simpa using hki
              by_cases hfr : x.m.frm = (k : Int)
              · have q3 : (x.m.frm == (k : Int)) = true := by simpa using hfr
                have HE := Lib.hid (HFI.out hme (decide_eq_true ⟨hki, hfr⟩))
                clear HFI HNX hki hfr hme
                go_upto_region 9 with fail
                clear z0 z1
                have z0 := hZ.cell 0 rfl
                have z1 := hZ.cell 1 rfl
                have z2 := hZ.cell 2 rfl
                have z3 := hZ.cell 3 rfl
                have z4 := hZ.cell 4 rfl
                have z5 := hZ.cell 5 rfl
                have z6 := hZ.cell 6 rfl
                have z7 := hZ.cell 7 rfl
                have z8 := hZ.cell 8 rfl
                have z9 := hZ.cell 9 rfl
                have z10 := hZ.cell 10 rfl
                have z11 := hZ.cell 11 rfl
                have z12 := hZ.cell 12 rfl
                have z13 := hZ.cell 13 rfl
                have z14 := hZ.cell 14 rfl
                have hOO := row_next19 HR.out hoki
                have HRF := Lib.hid (row_far22 hOO)
                go_wp2_with (at_builtin; go_loud (refine wpList_append_heard rfl _ _ rfl K _ o o.length rfl (World.ownsRow.alloc hOO _) _ x rfl (Own.new _ _ _ rfl) (by have := HLE.out; omega) (by have := HKW.out _ (HOK.out.trans hoki); simp; omega) ?_; intro v8 w8 hown hgrow; obtain ⟨A8, m8, q8, rfl⟩ := row_slice22 hown))
                go_meet
                refine ⟨o ++ [x], Lib.hid (HYES.out x HE.out HXM.out), by rw [List.length_append]; exact hown, own_grown22t ((HP.out.next hoki).alloc _) hgrow (fun e => by have := HRF.out _ e; have := HK.out.2; omega), Below.grown ((HOK.out.trans hoki).alloc _) hgrow ((HOK.out.trans hoki).alloc _).size (fun g e => by have := HRF.out _ e; have := HKE.out; omega)⟩
              · have q3 : (x.m.frm == (k : Int)) = false := by simpa using hfr
                have HE := Lib.hid (HNX.out fun _ => decide_eq_false (fun h => hfr h.2))
                clear hfr hki hme
                go_wp2_with fail
                go_roundw
                case rel => exact ⟨j + 1, hjl, by go_num, rfl, HE, hoki⟩
                case measure => simp [intOf]; omega
            · have q2 : (x.m.kind == 1) = false := by simpa using hki
              have HE := Lib.hid (HNX.out fun _ => decide_eq_false (fun h => hki h.1))
              clear hki hme
              go_wp2_with fail
              go_roundw
              case rel => exact ⟨j + 1, hjl, by go_num, rfl, HE, hoki⟩
              case measure => simp [intOf]; omega
          · have HE : Hid (Gate.one me (l.map HA.hd) k = none) := Lib.hid (by
              unfold Gate.one
              split
              · rfl
              · next hme => exact Gate.find_no fun m hm => hno.out hme m hm (by rw [List.length_map] at hm; omega))
            clear hno
            go_wp2_with fail
            go_meet
            exact ⟨o, Lib.hid ⟨HNO.out HE.out, HM.out, HLE.out⟩, row_next19 HR.out hoki, HP.out.next hoki, HOK.out.trans hoki⟩
      case rest =>
      clear hrow hP hok ho
      obtain ⟨o2, ho2, hrow, hP, hok⟩ := hcut
      go_wp2_with fail
      go_roundw
      case rel => exact ⟨k + 1, o2, hlt, by go_num, ho2, hrow, hP, hok⟩
      case measure => simp [intOf]; omega
    · have hkc : k = Gate.cnt p := by omega
      have c0 := hP.cell 0 (v := .int .i64 p.n) rfl
      have hPl := hP.lt
      have HO2 : Hid (o.map HA.hd = Gate.told p me (l.map HA.hd)) := Lib.hid (by rw [ho.out.1, hkc]; rfl)
      obtain ⟨A, c, rfl, hHH⟩ := heards_of_row rfl hrow (fun x hx => (HB.out.below (HOKW.out.trans hok)).tabs x (ho.out.2.1 x hx))
      have HHH := Lib.hid (row_low19 hrow HK.out.1)
      have HM := Lib.hid ho.out.2.1
      by_cases hn : (k : Int) < p.n
      · have h16 : ¬ (k : Int) < 16 := by unfold Gate.cnt at hkc; omega
        clear hrow hHH ho hkc hlt hk hcn
        go_wp2_with fail
        go_ret
        exact ⟨A, c, o, rfl, HO2.out, HM.out, HHH.out, HOKW.out.trans hok⟩
      · clear hrow hHH ho hkc hlt hk hcn
        go_wp2_with fail
        go_ret
        exact ⟨A, c, o, rfl, HO2.out, HM.out, HHH.out, HOKW.out.trans hok⟩
end Go.Proofs.YtmmiboblofopgaaGreat
