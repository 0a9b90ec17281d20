import Derived.Test.YtmokofblmkeloaaGreatDoorC23c
import Derived.Test.YtmokofblmkeloaaGreatDoorP42
import Derived.Test.YtmokofblmkeloaaGreatDoorC15c
import Derived.Test.YtmokofblmkeloaaGreatDoorP22
namespace Go.Proofs.YtmokofblmkeloaaGreatDoor
open Go.RowKit
set_option linter.unusedVariables false
set_option maxRecDepth 100000
attribute [local go_sem ↓] Go.wp_at_zero Go.wp_at_succ
/-- What each operation leaves. -/
def VMNei (G Z : Nat) (p : Par) (x : HA) (h1 h2 : Int) (w : World) (v : Value) : Nat → Prop
  | 0 => v = .pointer (some ⟨G, 0, none⟩)
  | 1 => v = .pointer (some ⟨G, 0, none⟩)
  | 2 => v = .pointer (some ⟨G, 0, none⟩)
  | 3 => v = .pointer (some ⟨G, 0, none⟩)
  | 4 => v = parV p
  | 5 => v = .pointer (some ⟨Z, 0, none⟩)
  | 6 => v = .pointer (some ⟨Z, 2, none⟩)
  | 7 => v = .agg #[.int .i64 x.m.lo, .int .i64 x.m.hi]
  | 8 => v = .pointer (some ⟨Z, 14, none⟩)
  | 9 => v = .int .i64 x.age
  | 10 => v = .agg #[.int .i64 h1, .int .i64 h2]
  | 11 => v = .pointer (some ⟨Z, 0, none⟩)
  | 12 => v = .pointer (some ⟨Z, 2, none⟩)
  | _ => v = .bool true
/-- It stays so. -/
def VCNei (G Z : Nat) (p : Par) (x : HA) (h1 h2 : Int) (i : Nat) (v : Value) (w : World) : Prop := ∀ w', Ok w w' → VMNei G Z p x h1 h2 w' v i
namespace Nod
/-- The state that the best neighbour leads to, if one leads. -/
def leads (p : Par) (s : Sta) (l : List Hd) : Option Sta := match choice p l with
  | some j => some (follow s ((msgs p l).getD j noM))
  | none => none
theorem msgs_take (p : Par) {l : List HA} {k : Nat} (hk : k < l.length) : msgs p ((l.take (k + 1)).map HA.hd) = msgs p ((l.take k).map HA.hd) ++ (if l[k].m.lo ≤ l[k].m.hi then [moved p l[k].hd] else []) := by
  rw [List.take_succ_eq_append_getElem hk]
  unfold msgs
  rw [List.map_append, List.filter_append, List.map_append]
  congr 1
  by_cases h : l[k].m.lo ≤ l[k].m.hi
  · rw [if_pos h]
    simp [HA.hd, h]
  · rw [if_neg h]
    simp [HA.hd, h]
theorem choice_ms {p : Par} {ms : List MA} {l : List Hd} (h : ms.map MA.m = msgs p l) : chosen p.d ms ms.length = choice p l := by
  have hl : ms.length = (msgs p l).length := by rw [← h, List.length_map]
  unfold chosen choice
  rw [hl]
  congr 1
  funext i
  rw [← h]
  unfold nth
  rw [List.getD_eq_getElem?_getD, List.getD_eq_getElem?_getD, List.getElem?_map]
  cases ms[i]? <;> rfl
theorem best_ms {p : Par} {ms : List MA} {l : List Hd} (h : ms.map MA.m = msgs p l) (j : Nat) : (bestOf ms (some j)).m = (msgs p l).getD j noM := by
  rw [← h]
  show (nth ms j).m = _
  unfold nth
  rw [List.getD_eq_getElem?_getD, List.getD_eq_getElem?_getD, List.getElem?_map]
  cases ms[j]? <;> rfl
end Nod
/-- What it leaves: a state and true, or false. -/
def LeadEnd (T : List (Int × Int)) (A0 : Option Addr) (o : Option Sta) (w : World) (e : Ending) (w' : World) : Prop := ∃ (u : Sta) (A : Option Addr) (c : Nat) (b : Bool), e = .returned (.tuple #[staV u A c, .bool b]) ∧ b = o.isSome ∧ (∀ s, o = some s → u = s) ∧ PairsAt w' A u.table ∧ (A = A0 ∧ u.table = T ∨ ∀ a, A = some a → w.heap.size ≤ a.block) ∧ Ok w w'
set_option maxHeartbeats 6400000 in
theorem nodeByNeighbour (G t : Nat) (me : Int) (p : Par) (s : Sta) (A : Option Addr) (cap : Nat) (B : Option Addr) (l : List HA) (c : Nat) (w : World) (hO : Own w G (nodeCells me t p s A cap)) (hA : PairsAt w A s.table) (hB : HeardsAt w B l) (hl : l.length ≤ 1000) (hf : ∀ x ∈ l, x.m.table.length ≤ 8796093022208) (hd : 0 ≤ p.d ∧ p.d ≤ 16) :
    Calls Tryz.prog 78 #[.pointer (some ⟨G, 0, none⟩), .slice B l.length c] w (LeadEnd s.table A (Nod.leads p s (l.map HA.hd)) w) := by
  obtain ⟨GO, hGO⟩ : ∃ y, Nod.leads p s (l.map HA.hd) = y := ⟨_, rfl⟩
  rw [hGO]
  unfold Nod.leads at hGO
  have HGO := Lib.hid hGO
  have HB := Lib.hid hB
  have HF := Lib.hid hf
  have HA_ := Lib.hid hA
  have HLN := Lib.hid hl
  have HDD := Lib.hid hd
  clear hGO hB hf hA hd
  have hY := Own.new w (staCells zeroSta none 0) 30 rfl
  have hok := (Ok.refl w).alloc (.cells (staCells zeroSta none 0) 30)
  have hQ := hO.alloc (.cells (staCells zeroSta none 0) 30)
  have hGl := hO.lt
  clear hO
  go_enter Tryz.func78, Tryz.ntmps78
  go_upto_region 1 with fail
  change Code.wp _ _ _ _ (w.alloc (.cells (staCells zeroSta none 0) 30))
  generalize w.alloc (.cells (staCells zeroSta none 0) 30) = W at hY hok hQ ⊢
  obtain ⟨Y, hYe⟩ : ∃ r, w.heap.size = r := ⟨_, rfl⟩
  have HYW : Hid (w.heap.size ≤ Y ∧ G < Y ∧ Y < w.heap.size + 1) := Lib.hid ⟨by omega, by omega, by omega⟩
  have HGW : Hid (G < w.heap.size) := Lib.hid hGl
  rw [hYe] at hY
  rw [hYe]
  clear hYe hGl
  go_wp2_with fail
  go_loopw [6, 14] (fun v i wr => ∃ (k : Nat) (ms : List MA), k ≤ l.length ∧ i = .int .i64 k ∧ Hid (ms.map MA.m = Nod.msgs p ((l.take k).map HA.hd) ∧ (∀ y ∈ ms, ∃ x ∈ l, y.A = x.A ∧ y.m.table = x.m.table)) ∧ wr.ownsRow (Y + 1) 51 14 v ms.length (ms.flatMap maL) ∧ Own wr G (nodeCells me t p s A cap) ∧ Own wr Y (staCells zeroSta none 0) ∧ Ok w wr) (fun _ i _ => l.length - (intOf i).toNat)
  case atStart => exact ⟨0, [], Nat.zero_le _, rfl, Lib.hid ⟨rfl, by simp⟩, World.ownsRow_nil _ _ _ _, hQ, hY, hok⟩
  case round =>
    clear hQ hY hok
    obtain ⟨k, ms, hk, rfl, hM, hO, hQ, hY, hok⟩ := hrel
    have HML : Hid (ms.length ≤ 1000) := Lib.hid (by
      have h1 := congrArg List.length hM.out.1
      unfold Nod.msgs at h1
      rw [List.length_map, List.length_map] at h1
      have h2 := List.length_filter_le (fun h : Hd => decide (h.m.lo ≤ h.m.hi)) ((l.take k).map HA.hd)
      rw [List.length_map, List.length_take] at h2
      have := HLN.out
      omega)
    by_cases hlt : k < l.length
    · obtain ⟨b2, off, hB2, hb, hcx⟩ := (HB.out.below hok).nthAt k hlt
      have HMT := Lib.hid (Nod.msgs_take p hlt)
      obtain ⟨x, hx⟩ : ∃ x, l[k] = x := ⟨_, rfl⟩
      have hxm : x ∈ l := hx ▸ List.getElem_mem hlt
      have HXM := Lib.hid hxm
      rw [hx] at HMT
      obtain ⟨t0, t1, t2, t3, t4, t5, t6, t7, t8, t9, t10, t11, t12, t13, t14⟩ := hcx x hx
      subst hB2
      clear hcx hx hxm
      have hQZ := hQ.lt
      have hYZ := hY.lt
      have hwz := hok.size
      obtain ⟨CO, mO, qO, rfl⟩ := row_slice22 hO
      have HOZ : Hid ((Value.slice CO mO qO).ownBlock ≠ some wr.heap.size) := Lib.hid fun e => by have := (World.ownsRow.lt hO _ e).2; omega
      go_upto_region 5 with fail
      clear t0 t1 t2 t3 t4 t5 t6 t7 t8 t9 t10 t11 t12 t13 t14 hb
      have hZ := Own.new wr #[.int .i64 x.m.kind, .int .i64 x.m.frm, .int .i64 x.m.lo, .int .i64 x.m.hi, .int .i64 x.m.held, .int .i64 x.m.hops, .bool x.m.good, .bool x.m.ref, .int .i64 x.m.slo, .int .i64 x.m.shi, .int .i64 x.m.pulse, .int .i64 x.m.time, .int .i64 x.m.num, .slice x.A x.m.table.length x.cap, .int .i64 x.age] 65 rfl
      replace hQ := hQ.alloc (.cells #[.int .i64 x.m.kind, .int .i64 x.m.frm, .int .i64 x.m.lo, .int .i64 x.m.hi, .int .i64 x.m.held, .int .i64 x.m.hops, .bool x.m.good, .bool x.m.ref, .int .i64 x.m.slo, .int .i64 x.m.shi, .int .i64 x.m.pulse, .int .i64 x.m.time, .int .i64 x.m.num, .slice x.A x.m.table.length x.cap, .int .i64 x.age] 65)
      replace hY := hY.alloc (.cells #[.int .i64 x.m.kind, .int .i64 x.m.frm, .int .i64 x.m.lo, .int .i64 x.m.hi, .int .i64 x.m.held, .int .i64 x.m.hops, .bool x.m.good, .bool x.m.ref, .int .i64 x.m.slo, .int .i64 x.m.shi, .int .i64 x.m.pulse, .int .i64 x.m.time, .int .i64 x.m.num, .slice x.A x.m.table.length x.cap, .int .i64 x.age] 65)
      replace hok := hok.alloc (.cells #[.int .i64 x.m.kind, .int .i64 x.m.frm, .int .i64 x.m.lo, .int .i64 x.m.hi, .int .i64 x.m.held, .int .i64 x.m.hops, .bool x.m.good, .bool x.m.ref, .int .i64 x.m.slo, .int .i64 x.m.shi, .int .i64 x.m.pulse, .int .i64 x.m.time, .int .i64 x.m.num, .slice x.A x.m.table.length x.cap, .int .i64 x.age] 65)
      replace hO := World.ownsRow.alloc hO (.cells #[.int .i64 x.m.kind, .int .i64 x.m.frm, .int .i64 x.m.lo, .int .i64 x.m.hi, .int .i64 x.m.held, .int .i64 x.m.hops, .bool x.m.good, .bool x.m.ref, .int .i64 x.m.slo, .int .i64 x.m.shi, .int .i64 x.m.pulse, .int .i64 x.m.time, .int .i64 x.m.num, .slice x.A x.m.table.length x.cap, .int .i64 x.age] 65)
      change Code.wp _ _ _ _ (wr.alloc (.cells #[.int .i64 x.m.kind, .int .i64 x.m.frm, .int .i64 x.m.lo, .int .i64 x.m.hi, .int .i64 x.m.held, .int .i64 x.m.hops, .bool x.m.good, .bool x.m.ref, .int .i64 x.m.slo, .int .i64 x.m.shi, .int .i64 x.m.pulse, .int .i64 x.m.time, .int .i64 x.m.num, .slice x.A x.m.table.length x.cap, .int .i64 x.age] 65))
      generalize wr.alloc (.cells #[.int .i64 x.m.kind, .int .i64 x.m.frm, .int .i64 x.m.lo, .int .i64 x.m.hi, .int .i64 x.m.held, .int .i64 x.m.hops, .bool x.m.good, .bool x.m.ref, .int .i64 x.m.slo, .int .i64 x.m.shi, .int .i64 x.m.pulse, .int .i64 x.m.time, .int .i64 x.m.num, .slice x.A x.m.table.length x.cap, .int .i64 x.age] 65) = W3 at hZ hQ hY hO hok ⊢
      obtain ⟨Z, hZe⟩ : ∃ r, wr.heap.size = r := ⟨_, rfl⟩
      rw [hZe] at hZ hQZ hYZ hwz HOZ
      rw [hZe]
      have HD : Hid (G ≠ Z ∧ Y ≠ Z ∧ w.heap.size ≤ Z) := Lib.hid ⟨by omega, by omega, hwz⟩
      clear hZe hQZ hYZ hwz
      have z2 := hZ.cell 2 (v := .int .i64 x.m.lo) rfl
      have z3 := hZ.cell 3 (v := .int .i64 x.m.hi) rfl
      have hzl := hZ.lt
      by_cases hem : x.m.hi < x.m.lo
      · have KE := Lib.hid fun w => spanEmpty x.m.lo x.m.hi w
        rw [decide_eq_true hem] at KE
        have HM1 : Hid (ms.map MA.m = Nod.msgs p ((l.take (k + 1)).map HA.hd) ∧ (∀ y ∈ ms, ∃ x ∈ l, y.A = x.A ∧ y.m.table = x.m.table)) := Lib.hid ⟨by rw [HMT.out, if_neg (by omega), List.append_nil]; exact hM.out.1, hM.out.2⟩
        clear hM HMT hem
        go_wp2_with (go_at_call 52; refine (KE.out _).mono ?_; rintro e w4 ⟨rfl, hb1⟩; clear z2 z3 hzl hZ; replace hQ := hQ.next hb1; replace hY := hY.next hb1; replace hok := hok.trans hb1; replace hO := row_next19 hO hb1; clear hb1)
        go_roundw
        case rel => exact ⟨k + 1, ms, hlt, by go_num, HM1, hO, hQ, hY, hok⟩
        case measure => simp [intOf]; omega
      · have KE := Lib.hid fun w => spanEmpty x.m.lo x.m.hi w
        rw [decide_eq_false hem] at KE
        have KW0 := Lib.hid fun w => carryWay p x.m.lo x.m.hi x.age w
        obtain ⟨⟨h1, h2⟩, hh⟩ : ∃ y, Carry.way p (x.m.lo, x.m.hi) x.age = y := ⟨_, rfl⟩
        rw [hh] at KW0
        simp only at KW0
        have KW := KW0
        clear KW0
        have HM1 : Hid ((ms ++ [(⟨⟨x.m.kind, x.m.frm, h1, h2, x.m.held, x.m.hops, x.m.good, x.m.ref, x.m.slo, x.m.shi, x.m.pulse, x.m.time, x.m.num, x.m.table⟩, x.A, x.cap⟩ : MA)]).map MA.m = Nod.msgs p ((l.take (k + 1)).map HA.hd) ∧ (∀ y ∈ ms ++ [(⟨⟨x.m.kind, x.m.frm, h1, h2, x.m.held, x.m.hops, x.m.good, x.m.ref, x.m.slo, x.m.shi, x.m.pulse, x.m.time, x.m.num, x.m.table⟩, x.A, x.cap⟩ : MA)], ∃ x ∈ l, y.A = x.A ∧ y.m.table = x.m.table)) := Lib.hid ⟨by
            rw [HMT.out, if_pos (by omega), List.map_append, hM.out.1]
            congr 1
            unfold Nod.moved Nod.way
            simp only [HA.hd, hh]
            rfl, fun y hy => by
            rcases List.mem_append.1 hy with hy | hy
            · exact hM.out.2 y hy
            · rw [List.mem_singleton] at hy; subst hy; exact ⟨x, HXM.out, rfl, rfl⟩⟩
        clear hM HMT hem hh
        go_upto_region 6 with (go_at_call 52; refine (KE.out _).mono ?_; rintro e w4 ⟨rfl, hb1⟩; clear z2 z3 hzl; replace hZ := hZ.next hb1; replace hQ := hQ.next hb1; replace hY := hY.next hb1; replace hok := hok.trans hb1; replace hO := row_next19 hO hb1; clear hb1)
        have HOK := Lib.hid hok
        have HZ := Lib.hid fun W' (k : Ok w4.drew W') => hZ.drew.next k
        have HQ := Lib.hid fun W' (k : Ok w4.drew W') => hQ.drew.next k
        have HY := Lib.hid fun W' (k : Ok w4.drew W') => hY.drew.next k
        have HO := Lib.hid fun W' (k : Ok w4.drew W') => row_next19 hO ((Ok.refl w4).drew.trans k)
        clear hok hZ hQ hY hO
        refine wp_region_facts_end (by kernel_rfl) 7 79 rfl (VCNei G Z p x h1 h2) Ok _ rfl _ 13 rfl rfl rfl rfl (by kernel_rfl) (by kernel_rfl) (by kernel_rfl) (fun i v w w' h k w'' k' => h w'' (k.trans k')) (fun a b c => Ok.trans) (Ok.refl _) [some 23, some 24, some 25, some 26, some 27, some 28, some 29, some 30, some 31, some 32, some 33, some 34, some 35] rfl ⟨?_, ?_, ?_, ?_, ?_, ?_, ?_, ?_, ?_, ?_, ?_, ?_, ?_, trivial⟩ ?_
        · intro a' w' hF hR
          have e0 : a'.tmps[0]? = some (.pointer (some ⟨G, 0, none⟩)) := hF.slot 0 (by kernel_rfl) rfl
          refine wpOp_run (v := .pointer (some ⟨G, 0, none⟩)) rfl rfl ?_ (fun _ _ => rfl) (Ok.refl _)
          clear hF
          go_simp
        · intro a' w' hF hR
          obtain ⟨v0, hv0, e23⟩ := hF.get 0 23 (by kernel_rfl) (by kernel_rfl)
          obtain rfl : v0 = _ := hv0 _ (Ok.refl _)
          refine wpOp_run (v := .pointer (some ⟨G, 0, none⟩)) rfl rfl ?_ (fun _ _ => rfl) (Ok.refl _)
          clear hF
          go_simp
        · intro a' w' hF hR
          obtain ⟨v1, hv1, e24⟩ := hF.get 1 24 (by kernel_rfl) (by kernel_rfl)
          obtain rfl : v1 = _ := hv1 _ (Ok.refl _)
          refine wpOp_run (v := .pointer (some ⟨G, 0, none⟩)) rfl rfl ?_ (fun _ _ => rfl) (Ok.refl _)
          clear hF
          go_simp
        · intro a' w' hF hR
          obtain ⟨v2, hv2, e25⟩ := hF.get 2 25 (by kernel_rfl) (by kernel_rfl)
          obtain rfl : v2 = _ := hv2 _ (Ok.refl _)
          refine wpOp_run (v := .pointer (some ⟨G, 0, none⟩)) rfl rfl ?_ (fun _ _ => rfl) (Ok.refl _)
          clear hF
          go_simp
        · intro a' w' hF hR
          obtain ⟨v3, hv3, e26⟩ := hF.get 3 26 (by kernel_rfl) (by kernel_rfl)
          obtain rfl : v3 = _ := hv3 _ (Ok.refl _)
          obtain ⟨c0, c1, c2, c3, c4, c5, c6, c7, c8, c9, c10, c11⟩ := (HQ.out _ hR).frP
          have hgl := (HQ.out _ hR).lt
          refine wpOp_run (v := parV p) rfl rfl ?_ (fun _ _ => rfl) (Ok.refl _)
          clear hF
          go_simp
        · intro a' w' hF hR
          have e8 : a'.tmps[8]? = some (.pointer (some ⟨Z, 0, none⟩)) := hF.slot 8 (by kernel_rfl) rfl
          refine wpOp_run (v := .pointer (some ⟨Z, 0, none⟩)) rfl rfl ?_ (fun _ _ => rfl) (Ok.refl _)
          clear hF
          go_simp
        · intro a' w' hF hR
          obtain ⟨v5, hv5, e28⟩ := hF.get 5 28 (by kernel_rfl) (by kernel_rfl)
          obtain rfl : v5 = _ := hv5 _ (Ok.refl _)
          refine wpOp_run (v := .pointer (some ⟨Z, 2, none⟩)) rfl rfl ?_ (fun _ _ => rfl) (Ok.refl _)
          clear hF
          go_simp
        · intro a' w' hF hR
          obtain ⟨v6, hv6, e29⟩ := hF.get 6 29 (by kernel_rfl) (by kernel_rfl)
          obtain rfl : v6 = _ := hv6 _ (Ok.refl _)
          have z2 := (HZ.out _ hR).cell 2 rfl
          have z3 := (HZ.out _ hR).cell 3 rfl
          have hzl := (HZ.out _ hR).lt
          refine wpOp_run (v := .agg #[.int .i64 x.m.lo, .int .i64 x.m.hi]) rfl rfl ?_ (fun _ _ => rfl) (Ok.refl _)
          clear hF
          go_simp
        · intro a' w' hF hR
          have e8 : a'.tmps[8]? = some (.pointer (some ⟨Z, 0, none⟩)) := hF.slot 8 (by kernel_rfl) rfl
          refine wpOp_run (v := .pointer (some ⟨Z, 14, none⟩)) rfl rfl ?_ (fun _ _ => rfl) (Ok.refl _)
          clear hF
          go_simp
        · intro a' w' hF hR
          obtain ⟨v8, hv8, e31⟩ := hF.get 8 31 (by kernel_rfl) (by kernel_rfl)
          obtain rfl : v8 = _ := hv8 _ (Ok.refl _)
          have z14 := (HZ.out _ hR).cell 14 rfl
          have hzl := (HZ.out _ hR).lt
          refine wpOp_run (v := .int .i64 x.age) rfl rfl ?_ (fun _ _ => rfl) (Ok.refl _)
          clear hF
          go_simp
        · intro a' w' hF hR
          obtain ⟨v4, hv4, e27⟩ := hF.get 4 27 (by kernel_rfl) (by kernel_rfl)
          obtain rfl : v4 = _ := hv4 _ (Ok.refl _)
          obtain ⟨v7, hv7, e30⟩ := hF.get 7 30 (by kernel_rfl) (by kernel_rfl)
          obtain rfl : v7 = _ := hv7 _ (Ok.refl _)
          obtain ⟨v9, hv9, e32⟩ := hF.get 9 32 (by kernel_rfl) (by kernel_rfl)
          obtain rfl : v9 = _ := hv9 _ (Ok.refl _)
          clear hF
          refine wpOp_call (f := 121) (args := #[parV p, .agg #[.int .i64 x.m.lo, .int .i64 x.m.hi], .int .i64 x.age]) rfl rfl ?_ ((KW.out _).mono ?_)
          · go_simp
          · rintro e w2 ⟨rfl, hb2⟩; exact ⟨_, rfl, fun _ _ => rfl, hb2⟩
        · intro a' w' hF hR
          have e8 : a'.tmps[8]? = some (.pointer (some ⟨Z, 0, none⟩)) := hF.slot 8 (by kernel_rfl) rfl
          refine wpOp_run (v := .pointer (some ⟨Z, 0, none⟩)) rfl rfl ?_ (fun _ _ => rfl) (Ok.refl _)
          clear hF
          go_simp
        · intro a' w' hF hR
          obtain ⟨v11, hv11, e34⟩ := hF.get 11 34 (by kernel_rfl) (by kernel_rfl)
          obtain rfl : v11 = _ := hv11 _ (Ok.refl _)
          refine wpOp_run (v := .pointer (some ⟨Z, 2, none⟩)) rfl rfl ?_ (fun _ _ => rfl) (Ok.refl _)
          clear hF
          go_simp
        intro vs W' hvs hR
        have e10 : vs 10 = .agg #[.int .i64 h1, .int .i64 h2] := hvs 10 (by decide) _ (Ok.refl _)
        have e12 : vs 12 = .pointer (some ⟨Z, 2, none⟩) := hvs 12 (by decide) _ (Ok.refl _)
        have hZ := HZ.out _ hR
        have hQ := HQ.out _ hR
        have hY := HY.out _ hR
        have hO := HO.out _ hR
        have hok := (HOK.out.trans (Ok.refl w4).drew).trans hR
        clear hvs HZ HQ HY HO HOK KW KE
        have z2 := hZ.cell 2 rfl
        have z3 := hZ.cell 3 rfl
        have y2 := hZ.frozen 2
        have y3 := hZ.frozen 3
        have hzl := hZ.lt
        simp only [putFrom, e10, e12]
        simp only [Act.put, List.setIfInBounds_toArray, List.set_cons_zero, List.set_cons_succ]
        refine wpOp_store (w' := ((W'.setCell ⟨Z, 2, none⟩ (.int .i64 h1)).setCell ⟨Z, 3, none⟩ (.int .i64 h2))) rfl rfl rfl ?_ ?_
        · go_simp
        clear z2 z3 y2 y3 hzl e10 e12
        replace hO := row_only_ne hO (((Only.refl Z W').setR 2 (.int .i64 h1)).setR 3 (.int .i64 h2)) HOZ.out
        replace hZ := (hZ.set 2 (.int .i64 h1)).set 3 (.int .i64 h2)
        change Own _ Z #[.int .i64 x.m.kind, .int .i64 x.m.frm, .int .i64 h1, .int .i64 h2, .int .i64 x.m.held, .int .i64 x.m.hops, .bool x.m.good, .bool x.m.ref, .int .i64 x.m.slo, .int .i64 x.m.shi, .int .i64 x.m.pulse, .int .i64 x.m.time, .int .i64 x.m.num, .slice x.A x.m.table.length x.cap, .int .i64 x.age] at hZ
        replace hQ := (hQ.setOther (a := ⟨Z, 2, none⟩) HD.out.1 (.int .i64 h1)).setOther (a := ⟨Z, 3, none⟩) HD.out.1 (.int .i64 h2)
        replace hY := (hY.setOther (a := ⟨Z, 2, none⟩) HD.out.2.1 (.int .i64 h1)).setOther (a := ⟨Z, 3, none⟩) HD.out.2.1 (.int .i64 h2)
        replace hok := (hok.setCell (p := ⟨Z, 2, none⟩) HD.out.2.2 (.int .i64 h1)).setCell (p := ⟨Z, 3, none⟩) HD.out.2.2 (.int .i64 h2)
        generalize ((W'.setCell ⟨Z, 2, none⟩ (.int .i64 h1)).setCell ⟨Z, 3, none⟩ (.int .i64 h2)) = W6 at hZ hQ hY hO hok ⊢
        generalize vs 0 = x20
        generalize vs 1 = x21
        generalize vs 2 = x22
        generalize vs 3 = x23
        generalize vs 4 = x24
        generalize vs 5 = x25
        generalize vs 6 = x26
        generalize vs 7 = x27
        generalize vs 8 = x28
        generalize vs 9 = x29
        generalize vs 11 = x31
        clear hR vs
        have z0 := hZ.cell 0 rfl
        have z1 := hZ.cell 1 rfl
        have z2 := hZ.cell 2 rfl
        have z3 := hZ.cell 3 rfl
        have z4 := hZ.cell 4 rfl
        have z5 := hZ.cell 5 rfl
        have z6 := hZ.cell 6 rfl
        have z7 := hZ.cell 7 rfl
        have z8 := hZ.cell 8 rfl
        have z9 := hZ.cell 9 rfl
        have z10 := hZ.cell 10 rfl
        have z11 := hZ.cell 11 rfl
        have z12 := hZ.cell 12 rfl
        have z13 := hZ.cell 13 rfl
        have hZl := hZ.lt
        have hws := hok.size
        have hQl := hQ.lt
        have hYl := hY.lt
        go_upto_region 8 with (at_builtin; go_loud (refine wpList_append_msg rfl _ _ rfl (Y + 1) _ ms ms.length rfl (World.ownsRow.alloc hO _) _ (⟨⟨x.m.kind, x.m.frm, h1, h2, x.m.held, x.m.hops, x.m.good, x.m.ref, x.m.slo, x.m.shi, x.m.pulse, x.m.time, x.m.num, x.m.table⟩, x.A, x.cap⟩ : MA) rfl (Own.new _ _ _ rfl) (by have := HML.out; omega) (by simp; omega) ?_; intro v8 w8 hown hgrow; obtain ⟨A8, m8, q8, rfl⟩ := row_slice22 hown))
        clear z0 z1 z2 z3 z4 z5 z6 z7 z8 z9 z10 z11 z12 z13 hZl hws
        have hfar := row_far22 hO
        have hok8 := Below.grown (hok.alloc _) hgrow (hok.alloc _).size (fun g e => by have := hfar g e; have := HYW.out; omega)
        have hQ8 := own_grown22t (hQ.alloc _) hgrow (fun e => by have := hfar _ e; have := HYW.out; omega)
        have hY8 := own_grown22t (hY.alloc _) hgrow (fun e => by have := hfar _ e; omega)
        clear hQ hY hZ hO hok hgrow hfar hQl hYl
        go_wp2_with fail
        go_roundw
        case rel => exact ⟨k + 1, ms ++ [(⟨⟨x.m.kind, x.m.frm, h1, h2, x.m.held, x.m.hops, x.m.good, x.m.ref, x.m.slo, x.m.shi, x.m.pulse, x.m.time, x.m.num, x.m.table⟩, x.A, x.cap⟩ : MA)], hlt, by go_num, HM1, by rw [List.length_append]; exact hown, hQ8, hY8, hok8⟩
        case measure => simp [intOf]; omega
    · have hkl : k = l.length := by omega
      subst hkl
      rw [List.take_length] at hM
      obtain ⟨C, d, rfl, hMS⟩ := msgs_of_row rfl hO (fun y hy => by
        obtain ⟨x, hx, e1, e2⟩ := hM.out.2 y hy
        rw [e1, e2]
        exact (HB.out.below hok).tabs x hx)
      have hch := Nod.choice_ms hM.out.1
      have hbm := Nod.best_ms hM.out.1
      have hgo := HGO.out
      have KC := Lib.hid (routeChooseR p C ms d wr hMS (by have := HML.out; omega) (fun y hy => by
        obtain ⟨x, hx, e1, e2⟩ := hM.out.2 y hy
        rw [e2]
        exact HF.out x hx))
      unfold ChooseEndR at KC
      have hlen : (bestOf ms (chosen p.d ms ms.length)).m.table.length ≤ 8796093022208 := best_len fun y hy => by
        obtain ⟨x, hx, e1, e2⟩ := hM.out.2 y hy
        rw [e2]
        exact HF.out x hx
      obtain ⟨b, hb⟩ : ∃ y, (bestOf ms (chosen p.d ms ms.length)).m = y := ⟨_, rfl⟩
      rw [hb] at KC hlen
      unfold msgV at KC
      clear hO hMS hM HB HF HML hlt hk HGO
      cases hcc : chosen p.d ms ms.length with
      | none =>
        rw [hcc] at KC hch hb
        rw [← hch] at hgo
        simp only at hgo
        have HG2 : Hid (none = GO) := Lib.hid hgo
        rw [show (none : Option Nat).isSome = false from rfl] at KC
        clear hch hb hgo hbm hcc hlen
        have HYR : Hid (Y < wr.heap.size) := Lib.hid hY.lt
        have HWR : Hid (w.heap.size ≤ wr.heap.size) := Lib.hid hok.size
        obtain ⟨c0, c1, c2, c3, c4, c5, c6, c7, c8, c9, c10, c11⟩ := hQ.frP
        have hgl := hQ.lt
        go_upto_region 10 with (go_at_call 125; (with_reducible refine (KC.out).mono ?_); rintro e w4 ⟨A3, c3', rfl, hP3, hbk, hb1⟩; clear c0 c1 c2 c3 c4 c5 c6 c7 c8 c9 c10 c11 hgl; replace hQ := hQ.next hb1; replace hY := hY.next hb1; replace hok := hok.trans hb1; clear hb1 KC)
        clear hP3 hbk
        replace hY := hY.alloc (.cells #[.int .i64 b.kind, .int .i64 b.frm, .int .i64 b.lo, .int .i64 b.hi, .int .i64 b.held, .int .i64 b.hops, .bool b.good, .bool b.ref, .int .i64 b.slo, .int .i64 b.shi, .int .i64 b.pulse, .int .i64 b.time, .int .i64 b.num, .slice A3 b.table.length c3'] 51)
        replace hok := hok.alloc (.cells #[.int .i64 b.kind, .int .i64 b.frm, .int .i64 b.lo, .int .i64 b.hi, .int .i64 b.held, .int .i64 b.hops, .bool b.good, .bool b.ref, .int .i64 b.slo, .int .i64 b.shi, .int .i64 b.pulse, .int .i64 b.time, .int .i64 b.num, .slice A3 b.table.length c3'] 51)
        change Code.wp _ _ _ _ (w4.alloc (.cells #[.int .i64 b.kind, .int .i64 b.frm, .int .i64 b.lo, .int .i64 b.hi, .int .i64 b.held, .int .i64 b.hops, .bool b.good, .bool b.ref, .int .i64 b.slo, .int .i64 b.shi, .int .i64 b.pulse, .int .i64 b.time, .int .i64 b.num, .slice A3 b.table.length c3'] 51))
        generalize w4.alloc (.cells #[.int .i64 b.kind, .int .i64 b.frm, .int .i64 b.lo, .int .i64 b.hi, .int .i64 b.held, .int .i64 b.hops, .bool b.good, .bool b.ref, .int .i64 b.slo, .int .i64 b.shi, .int .i64 b.pulse, .int .i64 b.time, .int .i64 b.num, .slice A3 b.table.length c3'] 51) = W5 at hY hok ⊢
        have hrw := HYW.out.1
        obtain ⟨z0, z1, z2, z3, z4, z5, z6, z7, z8, z9, z10⟩ := hY.sta
        obtain ⟨y0, y1, y2, y3, y4, y5, y6, y7, y8, y9, y10⟩ := frozenSta hY
        have hzl := hY.lt
        have hX : Own (((((((((((W5.setCell ⟨Y, 0, none⟩ (.int .i64 0)).setCell ⟨Y, 1, none⟩ (.int .i64 0)).setCell ⟨Y, 2, none⟩ (.int .i64 0)).setCell ⟨Y, 3, none⟩ (.bool false)).setCell ⟨Y, 4, none⟩ (.int .i64 0)).setCell ⟨Y, 5, none⟩ (.int .i64 0)).setCell ⟨Y, 6, none⟩ (.bool false)).setCell ⟨Y, 7, none⟩ (.slice none 0 0)).setCell ⟨Y, 8, none⟩ (.int .i64 0)).setCell ⟨Y, 9, none⟩ (.int .i64 0)).setCell ⟨Y, 10, none⟩ (.int .i64 0)) Y (staCells zeroSta none 0) := own_set11 hY zeroSta none 0
        have hok3 : Ok w (((((((((((W5.setCell ⟨Y, 0, none⟩ (.int .i64 0)).setCell ⟨Y, 1, none⟩ (.int .i64 0)).setCell ⟨Y, 2, none⟩ (.int .i64 0)).setCell ⟨Y, 3, none⟩ (.bool false)).setCell ⟨Y, 4, none⟩ (.int .i64 0)).setCell ⟨Y, 5, none⟩ (.int .i64 0)).setCell ⟨Y, 6, none⟩ (.bool false)).setCell ⟨Y, 7, none⟩ (.slice none 0 0)).setCell ⟨Y, 8, none⟩ (.int .i64 0)).setCell ⟨Y, 9, none⟩ (.int .i64 0)).setCell ⟨Y, 10, none⟩ (.int .i64 0)) := ok_set11 hok hrw zeroSta none 0
        go_wp2_with fail
        clear z0 z1 z2 z3 z4 z5 z6 z7 z8 z9 z10 y0 y1 y2 y3 y4 y5 y6 y7 y8 y9 y10 hzl
        generalize (((((((((((W5.setCell ⟨Y, 0, none⟩ (.int .i64 0)).setCell ⟨Y, 1, none⟩ (.int .i64 0)).setCell ⟨Y, 2, none⟩ (.int .i64 0)).setCell ⟨Y, 3, none⟩ (.bool false)).setCell ⟨Y, 4, none⟩ (.int .i64 0)).setCell ⟨Y, 5, none⟩ (.int .i64 0)).setCell ⟨Y, 6, none⟩ (.bool false)).setCell ⟨Y, 7, none⟩ (.slice none 0 0)).setCell ⟨Y, 8, none⟩ (.int .i64 0)).setCell ⟨Y, 9, none⟩ (.int .i64 0)).setCell ⟨Y, 10, none⟩ (.int .i64 0)) = W9 at hX hok3 ⊢
        obtain ⟨s0, s1, s2, s3, s4, s5, s6, s7, s8, s9, s10⟩ := hX.sta
        exact bodyPost_ret (v := .tuple #[staV zeroSta none 0, .bool false]) (by simp [results, Tryz.results78, go_sem, s0, s1, s2, s3, s4, s5, s6, s7, s8, s9, s10, staV]) rfl ⟨zeroSta, none, 0, false, rfl, (by rw [← HG2.out]; rfl), (fun s h => by rw [← HG2.out] at h; cases h), PairsAt.empty _ _, .inr (fun a h => by cases h), hok3⟩
      | some j =>
        rw [hcc] at KC hch hb
        rw [← hch] at hgo
        simp only at hgo
        rw [← hbm j, hb] at hgo
        have hmay := of_decide_eq_true (Route.pick_may hcc)
        rw [show (nth ms j).m = b from hb] at hmay
        have hdd := HDD.out
        obtain ⟨hp, hhp⟩ : ∃ y, b.hops + 1 = y := ⟨_, rfl⟩
        have hkw : IntKind.i64.wrap (b.hops + 1) = hp := by rw [IntWalk.i64_in _ ⟨by omega, by omega⟩, hhp]
        rw [show (some j : Option Nat).isSome = true from rfl] at KC
        obtain ⟨u, hu⟩ : ∃ y, Nod.follow s b = y := ⟨_, rfl⟩
        rw [hu] at hgo
        unfold Nod.follow at hu
        obtain ⟨hm, hhm⟩ : ∃ y, Anchor.more b.held = y := ⟨_, rfl⟩
        rw [hhm, hhp] at hu
        have KM := Lib.hid fun w => anchorMore b.held w
        rw [hhm] at KM
        obtain ⟨gd, hgd⟩ : ∃ y, Leap.good b.table = y := ⟨_, rfl⟩
        have KG := Lib.hid fun A c w h => leapGood A b.table c w h (Nat.le_trans hlen (by decide))
        rw [hgd] at KG
        have HUT : Hid ((gd = true → u.table = b.table) ∧ (gd = false → u.table = s.table)) := Lib.hid ⟨fun h => by rw [← hu]; simp [hgd, h], fun h => by rw [← hu]; simp [hgd, h]⟩
        have HUA : Hid (∀ A5 c5, (#[.int .i64 b.lo, .int .i64 b.hi, .int .i64 s.time, .bool s.set, .int .i64 hm, .int .i64 hp, .bool true, .slice A5 u.table.length c5, .int .i64 s.st, .int .i64 s.sn, .int .i64 s.life] : Array Value) = staCells u A5 c5) := Lib.hid fun A5 c5 => by rw [← hu]; rfl
        have HG2 : Hid (some u = GO) := Lib.hid hgo
        have HKW := Lib.hid hkw
        clear hch hb hgo hbm hcc hlen hmay hdd hhp hkw hu hhm hgd
        have HYR : Hid (Y < wr.heap.size) := Lib.hid hY.lt
        have HWR : Hid (w.heap.size ≤ wr.heap.size) := Lib.hid hok.size
        obtain ⟨c0, c1, c2, c3, c4, c5, c6, c7, c8, c9, c10, c11⟩ := hQ.frP
        have hgl := hQ.lt
        go_upto_region 10 with (go_at_call 125; (with_reducible refine (KC.out).mono ?_); rintro e w4 ⟨A3, c3', rfl, hP3, hbk, hb1⟩; clear c0 c1 c2 c3 c4 c5 c6 c7 c8 c9 c10 c11 hgl; replace hQ := hQ.next hb1; replace hY := hY.next hb1; replace hok := hok.trans hb1; clear hb1 KC)
        have hB := Own.new w4 #[.int .i64 b.kind, .int .i64 b.frm, .int .i64 b.lo, .int .i64 b.hi, .int .i64 b.held, .int .i64 b.hops, .bool b.good, .bool b.ref, .int .i64 b.slo, .int .i64 b.shi, .int .i64 b.pulse, .int .i64 b.time, .int .i64 b.num, .slice A3 b.table.length c3'] 51 rfl
        have hYl := hY.lt
        have hQl := hQ.lt
        have hwl := hok.size
        replace hY := hY.alloc (.cells #[.int .i64 b.kind, .int .i64 b.frm, .int .i64 b.lo, .int .i64 b.hi, .int .i64 b.held, .int .i64 b.hops, .bool b.good, .bool b.ref, .int .i64 b.slo, .int .i64 b.shi, .int .i64 b.pulse, .int .i64 b.time, .int .i64 b.num, .slice A3 b.table.length c3'] 51)
        replace hQ := hQ.alloc (.cells #[.int .i64 b.kind, .int .i64 b.frm, .int .i64 b.lo, .int .i64 b.hi, .int .i64 b.held, .int .i64 b.hops, .bool b.good, .bool b.ref, .int .i64 b.slo, .int .i64 b.shi, .int .i64 b.pulse, .int .i64 b.time, .int .i64 b.num, .slice A3 b.table.length c3'] 51)
        replace hok := hok.alloc (.cells #[.int .i64 b.kind, .int .i64 b.frm, .int .i64 b.lo, .int .i64 b.hi, .int .i64 b.held, .int .i64 b.hops, .bool b.good, .bool b.ref, .int .i64 b.slo, .int .i64 b.shi, .int .i64 b.pulse, .int .i64 b.time, .int .i64 b.num, .slice A3 b.table.length c3'] 51)
        have hon := (Ok.refl w4).alloc (.cells #[.int .i64 b.kind, .int .i64 b.frm, .int .i64 b.lo, .int .i64 b.hi, .int .i64 b.held, .int .i64 b.hops, .bool b.good, .bool b.ref, .int .i64 b.slo, .int .i64 b.shi, .int .i64 b.pulse, .int .i64 b.time, .int .i64 b.num, .slice A3 b.table.length c3'] 51)
        have HBK : Hid (∀ a, A3 = some a → a.block ≠ Y) := Lib.hid fun a ha e => by have := hbk a ha; have := HYR.out; omega
        have HBW : Hid (∀ a, A3 = some a → w.heap.size ≤ a.block) := Lib.hid fun a ha => Nat.le_trans HWR.out (hbk a ha)
        have HP3 := Lib.hid hP3
        clear hP3 hbk
        change Code.wp _ _ _ _ (w4.alloc (.cells #[.int .i64 b.kind, .int .i64 b.frm, .int .i64 b.lo, .int .i64 b.hi, .int .i64 b.held, .int .i64 b.hops, .bool b.good, .bool b.ref, .int .i64 b.slo, .int .i64 b.shi, .int .i64 b.pulse, .int .i64 b.time, .int .i64 b.num, .slice A3 b.table.length c3'] 51))
        generalize w4.alloc (.cells #[.int .i64 b.kind, .int .i64 b.frm, .int .i64 b.lo, .int .i64 b.hi, .int .i64 b.held, .int .i64 b.hops, .bool b.good, .bool b.ref, .int .i64 b.slo, .int .i64 b.shi, .int .i64 b.pulse, .int .i64 b.time, .int .i64 b.num, .slice A3 b.table.length c3'] 51) = W5 at hB hY hQ hok hon ⊢
        obtain ⟨M, hMe⟩ : ∃ y, w4.heap.size = y := ⟨_, rfl⟩
        rw [hMe] at hB hYl hQl hwl
        rw [hMe]
        have HMW : Hid (w4.heap.size ≤ M) := Lib.hid (by omega)
        clear hMe
        obtain ⟨s0, s1, s2, s3, s4, s5, s6, s7, s8, s9, s10⟩ := hQ.frS
        have hgl := hQ.lt
        have hBl := hB.lt
        have hYl2 := hY.lt
        have hwl2 := hok.size
        go_upto_region 13 with fail
        clear s0 s1 s2 s3 s4 s5 s6 s7 s8 s9 s10 hgl hYl hQl hwl
        have hN := Own.new W5 #[.int .i64 s.lo, .int .i64 s.hi, .int .i64 s.time, .bool s.set, .int .i64 s.held, .int .i64 s.hops, .bool s.good, .slice A s.table.length cap, .int .i64 s.st, .int .i64 s.sn, .int .i64 s.life] 30 rfl
        replace hY := hY.alloc (.cells #[.int .i64 s.lo, .int .i64 s.hi, .int .i64 s.time, .bool s.set, .int .i64 s.held, .int .i64 s.hops, .bool s.good, .slice A s.table.length cap, .int .i64 s.st, .int .i64 s.sn, .int .i64 s.life] 30)
        replace hB := hB.alloc (.cells #[.int .i64 s.lo, .int .i64 s.hi, .int .i64 s.time, .bool s.set, .int .i64 s.held, .int .i64 s.hops, .bool s.good, .slice A s.table.length cap, .int .i64 s.st, .int .i64 s.sn, .int .i64 s.life] 30)
        replace hok := hok.alloc (.cells #[.int .i64 s.lo, .int .i64 s.hi, .int .i64 s.time, .bool s.set, .int .i64 s.held, .int .i64 s.hops, .bool s.good, .slice A s.table.length cap, .int .i64 s.st, .int .i64 s.sn, .int .i64 s.life] 30)
        replace hon := hon.alloc (.cells #[.int .i64 s.lo, .int .i64 s.hi, .int .i64 s.time, .bool s.set, .int .i64 s.held, .int .i64 s.hops, .bool s.good, .slice A s.table.length cap, .int .i64 s.st, .int .i64 s.sn, .int .i64 s.life] 30)
        change Code.wp _ _ _ _ (W5.alloc (.cells #[.int .i64 s.lo, .int .i64 s.hi, .int .i64 s.time, .bool s.set, .int .i64 s.held, .int .i64 s.hops, .bool s.good, .slice A s.table.length cap, .int .i64 s.st, .int .i64 s.sn, .int .i64 s.life] 30))
        clear hQ
        generalize W5.alloc (.cells #[.int .i64 s.lo, .int .i64 s.hi, .int .i64 s.time, .bool s.set, .int .i64 s.held, .int .i64 s.hops, .bool s.good, .slice A s.table.length cap, .int .i64 s.st, .int .i64 s.sn, .int .i64 s.life] 30) = W6 at hN hY hB hok hon ⊢
        obtain ⟨N, hNe⟩ : ∃ y, W5.heap.size = y := ⟨_, rfl⟩
        rw [hNe] at hN hBl hYl2 hwl2
        rw [hNe]
        have HN : Hid (Y ≠ N ∧ M ≠ N ∧ w.heap.size ≤ N) := Lib.hid ⟨by omega, by omega, hwl2⟩
        have HWN : Hid (w4.heap.size ≤ N) := Lib.hid (by have := HMW.out; omega)
        replace hon := Only.of_ok (r := N) hon
        clear hNe hBl hYl2 hwl2
        go_cut [] from 60 to 67 (fun wx => Own wx N #[.int .i64 b.lo, .int .i64 b.hi, .int .i64 s.time, .bool s.set, .int .i64 s.held, .int .i64 hp, .bool true, .slice A s.table.length cap, .int .i64 s.st, .int .i64 s.sn, .int .i64 s.life] ∧ Own wx Y (staCells zeroSta none 0) ∧ Own wx M #[.int .i64 b.kind, .int .i64 b.frm, .int .i64 b.lo, .int .i64 b.hi, .int .i64 b.held, .int .i64 b.hops, .bool b.good, .bool b.ref, .int .i64 b.slo, .int .i64 b.shi, .int .i64 b.pulse, .int .i64 b.time, .int .i64 b.num, .slice A3 b.table.length c3'] ∧ Only N w4 wx ∧ Ok w wx)
        case first =>
          have b2 := hB.cell 2 (v := .int .i64 b.lo) rfl
          have b3 := hB.cell 3 (v := .int .i64 b.hi) rfl
          have b5 := hB.cell 5 (v := .int .i64 b.hops) rfl
          have hBl := hB.lt
          have n0 := hN.cell 0 rfl
          have n1 := hN.cell 1 rfl
          have n5 := hN.cell 5 rfl
          have n6 := hN.cell 6 rfl
          have m0 := hN.frozen 0
          have m1 := hN.frozen 1
          have m5 := hN.frozen 5
          have m6 := hN.frozen 6
          have hNl := hN.lt
          have hk1 := HKW.out
          go_region
          all_goals (go_wp2_with fail; go_meet; exact ⟨(((((hN.set 0 (.int .i64 b.lo)).set 1 (.int .i64 b.hi)).set 5 (.int .i64 hp)).set 6 (.bool true))).drew, (((((hY.setOther (a := ⟨N, 0, none⟩) HN.out.1 (.int .i64 b.lo)).setOther (a := ⟨N, 1, none⟩) HN.out.1 (.int .i64 b.hi)).setOther (a := ⟨N, 5, none⟩) HN.out.1 (.int .i64 hp)).setOther (a := ⟨N, 6, none⟩) HN.out.1 (.bool true))).drew, (((((hB.setOther (a := ⟨N, 0, none⟩) HN.out.2.1 (.int .i64 b.lo)).setOther (a := ⟨N, 1, none⟩) HN.out.2.1 (.int .i64 b.hi)).setOther (a := ⟨N, 5, none⟩) HN.out.2.1 (.int .i64 hp)).setOther (a := ⟨N, 6, none⟩) HN.out.2.1 (.bool true))).drew, (((((hon.setR 0 (.int .i64 b.lo)).setR 1 (.int .i64 b.hi)).setR 5 (.int .i64 hp)).setR 6 (.bool true))).ok (Ok.refl _).drew, (((((hok.setCell (p := ⟨N, 0, none⟩) HN.out.2.2 (.int .i64 b.lo)).setCell (p := ⟨N, 1, none⟩) HN.out.2.2 (.int .i64 b.hi)).setCell (p := ⟨N, 5, none⟩) HN.out.2.2 (.int .i64 hp)).setCell (p := ⟨N, 6, none⟩) HN.out.2.2 (.bool true))).drew⟩)
        case rest =>
        clear hN hY hB hon hok
        obtain ⟨hN, hY, hB, hon, hok⟩ := hcut
        have HPP : Hid (∀ W' W'', Only N w4 W' → Only Y W' W'' → PairsAt W'' A3 b.table) := Lib.hid fun W' W'' k1 k2 j hj => by
          obtain ⟨x, off, e, hlt, hc, hd⟩ := HP3.out j hj
          have hx1 : x ≠ N := by have := HWN.out; omega
          have hx2 : x ≠ Y := HBK.out _ e
          have hx := (k2.block x (Nat.lt_of_lt_of_le hlt k1.size) hx2).trans (k1.block x hlt hx1)
          exact ⟨x, off, e, Nat.lt_of_lt_of_le hlt (Nat.le_trans k1.size k2.size), (World.cell?_of_block (a := ⟨x, off + j * 2, none⟩) hx).trans hc, (World.cell?_of_block (a := ⟨x, off + j * 2 + 1, none⟩) hx).trans hd⟩
        have b4 := hB.cell 4 (v := .int .i64 b.held) rfl
        have hBl := hB.lt
        go_upto_region 15 with (go_at_call 126; refine (KM.out _).mono ?_; rintro e w6 ⟨rfl, hb1⟩; clear b4 hBl; replace hN := hN.next hb1; replace hY := hY.next hb1; replace hB := hB.next hb1; replace hon := hon.ok hb1; replace hok := hok.trans hb1; clear hb1; have n4 := hN.cell 4 rfl; have m4 := hN.frozen 4; have hNl := hN.lt)
        clear n4 m4 hNl
        replace hN := hN.set 4 (.int .i64 hm)
        change Own _ N #[.int .i64 b.lo, .int .i64 b.hi, .int .i64 s.time, .bool s.set, .int .i64 hm, .int .i64 hp, .bool true, .slice A s.table.length cap, .int .i64 s.st, .int .i64 s.sn, .int .i64 s.life] at hN
        replace hY := hY.setOther (a := ⟨N, 4, none⟩) HN.out.1 (.int .i64 hm)
        replace hB := hB.setOther (a := ⟨N, 4, none⟩) HN.out.2.1 (.int .i64 hm)
        replace hon := hon.setR 4 (.int .i64 hm)
        replace hok := hok.setCell (p := ⟨N, 4, none⟩) HN.out.2.2 (.int .i64 hm)
        change Code.wp _ _ _ _ (w6.setCell ⟨N, 4, none⟩ (.int .i64 hm))
        generalize w6.setCell ⟨N, 4, none⟩ (.int .i64 hm) = W7 at hN hY hB hon hok ⊢
        have b13 := hB.cell 13 (v := .slice A3 b.table.length c3') rfl
        have hBl := hB.lt
        go_upto_if 74 with (go_at_call 106; refine (KG.out _ _ _ (HPP.out _ _ hon (Only.refl Y _))).mono ?_; rintro e w8 ⟨rfl, hb1⟩; clear b13 hBl; replace hN := hN.next hb1; replace hY := hY.next hb1; replace hB := hB.next hb1; replace hon := hon.ok hb1; replace hok := hok.trans hb1; clear hb1)
        go_cut [] from 75 to 77 (fun wx => ∃ (A5 : Option Addr) (c5 : Nat), Hid (∀ W', Only Y wx W' → PairsAt W' A5 u.table) ∧ Hid (A5 = A ∧ u.table = s.table ∨ ∀ a, A5 = some a → w.heap.size ≤ a.block) ∧ Own wx N #[.int .i64 b.lo, .int .i64 b.hi, .int .i64 s.time, .bool s.set, .int .i64 hm, .int .i64 hp, .bool true, .slice A5 u.table.length c5, .int .i64 s.st, .int .i64 s.sn, .int .i64 s.life] ∧ Own wx Y (staCells zeroSta none 0) ∧ Ok w wx)
        case first =>
          cases gd with
          | true =>
            have hut := HUT.out.1 rfl
            have b13 := hB.cell 13 (v := .slice A3 b.table.length c3') rfl
            have hBl := hB.lt
            have n7 := hN.cell 7 rfl
            have m7 := hN.frozen 7
            have hNl := hN.lt
            have HUT2 := Lib.hid hut
            clear hut
            go_wp2_with fail
            go_meet
            have hon2 := hon.setR 7 (.slice A3 b.table.length c3')
            refine ⟨A3, c3', Lib.hid fun W' k => ?_, Lib.hid (.inr HBW.out), ?_, hY.setOther (a := ⟨N, 7, none⟩) HN.out.1 (.slice A3 b.table.length c3'), hok.setCell (p := ⟨N, 7, none⟩) HN.out.2.2 (.slice A3 b.table.length c3')⟩
            · rw [HUT2.out]; exact HPP.out _ _ hon2 k
            · rw [HUT2.out]; exact hN.set 7 (.slice A3 b.table.length c3')
          | false =>
            have hut := HUT.out.2 rfl
            have HUT2 := Lib.hid hut
            clear hut
            go_wp2_with fail
            go_meet
            refine ⟨A, cap, Lib.hid fun W' k => ?_, Lib.hid (.inl ⟨rfl, HUT2.out⟩), ?_, hY, hok⟩
            · rw [HUT2.out]; exact HA_.out.below (Only.then_ok hok k HYW.out.1)
            · rw [HUT2.out]; exact hN
        case rest =>
        clear hN hY hB hon hok
        obtain ⟨A5, c5, HPF, HPD, hN, hY, hok⟩ := hcut
        rw [HUA.out] at hN
        have hrw := HYW.out.1
        obtain ⟨s0, s1, s2, s3, s4, s5, s6, s7, s8, s9, s10⟩ := hN.sta
        obtain ⟨z0, z1, z2, z3, z4, z5, z6, z7, z8, z9, z10⟩ := hY.sta
        obtain ⟨y0, y1, y2, y3, y4, y5, y6, y7, y8, y9, y10⟩ := frozenSta hY
        have hsl := hN.lt
        have hzl := hY.lt
        have hX := own_set11 hY u A5 c5
        have hok3 := ok_set11 hok hrw u A5 c5
        have hoY := only_set11 (Only.refl Y wc) (.inl rfl) u A5 c5
        go_wp2_with fail
        clear s0 s1 s2 s3 s4 s5 s6 s7 s8 s9 s10 z0 z1 z2 z3 z4 z5 z6 z7 z8 z9 z10 y0 y1 y2 y3 y4 y5 y6 y7 y8 y9 y10 hsl hzl
        generalize (((((((((((wc.setCell ⟨Y, 0, none⟩ (.int .i64 u.lo)).setCell ⟨Y, 1, none⟩ (.int .i64 u.hi)).setCell ⟨Y, 2, none⟩ (.int .i64 u.time)).setCell ⟨Y, 3, none⟩ (.bool u.set)).setCell ⟨Y, 4, none⟩ (.int .i64 u.held)).setCell ⟨Y, 5, none⟩ (.int .i64 u.hops)).setCell ⟨Y, 6, none⟩ (.bool u.good)).setCell ⟨Y, 7, none⟩ (.slice A5 u.table.length c5)).setCell ⟨Y, 8, none⟩ (.int .i64 u.st)).setCell ⟨Y, 9, none⟩ (.int .i64 u.sn)).setCell ⟨Y, 10, none⟩ (.int .i64 u.life)) = W9 at hX hok3 hoY ⊢
        obtain ⟨s0, s1, s2, s3, s4, s5, s6, s7, s8, s9, s10⟩ := hX.sta
        exact bodyPost_ret (v := .tuple #[staV u A5 c5, .bool true]) (by simp [results, Tryz.results78, go_sem, s0, s1, s2, s3, s4, s5, s6, s7, s8, s9, s10, staV]) rfl ⟨u, A5, c5, true, rfl, (by rw [← HG2.out]; rfl), (fun s h => by rw [← HG2.out] at h; exact Option.some.inj h), HPF.out _ hoY, HPD.out, hok3⟩
end Go.Proofs.YtmokofblmkeloaaGreatDoor
