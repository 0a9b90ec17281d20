import Derived.Test.YtmokofblmkeloaaGreatDoorC23d
import Derived.Test.YtmokofblmkeloaaGreatDoorP37
import Derived.Test.YtmokofblmkeloaaGreatDoorB12
import Derived.Test.YtmokofblmkeloaaGreatDoorC19f
import Derived.Test.YtmokofblmkeloaaGreatDoorB15
import Derived.Test.YtmokofblmkeloaaGreatDoorP30
namespace Go.Proofs.YtmokofblmkeloaaGreatDoor
open Go.RowKit
set_option linter.unusedVariables false
set_option maxRecDepth 100000
attribute [local go_sem ↓] Go.wp_at_zero Go.wp_at_succ
theorem infoInt23 : (Tryz.prog.info? 3).map (fun i => (i.zero, i.size, i.bytes)) = some (some (.int .i64 0), 1, 8) := by kernel_rfl
theorem left23 (f : Int) (l : List (Int × Int)) : fLeft f l = Gate.left f l := rfl
theorem fz23 (f : Int) (l : List (Int × Int)) : fz f l = Gate.fused f l := rfl
theorem Nod.filter_take {L : List Hd} {k : Nat} (hk : k < L.length) : (L.take (k + 1)).filter Nod.solid = (L.take k).filter Nod.solid ++ (if Nod.solid L[k] = true then [L[k]] else []) := by
  rw [List.take_succ_eq_append_getElem hk, List.filter_append]
  congr 1
  cases h : Nod.solid L[k] <;> simp [h]
/-- What each operation leaves. -/
def VMCorB (G Z : Nat) (p : Par) (x : HA) (A5 : Option Addr) (m5 q5 : Nat) (y1 y2 : Int) (w : World) (v : Value) : Nat → Prop
  | 0 => v = .slice A5 m5 q5
  | 1 => v = .pointer (some ⟨G, 0, none⟩)
  | 2 => v = .pointer (some ⟨G, 0, none⟩)
  | 3 => v = .pointer (some ⟨G, 0, none⟩)
  | 4 => v = .pointer (some ⟨G, 0, none⟩)
  | 5 => v = parV p
  | 6 => v = .pointer (some ⟨Z, 0, none⟩)
  | 7 => v = .pointer (some ⟨Z, 2, none⟩)
  | 8 => v = .agg #[.int .i64 x.m.lo, .int .i64 x.m.hi]
  | 9 => v = .pointer (some ⟨Z, 14, none⟩)
  | 10 => v = .int .i64 x.age
  | 11 => v = .agg #[.int .i64 y1, .int .i64 y2]
  | 12 => ∃ g : Nat, v = .slice (some ⟨g, 0, none⟩) 1 1 ∧ Own w g #[.int .i64 y1, .int .i64 y2]
  | _ => v = .bool true
/-- It stays so. -/
def VCCorB (G Z : Nat) (p : Par) (x : HA) (A5 : Option Addr) (m5 q5 : Nat) (y1 y2 : Int) (i : Nat) (v : Value) (w : World) : Prop := ∀ w', Ok w w' → VMCorB G Z p x A5 m5 q5 y1 y2 w' v i/-- What each operation leaves. -/
def VMCorV (G N K18 : Nat) (p : Par) (s u : Sta) (A : Option Addr) (cap : Nat) (A3 : Option Addr) (c3 : Nat) (ts : List TA) (ab : Bool) (w : World) (v : Value) : Nat → Prop
  | 0 => v = .pointer (some ⟨G, 0, none⟩)
  | 1 => v = .pointer (some ⟨G, 0, none⟩)
  | 2 => v = .pointer (some ⟨G, 0, none⟩)
  | 3 => v = .pointer (some ⟨G, 0, none⟩)
  | 4 => v = parV p
  | 5 => v = .pointer (some ⟨N, 7, none⟩)
  | 6 => v = .slice A s.table.length cap
  | 7 => v = .slice A3 ts.length c3
  | 8 => ∃ (A6 : Option Addr) (c6 : Nat), v = .tuple #[.slice A6 u.table.length c6, .bool ab] ∧ TabRow K18 w A6 c6 u.table
  | 9 => ∃ (A6 : Option Addr) (c6 : Nat), v = .tuple #[.slice A6 u.table.length c6, .bool ab] ∧ TabRow K18 w A6 c6 u.table
  | 10 => ∃ (A6 : Option Addr) (c6 : Nat), v = .slice A6 u.table.length c6 ∧ TabRow K18 w A6 c6 u.table
  | 11 => v = .bool ab
  | 12 => v = .pointer (some ⟨N, 7, none⟩)
  | _ => v = .bool true
/-- It stays so. -/
def VCCorV (G N K18 : Nat) (p : Par) (s u : Sta) (A : Option Addr) (cap : Nat) (A3 : Option Addr) (c3 : Nat) (ts : List TA) (ab : Bool) (i : Nat) (v : Value) (w : World) : Prop := ∀ w', Ok w w' → VMCorV G N K18 p s u A cap A3 c3 ts ab w' v i
set_option maxHeartbeats 12800000 in
theorem nodeByCore (G t : Nat) (me : Int) (p : Par) (s : Sta) (A : Option Addr) (cap : Nat) (B : Option Addr) (l : List HA) (c : Nat) (w : World) (hO : Own w G (nodeCells me t p s A cap)) (hA : PairsAt w A s.table) (hs : s.table.length ≤ 1048576) (hB : HeardsAt w B l) (hl : l.length ≤ 1000) (hf : ∀ x ∈ l, x.m.table.length ≤ 8796093022208) (hpf : -9223372036854775808 ≤ p.f ∧ p.f ≤ 9223372036854775807) (hpow : Pow w) :
    Calls Tryz.prog 77 #[.pointer (some ⟨G, 0, none⟩), .slice B l.length c] w (LeadEnd s.table A (if Gate.left p.f (Nod.spans p (l.map HA.hd)) = true then some (Nod.core p s (l.map HA.hd)) else none) w) := by
  obtain ⟨GO, hGO⟩ : ∃ y, (if Gate.left p.f (Nod.spans p (l.map HA.hd)) = true then some (Nod.core p s (l.map HA.hd)) else none) = y := ⟨_, rfl⟩
  rw [hGO]
  have HGO0 := Lib.hid hGO
  have HA_ := Lib.hid hA
  have HS_ := Lib.hid hs
  have HPF := Lib.hid hpf
  have HPW := Lib.hid hpow
  have HQ0 := Lib.hid fun W' (k : Ok w W') => hO.next k
  have KT := Lib.hid fun W' (k : Ok w W') => gateTold p (-1) B l c W' (hB.below k) hl hf
  have hN16 := Gate.told_cnt p (-1) (l.map HA.hd)
  obtain ⟨L, hL⟩ : ∃ L, Gate.told p (-1) (l.map HA.hd) = L := ⟨_, rfl⟩
  rw [hL] at hN16
  have HL := Lib.hid hL
  have HTL : Hid (∀ h ∈ L, h.m.table.length ≤ 8796093022208) := Lib.hid fun h hh => by
    rw [← hL] at hh
    obtain ⟨k, hk, h1⟩ := List.mem_filterMap.1 hh
    unfold Gate.one at h1
    split at h1
    · cases h1
    · obtain ⟨y, hy, rfl⟩ := List.mem_map.1 (List.mem_of_find?_eq_some h1)
      exact hf y hy
  clear hGO hB hf hA hs hpf hpow hL hl
  have hY := Own.new w (staCells zeroSta none 0) 30 rfl
  have hok := (Ok.refl w).alloc (.cells (staCells zeroSta none 0) 30)
  have hGl := hO.lt
  clear hO
  go_enter Tryz.func77, Tryz.ntmps77
  go_upto_region 1 with fail
  change Code.wp _ _ _ _ (w.alloc (.cells (staCells zeroSta none 0) 30))
  generalize w.alloc (.cells (staCells zeroSta none 0) 30) = W at hY hok ⊢
  obtain ⟨Y, hYe⟩ : ∃ r, w.heap.size = r := ⟨_, rfl⟩
  have HYW : Hid (w.heap.size ≤ Y ∧ G < Y) := Lib.hid ⟨by omega, by omega⟩
  rw [hYe] at hY
  rw [hYe]
  clear hYe hGl
  have hQ := HQ0.out _ hok
  obtain ⟨c0, c1, c2, c3, c4, c5, c6, c7, c8, c9, c10, c11⟩ := hQ.frP
  have hgl := hQ.lt
  clear hQ
  go_upto_region 5 with (go_at_call 120; refine (KT.out _ hok).mono ?_; rintro e w2 ⟨A0, d0, os, rfl, hol, hOs, hb2⟩; clear c0 c1 c2 c3 c4 c5 c6 c7 c8 c9 c10 c11 hgl; replace hY := hY.next hb2; replace hok := hok.trans hb2; clear hb2)
  clear KT
  have HH := Lib.hid hOs.heards
  have hol2 := hol.trans HL.out
  have hn := congrArg List.length hol2
  rw [List.length_map] at hn
  have HOL := Lib.hid hol2
  rw [← hn] at hN16
  have HNL := Lib.hid hn
  have HW2 := Lib.hid hok
  obtain ⟨K, hKe⟩ : ∃ y, w2.heap.size = y := ⟨_, rfl⟩
  have HKY : Hid (w2.heap.size = K ∧ Y < K) := Lib.hid ⟨hKe, hKe ▸ hY.lt⟩
  clear hKe
  clear hol hol2 hOs hn
  go_wp2_with fail
  go_loopw [6, 7, 8, 22] (fun v1 v2 v3 i wr => ∃ (k : Nat) (gk : List Hd) (ts : List TA), k ≤ os.length ∧ i = .int .i64 k ∧ Hid (gk = (L.take k).filter Nod.solid ∧ ts.map TA.l = gk.map (·.m.table) ∧ ∀ x ∈ ts, ∃ y ∈ os, x.A = y.A ∧ x.l = y.m.table) ∧ WaysRow K wr v1 (gk.map (Nod.way p)) ∧ wr.ownsRow K 3 1 v2 gk.length ((gk.map (·.m.held)).map (Value.int .i64)) ∧ wr.ownsRow K 26 1 v3 gk.length (ts.map taV) ∧ Own wr Y (staCells zeroSta none 0) ∧ Ok w2 wr) (fun _ _ _ i _ => os.length - (intOf i).toNat)
  case atStart => exact ⟨0, [], [], Nat.zero_le _, rfl, Lib.hid ⟨rfl, rfl, by simp⟩, World.ownsRow_nil _ _ _ _, World.ownsRow_nil _ _ _ _, World.ownsRow_nil _ _ _ _, hY, Ok.refl _⟩
  case round =>
    clear hY hok
    obtain ⟨k, gk, ts, hk, rfl, hG, h1, h2, h3, hY, hok⟩ := hrel
    have HGL : Hid (gk.length ≤ 16) := Lib.hid (by
      have h1 := List.length_filter_le Nod.solid (L.take k)
      rw [← hG.out.1, List.length_take] at h1
      have := HNL.out
      omega)
    by_cases hlt : k < os.length
    · obtain ⟨b2, off, hB2, hb, hcx⟩ := (HH.out.below hok).nthAt k hlt
      have hkl : k < L.length := by rw [← HNL.out]; exact hlt
      have hft := Nod.filter_take hkl
      obtain ⟨x, hx⟩ : ∃ x, os[k] = x := ⟨_, rfl⟩
      have hxm : x ∈ os := hx ▸ List.getElem_mem hlt
      have HXM := Lib.hid hxm
      have hLk : L[k] = x.hd := by rw [← hx]; simp [← HOL.out]
      rw [hLk, ← hG.out.1] at hft
      have HFT := Lib.hid hft
      obtain ⟨t0, t1, t2, t3, t4, t5, t6, t7, t8, t9, t10, t11, t12, t13, t14⟩ := hcx x hx
      subst hB2
      clear hcx hx hxm hkl hft hLk
      have hYZ := hY.lt
      obtain ⟨A5, m5, q5, rfl⟩ := row_slice22 h1
      obtain ⟨A52, m52, q52, rfl⟩ := row_slice22 h2
      have HRZ : Hid (∀ g, (Value.slice A5 m5 q5).ownBlock = some g → g < wr.heap.size) := Lib.hid fun g e => (World.ownsRow.lt h1 g e).2
      have HR2Z0 : Hid ((Value.slice A52 m52 q52).ownBlock ≠ some wr.heap.size) := Lib.hid fun e => by have := (World.ownsRow.lt h2 _ e).2; omega
      go_upto_region 7 with fail
      clear t0 t1 t2 t3 t4 t5 t6 t7 t8 t9 t10 t11 t12 t13 t14 hb
      have hZ := Own.new wr #[.int .i64 x.m.kind, .int .i64 x.m.frm, .int .i64 x.m.lo, .int .i64 x.m.hi, .int .i64 x.m.held, .int .i64 x.m.hops, .bool x.m.good, .bool x.m.ref, .int .i64 x.m.slo, .int .i64 x.m.shi, .int .i64 x.m.pulse, .int .i64 x.m.time, .int .i64 x.m.num, .slice x.A x.m.table.length x.cap, .int .i64 x.age] 65 rfl
      replace hY := hY.alloc (.cells #[.int .i64 x.m.kind, .int .i64 x.m.frm, .int .i64 x.m.lo, .int .i64 x.m.hi, .int .i64 x.m.held, .int .i64 x.m.hops, .bool x.m.good, .bool x.m.ref, .int .i64 x.m.slo, .int .i64 x.m.shi, .int .i64 x.m.pulse, .int .i64 x.m.time, .int .i64 x.m.num, .slice x.A x.m.table.length x.cap, .int .i64 x.age] 65)
      replace hok := hok.alloc (.cells #[.int .i64 x.m.kind, .int .i64 x.m.frm, .int .i64 x.m.lo, .int .i64 x.m.hi, .int .i64 x.m.held, .int .i64 x.m.hops, .bool x.m.good, .bool x.m.ref, .int .i64 x.m.slo, .int .i64 x.m.shi, .int .i64 x.m.pulse, .int .i64 x.m.time, .int .i64 x.m.num, .slice x.A x.m.table.length x.cap, .int .i64 x.age] 65)
      replace h1 := World.ownsRow.alloc h1 (.cells #[.int .i64 x.m.kind, .int .i64 x.m.frm, .int .i64 x.m.lo, .int .i64 x.m.hi, .int .i64 x.m.held, .int .i64 x.m.hops, .bool x.m.good, .bool x.m.ref, .int .i64 x.m.slo, .int .i64 x.m.shi, .int .i64 x.m.pulse, .int .i64 x.m.time, .int .i64 x.m.num, .slice x.A x.m.table.length x.cap, .int .i64 x.age] 65)
      replace h2 := World.ownsRow.alloc h2 (.cells #[.int .i64 x.m.kind, .int .i64 x.m.frm, .int .i64 x.m.lo, .int .i64 x.m.hi, .int .i64 x.m.held, .int .i64 x.m.hops, .bool x.m.good, .bool x.m.ref, .int .i64 x.m.slo, .int .i64 x.m.shi, .int .i64 x.m.pulse, .int .i64 x.m.time, .int .i64 x.m.num, .slice x.A x.m.table.length x.cap, .int .i64 x.age] 65)
      replace h3 := World.ownsRow.alloc h3 (.cells #[.int .i64 x.m.kind, .int .i64 x.m.frm, .int .i64 x.m.lo, .int .i64 x.m.hi, .int .i64 x.m.held, .int .i64 x.m.hops, .bool x.m.good, .bool x.m.ref, .int .i64 x.m.slo, .int .i64 x.m.shi, .int .i64 x.m.pulse, .int .i64 x.m.time, .int .i64 x.m.num, .slice x.A x.m.table.length x.cap, .int .i64 x.age] 65)
      change Code.wp _ _ _ _ (wr.alloc (.cells #[.int .i64 x.m.kind, .int .i64 x.m.frm, .int .i64 x.m.lo, .int .i64 x.m.hi, .int .i64 x.m.held, .int .i64 x.m.hops, .bool x.m.good, .bool x.m.ref, .int .i64 x.m.slo, .int .i64 x.m.shi, .int .i64 x.m.pulse, .int .i64 x.m.time, .int .i64 x.m.num, .slice x.A x.m.table.length x.cap, .int .i64 x.age] 65))
      generalize wr.alloc (.cells #[.int .i64 x.m.kind, .int .i64 x.m.frm, .int .i64 x.m.lo, .int .i64 x.m.hi, .int .i64 x.m.held, .int .i64 x.m.hops, .bool x.m.good, .bool x.m.ref, .int .i64 x.m.slo, .int .i64 x.m.shi, .int .i64 x.m.pulse, .int .i64 x.m.time, .int .i64 x.m.num, .slice x.A x.m.table.length x.cap, .int .i64 x.age] 65) = W3 at hZ hY hok h1 h2 h3 ⊢
      obtain ⟨Z, hZe⟩ : ∃ r, wr.heap.size = r := ⟨_, rfl⟩
      rw [hZe] at hZ HRZ HR2Z0
      rw [hZe]
      have HR2Z : Hid (∀ _ : True, (Value.slice A52 m52 q52).ownBlock ≠ some Z) := Lib.hid fun _ => HR2Z0.out
      clear hZe hYZ HR2Z0
      have z6 := hZ.cell 6 (v := .bool x.m.good) rfl
      have z2 := hZ.cell 2 (v := .int .i64 x.m.lo) rfl
      have z3 := hZ.cell 3 (v := .int .i64 x.m.hi) rfl
      have hZl := hZ.lt
      cases hgd : x.m.good with
      | false =>
        rw [hgd] at z6
        have HG1 : Hid (gk = (L.take (k + 1)).filter Nod.solid ∧ ts.map TA.l = gk.map (·.m.table) ∧ ∀ x ∈ ts, ∃ y ∈ os, x.A = y.A ∧ x.l = y.m.table) := Lib.hid ⟨by rw [HFT.out, if_neg (by unfold Nod.solid; simp [HA.hd, hgd]), List.append_nil], hG.out.2⟩
        clear hgd hZ
        go_wp2_with fail
        go_roundw
        case rel => exact ⟨k + 1, gk, ts, hlt, by go_num, HG1, h1, h2, h3, hY, hok⟩
        case measure => simp [intOf]; omega
      | true =>
      rw [hgd] at z6
      have KE := Lib.hid fun w => spanEmpty x.m.lo x.m.hi w
      by_cases hem : x.m.hi < x.m.lo
      · rw [decide_eq_true hem] at KE
        have HG1 : Hid (gk = (L.take (k + 1)).filter Nod.solid ∧ ts.map TA.l = gk.map (·.m.table) ∧ ∀ x ∈ ts, ∃ y ∈ os, x.A = y.A ∧ x.l = y.m.table) := Lib.hid ⟨by rw [HFT.out, if_neg (by show ¬ ((x.m.good && decide (x.m.lo ≤ x.m.hi)) = true); rw [decide_eq_false (by omega)]; simp), List.append_nil], hG.out.2⟩
        clear hgd hem
        go_wp2_with (go_at_call 52; refine (KE.out _).mono ?_; rintro e w4 ⟨rfl, hb1⟩; clear z2 z3 z6 hZl hZ; replace hY := hY.next hb1; replace hok := hok.trans hb1; replace h1 := row_next19 h1 hb1; replace h2 := row_next19 h2 hb1; replace h3 := row_next19 h3 hb1; clear hb1)
        go_roundw
        case rel => exact ⟨k + 1, gk, ts, hlt, by go_num, HG1, h1, h2, h3, hY, hok⟩
        case measure => simp [intOf]; omega
      · rw [decide_eq_false hem] at KE
        have HG1 : Hid (gk ++ [x.hd] = (L.take (k + 1)).filter Nod.solid ∧ (ts ++ [(⟨x.m.table, x.A, x.cap⟩ : TA)]).map TA.l = (gk ++ [x.hd]).map (·.m.table) ∧ ∀ y ∈ ts ++ [(⟨x.m.table, x.A, x.cap⟩ : TA)], ∃ z ∈ os, y.A = z.A ∧ y.l = z.m.table) := Lib.hid ⟨by rw [HFT.out, if_pos (by show (x.m.good && decide (x.m.lo ≤ x.m.hi)) = true; rw [hgd, decide_eq_true (by omega)]; rfl)], by rw [List.map_append, List.map_append, hG.out.2.1]; rfl, fun y hy => by
          rcases List.mem_append.1 hy with hy | hy
          · exact hG.out.2.2 y hy
          · rw [List.mem_singleton] at hy; subst hy; exact ⟨x, HXM.out, rfl, rfl⟩⟩
        clear hgd hem
        go_upto_region 8 with (go_at_call 52; refine (KE.out _).mono ?_; rintro e w4 ⟨rfl, hb1⟩; clear z2 z3 z6 hZl; replace hZ := hZ.next hb1; replace hY := hY.next hb1; replace hok := hok.trans hb1; replace h1 := row_next19 h1 hb1; replace h2 := row_next19 h2 hb1; replace h3 := row_next19 h3 hb1; clear hb1)
        obtain ⟨⟨y1, y2⟩, hy⟩ : ∃ y, Nod.way p x.hd = y := ⟨_, rfl⟩
        have KW := Lib.hid fun w => carryWay p x.m.lo x.m.hi x.age w
        rw [show Carry.way p (x.m.lo, x.m.hi) x.age = (y1, y2) from hy] at KW
        have hm5 : m5 = gk.length := by
          rcases h1.2 with ⟨e, e0⟩ | ⟨g, c, cur, e, _⟩
          · cases e; rw [List.length_map] at e0; exact e0.symm
          · cases e; exact List.length_map _
        have HM5 : Hid (m5 ≤ 1000) := Lib.hid (by rw [hm5]; have := HGL.out; omega)
        have HNX : Hid (∀ A8 q8 w8, w8.ownsRow K 25 2 (.slice A8 (m5 + 1) q8) (m5 + 1) (cellsOfPairs (gk.map (Nod.way p)) ++ (#[.int .i64 y1, .int .i64 y2] : Array Value).toList) → WaysRow K w8 (.slice A8 (m5 + 1) q8) ((gk ++ [x.hd]).map (Nod.way p))) := Lib.hid fun A8 q8 w8 h => by
          unfold WaysRow
          rw [List.map_append, List.length_append, List.map_singleton, hy, cells_pairs_append, List.length_map, ← hm5]
          exact h
        have HROW := Lib.hid fun W' (j : Ok w4.drew W') => row_next19 (show w4.ownsRow K 25 2 (.slice A5 m5 q5) m5 (cellsOfPairs (gk.map (Nod.way p))) by rw [hm5]; rw [hm5] at h1; have h := h1; unfold WaysRow at h; rw [List.length_map] at h; exact h) ((Ok.refl w4).drew.trans j)
        have H2 := Lib.hid fun W' (j : Ok w4.drew W') => row_next19 h2 ((Ok.refl w4).drew.trans j)
        have H3 := Lib.hid fun W' (j : Ok w4.drew W') => row_next19 h3 ((Ok.refl w4).drew.trans j)
        have HQ := Lib.hid fun W' (j : Ok w4.drew W') => HQ0.out _ ((HW2.out.trans hok).trans ((Ok.refl w4).drew.trans j))
        have HZ := Lib.hid fun W' (j : Ok w4.drew W') => hZ.drew.next j
        have HY := Lib.hid fun W' (j : Ok w4.drew W') => hY.drew.next j
        have HOK := Lib.hid hok
        clear h1 h2 h3 hok hZ hY hy hm5 hG HFT
        refine wp_region_facts_chainO (by kernel_rfl) 8 110 rfl (VCCorB G Z p x A5 m5 q5 y1 y2) Ok _ 13 rfl rfl (by decide) (by kernel_rfl) (by kernel_rfl) (by kernel_rfl) (by kernel_rfl) (fun i v w w' h k w'' k' => h w'' (k.trans k')) (fun a b c => Ok.trans) (Ok.refl _) [some 36, some 37, some 38, some 39, some 40, some 41, some 42, some 43, some 44, some 45, some 46, some 47, some 48] rfl _ rfl ⟨?_, ?_, ?_, ?_, ?_, ?_, ?_, ?_, ?_, ?_, ?_, ?_, ?_, trivial⟩ ?_
        · intro a' w' hF hO hR
          have e6 : a'.tmps[6]? = some (.slice A5 m5 q5) := hO.slot 6 (by kernel_rfl) rfl
          refine wpOp_run (v := .slice A5 m5 q5) rfl rfl ?_ (fun _ _ => rfl) (Ok.refl _)
          clear hF
          go_simp
        · intro a' w' hF hO hR
          have e0 : a'.tmps[0]? = some (.pointer (some ⟨G, 0, none⟩)) := hF.slot 0 (by kernel_rfl) rfl
          refine wpOp_run (v := .pointer (some ⟨G, 0, none⟩)) rfl rfl ?_ (fun _ _ => rfl) (Ok.refl _)
          clear hF
          go_simp
        · intro a' w' hF hO hR
          obtain ⟨v1, hv1, e37⟩ := hF.get 1 37 (by kernel_rfl) (by kernel_rfl)
          obtain rfl : v1 = _ := hv1 _ (Ok.refl _)
          refine wpOp_run (v := .pointer (some ⟨G, 0, none⟩)) rfl rfl ?_ (fun _ _ => rfl) (Ok.refl _)
          clear hF
          go_simp
        · intro a' w' hF hO hR
          obtain ⟨v2, hv2, e38⟩ := hF.get 2 38 (by kernel_rfl) (by kernel_rfl)
          obtain rfl : v2 = _ := hv2 _ (Ok.refl _)
          refine wpOp_run (v := .pointer (some ⟨G, 0, none⟩)) rfl rfl ?_ (fun _ _ => rfl) (Ok.refl _)
          clear hF
          go_simp
        · intro a' w' hF hO hR
          obtain ⟨v3, hv3, e39⟩ := hF.get 3 39 (by kernel_rfl) (by kernel_rfl)
          obtain rfl : v3 = _ := hv3 _ (Ok.refl _)
          refine wpOp_run (v := .pointer (some ⟨G, 0, none⟩)) rfl rfl ?_ (fun _ _ => rfl) (Ok.refl _)
          clear hF
          go_simp
        · intro a' w' hF hO hR
          obtain ⟨v4, hv4, e40⟩ := hF.get 4 40 (by kernel_rfl) (by kernel_rfl)
          obtain rfl : v4 = _ := hv4 _ (Ok.refl _)
          obtain ⟨c0, c1, c2, c3, c4, c5, c6, c7, c8, c9, c10, c11⟩ := (HQ.out _ hR).frP
          have hgl := (HQ.out _ hR).lt
          refine wpOp_run (v := parV p) rfl rfl ?_ (fun _ _ => rfl) (Ok.refl _)
          clear hF
          go_simp
        · intro a' w' hF hO hR
          have e10 : a'.tmps[10]? = some (.pointer (some ⟨Z, 0, none⟩)) := hF.slot 10 (by kernel_rfl) rfl
          refine wpOp_run (v := .pointer (some ⟨Z, 0, none⟩)) rfl rfl ?_ (fun _ _ => rfl) (Ok.refl _)
          clear hF
          go_simp
        · intro a' w' hF hO hR
          obtain ⟨v6, hv6, e42⟩ := hF.get 6 42 (by kernel_rfl) (by kernel_rfl)
          obtain rfl : v6 = _ := hv6 _ (Ok.refl _)
          refine wpOp_run (v := .pointer (some ⟨Z, 2, none⟩)) rfl rfl ?_ (fun _ _ => rfl) (Ok.refl _)
          clear hF
          go_simp
        · intro a' w' hF hO hR
          obtain ⟨v7, hv7, e43⟩ := hF.get 7 43 (by kernel_rfl) (by kernel_rfl)
          obtain rfl : v7 = _ := hv7 _ (Ok.refl _)
          have z2 := (HZ.out _ hR).cell 2 rfl
          have z3 := (HZ.out _ hR).cell 3 rfl
          have hzl := (HZ.out _ hR).lt
          refine wpOp_run (v := .agg #[.int .i64 x.m.lo, .int .i64 x.m.hi]) rfl rfl ?_ (fun _ _ => rfl) (Ok.refl _)
          clear hF
          go_simp
        · intro a' w' hF hO hR
          have e10 : a'.tmps[10]? = some (.pointer (some ⟨Z, 0, none⟩)) := hF.slot 10 (by kernel_rfl) rfl
          refine wpOp_run (v := .pointer (some ⟨Z, 14, none⟩)) rfl rfl ?_ (fun _ _ => rfl) (Ok.refl _)
          clear hF
          go_simp
        · intro a' w' hF hO hR
          obtain ⟨v9, hv9, e45⟩ := hF.get 9 45 (by kernel_rfl) (by kernel_rfl)
          obtain rfl : v9 = _ := hv9 _ (Ok.refl _)
          have z14 := (HZ.out _ hR).cell 14 rfl
          have hzl := (HZ.out _ hR).lt
          refine wpOp_run (v := .int .i64 x.age) rfl rfl ?_ (fun _ _ => rfl) (Ok.refl _)
          clear hF
          go_simp
        · intro a' w' hF hO hR
          obtain ⟨v5, hv5, e41⟩ := hF.get 5 41 (by kernel_rfl) (by kernel_rfl)
          obtain rfl : v5 = _ := hv5 _ (Ok.refl _)
          obtain ⟨v8, hv8, e44⟩ := hF.get 8 44 (by kernel_rfl) (by kernel_rfl)
          obtain rfl : v8 = _ := hv8 _ (Ok.refl _)
          obtain ⟨v10, hv10, e46⟩ := hF.get 10 46 (by kernel_rfl) (by kernel_rfl)
          obtain rfl : v10 = _ := hv10 _ (Ok.refl _)
          clear hF
          refine wpOp_call (f := 121) (args := #[parV p, .agg #[.int .i64 x.m.lo, .int .i64 x.m.hi], .int .i64 x.age]) rfl rfl ?_ ((KW.out _).mono ?_)
          · go_simp
          · rintro e w2 ⟨rfl, hb2⟩; exact ⟨_, rfl, fun _ _ => rfl, hb2⟩
        · intro a' w' hF hO hR
          obtain ⟨v11, hv11, e47⟩ := hF.get 11 47 (by kernel_rfl) (by kernel_rfl)
          obtain rfl : v11 = _ := hv11 _ (Ok.refl _)
          refine wpOp_run (v := .slice (some ⟨w'.heap.size, 0, none⟩) 1 1) (w' := w'.alloc (.cells #[.int .i64 y1, .int .i64 y2] 25)) rfl rfl ?_ (fun w'' k => ⟨_, rfl, (Own.new _ _ _ rfl).next k⟩) ((Ok.refl _).alloc _)
          clear hF
          go_simp
        intro vs W' hvs hR
        have e0 : vs 0 = .slice A5 m5 q5 := hvs 0 (by decide) _ (Ok.refl _)
        obtain ⟨gb, e12, hB⟩ := hvs 12 (by decide) _ (Ok.refl _)
        have hrow := HROW.out _ hR
        have h2 := H2.out _ hR
        have h3 := H3.out _ hR
        have hY := HY.out _ hR
        have hZ := HZ.out _ hR
        have hok := (HOK.out.trans (Ok.refl w4).drew).trans hR
        have hYl := hY.lt
        have hkl : K ≤ W'.heap.size := HKY.out.1 ▸ hok.size
        obtain ⟨A8, q8, w8, hrun, hown, hgrow, -⟩ := run_append_one (P := Tryz.prog) (t := 139) (e := 25) Tryz.underlying139 spanInfo22 rfl (by decide) (by decide) (B := K) hkl hrow hB rfl (by intro u hu; simp at hu; rcases hu with rfl | rfl <;> rfl) (by have := HM5.out; omega) 139
        have hfar := row_far22 hrow
        have hok8 : Ok w2 w8 := Below.grown hok hgrow hok.size (fun g e => by have := hfar g e; have := HKY.out; omega)
        have h28 := row_other22 h2 hrow (by decide) hgrow
        have h38 := row_other22 h3 hrow (by decide) hgrow
        have hY8 := own_grown22t hY hgrow (fun e => by have := hfar _ e; have := HKY.out; omega)
        have hZ8 := own_grown22t hZ hgrow (fun e => by have := HRZ.out _ e; omega)
        clear hvs HQ HZ HOK HROW H2 H3 HY KW hB hrow hgrow h2 h3 hY hZ hok hYl hkl hfar
        simp only [putFrom, e0, e12]
        simp only [Act.put, List.setIfInBounds_toArray, List.set_cons_zero, List.set_cons_succ]
        refine wpOp_leaves (o := ⟨some 49, _, _, _, _, none⟩) (v := .slice A8 (m5 + 1) q8) (w' := w8) rfl rfl (exec_append22 rfl rfl rfl hrun) ?_
        simp only [Act.put, List.setIfInBounds_toArray, List.set_cons_zero, List.set_cons_succ]
        refine wpOp_leaves (o := ⟨some 6, _, _, _, _, none⟩) (v := .slice A8 (m5 + 1) q8) (w' := w8) rfl rfl (by go_simp) ?_
        simp only [TailFrom, Act.put, List.setIfInBounds_toArray, List.set_cons_zero, List.set_cons_succ]
        generalize vs 1 = x21
        generalize vs 2 = x22
        generalize vs 3 = x23
        generalize vs 4 = x24
        generalize vs 5 = x25
        generalize vs 6 = x26
        generalize vs 7 = x27
        generalize vs 8 = x28
        generalize vs 9 = x29
        generalize vs 10 = x30
        generalize vs 11 = x31
        clear hR hrun e0 e12 vs
        have z3 := hZ8.cell 4 (v := .int .i64 x.m.held) rfl
        have hzl := hZ8.lt
        have hyl : K ≤ w8.heap.size := HKY.out.1 ▸ hok8.size
        have R8 := Lib.hid hown
        have R28 := Lib.hid h28
        have R38 := Lib.hid h38
        have HY8 := Lib.hid hY8
        have HZ8 := Lib.hid hZ8
        have HOK8 := Lib.hid hok8
        clear hown h28 h38 hY8 hZ8 hok8
        go_upto_region 10 with (at_builtin; go_loud (refine wpList_append_value rfl _ _ 56 rfl K 3 Tryz.underlying56 (.int .i64 0) 8 (by decide) rfl infoInt23 _ gk.length _ rfl (World.ownsRow.alloc R28.out _) _ (.int .i64 x.m.held) rfl rfl ((Own.new _ #[.int .i64 x.m.held] _ rfl).cell 0 rfl) (by have := HGL.out; omega) (by simp; omega) ?_; intro v9 w9 hown9 hgrow9; obtain ⟨A9, m9, q9, rfl⟩ := row_slice22 hown9))
        clear z3 hzl hyl
        have hfar := row_far22 R28.out
        have hok9 : Ok w2 w9 := Below.grown (HOK8.out.alloc _) hgrow9 (HOK8.out.alloc _).size (fun g e => by have := hfar g e; have := HKY.out; omega)
        have h19 := row_other22 (World.ownsRow.alloc R8.out _) (World.ownsRow.alloc R28.out _) (by decide) hgrow9
        have h39 := row_other22 (World.ownsRow.alloc R38.out _) (World.ownsRow.alloc R28.out _) (by decide) hgrow9
        have hY9 := own_grown22t (HY8.out.alloc _) hgrow9 (fun e => by have := hfar _ e; have := HKY.out; omega)
        have hZ9 := own_grown22t (HZ8.out.alloc _) hgrow9 (HR2Z.out trivial)
        clear R8 R28 R38 HY8 HZ8 HOK8 hgrow9 hfar
        have z13 := hZ9.cell 13 (v := .slice x.A x.m.table.length x.cap) rfl
        have hzl := hZ9.lt
        have hyl : K ≤ w9.heap.size := HKY.out.1 ▸ hok9.size
        have R9 := Lib.hid h19
        have R29 := Lib.hid hown9
        have R39 := Lib.hid h39
        have HY9 := Lib.hid hY9
        have HOK9 := Lib.hid hok9
        clear h19 hown9 h39 hY9 hZ9 hok9
        go_upto_region 11 with (at_builtin; go_loud (refine wpList_append_value rfl _ _ 140 rfl K 26 Tryz.underlying140 (.slice none 0 0) 24 (by decide) rfl infoTab _ gk.length _ rfl (World.ownsRow.alloc R39.out _) _ (.slice x.A x.m.table.length x.cap) rfl rfl ((Own.new _ #[.slice x.A x.m.table.length x.cap] _ rfl).cell 0 rfl) (by have := HGL.out; omega) (by simp; omega) ?_; intro v10 w10 hown10 hgrow10; obtain ⟨A10, m10, q10, rfl⟩ := row_slice22 hown10))
        clear z13 hzl hyl
        have hfar := row_far22 R39.out
        have hok10 : Ok w2 w10 := Below.grown (HOK9.out.alloc _) hgrow10 (HOK9.out.alloc _).size (fun g e => by have := hfar g e; have := HKY.out; omega)
        have h110 := row_other22 (World.ownsRow.alloc R9.out _) (World.ownsRow.alloc R39.out _) (by decide) hgrow10
        have h210 := row_other22 (World.ownsRow.alloc R29.out _) (World.ownsRow.alloc R39.out _) (by decide) hgrow10
        have hY10 := own_grown22t (HY9.out.alloc _) hgrow10 (fun e => by have := hfar _ e; have := HKY.out; omega)
        clear R9 R29 R39 HY9 HOK9 hgrow10 hfar
        have hok := hok10
        clear hok10
        have r1 := HNX.out _ _ _ h110
        clear h110
        go_wp2_with fail
        go_roundw
        case rel => exact ⟨k + 1, gk ++ [x.hd], ts ++ [⟨x.m.table, x.A, x.cap⟩], hlt, by go_num, HG1, r1, by rw [List.length_append, List.map_append, List.map_append]; exact h210, by rw [List.length_append, List.map_append]; exact hown10, hY10, hok⟩
        case measure => simp [intOf]; omega
    · have hkN : k = os.length := by omega
      subst hkN
      have hLt : L.take os.length = L := by rw [HNL.out, List.take_length]
      have hgk : Nod.gates p (l.map HA.hd) = gk := by rw [hG.out.1, hLt]; unfold Nod.gates; rw [HL.out]
      have hsp : Nod.spans p (l.map HA.hd) = gk.map (Nod.way p) := by unfold Nod.spans; rw [hgk]
      have hhe : Nod.helds p (l.map HA.hd) = gk.map (·.m.held) := by unfold Nod.helds; rw [hgk]
      have htb : Nod.tables p (l.map HA.hd) = lists ts := by unfold Nod.tables; rw [hgk]; exact hG.out.2.1.symm
      have hlt2 : ts.length = gk.length := by have := congrArg List.length hG.out.2.1; rw [List.length_map, List.length_map] at this; exact this
      obtain ⟨A1, c1, rfl, hP1⟩ := PairsAt.of_own (show wr.ownsRow K 25 2 _ (gk.map (Nod.way p)).length (cellsOfPairs (gk.map (Nod.way p))) from h1)
      obtain ⟨A2, c2, rfl, hP2⟩ := IntsAt.of_own (l := gk.map (·.m.held)) (show wr.ownsRow K 3 1 _ (gk.map (·.m.held)).length _ from by rw [List.length_map]; exact h2)
      obtain ⟨A3, c3, rfl, hP3⟩ := tabs_of_row (ts := ts) (show wr.ownsRow K 26 1 _ ts.length _ from by rw [hlt2]; exact h3) (fun x hx => by
        obtain ⟨y, hy, e1, e2⟩ := hG.out.2.2 x hx
        rw [e1, e2]
        exact (HH.out.below hok).tabs y hy)
      have hgl16 := HGL.out
      have hokw := HW2.out.trans hok
      have KF := Lib.hid fun W' (k : Ok wr W') => anchorFuse p A1 (gk.map (Nod.way p)) c1 W' (hP1.below k) (by rw [List.length_map]; omega) HPF.out
      have KH := Lib.hid fun W' (k : Ok wr W') => anchorHeld p A2 (gk.map (·.m.held)) c2 W' (hP2.below k) (by rw [List.length_map]; omega)
      have htl : ∀ x ∈ ts, x.l.length ≤ 9223372036854775807 := fun x hx => by
        obtain ⟨y, hy, e1, e2⟩ := hG.out.2.2 x hx
        rw [e2]
        have h1 : y.hd ∈ L := by rw [← HOL.out]; exact List.mem_map_of_mem hy
        exact Nat.le_trans (HTL.out _ h1) (by decide)
      have KV := Lib.hid fun W' (k : Ok wr W') => voteAdopts2 p A A3 s.table ts cap c3 W' (HPW.out.next (hokw.trans k)) (HA_.out.below (hokw.trans k)) (hP3.below k) HS_.out (by omega) htl
      have hgo := HGO0.out
      rw [hsp] at hgo
      rw [left23, fz23] at KF
      obtain ⟨lf, hlf⟩ : ∃ y, Gate.left p.f (gk.map (Nod.way p)) = y := ⟨_, rfl⟩
      obtain ⟨⟨f1, f2⟩, hff⟩ : ∃ y, Gate.fused p.f (gk.map (Nod.way p)) = y := ⟨_, rfl⟩
      obtain ⟨hd1, hhd⟩ : ∃ y, Anchor.held p.f (gk.map (·.m.held)) = y := ⟨_, rfl⟩
      obtain ⟨u, hu⟩ : ∃ y, Nod.core p s (l.map HA.hd) = y := ⟨_, rfl⟩
      have hut : Vote.out p.f s.table (lists ts) = u.table := by rw [← hu, ← htb]; rfl
      have HUA : Hid (∀ A6 c6, (#[.int .i64 f1, .int .i64 f2, .int .i64 s.time, .bool s.set, .int .i64 hd1, .int .i64 0, .bool true, .slice A6 u.table.length c6, .int .i64 s.st, .int .i64 s.sn, .int .i64 s.life] : Array Value) = staCells u A6 c6) := Lib.hid fun A6 c6 => by
        rw [← hu]
        unfold Nod.core
        rw [hsp, hff, hhe, hhd]
        rfl
      rw [hlf, hff] at KF
      rw [hhd] at KH
      rw [hut] at KV
      rw [hlf, hu] at hgo
      simp only at KF
      have HOK1 := Lib.hid hokw
      clear hLt hgk hsp hhe htb hlt2 hG h1 h2 h3 hP1 hP2 hP3 hgl16 htl hlf hff hhd hu hut HGL HH HOL HNL HTL
      generalize Vote.is p.f (lists ts) = ab at KV
      generalize gk.map (Nod.way p) = sp at KF ⊢
      generalize gk.map (·.m.held) = hds at KH ⊢
      generalize Trim.is p.f hds.length = hb at KH
      have hQ := HQ0.out _ hokw
      have ok1 := Ok.refl wr
      clear hok
      have hok := hokw
      clear hokw
      have hYR := hY.lt
      cases lf with
      | false =>
        have HG2 : Hid (none = GO) := Lib.hid (by rw [← hgo]; rfl)
        clear hgo KH KV HUA
        obtain ⟨c0, c1', c2', c3', c4, c5, c6, c7, c8, c9, c10, c11⟩ := hQ.frP
        have hgl := hQ.lt
        go_upto_region 13 with (go_at_call 122; refine (KF.out _ ok1).mono ?_; rintro e w4 ⟨rfl, hb1⟩; clear c0 c1' c2' c3' c4 c5 c6 c7 c8 c9 c10 c11 hgl hQ; replace hY := hY.next hb1; replace hok := hok.trans hb1; clear hb1 KF)
        replace hY := hY.alloc (.cells #[.int .i64 f1, .int .i64 f2] 25)
        replace hok := hok.alloc (.cells #[.int .i64 f1, .int .i64 f2] 25)
        change Code.wp _ _ _ _ (w4.alloc (.cells #[.int .i64 f1, .int .i64 f2] 25))
        generalize w4.alloc (.cells #[.int .i64 f1, .int .i64 f2] 25) = W5 at hY hok ⊢
        have hrw := HYW.out.1
        obtain ⟨z0, z1, z2, z3, z4, z5, z6, z7, z8, z9, z10⟩ := hY.sta
        obtain ⟨y0, y1, y2, y3, y4, y5, y6, y7, y8, y9, y10⟩ := frozenSta hY
        have hzl := hY.lt
        have hX : Own (((((((((((W5.setCell ⟨Y, 0, none⟩ (.int .i64 0)).setCell ⟨Y, 1, none⟩ (.int .i64 0)).setCell ⟨Y, 2, none⟩ (.int .i64 0)).setCell ⟨Y, 3, none⟩ (.bool false)).setCell ⟨Y, 4, none⟩ (.int .i64 0)).setCell ⟨Y, 5, none⟩ (.int .i64 0)).setCell ⟨Y, 6, none⟩ (.bool false)).setCell ⟨Y, 7, none⟩ (.slice none 0 0)).setCell ⟨Y, 8, none⟩ (.int .i64 0)).setCell ⟨Y, 9, none⟩ (.int .i64 0)).setCell ⟨Y, 10, none⟩ (.int .i64 0)) Y (staCells zeroSta none 0) := own_set11 hY zeroSta none 0
        have hok3 : Ok w (((((((((((W5.setCell ⟨Y, 0, none⟩ (.int .i64 0)).setCell ⟨Y, 1, none⟩ (.int .i64 0)).setCell ⟨Y, 2, none⟩ (.int .i64 0)).setCell ⟨Y, 3, none⟩ (.bool false)).setCell ⟨Y, 4, none⟩ (.int .i64 0)).setCell ⟨Y, 5, none⟩ (.int .i64 0)).setCell ⟨Y, 6, none⟩ (.bool false)).setCell ⟨Y, 7, none⟩ (.slice none 0 0)).setCell ⟨Y, 8, none⟩ (.int .i64 0)).setCell ⟨Y, 9, none⟩ (.int .i64 0)).setCell ⟨Y, 10, none⟩ (.int .i64 0)) := ok_set11 hok hrw zeroSta none 0
        go_wp2_with fail
        clear z0 z1 z2 z3 z4 z5 z6 z7 z8 z9 z10 y0 y1 y2 y3 y4 y5 y6 y7 y8 y9 y10 hzl
        generalize (((((((((((W5.setCell ⟨Y, 0, none⟩ (.int .i64 0)).setCell ⟨Y, 1, none⟩ (.int .i64 0)).setCell ⟨Y, 2, none⟩ (.int .i64 0)).setCell ⟨Y, 3, none⟩ (.bool false)).setCell ⟨Y, 4, none⟩ (.int .i64 0)).setCell ⟨Y, 5, none⟩ (.int .i64 0)).setCell ⟨Y, 6, none⟩ (.bool false)).setCell ⟨Y, 7, none⟩ (.slice none 0 0)).setCell ⟨Y, 8, none⟩ (.int .i64 0)).setCell ⟨Y, 9, none⟩ (.int .i64 0)).setCell ⟨Y, 10, none⟩ (.int .i64 0)) = W9 at hX hok3 ⊢
        obtain ⟨s0, s1, s2, s3, s4, s5, s6, s7, s8, s9, s10⟩ := hX.sta
        exact bodyPost_ret (v := .tuple #[staV zeroSta none 0, .bool false]) (by simp [results, Tryz.results77, go_sem, s0, s1, s2, s3, s4, s5, s6, s7, s8, s9, s10, staV]) rfl ⟨zeroSta, none, 0, false, rfl, (by rw [← HG2.out]; rfl), (fun s h => by rw [← HG2.out] at h; cases h), PairsAt.empty _ _, .inr (fun a h => by cases h), hok3⟩
      | true =>
        have HGO : Hid (some u = GO) := Lib.hid (by rw [← hgo]; rfl)
        clear hgo HGO0
        obtain ⟨c0, c1', c2', c3', c4, c5, c6, c7, c8, c9, c10, c11⟩ := hQ.frP
        have hgl := hQ.lt
        go_upto_region 13 with (go_at_call 122; refine (KF.out _ ok1).mono ?_; rintro e w4 ⟨rfl, hb1⟩; clear c0 c1' c2' c3' c4 c5 c6 c7 c8 c9 c10 c11 hgl; replace hQ := hQ.next hb1; replace hY := hY.next hb1; replace hok := hok.trans hb1; replace ok1 := ok1.trans hb1; clear hb1 KF)
        have hFB := Own.new w4 #[.int .i64 f1, .int .i64 f2] 25 rfl
        have hYl := hY.lt
        replace hY := hY.alloc (.cells #[.int .i64 f1, .int .i64 f2] 25)
        replace hQ := hQ.alloc (.cells #[.int .i64 f1, .int .i64 f2] 25)
        replace hok := hok.alloc (.cells #[.int .i64 f1, .int .i64 f2] 25)
        replace ok1 := ok1.alloc (.cells #[.int .i64 f1, .int .i64 f2] 25)
        change Code.wp _ _ _ _ (w4.alloc (.cells #[.int .i64 f1, .int .i64 f2] 25))
        generalize w4.alloc (.cells #[.int .i64 f1, .int .i64 f2] 25) = W5 at hFB hY hQ hok ok1 ⊢
        generalize w4.heap.size = FB at hFB hYl ⊢
        obtain ⟨s0, s1, s2, s3, s4, s5, s6, s7, s8, s9, s10⟩ := hQ.frS
        have hgl := hQ.lt
        have hYl2 := hY.lt
        have hFl := hFB.lt
        have hwl := hok.size
        have hwl2 := ok1.size
        go_upto_region 16 with fail
        clear s0 s1 s2 s3 s4 s5 s6 s7 s8 s9 s10
        have hN := Own.new W5 #[.int .i64 s.lo, .int .i64 s.hi, .int .i64 s.time, .bool s.set, .int .i64 s.held, .int .i64 s.hops, .bool s.good, .slice A s.table.length cap, .int .i64 s.st, .int .i64 s.sn, .int .i64 s.life] 30 rfl
        replace hY := hY.alloc (.cells #[.int .i64 s.lo, .int .i64 s.hi, .int .i64 s.time, .bool s.set, .int .i64 s.held, .int .i64 s.hops, .bool s.good, .slice A s.table.length cap, .int .i64 s.st, .int .i64 s.sn, .int .i64 s.life] 30)
        replace hQ := hQ.alloc (.cells #[.int .i64 s.lo, .int .i64 s.hi, .int .i64 s.time, .bool s.set, .int .i64 s.held, .int .i64 s.hops, .bool s.good, .slice A s.table.length cap, .int .i64 s.st, .int .i64 s.sn, .int .i64 s.life] 30)
        replace hFB := hFB.alloc (.cells #[.int .i64 s.lo, .int .i64 s.hi, .int .i64 s.time, .bool s.set, .int .i64 s.held, .int .i64 s.hops, .bool s.good, .slice A s.table.length cap, .int .i64 s.st, .int .i64 s.sn, .int .i64 s.life] 30)
        replace hok := hok.alloc (.cells #[.int .i64 s.lo, .int .i64 s.hi, .int .i64 s.time, .bool s.set, .int .i64 s.held, .int .i64 s.hops, .bool s.good, .slice A s.table.length cap, .int .i64 s.st, .int .i64 s.sn, .int .i64 s.life] 30)
        replace ok1 := ok1.alloc (.cells #[.int .i64 s.lo, .int .i64 s.hi, .int .i64 s.time, .bool s.set, .int .i64 s.held, .int .i64 s.hops, .bool s.good, .slice A s.table.length cap, .int .i64 s.st, .int .i64 s.sn, .int .i64 s.life] 30)
        change Code.wp _ _ _ _ (W5.alloc (.cells #[.int .i64 s.lo, .int .i64 s.hi, .int .i64 s.time, .bool s.set, .int .i64 s.held, .int .i64 s.hops, .bool s.good, .slice A s.table.length cap, .int .i64 s.st, .int .i64 s.sn, .int .i64 s.life] 30))
        generalize W5.alloc (.cells #[.int .i64 s.lo, .int .i64 s.hi, .int .i64 s.time, .bool s.set, .int .i64 s.held, .int .i64 s.hops, .bool s.good, .slice A s.table.length cap, .int .i64 s.st, .int .i64 s.sn, .int .i64 s.life] 30) = W6 at hN hFB hY hQ hok ok1 ⊢
        obtain ⟨N, hNe⟩ : ∃ y, W5.heap.size = y := ⟨_, rfl⟩
        rw [hNe] at hN hgl hYl2 hFl hwl hwl2
        rw [hNe]
        have HNN : Hid (Y ≠ N ∧ w.heap.size ≤ N) := Lib.hid ⟨by omega, hwl⟩
        have HN3 : Hid (G ≠ N ∧ FB ≠ N ∧ wr.heap.size ≤ N) := Lib.hid ⟨by omega, by omega, hwl2⟩
        clear hNe hgl hYl2 hFl hwl hwl2 hYl
        have b0 := hFB.cell 0 (v := .int .i64 f1) rfl
        have b1 := hFB.cell 1 (v := .int .i64 f2) rfl
        have hfl := hFB.lt
        have n0 := hN.cell 0 rfl
        have n1 := hN.cell 1 rfl
        have n5 := hN.cell 5 rfl
        have n6 := hN.cell 6 rfl
        have m0 := hN.frozen 0
        have m1 := hN.frozen 1
        have m5 := hN.frozen 5
        have m6 := hN.frozen 6
        have hnl := hN.lt
        go_upto_region 17 with fail
        clear b0 b1 hfl n0 n1 n5 n6 m0 m1 m5 m6 hnl hFB
        replace hN := (((hN.set 0 (.int .i64 f1)).set 1 (.int .i64 f2)).set 5 (.int .i64 0)).set 6 (.bool true)
        change Own _ N #[.int .i64 f1, .int .i64 f2, .int .i64 s.time, .bool s.set, .int .i64 s.held, .int .i64 0, .bool true, .slice A s.table.length cap, .int .i64 s.st, .int .i64 s.sn, .int .i64 s.life] at hN
        replace hY := (((hY.setOther (a := ⟨N, 0, none⟩) HNN.out.1 (.int .i64 f1)).setOther (a := ⟨N, 1, none⟩) HNN.out.1 (.int .i64 f2)).setOther (a := ⟨N, 5, none⟩) HNN.out.1 (.int .i64 0)).setOther (a := ⟨N, 6, none⟩) HNN.out.1 (.bool true)
        replace hQ := (((hQ.setOther (a := ⟨N, 0, none⟩) HN3.out.1 (.int .i64 f1)).setOther (a := ⟨N, 1, none⟩) HN3.out.1 (.int .i64 f2)).setOther (a := ⟨N, 5, none⟩) HN3.out.1 (.int .i64 0)).setOther (a := ⟨N, 6, none⟩) HN3.out.1 (.bool true)
        replace hok := (((hok.setCell (p := ⟨N, 0, none⟩) HNN.out.2 (.int .i64 f1)).setCell (p := ⟨N, 1, none⟩) HNN.out.2 (.int .i64 f2)).setCell (p := ⟨N, 5, none⟩) HNN.out.2 (.int .i64 0)).setCell (p := ⟨N, 6, none⟩) HNN.out.2 (.bool true)
        replace ok1 := (((ok1.setCell (p := ⟨N, 0, none⟩) HN3.out.2.2 (.int .i64 f1)).setCell (p := ⟨N, 1, none⟩) HN3.out.2.2 (.int .i64 f2)).setCell (p := ⟨N, 5, none⟩) HN3.out.2.2 (.int .i64 0)).setCell (p := ⟨N, 6, none⟩) HN3.out.2.2 (.bool true)
        generalize ((((W6.setCell ⟨N, 0, none⟩ (.int .i64 f1)).setCell ⟨N, 1, none⟩ (.int .i64 f2)).setCell ⟨N, 5, none⟩ (.int .i64 0)).setCell ⟨N, 6, none⟩ (.bool true)) = W7 at hN hY hQ hok ok1 ⊢
        obtain ⟨c0, c1', c2', c3', c4, c5, c6, c7, c8, c9, c10, c11⟩ := hQ.frP
        have hgl := hQ.lt
        go_upto_region 18 with (go_at_call 123; refine (KH.out _ ok1).mono ?_; rintro e w8 ⟨rfl, hb1⟩; clear c0 c1' c2' c3' c4 c5 c6 c7 c8 c9 c10 c11 hgl; replace hQ := hQ.next hb1; replace hY := hY.next hb1; replace hN := hN.next hb1; replace hok := hok.trans hb1; replace ok1 := ok1.trans hb1; clear hb1 KH; have n4 := hN.cell 4 rfl; have m4 := hN.frozen 4; have hnl := hN.lt)
        clear n4 m4 hnl
        replace hN := hN.set 4 (.int .i64 hd1)
        change Own _ N #[.int .i64 f1, .int .i64 f2, .int .i64 s.time, .bool s.set, .int .i64 hd1, .int .i64 0, .bool true, .slice A s.table.length cap, .int .i64 s.st, .int .i64 s.sn, .int .i64 s.life] at hN
        replace hY := hY.setOther (a := ⟨N, 4, none⟩) HNN.out.1 (.int .i64 hd1)
        replace hQ := hQ.setOther (a := ⟨N, 4, none⟩) HN3.out.1 (.int .i64 hd1)
        replace hok := hok.setCell (p := ⟨N, 4, none⟩) HNN.out.2 (.int .i64 hd1)
        replace ok1 := ok1.setCell (p := ⟨N, 4, none⟩) HN3.out.2.2 (.int .i64 hd1)
        change Code.wp _ _ _ _ (w8.setCell ⟨N, 4, none⟩ (.int .i64 hd1))
        generalize w8.setCell ⟨N, 4, none⟩ (.int .i64 hd1) = W14 at hN hY hQ hok ok1 ⊢
        obtain ⟨K18, hK18⟩ : ∃ y, W14.drew.heap.size = y := ⟨_, rfl⟩
        have HNK : Hid (N < K18 ∧ Y < K18) := Lib.hid ⟨hK18 ▸ hN.drew.lt, hK18 ▸ hY.drew.lt⟩
        have HK18 := Lib.hid fun W' (k : Ok W14.drew W') => (hK18 ▸ k.size : K18 ≤ W'.heap.size)
        have HOK := Lib.hid hok
        have KV := Lib.hid fun W' (k : Ok W14.drew W') => (KV.out W' ((ok1.trans (Ok.refl W14).drew).trans k)).mono (show ∀ e w', _ → ∃ A' c', e = Ending.returned (.tuple #[.slice A' u.table.length c', .bool ab]) ∧ TabRow W'.heap.size w' A' c' u.table ∧ Ok W' w' from fun e w' ⟨A', c', h1, h2, _, h3⟩ => ⟨A', c', h1, h2, h3⟩)
        have HQ := Lib.hid fun W' (k : Ok W14.drew W') => hQ.drew.next k
        have HN := Lib.hid fun W' (k : Ok W14.drew W') => hN.drew.next k
        have HY := Lib.hid fun W' (k : Ok W14.drew W') => hY.drew.next k
        clear hok ok1 hQ hN hY hK18
        refine wp_region_facts_loose (by kernel_rfl) 110 rfl (VCCorV G N K18 p s u A cap A3 c3 ts ab) Ok 13 11 rfl (by decide) _ rfl (by kernel_rfl) (by kernel_rfl) _ _ rfl rfl rfl (by kernel_rfl) (by kernel_rfl) (fun i v w w' h k w'' k' => h w'' (k.trans k')) (fun a b c => Ok.trans) (Ok.refl _) [some 97, some 98, some 99, some 100, some 101, some 102, some 103, some 104, some 105, some 96, some 106, some 107, some 108] [some 97, some 98, some 99, some 100, some 101, some 102, some 103, some 104, some 105, some 96, some 106, none, some 108] rfl rfl ⟨?_, ?_, ?_, ?_, ?_, ?_, ?_, ?_, ?_, ?_, ?_, ?_, ?_, trivial⟩ ?_ ?_
        · intro a' w' hF hR
          have e0 : a'.tmps[0]? = some (.pointer (some ⟨G, 0, none⟩)) := hF.slot 0 (by kernel_rfl) rfl
          refine wpOp_run (v := .pointer (some ⟨G, 0, none⟩)) rfl rfl ?_ (fun _ _ => rfl) (Ok.refl _)
          clear hF
          go_simp
        · intro a' w' hF hR
          obtain ⟨v0, hv0, e97⟩ := hF.get 0 97 (by kernel_rfl) (by kernel_rfl)
          obtain rfl : v0 = _ := hv0 _ (Ok.refl _)
          refine wpOp_run (v := .pointer (some ⟨G, 0, none⟩)) rfl rfl ?_ (fun _ _ => rfl) (Ok.refl _)
          clear hF
          go_simp
        · intro a' w' hF hR
          obtain ⟨v1, hv1, e98⟩ := hF.get 1 98 (by kernel_rfl) (by kernel_rfl)
          obtain rfl : v1 = _ := hv1 _ (Ok.refl _)
          refine wpOp_run (v := .pointer (some ⟨G, 0, none⟩)) rfl rfl ?_ (fun _ _ => rfl) (Ok.refl _)
          clear hF
          go_simp
        · intro a' w' hF hR
          obtain ⟨v2, hv2, e99⟩ := hF.get 2 99 (by kernel_rfl) (by kernel_rfl)
          obtain rfl : v2 = _ := hv2 _ (Ok.refl _)
          refine wpOp_run (v := .pointer (some ⟨G, 0, none⟩)) rfl rfl ?_ (fun _ _ => rfl) (Ok.refl _)
          clear hF
          go_simp
        · intro a' w' hF hR
          obtain ⟨v3, hv3, e100⟩ := hF.get 3 100 (by kernel_rfl) (by kernel_rfl)
          obtain rfl : v3 = _ := hv3 _ (Ok.refl _)
          obtain ⟨c0, c1, c2, c3, c4, c5, c6, c7, c8, c9, c10, c11⟩ := (HQ.out _ hR).frP
          have hgl := (HQ.out _ hR).lt
          refine wpOp_run (v := parV p) rfl rfl ?_ (fun _ _ => rfl) (Ok.refl _)
          clear hF
          go_simp
        · intro a' w' hF hR
          have e13 : a'.tmps[13]? = some (.pointer (some ⟨N, 0, none⟩)) := hF.slot 13 (by kernel_rfl) rfl
          refine wpOp_run (v := .pointer (some ⟨N, 7, none⟩)) rfl rfl ?_ (fun _ _ => rfl) (Ok.refl _)
          clear hF
          go_simp
        · intro a' w' hF hR
          obtain ⟨v5, hv5, e102⟩ := hF.get 5 102 (by kernel_rfl) (by kernel_rfl)
          obtain rfl : v5 = _ := hv5 _ (Ok.refl _)
          have z7 := (HN.out _ hR).cell 7 rfl
          have hnl := (HN.out _ hR).lt
          refine wpOp_run (v := .slice A s.table.length cap) rfl rfl ?_ (fun _ _ => rfl) (Ok.refl _)
          clear hF
          go_simp
        · intro a' w' hF hR
          have e8 : a'.tmps[8]? = some (.slice A3 ts.length c3) := hF.slot 8 (by kernel_rfl) rfl
          refine wpOp_run (v := .slice A3 ts.length c3) rfl rfl ?_ (fun _ _ => rfl) (Ok.refl _)
          clear hF
          go_simp
        · intro a' w' hF hR
          obtain ⟨v4, hv4, e101⟩ := hF.get 4 101 (by kernel_rfl) (by kernel_rfl)
          obtain rfl : v4 = _ := hv4 _ (Ok.refl _)
          obtain ⟨v6, hv6, e103⟩ := hF.get 6 103 (by kernel_rfl) (by kernel_rfl)
          obtain rfl : v6 = _ := hv6 _ (Ok.refl _)
          obtain ⟨v7, hv7, e104⟩ := hF.get 7 104 (by kernel_rfl) (by kernel_rfl)
          obtain rfl : v7 = _ := hv7 _ (Ok.refl _)
          clear hF
          refine wpOp_call (f := 124) (args := #[parV p, .slice A s.table.length cap, .slice A3 ts.length c3]) rfl rfl ?_ ((KV.out _ hR).mono ?_)
          · go_simp
          · rintro e w2 ⟨A6, c6, rfl, h6, hb2⟩; exact ⟨_, rfl, fun w3 k => ⟨A6, c6, rfl, (TabRow.mono h6 (HK18.out _ hR)).next k⟩, hb2⟩
        · intro a' w' hF hR
          obtain ⟨v8, hv8, e105⟩ := hF.get 8 105 (by kernel_rfl) (by kernel_rfl)
          obtain ⟨A6, c6, rfl, h6⟩ := hv8 _ (Ok.refl _)
          refine wpOp_run (v := .tuple #[.slice A6 u.table.length c6, .bool ab]) rfl rfl ?_ (fun w'' k => ⟨A6, c6, rfl, h6.next k⟩) (Ok.refl _)
          clear hF
          go_simp
        · intro a' w' hF hR
          obtain ⟨v9, hv9, e96⟩ := hF.get 9 96 (by kernel_rfl) (by kernel_rfl)
          obtain ⟨A6, c6, rfl, h6⟩ := hv9 _ (Ok.refl _)
          refine wpOp_run (v := .slice A6 u.table.length c6) rfl rfl ?_ (fun w'' k => ⟨A6, c6, rfl, h6.next k⟩) (Ok.refl _)
          clear hF
          go_simp
        · intro a' w' hF hR
          obtain ⟨v9, hv9, e96⟩ := hF.get 9 96 (by kernel_rfl) (by kernel_rfl)
          obtain ⟨A6, c6, rfl, h6⟩ := hv9 _ (Ok.refl _)
          refine wpOp_run (v := .bool ab) rfl rfl ?_ (fun _ _ => rfl) (Ok.refl _)
          clear hF
          go_simp
        · intro a' w' hF hR
          have e13 : a'.tmps[13]? = some (.pointer (some ⟨N, 0, none⟩)) := hF.slot 13 (by kernel_rfl) rfl
          refine wpOp_run (v := .pointer (some ⟨N, 7, none⟩)) rfl rfl ?_ (fun _ _ => rfl) (Ok.refl _)
          clear hF
          go_simp
        · intro vs W' hvs hR
          obtain ⟨A6, c6, e10, h6⟩ := hvs 10 (by decide) _ (Ok.refl _)
          have e12 : vs 12 = .pointer (some ⟨N, 7, none⟩) := hvs 12 (by decide) _ (Ok.refl _)
          have hN := HN.out _ hR
          have hY := HY.out _ hR
          have hok := (HOK.out.trans (Ok.refl W14).drew).trans hR
          clear hvs HN HY HQ HOK KV
          simp only [putFrom, e10, e12]
          simp only [Act.put, List.setIfInBounds_toArray, List.set_cons_zero, List.set_cons_succ]
          have z7 := hN.cell 7 rfl
          have y7 := hN.frozen 7
          have hnl := hN.lt
          refine wpOp_store (w' := W'.setCell ⟨N, 7, none⟩ (.slice A6 u.table.length c6)) rfl rfl rfl ?_ ?_
          · go_simp
          clear z7 y7 hnl
          replace h6 := TabRow.set h6 (p := ⟨N, 7, none⟩) HNK.out.1 (.slice A6 u.table.length c6)
          replace hN := hN.set 7 (.slice A6 u.table.length c6)
          change Own _ N #[.int .i64 f1, .int .i64 f2, .int .i64 s.time, .bool s.set, .int .i64 hd1, .int .i64 0, .bool true, .slice A6 u.table.length c6, .int .i64 s.st, .int .i64 s.sn, .int .i64 s.life] at hN
          replace hY := hY.setOther (a := ⟨N, 7, none⟩) HNN.out.1 (.slice A6 u.table.length c6)
          replace hok := hok.setCell (p := ⟨N, 7, none⟩) HNN.out.2 (.slice A6 u.table.length c6)
          generalize W'.setCell ⟨N, 7, none⟩ (.slice A6 u.table.length c6) = W15 at hN hY hok h6 ⊢
          try simp only [TailFrom]
          clear e10 e12 hR
          try generalize vs 0 = x20
          try generalize vs 1 = x21
          try generalize vs 2 = x22
          try generalize vs 3 = x23
          try generalize vs 4 = x24
          try generalize vs 5 = x25
          try generalize vs 6 = x26
          try generalize vs 7 = x27
          try generalize vs 8 = x28
          try generalize vs 9 = x29
          try generalize vs 10 = x30
          try generalize vs 11 = x31
          try generalize vs 12 = x32
          clear vs
          rw [HUA.out] at hN
          have hrw := HYW.out.1
          obtain ⟨s0, s1, s2, s3, s4, s5, s6, s7, s8, s9, s10⟩ := hN.sta
          obtain ⟨z0, z1, z2, z3, z4, z5, z6, z7, z8, z9, z10⟩ := hY.sta
          obtain ⟨y0, y1, y2, y3, y4, y5, y6, y7, y8, y9, y10⟩ := frozenSta hY
          have hsl := hN.lt
          have hzl := hY.lt
          have hX := own_set11 hY u A6 c6
          have hok3 := ok_set11 hok hrw u A6 c6
          have h7 := (TabRow.set (TabRow.set (TabRow.set (TabRow.set (TabRow.set (TabRow.set (TabRow.set (TabRow.set (TabRow.set (TabRow.set (TabRow.set h6 (p := ⟨Y, 0, none⟩) HNK.out.2 (.int .i64 u.lo)) (p := ⟨Y, 1, none⟩) HNK.out.2 (.int .i64 u.hi)) (p := ⟨Y, 2, none⟩) HNK.out.2 (.int .i64 u.time)) (p := ⟨Y, 3, none⟩) HNK.out.2 (.bool u.set)) (p := ⟨Y, 4, none⟩) HNK.out.2 (.int .i64 u.held)) (p := ⟨Y, 5, none⟩) HNK.out.2 (.int .i64 u.hops)) (p := ⟨Y, 6, none⟩) HNK.out.2 (.bool u.good)) (p := ⟨Y, 7, none⟩) HNK.out.2 (.slice A6 u.table.length c6)) (p := ⟨Y, 8, none⟩) HNK.out.2 (.int .i64 u.st)) (p := ⟨Y, 9, none⟩) HNK.out.2 (.int .i64 u.sn)) (p := ⟨Y, 10, none⟩) HNK.out.2 (.int .i64 u.life))
          go_wp2_with fail
          clear s0 s1 s2 s3 s4 s5 s6 s7 s8 s9 s10 z0 z1 z2 z3 z4 z5 z6 z7 z8 z9 z10 y0 y1 y2 y3 y4 y5 y6 y7 y8 y9 y10 hsl hzl
          generalize (((((((((((W15.setCell ⟨Y, 0, none⟩ (.int .i64 u.lo)).setCell ⟨Y, 1, none⟩ (.int .i64 u.hi)).setCell ⟨Y, 2, none⟩ (.int .i64 u.time)).setCell ⟨Y, 3, none⟩ (.bool u.set)).setCell ⟨Y, 4, none⟩ (.int .i64 u.held)).setCell ⟨Y, 5, none⟩ (.int .i64 u.hops)).setCell ⟨Y, 6, none⟩ (.bool u.good)).setCell ⟨Y, 7, none⟩ (.slice A6 u.table.length c6)).setCell ⟨Y, 8, none⟩ (.int .i64 u.st)).setCell ⟨Y, 9, none⟩ (.int .i64 u.sn)).setCell ⟨Y, 10, none⟩ (.int .i64 u.life)) = W9 at hX hok3 h7 ⊢
          obtain ⟨s0, s1, s2, s3, s4, s5, s6, s7, s8, s9, s10⟩ := hX.sta
          exact bodyPost_ret (v := .tuple #[staV u A6 c6, .bool true]) (by simp [results, Tryz.results77, go_sem, s0, s1, s2, s3, s4, s5, s6, s7, s8, s9, s10, staV]) rfl ⟨u, A6, c6, true, rfl, (by rw [← HGO.out]; rfl), (fun s h => by rw [← HGO.out] at h; exact Option.some.inj h), (TabRow.pairs h7).1, .inr (fun a ha => Nat.le_trans (by have := HNK.out; have := HYW.out; omega) ((TabRow.pairs h7).2.1 a ha)), hok3⟩
        · intro vs W' hvs hR
          obtain ⟨A6, c6, e10, h6⟩ := hvs 10 (by decide) (by decide) _ (Ok.refl _)
          have e12 : vs 12 = .pointer (some ⟨N, 7, none⟩) := hvs 12 (by decide) (by decide) _ (Ok.refl _)
          obtain ⟨A7, c7, e9, -⟩ := hvs 9 (by decide) (by decide) _ (Ok.refl _)
          have hN := HN.out _ hR
          have hY := HY.out _ hR
          have hok := (HOK.out.trans (Ok.refl W14).drew).trans hR
          clear hvs HN HY HQ HOK KV
          simp only [putFrom, e10, e12, e9]
          simp only [Act.put, List.setIfInBounds_toArray, List.set_cons_zero, List.set_cons_succ]
          have z7 := hN.cell 7 rfl
          have y7 := hN.frozen 7
          have hnl := hN.lt
          refine wpOp_store (w' := W'.setCell ⟨N, 7, none⟩ (.slice A6 u.table.length c6)) rfl rfl rfl ?_ ?_
          · go_simp
          clear z7 y7 hnl
          replace h6 := TabRow.set h6 (p := ⟨N, 7, none⟩) HNK.out.1 (.slice A6 u.table.length c6)
          replace hN := hN.set 7 (.slice A6 u.table.length c6)
          change Own _ N #[.int .i64 f1, .int .i64 f2, .int .i64 s.time, .bool s.set, .int .i64 hd1, .int .i64 0, .bool true, .slice A6 u.table.length c6, .int .i64 s.st, .int .i64 s.sn, .int .i64 s.life] at hN
          replace hY := hY.setOther (a := ⟨N, 7, none⟩) HNN.out.1 (.slice A6 u.table.length c6)
          replace hok := hok.setCell (p := ⟨N, 7, none⟩) HNN.out.2 (.slice A6 u.table.length c6)
          generalize W'.setCell ⟨N, 7, none⟩ (.slice A6 u.table.length c6) = W15 at hN hY hok h6 ⊢
          refine wpOp_leaves (o := ⟨some 107, _, _, _, _, none⟩) (v := .bool ab) (w' := W15) rfl rfl ?_ ?_
          · go_simp
          simp only [Act.put, List.setIfInBounds_toArray, List.set_cons_zero, List.set_cons_succ]
          try simp only [TailFrom]
          clear e10 e12 e9 hR
          try generalize vs 0 = x20
          try generalize vs 1 = x21
          try generalize vs 2 = x22
          try generalize vs 3 = x23
          try generalize vs 4 = x24
          try generalize vs 5 = x25
          try generalize vs 6 = x26
          try generalize vs 7 = x27
          try generalize vs 8 = x28
          try generalize vs 9 = x29
          try generalize vs 10 = x30
          try generalize vs 11 = x31
          try generalize vs 12 = x32
          clear vs
          rw [HUA.out] at hN
          have hrw := HYW.out.1
          obtain ⟨s0, s1, s2, s3, s4, s5, s6, s7, s8, s9, s10⟩ := hN.sta
          obtain ⟨z0, z1, z2, z3, z4, z5, z6, z7, z8, z9, z10⟩ := hY.sta
          obtain ⟨y0, y1, y2, y3, y4, y5, y6, y7, y8, y9, y10⟩ := frozenSta hY
          have hsl := hN.lt
          have hzl := hY.lt
          have hX := own_set11 hY u A6 c6
          have hok3 := ok_set11 hok hrw u A6 c6
          have h7 := (TabRow.set (TabRow.set (TabRow.set (TabRow.set (TabRow.set (TabRow.set (TabRow.set (TabRow.set (TabRow.set (TabRow.set (TabRow.set h6 (p := ⟨Y, 0, none⟩) HNK.out.2 (.int .i64 u.lo)) (p := ⟨Y, 1, none⟩) HNK.out.2 (.int .i64 u.hi)) (p := ⟨Y, 2, none⟩) HNK.out.2 (.int .i64 u.time)) (p := ⟨Y, 3, none⟩) HNK.out.2 (.bool u.set)) (p := ⟨Y, 4, none⟩) HNK.out.2 (.int .i64 u.held)) (p := ⟨Y, 5, none⟩) HNK.out.2 (.int .i64 u.hops)) (p := ⟨Y, 6, none⟩) HNK.out.2 (.bool u.good)) (p := ⟨Y, 7, none⟩) HNK.out.2 (.slice A6 u.table.length c6)) (p := ⟨Y, 8, none⟩) HNK.out.2 (.int .i64 u.st)) (p := ⟨Y, 9, none⟩) HNK.out.2 (.int .i64 u.sn)) (p := ⟨Y, 10, none⟩) HNK.out.2 (.int .i64 u.life))
          go_wp2_with fail
          clear s0 s1 s2 s3 s4 s5 s6 s7 s8 s9 s10 z0 z1 z2 z3 z4 z5 z6 z7 z8 z9 z10 y0 y1 y2 y3 y4 y5 y6 y7 y8 y9 y10 hsl hzl
          generalize (((((((((((W15.setCell ⟨Y, 0, none⟩ (.int .i64 u.lo)).setCell ⟨Y, 1, none⟩ (.int .i64 u.hi)).setCell ⟨Y, 2, none⟩ (.int .i64 u.time)).setCell ⟨Y, 3, none⟩ (.bool u.set)).setCell ⟨Y, 4, none⟩ (.int .i64 u.held)).setCell ⟨Y, 5, none⟩ (.int .i64 u.hops)).setCell ⟨Y, 6, none⟩ (.bool u.good)).setCell ⟨Y, 7, none⟩ (.slice A6 u.table.length c6)).setCell ⟨Y, 8, none⟩ (.int .i64 u.st)).setCell ⟨Y, 9, none⟩ (.int .i64 u.sn)).setCell ⟨Y, 10, none⟩ (.int .i64 u.life)) = W9 at hX hok3 h7 ⊢
          obtain ⟨s0, s1, s2, s3, s4, s5, s6, s7, s8, s9, s10⟩ := hX.sta
          exact bodyPost_ret (v := .tuple #[staV u A6 c6, .bool true]) (by simp [results, Tryz.results77, go_sem, s0, s1, s2, s3, s4, s5, s6, s7, s8, s9, s10, staV]) rfl ⟨u, A6, c6, true, rfl, (by rw [← HGO.out]; rfl), (fun s h => by rw [← HGO.out] at h; exact Option.some.inj h), (TabRow.pairs h7).1, .inr (fun a ha => Nat.le_trans (by have := HNK.out; have := HYW.out; omega) ((TabRow.pairs h7).2.1 a ha)), hok3⟩
end Go.Proofs.YtmokofblmkeloaaGreatDoor
