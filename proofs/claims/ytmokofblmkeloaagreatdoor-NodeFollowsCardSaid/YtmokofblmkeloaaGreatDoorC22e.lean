import Derived.Test.YtmokofblmkeloaaGreatDoorC22d
import Derived.Test.YtmokofblmkeloaaGreatDoorP35
import Derived.Test.YtmokofblmkeloaaGreatDoorB03
import Derived.Deep.CutRange
namespace Go.Proofs.YtmokofblmkeloaaGreatDoor
open Go.RowKit
set_option linter.unusedVariables false
set_option maxRecDepth 100000
attribute [local go_sem ↓] Go.wp_at_zero Go.wp_at_succ
theorem row_other22 {w w1 : World} {B C : Nat} {e f : TypeId} {k n m q : Nat} {v u : Value} {xs ys : List Value} (h : w.ownsRow B e k v n xs) (h2 : w.ownsRow C f m u q ys) (hne : e ≠ f) (hg : w.grownBy w1 u.ownBlock) : w1.ownsRow B e k v n xs := by
  refine World.ownsRow.kept h hg ?_
  rcases h.2 with ⟨e1, _⟩ | ⟨g, c, cur, e1, _, hc, _⟩
  · rw [e1]; exact .inl rfl
  · refine .inr ?_
    rw [e1]
    rcases h2.2 with ⟨e2, _⟩ | ⟨g2, c2, cur2, e2, _, hc2, _⟩
    · rw [e2]; simp [Value.ownBlock]
    · rw [e2]
      simp only [Value.ownBlock, ne_eq, Option.some.injEq]
      rintro rfl
      rw [hc] at hc2
      cases hc2
      exact hne rfl
theorem own_grown22t {w w1 : World} {g : Nat} {cs : Array Value} {row : Option Nat} (h : Own w g cs) (k : w.grownBy w1 row) (hr : row ≠ some g) : Own w1 g cs := by
  have hl := h.lt
  obtain ⟨t, ht⟩ := h
  exact ⟨t, (k.block g hl fun e => hr e.symm).trans ht⟩
theorem row_slice22 {w : World} {B n k : Nat} {e : TypeId} {v : Value} {xs : List Value} (h : w.ownsRow B e k v n xs) : ∃ A m c, v = .slice A m c := by
  rcases h.2 with ⟨e, _⟩ | ⟨a, c2, cur, e, hb, _⟩
  · exact ⟨_, _, _, e⟩
  · exact ⟨_, _, _, e⟩
theorem row_far22 {w : World} {B n k : Nat} {e : TypeId} {v : Value} {xs : List Value} (h : w.ownsRow B e k v n xs) : ∀ g, v.ownBlock = some g → B ≤ g := fun g hg => by
  rcases h.2 with ⟨e, _⟩ | ⟨a, c2, cur, e, hb, _⟩
  · rw [e] at hg; cases hg
  · rw [e] at hg; cases hg; exact hb
/-- Who said something already: sixteen cells. -/
def saidC (l : List Hd) : Array Value := #[.bool (Gate.said l 0), .bool (Gate.said l 1), .bool (Gate.said l 2), .bool (Gate.said l 3), .bool (Gate.said l 4), .bool (Gate.said l 5), .bool (Gate.said l 6), .bool (Gate.said l 7), .bool (Gate.said l 8), .bool (Gate.said l 9), .bool (Gate.said l 10), .bool (Gate.said l 11), .bool (Gate.said l 12), .bool (Gate.said l 13), .bool (Gate.said l 14), .bool (Gate.said l 15)]
theorem saidC_at (l : List Hd) (j : Nat) (hj : j < 16) : (saidC l)[j]? = some (.bool (Gate.said l (j : Int))) := by
  have h : j = 0 ∨ j = 1 ∨ j = 2 ∨ j = 3 ∨ j = 4 ∨ j = 5 ∨ j = 6 ∨ j = 7 ∨ j = 8 ∨ j = 9 ∨ j = 10 ∨ j = 11 ∨ j = 12 ∨ j = 13 ∨ j = 14 ∨ j = 15 := by omega
  rcases h with rfl | rfl | rfl | rfl | rfl | rfl | rfl | rfl | rfl | rfl | rfl | rfl | rfl | rfl | rfl | rfl <;> rfl
theorem saidC_set (l : List Hd) (h : Hd) (j : Nat) (hj : j < 16) (e : h.m.frm = j) : (saidC l).set! j (.bool true) = saidC (l ++ [h]) := by
  apply Array.ext_getElem?
  intro i
  have hs : ∀ m, (saidC m).size = 16 := fun _ => rfl
  by_cases hi : i < 16
  · rw [set_at _ _ _ _ (by rw [hs]; exact hj), saidC_at _ _ hi, saidC_at _ _ hi, Gate.said_snoc, e]
    by_cases hij : j = i
    · subst hij; simp
    · rw [if_neg hij, decide_eq_false (by omega), Bool.or_false]
  · rw [Array.getElem?_eq_none (by simp [hs]; omega), Array.getElem?_eq_none (by rw [hs]; omega)]
/-- What was picked out so far, in a row of one's own; its tables are one's own. -/
structure Outs (K : Nat) (w : World) (v : Value) (o : List HA) : Prop where
  row : w.ownsRow K 65 15 v o.length (o.flatMap haL)
  tabs : ∀ x ∈ o, TabRow K w x.A x.cap x.m.table
theorem Outs.nil (K : Nat) (w : World) : Outs K w (.slice none 0 0) [] := ⟨World.ownsRow_nil _ _ _ _, by simp⟩
theorem Outs.next {K : Nat} {w w1 : World} {v : Value} {o : List HA} (h : Outs K w v o) (k : Ok w w1) : Outs K w1 v o := ⟨row_next19 h.row k, fun x hx => (h.tabs x hx).next k⟩
theorem Outs.only {K r : Nat} {w w1 : World} {v : Value} {o : List HA} (h : Outs K w v o) (k : Only r w w1) (hr : r < K) : Outs K w1 v o := ⟨row_only h.row k hr, fun x hx => (h.tabs x hx).only k hr⟩
theorem Outs.mono {K L : Nat} {w : World} {v : Value} {o : List HA} (h : Outs K w v o) (k : L ≤ K) : Outs L w v o := ⟨row_low19 h.row k, fun x hx => (h.tabs x hx).mono k⟩
/-- What Told leaves. -/
def ToldEnd (p : Par) (me : Int) (l : List HA) (w : World) (e : Ending) (w' : World) : Prop := ∃ (A : Option Addr) (c : Nat) (o : List HA), e = .returned (.slice A o.length c) ∧ o.map HA.hd = Gate.told p me (l.map HA.hd) ∧ Outs w.heap.size w' (.slice A o.length c) o ∧ Ok w w'
theorem told_end {p : Par} {me : Int} {l o l' : List HA} {w wr w' : World} {K : Nat} {A : Option Addr} {c : Nat} (hK : w.heap.size ≤ K) (hpk : o.map HA.hd = Gate.pick p me (l.map HA.hd)) (hO : Outs K wr (.slice A o.length c) o) (hok : Ok w wr) (hs : Sorted22 K (.slice A o.length c) o wr w' l') : ToldEnd p me l w (.returned (.slice A o.length c)) w' := by
  have hlen := hs.perm.length_eq
  refine ⟨A, c, l', by rw [hlen], ?_, ⟨?_, fun x hx => ?_⟩, Below.grown hok hs.grown hok.size (fun g e => Nat.le_trans hK (row_far22 hO.row g e))⟩
  · refine Gate.told_sorted ?_ ?_
    · rw [← hpk]; exact hs.perm.map _
    · rw [List.pairwise_map]; exact hs.up
  · rw [hlen]; exact row_low19 hs.row hK
  · exact (show TabRow K w' x.A x.cap x.m.table from row_other22 (hO.tabs x (hs.perm.mem_iff.1 hx)) hO.row (by decide) hs.grown).mono hK
set_option maxHeartbeats 6400000 in
theorem gateTold (p : Par) (me : Int) (B : Option Addr) (l : List HA) (cap : Nat) (w : World) (hB : HeardsAt w B l) (hl : l.length ≤ 1000) (hf : ∀ x ∈ l, x.m.table.length ≤ 8796093022208) :
    Calls Tryz.prog 120 #[parV p, .int .i64 me, .slice B l.length cap] w (ToldEnd p me l w) := by
  have HB := Lib.hid hB
  have HF := Lib.hid hf
  clear hB hf
  have hz : ∀ w, Sem.run Tryz.prog (zeroValue 187) w = .ok (.agg (saidC [])) w := fun w => by kernel_rfl
  have hP := (Own.new w (parCells p) 23 rfl).alloc (.cells (saidC []) 187)
  have hS := Own.new (w.alloc (.cells (parCells p) 23)) (saidC []) 187 (g := w.heap.size + 1) (by simp)
  have hok := ((Ok.refl w).alloc (.cells (parCells p) 23)).alloc (.cells (saidC []) 187)
  go_enter Tryz.func120, Tryz.ntmps120
  go_upto_region 3 with fail
  change Code.wp _ _ _ _ ((w.alloc (.cells (parCells p) 23)).alloc (.cells (saidC []) 187))
  generalize (w.alloc (.cells (parCells p) 23)).alloc (.cells (saidC []) 187) = W at hP hS hok ⊢
  obtain ⟨Sd, hSd⟩ : ∃ r, w.heap.size + 1 = r := ⟨_, rfl⟩
  obtain ⟨Bp, hBp⟩ : ∃ r, w.heap.size = r := ⟨_, rfl⟩
  have HW : Hid (w.heap.size ≤ Sd ∧ Bp ≠ Sd ∧ w.heap.size ≤ Bp) := Lib.hid ⟨by omega, by omega, by omega⟩
  have HP0 : Hid (Bp < Sd) := Lib.hid (by omega)
  rw [hSd] at hS
  rw [hBp] at hP
  rw [hSd, hBp]
  clear hSd hBp hz
  go_wp2_with fail
  go_loopw [7, 13] (fun v i wr => ∃ (k : Nat) (o : List HA), k ≤ l.length ∧ i = .int .i64 k ∧ Hid (o.map HA.hd = Gate.pick p me ((l.take k).map HA.hd)) ∧ Own wr Bp (parCells p) ∧ Own wr Sd (saidC (o.map HA.hd)) ∧ Outs (Sd + 1) wr v o ∧ Ok w wr) (fun _ i _ => l.length - (intOf i).toNat)
  case atStart => exact ⟨0, [], Nat.zero_le _, rfl, Lib.hid rfl, hP, hS, Outs.nil _ _, hok⟩
  case round =>
    clear hP hS hok
    obtain ⟨k, o, hk, rfl, hpk, hP, hS, hO, hok⟩ := hrel
    by_cases hlt : k < l.length
    · obtain ⟨b, off, hB2, hb, hcx⟩ := (HB.out.below hok).nthAt k hlt
      obtain ⟨x, hx⟩ : ∃ x, l[k] = x := ⟨_, rfl⟩
      have hxm : x ∈ l := hx ▸ List.getElem_mem hlt
      have HX := Lib.hid fun W' (j : Ok w W') => (HB.out.tabs x hxm).below j
      have HXL := Lib.hid (HF.out x hxm)
      have HPK : Hid (Gate.pick p me ((l.take (k + 1)).map HA.hd) = Gate.pick1 p me (o.map HA.hd) x.hd) := Lib.hid (by rw [List.take_succ_eq_append_getElem hlt, hx, List.map_append, hpk.out]; exact Gate.pick_snoc _ _ _ _)
      have HOL : Hid (o.length ≤ 16) := Lib.hid (by
        have := (Gate.pick_few p me ((l.take k).map HA.hd)).1
        rw [← hpk.out, List.length_map] at this
        exact this)
      obtain ⟨t0, t1, t2, t3, t4, t5, t6, t7, t8, t9, t10, t11, t12, t13, t14⟩ := hcx x hx
      subst hB2
      clear hcx hx hxm hpk
      have hSZ := hS.lt
      have hPZ := hP.lt
      have hon := Only.refl Sd wr
      go_upto_region 6 with fail
      clear t0 t1 t2 t3 t4 t5 t6 t7 t8 t9 t10 t11 t12 t13 t14 hb
      have hZ := Own.new wr #[.int .i64 x.m.kind, .int .i64 x.m.frm, .int .i64 x.m.lo, .int .i64 x.m.hi, .int .i64 x.m.held, .int .i64 x.m.hops, .bool x.m.good, .bool x.m.ref, .int .i64 x.m.slo, .int .i64 x.m.shi, .int .i64 x.m.pulse, .int .i64 x.m.time, .int .i64 x.m.num, .slice x.A x.m.table.length x.cap, .int .i64 x.age] 65 rfl
      replace hP := hP.alloc (.cells #[.int .i64 x.m.kind, .int .i64 x.m.frm, .int .i64 x.m.lo, .int .i64 x.m.hi, .int .i64 x.m.held, .int .i64 x.m.hops, .bool x.m.good, .bool x.m.ref, .int .i64 x.m.slo, .int .i64 x.m.shi, .int .i64 x.m.pulse, .int .i64 x.m.time, .int .i64 x.m.num, .slice x.A x.m.table.length x.cap, .int .i64 x.age] 65)
      replace hS := hS.alloc (.cells #[.int .i64 x.m.kind, .int .i64 x.m.frm, .int .i64 x.m.lo, .int .i64 x.m.hi, .int .i64 x.m.held, .int .i64 x.m.hops, .bool x.m.good, .bool x.m.ref, .int .i64 x.m.slo, .int .i64 x.m.shi, .int .i64 x.m.pulse, .int .i64 x.m.time, .int .i64 x.m.num, .slice x.A x.m.table.length x.cap, .int .i64 x.age] 65)
      replace hon := hon.alloc (.cells #[.int .i64 x.m.kind, .int .i64 x.m.frm, .int .i64 x.m.lo, .int .i64 x.m.hi, .int .i64 x.m.held, .int .i64 x.m.hops, .bool x.m.good, .bool x.m.ref, .int .i64 x.m.slo, .int .i64 x.m.shi, .int .i64 x.m.pulse, .int .i64 x.m.time, .int .i64 x.m.num, .slice x.A x.m.table.length x.cap, .int .i64 x.age] 65)
      replace hok := hok.alloc (.cells #[.int .i64 x.m.kind, .int .i64 x.m.frm, .int .i64 x.m.lo, .int .i64 x.m.hi, .int .i64 x.m.held, .int .i64 x.m.hops, .bool x.m.good, .bool x.m.ref, .int .i64 x.m.slo, .int .i64 x.m.shi, .int .i64 x.m.pulse, .int .i64 x.m.time, .int .i64 x.m.num, .slice x.A x.m.table.length x.cap, .int .i64 x.age] 65)
      change Code.wp _ _ _ _ (wr.alloc (.cells #[.int .i64 x.m.kind, .int .i64 x.m.frm, .int .i64 x.m.lo, .int .i64 x.m.hi, .int .i64 x.m.held, .int .i64 x.m.hops, .bool x.m.good, .bool x.m.ref, .int .i64 x.m.slo, .int .i64 x.m.shi, .int .i64 x.m.pulse, .int .i64 x.m.time, .int .i64 x.m.num, .slice x.A x.m.table.length x.cap, .int .i64 x.age] 65))
      generalize wr.alloc (.cells #[.int .i64 x.m.kind, .int .i64 x.m.frm, .int .i64 x.m.lo, .int .i64 x.m.hi, .int .i64 x.m.held, .int .i64 x.m.hops, .bool x.m.good, .bool x.m.ref, .int .i64 x.m.slo, .int .i64 x.m.shi, .int .i64 x.m.pulse, .int .i64 x.m.time, .int .i64 x.m.num, .slice x.A x.m.table.length x.cap, .int .i64 x.age] 65) = W3 at hZ hP hS hon hok ⊢
      obtain ⟨Z, hZe⟩ : ∃ r, wr.heap.size = r := ⟨_, rfl⟩
      rw [hZe] at hZ hSZ hPZ
      rw [hZe]
      have HZ : Hid (wr.heap.size ≤ Z ∧ Sd ≠ Z ∧ Bp ≠ Z ∧ w.heap.size ≤ Z) := Lib.hid ⟨by omega, by omega, by omega, by have := HW.out.1; omega⟩
      clear hZe hSZ hPZ
      obtain ⟨c0, c1, c2, c3, c4, c5, c6, c7, c8, c9, c10, c11⟩ := hP.pars; have hPl := hP.lt
      have z0 := hZ.cell 0 rfl
      have z1 := hZ.cell 1 rfl
      have z2 := hZ.cell 2 rfl
      have z3 := hZ.cell 3 rfl
      have z4 := hZ.cell 4 rfl
      have z5 := hZ.cell 5 rfl
      have z6 := hZ.cell 6 rfl
      have z7 := hZ.cell 7 rfl
      have z8 := hZ.cell 8 rfl
      have z9 := hZ.cell 9 rfl
      have z10 := hZ.cell 10 rfl
      have z11 := hZ.cell 11 rfl
      have z12 := hZ.cell 12 rfl
      have z13 := hZ.cell 13 rfl
      have hZl := hZ.lt
      obtain ⟨R, hR⟩ : ∃ b, Gate.other p me x.hd = b := ⟨_, rfl⟩
      have KO : Hid (∀ W, Calls Tryz.prog 150 #[parV p, .int .i64 me, .agg #[.int .i64 x.m.kind, .int .i64 x.m.frm, .int .i64 x.m.lo, .int .i64 x.m.hi, .int .i64 x.m.held, .int .i64 x.m.hops, .bool x.m.good, .bool x.m.ref, .int .i64 x.m.slo, .int .i64 x.m.shi, .int .i64 x.m.pulse, .int .i64 x.m.time, .int .i64 x.m.num, .slice x.A x.m.table.length x.cap]] W fun e w' => e = .returned (.bool R) ∧ Ok W w') := Lib.hid fun W => by rw [← hR]; exact gateOthers p me x.m x.age x.A x.cap W
      cases R with
      | false =>
        have HE : Hid (o.map HA.hd = Gate.pick p me ((l.take (k + 1)).map HA.hd)) := Lib.hid (by rw [HPK.out]; unfold Gate.pick1; rw [hR, if_neg (by simp)])
        clear hR HPK
        go_wp2_with (go_at_call 150; refine (KO.out _).mono ?_; rintro e w4 ⟨rfl, hb1⟩; clear c0 c1 c2 c3 c4 c5 c6 c7 c8 c9 c10 c11 hPl z0 z1 z2 z3 z4 z5 z6 z7 z8 z9 z10 z11 z12 z13 hZl; replace hP := hP.next hb1; replace hS := hS.next hb1; replace hon := hon.ok hb1; replace hok := hok.trans hb1; clear hb1 hZ)
        go_roundw
        case rel => exact ⟨k + 1, o, hlt, by go_num, HE, hP, hS, hO.only hon (Nat.lt_succ_self _), hok⟩
        case measure => simp [intOf]; omega
      | true =>
        obtain ⟨j, hj16, hjx⟩ : ∃ j : Nat, j < 16 ∧ x.m.frm = j := by
          have h := of_decide_eq_true hR
          have h1 := h.2.1
          have h2 := h.2.2.2.1
          simp only [HA.hd] at h1 h2
          exact ⟨x.m.frm.toNat, by omega, by omega⟩
        have HJX := Lib.hid hjx
        have hj16' : (j : Int) < 16 := by omega
        rw [hjx] at z1 KO
        obtain ⟨sb, hsb⟩ : ∃ b, Gate.said (o.map HA.hd) (j : Int) = b := ⟨_, rfl⟩
        have HSC : Hid ((saidC (o.map HA.hd))[j]? = some (.bool sb)) := Lib.hid (by rw [saidC_at _ _ hj16, hsb])
        clear hjx
        cases sb with
        | true =>
          have HE : Hid (o.map HA.hd = Gate.pick p me ((l.take (k + 1)).map HA.hd)) := Lib.hid (by rw [HPK.out]; unfold Gate.pick1; rw [show x.hd.m.frm = (j : Int) from HJX.out, hsb, if_neg (by simp)])
          clear hR HPK hsb
          go_wp2_with (go_at_call 150; refine (KO.out _).mono ?_; rintro e w4 ⟨rfl, hb1⟩; clear c0 c1 c2 c3 c4 c5 c6 c7 c8 c9 c10 c11 hPl z0 z1 z2 z3 z4 z5 z6 z7 z8 z9 z10 z11 z12 z13 hZl; replace hP := hP.next hb1; replace hS := hS.next hb1; replace hZ := hZ.next hb1; replace hon := hon.ok hb1; replace hok := hok.trans hb1; clear hb1; have z1 := hZ.cell 1 (v := .int .i64 (j : Int)) (by rw [← HJX.out]; rfl); have hZl := hZ.lt; have sc := hS.cell j HSC.out; have hSl := hS.lt)
          clear z1 hZl sc hSl
          go_roundw
          case rel => exact ⟨k + 1, o, hlt, by go_num, HE, hP, hS, hO.only hon (Nat.lt_succ_self _), hok⟩
          case measure => simp [intOf]; omega
        | false =>
          have HE : Hid (o.map HA.hd ++ [x.hd] = Gate.pick p me ((l.take (k + 1)).map HA.hd)) := Lib.hid (by rw [HPK.out]; unfold Gate.pick1; rw [show x.hd.m.frm = (j : Int) from HJX.out, hsb, hR, if_pos ⟨rfl, rfl⟩])
          clear hR HPK hsb
          go_upto_region 7 with (go_at_call 150; refine (KO.out _).mono ?_; rintro e w4 ⟨rfl, hb1⟩; clear c0 c1 c2 c3 c4 c5 c6 c7 c8 c9 c10 c11 hPl z0 z1 z2 z3 z4 z5 z6 z7 z8 z9 z10 z11 z12 z13 hZl; replace hP := hP.next hb1; replace hS := hS.next hb1; replace hZ := hZ.next hb1; replace hon := hon.ok hb1; replace hok := hok.trans hb1; clear hb1; have z1 := hZ.cell 1 (v := .int .i64 (j : Int)) (by rw [← HJX.out]; rfl); have hZl := hZ.lt; have sc := hS.cell j HSC.out; have hSl := hS.lt)
          have scf := hS.frozen j
          go_upto_region 8 with fail
          clear z1 hZl sc hSl scf
          replace hS := hS.set j (.bool true)
          rw [saidC_set (o.map HA.hd) x.hd j hj16 HJX.out] at hS
          replace hP := hP.setOther (a := ⟨Sd, j, none⟩) HW.out.2.1 (.bool true)
          replace hZ := hZ.setOther (a := ⟨Sd, j, none⟩) (show Z ≠ Sd from Ne.symm HZ.out.2.1) (.bool true)
          replace hon := hon.setR j (.bool true)
          replace hok := hok.setCell (p := ⟨Sd, j, none⟩) HW.out.1 (.bool true)
          change Code.wp _ _ _ _ (w4.setCell ⟨Sd, j, none⟩ (.bool true))
          generalize w4.setCell ⟨Sd, j, none⟩ (.bool true) = W5 at hS hP hZ hon hok ⊢
          have HZS := Lib.hid (And.intro hZ.lt hS.lt)
          have z13 := hZ.cell 13 rfl
          have hZl := hZ.lt
          go_upto_region 9 with (go_at_call 83; refine (cloneRow _ _ _ _ (HX.out _ hok) HXL.out).mono ?_; rintro e w6 ⟨v6, rfl, hrow, hb1⟩; clear z13 hZl; replace hP := hP.next hb1; replace hS := hS.next hb1; replace hZ := hZ.next hb1; replace hon := hon.ok hb1; replace hok := hok.trans hb1; clear hb1; obtain ⟨A5, c5, rfl, -⟩ := PairsAt.of_own hrow; have z13 := hZ.cell 13 rfl; have hZl := hZ.lt; have z13f := hZ.frozen 13)
          clear z13 hZl z13f
          have hT : TabRow (Sd + 1) _ A5 c5 x.m.table := (TabRow.set (show TabRow W5.heap.size w6 A5 c5 x.m.table from hrow) (p := ⟨Z, 13, none⟩) HZS.out.1 (.slice A5 x.m.table.length c5)).mono HZS.out.2
          replace hZ := hZ.set 13 (.slice A5 x.m.table.length c5)
          change Own _ Z #[.int .i64 x.m.kind, .int .i64 x.m.frm, .int .i64 x.m.lo, .int .i64 x.m.hi, .int .i64 x.m.held, .int .i64 x.m.hops, .bool x.m.good, .bool x.m.ref, .int .i64 x.m.slo, .int .i64 x.m.shi, .int .i64 x.m.pulse, .int .i64 x.m.time, .int .i64 x.m.num, .slice A5 x.m.table.length c5, .int .i64 x.age] at hZ
          replace hS := hS.setOther (a := ⟨Z, 13, none⟩) HZ.out.2.1 (.slice A5 x.m.table.length c5)
          replace hP := hP.setOther (a := ⟨Z, 13, none⟩) HZ.out.2.2.1 (.slice A5 x.m.table.length c5)
          replace hon := hon.setN HZ.out.1 13 (.slice A5 x.m.table.length c5)
          replace hok := hok.setCell (p := ⟨Z, 13, none⟩) HZ.out.2.2.2 (.slice A5 x.m.table.length c5)
          change Code.wp _ _ _ _ (w6.setCell ⟨Z, 13, none⟩ (.slice A5 x.m.table.length c5))
          generalize w6.setCell ⟨Z, 13, none⟩ (.slice A5 x.m.table.length c5) = W7 at hT hZ hS hP hon hok ⊢
          replace hO := hO.only hon (Nat.lt_succ_self _)
          have hSl := Lib.hid hS.lt
          have HR := Lib.hid (row_far22 hO.row)
          clear hon hrow
          have z0 := hZ.cell 0 rfl
          have z1 := hZ.cell 1 rfl
          have z2 := hZ.cell 2 rfl
          have z3 := hZ.cell 3 rfl
          have z4 := hZ.cell 4 rfl
          have z5 := hZ.cell 5 rfl
          have z6 := hZ.cell 6 rfl
          have z7 := hZ.cell 7 rfl
          have z8 := hZ.cell 8 rfl
          have z9 := hZ.cell 9 rfl
          have z10 := hZ.cell 10 rfl
          have z11 := hZ.cell 11 rfl
          have z12 := hZ.cell 12 rfl
          have z13 := hZ.cell 13 rfl
          have z14 := hZ.cell 14 rfl
          have hZl := hZ.lt
          go_upto_region 10 with (at_builtin; go_loud (refine wpList_append_heard rfl _ _ rfl (Sd + 1) _ o o.length rfl (World.ownsRow.alloc hO.row _) _ (⟨x.m, A5, c5, x.age⟩ : HA) rfl (Own.new _ _ _ rfl) (by have := HOL.out; omega) (by have := hSl.out; simp; omega) ?_; intro v8 w8 hown hgrow; obtain ⟨A8, m8, q8, rfl⟩ := row_slice22 hown))
          clear z0 z1 z2 z3 z4 z5 z6 z7 z8 z9 z10 z11 z12 z13 z14 hZl
          have hP8 := own_grown22t (hP.alloc _) hgrow (fun e => by have := HR.out _ e; have := HP0.out; omega)
          have hS8 := own_grown22t (hS.alloc _) hgrow (fun e => by have := HR.out _ e; omega)
          have hO8 : Outs (Sd + 1) w8 (.slice A8 m8 q8) (o ++ [⟨x.m, A5, c5, x.age⟩]) := ⟨by rw [List.length_append]; exact hown, fun y hy => by
            rcases List.mem_append.1 hy with hy | hy
            · exact row_other22 (World.ownsRow.alloc (hO.tabs y hy) _) (World.ownsRow.alloc hO.row _) (by decide) hgrow
            · rw [List.mem_singleton] at hy; subst hy; exact row_other22 (World.ownsRow.alloc hT _) (World.ownsRow.alloc hO.row _) (by decide) hgrow⟩
          have hok8 := Below.grown (hok.alloc _) hgrow (hok.alloc _).size (fun g e => by have := HR.out _ e; have := HW.out.1; omega)
          clear hP hS hO hok hT hZ hown hgrow
          go_wp2_with fail
          go_roundw
          case rel => exact ⟨k + 1, o ++ [⟨x.m, A5, c5, x.age⟩], hlt, by go_num, Lib.hid (by rw [List.map_append]; exact HE.out), hP8, by rw [List.map_append]; exact hS8, hO8, hok8⟩
          case measure => simp [intOf]; omega
    · have hkl : k = l.length := by omega
      subst hkl
      rw [List.take_length] at hpk
      have HOL : Hid (o.length ≤ 16) := Lib.hid (by
        have := (Gate.pick_few p me (l.map HA.hd)).1
        rw [← hpk.out, List.length_map] at this
        exact this)
      obtain ⟨A, c, rfl, -⟩ := heards_of_row rfl hO.row (fun x hx => ((hO.tabs x hx).pairs).1)
      have HOO := Lib.hid hO
      clear hO hP hS hlt hk
      go_wp2_with (go_at_call 151; refine (toldSort HOO.out.row (by have := HOL.out; omega)).mono ?_; rintro e w9 ⟨rfl, l', hs⟩)
      go_ret
      exact told_end (by have := HW.out.1; omega) hpk.out HOO.out hok hs
end Go.Proofs.YtmokofblmkeloaaGreatDoor
