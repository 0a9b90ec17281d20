import Derived.Test.YtmokofblmkeloaaGreatDoorC23a
import Derived.Test.YtmokofblmkeloaaGreatDoorP35
namespace Go.Proofs.YtmokofblmkeloaaGreatDoor
open Go.RowKit Go.Maps
set_option linter.unusedVariables false
set_option maxRecDepth 100000
attribute [local go_sem ↓] Go.wp_at_zero Go.wp_at_succ
/-- What is read lies in no map. -/
theorem TabM.cell_ne {w : World} {t b : Nat} {f : NF} (h : TabM w t b f) {x off : Nat} {v : Value} (hc : w.cell? ⟨x, off, none⟩ = some v) : x ≠ b := by
  rintro rfl
  obtain ⟨D, ⟨es, clock, e2, -⟩, -⟩ := h.map
  simp only [World.cell?, e2] at hc
  cases hc
theorem TabM.pairs_keep {w w1 : World} {t b : Nat} {f : NF} (h : TabM w t b f) (k : Only b w w1) {A : Option Addr} {l : List (Int × Int)} (hA : PairsAt w A l) : PairsAt w1 A l := fun j hj => by
  obtain ⟨x, off, e, hlt, hc, hd⟩ := hA j hj
  have hx := k.block x hlt (h.cell_ne hc)
  exact ⟨x, off, e, Nat.lt_of_lt_of_le hlt k.size, (World.cell?_of_block (a := ⟨x, off + j * 2, none⟩) hx).trans hc, (World.cell?_of_block (a := ⟨x, off + j * 2 + 1, none⟩) hx).trans hd⟩
theorem TabM.heards_keep {w w1 : World} {t b : Nat} {f : NF} (h : TabM w t b f) (k : Only b w w1) {A : Option Addr} {l : List HA} (hA : HeardsAt w A l) : HeardsAt w1 A l := ⟨fun j u hj => by
  obtain ⟨x, off, e, hlt, hc⟩ := hA.cells j u hj
  exact ⟨x, off, e, Nat.lt_of_lt_of_le hlt k.size, (World.cell?_of_block (a := ⟨x, off + j, none⟩) (k.block x hlt (h.cell_ne hc))).trans hc⟩, fun x hx => h.pairs_keep k (hA.tabs x hx)⟩
theorem NodeAt.grow {w w1 : World} {G t b : Nat} {me : Int} {p : Par} {s : Sta} {A : Option Addr} {cap : Nat} {f : NF} {row : Option Nat} (h : NodeAt w G t b me p s A cap f) (hg : w.grownBy w1 row) (hr : ∀ k, row = some k → G ≠ k ∧ t ≠ k ∧ b ≠ k) : NodeAt w1 G t b me p s A cap f := by
  cases row with
  | none =>
    have hl := h.lt
    exact h.only (r := w.heap.size) (Only.grow (Only.refl _ w) hg (fun k e => by cases e)) (by omega) (by omega) (by omega)
  | some k =>
    obtain ⟨h1, h2, h3⟩ := hr k rfl
    exact h.only (r := k) (Only.grow (Only.refl k w) hg (fun j e => .inl (by cases e; rfl))) h1 h2 h3
/-- What known leaves: what counts, in a row of one's own; the neighbours have changed. -/
def KnownEnd (G t b : Nat) (me : Int) (p : Par) (s : Sta) (A : Option Addr) (cap : Nat) (f : NF) (l : List HA) (w : World) (e : Ending) (w' : World) : Prop :=
  ∃ (C : Option Addr) (c : Nat), e = .returned (.slice C (Nod.known HA.hd me f l).1.length c) ∧ HRow w.heap.size w' (.slice C (Nod.known HA.hd me f l).1.length c) (Nod.known HA.hd me f l).1 ∧ HeardsAt w' C (Nod.known HA.hd me f l).1 ∧ NodeAt w' G t b me p s A cap (Nod.known HA.hd me f l).2 ∧ Only b w w'
theorem known_end {G t b : Nat} {me : Int} {p : Par} {s : Sta} {A : Option Addr} {cap : Nat} {f f' : NF} {l o : List HA} {w wr : World} {C : Option Addr} {c : Nat} (hK : (o, f') = Nod.known HA.hd me f l) (hr : HRow w.heap.size wr (.slice C o.length c) o) (hH : HeardsAt wr C o) (hN : NodeAt wr G t b me p s A cap f') (hon : Only b w wr) : KnownEnd G t b me p s A cap f l w (.returned (.slice C o.length c)) wr := by
  unfold KnownEnd
  rw [← hK]
  exact ⟨C, c, rfl, hr, hH, hN, hon⟩
set_option maxHeartbeats 6400000 in
theorem nodeKnown (G t b : Nat) (me : Int) (p : Par) (s : Sta) (A : Option Addr) (cap : Nat) (f : NF) (B : Option Addr) (l : List HA) (c : Nat) (w : World) (hN : NodeAt w G t b me p s A cap f) (hB : HeardsAt w B l) (hl : l.length ≤ 1000) (hw : ∀ x ∈ l, (Lit.int .i64 x.m.frm).wf = true) :
    Calls Tryz.prog 30 #[.pointer (some ⟨G, 0, none⟩), .slice B l.length c] w (KnownEnd G t b me p s A cap f l w) := by
  have q1 := makeFn23
  have HB := Lib.hid fun W (k : Only b w W) => hN.tab.heards_keep k hB
  have HW := Lib.hid hw
  have HL := Lib.hid hl
  have hon := Only.refl b w
  have HBW : Hid (G < w.heap.size ∧ t < w.heap.size ∧ b < w.heap.size) := Lib.hid hN.lt
  clear hB hw
  go_enter Tryz.func30, Tryz.ntmps30
  go_wp2_with fail
  go_loopw [5, 11] (fun v i wr => ∃ (k : Nat) (o : List HA) (f' : NF), k ≤ l.length ∧ i = .int .i64 k ∧ Hid ((o, f') = Nod.known HA.hd me f (l.take k)) ∧ HRow w.heap.size wr v o ∧ NodeAt wr G t b me p s A cap f' ∧ Only b w wr) (fun _ i _ => l.length - (intOf i).toNat)
  case atStart => exact ⟨0, [], f, Nat.zero_le _, rfl, Lib.hid rfl, World.ownsRow_nil _ _ _ _, hN, hon⟩
  case round =>
    clear hN hon
    obtain ⟨k, o, f', hk, rfl, hK, hO, hN, hon⟩ := hrel
    have HT : Hid (∀ y ∈ o, PairsAt wr y.A y.m.table) := Lib.hid fun y hy => (HB.out _ hon).tabs y (List.mem_of_mem_take (Nod.known_mem HA.hd (me := me) (f := f) (l := l.take k) (by rw [← hK.out]; exact hy)))
    have HOL : Hid (o.length ≤ 1000) := Lib.hid (by
      have h1 := Nod.known_len HA.hd me f (l.take k)
      rw [← hK.out] at h1
      have h2 : (l.take k).length ≤ l.length := by rw [List.length_take]; omega
      simp only at h1
      omega)
    by_cases hlt : k < l.length
    · obtain ⟨b2, off, hB2, hb, hcx⟩ := (HB.out _ hon).nthAt k hlt
      obtain ⟨x, hx⟩ : ∃ x, l[k] = x := ⟨_, rfl⟩
      have hxm : x ∈ l := hx ▸ List.getElem_mem hlt
      have HX := Lib.hid fun W' (j : Only b w W') => (HB.out _ j).tabs x hxm
      have HXW := Lib.hid (HW.out x hxm)
      have HK1 : Hid (Nod.known HA.hd me f (l.take (k + 1)) = Nod.known1 HA.hd me (o, f') x) := Lib.hid (by rw [List.take_succ_eq_append_getElem hlt, hx, Nod.known_snoc, ← hK.out])
      obtain ⟨t0, t1, t2, t3, t4, t5, t6, t7, t8, t9, t10, t11, t12, t13, t14⟩ := hcx x hx
      subst hB2
      clear hcx hx hxm hK
      have hNZ := hN.lt
      have hwz := hon.size
      go_upto_region 5 with fail
      clear t0 t1 t2 t3 t4 t5 t6 t7 t8 t9 t10 t11 t12 t13 t14 hb
      have hZ := Own.new wr #[.int .i64 x.m.kind, .int .i64 x.m.frm, .int .i64 x.m.lo, .int .i64 x.m.hi, .int .i64 x.m.held, .int .i64 x.m.hops, .bool x.m.good, .bool x.m.ref, .int .i64 x.m.slo, .int .i64 x.m.shi, .int .i64 x.m.pulse, .int .i64 x.m.time, .int .i64 x.m.num, .slice x.A x.m.table.length x.cap, .int .i64 x.age] 65 rfl
      replace hN := hN.alloc (.cells #[.int .i64 x.m.kind, .int .i64 x.m.frm, .int .i64 x.m.lo, .int .i64 x.m.hi, .int .i64 x.m.held, .int .i64 x.m.hops, .bool x.m.good, .bool x.m.ref, .int .i64 x.m.slo, .int .i64 x.m.shi, .int .i64 x.m.pulse, .int .i64 x.m.time, .int .i64 x.m.num, .slice x.A x.m.table.length x.cap, .int .i64 x.age] 65)
      replace hon := hon.alloc (.cells #[.int .i64 x.m.kind, .int .i64 x.m.frm, .int .i64 x.m.lo, .int .i64 x.m.hi, .int .i64 x.m.held, .int .i64 x.m.hops, .bool x.m.good, .bool x.m.ref, .int .i64 x.m.slo, .int .i64 x.m.shi, .int .i64 x.m.pulse, .int .i64 x.m.time, .int .i64 x.m.num, .slice x.A x.m.table.length x.cap, .int .i64 x.age] 65)
      replace hO := World.ownsRow.alloc hO (.cells #[.int .i64 x.m.kind, .int .i64 x.m.frm, .int .i64 x.m.lo, .int .i64 x.m.hi, .int .i64 x.m.held, .int .i64 x.m.hops, .bool x.m.good, .bool x.m.ref, .int .i64 x.m.slo, .int .i64 x.m.shi, .int .i64 x.m.pulse, .int .i64 x.m.time, .int .i64 x.m.num, .slice x.A x.m.table.length x.cap, .int .i64 x.age] 65)
      have hT := fun y hy => (HT.out y hy).below ((Ok.refl wr).alloc (.cells #[.int .i64 x.m.kind, .int .i64 x.m.frm, .int .i64 x.m.lo, .int .i64 x.m.hi, .int .i64 x.m.held, .int .i64 x.m.hops, .bool x.m.good, .bool x.m.ref, .int .i64 x.m.slo, .int .i64 x.m.shi, .int .i64 x.m.pulse, .int .i64 x.m.time, .int .i64 x.m.num, .slice x.A x.m.table.length x.cap, .int .i64 x.age] 65))
      change Code.wp _ _ _ _ (wr.alloc (.cells #[.int .i64 x.m.kind, .int .i64 x.m.frm, .int .i64 x.m.lo, .int .i64 x.m.hi, .int .i64 x.m.held, .int .i64 x.m.hops, .bool x.m.good, .bool x.m.ref, .int .i64 x.m.slo, .int .i64 x.m.shi, .int .i64 x.m.pulse, .int .i64 x.m.time, .int .i64 x.m.num, .slice x.A x.m.table.length x.cap, .int .i64 x.age] 65))
      generalize wr.alloc (.cells #[.int .i64 x.m.kind, .int .i64 x.m.frm, .int .i64 x.m.lo, .int .i64 x.m.hi, .int .i64 x.m.held, .int .i64 x.m.hops, .bool x.m.good, .bool x.m.ref, .int .i64 x.m.slo, .int .i64 x.m.shi, .int .i64 x.m.pulse, .int .i64 x.m.time, .int .i64 x.m.num, .slice x.A x.m.table.length x.cap, .int .i64 x.age] 65) = W3 at hZ hN hon hO hT ⊢
      obtain ⟨Z, hZe⟩ : ∃ r, wr.heap.size = r := ⟨_, rfl⟩
      rw [hZe] at hZ hNZ hwz
      rw [hZe]
      have HZ : Hid (w.heap.size ≤ Z ∧ G ≠ Z ∧ t ≠ Z ∧ b ≠ Z) := Lib.hid ⟨by omega, by omega, by omega, by omega⟩
      clear hZe hNZ hwz HT
      obtain ⟨C, d, rfl, hH⟩ := heards_of_row rfl hO hT
      have KC := Lib.hid (containsKnown x Z C o d W3 hZ hH (by have := HOL.out; omega))
      clear hH hT
      obtain ⟨sd, hsd⟩ : ∃ y, Nod.said HA.hd o x.m.frm = y := ⟨_, rfl⟩
      rw [hsd] at KC
      cases sd with
      | true =>
        have HE : Hid ((o, f') = Nod.known HA.hd me f (l.take (k + 1))) := Lib.hid (by rw [HK1.out, Nod.known1_eq, if_pos (show Nod.said HA.hd (o, f').1 x.hd.m.frm = true from hsd)])
        clear hsd HK1
        go_wp2_with (go_at_call 67; (with_reducible refine (KC.out).mono ?_); rintro e w4 ⟨rfl, hb1⟩; replace hN := hN.next hb1; replace hon := hon.ok hb1; replace hO := row_next19 hO hb1; clear hb1 hZ KC)
        go_roundw
        case rel => exact ⟨k + 1, o, f', hlt, by go_num, HE, hO, hN, hon⟩
        case measure => simp [intOf]; omega
      | false =>
        have HE0 : Hid (Nod.known HA.hd me f (l.take (k + 1)) = (if Nod.takes me f' x.m = true then o ++ [x] else o, Nod.heardOf me f' x.m)) := Lib.hid (by rw [HK1.out, Nod.known1_eq, if_neg (by show ¬ Nod.said HA.hd o x.m.frm = true; rw [hsd]; simp)]; rfl)
        clear hsd HK1
        obtain ⟨R, hR⟩ : ∃ y, Nod.takes me f' x.m = y := ⟨_, rfl⟩
        obtain ⟨f2, hf2⟩ : ∃ y, Nod.heardOf me f' x.m = y := ⟨_, rfl⟩
        have KN : Hid (∀ W, NodeAt W G t b me p s A cap f' → Calls Tryz.prog 69 #[.pointer (some ⟨G, 0, none⟩), .agg #[.int .i64 x.m.kind, .int .i64 x.m.frm, .int .i64 x.m.lo, .int .i64 x.m.hi, .int .i64 x.m.held, .int .i64 x.m.hops, .bool x.m.good, .bool x.m.ref, .int .i64 x.m.slo, .int .i64 x.m.shi, .int .i64 x.m.pulse, .int .i64 x.m.time, .int .i64 x.m.num, .slice x.A x.m.table.length x.cap]] W fun e w' => e = .returned (.bool R) ∧ Only b W w' ∧ NodeAt w' G t b me p s A cap f2) := Lib.hid fun W h => by
          have k := nodeKnows G t b me p s A cap f' x.m x.A x.cap W h HXW.out
          rw [hR, hf2] at k
          exact k
        rw [hR, hf2] at HE0
        clear hR hf2
        cases R with
        | false =>
          have HE : Hid ((o, f2) = Nod.known HA.hd me f (l.take (k + 1))) := Lib.hid (by rw [HE0.out, if_neg (by simp)])
          clear HE0
          go_wp2_with (first | (go_at_call 67; (with_reducible refine (KC.out).mono ?_); rintro e w4 ⟨rfl, hb1⟩; replace hN := hN.next hb1; replace hon := hon.ok hb1; replace hO := row_next19 hO hb1; replace hZ := hZ.next hb1; clear hb1 KC; have z0 := hZ.cell 0 rfl; have z1 := hZ.cell 1 rfl; have z2 := hZ.cell 2 rfl; have z3 := hZ.cell 3 rfl; have z4 := hZ.cell 4 rfl; have z5 := hZ.cell 5 rfl; have z6 := hZ.cell 6 rfl; have z7 := hZ.cell 7 rfl; have z8 := hZ.cell 8 rfl; have z9 := hZ.cell 9 rfl; have z10 := hZ.cell 10 rfl; have z11 := hZ.cell 11 rfl; have z12 := hZ.cell 12 rfl; have z13 := hZ.cell 13 rfl; have hZl := hZ.lt) | (go_at_call 69; refine (KN.out _ hN).mono ?_; rintro e w5 ⟨rfl, hb5, hN5⟩; clear z0 z1 z2 z3 z4 z5 z6 z7 z8 z9 z10 z11 z12 z13 hZl; replace hO := row_only_ne hO hb5 (hN.tab.row_ne hO); replace hon := hon.trans hb5; clear hN hb5 hZ KN))
          go_roundw
          case rel => exact ⟨k + 1, o, f2, hlt, by go_num, HE, hO, hN5, hon⟩
          case measure => simp [intOf]; omega
        | true =>
          have HE : Hid ((o ++ [x], f2) = Nod.known HA.hd me f (l.take (k + 1))) := Lib.hid (by rw [HE0.out, if_pos rfl])
          clear HE0
          go_upto_region 7 with (first | (go_at_call 67; (with_reducible refine (KC.out).mono ?_); rintro e w4 ⟨rfl, hb1⟩; replace hN := hN.next hb1; replace hon := hon.ok hb1; replace hO := row_next19 hO hb1; replace hZ := hZ.next hb1; clear hb1 KC; have z0 := hZ.cell 0 rfl; have z1 := hZ.cell 1 rfl; have z2 := hZ.cell 2 rfl; have z3 := hZ.cell 3 rfl; have z4 := hZ.cell 4 rfl; have z5 := hZ.cell 5 rfl; have z6 := hZ.cell 6 rfl; have z7 := hZ.cell 7 rfl; have z8 := hZ.cell 8 rfl; have z9 := hZ.cell 9 rfl; have z10 := hZ.cell 10 rfl; have z11 := hZ.cell 11 rfl; have z12 := hZ.cell 12 rfl; have z13 := hZ.cell 13 rfl; have hZl := hZ.lt) | (go_at_call 69; refine (KN.out _ hN).mono ?_; rintro e w5 ⟨rfl, hb5, hN5⟩; clear z0 z1 z2 z3 z4 z5 z6 z7 z8 z9 z10 z11 z12 z13 hZl; replace hO := row_only_ne hO hb5 (hN.tab.row_ne hO); replace hon := hon.trans hb5; replace hZ := hb5.own hZ (Ne.symm HZ.out.2.2.2); clear hN hb5 KN))
          have z0 := hZ.cell 0 rfl
          have z1 := hZ.cell 1 rfl
          have z2 := hZ.cell 2 rfl
          have z3 := hZ.cell 3 rfl
          have z4 := hZ.cell 4 rfl
          have z5 := hZ.cell 5 rfl
          have z6 := hZ.cell 6 rfl
          have z7 := hZ.cell 7 rfl
          have z8 := hZ.cell 8 rfl
          have z9 := hZ.cell 9 rfl
          have z10 := hZ.cell 10 rfl
          have z11 := hZ.cell 11 rfl
          have z12 := hZ.cell 12 rfl
          have z13 := hZ.cell 13 rfl
          have z14 := hZ.cell 14 rfl
          have hZl := hZ.lt
          have hws := hon.size
          go_upto_region 8 with (at_builtin; go_loud (refine wpList_append_heard rfl _ _ rfl w.heap.size _ o o.length rfl (World.ownsRow.alloc hO _) _ x rfl (Own.new _ _ _ rfl) (by have := HOL.out; omega) (by simp; omega) ?_; intro v8 w8 hown hgrow; obtain ⟨A8, m8, q8, rfl⟩ := row_slice22 hown))
          clear z0 z1 z2 z3 z4 z5 z6 z7 z8 z9 z10 z11 z12 z13 z14 hZl hws
          have hfar := row_far22 hO
          have hN8 : NodeAt w8 G t b me p s A cap f2 := (hN5.alloc _).grow hgrow (fun g e => by have := hfar g e; have := HBW.out; omega)
          have hon8 : Only b w w8 := (hon.alloc _).grow hgrow (fun g e => .inr (hfar g e))
          have hO8 : HRow w.heap.size w8 (.slice A8 m8 q8) (o ++ [x]) := by unfold HRow; rw [List.length_append]; exact hown
          clear hN5 hon hO hown hgrow hfar hZ
          go_wp2_with fail
          go_roundw
          case rel => exact ⟨k + 1, o ++ [x], f2, hlt, by go_num, HE, hO8, hN8, hon8⟩
          case measure => simp [intOf]; omega
    · have hkl : k = l.length := by omega
      subst hkl
      rw [List.take_length] at hK
      obtain ⟨C, d, rfl, hH⟩ := heards_of_row rfl hO HT.out
      clear hlt hk
      go_wp2_with fail
      go_ret
      exact known_end hK.out hO hH hN hon
end Go.Proofs.YtmokofblmkeloaaGreatDoor
