/- GateDoes: for every fabric, number, state and list of inputs, the law answers true: what a gateway tells and holds is the document's; a nil one's. No condition. -/
import Derived.Test.YtmmiboblofopgaaGreatC22b
import Derived.Test.YtmmiboblofopgaaGreatC22h
import Derived.Test.YtmmiboblofopgaaGreatC22k
import Derived.Test.YtmmiboblofopgaaGreatC22t
import Derived.Test.YtmmiboblofopgaaGreatW47
import Derived.Test.YtmmiboblofopgaaGreatB03
import Derived.Test.YtmmiboblofopgaaGreatB14
import Derived.Test.YtmmiboblofopgaaGreatB09
import Derived.Test.YtmmiboblofopgaaGreatWX
import Derived.Deep.CutRange
import Derived.BigQuiet
namespace Go.Proofs.YtmmiboblofopgaaGreat.gateDoes
open Go.ChangeShapes Go.WideShapes Go.ChangeAt Go.RowKit
set_option linter.unusedVariables false
set_option maxRecDepth 100000
attribute [local go_sem ↓] Go.wp_at_zero Go.wp_at_succ
theorem cells15 {w w1 : World} (k : Ok w w1) {b p : Nat} (hb : b < w.heap.size) {v0 v1 v2 v3 v4 v5 v6 v7 v8 v9 v10 v11 v12 v13 v14 : Value} (h : w.cell? ⟨b, p, none⟩ = some v0 ∧ w.cell? ⟨b, p + 1, none⟩ = some v1 ∧ w.cell? ⟨b, p + 2, none⟩ = some v2 ∧ w.cell? ⟨b, p + 3, none⟩ = some v3 ∧ w.cell? ⟨b, p + 4, none⟩ = some v4 ∧ w.cell? ⟨b, p + 5, none⟩ = some v5 ∧ w.cell? ⟨b, p + 6, none⟩ = some v6 ∧ w.cell? ⟨b, p + 7, none⟩ = some v7 ∧ w.cell? ⟨b, p + 8, none⟩ = some v8 ∧ w.cell? ⟨b, p + 9, none⟩ = some v9 ∧ w.cell? ⟨b, p + 10, none⟩ = some v10 ∧ w.cell? ⟨b, p + 11, none⟩ = some v11 ∧ w.cell? ⟨b, p + 12, none⟩ = some v12 ∧ w.cell? ⟨b, p + 13, none⟩ = some v13 ∧ w.cell? ⟨b, p + 14, none⟩ = some v14) : (w1.cell? ⟨b, p, none⟩ = some v0 ∧ w1.cell? ⟨b, p + 1, none⟩ = some v1 ∧ w1.cell? ⟨b, p + 2, none⟩ = some v2 ∧ w1.cell? ⟨b, p + 3, none⟩ = some v3 ∧ w1.cell? ⟨b, p + 4, none⟩ = some v4 ∧ w1.cell? ⟨b, p + 5, none⟩ = some v5 ∧ w1.cell? ⟨b, p + 6, none⟩ = some v6 ∧ w1.cell? ⟨b, p + 7, none⟩ = some v7 ∧ w1.cell? ⟨b, p + 8, none⟩ = some v8 ∧ w1.cell? ⟨b, p + 9, none⟩ = some v9 ∧ w1.cell? ⟨b, p + 10, none⟩ = some v10 ∧ w1.cell? ⟨b, p + 11, none⟩ = some v11 ∧ w1.cell? ⟨b, p + 12, none⟩ = some v12 ∧ w1.cell? ⟨b, p + 13, none⟩ = some v13 ∧ w1.cell? ⟨b, p + 14, none⟩ = some v14) ∧ b < w1.heap.size := by
  obtain ⟨h0, h1, h2, h3, h4, h5, h6, h7, h8, h9, h10, h11, h12, h13, h14⟩ := h
  exact ⟨⟨(k.cell (p := ⟨b, p, none⟩) hb).trans h0, (k.cell (p := ⟨b, p + 1, none⟩) hb).trans h1, (k.cell (p := ⟨b, p + 2, none⟩) hb).trans h2, (k.cell (p := ⟨b, p + 3, none⟩) hb).trans h3, (k.cell (p := ⟨b, p + 4, none⟩) hb).trans h4, (k.cell (p := ⟨b, p + 5, none⟩) hb).trans h5, (k.cell (p := ⟨b, p + 6, none⟩) hb).trans h6, (k.cell (p := ⟨b, p + 7, none⟩) hb).trans h7, (k.cell (p := ⟨b, p + 8, none⟩) hb).trans h8, (k.cell (p := ⟨b, p + 9, none⟩) hb).trans h9, (k.cell (p := ⟨b, p + 10, none⟩) hb).trans h10, (k.cell (p := ⟨b, p + 11, none⟩) hb).trans h11, (k.cell (p := ⟨b, p + 12, none⟩) hb).trans h12, (k.cell (p := ⟨b, p + 13, none⟩) hb).trans h13, (k.cell (p := ⟨b, p + 14, none⟩) hb).trans h14⟩, Nat.lt_of_lt_of_le hb k.size⟩
theorem heards_own {w : World} {K : Nat} {A : Option Addr} {c : Nat} {o : List HA} (h : w.ownsRow K 49 15 (.slice A o.length c) o.length (o.flatMap haL)) (ht : ∀ y ∈ o, PairsAt w y.A y.m.table) : HeardsAt w A o := by
  obtain ⟨A', c', e, hh⟩ := heards_of_row rfl h ht
  cases e
  exact hh
/-- What a round of the law keeps: the gateway's block, the document's state, the numbers. -/
structure DB (Bp G R : Nat) (me : Int) (p : Par) (t : Sta) (A4 A6 : Option Addr) (c4 c6 : Nat) (w : World) : Prop where
  pb : Own w Bp (parCells p)
  g : Own w G (gateCells me p t A4 c4)
  r : Own w R (staCells t A6 c6)
  tg : PairsAt w A4 t.table
  tr : PairsAt w A6 t.table
theorem DB.next {Bp G R : Nat} {me : Int} {p : Par} {t : Sta} {A4 A6 : Option Addr} {c4 c6 : Nat} {w w1 : World} (h : DB Bp G R me p t A4 A6 c4 c6 w) (k : Ok w w1) : DB Bp G R me p t A4 A6 c4 c6 w1 := ⟨h.pb.next k, h.g.next k, h.r.next k, h.tg.below k, h.tr.below k⟩
/-- What each operation leaves. -/
def VMDo7 (G R : Nat) (u : Sta) (A4 A6 : Option Addr) (k4 k6 : Nat) (w : World) (v : Value) : Nat → Prop
  | 0 => v = .pointer (some ⟨G, 0, none⟩)
  | 1 => v = .bool false
  | 2 => v = .bool false
  | 3 => v = .pointer (some ⟨G, 0, none⟩)
  | 4 => v = .pointer (some ⟨G, 0, none⟩)
  | 5 => v = .pointer (some ⟨G, 0, none⟩)
  | 6 => v = .pointer (some ⟨G, 12, none⟩)
  | 7 => v = .agg #[.int .i64 u.lo, .int .i64 u.hi, .int .i64 u.time, .bool u.set, .int .i64 u.held, .int .i64 u.hops, .bool u.good, .slice A4 u.table.length k4, .int .i64 u.st, .int .i64 u.sn, .int .i64 u.life]
  | 8 => v = .agg #[.int .i64 u.lo, .int .i64 u.hi, .int .i64 u.time, .bool u.set, .int .i64 u.held, .int .i64 u.hops, .bool u.good, .slice A6 u.table.length k6, .int .i64 u.st, .int .i64 u.sn, .int .i64 u.life]
  | 9 => v = .bool true
  | 10 => v = .bool false
  | 11 => v = .bool false
  | _ => v = .bool true
/-- It stays so. -/
def VCDo7 (G R : Nat) (u : Sta) (A4 A6 : Option Addr) (k4 k6 : Nat) (i : Nat) (v : Value) (w : World) : Prop := ∀ w', Ok w w' → VMDo7 G R u A4 A6 k4 k6 w' v i
/-- What each operation leaves. -/
def VMDo12 (X : Nat) (p : Par) (me : Int) (x : In) (TL : List Hd) (w : World) (v : Value) : Nat → Prop
  | 0 => v = parV p
  | 1 => v = .int .i64 me
  | 2 => v = .pointer (some ⟨X, 1, none⟩)
  | 3 => v = .slice x.B x.heard.length x.hcap
  | 4 => ∃ (AT : Option Addr) (cT : Nat) (o : List HA), v = .slice AT o.length cT ∧ o.map HA.hd = TL ∧ HeardsAt w AT o
  | 5 => v = parV p
  | 6 => v = .int .i64 me
  | 7 => v = .pointer (some ⟨X, 1, none⟩)
  | 8 => v = .slice x.B x.heard.length x.hcap
  | 9 => ∃ (AT : Option Addr) (cT : Nat) (o : List HA), v = .slice AT o.length cT ∧ o.map HA.hd = TL ∧ HeardsAt w AT o ∧ (∀ y ∈ o, y.m.table.length ≤ 128)
  | _ => v = .bool true
/-- It stays so. -/
def VCDo12 (X : Nat) (p : Par) (me : Int) (x : In) (TL : List Hd) (i : Nat) (v : Value) (w : World) : Prop := ∀ w', Ok w w' → VMDo12 X p me x TL w' v i
/-- What each operation leaves. -/
def VMDo18 (b1 f1 b2 f2 LN q cT cR d1 d2 : Nat) (B1 B2 : Option Addr) (mq : Msg) (ag : Int) (w : World) (v : Value) : Nat → Prop
  | 0 => v = .slice (some ⟨b1, f1, none⟩) LN cT
  | 1 => v = .int .i64 (q : Int)
  | 2 => v = .pointer (some ⟨b1, f1 + q * 15, none⟩)
  | 3 => v = .pointer (some ⟨b1, f1 + q * 15 + 14, none⟩)
  | 4 => v = .int .i64 ag
  | 5 => v = .slice (some ⟨b2, f2, none⟩) LN cR
  | 6 => v = .int .i64 (q : Int)
  | 7 => v = .pointer (some ⟨b2, f2 + q * 15, none⟩)
  | 8 => v = .pointer (some ⟨b2, f2 + q * 15 + 14, none⟩)
  | 9 => v = .int .i64 ag
  | 10 => v = .bool false
  | 11 => v = .bool false
  | 12 => v = .slice (some ⟨b1, f1, none⟩) LN cT
  | 13 => v = .int .i64 (q : Int)
  | 14 => v = .pointer (some ⟨b1, f1 + q * 15, none⟩)
  | 15 => v = .pointer (some ⟨b1, f1 + q * 15, none⟩)
  | 16 => v = .agg #[.int .i64 mq.kind, .int .i64 mq.frm, .int .i64 mq.lo, .int .i64 mq.hi, .int .i64 mq.held, .int .i64 mq.hops, .bool mq.good, .bool mq.ref, .int .i64 mq.slo, .int .i64 mq.shi, .int .i64 mq.pulse, .int .i64 mq.time, .int .i64 mq.num, .slice B1 mq.table.length d1]
  | 17 => v = .slice (some ⟨b2, f2, none⟩) LN cR
  | 18 => v = .int .i64 (q : Int)
  | 19 => v = .pointer (some ⟨b2, f2 + q * 15, none⟩)
  | 20 => v = .pointer (some ⟨b2, f2 + q * 15, none⟩)
  | 21 => v = .agg #[.int .i64 mq.kind, .int .i64 mq.frm, .int .i64 mq.lo, .int .i64 mq.hi, .int .i64 mq.held, .int .i64 mq.hops, .bool mq.good, .bool mq.ref, .int .i64 mq.slo, .int .i64 mq.shi, .int .i64 mq.pulse, .int .i64 mq.time, .int .i64 mq.num, .slice B2 mq.table.length d2]
  | 22 => v = .bool true
  | 23 => v = .bool false
  | 24 => v = .bool false
  | _ => v = .bool true
/-- It stays so. -/
def VCDo18 (b1 f1 b2 f2 LN q cT cR d1 d2 : Nat) (B1 B2 : Option Addr) (mq : Msg) (ag : Int) (i : Nat) (v : Value) (w : World) : Prop := ∀ w', Ok w w' → VMDo18 b1 f1 b2 f2 LN q cT cR d1 d2 B1 B2 mq ag w' v i
/-- What each operation leaves. -/
def VMDo24 (G R M16 M17 : Nat) (t2 : Sta) (A7 A8 A3 A9 : Option Addr) (c7 c8 c3 c9 : Nat) (m : Msg) (w : World) (v : Value) : Nat → Prop
  | 0 => v = .agg #[.int .i64 m.kind, .int .i64 m.frm, .int .i64 m.lo, .int .i64 m.hi, .int .i64 m.held, .int .i64 m.hops, .bool m.good, .bool m.ref, .int .i64 m.slo, .int .i64 m.shi, .int .i64 m.pulse, .int .i64 m.time, .int .i64 m.num, .slice A3 m.table.length c3]
  | 1 => v = .agg #[.int .i64 m.kind, .int .i64 m.frm, .int .i64 m.lo, .int .i64 m.hi, .int .i64 m.held, .int .i64 m.hops, .bool m.good, .bool m.ref, .int .i64 m.slo, .int .i64 m.shi, .int .i64 m.pulse, .int .i64 m.time, .int .i64 m.num, .slice A9 m.table.length c9]
  | 2 => v = .bool true
  | 3 => v = .bool false
  | 4 => v = .bool false
  | 5 => v = .pointer (some ⟨G, 0, none⟩)
  | 6 => v = .pointer (some ⟨G, 0, none⟩)
  | 7 => v = .pointer (some ⟨G, 0, none⟩)
  | 8 => v = .pointer (some ⟨G, 12, none⟩)
  | 9 => v = .agg #[.int .i64 t2.lo, .int .i64 t2.hi, .int .i64 t2.time, .bool t2.set, .int .i64 t2.held, .int .i64 t2.hops, .bool t2.good, .slice A7 t2.table.length c7, .int .i64 t2.st, .int .i64 t2.sn, .int .i64 t2.life]
  | 10 => v = .agg #[.int .i64 t2.lo, .int .i64 t2.hi, .int .i64 t2.time, .bool t2.set, .int .i64 t2.held, .int .i64 t2.hops, .bool t2.good, .slice A8 t2.table.length c8, .int .i64 t2.st, .int .i64 t2.sn, .int .i64 t2.life]
  | 11 => v = .bool true
  | 12 => v = .bool false
  | 13 => v = .bool false
  | _ => v = .bool true
/-- It stays so. -/
def VCDo24 (G R M16 M17 : Nat) (t2 : Sta) (A7 A8 A3 A9 : Option Addr) (c7 c8 c3 c9 : Nat) (m : Msg) (i : Nat) (v : Value) (w : World) : Prop := ∀ w', Ok w w' → VMDo24 G R M16 M17 t2 A7 A8 A3 A9 c7 c8 c3 c9 m w' v i
set_option maxHeartbeats 25600000 in
theorem walkF (F : GateWorks) (w : World) (p : Par) (me : Int) (s : Sta) (A : Option Addr) (cap : Nat) (B : Option Addr) (l : List In) (cl : Nat) (hA : PairsAt w A s.table) (hl : s.table.length ≤ 9223372036854775807) (hB : InsAt w B l) (hll : l.length ≤ 9223372036854775807) (hxh : ∀ x ∈ l, x.heard.length ≤ 9223372036854775807) (hpf : -9223372036854775808 ≤ p.f ∧ p.f ≤ 9223372036854775807) :
    Calls Tryz.prog 3 #[parV p, .int .i64 me, staV s A cap, .slice B l.length cl] w fun e w' => e = .returned (.bool true) ∧ Ok w w' := by
  have KAL := Lib.hid fun w => law22AliveF F w
  obtain ⟨lg, hlg⟩ : ∃ b, great22 s l = b := ⟨_, rfl⟩
  have KGR : Hid (∀ W', Ok w W' → Calls Tryz.prog 9 #[.agg #[.int .i64 s.lo, .int .i64 s.hi, .int .i64 s.time, .bool s.set, .int .i64 s.held, .int .i64 s.hops, .bool s.good, .slice A s.table.length cap, .int .i64 s.st, .int .i64 s.sn, .int .i64 s.life], .slice B l.length cl] W' fun e w' => e = .returned (.bool lg) ∧ Ok W' w') := Lib.hid fun W' h0 => by
    have k := law22Great s A cap B l cl W' (hB.below h0) hll hxh
    rw [hlg] at k
    exact k
  have HFEW := Lib.hid fun (h : lg = false) => great_few (hlg.trans h)
  obtain ⟨u, hu⟩ : ∃ y, Health.sane p s = y := ⟨_, rfl⟩
  have HUT : Hid (u.table.length ≤ 1000) := Lib.hid (hu ▸ saneTable22 p s)
  have KNW := Lib.hid fun W' (k : Ok w W') => F.new p me s A cap W' (hA.below k) hl
  have KSN : Hid (∀ W', Ok w W' → Calls Tryz.prog 11 #[parV p, .agg #[.int .i64 s.lo, .int .i64 s.hi, .int .i64 s.time, .bool s.set, .int .i64 s.held, .int .i64 s.hops, .bool s.good, .slice A s.table.length cap, .int .i64 s.st, .int .i64 s.sn, .int .i64 s.life]] W' fun e w' => ∃ (A2 : Option Addr) (c2 : Nat), e = .returned (.agg #[.int .i64 u.lo, .int .i64 u.hi, .int .i64 u.time, .bool u.set, .int .i64 u.held, .int .i64 u.hops, .bool u.good, .slice A2 u.table.length c2, .int .i64 u.st, .int .i64 u.sn, .int .i64 u.life]) ∧ PairsOf W'.heap.size w' A2 u.table ∧ Ok W' w') := Lib.hid fun W' k => by
    have k := ref21Sane p s A cap W' (hA.below k) hl
    rw [hu] at k
    exact k
  rw [hu] at KNW
  have KS21 : Hid (∀ (t : Sta), t.table.length ≤ 1000 → ∀ A4 A6 c4 c6 W', PairsAt W' A4 t.table → PairsAt W' A6 t.table → Calls Tryz.prog 12 #[staV t A4 c4, staV t A6 c6] W' fun e w' => e = .returned (.bool true) ∧ Ok W' w') := Lib.hid fun t ht A4 A6 c4 c6 W' h1 h2 => by
    have k := ref21Same t t A4 A6 c4 c6 W' h1 h2 (by omega) (by omega)
    rw [decide_eq_true (rfl : t = t)] at k
    exact k
  have KSA : Hid (∀ (mq : Msg) B1 d1 B2 d2 W', mq.table.length ≤ 9223372036854775807 → PairsAt W' B1 mq.table → PairsAt W' B2 mq.table → Calls Tryz.prog 15 #[msgV mq B1 d1, msgV mq B2 d2] W' fun e w' => e = .returned (.bool true) ∧ Ok W' w') := Lib.hid fun mq B1 d1 B2 d2 W' hl h1 h2 => by
    have k := ref6Same mq mq B1 B2 d1 d2 W' h1 h2 hl hl
    rw [decide_eq_true (rfl : mq = mq)] at k
    exact k
  have hP := (Own.new w (parCells p) 23 rfl).alloc (.cells (staCells s A cap) 30)
  have hS := Own.new (w.alloc (.cells (parCells p) 23)) (staCells s A cap) 30 (g := w.heap.size + 1) (by simp)
  have hok := ((Ok.refl w).alloc (.cells (parCells p) 23)).alloc (.cells (staCells s A cap) 30)
  have HI := Lib.hid hB
  clear hlg hu hA hl hB hxh
  go_enter Tryz.func3, Tryz.ntmps3
  go_upto_region 1 with fail
  change Code.wp _ _ _ _ ((w.alloc (.cells (parCells p) 23)).alloc (.cells (staCells s A cap) 30))
  generalize (w.alloc (.cells (parCells p) 23)).alloc (.cells (staCells s A cap) 30) = W at hP hS hok ⊢
  obtain ⟨Sb, hSb⟩ : ∃ y, w.heap.size + 1 = y := ⟨_, rfl⟩
  obtain ⟨Bp, hBp⟩ : ∃ y, w.heap.size = y := ⟨_, rfl⟩
  rw [hSb] at hS
  rw [hBp] at hP
  rw [hSb, hBp]
  clear hSb hBp
  go_upto_region 3 with (go_at_call 8; (with_reducible refine (KAL.out _).mono ?_); rintro e w1 ⟨rfl, hb1⟩; replace hP := hP.next hb1; replace hS := hS.next hb1; replace hok := hok.trans hb1; clear hb1)
  obtain ⟨s0, s1, s2, s3, s4, s5, s6, s7, s8, s9, s10⟩ := hS.sta; have hsl := hS.lt
  cases lg with
  | true =>
    go_wp2_with (go_at_call 9; (with_reducible refine (KGR.out _ hok).mono ?_); rintro e w2 ⟨rfl, hb1⟩; replace hok := hok.trans hb1; clear hb1)
    go_ret
    exact ⟨rfl, hok⟩
  | false =>
  have HF := Lib.hid (HFEW.out rfl)
  clear HFEW
  go_upto_region 5 with (go_at_call 9; (with_reducible refine (KGR.out _ hok).mono ?_); rintro e w2 ⟨rfl, hb1⟩; clear s0 s1 s2 s3 s4 s5 s6 s7 s8 s9 s10 hsl; replace hP := hP.next hb1; replace hS := hS.next hb1; replace hok := hok.trans hb1; clear hb1)
  obtain ⟨s0, s1, s2, s3, s4, s5, s6, s7, s8, s9, s10⟩ := hS.sta; have hsl := hS.lt
  obtain ⟨c0, c1, c2, c3, c4, c5, c6, c7, c8, c9, c10, c11⟩ := hP.pars; have hpl := hP.lt
  have hBlt := hP.lt
  go_upto_region 6 with (go_at_call 10; refine (KNW.out _ hok).mono ?_; rintro e w3 ⟨G, A4, k4, rfl, hG, hTG, hGs, hAG, hb1⟩; clear s0 s1 s2 s3 s4 s5 s6 s7 s8 s9 s10 hsl; clear c0 c1 c2 c3 c4 c5 c6 c7 c8 c9 c10 c11 hpl; replace hP := hP.next hb1; replace hS := hS.next hb1; have hwG := Nat.le_trans hok.size hGs; replace hok := hok.trans hb1; clear hb1)
  have hBG : Bp < G := by omega
  have hPG := (TabRow.pairs hTG).1
  have hA4lt := row_lt22 hTG
  obtain ⟨s0, s1, s2, s3, s4, s5, s6, s7, s8, s9, s10⟩ := hS.sta; have hsl := hS.lt
  obtain ⟨c0, c1, c2, c3, c4, c5, c6, c7, c8, c9, c10, c11⟩ := hP.pars; have hpl := hP.lt
  go_upto_region 7 with (go_at_call 11; refine (KSN.out _ hok).mono ?_; rintro e w4 ⟨A6, k6, rfl, hTR, hb1⟩; clear s0 s1 s2 s3 s4 s5 s6 s7 s8 s9 s10 hsl; clear c0 c1 c2 c3 c4 c5 c6 c7 c8 c9 c10 c11 hpl; have hGl := hG.lt; have h34 := hb1.size; replace hP := hP.next hb1; replace hG := hG.next hb1; replace hPG := hPG.below hb1; have hw4 := Nat.le_trans hok.size hb1.size; replace hok := hok.trans hb1; clear hb1 hS)
  change Code.wp _ _ _ _ (w4.alloc (.cells (staCells u A6 k6) 30))
  have hR := Own.new w4 (staCells u A6 k6) 30 rfl
  have hDB : DB Bp G w4.heap.size me p u A4 A6 k4 k6 (w4.alloc (.cells (staCells u A6 k6) 30)) := ⟨hP.alloc _, hG.alloc _, hR, hPG.alloc _, hTR.1.alloc _⟩
  replace hok := hok.alloc (.cells (staCells u A6 k6) 30)
  have hGR : G < w4.heap.size := by omega
  have hRG : ∀ a, A6 = some a → a.block ≠ G := fun a ha => by have := hTR.2 a ha; omega
  clear hP hG hR hPG hTR hTG hA4lt hGs hGl
  generalize w4.alloc (.cells (staCells u A6 k6) 30) = W5 at hDB hok ⊢
  generalize w4.heap.size = R at hDB hGR hw4 ⊢
  have HB := Lib.hid fun W' (k : Ok W5.drew W') => hDB.next ((Ok.refl W5).drew.trans k)
  have KSS := Lib.hid fun W' (k : Ok W5.drew W') => KS21.out u HUT.out A4 A6 k4 k6 W' (HB.out W' k).tg (HB.out W' k).tr
  have HOK5 := Lib.hid hok
  clear hDB hok
  refine wp_region_facts (by kernel_rfl) 134 rfl (VCDo7 G R u A4 A6 k4 k6) Ok (by kernel_rfl) (fun i v w w' h k w'' k' => h w'' (k.trans k')) (fun a b c => Ok.trans) (Ok.refl _) [some 32, some 33, some 34, some 35, some 36, some 37, some 38, some 39, some 40, some 41, some 42, some 43] rfl 12 rfl ⟨?_, ?_, ?_, ?_, ?_, ?_, ?_, ?_, ?_, ?_, ?_, ?_, trivial⟩ ?_
  · intro a' w' hF hR
    have e9 : a'.tmps[9]? = some (.pointer (some ⟨G, 0, none⟩)) := hF.slot 9 (by kernel_rfl) rfl
    refine wpOp_run (v := .pointer (some ⟨G, 0, none⟩)) rfl rfl ?_ (fun _ _ => rfl) (Ok.refl _)
    clear hF
    go_simp
  · intro a' w' hF hR
    obtain ⟨v0, hv0, e32⟩ := hF.get 0 32 (by kernel_rfl) (by kernel_rfl)
    obtain rfl : v0 = _ := hv0 _ (Ok.refl _)
    refine wpOp_run (v := .bool false) rfl rfl ?_ (fun _ _ => rfl) (Ok.refl _)
    clear hF
    go_simp
  · intro a' w' hF hR
    obtain ⟨v1, hv1, e33⟩ := hF.get 1 33 (by kernel_rfl) (by kernel_rfl)
    obtain rfl : v1 = _ := hv1 _ (Ok.refl _)
    refine wpOp_run (v := .bool false) rfl rfl ?_ (fun _ _ => rfl) (Ok.refl _)
    clear hF
    go_simp
  · intro a' w' hF hR
    have e9 : a'.tmps[9]? = some (.pointer (some ⟨G, 0, none⟩)) := hF.slot 9 (by kernel_rfl) rfl
    obtain ⟨vg, hvg, eg⟩ := hF.get 2 34 (by kernel_rfl) (by kernel_rfl)
    obtain rfl : vg = _ := hvg _ (Ok.refl _)
    refine wpOp_runG (v := .pointer (some ⟨G, 0, none⟩)) rfl (wanted_yes rfl (by kernel_rfl) eg) ?_ (fun _ _ => rfl) (Ok.refl _)
    clear hF
    go_simp
  · intro a' w' hF hR
    obtain ⟨v3, hv3, e35⟩ := hF.get 3 35 (by kernel_rfl) (by kernel_rfl)
    obtain rfl : v3 = _ := hv3 _ (Ok.refl _)
    obtain ⟨vg, hvg, eg⟩ := hF.get 2 34 (by kernel_rfl) (by kernel_rfl)
    obtain rfl : vg = _ := hvg _ (Ok.refl _)
    refine wpOp_runG (v := .pointer (some ⟨G, 0, none⟩)) rfl (wanted_yes rfl (by kernel_rfl) eg) ?_ (fun _ _ => rfl) (Ok.refl _)
    clear hF
    go_simp
  · intro a' w' hF hR
    obtain ⟨v4, hv4, e36⟩ := hF.get 4 36 (by kernel_rfl) (by kernel_rfl)
    obtain rfl : v4 = _ := hv4 _ (Ok.refl _)
    obtain ⟨vg, hvg, eg⟩ := hF.get 2 34 (by kernel_rfl) (by kernel_rfl)
    obtain rfl : vg = _ := hvg _ (Ok.refl _)
    refine wpOp_runG (v := .pointer (some ⟨G, 0, none⟩)) rfl (wanted_yes rfl (by kernel_rfl) eg) ?_ (fun _ _ => rfl) (Ok.refl _)
    clear hF
    go_simp
  · intro a' w' hF hR
    obtain ⟨v5, hv5, e37⟩ := hF.get 5 37 (by kernel_rfl) (by kernel_rfl)
    obtain rfl : v5 = _ := hv5 _ (Ok.refl _)
    obtain ⟨vg, hvg, eg⟩ := hF.get 2 34 (by kernel_rfl) (by kernel_rfl)
    obtain rfl : vg = _ := hvg _ (Ok.refl _)
    refine wpOp_runG (v := .pointer (some ⟨G, 12, none⟩)) rfl (wanted_yes rfl (by kernel_rfl) eg) ?_ (fun _ _ => rfl) (Ok.refl _)
    clear hF
    go_simp
  · intro a' w' hF hR
    obtain ⟨v6, hv6, e38⟩ := hF.get 6 38 (by kernel_rfl) (by kernel_rfl)
    obtain rfl : v6 = _ := hv6 _ (Ok.refl _)
    obtain ⟨vg, hvg, eg⟩ := hF.get 2 34 (by kernel_rfl) (by kernel_rfl)
    obtain rfl : vg = _ := hvg _ (Ok.refl _)
    obtain ⟨q0, q1, q2, q3, q4, q5, q6, q7, q8, q9, q10⟩ := (HB.out _ hR).g.frS
    have hgl := (HB.out _ hR).g.lt
    refine wpOp_runG (v := .agg #[.int .i64 u.lo, .int .i64 u.hi, .int .i64 u.time, .bool u.set, .int .i64 u.held, .int .i64 u.hops, .bool u.good, .slice A4 u.table.length k4, .int .i64 u.st, .int .i64 u.sn, .int .i64 u.life]) rfl (wanted_yes rfl (by kernel_rfl) eg) ?_ (fun _ _ => rfl) (Ok.refl _)
    clear hF
    go_simp
  · intro a' w' hF hR
    have e10 : a'.tmps[10]? = some (.pointer (some ⟨R, 0, none⟩)) := hF.slot 10 (by kernel_rfl) rfl
    obtain ⟨vg, hvg, eg⟩ := hF.get 2 34 (by kernel_rfl) (by kernel_rfl)
    obtain rfl : vg = _ := hvg _ (Ok.refl _)
    obtain ⟨q0, q1, q2, q3, q4, q5, q6, q7, q8, q9, q10⟩ := (HB.out _ hR).r.sta
    have hrl := (HB.out _ hR).r.lt
    refine wpOp_runG (v := .agg #[.int .i64 u.lo, .int .i64 u.hi, .int .i64 u.time, .bool u.set, .int .i64 u.held, .int .i64 u.hops, .bool u.good, .slice A6 u.table.length k6, .int .i64 u.st, .int .i64 u.sn, .int .i64 u.life]) rfl (wanted_yes rfl (by kernel_rfl) eg) ?_ (fun _ _ => rfl) (Ok.refl _)
    clear hF
    go_simp
  · intro a' w' hF hR
    obtain ⟨v7, hv7, e39⟩ := hF.get 7 39 (by kernel_rfl) (by kernel_rfl)
    obtain rfl : v7 = _ := hv7 _ (Ok.refl _)
    obtain ⟨v8, hv8, e40⟩ := hF.get 8 40 (by kernel_rfl) (by kernel_rfl)
    obtain rfl : v8 = _ := hv8 _ (Ok.refl _)
    obtain ⟨vg, hvg, eg⟩ := hF.get 2 34 (by kernel_rfl) (by kernel_rfl)
    obtain rfl : vg = _ := hvg _ (Ok.refl _)
    refine wpOp_callG (f := 12) (args := #[.agg #[.int .i64 u.lo, .int .i64 u.hi, .int .i64 u.time, .bool u.set, .int .i64 u.held, .int .i64 u.hops, .bool u.good, .slice A4 u.table.length k4, .int .i64 u.st, .int .i64 u.sn, .int .i64 u.life], .agg #[.int .i64 u.lo, .int .i64 u.hi, .int .i64 u.time, .bool u.set, .int .i64 u.held, .int .i64 u.hops, .bool u.good, .slice A6 u.table.length k6, .int .i64 u.st, .int .i64 u.sn, .int .i64 u.life]]) rfl (wanted_yes rfl (by kernel_rfl) eg) ?_ ((KSS.out _ hR).mono ?_)
    · go_simp
    · rintro e w2 ⟨rfl, hb2⟩; exact ⟨_, rfl, fun _ _ => rfl, hb2⟩
  · intro a' w' hF hR
    obtain ⟨v9, hv9, e41⟩ := hF.get 9 41 (by kernel_rfl) (by kernel_rfl)
    obtain rfl : v9 = _ := hv9 _ (Ok.refl _)
    obtain ⟨vg, hvg, eg⟩ := hF.get 2 34 (by kernel_rfl) (by kernel_rfl)
    obtain rfl : vg = _ := hvg _ (Ok.refl _)
    refine wpOp_runG (v := .bool false) rfl (wanted_yes rfl (by kernel_rfl) eg) ?_ (fun _ _ => rfl) (Ok.refl _)
    clear hF
    go_simp
  · intro a' w' hF hR
    obtain ⟨v2, hv2, e34⟩ := hF.get 2 34 (by kernel_rfl) (by kernel_rfl)
    obtain rfl : v2 = _ := hv2 _ (Ok.refl _)
    obtain ⟨v10, hv10, e42⟩ := hF.get 10 42 (by kernel_rfl) (by kernel_rfl)
    obtain rfl : v10 = _ := hv10 _ (Ok.refl _)
    refine wpOp_run (v := .bool false) rfl rfl ?_ (fun _ _ => rfl) (Ok.refl _)
    clear hF
    go_simp
  intro vs w2' hV hR
  have e11 : vs 11 = .bool false := hV 11 (by decide) _ (Ok.refl _)
  have hDB := HB.out _ hR
  have hok := (HOK5.out.trans (Ok.refl W5).drew).trans hR
  clear hV HB KSS HOK5
  simp only [putFrom, e11]
  simp only [Act.put, List.setIfInBounds_toArray, List.set_cons_zero, List.set_cons_succ]
  generalize vs 0 = x400
  generalize vs 1 = x401
  generalize vs 2 = x402
  generalize vs 3 = x403
  generalize vs 4 = x404
  generalize vs 5 = x405
  generalize vs 6 = x406
  generalize vs 7 = x407
  generalize vs 8 = x408
  generalize vs 9 = x409
  generalize vs 10 = x410
  clear hR e11 vs
  go_wp2_with fail
  go_loopw [46] (fun i wr => ∃ (k : Nat) (t : Sta) (A4 A6 : Option Addr) (c4 c6 : Nat), k ≤ l.length ∧ i = .int .i64 k ∧ DB Bp G R me p t A4 A6 c4 c6 wr ∧ (∀ a, A4 = some a → a.block ≠ G) ∧ (∀ a, A6 = some a → a.block ≠ G) ∧ t.table.length ≤ 1000 ∧ Ok w wr) (fun i _ => l.length - (intOf i).toNat)
  case atStart => exact ⟨0, u, A4, A6, k4, k6, Nat.zero_le _, rfl, hDB, hAG, hRG, HUT.out, hok⟩
  case round =>
    clear hDB hok hAG hRG
    obtain ⟨k, t, A4, A6, c4, c6, hk, rfl, hDB, hAG, hRG, htl, hok⟩ := hrel
    by_cases hkl : k < l.length
    · have hIk := HI.out.below hok
      obtain ⟨b, off, e, hb, hc⟩ := hIk.nthAt k hkl
      obtain ⟨x, hx⟩ : ∃ y, l[k] = y := ⟨_, rfl⟩
      have hxm : x ∈ l := hx ▸ List.getElem_mem _
      obtain ⟨i0, i1, i2, i3, i4, i5⟩ := hc x hx
      have hIx := (HI.out.parts x hxm)
      have hfh := HF.out.heard x hxm
      have hft := HF.out.tables x hxm
      have hfo := HF.out.told x hxm
      have hj1 : (k : Int) < (l.length : Int) := by omega
      have hj2 : ¬ (l.length : Int) ≤ (k : Int) := by omega
      subst e
      clear hc hx
      go_upto_region 12 with fail
      clear i0 i1 i2 i3 i4 i5 hb
      change Code.wp _ _ _ _ (wr.alloc (.cells (inCells x) 44))
      have hX := Own.new wr (inCells x) 44 rfl
      have hGx := hDB.g.lt
      have hRx := hDB.r.lt
      have hPx := hDB.pb.lt
      have k1 := (Ok.refl wr).alloc (.cells (inCells x) 44)
      replace hDB := hDB.next k1
      replace hok := hok.trans k1
      clear k1 hIk
      generalize wr.alloc (.cells (inCells x) 44) = W1 at hX hDB hok ⊢
      obtain ⟨X, hXe⟩ : ∃ y, wr.heap.size = y := ⟨_, rfl⟩
      rw [hXe] at hX hGx hRx hPx
      rw [hXe]
      have HNE : Hid (Bp ≠ G ∧ R ≠ G ∧ X ≠ G ∧ w.heap.size ≤ G) := Lib.hid ⟨by omega, by omega, by omega, hwG⟩
      obtain ⟨TL, hTL⟩ : ∃ y, Gate.told p me x.hds = y := ⟨_, rfl⟩
      have hTLl : TL.length ≤ 40 := by
        rw [← hTL]
        refine Nat.le_trans (Gate.told_few p me x.hds) ?_
        unfold In.hds
        rw [List.length_map]
        exact hfh
      obtain ⟨LN, hLN⟩ : ∃ z, TL.length = z := ⟨_, rfl⟩
      have HLN := Lib.hid hLN
      have HLL : Hid (LN ≤ 40) := Lib.hid (hLN ▸ hTLl)
      have HHX := Lib.hid fun W' (k : Ok W1.drew W') => hIx.heard.below (hok.trans ((Ok.refl W1).drew.trans k))
      have KT1 : Hid (∀ W', Ok W1.drew W' → Calls Tryz.prog 13 #[parV p, .int .i64 me, .slice x.B x.heard.length x.hcap] W' fun e w' => ∃ AT cT o, e = .returned (.slice AT o.length cT) ∧ o.map HA.hd = TL ∧ HeardsAt w' AT o ∧ Ok W' w') := Lib.hid fun W' k => by
        refine (gateTold p me x.B x.heard x.hcap W' (HHX.out W' k) (by omega) (fun y hy => Nat.le_trans (hfo y hy) (by decide))).mono ?_
        rintro e w' ⟨AT, cT, o, h1, h2, h3, h4⟩
        exact ⟨AT, cT, o, h1, h2.trans hTL, heards_own h3.row fun y hy => (TabRow.pairs (h3.tabs y hy)).1, h4⟩
      have KT2 : Hid (∀ W', Ok W1.drew W' → Calls Tryz.prog 14 #[parV p, .int .i64 me, .slice x.B x.heard.length x.hcap] W' fun e w' => ∃ AT cT o, e = .returned (.slice AT o.length cT) ∧ o.map HA.hd = TL ∧ HeardsAt w' AT o ∧ (∀ y ∈ o, y.m.table.length ≤ 128) ∧ Ok W' w') := Lib.hid fun W' k => by
        refine (ref22Told p me x.B x.heard x.hcap W' (HHX.out W' k) (by omega)).mono ?_
        rintro e w' ⟨AT, cT, o, h1, h2, h3, h4, h5⟩
        exact ⟨AT, cT, o, h1, h2.trans hTL, heards_own h4 fun y hy => ((HHX.out W' k).below h5).tabs y (h3 y hy), fun y hy => hfo y (h3 y hy), h5⟩
      obtain ⟨t2, ht2⟩ : ∃ y, Gate.after p me t x = y := ⟨_, rfl⟩
      obtain ⟨m, hm⟩ : ∃ y, Gate.tells p me t x = y := ⟨_, rfl⟩
      have KBE := Lib.hid fun A4 c4 W' (k : Ok w W') (h1 : Own W' G (gateCells me p t A4 c4)) (h2 : PairsAt W' A4 t.table) (h3 : ∀ a, A4 = some a → a.block ≠ G) => F.beat G p me t A4 c4 x W' h1 h2 h3 (by omega) (hIx.below k) (by omega) (by omega) hpf (fun y hy => Nat.le_trans (hfo y hy) (by decide))
      have KRB := Lib.hid fun A6 c6 W' (k : Ok w W') (h2 : PairsAt W' A6 t.table) => ref22Beat p me t A6 c6 x W' h2 (by omega) (hIx.below k) (by omega) (by omega)
      have HMT : Hid (m.table.length ≤ 1000 ∧ t2.table.length ≤ 1000) := Lib.hid (by rw [← hm, ← ht2]; exact ⟨stepTable22 p t x.ticks _, stepTable22 p t x.ticks _⟩)
      have HMTT : Hid (m.table = t2.table) := Lib.hid (by rw [← hm, ← ht2]; rfl)
      rw [ht2, hm] at KBE KRB
      unfold inV msgV at KBE
      unfold inV staV msgV at KRB
      have HAG := Lib.hid hAG
      have HRG := Lib.hid hRG
      have HOK1 := Lib.hid hok
      have HB := Lib.hid fun W' (k : Ok W1.drew W') => hDB.next ((Ok.refl W1).drew.trans k)
      have HX := Lib.hid fun W' (k : Ok W1.drew W') => (hX.next (Ok.refl W1).drew).next k
      clear hDB hX hok hAG hRG hTL hTLl hLN hfh hft hfo ht2 hm hIx HHX hGx hRx hPx
      refine wp_region_facts_chain (by kernel_rfl) 5 134 rfl (VCDo12 X p me x TL) Ok _ 10 rfl rfl (by decide) (by kernel_rfl) (by kernel_rfl) (by kernel_rfl) (by kernel_rfl) (fun i v w w' h k w'' k' => h w'' (k.trans k')) (fun a b c => Ok.trans) (Ok.refl _) [some 50, some 51, some 52, some 53, some 54, some 55, some 56, some 57, some 58, some 59] rfl _ rfl ⟨?_, ?_, ?_, ?_, ?_, ?_, ?_, ?_, ?_, ?_, trivial⟩ ?_
      · intro a' w' hF hR
        have e4 : a'.tmps[4]? = some (.pointer (some ⟨Bp, 0, none⟩)) := hF.slot 4 (by kernel_rfl) rfl
        obtain ⟨p0, p1, p2, p3, p4, p5, p6, p7, p8, p9, p10, p11⟩ := (HB.out _ hR).pb.pars
        have hpl := (HB.out _ hR).pb.lt
        refine wpOp_run (v := parV p) rfl rfl ?_ (fun _ _ => rfl) (Ok.refl _)
        clear hF
        go_simp
      · intro a' w' hF hR
        have e1 : a'.tmps[1]? = some (.int .i64 me) := hF.slot 1 (by kernel_rfl) rfl
        refine wpOp_run (v := .int .i64 me) rfl rfl ?_ (fun _ _ => rfl) (Ok.refl _)
        clear hF
        go_simp
      · intro a' w' hF hR
        have e12 : a'.tmps[12]? = some (.pointer (some ⟨X, 0, none⟩)) := hF.slot 12 (by kernel_rfl) rfl
        refine wpOp_run (v := .pointer (some ⟨X, 1, none⟩)) rfl rfl ?_ (fun _ _ => rfl) (Ok.refl _)
        clear hF
        go_simp
      · intro a' w' hF hR
        obtain ⟨v2, hv2, e52⟩ := hF.get 2 52 (by kernel_rfl) (by kernel_rfl)
        obtain rfl : v2 = _ := hv2 _ (Ok.refl _)
        have x1 := (HX.out _ hR).cell 1 (v := .slice x.B x.heard.length x.hcap) rfl
        have hxl := (HX.out _ hR).lt
        refine wpOp_run (v := .slice x.B x.heard.length x.hcap) rfl rfl ?_ (fun _ _ => rfl) (Ok.refl _)
        clear hF
        go_simp
      · intro a' w' hF hR
        obtain ⟨v0, hv0, e50⟩ := hF.get 0 50 (by kernel_rfl) (by kernel_rfl)
        obtain rfl : v0 = _ := hv0 _ (Ok.refl _)
        obtain ⟨v1, hv1, e51⟩ := hF.get 1 51 (by kernel_rfl) (by kernel_rfl)
        obtain rfl : v1 = _ := hv1 _ (Ok.refl _)
        obtain ⟨v3, hv3, e53⟩ := hF.get 3 53 (by kernel_rfl) (by kernel_rfl)
        obtain rfl : v3 = _ := hv3 _ (Ok.refl _)
        clear hF
        refine wpOp_call (f := 13) (args := #[parV p, .int .i64 me, .slice x.B x.heard.length x.hcap]) rfl rfl ?_ ((KT1.out _ hR).mono ?_)
        · go_simp
        · rintro e w2 ⟨AT, cT, o, rfl, hm, hO, hb2⟩; exact ⟨_, rfl, fun w3 k => ⟨AT, cT, o, rfl, hm, hO.below k⟩, hb2⟩
      · intro a' w' hF hR
        have e4 : a'.tmps[4]? = some (.pointer (some ⟨Bp, 0, none⟩)) := hF.slot 4 (by kernel_rfl) rfl
        obtain ⟨p0, p1, p2, p3, p4, p5, p6, p7, p8, p9, p10, p11⟩ := (HB.out _ hR).pb.pars
        have hpl := (HB.out _ hR).pb.lt
        refine wpOp_run (v := parV p) rfl rfl ?_ (fun _ _ => rfl) (Ok.refl _)
        clear hF
        go_simp
      · intro a' w' hF hR
        have e1 : a'.tmps[1]? = some (.int .i64 me) := hF.slot 1 (by kernel_rfl) rfl
        refine wpOp_run (v := .int .i64 me) rfl rfl ?_ (fun _ _ => rfl) (Ok.refl _)
        clear hF
        go_simp
      · intro a' w' hF hR
        have e12 : a'.tmps[12]? = some (.pointer (some ⟨X, 0, none⟩)) := hF.slot 12 (by kernel_rfl) rfl
        refine wpOp_run (v := .pointer (some ⟨X, 1, none⟩)) rfl rfl ?_ (fun _ _ => rfl) (Ok.refl _)
        clear hF
        go_simp
      · intro a' w' hF hR
        obtain ⟨v7, hv7, e57⟩ := hF.get 7 57 (by kernel_rfl) (by kernel_rfl)
        obtain rfl : v7 = _ := hv7 _ (Ok.refl _)
        have x1 := (HX.out _ hR).cell 1 (v := .slice x.B x.heard.length x.hcap) rfl
        have hxl := (HX.out _ hR).lt
        refine wpOp_run (v := .slice x.B x.heard.length x.hcap) rfl rfl ?_ (fun _ _ => rfl) (Ok.refl _)
        clear hF
        go_simp
      · intro a' w' hF hR
        obtain ⟨v5, hv5, e55⟩ := hF.get 5 55 (by kernel_rfl) (by kernel_rfl)
        obtain rfl : v5 = _ := hv5 _ (Ok.refl _)
        obtain ⟨v6, hv6, e56⟩ := hF.get 6 56 (by kernel_rfl) (by kernel_rfl)
        obtain rfl : v6 = _ := hv6 _ (Ok.refl _)
        obtain ⟨v8, hv8, e58⟩ := hF.get 8 58 (by kernel_rfl) (by kernel_rfl)
        obtain rfl : v8 = _ := hv8 _ (Ok.refl _)
        clear hF
        refine wpOp_call (f := 14) (args := #[parV p, .int .i64 me, .slice x.B x.heard.length x.hcap]) rfl rfl ?_ ((KT2.out _ hR).mono ?_)
        · go_simp
        · rintro e w2 ⟨AT, cT, o, rfl, hm, hO, hq, hb2⟩; exact ⟨_, rfl, fun w3 k => ⟨AT, cT, o, rfl, hm, hO.below k, hq⟩, hb2⟩
      intro vs W' hvs hR
      obtain ⟨AT, cT, o1, e4, hm1, hH1⟩ := hvs 4 (by decide) _ (Ok.refl _)
      obtain ⟨AR, cR, o2, e9, hm2, hH2, hq2⟩ := hvs 9 (by decide) _ (Ok.refl _)
      have hB := HB.out _ hR
      have hX := HX.out _ hR
      have HOK2 := Lib.hid ((HOK1.out.trans (Ok.refl W1).drew).trans hR)
      clear hvs HB HX KT1 KT2 HOK1
      have hl1 : o1.length = LN := by rw [← HLN.out, ← hm1, List.length_map]
      have hl2 : o2.length = LN := by rw [← HLN.out, ← hm2, List.length_map]
      rw [hl1] at e4
      rw [hl2] at e9
      simp only [putFrom, e4, e9]
      simp only [Act.put, List.setIfInBounds_toArray, List.set_cons_zero, List.set_cons_succ]
      refine wpOp_leaves (o := ⟨some 13, _, _, _, _, none⟩) (v := .slice AT LN cT) (w' := W') rfl rfl ?_ ?_
      · go_simp
      simp only [Act.put, List.setIfInBounds_toArray, List.set_cons_zero, List.set_cons_succ]
      refine wpOp_leaves (o := ⟨some 14, _, _, _, _, none⟩) (v := .slice AR LN cR) (w' := W') rfl rfl ?_ ?_
      · go_simp
      simp only [TailFrom, Act.put, List.setIfInBounds_toArray, List.set_cons_zero, List.set_cons_succ]
      generalize vs 0 = x200
      generalize vs 1 = x201
      generalize vs 2 = x202
      generalize vs 3 = x203
      generalize vs 5 = x205
      generalize vs 6 = x206
      generalize vs 7 = x207
      generalize vs 8 = x208
      clear hR e4 e9 vs
      have hLL := HLL.out
      have hNE : ((LN : Int) != (LN : Int)) = false := by simp
      go_wp2_with fail
      go_loopw [67] (fun i wr2 => ∃ q : Nat, q ≤ LN ∧ i = .int .i64 q ∧ Ok W' wr2) (fun i _ => LN - (intOf i).toNat)
      case atStart => exact ⟨0, Nat.zero_le _, rfl, Ok.refl _⟩
      case round =>
        obtain ⟨q, hq, rfl, j1⟩ := hrel
        by_cases hql : q < LN
        · obtain ⟨b1, f1, eA1, hb1, hc1⟩ := hH1.nthAt q (by omega)
          obtain ⟨b2, f2, eA2, hb2, hc2⟩ := hH2.nthAt q (by omega)
          obtain ⟨y1, hy1⟩ : ∃ y, o1[q]'(by omega) = y := ⟨_, rfl⟩
          obtain ⟨y2, hy2⟩ : ∃ y, o2[q]'(by omega) = y := ⟨_, rfl⟩
          have hyy : y1.hd = y2.hd := by
            rw [← hy1, ← hy2]
            have e1 : (o1.map HA.hd)[q]'(by rw [List.length_map]; omega) = (o2.map HA.hd)[q]'(by rw [List.length_map]; omega) := by
              congr 1
              rw [hm1, hm2]
            simpa using e1
          have hk1 := hc1 y1 hy1
          have hk2 := hc2 y2 hy2
          have hml0 := hq2 y2 (hy2 ▸ List.getElem_mem _)
          have ht1 := hH1.tabs y1 (hy1 ▸ List.getElem_mem _)
          have ht2 := hH2.tabs y2 (hy2 ▸ List.getElem_mem _)
          obtain ⟨mq, B1, d1, ag⟩ := y1
          obtain ⟨mq', B2, d2, ag'⟩ := y2
          injection hyy with e1 e2
          subst e1
          subst e2
          subst eA1
          subst eA2
          simp only at hk1 hk2 ht1 ht2 hml0
          have hml : mq.table.length ≤ 9223372036854775807 := by omega
          have HR1 := Lib.hid fun W2 (k : Ok wr.drew W2) => cells15 (j1.trans ((Ok.refl wr).drew.trans k)) hb1 hk1
          have HR2 := Lib.hid fun W2 (k : Ok wr.drew W2) => cells15 (j1.trans ((Ok.refl wr).drew.trans k)) hb2 hk2
          have KSM := Lib.hid fun W2 (k : Ok wr.drew W2) => KSA.out mq B1 d1 B2 d2 W2 hml (ht1.below (j1.trans ((Ok.refl wr).drew.trans k))) (ht2.below (j1.trans ((Ok.refl wr).drew.trans k)))
          have HJ3 := Lib.hid j1
          have HQL := Lib.hid hql
          clear j1 hc1 hc2 hk1 hk2 ht1 ht2 hy1 hy2 hb1 hb2 hml0 hml hq2 hB hX hm1 hm2 hl1 hl2 hH1 hH2
          go_upto_region 18 with fail
          refine wp_region_facts (by kernel_rfl) 134 rfl (VCDo18 b1 f1 b2 f2 LN q cT cR d1 d2 B1 B2 mq ag) Ok (by kernel_rfl) (fun i v w w' h k w'' k' => h w'' (k.trans k')) (fun a b c => Ok.trans) (Ok.refl _) [some 70, some 71, some 72, some 73, some 74, some 75, some 76, some 77, some 78, some 79, some 80, some 81, some 82, some 83, some 84, some 85, some 86, some 87, some 88, some 89, some 90, some 91, some 92, some 93, some 94] rfl 25 rfl ⟨?_, ?_, ?_, ?_, ?_, ?_, ?_, ?_, ?_, ?_, ?_, ?_, ?_, ?_, ?_, ?_, ?_, ?_, ?_, ?_, ?_, ?_, ?_, ?_, ?_, trivial⟩ ?_
          · intro a' w' hF hR
            have e13 : a'.tmps[13]? = some (.slice (some ⟨b1, f1, none⟩) LN cT) := hF.slot 13 (by kernel_rfl) rfl
            refine wpOp_run (v := .slice (some ⟨b1, f1, none⟩) LN cT) rfl rfl ?_ (fun _ _ => rfl) (Ok.refl _)
            clear hF
            go_simp
          · intro a' w' hF hR
            have e15 : a'.tmps[15]? = some (.int .i64 (q : Int)) := hF.slot 15 (by kernel_rfl) rfl
            refine wpOp_run (v := .int .i64 (q : Int)) rfl rfl ?_ (fun _ _ => rfl) (Ok.refl _)
            clear hF
            go_simp
          · intro a' w' hF hR
            obtain ⟨v0, hv0, e70⟩ := hF.get 0 70 (by kernel_rfl) (by kernel_rfl)
            obtain rfl : v0 = _ := hv0 _ (Ok.refl _)
            obtain ⟨v1, hv1, e71⟩ := hF.get 1 71 (by kernel_rfl) (by kernel_rfl)
            obtain rfl : v1 = _ := hv1 _ (Ok.refl _)
            have hj1 : (q : Int) < (LN : Int) := by have := HQL.out; omega
            have hj2 : ¬ (LN : Int) ≤ (q : Int) := by have := HQL.out; omega
            refine wpOp_run (v := .pointer (some ⟨b1, f1 + q * 15, none⟩)) rfl rfl ?_ (fun _ _ => rfl) (Ok.refl _)
            clear hF
            go_simp
          · intro a' w' hF hR
            obtain ⟨v2, hv2, e72⟩ := hF.get 2 72 (by kernel_rfl) (by kernel_rfl)
            obtain rfl : v2 = _ := hv2 _ (Ok.refl _)
            refine wpOp_run (v := .pointer (some ⟨b1, f1 + q * 15 + 14, none⟩)) rfl rfl ?_ (fun _ _ => rfl) (Ok.refl _)
            clear hF
            go_simp
          · intro a' w' hF hR
            obtain ⟨v3, hv3, e73⟩ := hF.get 3 73 (by kernel_rfl) (by kernel_rfl)
            obtain rfl : v3 = _ := hv3 _ (Ok.refl _)
            obtain ⟨z0, z1, z2, z3, z4, z5, z6, z7, z8, z9, z10, z11, z12, z13, z14⟩ := (HR1.out _ hR).1
            have hbl := (HR1.out _ hR).2
            refine wpOp_run (v := .int .i64 ag) rfl rfl ?_ (fun _ _ => rfl) (Ok.refl _)
            clear hF
            go_simp
          · intro a' w' hF hR
            have e14 : a'.tmps[14]? = some (.slice (some ⟨b2, f2, none⟩) LN cR) := hF.slot 14 (by kernel_rfl) rfl
            refine wpOp_run (v := .slice (some ⟨b2, f2, none⟩) LN cR) rfl rfl ?_ (fun _ _ => rfl) (Ok.refl _)
            clear hF
            go_simp
          · intro a' w' hF hR
            have e15 : a'.tmps[15]? = some (.int .i64 (q : Int)) := hF.slot 15 (by kernel_rfl) rfl
            refine wpOp_run (v := .int .i64 (q : Int)) rfl rfl ?_ (fun _ _ => rfl) (Ok.refl _)
            clear hF
            go_simp
          · intro a' w' hF hR
            obtain ⟨v5, hv5, e75⟩ := hF.get 5 75 (by kernel_rfl) (by kernel_rfl)
            obtain rfl : v5 = _ := hv5 _ (Ok.refl _)
            obtain ⟨v6, hv6, e76⟩ := hF.get 6 76 (by kernel_rfl) (by kernel_rfl)
            obtain rfl : v6 = _ := hv6 _ (Ok.refl _)
            have hj1 : (q : Int) < (LN : Int) := by have := HQL.out; omega
            have hj2 : ¬ (LN : Int) ≤ (q : Int) := by have := HQL.out; omega
            refine wpOp_run (v := .pointer (some ⟨b2, f2 + q * 15, none⟩)) rfl rfl ?_ (fun _ _ => rfl) (Ok.refl _)
            clear hF
            go_simp
          · intro a' w' hF hR
            obtain ⟨v7, hv7, e77⟩ := hF.get 7 77 (by kernel_rfl) (by kernel_rfl)
            obtain rfl : v7 = _ := hv7 _ (Ok.refl _)
            refine wpOp_run (v := .pointer (some ⟨b2, f2 + q * 15 + 14, none⟩)) rfl rfl ?_ (fun _ _ => rfl) (Ok.refl _)
            clear hF
            go_simp
          · intro a' w' hF hR
            obtain ⟨v8, hv8, e78⟩ := hF.get 8 78 (by kernel_rfl) (by kernel_rfl)
            obtain rfl : v8 = _ := hv8 _ (Ok.refl _)
            obtain ⟨z0, z1, z2, z3, z4, z5, z6, z7, z8, z9, z10, z11, z12, z13, z14⟩ := (HR2.out _ hR).1
            have hbl := (HR2.out _ hR).2
            refine wpOp_run (v := .int .i64 ag) rfl rfl ?_ (fun _ _ => rfl) (Ok.refl _)
            clear hF
            go_simp
          · intro a' w' hF hR
            obtain ⟨v4, hv4, e74⟩ := hF.get 4 74 (by kernel_rfl) (by kernel_rfl)
            obtain rfl : v4 = _ := hv4 _ (Ok.refl _)
            obtain ⟨v9, hv9, e79⟩ := hF.get 9 79 (by kernel_rfl) (by kernel_rfl)
            obtain rfl : v9 = _ := hv9 _ (Ok.refl _)
            have q1 : (ag != ag) = false := by simp
            refine wpOp_run (v := .bool false) rfl rfl ?_ (fun _ _ => rfl) (Ok.refl _)
            clear hF
            go_simp
          · intro a' w' hF hR
            obtain ⟨v10, hv10, e80⟩ := hF.get 10 80 (by kernel_rfl) (by kernel_rfl)
            obtain rfl : v10 = _ := hv10 _ (Ok.refl _)
            refine wpOp_run (v := .bool false) rfl rfl ?_ (fun _ _ => rfl) (Ok.refl _)
            clear hF
            go_simp
          · intro a' w' hF hR
            have e13 : a'.tmps[13]? = some (.slice (some ⟨b1, f1, none⟩) LN cT) := hF.slot 13 (by kernel_rfl) rfl
            obtain ⟨vg, hvg, eg⟩ := hF.get 11 81 (by kernel_rfl) (by kernel_rfl)
            obtain rfl : vg = _ := hvg _ (Ok.refl _)
            refine wpOp_runG (v := .slice (some ⟨b1, f1, none⟩) LN cT) rfl (wanted_yes rfl (by kernel_rfl) eg) ?_ (fun _ _ => rfl) (Ok.refl _)
            clear hF
            go_simp
          · intro a' w' hF hR
            have e15 : a'.tmps[15]? = some (.int .i64 (q : Int)) := hF.slot 15 (by kernel_rfl) rfl
            obtain ⟨vg, hvg, eg⟩ := hF.get 11 81 (by kernel_rfl) (by kernel_rfl)
            obtain rfl : vg = _ := hvg _ (Ok.refl _)
            refine wpOp_runG (v := .int .i64 (q : Int)) rfl (wanted_yes rfl (by kernel_rfl) eg) ?_ (fun _ _ => rfl) (Ok.refl _)
            clear hF
            go_simp
          · intro a' w' hF hR
            obtain ⟨v12, hv12, e82⟩ := hF.get 12 82 (by kernel_rfl) (by kernel_rfl)
            obtain rfl : v12 = _ := hv12 _ (Ok.refl _)
            obtain ⟨v13, hv13, e83⟩ := hF.get 13 83 (by kernel_rfl) (by kernel_rfl)
            obtain rfl : v13 = _ := hv13 _ (Ok.refl _)
            obtain ⟨vg, hvg, eg⟩ := hF.get 11 81 (by kernel_rfl) (by kernel_rfl)
            obtain rfl : vg = _ := hvg _ (Ok.refl _)
            have hj1 : (q : Int) < (LN : Int) := by have := HQL.out; omega
            have hj2 : ¬ (LN : Int) ≤ (q : Int) := by have := HQL.out; omega
            refine wpOp_runG (v := .pointer (some ⟨b1, f1 + q * 15, none⟩)) rfl (wanted_yes rfl (by kernel_rfl) eg) ?_ (fun _ _ => rfl) (Ok.refl _)
            clear hF
            go_simp
          · intro a' w' hF hR
            obtain ⟨v14, hv14, e84⟩ := hF.get 14 84 (by kernel_rfl) (by kernel_rfl)
            obtain rfl : v14 = _ := hv14 _ (Ok.refl _)
            obtain ⟨vg, hvg, eg⟩ := hF.get 11 81 (by kernel_rfl) (by kernel_rfl)
            obtain rfl : vg = _ := hvg _ (Ok.refl _)
            refine wpOp_runG (v := .pointer (some ⟨b1, f1 + q * 15, none⟩)) rfl (wanted_yes rfl (by kernel_rfl) eg) ?_ (fun _ _ => rfl) (Ok.refl _)
            clear hF
            go_simp
          · intro a' w' hF hR
            obtain ⟨v15, hv15, e85⟩ := hF.get 15 85 (by kernel_rfl) (by kernel_rfl)
            obtain rfl : v15 = _ := hv15 _ (Ok.refl _)
            obtain ⟨vg, hvg, eg⟩ := hF.get 11 81 (by kernel_rfl) (by kernel_rfl)
            obtain rfl : vg = _ := hvg _ (Ok.refl _)
            obtain ⟨z0, z1, z2, z3, z4, z5, z6, z7, z8, z9, z10, z11, z12, z13, z14⟩ := (HR1.out _ hR).1
            have hbl := (HR1.out _ hR).2
            refine wpOp_runG (v := .agg #[.int .i64 mq.kind, .int .i64 mq.frm, .int .i64 mq.lo, .int .i64 mq.hi, .int .i64 mq.held, .int .i64 mq.hops, .bool mq.good, .bool mq.ref, .int .i64 mq.slo, .int .i64 mq.shi, .int .i64 mq.pulse, .int .i64 mq.time, .int .i64 mq.num, .slice B1 mq.table.length d1]) rfl (wanted_yes rfl (by kernel_rfl) eg) ?_ (fun _ _ => rfl) (Ok.refl _)
            clear hF
            go_simp
          · intro a' w' hF hR
            have e14 : a'.tmps[14]? = some (.slice (some ⟨b2, f2, none⟩) LN cR) := hF.slot 14 (by kernel_rfl) rfl
            obtain ⟨vg, hvg, eg⟩ := hF.get 11 81 (by kernel_rfl) (by kernel_rfl)
            obtain rfl : vg = _ := hvg _ (Ok.refl _)
            refine wpOp_runG (v := .slice (some ⟨b2, f2, none⟩) LN cR) rfl (wanted_yes rfl (by kernel_rfl) eg) ?_ (fun _ _ => rfl) (Ok.refl _)
            clear hF
            go_simp
          · intro a' w' hF hR
            have e15 : a'.tmps[15]? = some (.int .i64 (q : Int)) := hF.slot 15 (by kernel_rfl) rfl
            obtain ⟨vg, hvg, eg⟩ := hF.get 11 81 (by kernel_rfl) (by kernel_rfl)
            obtain rfl : vg = _ := hvg _ (Ok.refl _)
            refine wpOp_runG (v := .int .i64 (q : Int)) rfl (wanted_yes rfl (by kernel_rfl) eg) ?_ (fun _ _ => rfl) (Ok.refl _)
            clear hF
            go_simp
          · intro a' w' hF hR
            obtain ⟨v17, hv17, e87⟩ := hF.get 17 87 (by kernel_rfl) (by kernel_rfl)
            obtain rfl : v17 = _ := hv17 _ (Ok.refl _)
            obtain ⟨v18, hv18, e88⟩ := hF.get 18 88 (by kernel_rfl) (by kernel_rfl)
            obtain rfl : v18 = _ := hv18 _ (Ok.refl _)
            obtain ⟨vg, hvg, eg⟩ := hF.get 11 81 (by kernel_rfl) (by kernel_rfl)
            obtain rfl : vg = _ := hvg _ (Ok.refl _)
            have hj1 : (q : Int) < (LN : Int) := by have := HQL.out; omega
            have hj2 : ¬ (LN : Int) ≤ (q : Int) := by have := HQL.out; omega
            refine wpOp_runG (v := .pointer (some ⟨b2, f2 + q * 15, none⟩)) rfl (wanted_yes rfl (by kernel_rfl) eg) ?_ (fun _ _ => rfl) (Ok.refl _)
            clear hF
            go_simp
          · intro a' w' hF hR
            obtain ⟨v19, hv19, e89⟩ := hF.get 19 89 (by kernel_rfl) (by kernel_rfl)
            obtain rfl : v19 = _ := hv19 _ (Ok.refl _)
            obtain ⟨vg, hvg, eg⟩ := hF.get 11 81 (by kernel_rfl) (by kernel_rfl)
            obtain rfl : vg = _ := hvg _ (Ok.refl _)
            refine wpOp_runG (v := .pointer (some ⟨b2, f2 + q * 15, none⟩)) rfl (wanted_yes rfl (by kernel_rfl) eg) ?_ (fun _ _ => rfl) (Ok.refl _)
            clear hF
            go_simp
          · intro a' w' hF hR
            obtain ⟨v20, hv20, e90⟩ := hF.get 20 90 (by kernel_rfl) (by kernel_rfl)
            obtain rfl : v20 = _ := hv20 _ (Ok.refl _)
            obtain ⟨vg, hvg, eg⟩ := hF.get 11 81 (by kernel_rfl) (by kernel_rfl)
            obtain rfl : vg = _ := hvg _ (Ok.refl _)
            obtain ⟨z0, z1, z2, z3, z4, z5, z6, z7, z8, z9, z10, z11, z12, z13, z14⟩ := (HR2.out _ hR).1
            have hbl := (HR2.out _ hR).2
            refine wpOp_runG (v := .agg #[.int .i64 mq.kind, .int .i64 mq.frm, .int .i64 mq.lo, .int .i64 mq.hi, .int .i64 mq.held, .int .i64 mq.hops, .bool mq.good, .bool mq.ref, .int .i64 mq.slo, .int .i64 mq.shi, .int .i64 mq.pulse, .int .i64 mq.time, .int .i64 mq.num, .slice B2 mq.table.length d2]) rfl (wanted_yes rfl (by kernel_rfl) eg) ?_ (fun _ _ => rfl) (Ok.refl _)
            clear hF
            go_simp
          · intro a' w' hF hR
            obtain ⟨v16, hv16, e86⟩ := hF.get 16 86 (by kernel_rfl) (by kernel_rfl)
            obtain rfl : v16 = _ := hv16 _ (Ok.refl _)
            obtain ⟨v21, hv21, e91⟩ := hF.get 21 91 (by kernel_rfl) (by kernel_rfl)
            obtain rfl : v21 = _ := hv21 _ (Ok.refl _)
            obtain ⟨vg, hvg, eg⟩ := hF.get 11 81 (by kernel_rfl) (by kernel_rfl)
            obtain rfl : vg = _ := hvg _ (Ok.refl _)
            refine wpOp_callG (f := 15) (args := #[.agg #[.int .i64 mq.kind, .int .i64 mq.frm, .int .i64 mq.lo, .int .i64 mq.hi, .int .i64 mq.held, .int .i64 mq.hops, .bool mq.good, .bool mq.ref, .int .i64 mq.slo, .int .i64 mq.shi, .int .i64 mq.pulse, .int .i64 mq.time, .int .i64 mq.num, .slice B1 mq.table.length d1], .agg #[.int .i64 mq.kind, .int .i64 mq.frm, .int .i64 mq.lo, .int .i64 mq.hi, .int .i64 mq.held, .int .i64 mq.hops, .bool mq.good, .bool mq.ref, .int .i64 mq.slo, .int .i64 mq.shi, .int .i64 mq.pulse, .int .i64 mq.time, .int .i64 mq.num, .slice B2 mq.table.length d2]]) rfl (wanted_yes rfl (by kernel_rfl) eg) ?_ ((KSM.out _ hR).mono ?_)
            · go_simp
            · rintro e w2 ⟨rfl, hb2⟩; exact ⟨_, rfl, fun _ _ => rfl, hb2⟩
          · intro a' w' hF hR
            obtain ⟨v22, hv22, e92⟩ := hF.get 22 92 (by kernel_rfl) (by kernel_rfl)
            obtain rfl : v22 = _ := hv22 _ (Ok.refl _)
            obtain ⟨vg, hvg, eg⟩ := hF.get 11 81 (by kernel_rfl) (by kernel_rfl)
            obtain rfl : vg = _ := hvg _ (Ok.refl _)
            refine wpOp_runG (v := .bool false) rfl (wanted_yes rfl (by kernel_rfl) eg) ?_ (fun _ _ => rfl) (Ok.refl _)
            clear hF
            go_simp
          · intro a' w' hF hR
            obtain ⟨v11, hv11, e81⟩ := hF.get 11 81 (by kernel_rfl) (by kernel_rfl)
            obtain rfl : v11 = _ := hv11 _ (Ok.refl _)
            obtain ⟨v23, hv23, e93⟩ := hF.get 23 93 (by kernel_rfl) (by kernel_rfl)
            obtain rfl : v23 = _ := hv23 _ (Ok.refl _)
            refine wpOp_run (v := .bool false) rfl rfl ?_ (fun _ _ => rfl) (Ok.refl _)
            clear hF
            go_simp
          intro vs w2 hV hR
          have e24 : vs 24 = .bool false := hV 24 (by decide) _ (Ok.refl _)
          have j2 := (HJ3.out.trans (Ok.refl wr).drew).trans hR
          clear hV HR1 HR2 KSM HJ3 HQL
          simp only [putFrom, e24]
          simp only [Act.put, List.setIfInBounds_toArray, List.set_cons_zero, List.set_cons_succ]
          generalize vs 0 = x300
          generalize vs 1 = x301
          generalize vs 2 = x302
          generalize vs 3 = x303
          generalize vs 4 = x304
          generalize vs 5 = x305
          generalize vs 6 = x306
          generalize vs 7 = x307
          generalize vs 8 = x308
          generalize vs 9 = x309
          generalize vs 10 = x310
          generalize vs 11 = x311
          generalize vs 12 = x312
          generalize vs 13 = x313
          generalize vs 14 = x314
          generalize vs 15 = x315
          generalize vs 16 = x316
          generalize vs 17 = x317
          generalize vs 18 = x318
          generalize vs 19 = x319
          generalize vs 20 = x320
          generalize vs 21 = x321
          generalize vs 22 = x322
          generalize vs 23 = x323
          clear hR e24 vs
          go_wp2_with fail
          go_roundw
          case rel => exact ⟨q + 1, by omega, by go_num, j2⟩
          case measure => simp [intOf]; omega
        · clear hm1 hm2 hl1 hl2 hH1 hH2 hq2
          have hok := HOK2.out.trans j1
          have hDB := hB.next j1
          have hXx := hX.next j1
          clear hB hX j1
          obtain ⟨i0, i1, i2, i3, i4, i5⟩ := hXx.inp
          have hxl := hXx.lt
          have hGl := hDB.g.lt
          have hRl := hDB.r.lt
          go_upto_region 22 with (go_at_call 16; refine (KBE.out _ _ _ hok hDB.g hDB.tg HAG.out).mono ?_; rintro e w5 ⟨A3, c3, A7, c7, rfl, hG2, hT7, hT3, hon⟩; clear i0 i1 i2 i3 i4 i5 hxl)
          have hP2 := hon.own hDB.pb HNE.out.1
          have hR2 := hon.own hDB.r HNE.out.2.1
          have hX2 := hon.own hXx HNE.out.2.2.1
          have hR2t := pairs_only22 hDB.tr hon HRG.out
          have hok2 := Only.then_ok hok hon HNE.out.2.2.2
          have hA7 := row_lt22 hT7
          have hA3 := row_lt22 hT3
          have hP7 := (TabRow.pairs hT7).1
          have hP3 := (TabRow.pairs hT3).1
          have hPl := hDB.pb.lt
          have hws := hon.size
          clear hok hDB hXx hon hT7 hT3
          change Code.wp _ _ _ _ (w5.alloc (.cells #[.int .i64 m.kind, .int .i64 m.frm, .int .i64 m.lo, .int .i64 m.hi, .int .i64 m.held, .int .i64 m.hops, .bool m.good, .bool m.ref, .int .i64 m.slo, .int .i64 m.shi, .int .i64 m.pulse, .int .i64 m.time, .int .i64 m.num, .slice A3 m.table.length c3] 47))
          have h16 := Own.new w5 #[.int .i64 m.kind, .int .i64 m.frm, .int .i64 m.lo, .int .i64 m.hi, .int .i64 m.held, .int .i64 m.hops, .bool m.good, .bool m.ref, .int .i64 m.slo, .int .i64 m.shi, .int .i64 m.pulse, .int .i64 m.time, .int .i64 m.num, .slice A3 m.table.length c3] 47 rfl
          have k1 := (Ok.refl w5).alloc (.cells #[.int .i64 m.kind, .int .i64 m.frm, .int .i64 m.lo, .int .i64 m.hi, .int .i64 m.held, .int .i64 m.hops, .bool m.good, .bool m.ref, .int .i64 m.slo, .int .i64 m.shi, .int .i64 m.pulse, .int .i64 m.time, .int .i64 m.num, .slice A3 m.table.length c3] 47)
          replace hP2 := hP2.next k1
          replace hR2 := hR2.next k1
          replace hX2 := hX2.next k1
          replace hG2 := hG2.next k1
          replace hR2t := hR2t.below k1
          replace hok2 := hok2.trans k1
          replace hP7 := hP7.below k1
          replace hP3 := hP3.below k1
          have h56 := k1.size
          clear k1
          generalize w5.alloc (.cells #[.int .i64 m.kind, .int .i64 m.frm, .int .i64 m.lo, .int .i64 m.hi, .int .i64 m.held, .int .i64 m.hops, .bool m.good, .bool m.ref, .int .i64 m.slo, .int .i64 m.shi, .int .i64 m.pulse, .int .i64 m.time, .int .i64 m.num, .slice A3 m.table.length c3] 47) = W6 at h16 hP2 hR2 hX2 hG2 hR2t hok2 hP7 hP3 h56 ⊢
          obtain ⟨M16, h16e⟩ : ∃ y, w5.heap.size = y := ⟨_, rfl⟩
          rw [h16e] at h16 hA7 hA3 h56 hws
          rw [h16e]
          go_upto_region 23 with fail
          change Code.wp _ _ _ _ (W6.alloc (.cells #[.int .i64 0, .int .i64 0, .int .i64 0, .int .i64 0, .int .i64 0, .int .i64 0, .bool false, .bool false, .int .i64 0, .int .i64 0, .int .i64 0, .int .i64 0, .int .i64 0, .slice none 0 0] 47))
          have h17 := Own.new W6 #[.int .i64 0, .int .i64 0, .int .i64 0, .int .i64 0, .int .i64 0, .int .i64 0, .bool false, .bool false, .int .i64 0, .int .i64 0, .int .i64 0, .int .i64 0, .int .i64 0, .slice none 0 0] 47 rfl
          have k1 := (Ok.refl W6).alloc (.cells #[.int .i64 0, .int .i64 0, .int .i64 0, .int .i64 0, .int .i64 0, .int .i64 0, .bool false, .bool false, .int .i64 0, .int .i64 0, .int .i64 0, .int .i64 0, .int .i64 0, .slice none 0 0] 47)
          have h16l := h16.lt
          replace h16 := h16.next k1
          replace hP2 := hP2.next k1
          replace hR2 := hR2.next k1
          replace hX2 := hX2.next k1
          replace hG2 := hG2.next k1
          replace hR2t := hR2t.below k1
          replace hok2 := hok2.trans k1
          replace hP7 := hP7.below k1
          replace hP3 := hP3.below k1
          clear k1
          generalize W6.alloc (.cells #[.int .i64 0, .int .i64 0, .int .i64 0, .int .i64 0, .int .i64 0, .int .i64 0, .bool false, .bool false, .int .i64 0, .int .i64 0, .int .i64 0, .int .i64 0, .int .i64 0, .slice none 0 0] 47) = W7 at h16 h17 hP2 hR2 hX2 hG2 hR2t hok2 hP7 hP3 ⊢
          obtain ⟨M17, h17e⟩ : ∃ y, W6.heap.size = y := ⟨_, rfl⟩
          rw [h17e] at h17 h16l h56
          rw [h17e]
          have h17l := h17.lt
          have hRN : R ≠ M17 := by omega
          have hNR : M17 ≠ R := by omega
          obtain ⟨p0, p1, p2, p3, p4, p5, p6, p7, p8, p9, p10, p11⟩ := hP2.pars
          have hpl := hP2.lt
          obtain ⟨s0, s1, s2, s3, s4, s5, s6, s7, s8, s9, s10⟩ := hR2.sta
          have hsl := hR2.lt
          obtain ⟨i0, i1, i2, i3, i4, i5⟩ := hX2.inp
          have hxl := hX2.lt
          go_upto_region 24 with (go_at_call 17; refine (KRB.out _ _ _ hok2 hR2t).mono ?_; rintro e w7 ⟨A8, c8, A9, c9, rfl, h8, h9, hb⟩; clear p0 p1 p2 p3 p4 p5 p6 p7 p8 p9 p10 p11 hpl i0 i1 i2 i3 i4 i5 hxl s0 s1 s2 s3 s4 s5 s6 s7 s8 s9 s10 hsl hR2t; have h7s := hb.size; replace h16 := h16.next hb; replace h17 := h17.next hb; replace hP2 := hP2.next hb; replace hR2 := hR2.next hb; replace hG2 := hG2.next hb; replace hok2 := hok2.trans hb; replace hP7 := hP7.below hb; replace hP3 := hP3.below hb; clear hb hX2; obtain ⟨s0, s1, s2, s3, s4, s5, s6, s7, s8, s9, s10⟩ := hR2.sta; obtain ⟨y0, y1, y2, y3, y4, y5, y6, y7, y8, y9, y10⟩ := frozenSta hR2; have hsl := hR2.lt; have m0 := h17.cell 0 rfl; have f0 := h17.frozen 0; have m1 := h17.cell 1 rfl; have f1 := h17.frozen 1; have m2 := h17.cell 2 rfl; have f2 := h17.frozen 2; have m3 := h17.cell 3 rfl; have f3 := h17.frozen 3; have m4 := h17.cell 4 rfl; have f4 := h17.frozen 4; have m5 := h17.cell 5 rfl; have f5 := h17.frozen 5; have m6 := h17.cell 6 rfl; have f6 := h17.frozen 6; have m7 := h17.cell 7 rfl; have f7 := h17.frozen 7; have m8 := h17.cell 8 rfl; have f8 := h17.frozen 8; have m9 := h17.cell 9 rfl; have f9 := h17.frozen 9; have m10 := h17.cell 10 rfl; have f10 := h17.frozen 10; have m11 := h17.cell 11 rfl; have f11 := h17.frozen 11; have m12 := h17.cell 12 rfl; have f12 := h17.frozen 12; have m13 := h17.cell 13 rfl; have f13 := h17.frozen 13; have hml := h17.lt)
          clear s0 s1 s2 s3 s4 s5 s6 s7 s8 s9 s10 y0 y1 y2 y3 y4 y5 y6 y7 y8 y9 y10 hsl m0 f0 m1 f1 m2 f2 m3 f3 m4 f4 m5 f5 m6 f6 m7 f7 m8 f8 m9 f9 m10 f10 m11 f11 m12 f12 m13 f13 hml
          have on8 := only_set11 (Only.refl R w7) (.inl rfl) t2 A8 c8
          have hRM : R < M16 := by omega
          have hGM : G < M16 := by omega
          have h67 : M16 < M17 := h16l
          have hA7r : ∀ a, A7 = some a → a.block ≠ R ∧ a.block ≠ M17 ∧ a.block ≠ G := fun a ha => by have := hA7 a ha; refine ⟨?_, ?_, ?_⟩ <;> omega
          have hA3r : ∀ a, A3 = some a → a.block ≠ R ∧ a.block ≠ M17 := fun a ha => by have := hA3 a ha; refine ⟨?_, ?_⟩ <;> omega
          have hA8r : ∀ a, A8 = some a → a.block ≠ R ∧ a.block ≠ M17 ∧ a.block ≠ G := fun a ha => by have := h8.2 a ha; refine ⟨?_, ?_, ?_⟩ <;> omega
          have hA9r : ∀ a, A9 = some a → a.block ≠ R ∧ a.block ≠ M17 := fun a ha => by have := h9.2 a ha; refine ⟨?_, ?_⟩ <;> omega
          replace hR2 := own_set11 hR2 t2 A8 c8
          replace hG2 := on8.own hG2 (by omega)
          replace hP2 := on8.own hP2 (by omega)
          replace h16 := on8.own h16 (by omega)
          replace h17 := on8.own h17 (by omega)
          replace hP7 := pairs_only22 hP7 on8 fun a ha => (hA7r a ha).1
          replace hP3 := pairs_only22 hP3 on8 fun a ha => (hA3r a ha).1
          replace h8 := pairs_only22 h8.1 on8 fun a ha => (hA8r a ha).1
          replace h9 := pairs_only22 h9.1 on8 fun a ha => (hA9r a ha).1
          replace hok2 := Only.then_ok hok2 on8 (by omega)
          clear on8
          generalize (((((((((((w7.setCell ⟨R, 0, none⟩ (.int .i64 t2.lo)).setCell ⟨R, 1, none⟩ (.int .i64 t2.hi)).setCell ⟨R, 2, none⟩ (.int .i64 t2.time)).setCell ⟨R, 3, none⟩ (.bool t2.set)).setCell ⟨R, 4, none⟩ (.int .i64 t2.held)).setCell ⟨R, 5, none⟩ (.int .i64 t2.hops)).setCell ⟨R, 6, none⟩ (.bool t2.good)).setCell ⟨R, 7, none⟩ (.slice A8 t2.table.length c8)).setCell ⟨R, 8, none⟩ (.int .i64 t2.st)).setCell ⟨R, 9, none⟩ (.int .i64 t2.sn)).setCell ⟨R, 10, none⟩ (.int .i64 t2.life)) = W8 at hR2 hG2 hP2 h16 h17 hP7 hP3 h8 h9 hok2 ⊢
          have on9 : Only M17 W8 ((((((((((((((W8.setCell ⟨M17, 0, none⟩ (.int .i64 m.kind)).setCell ⟨M17, 1, none⟩ (.int .i64 m.frm)).setCell ⟨M17, 2, none⟩ (.int .i64 m.lo)).setCell ⟨M17, 3, none⟩ (.int .i64 m.hi)).setCell ⟨M17, 4, none⟩ (.int .i64 m.held)).setCell ⟨M17, 5, none⟩ (.int .i64 m.hops)).setCell ⟨M17, 6, none⟩ (.bool m.good)).setCell ⟨M17, 7, none⟩ (.bool m.ref)).setCell ⟨M17, 8, none⟩ (.int .i64 m.slo)).setCell ⟨M17, 9, none⟩ (.int .i64 m.shi)).setCell ⟨M17, 10, none⟩ (.int .i64 m.pulse)).setCell ⟨M17, 11, none⟩ (.int .i64 m.time)).setCell ⟨M17, 12, none⟩ (.int .i64 m.num)).setCell ⟨M17, 13, none⟩ (.slice A9 m.table.length c9)) := (((((((((((((((Only.refl M17 W8).setR 0 (.int .i64 m.kind)).setR 1 (.int .i64 m.frm)).setR 2 (.int .i64 m.lo)).setR 3 (.int .i64 m.hi)).setR 4 (.int .i64 m.held)).setR 5 (.int .i64 m.hops)).setR 6 (.bool m.good)).setR 7 (.bool m.ref)).setR 8 (.int .i64 m.slo)).setR 9 (.int .i64 m.shi)).setR 10 (.int .i64 m.pulse)).setR 11 (.int .i64 m.time)).setR 12 (.int .i64 m.num)).setR 13 (.slice A9 m.table.length c9))
          replace h17 := own_over14 h17 (.int .i64 m.kind) (.int .i64 m.frm) (.int .i64 m.lo) (.int .i64 m.hi) (.int .i64 m.held) (.int .i64 m.hops) (.bool m.good) (.bool m.ref) (.int .i64 m.slo) (.int .i64 m.shi) (.int .i64 m.pulse) (.int .i64 m.time) (.int .i64 m.num) (.slice A9 m.table.length c9)
          replace hR2 := on9.own hR2 (by omega)
          replace hG2 := on9.own hG2 (by omega)
          replace hP2 := on9.own hP2 (by omega)
          replace h16 := on9.own h16 (by omega)
          replace hP7 := pairs_only22 hP7 on9 fun a ha => (hA7r a ha).2.1
          replace hP3 := pairs_only22 hP3 on9 fun a ha => (hA3r a ha).2
          replace h8 := pairs_only22 h8 on9 fun a ha => (hA8r a ha).2.1
          replace h9 := pairs_only22 h9 on9 fun a ha => (hA9r a ha).2
          replace hok2 := Only.then_ok hok2 on9 (by omega)
          clear on9
          generalize ((((((((((((((W8.setCell ⟨M17, 0, none⟩ (.int .i64 m.kind)).setCell ⟨M17, 1, none⟩ (.int .i64 m.frm)).setCell ⟨M17, 2, none⟩ (.int .i64 m.lo)).setCell ⟨M17, 3, none⟩ (.int .i64 m.hi)).setCell ⟨M17, 4, none⟩ (.int .i64 m.held)).setCell ⟨M17, 5, none⟩ (.int .i64 m.hops)).setCell ⟨M17, 6, none⟩ (.bool m.good)).setCell ⟨M17, 7, none⟩ (.bool m.ref)).setCell ⟨M17, 8, none⟩ (.int .i64 m.slo)).setCell ⟨M17, 9, none⟩ (.int .i64 m.shi)).setCell ⟨M17, 10, none⟩ (.int .i64 m.pulse)).setCell ⟨M17, 11, none⟩ (.int .i64 m.time)).setCell ⟨M17, 12, none⟩ (.int .i64 m.num)).setCell ⟨M17, 13, none⟩ (.slice A9 m.table.length c9)) = W9 at hR2 hG2 hP2 h16 h17 hP7 hP3 h8 h9 hok2 ⊢
          have HB := Lib.hid fun W' (k : Ok W9.drew W') => (DB.mk hP2 hG2 hR2 hP7 h8 : DB Bp G R me p t2 A7 A8 c7 c8 W9).next ((Ok.refl W9).drew.trans k)
          have HB16 := Lib.hid fun W' (k : Ok W9.drew W') => h16.next ((Ok.refl W9).drew.trans k)
          have HB17 := Lib.hid fun W' (k : Ok W9.drew W') => h17.next ((Ok.refl W9).drew.trans k)
          have KSS := Lib.hid fun W' (k : Ok W9.drew W') => KS21.out t2 HMT.out.2 A7 A8 c7 c8 W' (HB.out W' k).tg (HB.out W' k).tr
          have KSN2 := Lib.hid fun W' (k : Ok W9.drew W') => KSA.out m A3 c3 A9 c9 W' (by have := HMT.out.1; omega) (by rw [HMTT.out]; exact hP3.below ((Ok.refl W9).drew.trans k)) (by rw [HMTT.out]; exact h9.below ((Ok.refl W9).drew.trans k))
          have HA7 := Lib.hid fun a ha => (hA7r a ha).2.2
          have HA8 := Lib.hid fun a ha => (hA8r a ha).2.2
          have HOK9 := Lib.hid hok2
          clear hP2 hG2 hR2 hP7 h8 h16 h17 hP3 h9 hok2 hA7r hA3r hA8r hA9r hA7 hA3
          refine wp_region_facts (by kernel_rfl) 134 rfl (VCDo24 G R M16 M17 t2 A7 A8 A3 A9 c7 c8 c3 c9 m) Ok (by kernel_rfl) (fun i v w w' h k w'' k' => h w'' (k.trans k')) (fun a b c => Ok.trans) (Ok.refl _) [some 107, some 108, some 109, some 110, some 111, some 112, some 113, some 114, some 115, some 116, some 117, some 118, some 119, some 120] rfl 14 rfl ⟨?_, ?_, ?_, ?_, ?_, ?_, ?_, ?_, ?_, ?_, ?_, ?_, ?_, ?_, trivial⟩ ?_
          · intro a' w' hF hR
            have e16 : a'.tmps[16]? = some (.pointer (some ⟨M16, 0, none⟩)) := hF.slot 16 (by kernel_rfl) rfl
            have m0 := (HB16.out _ hR).cell 0 rfl
            have m1 := (HB16.out _ hR).cell 1 rfl
            have m2 := (HB16.out _ hR).cell 2 rfl
            have m3 := (HB16.out _ hR).cell 3 rfl
            have m4 := (HB16.out _ hR).cell 4 rfl
            have m5 := (HB16.out _ hR).cell 5 rfl
            have m6 := (HB16.out _ hR).cell 6 rfl
            have m7 := (HB16.out _ hR).cell 7 rfl
            have m8 := (HB16.out _ hR).cell 8 rfl
            have m9 := (HB16.out _ hR).cell 9 rfl
            have m10 := (HB16.out _ hR).cell 10 rfl
            have m11 := (HB16.out _ hR).cell 11 rfl
            have m12 := (HB16.out _ hR).cell 12 rfl
            have m13 := (HB16.out _ hR).cell 13 rfl
            have hml := (HB16.out _ hR).lt
            refine wpOp_run (v := .agg #[.int .i64 m.kind, .int .i64 m.frm, .int .i64 m.lo, .int .i64 m.hi, .int .i64 m.held, .int .i64 m.hops, .bool m.good, .bool m.ref, .int .i64 m.slo, .int .i64 m.shi, .int .i64 m.pulse, .int .i64 m.time, .int .i64 m.num, .slice A3 m.table.length c3]) rfl rfl ?_ (fun _ _ => rfl) (Ok.refl _)
            clear hF
            go_simp
          · intro a' w' hF hR
            have e17 : a'.tmps[17]? = some (.pointer (some ⟨M17, 0, none⟩)) := hF.slot 17 (by kernel_rfl) rfl
            have m0 := (HB17.out _ hR).cell 0 rfl
            have m1 := (HB17.out _ hR).cell 1 rfl
            have m2 := (HB17.out _ hR).cell 2 rfl
            have m3 := (HB17.out _ hR).cell 3 rfl
            have m4 := (HB17.out _ hR).cell 4 rfl
            have m5 := (HB17.out _ hR).cell 5 rfl
            have m6 := (HB17.out _ hR).cell 6 rfl
            have m7 := (HB17.out _ hR).cell 7 rfl
            have m8 := (HB17.out _ hR).cell 8 rfl
            have m9 := (HB17.out _ hR).cell 9 rfl
            have m10 := (HB17.out _ hR).cell 10 rfl
            have m11 := (HB17.out _ hR).cell 11 rfl
            have m12 := (HB17.out _ hR).cell 12 rfl
            have m13 := (HB17.out _ hR).cell 13 rfl
            have hml := (HB17.out _ hR).lt
            refine wpOp_run (v := .agg #[.int .i64 m.kind, .int .i64 m.frm, .int .i64 m.lo, .int .i64 m.hi, .int .i64 m.held, .int .i64 m.hops, .bool m.good, .bool m.ref, .int .i64 m.slo, .int .i64 m.shi, .int .i64 m.pulse, .int .i64 m.time, .int .i64 m.num, .slice A9 m.table.length c9]) rfl rfl ?_ (fun _ _ => rfl) (Ok.refl _)
            clear hF
            go_simp
          · intro a' w' hF hR
            obtain ⟨v0, hv0, e107⟩ := hF.get 0 107 (by kernel_rfl) (by kernel_rfl)
            obtain rfl : v0 = _ := hv0 _ (Ok.refl _)
            obtain ⟨v1, hv1, e108⟩ := hF.get 1 108 (by kernel_rfl) (by kernel_rfl)
            obtain rfl : v1 = _ := hv1 _ (Ok.refl _)
            clear hF
            refine wpOp_call (f := 15) (args := #[.agg #[.int .i64 m.kind, .int .i64 m.frm, .int .i64 m.lo, .int .i64 m.hi, .int .i64 m.held, .int .i64 m.hops, .bool m.good, .bool m.ref, .int .i64 m.slo, .int .i64 m.shi, .int .i64 m.pulse, .int .i64 m.time, .int .i64 m.num, .slice A3 m.table.length c3], .agg #[.int .i64 m.kind, .int .i64 m.frm, .int .i64 m.lo, .int .i64 m.hi, .int .i64 m.held, .int .i64 m.hops, .bool m.good, .bool m.ref, .int .i64 m.slo, .int .i64 m.shi, .int .i64 m.pulse, .int .i64 m.time, .int .i64 m.num, .slice A9 m.table.length c9]]) rfl rfl ?_ ((KSN2.out _ hR).mono ?_)
            · go_simp
            · rintro e w2 ⟨rfl, hb2⟩; exact ⟨_, rfl, fun _ _ => rfl, hb2⟩
          · intro a' w' hF hR
            obtain ⟨v2, hv2, e109⟩ := hF.get 2 109 (by kernel_rfl) (by kernel_rfl)
            obtain rfl : v2 = _ := hv2 _ (Ok.refl _)
            refine wpOp_run (v := .bool false) rfl rfl ?_ (fun _ _ => rfl) (Ok.refl _)
            clear hF
            go_simp
          · intro a' w' hF hR
            obtain ⟨v3, hv3, e110⟩ := hF.get 3 110 (by kernel_rfl) (by kernel_rfl)
            obtain rfl : v3 = _ := hv3 _ (Ok.refl _)
            refine wpOp_run (v := .bool false) rfl rfl ?_ (fun _ _ => rfl) (Ok.refl _)
            clear hF
            go_simp
          · intro a' w' hF hR
            have e9 : a'.tmps[9]? = some (.pointer (some ⟨G, 0, none⟩)) := hF.slot 9 (by kernel_rfl) rfl
            obtain ⟨vg, hvg, eg⟩ := hF.get 4 111 (by kernel_rfl) (by kernel_rfl)
            obtain rfl : vg = _ := hvg _ (Ok.refl _)
            refine wpOp_runG (v := .pointer (some ⟨G, 0, none⟩)) rfl (wanted_yes rfl (by kernel_rfl) eg) ?_ (fun _ _ => rfl) (Ok.refl _)
            clear hF
            go_simp
          · intro a' w' hF hR
            obtain ⟨v5, hv5, e112⟩ := hF.get 5 112 (by kernel_rfl) (by kernel_rfl)
            obtain rfl : v5 = _ := hv5 _ (Ok.refl _)
            obtain ⟨vg, hvg, eg⟩ := hF.get 4 111 (by kernel_rfl) (by kernel_rfl)
            obtain rfl : vg = _ := hvg _ (Ok.refl _)
            refine wpOp_runG (v := .pointer (some ⟨G, 0, none⟩)) rfl (wanted_yes rfl (by kernel_rfl) eg) ?_ (fun _ _ => rfl) (Ok.refl _)
            clear hF
            go_simp
          · intro a' w' hF hR
            obtain ⟨v6, hv6, e113⟩ := hF.get 6 113 (by kernel_rfl) (by kernel_rfl)
            obtain rfl : v6 = _ := hv6 _ (Ok.refl _)
            obtain ⟨vg, hvg, eg⟩ := hF.get 4 111 (by kernel_rfl) (by kernel_rfl)
            obtain rfl : vg = _ := hvg _ (Ok.refl _)
            refine wpOp_runG (v := .pointer (some ⟨G, 0, none⟩)) rfl (wanted_yes rfl (by kernel_rfl) eg) ?_ (fun _ _ => rfl) (Ok.refl _)
            clear hF
            go_simp
          · intro a' w' hF hR
            obtain ⟨v7, hv7, e114⟩ := hF.get 7 114 (by kernel_rfl) (by kernel_rfl)
            obtain rfl : v7 = _ := hv7 _ (Ok.refl _)
            obtain ⟨vg, hvg, eg⟩ := hF.get 4 111 (by kernel_rfl) (by kernel_rfl)
            obtain rfl : vg = _ := hvg _ (Ok.refl _)
            refine wpOp_runG (v := .pointer (some ⟨G, 12, none⟩)) rfl (wanted_yes rfl (by kernel_rfl) eg) ?_ (fun _ _ => rfl) (Ok.refl _)
            clear hF
            go_simp
          · intro a' w' hF hR
            obtain ⟨v8, hv8, e115⟩ := hF.get 8 115 (by kernel_rfl) (by kernel_rfl)
            obtain rfl : v8 = _ := hv8 _ (Ok.refl _)
            obtain ⟨vg, hvg, eg⟩ := hF.get 4 111 (by kernel_rfl) (by kernel_rfl)
            obtain rfl : vg = _ := hvg _ (Ok.refl _)
            obtain ⟨q0, q1, q2, q3, q4, q5, q6, q7, q8, q9, q10⟩ := (HB.out _ hR).g.frS
            have hgl := (HB.out _ hR).g.lt
            refine wpOp_runG (v := .agg #[.int .i64 t2.lo, .int .i64 t2.hi, .int .i64 t2.time, .bool t2.set, .int .i64 t2.held, .int .i64 t2.hops, .bool t2.good, .slice A7 t2.table.length c7, .int .i64 t2.st, .int .i64 t2.sn, .int .i64 t2.life]) rfl (wanted_yes rfl (by kernel_rfl) eg) ?_ (fun _ _ => rfl) (Ok.refl _)
            clear hF
            go_simp
          · intro a' w' hF hR
            have e10 : a'.tmps[10]? = some (.pointer (some ⟨R, 0, none⟩)) := hF.slot 10 (by kernel_rfl) rfl
            obtain ⟨vg, hvg, eg⟩ := hF.get 4 111 (by kernel_rfl) (by kernel_rfl)
            obtain rfl : vg = _ := hvg _ (Ok.refl _)
            obtain ⟨q0, q1, q2, q3, q4, q5, q6, q7, q8, q9, q10⟩ := (HB.out _ hR).r.sta
            have hrl := (HB.out _ hR).r.lt
            refine wpOp_runG (v := .agg #[.int .i64 t2.lo, .int .i64 t2.hi, .int .i64 t2.time, .bool t2.set, .int .i64 t2.held, .int .i64 t2.hops, .bool t2.good, .slice A8 t2.table.length c8, .int .i64 t2.st, .int .i64 t2.sn, .int .i64 t2.life]) rfl (wanted_yes rfl (by kernel_rfl) eg) ?_ (fun _ _ => rfl) (Ok.refl _)
            clear hF
            go_simp
          · intro a' w' hF hR
            obtain ⟨v9, hv9, e116⟩ := hF.get 9 116 (by kernel_rfl) (by kernel_rfl)
            obtain rfl : v9 = _ := hv9 _ (Ok.refl _)
            obtain ⟨v10, hv10, e117⟩ := hF.get 10 117 (by kernel_rfl) (by kernel_rfl)
            obtain rfl : v10 = _ := hv10 _ (Ok.refl _)
            obtain ⟨vg, hvg, eg⟩ := hF.get 4 111 (by kernel_rfl) (by kernel_rfl)
            obtain rfl : vg = _ := hvg _ (Ok.refl _)
            refine wpOp_callG (f := 12) (args := #[.agg #[.int .i64 t2.lo, .int .i64 t2.hi, .int .i64 t2.time, .bool t2.set, .int .i64 t2.held, .int .i64 t2.hops, .bool t2.good, .slice A7 t2.table.length c7, .int .i64 t2.st, .int .i64 t2.sn, .int .i64 t2.life], .agg #[.int .i64 t2.lo, .int .i64 t2.hi, .int .i64 t2.time, .bool t2.set, .int .i64 t2.held, .int .i64 t2.hops, .bool t2.good, .slice A8 t2.table.length c8, .int .i64 t2.st, .int .i64 t2.sn, .int .i64 t2.life]]) rfl (wanted_yes rfl (by kernel_rfl) eg) ?_ ((KSS.out _ hR).mono ?_)
            · go_simp
            · rintro e w2 ⟨rfl, hb2⟩; exact ⟨_, rfl, fun _ _ => rfl, hb2⟩
          · intro a' w' hF hR
            obtain ⟨v11, hv11, e118⟩ := hF.get 11 118 (by kernel_rfl) (by kernel_rfl)
            obtain rfl : v11 = _ := hv11 _ (Ok.refl _)
            obtain ⟨vg, hvg, eg⟩ := hF.get 4 111 (by kernel_rfl) (by kernel_rfl)
            obtain rfl : vg = _ := hvg _ (Ok.refl _)
            refine wpOp_runG (v := .bool false) rfl (wanted_yes rfl (by kernel_rfl) eg) ?_ (fun _ _ => rfl) (Ok.refl _)
            clear hF
            go_simp
          · intro a' w' hF hR
            obtain ⟨v4, hv4, e111⟩ := hF.get 4 111 (by kernel_rfl) (by kernel_rfl)
            obtain rfl : v4 = _ := hv4 _ (Ok.refl _)
            obtain ⟨v12, hv12, e119⟩ := hF.get 12 119 (by kernel_rfl) (by kernel_rfl)
            obtain rfl : v12 = _ := hv12 _ (Ok.refl _)
            refine wpOp_run (v := .bool false) rfl rfl ?_ (fun _ _ => rfl) (Ok.refl _)
            clear hF
            go_simp
          intro vs w8 hV hR
          have e13 : vs 13 = .bool false := hV 13 (by decide) _ (Ok.refl _)
          have hDB := HB.out _ hR
          have hok := (HOK9.out.trans (Ok.refl W9).drew).trans hR
          clear hV HB HB16 HB17 KSS KSN2 HOK9
          simp only [putFrom, e13]
          simp only [Act.put, List.setIfInBounds_toArray, List.set_cons_zero, List.set_cons_succ]
          generalize vs 0 = x500
          generalize vs 1 = x501
          generalize vs 2 = x502
          generalize vs 3 = x503
          generalize vs 4 = x504
          generalize vs 5 = x505
          generalize vs 6 = x506
          generalize vs 7 = x507
          generalize vs 8 = x508
          generalize vs 9 = x509
          generalize vs 10 = x510
          generalize vs 11 = x511
          generalize vs 12 = x512
          clear hR e13 vs
          go_wp2_with fail
          go_roundw
          case rel => exact ⟨k + 1, t2, A7, A8, c7, c8, by omega, by go_num, hDB, HA7.out, HA8.out, HMT.out.2, hok⟩
          case measure => simp [intOf]; omega
    · clear hDB hAG hRG
      have KBN := Lib.hid fun w => gateBeatNil w
      have KSY := Lib.hid fun w => gateSayNil w
      have KSZ := Lib.hid fun w => KSA.out zeroMsg none 0 none 0 w (by decide) (PairsAt.empty _ _) (PairsAt.empty _ _)
      have hzi : ∀ w, Sem.run Tryz.prog (zeroValue 44) w = .ok (.agg #[.int .i64 0, .slice none 0 0, .bool false, .int .i64 0, .bool false, .slice none 0 0]) w := fun w => by kernel_rfl
      have hzm : ∀ w, Sem.run Tryz.prog (zeroValue 47) w = .ok (.agg #[.int .i64 0, .int .i64 0, .int .i64 0, .int .i64 0, .int .i64 0, .int .i64 0, .bool false, .bool false, .int .i64 0, .int .i64 0, .int .i64 0, .int .i64 0, .int .i64 0, .slice none 0 0]) w := fun w => by kernel_rfl
      go_wp2_with (first | (go_at_call 16; refine (KBN.out _).mono ?_; rintro e w5 ⟨rfl, hb1⟩; replace hok := hok.trans hb1; clear hb1) | (go_at_call 18; refine (KSY.out _).mono ?_; rintro e w5 ⟨rfl, hb1⟩; replace hok := hok.trans hb1; clear hb1) | (go_at_call 15; refine (KSZ.out _).mono ?_; rintro e w5 ⟨rfl, hb1⟩; replace hok := hok.trans hb1; clear hb1))
      go_ret
      exact ⟨rfl, hok⟩
theorem walk (w : World) (p : Par) (wp : ParWf p) (me : Int) (wme : (Lit.int .i64 me).wf = true) (s : Sta) (A : Option Addr) (cap : Nat) (hA : PairsAt w A s.table) (hcs : s.table.length ≤ cap) (hms : cap ≤ maxLen) (ws : StaWf s) (B : Option Addr) (l : List In) (cl : Nat) (hB : InsAt w B l) (hlB : l.length ≤ cl) (hcB : cl ≤ maxLen) (hwB : ∀ x ∈ l, InWf x) :
    Calls Tryz.prog 3 #[parV p, .int .i64 me, staV s A cap, .slice B l.length cl] w fun e w' => e = .returned (.bool true) ∧ Below w.heap.size w w' :=
  walkF works22 w p me s A cap B l cl hA (Nat.le_trans hcs (Nat.le_trans hms (by decide))) hB (Nat.le_trans hlB (Nat.le_trans hcB (by decide))) (fun x hx => Nat.le_trans (hwB x hx).hlen (Nat.le_trans (hwB x hx).hcap (by decide))) (wf_bd wp.2.1)
theorem own : ownKnob Tryz.prog.godebug = none := by kernel_rfl
theorem laidOut : laidOutB Tryz.prog = true := by kernel_rfl
set_option maxRecDepth 100000 in
theorem lifted (os : Os) (started : os.Started) (H : Type) (enc : TypeId × Value → H) :
    ReturnsInHanded {} Tryz.checked os 3 .any (Rows.gateDoesSpec.pre6 enc Tryz.prog Tryz.f3 Rows.gateDoesRow.domain false) (Rows.gateDoesSpec.post enc Tryz.prog Tryz.f3 false true false false) := by
  refine returnsInHanded_of_change (C := Tryz.checked) own started (by kernel_rfl) Tryz.func3
    (ChangeSpec.witness6 (enc := enc) (C := Tryz.checked) false ⟨#[], #[.agg #[.int .i64 0, .int .i64 0, .int .i64 0, .int .i64 0, .int .i64 0, .int .i64 0, .int .i64 0, .int .i64 0, .int .i64 0, .int .i64 0, .int .i64 0, .int .i64 0], .int .i64 0, .agg #[.int .i64 0, .int .i64 0, .int .i64 0, .bool false, .int .i64 0, .int .i64 0, .bool false, .slice none 0 0, .int .i64 0, .int .i64 0, .int .i64 0], .slice none 0 0], []⟩ 8 (by kernel_rfl) (by kernel_rfl) (by kernel_rfl) (by kernel_rfl)) ?_
  intro W base args ds gs before hval0 hW _ _
  have hval : ∀ (j : Nat) t v, Tryz.f3.params[j]? = some t → args[j]? = some v → Value.okWide Tryz.prog W .any base t v := hval0
  have hW' := hW
  obtain ⟨p, q, hA, hV, rfl, _, _⟩ := hW
  obtain ⟨rfl, rfl⟩ := trodVars_none hV
  replace hA : DataW.TrodAll enc Tryz.prog W 0 (fun _ => true) true Tryz.f3.params.toList args.toList ds p := hA
  rw [Tryz.params3] at hA hval
  obtain ⟨v0, vs0, d0, ds0, p0, q0, hargs, rfl, rfl, h0, r0⟩ := trodAll_cons hA
  obtain ⟨v1, vs1, d1, ds1, p1, q1, rfl, rfl, rfl, h1, r1⟩ := trodAll_cons r0
  obtain ⟨v2, vs2, d2, ds2, p2, q2, rfl, rfl, rfl, h2, r2⟩ := trodAll_cons r1
  obtain ⟨v3, vs3, d3, ds3, p3, q3, rfl, rfl, rfl, h3, r3⟩ := trodAll_cons r2
  obtain ⟨rfl, rfl, rfl⟩ := trodAll_nil r3
  obtain rfl : args = #[v0, v1, v2, v3] := by cases args; simp_all
  obtain ⟨p0, rfl, wp0⟩ := open_par Tryz.underlying23 rfl (by kernel_rfl) (by kernel_rfl) (by kernel_rfl) (hval 0 23 v0 rfl rfl) h0
  obtain ⟨a1, rfl, rfl, rfl, w1⟩ := open_int Tryz.underlying3 (hval 1 3 v1 rfl rfl) h1
  obtain ⟨s2, A2, c2, rfl, hA2, hc2, hm2, w2⟩ := open_sta (hval 2 30 v2 rfl rfl) h2
  obtain ⟨A3, l3, c3, rfl, hA3, hl3, hc3, hw3⟩ := open_inputs (hval 3 31 v3 rfl rfl) h3
  refine (walk W p0 wp0 a1 w1 s2 A2 c2 hA2 hc2 hm2 w2 A3 l3 c3 hA3 hl3 hc3 hw3).mono fun e W' ⟨he, hb⟩ => ?_
  subst he
  exact ⟨_, rfl, law_post hW' laidOut (by rw [Tryz.params3]; exact params_ok (by kernel_rfl)) rfl (by kernel_rfl) Tryz.underlying4 rfl rfl rfl hb⟩
theorem over : Rows.gateDoesRow.holds Tryz.pinned (OpenSpec.ofChange Rows.gateDoesSpec) :=
  OpenClaim.holds_of_wide 3 Tryz.f3 rfl rfl rfl rfl rfl rfl rfl ⟨rfl, rfl, rfl, rfl, rfl⟩ rfl rfl rfl rfl rfl (by kernel_rfl) Tryz.func3 (by kernel_rfl)
    (of_decide_eq_true (by kernel_rfl)) (by unfold Func.isWrapper; first | (rw [if_pos (by decide +kernel)]; kernel_rfl) | (rw [if_neg (by decide +kernel)]; exact ⟨rfl, rfl⟩))
    (fun os started H enc _ => lifted os started H enc)
theorem proved : Rows.GateDoesSaid := over
end Go.Proofs.YtmmiboblofopgaaGreat.gateDoes
