/- Contracts of layer 22: what the document tells of a state. -/
import Derived.Test.YtmmiboblofopgaaGreatC22f
import Derived.Test.YtmmiboblofopgaaGreatC22s
import Derived.Test.YtmmiboblofopgaaGreatB13
import Derived.Test.YtmmiboblofopgaaGreatB12
import Derived.Test.YtmmiboblofopgaaGreatC13a
import Derived.Test.YtmmiboblofopgaaGreatWX
import Derived.Test.YtmmiboblofopgaaGreatB17
import Derived.Deep.CutRange
namespace Go.Proofs.YtmmiboblofopgaaGreat
open Go.RowKit
set_option linter.unusedVariables false
set_option maxRecDepth 100000
attribute [local go_sem ↓] Go.wp_at_zero Go.wp_at_succ
theorem leapInfo22 : (Tryz.prog.info? 68).map (fun i => (i.zero, i.size, i.bytes)) = some (some (.agg #[.int .i64 0, .int .i64 0]), 2, 16) := by kernel_rfl
theorem eval_tmp22 {a : Act} {k : Tmp} {v : Value} (h : a.tmps[k]? = some v) : a.eval (.tmp k) = v := by
  simp [Act.eval, Array.getD_eq_getD_getElem?, h]
theorem cells_of_pairs22 {w : World} {A : Option Addr} {l : List (Int × Int)} (h : PairsAt w A l) : CellsAt w A (cellsOfPairs l) := fun j u hj => by
  have hlt : j < l.length * 2 := by rw [← cells_pairs_length]; exact (List.getElem?_eq_some_iff.1 hj).1
  have hk : j / 2 < l.length := by omega
  obtain ⟨b, off, e, hb, h1, h2⟩ := h (j / 2) hk
  obtain ⟨a1, a2⟩ := cellsOfPairs_at l (j / 2) hk
  refine ⟨b, off, e, hb, ?_⟩
  rcases Nat.mod_two_eq_zero_or_one j with g | g
  · have e2 : j = j / 2 * 2 := by omega
    rw [e2, a1] at hj
    cases hj
    rw [show off + j = off + j / 2 * 2 by omega]
    exact h1
  · have e2 : j = j / 2 * 2 + 1 := by omega
    rw [e2, a2] at hj
    cases hj
    rw [show off + j = off + j / 2 * 2 + 1 by omega]
    exact h2
/-- A block without a cell. -/
structure Nil22 (w : World) (g : Nat) : Prop where
  blk : w.heap[g]? = some (.cells #[] 68 (0, 0))
theorem Nil22.next {w w' : World} {g : Nat} (h : Nil22 w g) (k : Ok w w') : Nil22 w' g := ⟨(k.below.block g (Array.getElem?_eq_some_iff.1 h.blk).1).trans h.blk⟩
theorem Nil22.only {w w' : World} {g r : Nat} (h : Nil22 w g) (k : Only r w w') (hne : g ≠ r) : Nil22 w' g := ⟨(k.block g (Array.getElem?_eq_some_iff.1 h.blk).1 hne).trans h.blk⟩
/-- Of the blocks that were there only G may have changed, and that to this state. -/
structure Turn8 (G : Nat) (t : Sta) (A : Option Addr) (cap : Nat) (w w' : World) : Prop where
  only : Only G w w'
  own : ∀ cs, Own w G cs → Own w' G cs ∨ Own w' G (staCells t A cap)
namespace Turn8
variable {G : Nat} {t : Sta} {A : Option Addr} {cap : Nat} {w w1 w2 : World}
theorem refl (w : World) : Turn8 G t A cap w w := ⟨Only.refl G w, fun _ h => .inl h⟩
theorem of_ok (k : Ok w w1) : Turn8 G t A cap w w1 := ⟨Only.of_ok k, fun _ h => .inl (h.next k)⟩
theorem kept (h : Turn8 G t A cap w w1) (c : Own w G (staCells t A cap)) : Own w1 G (staCells t A cap) := by
  rcases h.own _ c with c | c <;> exact c
theorem trans (h : Turn8 G t A cap w w1) (j : Turn8 G t A cap w1 w2) : Turn8 G t A cap w w2 := ⟨h.only.trans j.only, fun cs c => by
  rcases h.own cs c with c | c
  · exact j.own cs c
  · exact .inr (j.kept c)⟩
end Turn8
theorem Nil22.new (w : World) : Nil22 (w.alloc (.cells #[] 68)) w.heap.size := ⟨(MapKept.heap_alloc w _).1⟩
/-- What each operation leaves. -/
def VMRSay (BS E R8 N2 : Nat) (t : Sta) (A : Option Addr) (cap : Nat) (kind me q1 q2 pn : Int) (rd : Bool) (w : World) (v : Value) : Nat → Prop
  | 0 => v = .agg #[.int .i64 t.lo, .int .i64 t.hi, .int .i64 t.time, .bool t.set, .int .i64 t.held, .int .i64 t.hops, .bool t.good, .slice A t.table.length cap, .int .i64 t.st, .int .i64 t.sn, .int .i64 t.life]
  | 1 => v = .int .i64 kind
  | 2 => v = .int .i64 me
  | 3 => v = .pointer (some ⟨BS, 0, none⟩)
  | 4 => v = .agg #[.int .i64 t.lo, .int .i64 t.hi]
  | 5 => v = .pointer (some ⟨BS, 4, none⟩)
  | 6 => v = .int .i64 t.held
  | 7 => v = .pointer (some ⟨BS, 5, none⟩)
  | 8 => v = .int .i64 t.hops
  | 9 => v = .pointer (some ⟨BS, 6, none⟩)
  | 10 => v = .bool t.good
  | 11 => v = .bool rd
  | 12 => v = .agg #[.int .i64 q1, .int .i64 q2]
  | 13 => v = .int .i64 pn
  | 14 => v = .pointer (some ⟨BS, 8, none⟩)
  | 15 => v = .agg #[.int .i64 t.st, .int .i64 t.sn]
  | 16 => ∃ g : Nat, v = .slice (some ⟨g, 0, none⟩) 0 0 ∧ Nil22 w g ∧ N2 ≤ g
  | 17 => v = .pointer (some ⟨BS, 7, none⟩)
  | 18 => v = .slice A t.table.length cap
  | 19 => ∃ (A3 : Option Addr) (c3 : Nat), v = .slice A3 t.table.length c3 ∧ TabRow N2 w A3 c3 t.table
  | 20 => ∃ (A3 : Option Addr) (c3 : Nat), v = .agg #[.int .i64 kind, .int .i64 me, .int .i64 t.lo, .int .i64 t.hi, .int .i64 t.held, .int .i64 t.hops, .bool t.good, .bool rd, .int .i64 q1, .int .i64 q2, .int .i64 pn, .int .i64 t.st, .int .i64 t.sn, .slice A3 t.table.length c3] ∧ TabRow N2 w A3 c3 t.table
  | 21 => Own w R8 (staCells t A cap)
  | _ => v = .bool true
/-- It stays so. -/
def VCRSay (BS E R8 N2 : Nat) (t : Sta) (A : Option Addr) (cap : Nat) (kind me q1 q2 pn : Int) (rd : Bool) (i : Nat) (v : Value) (w : World) : Prop := ∀ w', (Turn8 R8 t A cap) w w' → VMRSay BS E R8 N2 t A cap kind me q1 q2 pn rd w' v i
set_option maxHeartbeats 6400000 in
theorem ref22Say (p : Par) (s : Sta) (A : Option Addr) (cap : Nat) (kind me : Int) (rd : Bool) (q1 q2 : Int) (w : World) (hA : PairsAt w A s.table) (hl : s.table.length ≤ 1000000) :
    Calls Tryz.prog 47 #[parV p, staV s A cap, .int .i64 kind, .int .i64 me, .bool rd, spanV q1 q2] w fun e w' => ∃ (A3 : Option Addr) (c3 : Nat), e = .returned (.tuple #[staV (Health.stamped s) A cap, msgV (Gate.say p s kind me rd (q1, q2)) A3 c3]) ∧ TabRow w.heap.size w' A3 c3 s.table ∧ Ok w w' := by
  have KO := Lib.hid fun w => ref21Of p s A cap w
  have KN := Lib.hid fun w => refNumber p s.time w
  have KT := Lib.hid fun w => ref21Stamped s A cap w
  obtain ⟨t, ht⟩ : ∃ y, Health.stamped s = y := ⟨_, rfl⟩
  obtain ⟨pn, hpn⟩ : ∃ y, (if Health.of p s = 0 then (0 : Int) else Pulse.num p.pulse s.time) = y := ⟨_, rfl⟩
  obtain ⟨mv, hmv⟩ : ∃ f : Option Addr → Nat → Value, (fun A3 c3 => msgV (Gate.say p s kind me rd (q1, q2)) A3 c3) = f := ⟨_, rfl⟩
  have hmv' : ∀ A3 c3, msgV (Gate.say p s kind me rd (q1, q2)) A3 c3 = mv A3 c3 := fun A3 c3 => congrFun (congrFun hmv A3) c3
  simp only [hmv']
  have HMV : Hid (∀ A3 c3, mv A3 c3 = .agg #[.int .i64 kind, .int .i64 me, .int .i64 t.lo, .int .i64 t.hi, .int .i64 t.held, .int .i64 t.hops, .bool t.good, .bool rd, .int .i64 q1, .int .i64 q2, .int .i64 pn, .int .i64 t.st, .int .i64 t.sn, .slice A3 t.table.length c3]) := Lib.hid fun A3 c3 => by
    rw [← hmv', ← ht]
    unfold Gate.say Gate.pulse msgV
    simp only [hpn]
    rfl
  have HPN0 : Hid (Health.of p s = 0 → pn = 0) := Lib.hid fun h => by rw [← hpn, if_pos h]
  have HPN1 : Hid (Health.of p s ≠ 0 → pn = Pulse.num p.pulse s.time) := Lib.hid fun h => by rw [← hpn, if_neg h]
  rw [ht] at KT ⊢
  have htt : t.table = s.table := by rw [← ht]; rfl
  have hA2 : PairsAt w A t.table := by rw [htt]; exact hA
  have HTT := Lib.hid htt
  have HL : Hid (t.table.length ≤ 1000000) := Lib.hid (by rw [htt]; exact hl)
  rw [← htt]
  clear ht hpn hmv hmv' hA hl htt
  have hS := Own.new (w.alloc (.cells (parCells p) 23)) (staCells s A cap) 30 (g := w.heap.size + 1) (by simp)
  have hP := Own.new w (parCells p) 23 rfl
  have hE := Own.new ((w.alloc (.cells (parCells p) 23)).alloc (.cells (staCells s A cap) 30)) #[.int .i64 q1, .int .i64 q2] 25 (g := w.heap.size + 2) (by simp)
  have h8 := Own.new (((w.alloc (.cells (parCells p) 23)).alloc (.cells (staCells s A cap) 30)).alloc (.cells #[.int .i64 q1, .int .i64 q2] 25)) (staCells zeroSta none 0) 30 (g := w.heap.size + 3) (by simp)
  have h9 := Own.new ((((w.alloc (.cells (parCells p) 23)).alloc (.cells (staCells s A cap) 30)).alloc (.cells #[.int .i64 q1, .int .i64 q2] 25)).alloc (.cells (staCells zeroSta none 0) 30)) (msgCells zeroMsg none 0) 47 (g := w.heap.size + 4) (by simp)
  replace hP := (((hP.alloc (.cells (staCells s A cap) 30)).alloc (.cells #[.int .i64 q1, .int .i64 q2] 25)).alloc (.cells (staCells zeroSta none 0) 30)).alloc (.cells (msgCells zeroMsg none 0) 47)
  replace hS := ((hS.alloc (.cells #[.int .i64 q1, .int .i64 q2] 25)).alloc (.cells (staCells zeroSta none 0) 30)).alloc (.cells (msgCells zeroMsg none 0) 47)
  replace hE := (hE.alloc (.cells (staCells zeroSta none 0) 30)).alloc (.cells (msgCells zeroMsg none 0) 47)
  replace h8 := h8.alloc (.cells (msgCells zeroMsg none 0) 47)
  have hok := (((((Ok.refl w).alloc (.cells (parCells p) 23)).alloc (.cells (staCells s A cap) 30)).alloc (.cells #[.int .i64 q1, .int .i64 q2] 25)).alloc (.cells (staCells zeroSta none 0) 30)).alloc (.cells (msgCells zeroMsg none 0) 47)
  unfold staV spanV
  go_enter Tryz.func47, Tryz.ntmps47
  go_upto_region 1 with fail
  change Code.wp _ _ _ _ (((((w.alloc (.cells (parCells p) 23)).alloc (.cells (staCells s A cap) 30)).alloc (.cells #[.int .i64 q1, .int .i64 q2] 25)).alloc (.cells (staCells zeroSta none 0) 30)).alloc (.cells (msgCells zeroMsg none 0) 47))
  generalize ((((w.alloc (.cells (parCells p) 23)).alloc (.cells (staCells s A cap) 30)).alloc (.cells #[.int .i64 q1, .int .i64 q2] 25)).alloc (.cells (staCells zeroSta none 0) 30)).alloc (.cells (msgCells zeroMsg none 0) 47) = W0 at hP hS hE h8 h9 hok ⊢
  obtain ⟨R9, hR9⟩ : ∃ r, w.heap.size + 4 = r := ⟨_, rfl⟩
  obtain ⟨R8, hR8⟩ : ∃ r, w.heap.size + 3 = r := ⟨_, rfl⟩
  obtain ⟨E, hEe⟩ : ∃ r, w.heap.size + 2 = r := ⟨_, rfl⟩
  obtain ⟨BS, hBS⟩ : ∃ r, w.heap.size + 1 = r := ⟨_, rfl⟩
  obtain ⟨BP, hBP⟩ : ∃ r, w.heap.size = r := ⟨_, rfl⟩
  have HD0 : Hid (w.heap.size ≤ R8 ∧ w.heap.size ≤ R9 ∧ R9 ≠ R8 ∧ w.heap.size ≤ BS ∧ BP ≠ BS ∧ E ≠ BS ∧ R8 ≠ BS ∧ R9 ≠ BS ∧ E ≠ R8) := Lib.hid ⟨by omega, by omega, by omega, by omega, by omega, by omega, by omega, by omega, by omega⟩
  rw [hR9] at h9
  rw [hR8] at h8
  rw [hEe] at hE
  rw [hBS] at hS
  rw [hBP] at hP
  rw [hR9, hR8, hEe, hBS, hBP]
  clear hR9 hR8 hEe hBS hBP
  go_upto_region 2 with fail
  obtain ⟨c0, c1, c2, c3, c4, c5, c6, c7, c8, c9, c10, c11⟩ := hP.pars; have hPl := hP.lt
  obtain ⟨s0, s1, s2, s3, s4, s5, s6, s7, s8, s9, s10⟩ := hS.sta; have hsl := hS.lt
  unfold staV at KO
  go_upto_if 18 with (go_at_call 85; refine (KO.out _).mono ?_; rintro e w1 ⟨rfl, hb1⟩; clear c0 c1 c2 c3 c4 c5 c6 c7 c8 c9 c10 c11 hPl s0 s1 s2 s3 s4 s5 s6 s7 s8 s9 s10 hsl; replace hP := hP.next hb1; replace hS := hS.next hb1; replace hE := hE.next hb1; replace h8 := h8.next hb1; replace h9 := h9.next hb1; replace hok := hok.trans hb1; clear hb1)
  obtain ⟨nb, hnb⟩ : ∃ b, (Health.of p s != 0) = b := ⟨_, rfl⟩
  rw [hnb]
  have HNB := Lib.hid hnb
  clear hnb
  go_cut [14] from 19 to 22 (fun v wx => v = .int .i64 pn ∧ Own wx BS (staCells s A cap) ∧ Own wx E #[.int .i64 q1, .int .i64 q2] ∧ Own wx R8 (staCells zeroSta none 0) ∧ Own wx R9 (msgCells zeroMsg none 0) ∧ Ok w wx)
  case first =>
    cases nb with
    | true =>
      have hq := HPN1.out (by have := HNB.out; simpa using this)
      obtain ⟨c0, c1, c2, c3, c4, c5, c6, c7, c8, c9, c10, c11⟩ := hP.pars; have hPl := hP.lt
      have s2 := hS.cell 2 (v := .int .i64 s.time) rfl
      have hsl := hS.lt
      go_wp2_with (go_at_call 86; refine (KN.out _).mono ?_; rintro e w1 ⟨rfl, hb1⟩; replace hS := hS.next hb1; replace hE := hE.next hb1; replace h8 := h8.next hb1; replace h9 := h9.next hb1; replace hok := hok.trans hb1; clear hb1)
      go_meet
      exact ⟨by rw [hq], hS, hE, h8, h9, hok⟩
    | false =>
      have hq := HPN0.out (by have := HNB.out; simpa using this)
      subst hq
      go_wp2_with fail
      go_meet
      exact ⟨rfl, hS, hE, h8, h9, hok⟩
  case rest =>
  clear hP hS hE h8 h9 hok KO KN HPN0 HPN1
  obtain ⟨rfl, hS, hE, h8, h9, hok⟩ := hcut
  obtain ⟨s0, s1, s2, s3, s4, s5, s6, s7, s8, s9, s10⟩ := hS.sta; have hsl := hS.lt
  unfold staV at KT
  go_upto_region 5 with (go_at_call 87; refine (KT.out _).mono ?_; rintro e w1 ⟨rfl, hb1⟩; clear s0 s1 s2 s3 s4 s5 s6 s7 s8 s9 s10 hsl; replace hS := hS.next hb1; replace hE := hE.next hb1; replace h8 := h8.next hb1; replace h9 := h9.next hb1; replace hok := hok.trans hb1; clear hb1; obtain ⟨s0, s1, s2, s3, s4, s5, s6, s7, s8, s9, s10⟩ := hS.sta; obtain ⟨y0, y1, y2, y3, y4, y5, y6, y7, y8, y9, y10⟩ := frozenSta hS; have hsl := hS.lt)
  clear s0 s1 s2 s3 s4 s5 s6 s7 s8 s9 s10 y0 y1 y2 y3 y4 y5 y6 y7 y8 y9 y10 hsl
  replace hS := own_set11 hS t A cap
  replace hok := ok_set11 hok HD0.out.2.2.2.1 t A cap
  replace hE := (((((((((((hE.setOther (a := ⟨BS, 0, none⟩) HD0.out.2.2.2.2.2.1 (.int .i64 t.lo)).setOther (a := ⟨BS, 1, none⟩) HD0.out.2.2.2.2.2.1 (.int .i64 t.hi)).setOther (a := ⟨BS, 2, none⟩) HD0.out.2.2.2.2.2.1 (.int .i64 t.time)).setOther (a := ⟨BS, 3, none⟩) HD0.out.2.2.2.2.2.1 (.bool t.set)).setOther (a := ⟨BS, 4, none⟩) HD0.out.2.2.2.2.2.1 (.int .i64 t.held)).setOther (a := ⟨BS, 5, none⟩) HD0.out.2.2.2.2.2.1 (.int .i64 t.hops)).setOther (a := ⟨BS, 6, none⟩) HD0.out.2.2.2.2.2.1 (.bool t.good)).setOther (a := ⟨BS, 7, none⟩) HD0.out.2.2.2.2.2.1 (.slice A t.table.length cap)).setOther (a := ⟨BS, 8, none⟩) HD0.out.2.2.2.2.2.1 (.int .i64 t.st)).setOther (a := ⟨BS, 9, none⟩) HD0.out.2.2.2.2.2.1 (.int .i64 t.sn)).setOther (a := ⟨BS, 10, none⟩) HD0.out.2.2.2.2.2.1 (.int .i64 t.life))
  replace h8 := (((((((((((h8.setOther (a := ⟨BS, 0, none⟩) HD0.out.2.2.2.2.2.2.1 (.int .i64 t.lo)).setOther (a := ⟨BS, 1, none⟩) HD0.out.2.2.2.2.2.2.1 (.int .i64 t.hi)).setOther (a := ⟨BS, 2, none⟩) HD0.out.2.2.2.2.2.2.1 (.int .i64 t.time)).setOther (a := ⟨BS, 3, none⟩) HD0.out.2.2.2.2.2.2.1 (.bool t.set)).setOther (a := ⟨BS, 4, none⟩) HD0.out.2.2.2.2.2.2.1 (.int .i64 t.held)).setOther (a := ⟨BS, 5, none⟩) HD0.out.2.2.2.2.2.2.1 (.int .i64 t.hops)).setOther (a := ⟨BS, 6, none⟩) HD0.out.2.2.2.2.2.2.1 (.bool t.good)).setOther (a := ⟨BS, 7, none⟩) HD0.out.2.2.2.2.2.2.1 (.slice A t.table.length cap)).setOther (a := ⟨BS, 8, none⟩) HD0.out.2.2.2.2.2.2.1 (.int .i64 t.st)).setOther (a := ⟨BS, 9, none⟩) HD0.out.2.2.2.2.2.2.1 (.int .i64 t.sn)).setOther (a := ⟨BS, 10, none⟩) HD0.out.2.2.2.2.2.2.1 (.int .i64 t.life))
  replace h9 := (((((((((((h9.setOther (a := ⟨BS, 0, none⟩) HD0.out.2.2.2.2.2.2.2.1 (.int .i64 t.lo)).setOther (a := ⟨BS, 1, none⟩) HD0.out.2.2.2.2.2.2.2.1 (.int .i64 t.hi)).setOther (a := ⟨BS, 2, none⟩) HD0.out.2.2.2.2.2.2.2.1 (.int .i64 t.time)).setOther (a := ⟨BS, 3, none⟩) HD0.out.2.2.2.2.2.2.2.1 (.bool t.set)).setOther (a := ⟨BS, 4, none⟩) HD0.out.2.2.2.2.2.2.2.1 (.int .i64 t.held)).setOther (a := ⟨BS, 5, none⟩) HD0.out.2.2.2.2.2.2.2.1 (.int .i64 t.hops)).setOther (a := ⟨BS, 6, none⟩) HD0.out.2.2.2.2.2.2.2.1 (.bool t.good)).setOther (a := ⟨BS, 7, none⟩) HD0.out.2.2.2.2.2.2.2.1 (.slice A t.table.length cap)).setOther (a := ⟨BS, 8, none⟩) HD0.out.2.2.2.2.2.2.2.1 (.int .i64 t.st)).setOther (a := ⟨BS, 9, none⟩) HD0.out.2.2.2.2.2.2.2.1 (.int .i64 t.sn)).setOther (a := ⟨BS, 10, none⟩) HD0.out.2.2.2.2.2.2.2.1 (.int .i64 t.life))
  generalize (((((((((((w1.setCell ⟨BS, 0, none⟩ (.int .i64 t.lo)).setCell ⟨BS, 1, none⟩ (.int .i64 t.hi)).setCell ⟨BS, 2, none⟩ (.int .i64 t.time)).setCell ⟨BS, 3, none⟩ (.bool t.set)).setCell ⟨BS, 4, none⟩ (.int .i64 t.held)).setCell ⟨BS, 5, none⟩ (.int .i64 t.hops)).setCell ⟨BS, 6, none⟩ (.bool t.good)).setCell ⟨BS, 7, none⟩ (.slice A t.table.length cap)).setCell ⟨BS, 8, none⟩ (.int .i64 t.st)).setCell ⟨BS, 9, none⟩ (.int .i64 t.sn)).setCell ⟨BS, 10, none⟩ (.int .i64 t.life)) = W at hS hE h8 h9 hok ⊢
  obtain ⟨N2, hN2⟩ : ∃ r, W.drew.heap.size = r := ⟨_, rfl⟩
  have HN := Lib.hid hN2
  have HD : Hid (w.heap.size ≤ R8 ∧ w.heap.size ≤ R9 ∧ R9 ≠ R8 ∧ R8 < N2 ∧ R9 < N2) := Lib.hid ⟨HD0.out.1, HD0.out.2.1, HD0.out.2.2.1, hN2 ▸ h8.drew.lt, hN2 ▸ h9.drew.lt⟩
  have HD2 : Hid (w.heap.size ≤ N2) := Lib.hid (hN2 ▸ hok.size)
  have HA := Lib.hid fun W' (k : Turn8 R8 t A cap W.drew W') => cells_of_pairs22 (hA2.below (Only.then_ok (hok.trans (Ok.refl W).drew) k.only HD.out.1))
  have HS := Lib.hid fun W' (k : Turn8 R8 t A cap W.drew W') => k.only.own hS.drew (Ne.symm HD0.out.2.2.2.2.2.2.1)
  have HE := Lib.hid fun W' (k : Turn8 R8 t A cap W.drew W') => k.only.own hE.drew HD0.out.2.2.2.2.2.2.2.2
  have H8 := Lib.hid fun W' (k : Turn8 R8 t A cap W.drew W') => k.own _ h8.drew
  have H9 := Lib.hid fun W' (k : Turn8 R8 t A cap W.drew W') => k.only.own h9.drew HD0.out.2.2.1
  have HOK := Lib.hid hok
  clear hS hE h8 h9 hok hA2 hN2 KT
  refine wp_region_facts_end (by kernel_rfl) 4 46 rfl (VCRSay BS E R8 N2 t A cap kind me q1 q2 pn rd) (Turn8 R8 t A cap) _ rfl _ 22 rfl rfl rfl rfl (by kernel_rfl) (by kernel_rfl) (by kernel_rfl) (fun i v w w' h k w'' k' => h w'' (k.trans k')) (fun a b c => Turn8.trans) (Turn8.refl _) [some 25, some 26, some 27, some 28, some 29, some 30, some 31, some 32, some 33, some 34, some 35, some 36, some 37, some 38, some 39, some 40, some 41, some 42, some 43, some 44, some 45, none] rfl ⟨?_, ?_, ?_, ?_, ?_, ?_, ?_, ?_, ?_, ?_, ?_, ?_, ?_, ?_, ?_, ?_, ?_, ?_, ?_, ?_, ?_, ?_, trivial⟩ ?_
  · intro a' w' hF hR
    have e7 : a'.tmps[7]? = some (.pointer (some ⟨BS, 0, none⟩)) := hF.slot 7 (by kernel_rfl) rfl
    obtain ⟨s0, s1, s2, s3, s4, s5, s6, s7, s8, s9, s10⟩ := (HS.out _ hR).sta
    have hsl := (HS.out _ hR).lt
    refine wpOp_run (v := .agg #[.int .i64 t.lo, .int .i64 t.hi, .int .i64 t.time, .bool t.set, .int .i64 t.held, .int .i64 t.hops, .bool t.good, .slice A t.table.length cap, .int .i64 t.st, .int .i64 t.sn, .int .i64 t.life]) rfl rfl ?_ (fun _ _ => rfl) (Turn8.refl _)
    clear hF
    go_simp
  · intro a' w' hF hR
    have e2 : a'.tmps[2]? = some (.int .i64 kind) := hF.slot 2 (by kernel_rfl) rfl
    refine wpOp_run (v := .int .i64 kind) rfl rfl ?_ (fun _ _ => rfl) (Turn8.refl _)
    clear hF
    go_simp
  · intro a' w' hF hR
    have e3 : a'.tmps[3]? = some (.int .i64 me) := hF.slot 3 (by kernel_rfl) rfl
    refine wpOp_run (v := .int .i64 me) rfl rfl ?_ (fun _ _ => rfl) (Turn8.refl _)
    clear hF
    go_simp
  · intro a' w' hF hR
    have e7 : a'.tmps[7]? = some (.pointer (some ⟨BS, 0, none⟩)) := hF.slot 7 (by kernel_rfl) rfl
    refine wpOp_run (v := .pointer (some ⟨BS, 0, none⟩)) rfl rfl ?_ (fun _ _ => rfl) (Turn8.refl _)
    clear hF
    go_simp
  · intro a' w' hF hR
    obtain ⟨v3, hv3, e28⟩ := hF.get 3 28 (by kernel_rfl) (by kernel_rfl)
    obtain rfl : v3 = _ := hv3 _ (Turn8.refl _)
    obtain ⟨s0, s1, s2, s3, s4, s5, s6, s7, s8, s9, s10⟩ := (HS.out _ hR).sta
    have hsl := (HS.out _ hR).lt
    refine wpOp_run (v := .agg #[.int .i64 t.lo, .int .i64 t.hi]) rfl rfl ?_ (fun _ _ => rfl) (Turn8.refl _)
    clear hF
    go_simp
  · intro a' w' hF hR
    have e7 : a'.tmps[7]? = some (.pointer (some ⟨BS, 0, none⟩)) := hF.slot 7 (by kernel_rfl) rfl
    refine wpOp_run (v := .pointer (some ⟨BS, 4, none⟩)) rfl rfl ?_ (fun _ _ => rfl) (Turn8.refl _)
    clear hF
    go_simp
  · intro a' w' hF hR
    obtain ⟨v5, hv5, e30⟩ := hF.get 5 30 (by kernel_rfl) (by kernel_rfl)
    obtain rfl : v5 = _ := hv5 _ (Turn8.refl _)
    obtain ⟨s0, s1, s2, s3, s4, s5, s6, s7, s8, s9, s10⟩ := (HS.out _ hR).sta
    have hsl := (HS.out _ hR).lt
    refine wpOp_run (v := .int .i64 t.held) rfl rfl ?_ (fun _ _ => rfl) (Turn8.refl _)
    clear hF
    go_simp
  · intro a' w' hF hR
    have e7 : a'.tmps[7]? = some (.pointer (some ⟨BS, 0, none⟩)) := hF.slot 7 (by kernel_rfl) rfl
    refine wpOp_run (v := .pointer (some ⟨BS, 5, none⟩)) rfl rfl ?_ (fun _ _ => rfl) (Turn8.refl _)
    clear hF
    go_simp
  · intro a' w' hF hR
    obtain ⟨v7, hv7, e32⟩ := hF.get 7 32 (by kernel_rfl) (by kernel_rfl)
    obtain rfl : v7 = _ := hv7 _ (Turn8.refl _)
    obtain ⟨s0, s1, s2, s3, s4, s5, s6, s7, s8, s9, s10⟩ := (HS.out _ hR).sta
    have hsl := (HS.out _ hR).lt
    refine wpOp_run (v := .int .i64 t.hops) rfl rfl ?_ (fun _ _ => rfl) (Turn8.refl _)
    clear hF
    go_simp
  · intro a' w' hF hR
    have e7 : a'.tmps[7]? = some (.pointer (some ⟨BS, 0, none⟩)) := hF.slot 7 (by kernel_rfl) rfl
    refine wpOp_run (v := .pointer (some ⟨BS, 6, none⟩)) rfl rfl ?_ (fun _ _ => rfl) (Turn8.refl _)
    clear hF
    go_simp
  · intro a' w' hF hR
    obtain ⟨v9, hv9, e34⟩ := hF.get 9 34 (by kernel_rfl) (by kernel_rfl)
    obtain rfl : v9 = _ := hv9 _ (Turn8.refl _)
    obtain ⟨s0, s1, s2, s3, s4, s5, s6, s7, s8, s9, s10⟩ := (HS.out _ hR).sta
    have hsl := (HS.out _ hR).lt
    refine wpOp_run (v := .bool t.good) rfl rfl ?_ (fun _ _ => rfl) (Turn8.refl _)
    clear hF
    go_simp
  · intro a' w' hF hR
    have e4 : a'.tmps[4]? = some (.bool rd) := hF.slot 4 (by kernel_rfl) rfl
    refine wpOp_run (v := .bool rd) rfl rfl ?_ (fun _ _ => rfl) (Turn8.refl _)
    clear hF
    go_simp
  · intro a' w' hF hR
    have e11 : a'.tmps[11]? = some (.pointer (some ⟨E, 0, none⟩)) := hF.slot 11 (by kernel_rfl) rfl
    have q0 := (HE.out _ hR).cell 0 (v := .int .i64 q1) rfl
    have q1' := (HE.out _ hR).cell 1 (v := .int .i64 q2) rfl
    have hel := (HE.out _ hR).lt
    refine wpOp_run (v := .agg #[.int .i64 q1, .int .i64 q2]) rfl rfl ?_ (fun _ _ => rfl) (Turn8.refl _)
    clear hF
    go_simp
  · intro a' w' hF hR
    have e14 : a'.tmps[14]? = some (.int .i64 pn) := hF.slot 14 (by kernel_rfl) rfl
    refine wpOp_run (v := .int .i64 pn) rfl rfl ?_ (fun _ _ => rfl) (Turn8.refl _)
    clear hF
    go_simp
  · intro a' w' hF hR
    have e7 : a'.tmps[7]? = some (.pointer (some ⟨BS, 0, none⟩)) := hF.slot 7 (by kernel_rfl) rfl
    refine wpOp_run (v := .pointer (some ⟨BS, 8, none⟩)) rfl rfl ?_ (fun _ _ => rfl) (Turn8.refl _)
    clear hF
    go_simp
  · intro a' w' hF hR
    obtain ⟨v14, hv14, e39⟩ := hF.get 14 39 (by kernel_rfl) (by kernel_rfl)
    obtain rfl : v14 = _ := hv14 _ (Turn8.refl _)
    obtain ⟨s0, s1, s2, s3, s4, s5, s6, s7, s8, s9, s10⟩ := (HS.out _ hR).sta
    have hsl := (HS.out _ hR).lt
    refine wpOp_run (v := .agg #[.int .i64 t.st, .int .i64 t.sn]) rfl rfl ?_ (fun _ _ => rfl) (Turn8.refl _)
    clear hF
    go_simp
  · intro a' w' hF hR
    refine wpOp_run (v := .slice (some ⟨w'.heap.size, 0, none⟩) 0 0) (w' := w'.alloc (.cells #[] 68)) rfl rfl ?_ (fun w'' k => ⟨_, rfl, Nil22.only (Nil22.new w') k.only (by have := HN.out; have := hR.only.size; have := HD.out; omega), HN.out ▸ hR.only.size⟩) (Turn8.of_ok ((Ok.refl _).alloc _))
    clear hF
    go_simp
  · intro a' w' hF hR
    have e7 : a'.tmps[7]? = some (.pointer (some ⟨BS, 0, none⟩)) := hF.slot 7 (by kernel_rfl) rfl
    refine wpOp_run (v := .pointer (some ⟨BS, 7, none⟩)) rfl rfl ?_ (fun _ _ => rfl) (Turn8.refl _)
    clear hF
    go_simp
  · intro a' w' hF hR
    obtain ⟨v17, hv17, e42⟩ := hF.get 17 42 (by kernel_rfl) (by kernel_rfl)
    obtain rfl : v17 = _ := hv17 _ (Turn8.refl _)
    obtain ⟨s0, s1, s2, s3, s4, s5, s6, s7, s8, s9, s10⟩ := (HS.out _ hR).sta
    have hsl := (HS.out _ hR).lt
    refine wpOp_run (v := .slice A t.table.length cap) rfl rfl ?_ (fun _ _ => rfl) (Turn8.refl _)
    clear hF
    go_simp
  · intro a' w' hF hR
    obtain ⟨v16, hv16, e41⟩ := hF.get 16 41 (by kernel_rfl) (by kernel_rfl)
    obtain ⟨v18, hv18, e43⟩ := hF.get 18 43 (by kernel_rfl) (by kernel_rfl)
    obtain rfl : v18 = _ := hv18 _ (Turn8.refl _)
    obtain ⟨g16, rfl, hg16, hN16⟩ := hv16 _ (Turn8.refl _)
    obtain ⟨A3, c3, w3, hrun, hrow, hok3, -⟩ := run_append_first (P := Tryz.prog) (t := 26) Tryz.underlying26 leapInfo22 rfl (by decide) (by decide) hg16.blk hN16 (cells_pairs_length t.table) (HA.out _ hR) (cells_pairs_one t.table) HL.out 26
    refine wpOp_run (v := .slice A3 t.table.length c3) (w' := w3) rfl rfl (exec_append22 rfl (eval_tmp22 e41) (eval_tmp22 e43) hrun) (fun w'' k => ⟨A3, c3, rfl, TabRow.only hrow k.only HD.out.2.2.2.1⟩) (Turn8.of_ok hok3)
  · intro a' w' hF hR
    obtain ⟨v1, hv1, e26⟩ := hF.get 1 26 (by kernel_rfl) (by kernel_rfl)
    obtain rfl : v1 = _ := hv1 _ (Turn8.refl _)
    obtain ⟨v2, hv2, e27⟩ := hF.get 2 27 (by kernel_rfl) (by kernel_rfl)
    obtain rfl : v2 = _ := hv2 _ (Turn8.refl _)
    obtain ⟨v4, hv4, e29⟩ := hF.get 4 29 (by kernel_rfl) (by kernel_rfl)
    obtain rfl : v4 = _ := hv4 _ (Turn8.refl _)
    obtain ⟨v6, hv6, e31⟩ := hF.get 6 31 (by kernel_rfl) (by kernel_rfl)
    obtain rfl : v6 = _ := hv6 _ (Turn8.refl _)
    obtain ⟨v8, hv8, e33⟩ := hF.get 8 33 (by kernel_rfl) (by kernel_rfl)
    obtain rfl : v8 = _ := hv8 _ (Turn8.refl _)
    obtain ⟨v10, hv10, e35⟩ := hF.get 10 35 (by kernel_rfl) (by kernel_rfl)
    obtain rfl : v10 = _ := hv10 _ (Turn8.refl _)
    obtain ⟨v11, hv11, e36⟩ := hF.get 11 36 (by kernel_rfl) (by kernel_rfl)
    obtain rfl : v11 = _ := hv11 _ (Turn8.refl _)
    obtain ⟨v12, hv12, e37⟩ := hF.get 12 37 (by kernel_rfl) (by kernel_rfl)
    obtain rfl : v12 = _ := hv12 _ (Turn8.refl _)
    obtain ⟨v13, hv13, e38⟩ := hF.get 13 38 (by kernel_rfl) (by kernel_rfl)
    obtain rfl : v13 = _ := hv13 _ (Turn8.refl _)
    obtain ⟨v15, hv15, e40⟩ := hF.get 15 40 (by kernel_rfl) (by kernel_rfl)
    obtain rfl : v15 = _ := hv15 _ (Turn8.refl _)
    obtain ⟨v19, hv19, e44⟩ := hF.get 19 44 (by kernel_rfl) (by kernel_rfl)
    obtain ⟨A3, c3, rfl, hT3⟩ := hv19 _ (Turn8.refl _)
    refine wpOp_run (v := .agg #[.int .i64 kind, .int .i64 me, .int .i64 t.lo, .int .i64 t.hi, .int .i64 t.held, .int .i64 t.hops, .bool t.good, .bool rd, .int .i64 q1, .int .i64 q2, .int .i64 pn, .int .i64 t.st, .int .i64 t.sn, .slice A3 t.table.length c3]) rfl rfl ?_ (fun w'' k => ⟨A3, c3, rfl, hT3.only k.only HD.out.2.2.2.1⟩) (Turn8.refl _)
    clear hF
    go_simp
  · intro a' w' hF hR
    have e12 : a'.tmps[12]? = some (.pointer (some ⟨R8, 0, none⟩)) := hF.slot 12 (by kernel_rfl) rfl
    obtain ⟨v0, hv0, e25⟩ := hF.get 0 25 (by kernel_rfl) (by kernel_rfl)
    obtain rfl : v0 = _ := hv0 _ (Turn8.refl _)
    rcases H8.out _ hR with hq | hq
    · have hq2 := own_set11 hq t A cap
      obtain ⟨z0, z1, z2, z3, z4, z5, z6, z7, z8, z9, z10⟩ := hq.sta
      obtain ⟨y0, y1, y2, y3, y4, y5, y6, y7, y8, y9, y10⟩ := frozenSta hq
      have hzl := hq.lt
      clear hF hq
      refine wpOp_store (w' := (((((((((((w'.setCell ⟨R8, 0, none⟩ (.int .i64 t.lo)).setCell ⟨R8, 1, none⟩ (.int .i64 t.hi)).setCell ⟨R8, 2, none⟩ (.int .i64 t.time)).setCell ⟨R8, 3, none⟩ (.bool t.set)).setCell ⟨R8, 4, none⟩ (.int .i64 t.held)).setCell ⟨R8, 5, none⟩ (.int .i64 t.hops)).setCell ⟨R8, 6, none⟩ (.bool t.good)).setCell ⟨R8, 7, none⟩ (.slice A t.table.length cap)).setCell ⟨R8, 8, none⟩ (.int .i64 t.st)).setCell ⟨R8, 9, none⟩ (.int .i64 t.sn)).setCell ⟨R8, 10, none⟩ (.int .i64 t.life))) rfl rfl rfl ?_ ⟨.bool true, rfl, fun w3 k => k.kept hq2, ⟨((((((((((((Only.refl R8 w').setR 0 (.int .i64 t.lo)).setR 1 (.int .i64 t.hi)).setR 2 (.int .i64 t.time)).setR 3 (.bool t.set)).setR 4 (.int .i64 t.held)).setR 5 (.int .i64 t.hops)).setR 6 (.bool t.good)).setR 7 (.slice A t.table.length cap)).setR 8 (.int .i64 t.st)).setR 9 (.int .i64 t.sn)).setR 10 (.int .i64 t.life)), fun _ _ => .inr hq2⟩⟩
      go_simp
    · have hq2 := own_set11 hq t A cap
      obtain ⟨z0, z1, z2, z3, z4, z5, z6, z7, z8, z9, z10⟩ := hq.sta
      obtain ⟨y0, y1, y2, y3, y4, y5, y6, y7, y8, y9, y10⟩ := frozenSta hq
      have hzl := hq.lt
      clear hF hq
      refine wpOp_store (w' := (((((((((((w'.setCell ⟨R8, 0, none⟩ (.int .i64 t.lo)).setCell ⟨R8, 1, none⟩ (.int .i64 t.hi)).setCell ⟨R8, 2, none⟩ (.int .i64 t.time)).setCell ⟨R8, 3, none⟩ (.bool t.set)).setCell ⟨R8, 4, none⟩ (.int .i64 t.held)).setCell ⟨R8, 5, none⟩ (.int .i64 t.hops)).setCell ⟨R8, 6, none⟩ (.bool t.good)).setCell ⟨R8, 7, none⟩ (.slice A t.table.length cap)).setCell ⟨R8, 8, none⟩ (.int .i64 t.st)).setCell ⟨R8, 9, none⟩ (.int .i64 t.sn)).setCell ⟨R8, 10, none⟩ (.int .i64 t.life))) rfl rfl rfl ?_ ⟨.bool true, rfl, fun w3 k => k.kept hq2, ⟨((((((((((((Only.refl R8 w').setR 0 (.int .i64 t.lo)).setR 1 (.int .i64 t.hi)).setR 2 (.int .i64 t.time)).setR 3 (.bool t.set)).setR 4 (.int .i64 t.held)).setR 5 (.int .i64 t.hops)).setR 6 (.bool t.good)).setR 7 (.slice A t.table.length cap)).setR 8 (.int .i64 t.st)).setR 9 (.int .i64 t.sn)).setR 10 (.int .i64 t.life)), fun _ _ => .inr hq2⟩⟩
      go_simp
  intro vs W' hvs hR
  obtain ⟨A3, c3, e20, hT3⟩ := hvs 20 (by decide) _ (Turn8.refl _)
  have h8 : Own W' R8 (staCells t A cap) := hvs 21 (by decide) _ (Turn8.refl _)
  have h9 := H9.out _ hR
  have hok := Only.then_ok (HOK.out.trans (Ok.refl W).drew) hR.only HD.out.1
  clear hvs HS HE H8 H9 HOK HA
  simp only [putFrom, e20]
  simp only [Act.put, List.setIfInBounds_toArray, List.set_cons_zero, List.set_cons_succ]
  have m0 := h9.cell 0 rfl
  have m1 := h9.cell 1 rfl
  have m2 := h9.cell 2 rfl
  have m3 := h9.cell 3 rfl
  have m4 := h9.cell 4 rfl
  have m5 := h9.cell 5 rfl
  have m6 := h9.cell 6 rfl
  have m7 := h9.cell 7 rfl
  have m8 := h9.cell 8 rfl
  have m9 := h9.cell 9 rfl
  have m10 := h9.cell 10 rfl
  have m11 := h9.cell 11 rfl
  have m12 := h9.cell 12 rfl
  have m13 := h9.cell 13 rfl
  have f0 := h9.frozen 0
  have f1 := h9.frozen 1
  have f2 := h9.frozen 2
  have f3 := h9.frozen 3
  have f4 := h9.frozen 4
  have f5 := h9.frozen 5
  have f6 := h9.frozen 6
  have f7 := h9.frozen 7
  have f8 := h9.frozen 8
  have f9 := h9.frozen 9
  have f10 := h9.frozen 10
  have f11 := h9.frozen 11
  have f12 := h9.frozen 12
  have f13 := h9.frozen 13
  have hml := h9.lt
  refine wpOp_store (w' := ((((((((((((((W'.setCell ⟨R9, 0, none⟩ (.int .i64 kind)).setCell ⟨R9, 1, none⟩ (.int .i64 me)).setCell ⟨R9, 2, none⟩ (.int .i64 t.lo)).setCell ⟨R9, 3, none⟩ (.int .i64 t.hi)).setCell ⟨R9, 4, none⟩ (.int .i64 t.held)).setCell ⟨R9, 5, none⟩ (.int .i64 t.hops)).setCell ⟨R9, 6, none⟩ (.bool t.good)).setCell ⟨R9, 7, none⟩ (.bool rd)).setCell ⟨R9, 8, none⟩ (.int .i64 q1)).setCell ⟨R9, 9, none⟩ (.int .i64 q2)).setCell ⟨R9, 10, none⟩ (.int .i64 pn)).setCell ⟨R9, 11, none⟩ (.int .i64 t.st)).setCell ⟨R9, 12, none⟩ (.int .i64 t.sn)).setCell ⟨R9, 13, none⟩ (.slice A3 t.table.length c3))) rfl rfl rfl ?_ ?_
  · go_simp
  clear m0 f0 m1 f1 m2 f2 m3 f3 m4 f4 m5 f5 m6 f6 m7 f7 m8 f8 m9 f9 m10 f10 m11 f11 m12 f12 m13 f13 hml e20
  replace h9 := own_over14 h9 (.int .i64 kind) (.int .i64 me) (.int .i64 t.lo) (.int .i64 t.hi) (.int .i64 t.held) (.int .i64 t.hops) (.bool t.good) (.bool rd) (.int .i64 q1) (.int .i64 q2) (.int .i64 pn) (.int .i64 t.st) (.int .i64 t.sn) (.slice A3 t.table.length c3)
  replace h8 := ((((((((((((((h8.setOther (a := ⟨R9, 0, none⟩) (Ne.symm HD.out.2.2.1) (.int .i64 kind)).setOther (a := ⟨R9, 1, none⟩) (Ne.symm HD.out.2.2.1) (.int .i64 me)).setOther (a := ⟨R9, 2, none⟩) (Ne.symm HD.out.2.2.1) (.int .i64 t.lo)).setOther (a := ⟨R9, 3, none⟩) (Ne.symm HD.out.2.2.1) (.int .i64 t.hi)).setOther (a := ⟨R9, 4, none⟩) (Ne.symm HD.out.2.2.1) (.int .i64 t.held)).setOther (a := ⟨R9, 5, none⟩) (Ne.symm HD.out.2.2.1) (.int .i64 t.hops)).setOther (a := ⟨R9, 6, none⟩) (Ne.symm HD.out.2.2.1) (.bool t.good)).setOther (a := ⟨R9, 7, none⟩) (Ne.symm HD.out.2.2.1) (.bool rd)).setOther (a := ⟨R9, 8, none⟩) (Ne.symm HD.out.2.2.1) (.int .i64 q1)).setOther (a := ⟨R9, 9, none⟩) (Ne.symm HD.out.2.2.1) (.int .i64 q2)).setOther (a := ⟨R9, 10, none⟩) (Ne.symm HD.out.2.2.1) (.int .i64 pn)).setOther (a := ⟨R9, 11, none⟩) (Ne.symm HD.out.2.2.1) (.int .i64 t.st)).setOther (a := ⟨R9, 12, none⟩) (Ne.symm HD.out.2.2.1) (.int .i64 t.sn)).setOther (a := ⟨R9, 13, none⟩) (Ne.symm HD.out.2.2.1) (.slice A3 t.table.length c3))
  replace hok := ((((((((((((((hok.setCell (p := ⟨R9, 0, none⟩) HD.out.2.1 (.int .i64 kind)).setCell (p := ⟨R9, 1, none⟩) HD.out.2.1 (.int .i64 me)).setCell (p := ⟨R9, 2, none⟩) HD.out.2.1 (.int .i64 t.lo)).setCell (p := ⟨R9, 3, none⟩) HD.out.2.1 (.int .i64 t.hi)).setCell (p := ⟨R9, 4, none⟩) HD.out.2.1 (.int .i64 t.held)).setCell (p := ⟨R9, 5, none⟩) HD.out.2.1 (.int .i64 t.hops)).setCell (p := ⟨R9, 6, none⟩) HD.out.2.1 (.bool t.good)).setCell (p := ⟨R9, 7, none⟩) HD.out.2.1 (.bool rd)).setCell (p := ⟨R9, 8, none⟩) HD.out.2.1 (.int .i64 q1)).setCell (p := ⟨R9, 9, none⟩) HD.out.2.1 (.int .i64 q2)).setCell (p := ⟨R9, 10, none⟩) HD.out.2.1 (.int .i64 pn)).setCell (p := ⟨R9, 11, none⟩) HD.out.2.1 (.int .i64 t.st)).setCell (p := ⟨R9, 12, none⟩) HD.out.2.1 (.int .i64 t.sn)).setCell (p := ⟨R9, 13, none⟩) HD.out.2.1 (.slice A3 t.table.length c3))
  replace hT3 := (TabRow.set (TabRow.set (TabRow.set (TabRow.set (TabRow.set (TabRow.set (TabRow.set (TabRow.set (TabRow.set (TabRow.set (TabRow.set (TabRow.set (TabRow.set (TabRow.set hT3 (p := ⟨R9, 0, none⟩) HD.out.2.2.2.2 (.int .i64 kind)) (p := ⟨R9, 1, none⟩) HD.out.2.2.2.2 (.int .i64 me)) (p := ⟨R9, 2, none⟩) HD.out.2.2.2.2 (.int .i64 t.lo)) (p := ⟨R9, 3, none⟩) HD.out.2.2.2.2 (.int .i64 t.hi)) (p := ⟨R9, 4, none⟩) HD.out.2.2.2.2 (.int .i64 t.held)) (p := ⟨R9, 5, none⟩) HD.out.2.2.2.2 (.int .i64 t.hops)) (p := ⟨R9, 6, none⟩) HD.out.2.2.2.2 (.bool t.good)) (p := ⟨R9, 7, none⟩) HD.out.2.2.2.2 (.bool rd)) (p := ⟨R9, 8, none⟩) HD.out.2.2.2.2 (.int .i64 q1)) (p := ⟨R9, 9, none⟩) HD.out.2.2.2.2 (.int .i64 q2)) (p := ⟨R9, 10, none⟩) HD.out.2.2.2.2 (.int .i64 pn)) (p := ⟨R9, 11, none⟩) HD.out.2.2.2.2 (.int .i64 t.st)) (p := ⟨R9, 12, none⟩) HD.out.2.2.2.2 (.int .i64 t.sn)) (p := ⟨R9, 13, none⟩) HD.out.2.2.2.2 (.slice A3 t.table.length c3))
  generalize ((((((((((((((W'.setCell ⟨R9, 0, none⟩ (.int .i64 kind)).setCell ⟨R9, 1, none⟩ (.int .i64 me)).setCell ⟨R9, 2, none⟩ (.int .i64 t.lo)).setCell ⟨R9, 3, none⟩ (.int .i64 t.hi)).setCell ⟨R9, 4, none⟩ (.int .i64 t.held)).setCell ⟨R9, 5, none⟩ (.int .i64 t.hops)).setCell ⟨R9, 6, none⟩ (.bool t.good)).setCell ⟨R9, 7, none⟩ (.bool rd)).setCell ⟨R9, 8, none⟩ (.int .i64 q1)).setCell ⟨R9, 9, none⟩ (.int .i64 q2)).setCell ⟨R9, 10, none⟩ (.int .i64 pn)).setCell ⟨R9, 11, none⟩ (.int .i64 t.st)).setCell ⟨R9, 12, none⟩ (.int .i64 t.sn)).setCell ⟨R9, 13, none⟩ (.slice A3 t.table.length c3)) = W9 at h8 h9 hok hT3 ⊢
  generalize vs 0 = x20
  generalize vs 1 = x21
  generalize vs 2 = x22
  generalize vs 3 = x23
  generalize vs 4 = x24
  generalize vs 5 = x25
  generalize vs 6 = x26
  generalize vs 7 = x27
  generalize vs 8 = x28
  generalize vs 9 = x29
  generalize vs 10 = x30
  generalize vs 11 = x31
  generalize vs 12 = x32
  generalize vs 13 = x33
  generalize vs 14 = x34
  generalize vs 15 = x35
  generalize vs 16 = x36
  generalize vs 17 = x37
  generalize vs 18 = x38
  generalize vs 19 = x39
  clear hR vs
  have m0 := h9.cell 0 rfl
  have m1 := h9.cell 1 rfl
  have m2 := h9.cell 2 rfl
  have m3 := h9.cell 3 rfl
  have m4 := h9.cell 4 rfl
  have m5 := h9.cell 5 rfl
  have m6 := h9.cell 6 rfl
  have m7 := h9.cell 7 rfl
  have m8 := h9.cell 8 rfl
  have m9 := h9.cell 9 rfl
  have m10 := h9.cell 10 rfl
  have m11 := h9.cell 11 rfl
  have m12 := h9.cell 12 rfl
  have m13 := h9.cell 13 rfl
  have hml := h9.lt
  obtain ⟨z0, z1, z2, z3, z4, z5, z6, z7, z8, z9, z10⟩ := h8.sta
  have hzl := h8.lt
  go_wp2_with fail
  exact bodyPost_ret (v := .tuple #[staV t A cap, .agg #[.int .i64 kind, .int .i64 me, .int .i64 t.lo, .int .i64 t.hi, .int .i64 t.held, .int .i64 t.hops, .bool t.good, .bool rd, .int .i64 q1, .int .i64 q2, .int .i64 pn, .int .i64 t.st, .int .i64 t.sn, .slice A3 t.table.length c3]]) (by simp [results, Tryz.results47, go_sem, staV, z0, z1, z2, z3, z4, z5, z6, z7, z8, z9, z10, m0, m1, m2, m3, m4, m5, m6, m7, m8, m9, m10, m11, m12, m13]) rfl ⟨A3, c3, by rw [HMV.out]; rfl, hT3.mono HD2.out, hok⟩
end Go.Proofs.YtmmiboblofopgaaGreat
