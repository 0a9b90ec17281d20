/- Several texts of mine in one: W12, C06a, W13, C06e, C06f, C06h, C07a, C07b. -/
import Derived.Test.YtmmiboblofopgaaGreatB00
import Derived.Test.YtmmiboblofopgaaGreatB02
import Derived.SizedLaws
import Derived.Test.YtmmiboblofopgaaGreatMA
import Derived.Test.YtmmiboblofopgaaGreatRows
import Derived.Test.YtmmiboblofopgaaGreatProg
import Derived.WalkKit
import Derived.ProofKit
import Derived.OpenShut
import Derived.WalkLawsBesides
import Derived.IntWalk
import Derived.Lib.Hide
import Derived.Deep.QuietTactic
import Derived.BigQuiet
import Derived.Deep.RegionHeld3
import Derived.Deep.DrawnRows
import Derived.Deep.CutRange
import Derived.Laws.StructEq
import Derived.Laws.Tables
import Derived.Test.YtmmiboblofopgaaGreatShelf
import Derived.Sort.OwnSortedInts
import Derived.Laws.AppendOwn
/- Words of my own: a message (api.Msg) that came in by value. -/
namespace Go.Proofs.YtmmiboblofopgaaGreat
open Go.RowKit Go.WideShapes Go.ChangeShapes Go.Joins Go.Deep
set_option maxRecDepth 100000
section
variable {H : Type} {enc : TypeId × Value → H} {P : Program} {w : World}
end
/-- A message's value: its table lies at A. -/
def msgV (m : Msg) (A : Option Addr) (cap : Nat) : Value := .agg #[.int .i64 m.kind, .int .i64 m.frm, .int .i64 m.lo, .int .i64 m.hi, .int .i64 m.held, .int .i64 m.hops, .bool m.good, .bool m.ref, .int .i64 m.slo, .int .i64 m.shi, .int .i64 m.pulse, .int .i64 m.time, .int .i64 m.num, .slice A m.table.length cap]
/-- The cells of a message in a block. -/
def msgCells (m : Msg) (A : Option Addr) (cap : Nat) : Array Value := #[.int .i64 m.kind, .int .i64 m.frm, .int .i64 m.lo, .int .i64 m.hi, .int .i64 m.held, .int .i64 m.hops, .bool m.good, .bool m.ref, .int .i64 m.slo, .int .i64 m.shi, .int .i64 m.pulse, .int .i64 m.time, .int .i64 m.num, .slice A m.table.length cap]
/-- No message. -/
def zeroMsg : Msg := ⟨0, 0, 0, 0, 0, 0, false, false, 0, 0, 0, 0, 0, []⟩
/-- No message's cells. -/
def zeroCells : Array Value := #[.int .i64 0, .int .i64 0, .int .i64 0, .int .i64 0, .int .i64 0, .int .i64 0, .bool false, .bool false, .int .i64 0, .int .i64 0, .int .i64 0, .int .i64 0, .int .i64 0, .slice none 0 0]
theorem zeroMsgV (w : World) : Sem.run Tryz.prog (zeroValue 47) w = .ok (msgV zeroMsg none 0) w := by kernel_rfl
/-- All of its numbers are numbers of 64 bits. -/
def MsgWf (m : Msg) : Prop := (∀ x ∈ Wire.nine m, (Lit.int .i64 x).wf = true) ∧ (Lit.int .i64 m.kind).wf = true ∧ (Lit.int .i64 m.frm).wf = true ∧ ∀ s ∈ m.table, (Lit.int .i64 s.1).wf = true ∧ (Lit.int .i64 s.2).wf = true
/-- A message's cells, as they were read. -/
theorem trod_msg {H : Type} {enc : TypeId × Value → H} {w : World} {fuel : Nat} {l : List Value} {x : DataW H × List MemPlace} (hcl : l.length = 14) (hf : DataW.trod enc Tryz.prog w 0 (fun _ => true) true fuel 47 l = some x) :
    ∃ (m : Msg) (A : Option Addr) (cap : Nat), l = (msgCells m A cap).toList ∧ PairsAt w A m.table ∧ m.table.length ≤ cap ∧ cap ≤ maxLen ∧ MsgWf m ∧ ((∀ n ∈ x.1.weights Tryz.prog 47, n ≤ reachBytes) → m.table.length ≤ 8796093022208) := by
  obtain ⟨ys, n', hn', hy, hlen, hyl, hfl⟩ := DataW.trod_struct Tryz.underlying47 hf
  have hys : ys.length = 11 := hyl
  have cI : Tryz.prog.cellsOf 3 = 1 := by kernel_rfl
  have cB : Tryz.prog.cellsOf 4 = 1 := by kernel_rfl
  have cS : Tryz.prog.cellsOf 25 = 2 := by kernel_rfl
  have cT : Tryz.prog.cellsOf 28 = 2 := by kernel_rfl
  have cL : Tryz.prog.cellsOf 26 = 1 := by kernel_rfl
  match l, hcl with
  | [c0, c1, c2, c3, c4, c5, c6, c7, c8, c9, c10, c11, c12, c13], _ =>
    have get : ∀ i, i < 11 → ∃ y, ys[i]? = some y := fun i hi => ⟨ys[i]'(by omega), List.getElem?_eq_getElem _⟩
    have int1 : ∀ (i : Nat) (c : Value), DataW.trod enc Tryz.prog w 0 (fun _ => true) true n' 3 [c] = ys[i]? → i < 11 → ∃ z, c = .int .i64 z ∧ (Lit.int .i64 z).wf = true := by
      intro i c h hi
      obtain ⟨y, hy⟩ := get i hi
      rw [hy] at h
      obtain ⟨z, h1, _, h3⟩ := DataW.trod_int Tryz.underlying3 h
      exact ⟨z, by simpa using h1, h3⟩
    have bool1 : ∀ (i : Nat) (c : Value), DataW.trod enc Tryz.prog w 0 (fun _ => true) true n' 4 [c] = ys[i]? → i < 11 → ∃ z, c = .bool z := by
      intro i c h hi
      obtain ⟨y, hy⟩ := get i hi
      rw [hy] at h
      obtain ⟨z, h1, _⟩ := DataW.trod_bool Tryz.underlying4 h
      exact ⟨z, by simpa using h1⟩
    have pair1 : ∀ (i : Nat) (t : TypeId) (f0 f1 : Field) (c d : Value), Tryz.prog.underlying t = some (.struct #[f0, f1]) → f0.type = 3 → f1.type = 3 → f0.offset = 0 → f1.offset = 1 → DataW.trod enc Tryz.prog w 0 (fun _ => true) true n' t [c, d] = ys[i]? → i < 11 →
        ∃ x y, c = .int .i64 x ∧ d = .int .i64 y ∧ (Lit.int .i64 x).wf = true ∧ (Lit.int .i64 y).wf = true := by
      intro i t f0 f1 c d hu t0 t1 o0 o1 h hi
      obtain ⟨y, hy⟩ := get i hi
      rw [hy] at h
      obtain ⟨zs, n2, _, _, _, hzl, hz⟩ := DataW.trod_struct hu h
      have hzs : zs.length = 2 := hzl
      have a0 := hz 0 f0 rfl
      have a1 := hz 1 f1 rfl
      rw [t0, o0, cI, List.getElem?_eq_getElem (by omega)] at a0
      rw [t1, o1, cI, List.getElem?_eq_getElem (by omega)] at a1
      obtain ⟨x, e1, _, w1⟩ := DataW.trod_int Tryz.underlying3 a0
      obtain ⟨z, e2, _, w2⟩ := DataW.trod_int Tryz.underlying3 a1
      exact ⟨x, z, by simpa using e1, by simpa using e2, w1, w2⟩
    have g0 : DataW.trod enc Tryz.prog w 0 (fun _ => true) true n' 3 (([c0, c1, c2, c3, c4, c5, c6, c7, c8, c9, c10, c11, c12, c13].drop 0).take (Tryz.prog.cellsOf 3)) = ys[0]? := hfl 0 _ rfl
    rw [cI] at g0
    have g1 : DataW.trod enc Tryz.prog w 0 (fun _ => true) true n' 3 (([c0, c1, c2, c3, c4, c5, c6, c7, c8, c9, c10, c11, c12, c13].drop 1).take (Tryz.prog.cellsOf 3)) = ys[1]? := hfl 1 _ rfl
    rw [cI] at g1
    have g2 : DataW.trod enc Tryz.prog w 0 (fun _ => true) true n' 25 (([c0, c1, c2, c3, c4, c5, c6, c7, c8, c9, c10, c11, c12, c13].drop 2).take (Tryz.prog.cellsOf 25)) = ys[2]? := hfl 2 _ rfl
    rw [cS] at g2
    have g3 : DataW.trod enc Tryz.prog w 0 (fun _ => true) true n' 3 (([c0, c1, c2, c3, c4, c5, c6, c7, c8, c9, c10, c11, c12, c13].drop 4).take (Tryz.prog.cellsOf 3)) = ys[3]? := hfl 3 _ rfl
    rw [cI] at g3
    have g4 : DataW.trod enc Tryz.prog w 0 (fun _ => true) true n' 3 (([c0, c1, c2, c3, c4, c5, c6, c7, c8, c9, c10, c11, c12, c13].drop 5).take (Tryz.prog.cellsOf 3)) = ys[4]? := hfl 4 _ rfl
    rw [cI] at g4
    have g5 : DataW.trod enc Tryz.prog w 0 (fun _ => true) true n' 4 (([c0, c1, c2, c3, c4, c5, c6, c7, c8, c9, c10, c11, c12, c13].drop 6).take (Tryz.prog.cellsOf 4)) = ys[5]? := hfl 5 _ rfl
    rw [cB] at g5
    have g6 : DataW.trod enc Tryz.prog w 0 (fun _ => true) true n' 4 (([c0, c1, c2, c3, c4, c5, c6, c7, c8, c9, c10, c11, c12, c13].drop 7).take (Tryz.prog.cellsOf 4)) = ys[6]? := hfl 6 _ rfl
    rw [cB] at g6
    have g7 : DataW.trod enc Tryz.prog w 0 (fun _ => true) true n' 25 (([c0, c1, c2, c3, c4, c5, c6, c7, c8, c9, c10, c11, c12, c13].drop 8).take (Tryz.prog.cellsOf 25)) = ys[7]? := hfl 7 _ rfl
    rw [cS] at g7
    have g8 : DataW.trod enc Tryz.prog w 0 (fun _ => true) true n' 3 (([c0, c1, c2, c3, c4, c5, c6, c7, c8, c9, c10, c11, c12, c13].drop 10).take (Tryz.prog.cellsOf 3)) = ys[8]? := hfl 8 _ rfl
    rw [cI] at g8
    have g9 : DataW.trod enc Tryz.prog w 0 (fun _ => true) true n' 28 (([c0, c1, c2, c3, c4, c5, c6, c7, c8, c9, c10, c11, c12, c13].drop 11).take (Tryz.prog.cellsOf 28)) = ys[9]? := hfl 9 _ rfl
    rw [cT] at g9
    have g10 : DataW.trod enc Tryz.prog w 0 (fun _ => true) true n' 26 (([c0, c1, c2, c3, c4, c5, c6, c7, c8, c9, c10, c11, c12, c13].drop 13).take (Tryz.prog.cellsOf 26)) = ys[10]? := hfl 10 _ rfl
    rw [cL] at g10
    obtain ⟨kind, rfl, wk⟩ := int1 0 _ g0 (by omega)
    obtain ⟨frm, rfl, wf⟩ := int1 1 _ g1 (by omega)
    obtain ⟨lo, hi, rfl, rfl, wlo, whi⟩ := pair1 2 _ _ _ _ _ Tryz.underlying25 rfl rfl rfl rfl g2 (by omega)
    obtain ⟨held, rfl, whe⟩ := int1 3 _ g3 (by omega)
    obtain ⟨hops, rfl, who⟩ := int1 4 _ g4 (by omega)
    obtain ⟨good, rfl⟩ := bool1 5 _ g5 (by omega)
    obtain ⟨ref, rfl⟩ := bool1 6 _ g6 (by omega)
    obtain ⟨slo, shi, rfl, rfl, wsl, wsh⟩ := pair1 7 _ _ _ _ _ Tryz.underlying25 rfl rfl rfl rfl g7 (by omega)
    obtain ⟨pulse, rfl, wp⟩ := int1 8 _ g8 (by omega)
    obtain ⟨time, num, rfl, rfl, wt, wn⟩ := pair1 9 _ _ _ _ _ Tryz.underlying28 rfl rfl rfl rfl g9 (by omega)
    obtain ⟨y, hy10⟩ := get 10 (by omega)
    rw [hy10] at g10
    obtain ⟨A, tb, cap, e, hA, hc1, hc2, hw, hbig⟩ := trod_pairs Tryz.underlying26 Tryz.underlying68 (by kernel_rfl) (by kernel_rfl) Tryz.underlying3 Tryz.underlying3 g10
    obtain rfl : c13 = .slice A tb.length cap := by simpa using e
    refine ⟨⟨kind, frm, lo, hi, held, hops, good, ref, slo, shi, pulse, time, num, tb⟩, A, cap, rfl, hA, hc1, hc2, ⟨?_, wk, wf, hw⟩, fun hn => ?_⟩
    · intro x hx
      simp only [Wire.nine, List.mem_cons, List.not_mem_nil, or_false] at hx
      rcases hx with rfl | rfl | rfl | rfl | rfl | rfl | rfl | rfl | rfl <;> assumption
    · have hT : tb.length * Tryz.prog.bytesOf 68 ≤ reachBytes := hbig fun n hn2 => hn n (by
        have hyx : x.1 = .agg (ys.map (·.1)) := by rw [hy]
        rw [hyx]
        simp only [DataW.weights, Tryz.underlying47]
        exact DataW.weights_mem_each (j := 10) (t := 26) (d := y.1) rfl (by rw [List.getElem?_map, hy10]; rfl) n hn2)
      rw [show Tryz.prog.bytesOf 68 = 16 by kernel_rfl] at hT
      simp only [reachBytes] at hT
      show tb.length ≤ 8796093022208
      omega
theorem open_msg {H : Type} {enc : TypeId × Value → H} {w : World} {b0 : Nat} {v : Value} {d : DataW H} {p : List MemPlace} (hv : Value.okWide Tryz.prog w .any b0 47 v) (h : DataW.Trod enc Tryz.prog w 0 (fun _ => true) true 47 v d p) :
    ∃ (m : Msg) (A : Option Addr) (cap : Nat), v = msgV m A cap ∧ PairsAt w A m.table ∧ m.table.length ≤ cap ∧ cap ≤ maxLen ∧ MsgWf m := by
  obtain ⟨cs, rfl, hsz⟩ := okWide_struct Tryz.underlying47 hv
  obtain ⟨fuel, hf⟩ := h
  rw [show Tryz.prog.cellsOf 47 = 14 by kernel_rfl] at hsz
  obtain ⟨m, A, cap, e, h1, h2, h3, h4, _⟩ := trod_msg (l := cs.toList) (by simpa using hsz) hf
  have hcs : cs = msgCells m A cap := by
    rw [← Array.toArray_toList (xs := cs), e, Array.toArray_toList]
  exact ⟨m, A, cap, by rw [hcs]; rfl, h1, h2, h3, h4⟩
end Go.Proofs.YtmmiboblofopgaaGreat

/- Contracts of layer 6: the document's leap table. -/
namespace Go.Proofs.YtmmiboblofopgaaGreat
open Go.RowKit
set_option maxRecDepth 100000
/-- The earliest second of the next entry, the offset ahead of it. -/
def loAt (l : List (Int × Int)) (k : Nat) : Int := match k with
  | 0 => 0
  | k + 1 => match l[k]? with
    | some e => e.1 + 86400
    | none => 0
def offAt (l : List (Int × Int)) (k : Nat) : Int := match k with
  | 0 => 0
  | k + 1 => match l[k]? with
    | some e => e.2
    | none => 0
theorem tab_step (l : List (Int × Int)) (k : Nat) (hk : k < l.length) : Wire.tabFrom (loAt l k) (offAt l k) (l.drop k) = (decide (loAt l k ≤ l[k].1 ∧ l[k].1 ≤ 1099511627776 ∧ -32 ≤ l[k].2 ∧ l[k].2 ≤ 32 ∧ (l[k].2 = offAt l k + 1 ∨ l[k].2 = offAt l k - 1)) && Wire.tabFrom (loAt l (k + 1)) (offAt l (k + 1)) (l.drop (k + 1))) := by
  rw [List.drop_eq_getElem_cons hk]
  simp only [Wire.tabFrom, loAt, offAt, List.getElem?_eq_getElem hk]
set_option maxHeartbeats 1600000 in
theorem ref6Table (A : Option Addr) (l : List (Int × Int)) (cap : Nat) (w : World) (h : PairsAt w A l) (hl : l.length ≤ 9223372036854775807) :
    Calls Tryz.prog 66 #[.slice A l.length cap] w fun e w' => e = .returned (.bool (Wire.tab l)) ∧ Ok w w' := by
  have hok := Ok.refl w
  by_cases h32 : 32 < l.length
  · have e : Wire.tab l = false := by unfold Wire.tab; rw [decide_eq_false (by omega)]; rfl
    rw [e]
    have hd : decide ((32 : Int) < (l.length : Int)) = true := decide_eq_true (by omega)
    go_enter Tryz.func66, Tryz.ntmps66
    go_wp2
    go_ret
    exact ⟨rfl, hok⟩
  have e0 : Wire.tab l = Wire.tabFrom (loAt l 0) (offAt l 0) (l.drop 0) := by unfold Wire.tab; rw [decide_eq_true (by omega)]; rfl
  rw [e0]
  clear e0
  obtain ⟨R, hR⟩ : ∃ R, Wire.tabFrom (loAt l 0) (offAt l 0) (l.drop 0) = R := ⟨_, rfl⟩
  rw [hR]
  have HR0 := Lib.hid hR.symm
  clear hR
  have hd : decide ((32 : Int) < (l.length : Int)) = false := decide_eq_false (by omega)
  go_enter Tryz.func66, Tryz.ntmps66
  go_wp2
  go_loopw [3, 11] (fun c i wx => ∃ k : Nat, k ≤ l.length ∧ i = .int .i64 k ∧ c = .int .i64 (offAt l k) ∧ Hid (R = Wire.tabFrom (loAt l k) (offAt l k) (l.drop k)) ∧ 0 ≤ loAt l k ∧ loAt l k ≤ 1099511714176 ∧ -32 ≤ offAt l k ∧ offAt l k ≤ 32 ∧ Ok w wx) (fun _ i _ => l.length - (intOf i).toNat)
  case atStart => exact ⟨0, Nat.zero_le _, rfl, rfl, HR0, by show (0 : Int) ≤ 0; decide, by show (0 : Int) ≤ _; decide, by show _ ≤ (0 : Int); decide, by show (0 : Int) ≤ _; decide, hok⟩
  case round =>
    obtain ⟨k, hk, rfl, rfl, heq, b1, b2, b3, b4, hok⟩ := hrel
    by_cases hlt : k < l.length
    · have hst := tab_step l k hlt
      obtain ⟨b, off, hA, hbs, c1, c2⟩ := h.below hok k hlt
      subst hA
      have HR := Lib.hid (heq.out.trans hst)
      have HP := Lib.hid h
      have n1 : loAt l (k + 1) = l[k].1 + 86400 := by simp only [loAt, List.getElem?_eq_getElem hlt]
      have n2 : offAt l (k + 1) = l[k].2 := by simp only [offAt, List.getElem?_eq_getElem hlt]
      have N1 := Lib.hid n1
      have N2 := Lib.hid n2
      have hprev : 0 < k → ∃ p : Int, wr.cell? ⟨b, off + (k - 1) * 2, none⟩ = some (.int .i64 p) ∧ loAt l k = p + 86400 := by
        intro hk0
        obtain ⟨_, _, e, _, c3, _⟩ := h.below hok (k - 1) (by omega)
        cases e
        obtain ⟨j, rfl⟩ : ∃ j, k = j + 1 := ⟨k - 1, by omega⟩
        exact ⟨_, c3, by simp only [loAt, List.getElem?_eq_getElem (show j < l.length by omega), Nat.add_sub_cancel]⟩
      have HPR := Lib.hid hprev
      have HZ := Lib.hid (show ¬ 0 < k → loAt l k = 0 by intro g; obtain rfl : k = 0 := by omega
                                                         rfl)
      obtain ⟨lo, elo⟩ : ∃ x, loAt l k = x := ⟨_, rfl⟩
      obtain ⟨of, eof⟩ : ∃ x, offAt l k = x := ⟨_, rfl⟩
      obtain ⟨a, ea⟩ : ∃ x, l[k].1 = x := ⟨_, rfl⟩
      obtain ⟨o, eo⟩ : ∃ x, l[k].2 = x := ⟨_, rfl⟩
      rw [elo] at HPR HZ
      simp only [elo, eof, ea, eo] at HR b1 b2 b3 b4 c1 c2 N1 N2 ⊢
      clear n1 n2 hprev heq hst h elo eof ea eo
      by_cases p1 : 0 ≤ a ∧ a ≤ 1099511627776 ∧ -32 ≤ o ∧ o ≤ 32
      · obtain ⟨q1, q2, q3, q4⟩ := p1
        have d1 : decide (a < 0) = false := decide_eq_false (by omega)
        have d2 : decide (1099511627776 < a) = false := decide_eq_false (by omega)
        have d3 : decide (o < -32) = false := decide_eq_false (by omega)
        have d4 : decide (32 < o) = false := decide_eq_false (by omega)
        have key : (lo ≤ a ∧ (o = of + 1 ∨ o = of - 1) ∧ Hid (R = Wire.tabFrom (loAt l (k + 1)) (offAt l (k + 1)) (l.drop (k + 1)))) ∨ (R = false ∧ ¬ (lo ≤ a ∧ (o = of + 1 ∨ o = of - 1))) := by
          by_cases g : lo ≤ a ∧ (o = of + 1 ∨ o = of - 1)
          · left
            refine ⟨g.1, g.2, ?_⟩
            have hf : (decide (lo ≤ a ∧ a ≤ 1099511627776 ∧ -32 ≤ o ∧ o ≤ 32 ∧ (o = of + 1 ∨ o = of - 1))) = true := decide_eq_true (by omega)
            rw [hf, Bool.true_and] at HR
            exact HR
          · right
            refine ⟨?_, g⟩
            have hf : (decide (lo ≤ a ∧ a ≤ 1099511627776 ∧ -32 ≤ o ∧ o ≤ 32 ∧ (o = of + 1 ∨ o = of - 1))) = false := decide_eq_false (by omega)
            rw [hf, Bool.false_and] at HR
            exact HR.out
        clear HR
        have KEY := Lib.hid key
        clear key
        have NX := Lib.hid (show loAt l (k + 1) = a + 86400 ∧ offAt l (k + 1) = o from ⟨N1.out, N2.out⟩)
        clear N1 N2
        by_cases hk0 : 0 < k
        · obtain ⟨p, c3, hp⟩ := HPR.out hk0
          have dk : decide ((0 : Int) < (k : Int)) = true := decide_eq_true (by omega)
          have i1 : IntKind.i64.wrap ((k : Int) - 1) = (k : Int) - 1 := IntWalk.i64_in _ ⟨by omega, by omega⟩
          have i2 : IntKind.i64.wrap (p + 86400) = p + 86400 := IntWalk.i64_in _ ⟨by omega, by omega⟩
          have i3 : (0 : Int) ≤ (k : Int) - 1 := by omega
          have i4 : (k : Int) - 1 < (l.length : Int) := by omega
          have i5 : ((k : Int) - 1).toNat = k - 1 := by omega
          have i6 : k - 1 < l.length := by omega
          clear HPR
          by_cases p2 : lo ≤ a
          · have dp : decide (a < p + 86400) = false := decide_eq_false (by omega)
            have HH := Lib.hid hp
            clear hp HZ
            by_cases p3 : o = of + 1
            · obtain ⟨_, _, hn⟩ | ⟨_, g⟩ := KEY.out
              rotate_left
              · exact absurd ⟨p2, .inl p3⟩ g
              have d5 : (o != of + 1) = false := by simp [p3]
              clear p3 p2 KEY HR0 
              go_wp2_with fail
              go_quiet (fail)
              go_wp2
              go_roundw
              case rel => exact ⟨k + 1, by omega, by go_num, by rw [NX.out.2], hn, by rw [NX.out.1]; omega, by rw [NX.out.1]; omega, by rw [NX.out.2]; omega, by rw [NX.out.2]; omega, (hok.alloc _).drewN _⟩
              case measure => simp [intOf]; omega
            · have d5 : (o != of + 1) = true := by simp [p3]
              by_cases p4 : o = of - 1
              · obtain ⟨_, _, hn⟩ | ⟨_, g⟩ := KEY.out
                rotate_left
                · exact absurd ⟨p2, .inr p4⟩ g
                have d6 : (o != of - 1) = false := by simp [p4]
                clear p3 p4 p2 KEY HR0 
                go_wp2_with fail
                go_quiet (fail)
                go_wp2
                go_roundw
                case rel => exact ⟨k + 1, by omega, by go_num, by rw [NX.out.2], hn, by rw [NX.out.1]; omega, by rw [NX.out.1]; omega, by rw [NX.out.2]; omega, by rw [NX.out.2]; omega, (hok.alloc _).drewN _⟩
                case measure => simp [intOf]; omega
              · obtain ⟨_, g, _⟩ | ⟨hr, _⟩ := KEY.out
                · exact absurd g (by omega)
                obtain rfl := hr
                have d6 : (o != of - 1) = true := by simp [p4]
                clear p3 p4 p2 KEY HR0 
                go_wp2_with fail
                go_quiet (fail)
                go_wp2
                go_ret
                exact ⟨rfl, (hok.alloc _).drewN _⟩
          · have dp : decide (a < p + 86400) = true := decide_eq_true (by omega)
            obtain ⟨g, _⟩ | ⟨hr, _⟩ := KEY.out
            · exact absurd g p2
            obtain rfl := hr
            clear hp HZ p2 KEY HR0
            go_wp2_with fail
            go_quiet (fail)
            go_wp2
            go_ret
            exact ⟨rfl, (hok.alloc _).drewN _⟩
        · have p2 : lo ≤ a := by rw [HZ.out hk0]; exact q1
          have dk : decide ((0 : Int) < (k : Int)) = false := decide_eq_false (by omega)
          clear HPR HZ
          by_cases p3 : o = of + 1
          · obtain ⟨_, _, hn⟩ | ⟨_, g⟩ := KEY.out
            rotate_left
            · exact absurd ⟨p2, .inl p3⟩ g
            have d5 : (o != of + 1) = false := by simp [p3]
            clear p3 p2 KEY HR0 
            go_wp2_with fail
            go_quiet (fail)
            go_wp2
            go_roundw
            case rel => exact ⟨k + 1, by omega, by go_num, by rw [NX.out.2], hn, by rw [NX.out.1]; omega, by rw [NX.out.1]; omega, by rw [NX.out.2]; omega, by rw [NX.out.2]; omega, (hok.alloc _).drewN _⟩
            case measure => simp [intOf]; omega
          · have d5 : (o != of + 1) = true := by simp [p3]
            by_cases p4 : o = of - 1
            · obtain ⟨_, _, hn⟩ | ⟨_, g⟩ := KEY.out
              rotate_left
              · exact absurd ⟨p2, .inr p4⟩ g
              have d6 : (o != of - 1) = false := by simp [p4]
              clear p3 p4 p2 KEY HR0 
              go_wp2_with fail
              go_quiet (fail)
              go_wp2
              go_roundw
              case rel => exact ⟨k + 1, by omega, by go_num, by rw [NX.out.2], hn, by rw [NX.out.1]; omega, by rw [NX.out.1]; omega, by rw [NX.out.2]; omega, by rw [NX.out.2]; omega, (hok.alloc _).drewN _⟩
              case measure => simp [intOf]; omega
            · obtain ⟨_, g, _⟩ | ⟨hr, _⟩ := KEY.out
              · exact absurd g (by omega)
              obtain rfl := hr
              have d6 : (o != of - 1) = true := by simp [p4]
              clear p3 p4 p2 KEY HR0 
              go_wp2_with fail
              go_quiet (fail)
              go_wp2
              go_ret
              exact ⟨rfl, (hok.alloc _).drewN _⟩
      · have hf : (decide (lo ≤ a ∧ a ≤ 1099511627776 ∧ -32 ≤ o ∧ o ≤ 32 ∧ (o = of + 1 ∨ o = of - 1))) = false := decide_eq_false (by omega)
        rw [hf, Bool.false_and] at HR
        obtain rfl : R = false := HR.out
        clear hf HPR HZ N1 N2 HR HR0
        go_wp2
        all_goals
          first
            | (exfalso; omega)
            | (go_ret; exact ⟨rfl, hok.alloc _⟩)
    · obtain rfl : k = l.length := by omega
      obtain rfl : R = true := by rw [heq.out, List.drop_length]; rfl
      clear heq HR0 b1 b2 b3 b4 hlt
      go_wp2
      go_ret
      exact ⟨rfl, hok⟩
end Go.Proofs.YtmmiboblofopgaaGreat

/- Words of my own: a message in a block, kept through a region. -/
namespace Go.Proofs.YtmmiboblofopgaaGreat
open Go.RowKit
set_option maxRecDepth 100000
/-- A message in the block g, and nothing turned since w. -/
def MB (g : Nat) (w : World) (m : Msg) (A : Option Addr) (cap : Nat) (w' : World) : Prop := w'.cell? ⟨g, 0, none⟩ = some (.int .i64 m.kind) ∧ w'.cell? ⟨g, 1, none⟩ = some (.int .i64 m.frm) ∧ w'.cell? ⟨g, 2, none⟩ = some (.int .i64 m.lo) ∧ w'.cell? ⟨g, 3, none⟩ = some (.int .i64 m.hi) ∧ w'.cell? ⟨g, 4, none⟩ = some (.int .i64 m.held) ∧ w'.cell? ⟨g, 5, none⟩ = some (.int .i64 m.hops) ∧ w'.cell? ⟨g, 6, none⟩ = some (.bool m.good) ∧ w'.cell? ⟨g, 7, none⟩ = some (.bool m.ref) ∧ w'.cell? ⟨g, 8, none⟩ = some (.int .i64 m.slo) ∧ w'.cell? ⟨g, 9, none⟩ = some (.int .i64 m.shi) ∧ w'.cell? ⟨g, 10, none⟩ = some (.int .i64 m.pulse) ∧ w'.cell? ⟨g, 11, none⟩ = some (.int .i64 m.time) ∧ w'.cell? ⟨g, 12, none⟩ = some (.int .i64 m.num) ∧ w'.cell? ⟨g, 13, none⟩ = some (.slice A m.table.length cap) ∧ g < w'.heap.size ∧ Ok w w'
namespace MB
variable {g : Nat} {w w' w1 : World} {m : Msg} {A : Option Addr} {cap : Nat}
theorem ok (h : MB g w m A cap w') : Ok w w' := by
  obtain ⟨-, -, -, -, -, -, -, -, -, -, -, -, -, -, -, h⟩ := h
  exact h
theorem of_own (h : Own w' g (msgCells m A cap)) (k : Ok w w') : MB g w m A cap w' :=
  ⟨h.cell 0 rfl, h.cell 1 rfl, h.cell 2 rfl, h.cell 3 rfl, h.cell 4 rfl, h.cell 5 rfl, h.cell 6 rfl, h.cell 7 rfl, h.cell 8 rfl, h.cell 9 rfl, h.cell 10 rfl, h.cell 11 rfl, h.cell 12 rfl, h.cell 13 rfl, h.lt, k⟩
theorem new (w : World) (m : Msg) (A : Option Addr) (cap : Nat) (t : TypeId) {g : Nat} (hg : g = w.heap.size) : MB g w m A cap (w.alloc (.cells (msgCells m A cap) t)) :=
  of_own (Own.new w (msgCells m A cap) t hg) ((Ok.refl w).alloc _)
theorem next (k : Ok w' w1) (h : MB g w m A cap w') : MB g w m A cap w1 := by
  obtain ⟨c0, c1, c2, c3, c4, c5, c6, c7, c8, c9, c10, c11, c12, c13, hl, hok⟩ := h
  have key : ∀ i, w1.cell? ⟨g, i, none⟩ = w'.cell? ⟨g, i, none⟩ := fun i => k.cell (p := ⟨g, i, none⟩) hl
  refine ⟨?_, ?_, ?_, ?_, ?_, ?_, ?_, ?_, ?_, ?_, ?_, ?_, ?_, ?_, Nat.lt_of_lt_of_le hl k.size, hok.trans k⟩ <;> (rw [key]; assumption)
theorem drew (h : MB g w m A cap w') : MB g w m A cap w'.drew := h.next (Ok.refl w').drew
theorem alloc (h : MB g w m A cap w') (o : Obj) : MB g w m A cap (w'.alloc o) := h.next ((Ok.refl w').alloc o)
end MB
end Go.Proofs.YtmmiboblofopgaaGreat

/- Contracts of layer 6: the document's Tables and Same. -/
namespace Go.Proofs.YtmmiboblofopgaaGreat
open Go.RowKit
set_option maxRecDepth 100000
theorem eqLeap (a b c d : Int) (w : World) : (Op.equalIn 10000 68 (.agg #[.int .i64 a, .int .i64 b]) (.agg #[.int .i64 c, .int .i64 d])).run Tryz.prog w = .ok (a == c && b == d) w := by
  have u3 := Tryz.underlying3
  have ag := Tryz.isAgg3
  have z3 := Tryz.sizeOf3
  have hS : Tryz.prog.underlying 68 = some (.struct (Tryz.prog.fieldsOf 68)) := by kernel_rfl
  have hp : Tryz.prog.stoodInHeld 68 = false := by kernel_rfl
  rw [show (10000 : Nat) = 9999 + 1 from rfl, run_equalIn_struct w 9999 68 _ _ hS hp]
  simp only [Program.fieldsOf, Tryz.underlying68]
  go_simp
  by_cases h1 : a = c <;> by_cases h2 : b = d <;> simp [h1, h2]
set_option maxHeartbeats 1600000 in
theorem ref6Tables (A B : Option Addr) (l n : List (Int × Int)) (ca cb : Nat) (w : World) (hA : PairsAt w A l) (hB : PairsAt w B n) (hl : l.length ≤ 9223372036854775807) (_hn : n.length ≤ 9223372036854775807) :
    Calls Tryz.prog 24 #[.slice A l.length ca, .slice B n.length cb] w fun e w' => e = .returned (.bool (decide (l = n))) ∧ Ok w w' := by
  have hok := Ok.refl w
  by_cases hlen : l.length = n.length
  rotate_left
  · have hd : ((l.length : Int) == (n.length : Int)) = false := by rw [beq_eq_false_iff_ne]; omega
    rw [decide_eq_false (fun g => hlen (by rw [g]))]
    have hd2 : ((l.length : Int) != (n.length : Int)) = true := by rw [bne, hd]; rfl
    clear hlen
    go_enter Tryz.func24, Tryz.ntmps24
    go_wp2
    go_ret
    exact ⟨rfl, hok⟩
  obtain ⟨R, hR⟩ : ∃ R, decide (l = n) = R := ⟨_, rfl⟩
  rw [hR]
  have HR := Lib.hid hR
  have HL := Lib.hid hlen
  rw [← hlen] at _hn ⊢
  clear hlen hR
  go_enter Tryz.func24, Tryz.ntmps24
  go_wp2
  go_loopw [13] (fun i wx => ∃ k : Nat, k ≤ l.length ∧ i = .int .i64 k ∧ Hid (l.take k = n.take k) ∧ Ok w wx) (fun i _ => l.length - (intOf i).toNat)
  case atStart => exact ⟨0, Nat.zero_le _, rfl, Lib.hid rfl, hok⟩
  case round =>
    clear hok
    obtain ⟨k, hk, rfl, HT, hok⟩ := hrel
    by_cases hlt : k < l.length
    · have hlt2 : k < n.length := by rw [← HL.out]; exact hlt
      obtain ⟨b, off, eA, hbs, c1, c2⟩ := hA.below hok k hlt
      obtain ⟨b', off', eB, hbs', c1', c2'⟩ := hB.below hok k hlt2
      have HA := Lib.hid hA
      have HB := Lib.hid hB
      clear hA hB
      subst eA eB
      have hE := fun W => eqLeap l[k].1 l[k].2 n[k].1 n[k].2 W
      by_cases he : l[k] = n[k]
      · have ht : (l[k].1 == n[k].1 && l[k].2 == n[k].2) = true := by rw [he]; simp
        have HN := Lib.hid (show l.take (k + 1) = n.take (k + 1) by rw [List.take_succ_eq_append_getElem hlt, List.take_succ_eq_append_getElem hlt2, HT.out, he])
        rw [ht] at hE
        obtain ⟨x, ex⟩ : ∃ x, l[k].1 = x := ⟨_, rfl⟩
        obtain ⟨y, ey⟩ : ∃ x, l[k].2 = x := ⟨_, rfl⟩
        obtain ⟨x', ex'⟩ : ∃ x, n[k].1 = x := ⟨_, rfl⟩
        obtain ⟨y', ey'⟩ : ∃ x, n[k].2 = x := ⟨_, rfl⟩
        rw [ex, ey, ex', ey'] at hE
        rw [ex] at c1; rw [ey] at c2; rw [ex'] at c1'; rw [ey'] at c2'
        clear ht he ex ey ex' ey'
        go_wp2_with fail
        go_quiet (fail)
        go_wp2
        go_roundw
        case rel => exact ⟨k + 1, by omega, by go_num, HN, hok.drewN _⟩
        case measure => simp [intOf]; omega
      · have ht : (l[k].1 == n[k].1 && l[k].2 == n[k].2) = false := by
          rw [Bool.eq_false_iff]; intro g; simp only [Bool.and_eq_true, beq_iff_eq] at g; exact he (Prod.ext g.1 g.2)
        obtain rfl : R = false := by rw [← HR.out]; exact decide_eq_false (fun g => he (by simp only [g]))
        rw [ht] at hE
        obtain ⟨x, ex⟩ : ∃ x, l[k].1 = x := ⟨_, rfl⟩
        obtain ⟨y, ey⟩ : ∃ x, l[k].2 = x := ⟨_, rfl⟩
        obtain ⟨x', ex'⟩ : ∃ x, n[k].1 = x := ⟨_, rfl⟩
        obtain ⟨y', ey'⟩ : ∃ x, n[k].2 = x := ⟨_, rfl⟩
        rw [ex, ey, ex', ey'] at hE
        rw [ex] at c1; rw [ey] at c2; rw [ex'] at c1'; rw [ey'] at c2'
        clear ht he ex ey ex' ey'
        go_wp2_with fail
        go_quiet (fail)
        go_wp2
        go_ret
        exact ⟨rfl, hok.drewN _⟩
    · obtain rfl : k = l.length := by omega
      obtain rfl : R = true := by
        rw [← HR.out]
        have := HT.out
        rw [List.take_length, HL.out, List.take_length] at this
        exact decide_eq_true this
      clear hlt
      go_wp2
      go_ret
      exact ⟨rfl, hok⟩
end Go.Proofs.YtmmiboblofopgaaGreat

/- Contracts of layer 6: the document's Same. -/
namespace Go.Proofs.YtmmiboblofopgaaGreat
open Go.RowKit
set_option maxRecDepth 100000
theorem eqSpan (a b c d : Int) (w : World) : (Op.equalIn 10000 25 (.agg #[.int .i64 a, .int .i64 b]) (.agg #[.int .i64 c, .int .i64 d])).run Tryz.prog w = .ok (a == c && b == d) w := by
  have u3 := Tryz.underlying3
  have ag := Tryz.isAgg3
  have z3 := Tryz.sizeOf3
  have hS : Tryz.prog.underlying 25 = some (.struct (Tryz.prog.fieldsOf 25)) := by kernel_rfl
  have hp : Tryz.prog.stoodInHeld 25 = false := by kernel_rfl
  rw [show (10000 : Nat) = 9999 + 1 from rfl, run_equalIn_struct w 9999 25 _ _ hS hp]
  simp only [Program.fieldsOf, Tryz.underlying25]
  go_simp
  by_cases h1 : a = c <;> by_cases h2 : b = d <;> simp [h1, h2]
theorem eqStamp (a b c d : Int) (w : World) : (Op.equalIn 10000 28 (.agg #[.int .i64 a, .int .i64 b]) (.agg #[.int .i64 c, .int .i64 d])).run Tryz.prog w = .ok (a == c && b == d) w := by
  have u3 := Tryz.underlying3
  have ag := Tryz.isAgg3
  have z3 := Tryz.sizeOf3
  have hS : Tryz.prog.underlying 28 = some (.struct (Tryz.prog.fieldsOf 28)) := by kernel_rfl
  have hp : Tryz.prog.stoodInHeld 28 = false := by kernel_rfl
  rw [show (10000 : Nat) = 9999 + 1 from rfl, run_equalIn_struct w 9999 28 _ _ hS hp]
  simp only [Program.fieldsOf, Tryz.underlying28]
  go_simp
  by_cases h1 : a = c <;> by_cases h2 : b = d <;> simp [h1, h2]
set_option maxHeartbeats 1600000 in
theorem ref6Same (m n : Msg) (A B : Option Addr) (ca cb : Nat) (w : World) (hA : PairsAt w A m.table) (hB : PairsAt w B n.table) (hl : m.table.length ≤ 9223372036854775807) (hn : n.table.length ≤ 9223372036854775807) :
    Calls Tryz.prog 15 #[msgV m A ca, msgV n B cb] w fun e w' => e = .returned (.bool (decide (m = n))) ∧ Ok w w' := by
  have hok := Ok.refl w
  have hE := eqSpan
  have hT := eqStamp
  cases m with
  | mk kind frm lo hi held hops good ref slo shi pulse time num table =>
  cases n with
  | mk kind' frm' lo' hi' held' hops' good' ref' slo' shi' pulse' time' num' table' =>
  simp only at hA hB hl hn
  have KT := Lib.hid fun W (hA : PairsAt W A table) (hB : PairsAt W B table') => ref6Tables A B table table' ca cb W hA hB hl hn
  unfold msgV
  simp only
  by_cases h : kind = kind' ∧ frm = frm' ∧ lo = lo' ∧ hi = hi' ∧ held = held' ∧ hops = hops' ∧ good = good' ∧ ref = ref' ∧ slo = slo' ∧ shi = shi' ∧ pulse = pulse' ∧ time = time' ∧ num = num'
  · obtain ⟨rfl, rfl, rfl, rfl, rfl, rfl, rfl, rfl, rfl, rfl, rfl, rfl, rfl⟩ := h
    rw [show decide ((⟨kind, frm, lo, hi, held, hops, good, ref, slo, shi, pulse, time, num, table⟩ : Msg) = ⟨kind, frm, lo, hi, held, hops, good, ref, slo, shi, pulse, time, num, table'⟩) = decide (table = table') by simp]
    have HA := Lib.hid hA
    have HB := Lib.hid hB
    clear hA hB
    go_enter Tryz.func15, Tryz.ntmps15
    dsimp only [List.append]
    go_wp2_with ((go_at_call 24; (with_reducible refine (KT.out _ ((HA.out.alloc _).alloc _) ((HB.out.alloc _).alloc _)).mono ?_); rintro e w5 ⟨rfl, hb1⟩; replace hok := ((hok.alloc _).alloc _).trans hb1; clear hb1))
    go_ret
    exact ⟨rfl, hok⟩
  · rw [decide_eq_false (fun g => h (by cases g; simp))]
    clear hA hB KT
    go_enter Tryz.func15, Tryz.ntmps15
    dsimp only [List.append]
    go_wp2_with fail
    all_goals
      first
        | (go_ret; exact ⟨rfl, (hok.alloc _).alloc _⟩)
        | exact absurd ⟨‹kind = kind'›, ‹frm = frm'›, (‹lo = lo' ∧ hi = hi'›).1, (‹lo = lo' ∧ hi = hi'›).2, ‹held = held'›, ‹hops = hops'›, ‹good = good'›, ‹ref = ref'›, (‹slo = slo' ∧ shi = shi'›).1, (‹slo = slo' ∧ shi = shi'›).2, ‹pulse = pulse'›, (‹time = time' ∧ num = num'›).1, (‹time = time' ∧ num = num'›).2⟩ h
end Go.Proofs.YtmmiboblofopgaaGreat

/- Contracts of layer 6: the program's within, Table. -/
namespace Go.Proofs.YtmmiboblofopgaaGreat
open Go.RowKit
set_option maxRecDepth 100000
/-- All of them from lo to hi? -/
def allIn (lo hi : Int) (l : List Int) : Bool := l.all fun x => decide (lo ≤ x ∧ x ≤ hi)
theorem allIn_drop (lo hi : Int) (l : List Int) (k : Nat) (hk : k < l.length) : allIn lo hi (l.drop k) = (decide (lo ≤ l[k] ∧ l[k] ≤ hi) && allIn lo hi (l.drop (k + 1))) := by
  rw [List.drop_eq_getElem_cons hk]; rfl
set_option maxHeartbeats 800000 in
theorem wireWithin (lo hi : Int) (A : Option Addr) (l : List Int) (cap : Nat) (w : World) (h : IntsAt w A l) (hl : l.length ≤ 9223372036854775807) :
    Calls Tryz.prog 142 #[.int .i64 lo, .int .i64 hi, .slice A l.length cap] w fun e w' => e = .returned (.bool (allIn lo hi l)) ∧ w = w' := by
  obtain ⟨R, hR⟩ : ∃ R, allIn lo hi l = R := ⟨_, rfl⟩
  rw [hR]
  have HR0 := Lib.hid (show R = allIn lo hi (l.drop 0) from hR.symm)
  clear hR
  go_enter Tryz.func142, Tryz.ntmps142
  go_wp2
  go_loop [11] (fun i => ∃ k : Nat, k ≤ l.length ∧ i = .int .i64 k ∧ Hid (R = allIn lo hi (l.drop k))) (fun i => l.length - (intOf i).toNat)
  case atStart => exact ⟨0, Nat.zero_le _, rfl, HR0⟩
  case round =>
    obtain ⟨k, hk, rfl, heq⟩ := hrel
    clear HR0
    by_cases hlt : k < l.length
    · obtain ⟨b, off, hA, hb, hc⟩ := h k hlt
      subst hA
      have HR := Lib.hid (heq.out.trans (allIn_drop lo hi l k hlt))
      obtain ⟨x, hx⟩ : ∃ x, l[k] = x := ⟨_, rfl⟩
      rw [hx] at HR hc
      clear hx heq h
      by_cases g1 : x < lo
      · obtain rfl : R = false := by rw [HR.out, decide_eq_false (by omega)]; rfl
        clear HR
        go_wp2
        go_ret
        exact ⟨rfl, rfl⟩
      · by_cases g2 : hi < x
        · obtain rfl : R = false := by rw [HR.out, decide_eq_false (by omega)]; rfl
          clear HR
          go_wp2
          go_ret
          exact ⟨rfl, rfl⟩
        · have HN : Hid (R = allIn lo hi (l.drop (k + 1))) := by
            have hr := HR.out
            rw [decide_eq_true (by omega), Bool.true_and] at hr
            exact Lib.hid hr
          clear HR
          go_wp2
          go_round
          case rel => exact ⟨k + 1, by omega, by go_num, HN⟩
          case measure => simp [intOf]; omega
    · obtain rfl : R = true := by rw [heq.out, List.drop_of_length_le (by omega)]; rfl
      clear heq
      go_wp2
      go_ret
      exact ⟨rfl, rfl⟩
theorem wireWithin1 (lo hi x : Int) (w : World) (t : TypeId) {b : Nat} (hb : b = w.heap.size) : Calls Tryz.prog 142 #[.int .i64 lo, .int .i64 hi, .slice (some ⟨b, 0, none⟩) 1 1] (w.alloc (.cells #[.int .i64 x] t)) fun e w' => e = .returned (.bool (decide (lo ≤ x ∧ x ≤ hi))) ∧ (w.alloc (.cells #[.int .i64 x] t)) = w' := by
  have h := wireWithin lo hi _ [x] 1 _ (ints_new w [x] t _ rfl hb) (by simp)
  simpa [allIn] using h
theorem off_bd (l : List (Int × Int)) (k : Nat) (hk : k < l.length) (o : Int) (h : l[k].2 = o) : offAt l (k + 1) = o := by
  simp only [offAt, List.getElem?_eq_getElem hk, h]
theorem lo_nx (l : List (Int × Int)) (k : Nat) (hk : k < l.length) (a : Int) (h : l[k].1 = a) : loAt l (k + 1) = a + 86400 := by
  simp only [loAt, List.getElem?_eq_getElem hk, h]
set_option maxHeartbeats 1600000 in
theorem wireTable (A : Option Addr) (l : List (Int × Int)) (cap : Nat) (w : World) (h : PairsAt w A l) (hl : l.length ≤ 9223372036854775807) :
    Calls Tryz.prog 124 #[.slice A l.length cap] w fun e w' => e = .returned (.bool (Wire.tab l)) ∧ Ok w w' := by
  have hok := Ok.refl w
  by_cases h32 : 32 < l.length
  · have e : Wire.tab l = false := by unfold Wire.tab; rw [decide_eq_false (by omega)]; rfl
    rw [e]
    have hd : decide ((32 : Int) < (l.length : Int)) = true := decide_eq_true (by omega)
    go_enter Tryz.func124, Tryz.ntmps124
    go_wp2
    go_ret
    exact ⟨rfl, hok⟩
  have e0 : Wire.tab l = Wire.tabFrom (loAt l 0) (offAt l 0) (l.drop 0) := by unfold Wire.tab; rw [decide_eq_true (by omega)]; rfl
  rw [e0]
  clear e0
  obtain ⟨R, hR⟩ : ∃ R, Wire.tabFrom (loAt l 0) (offAt l 0) (l.drop 0) = R := ⟨_, rfl⟩
  rw [hR]
  have HR0 := Lib.hid hR.symm
  clear hR
  have hd : decide ((32 : Int) < (l.length : Int)) = false := decide_eq_false (by omega)
  have H32 := Lib.hid h32
  go_enter Tryz.func124, Tryz.ntmps124
  go_wp2
  go_loopw [3, 4, 12] (fun n c i wx => ∃ k : Nat, k ≤ l.length ∧ i = .int .i64 k ∧ n = .int .i64 (loAt l k) ∧ c = .int .i64 (offAt l k) ∧ Hid (R = Wire.tabFrom (loAt l k) (offAt l k) (l.drop k)) ∧ 0 ≤ loAt l k ∧ -(k : Int) ≤ offAt l k ∧ offAt l k ≤ k ∧ Ok w wx) (fun _ _ i _ => l.length - (intOf i).toNat)
  case atStart => exact ⟨0, Nat.zero_le _, rfl, rfl, rfl, HR0, by show (0 : Int) ≤ 0; decide, by show (-(0 : Nat) : Int) ≤ 0; decide, by show (0 : Int) ≤ (0 : Nat); decide, hok⟩
  case round =>
    obtain ⟨k, hk, rfl, rfl, rfl, heq, b0, b1, b2, hok⟩ := hrel
    clear HR0
    by_cases hlt : k < l.length
    · obtain ⟨b, off, hA, hbs, c1, c2⟩ := h.below hok k hlt
      subst hA
      have HR := Lib.hid (heq.out.trans (tab_step l k hlt))
      have N1 := Lib.hid (lo_nx l k hlt)
      have N2 := Lib.hid (off_bd l k hlt)
      obtain ⟨lo, elo⟩ : ∃ x, loAt l k = x := ⟨_, rfl⟩
      obtain ⟨of, eof⟩ : ∃ x, offAt l k = x := ⟨_, rfl⟩
      obtain ⟨a, ea⟩ : ∃ x, l[k].1 = x := ⟨_, rfl⟩
      obtain ⟨o, eo⟩ : ∃ x, l[k].2 = x := ⟨_, rfl⟩
      have NX := Lib.hid (show loAt l (k + 1) = a + 86400 ∧ offAt l (k + 1) = o from ⟨N1.out _ ea, N2.out _ eo⟩)
      simp only [elo, eof, ea, eo] at HR b0 b1 b2 c1 c2 ⊢
      clear N1 N2 heq h elo eof ea eo
      have hk32 : k < 32 := by have := H32.out; omega
      have KW := Lib.hid fun (W : World) t b (hb : b = W.heap.size) => wireWithin1 lo 1099511627776 a W t hb
      by_cases g1 : lo ≤ a ∧ a ≤ 1099511627776
      · rw [decide_eq_true g1] at KW
        have i1 : 0 ≤ a := by omega
        have i2 : a ≤ 1099511627776 := g1.2
        by_cases p3 : o = of + 1
        · have d5 : (o != of - 1) = true := by rw [bne_iff_ne]; omega
          have d6 : (o != of + 1) = false := by simp [p3]
          have HN := Lib.hid (show R = Wire.tabFrom (loAt l (k + 1)) (offAt l (k + 1)) (l.drop (k + 1)) by
            have hr := HR.out
            rw [decide_eq_true (by omega), Bool.true_and] at hr
            exact hr)
          have ho : -((k + 1 : Nat) : Int) ≤ o ∧ o ≤ ((k + 1 : Nat) : Int) := by omega
          have HOB := Lib.hid ho
          clear HR p3 ho
          go_wp2_with ((go_at_call 142; (with_reducible refine (KW.out _ _ _ (by simp)).mono ?_); rintro e w1 ⟨rfl, rfl⟩))
          go_quiet (fail)
          go_wp2
          go_roundw
          case rel => exact ⟨k + 1, by omega, by go_num, by rw [NX.out.1], by rw [NX.out.2], HN, by rw [NX.out.1]; omega, by rw [NX.out.2]; exact HOB.out.1, by rw [NX.out.2]; exact HOB.out.2, ((hok.alloc _).alloc _).drewN _⟩
          case measure => simp [intOf]; omega
        · by_cases p4 : o = of - 1
          · have d5 : (o != of - 1) = false := by simp [p4]
            have HN := Lib.hid (show R = Wire.tabFrom (loAt l (k + 1)) (offAt l (k + 1)) (l.drop (k + 1)) by
              have hr := HR.out
              rw [decide_eq_true (by omega), Bool.true_and] at hr
              exact hr)
            have ho : -((k + 1 : Nat) : Int) ≤ o ∧ o ≤ ((k + 1 : Nat) : Int) := by omega
            have HOB := Lib.hid ho
            clear HR p3 p4 ho
            go_wp2_with ((go_at_call 142; (with_reducible refine (KW.out _ _ _ (by simp)).mono ?_); rintro e w1 ⟨rfl, rfl⟩))
            go_quiet (fail)
            go_wp2
            go_roundw
            case rel => exact ⟨k + 1, by omega, by go_num, by rw [NX.out.1], by rw [NX.out.2], HN, by rw [NX.out.1]; omega, by rw [NX.out.2]; exact HOB.out.1, by rw [NX.out.2]; exact HOB.out.2, ((hok.alloc _).alloc _).drewN _⟩
            case measure => simp [intOf]; omega
          · have d5 : (o != of - 1) = true := by rw [bne_iff_ne]; omega
            have d6 : (o != of + 1) = true := by rw [bne_iff_ne]; omega
            obtain rfl : R = false := by rw [HR.out, decide_eq_false (by omega)]; rfl
            clear HR p3 p4
            go_wp2_with ((go_at_call 142; (with_reducible refine (KW.out _ _ _ (by simp)).mono ?_); rintro e w1 ⟨rfl, rfl⟩))
            go_ret
            exact ⟨rfl, ((hok.alloc _).alloc _)⟩
      · rw [decide_eq_false g1] at KW
        obtain rfl : R = false := by rw [HR.out, decide_eq_false (by omega)]; rfl
        clear HR g1
        go_wp2_with ((go_at_call 142; (with_reducible refine (KW.out _ _ _ (by simp)).mono ?_); rintro e w1 ⟨rfl, rfl⟩))
        go_ret
        exact ⟨rfl, ((hok.alloc _).alloc _)⟩
    · obtain rfl : k = l.length := by omega
      obtain rfl : R = true := by rw [heq.out, List.drop_length]; rfl
      clear heq b0 b1 b2 hlt
      go_wp2
      go_ret
      exact ⟨rfl, hok⟩
end Go.Proofs.YtmmiboblofopgaaGreat

/- Contracts of layer 7: the k-th least of numbers, by a sorted copy. -/
namespace Go.Proofs.YtmmiboblofopgaaGreat
open Go.RowKit Go.Sort
set_option maxRecDepth 100000
theorem sliceClone (A : Option Addr) (l : List Int) (cap : Nat) (w : World) (h : IntsAt w A l) (hl : l.length ≤ 1099511627776) (h0 : 0 < l.length) :
    Calls Tryz.prog 147 #[.slice A l.length cap] w fun e w' => ∃ g c, e = .returned (.slice (some ⟨g, 0, none⟩) l.length c) ∧ w'.ownsRow w.heap.size 3 1 (.slice (some ⟨g, 0, none⟩) l.length c) l.length (l.map (Value.int .i64)) ∧ Ok w w' := by
  obtain ⟨b, off, hA, hb, _⟩ := h 0 h0
  subst hA
  refine (Tryz.slices_Clone_int b off l.length cap l w (Nat.le_refl _) (by omega) (fun j hj => ?_)).mono ?_
  · obtain ⟨b', off', e, _, hc⟩ := h j hj
    cases e
    rw [hc, List.getD_eq_getElem?_getD, List.getElem?_eq_getElem hj]; rfl
  · rintro e w' ⟨v, rfl, hr, hne, hb⟩
    rw [List.take_of_length_le (Nat.le_refl _)] at hr
    rcases hr.2 with ⟨rfl, _⟩ | ⟨g, c, cur, rfl, _⟩
    · exact absurd rfl hne
    · exact ⟨g, c, rfl, hr, hb⟩
/-- A row of one's own, sorted. -/
theorem sliceSort {w : World} {B g c : Nat} {l : List Int} (h : w.ownsRow B 3 1 (.slice (some ⟨g, 0, none⟩) l.length c) l.length (l.map (Value.int .i64))) (hl : l.length ≤ 1099511627776) :
    Calls Tryz.prog 148 #[.slice (some ⟨g, 0, none⟩) l.length c] w fun e w' => e = .returned (.tuple #[]) ∧ w'.ownsRow B 3 1 (.slice (some ⟨g, 0, none⟩) l.length c) l.length ((l.mergeSort fun x y => decide (x ≤ y)).map (Value.int .i64)) ∧ w.grownBy w' (some g) := by
  rcases h.2 with ⟨h1, _⟩ | ⟨g', c', cur, hv, hb, hh, h1, h2, h3, h4⟩
  · cases h1
  cases hv
  have h4' : cur.toList.take l.length = l.map (Value.int .i64) := by simpa using h4
  refine (Tryz.slices_Sort_int g 0 c l w (holds_of_blockI hh h4') (Array.getElem?_eq_some_iff.1 hh).1 (by omega)).mono ?_
  rintro e w' ⟨rfl, n, os, rfl⟩
  have hlen : (l.mergeSort fun x y => decide (x ≤ y)).length = l.length := (List.mergeSort_perm l _).length_eq
  exact ⟨rfl, ownsRow_sortedI hlen hb hh h1 h2 h3, grownBy_sortedI _⟩
theorem trimHasT (k : Nat) (A : Option Addr) (n cap : Nat) (w : World) (h : k < n) : Calls Tryz.prog 146 #[.int .i64 k, .slice A n cap] w fun e w' => e = .returned (.bool true) ∧ w = w' := by
  go_enter Tryz.func146, Tryz.ntmps146
  go_wp2
  go_ret
  exact ⟨rfl, rfl⟩
theorem trimHasF (k : Int) (A : Option Addr) (n cap : Nat) (w : World) (h : ¬(0 ≤ k ∧ k < n)) : Calls Tryz.prog 146 #[.int .i64 k, .slice A n cap] w fun e w' => e = .returned (.bool false) ∧ w = w' := by
  by_cases h0 : 0 ≤ k
  · have h1 : ¬ k < n := fun g => h ⟨h0, g⟩
    clear h
    go_enter Tryz.func146, Tryz.ntmps146
    go_wp2
    go_ret
    exact ⟨rfl, rfl⟩
  · clear h
    go_enter Tryz.func146, Tryz.ntmps146
    go_wp2
    go_ret
    exact ⟨rfl, rfl⟩
theorem ok_grown {W w w' : World} {g : Nat} (h : Ok W w) (hg : w.grownBy w' (some g)) (hB : W.heap.size ≤ g) : Ok W w' := Below.grown h hg h.size (fun k hk => by cases hk; exact hB)
theorem trimLeastF (k : Int) (A : Option Addr) (l : List Int) (cap : Nat) (w : World) (h : ¬(0 ≤ k ∧ k < l.length)) :
    Calls Tryz.prog 136 #[.int .i64 k, .slice A l.length cap] w fun e w' => e = .returned (.tuple #[.int .i64 0, .bool false]) ∧ Ok w w' := by
  have hok := Ok.refl w
  go_enter Tryz.func136, Tryz.ntmps136
  go_wp2_with (go_at_call 146; refine (trimHasF k _ _ _ _ h).mono ?_; rintro e w1 ⟨rfl, rfl⟩)
  go_ret2
  exact ⟨rfl, hok⟩
set_option maxHeartbeats 800000 in
theorem trimLeastT (k : Nat) (A : Option Addr) (l : List Int) (cap : Nat) (w : World) (hI : IntsAt w A l) (hl : l.length ≤ 1099511627776) (h : k < l.length) :
    Calls Tryz.prog 136 #[.int .i64 k, .slice A l.length cap] w fun e w' => e = .returned (.tuple #[.int .i64 (Trim.kth k l), .bool true]) ∧ Ok w w' := by
  have hok := Ok.refl w
  have KC := Lib.hid (sliceClone A l cap w hI hl (by omega))
  have KS := Lib.hid fun w B g c h => sliceSort (w := w) (B := B) (g := g) (c := c) (l := l) h hl
  have hlen : (l.mergeSort fun x y => decide (x ≤ y)).length = l.length := (List.mergeSort_perm l _).length_eq
  have hv : (l.mergeSort fun x y => decide (x ≤ y))[k]? = some (Trim.kth k l) := by
    have hk' : k < (l.mergeSort fun x y => decide (x ≤ y)).length := by omega
    unfold Trim.kth
    rw [List.getD_eq_getElem?_getD, List.getElem?_eq_getElem hk']; rfl
  generalize (l.mergeSort fun x y => decide (x ≤ y)) = s at KS hv
  generalize Trim.kth k l = v at hv ⊢
  have HV := Lib.hid hv
  clear hv hlen hI
  go_enter Tryz.func136, Tryz.ntmps136
  go_wp2_with (first
    | (go_at_call 146; refine (trimHasT k _ _ _ _ h).mono ?_; rintro e w1 ⟨rfl, rfl⟩)
    | (go_at_call 147; refine KC.out.mono ?_; rintro e w1 ⟨g, c, rfl, hown, hb1⟩)
    | (go_at_call 148; refine (KS.out _ _ _ _ hown).mono ?_; rintro e w2 ⟨rfl, hown2, hg2⟩; have hc := hown2.cells (g := g) rfl k (.int .i64 v) (by rw [List.getElem?_map, HV.out]; rfl); rw [Go.WideShapes.add_plain, Nat.zero_add] at hc; have hB := (World.ownsRow.lt hown g rfl).1))
  go_ret2
  exact ⟨rfl, ok_grown hb1 hg2 (by simpa using hB)⟩
end Go.Proofs.YtmmiboblofopgaaGreat

/- Contracts of layer 7: Least, Most and Middle, the program's. -/
namespace Go.Proofs.YtmmiboblofopgaaGreat
open Go.RowKit
set_option maxRecDepth 100000
theorem Trim.is_t {k : Int} {n : Nat} (h : 0 ≤ k ∧ k < n) : Trim.is k n = true := decide_eq_true h
theorem Trim.is_f {k : Int} {n : Nat} (h : ¬(0 ≤ k ∧ k < n)) : Trim.is k n = false := decide_eq_false h
theorem trimLeast (k : Int) (A : Option Addr) (l : List Int) (cap : Nat) (w : World) (hI : IntsAt w A l) (hl : l.length ≤ 1099511627776) :
    Calls Tryz.prog 136 #[.int .i64 k, .slice A l.length cap] w fun e w' => e = .returned (.tuple #[.int .i64 (Trim.val k l), .bool (Trim.is k l.length)]) ∧ Ok w w' := by
  by_cases h : 0 ≤ k ∧ k < l.length
  · rw [Trim.is_t h]
    obtain ⟨n, rfl⟩ : ∃ n : Nat, k = n := ⟨k.toNat, by omega⟩
    unfold Trim.val
    rw [if_pos h]
    exact trimLeastT n A l cap w hI hl (by omega)
  · rw [Trim.is_f h, Trim.val_out h]
    exact trimLeastF k A l cap w h
theorem trimMost (k : Int) (A : Option Addr) (l : List Int) (cap : Nat) (w : World) (hI : IntsAt w A l) (hl : l.length ≤ 1099511627776) :
    Calls Tryz.prog 135 #[.int .i64 k, .slice A l.length cap] w fun e w' => e = .returned (.tuple #[.int .i64 (Trim.val ((l.length : Int) - 1 - k) l), .bool (Trim.is k l.length)]) ∧ Ok w w' := by
  have hok := Ok.refl w
  by_cases h : 0 ≤ k ∧ k < l.length
  · have K := Lib.hid (trimLeast ((l.length : Int) - 1 - k) A l cap w hI hl)
    rw [Trim.is_t (show 0 ≤ (l.length : Int) - 1 - k ∧ (l.length : Int) - 1 - k < l.length by omega)] at K
    rw [Trim.is_t h]
    obtain ⟨n, rfl⟩ : ∃ n : Nat, k = n := ⟨k.toNat, by omega⟩
    have hn : n < l.length := by omega
    clear h hI
    go_enter Tryz.func135, Tryz.ntmps135
    go_wp2_with (first
      | (go_at_call 146; refine (trimHasT n _ _ _ _ hn).mono ?_; rintro e w1 ⟨rfl, rfl⟩)
      | (go_at_call 136; refine K.out.mono ?_; rintro e w2 ⟨rfl, hb⟩))
    go_ret2
    exact ⟨rfl, hb⟩
  · rw [Trim.is_f h, Trim.val_out (by omega)]
    go_enter Tryz.func135, Tryz.ntmps135
    go_wp2_with (go_at_call 146; refine (trimHasF k _ _ _ _ h).mono ?_; rintro e w1 ⟨rfl, rfl⟩)
    go_ret2
    exact ⟨rfl, hok⟩
theorem trimOutvoted (f n : Int) (w : World) (hn : 0 ≤ n ∧ n ≤ 1099511627776) (hf : -9223372036854775808 ≤ f ∧ f ≤ 9223372036854775807) : Calls Tryz.prog 134 #[.int .i64 f, .int .i64 n] w fun e w' => e = .returned (.bool (Trim.many f n.toNat)) ∧ w = w' := by
  by_cases h0 : 0 ≤ f
  · have hr : IntKind.i64.wrap (n - f) = n - f := IntWalk.i64_in _ ⟨by omega, by omega⟩
    have hm : Trim.many f n.toNat = decide (f < n - f) := by
      unfold Trim.many
      rw [show ((n.toNat : Nat) : Int) = n by omega]
      simp [h0]
    rw [hm]
    by_cases h1 : f < n - f
    · rw [decide_eq_true h1]
      have h2 : 0 ≤ n - f := by omega
      clear hm hf
      go_enter Tryz.func134, Tryz.ntmps134
      go_wp2
      go_ret
      exact ⟨rfl, rfl⟩
    · rw [decide_eq_false h1]
      clear hm hf
      go_enter Tryz.func134, Tryz.ntmps134
      go_wp2
      go_ret
      exact ⟨rfl, rfl⟩
  · have hm : Trim.many f n.toNat = false := decide_eq_false fun g => h0 g.1
    rw [hm]
    clear hm hf
    go_enter Tryz.func134, Tryz.ntmps134
    go_wp2
    go_ret
    exact ⟨rfl, rfl⟩
theorem trimOutvotedN (f : Int) (n : Nat) (w : World) (hn : n ≤ 1099511627776) (hf : -9223372036854775808 ≤ f ∧ f ≤ 9223372036854775807) : Calls Tryz.prog 134 #[.int .i64 f, .int .i64 (n : Int)] w fun e w' => e = .returned (.bool (Trim.many f n)) ∧ w = w' := by
  have := trimOutvoted f n w (by omega) hf
  rwa [Int.toNat_natCast] at this
end Go.Proofs.YtmmiboblofopgaaGreat
