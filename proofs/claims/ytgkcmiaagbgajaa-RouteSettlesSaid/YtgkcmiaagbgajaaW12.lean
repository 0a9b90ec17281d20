/- Words of my own: a message (api.Msg) that came in by value. -/
import Derived.Test.YtgkcmiaagbgajaaW04
import Derived.SizedLaws
import Derived.Test.YtgkcmiaagbgajaaM11
import Derived.Test.YtgkcmiaagbgajaaRows
import Derived.Test.YtgkcmiaagbgajaaProg
namespace Go.Proofs.Ytgkcmiaagbgajaa
open Go.RowKit Go.WideShapes Go.ChangeShapes Go.Joins Go.Deep
set_option maxRecDepth 100000
section
variable {H : Type} {enc : TypeId × Value → H} {P : Program} {w : World}
/-- A slice of structs of two integers, as cells that came in. -/
theorem trod_pairs {t e : TypeId} {f0 f1 : Field} {fuel : Nat} {cs : List Value} {x : DataW H × List MemPlace} (ht : P.underlying t = some (.slice e)) (he : P.underlying e = some (.struct #[f0, f1])) (hone : oneCellFields P #[f0, f1] = true) (hC : P.cellsOf e = 2)
    (h0 : P.underlying f0.type = some (.int .i64)) (h1 : P.underlying f1.type = some (.int .i64)) (hf : DataW.trod enc P w 0 (fun _ => true) true fuel t cs = some x) :
    ∃ (A : Option Addr) (l : List (Int × Int)) (cap : Nat), cs = [.slice A l.length cap] ∧ PairsAt w A l ∧ l.length ≤ cap ∧ cap ≤ maxLen ∧ (∀ s ∈ l, (Lit.int .i64 s.1).wf = true ∧ (Lit.int .i64 s.2).wf = true) ∧ ((∀ n ∈ x.1.weights P t, n ≤ reachBytes) → l.length * P.bytesOf e ≤ reachBytes) := by
  rcases open_slice ht hf with h2 | ⟨a, len', cap', m, n, D, Pl, hcs, hb, hl, hm, hmm, hx, hi⟩
  · exact ⟨none, [], 0, h2.1, PairsAt.empty _ _, by simp, by unfold maxLen; simp, by simp, fun _ => by simp⟩
  · subst hcs
    simp only [if_true] at hmm
    subst hmm
    have key : ∀ i, i < len' → ∃ x y : Int, w.cell? (a.add (i * 2)) = some (.int .i64 x) ∧ w.cell? (a.add (i * 2 + 1)) = some (.int .i64 y) ∧ (Lit.int .i64 x).wf = true ∧ (Lit.int .i64 y).wf = true := by
      intro i hlt
      obtain ⟨cs', hc, ht'⟩ := hi i (by omega)
      rw [hC] at hc
      obtain ⟨ys, n', hn', hy, hlen, hyl, hfl⟩ := DataW.trod_struct he ht'
      obtain ⟨_, hcl, hat⟩ := World.cells?_some hc
      have one : ∀ (j : Nat) (f : Field), #[f0, f1][j]? = some f → P.underlying f.type = some (.int .i64) → ∃ z : Int, w.cell? (a.add (i * 2 + j)) = some (.int .i64 z) ∧ (Lit.int .i64 z).wf = true := by
        intro j f hj hu
        obtain ⟨ho, hk⟩ := hone_of hone j f hj
        have hjl : j < 2 := (Array.getElem?_eq_some_iff.1 hj).1
        have hcell := hat j hjl
        have h1 := hfl j f hj
        rw [ho, hk] at h1
        have e1 : (cs'.drop j).take 1 = [cs'[j]'(by omega)] := by
          rw [List.drop_eq_getElem_cons (by omega)]
          rfl
        have hjs : j < ys.length := by rw [hyl]; exact hjl
        rw [e1, List.getElem?_eq_getElem hjs] at h1
        obtain ⟨z, h2, _, h3⟩ := DataW.trod_int hu h1
        refine ⟨z, ?_, h3⟩
        rw [← Go.Deep.add_add, hcell, List.getElem?_eq_getElem (show j < cs'.length by omega)]
        simpa using h2
      obtain ⟨x, hx, wx⟩ := one 0 f0 rfl h0
      obtain ⟨y, hy, wy⟩ := one 1 f1 rfl h1
      exact ⟨x, y, hx, hy, wx, wy⟩
    have key' : ∀ i : Fin len', ∃ s : Int × Int, w.cell? (a.add (i * 2)) = some (.int .i64 s.1) ∧ w.cell? (a.add (i * 2 + 1)) = some (.int .i64 s.2) ∧ (Lit.int .i64 s.1).wf = true ∧ (Lit.int .i64 s.2).wf = true := fun i => by
      obtain ⟨x, y, h⟩ := key i i.2
      exact ⟨(x, y), h⟩
    obtain ⟨F, hF⟩ := Classical.axiomOfChoice key'
    have hlen : (List.ofFn F).length = len' := by simp
    refine ⟨some a, List.ofFn F, _, by rw [hlen], fun k hk => ?_, by omega, hm, fun s hs => ?_, fun hn => ?_⟩
    · have hk' : k < len' := by omega
      have h := hF ⟨k, hk'⟩
      obtain ⟨b, off, spot⟩ := a
      have hspot : spot = none := by
        have h0 := hF ⟨0, by omega⟩
        simpa [Addr.add] using World.cell?_spot h0.1
      subst hspot
      simp only [Go.WideShapes.add_plain, ← Nat.add_assoc] at h
      have e : (List.ofFn F)[k] = F ⟨k, hk'⟩ := by simp
      rw [e]
      exact ⟨b, off, rfl, cell_lt h.1, h.1, h.2.1⟩
    · obtain ⟨i, rfl⟩ := List.mem_ofFn.1 hs
      exact (hF i).2.2
    · have h1 := hn ((len' + (m - len')) * P.bytesOf e) (by rw [hx]; simp [DataW.weights, ht])
      refine Nat.le_trans (Nat.mul_le_mul_right _ ?_) h1
      rw [hlen]
      omega
end
/-- A message's value: its table lies at A. -/
def msgV (m : Msg) (A : Option Addr) (cap : Nat) : Value := .agg #[.int .i64 m.kind, .int .i64 m.frm, .int .i64 m.lo, .int .i64 m.hi, .int .i64 m.held, .int .i64 m.hops, .bool m.good, .bool m.ref, .int .i64 m.slo, .int .i64 m.shi, .int .i64 m.pulse, .int .i64 m.time, .int .i64 m.num, .slice A m.table.length cap]
/-- The cells of a message in a block. -/
def msgCells (m : Msg) (A : Option Addr) (cap : Nat) : Array Value := #[.int .i64 m.kind, .int .i64 m.frm, .int .i64 m.lo, .int .i64 m.hi, .int .i64 m.held, .int .i64 m.hops, .bool m.good, .bool m.ref, .int .i64 m.slo, .int .i64 m.shi, .int .i64 m.pulse, .int .i64 m.time, .int .i64 m.num, .slice A m.table.length cap]
/-- No message. -/
def zeroMsg : Msg := ⟨0, 0, 0, 0, 0, 0, false, false, 0, 0, 0, 0, 0, []⟩
/-- No message's cells. -/
def zeroCells : Array Value := #[.int .i64 0, .int .i64 0, .int .i64 0, .int .i64 0, .int .i64 0, .int .i64 0, .bool false, .bool false, .int .i64 0, .int .i64 0, .int .i64 0, .int .i64 0, .int .i64 0, .slice none 0 0]
theorem zeroMsgV (w : World) : Sem.run Try.prog (zeroValue 38) w = .ok (msgV zeroMsg none 0) w := by kernel_rfl
/-- All of its numbers are numbers of 64 bits. -/
def MsgWf (m : Msg) : Prop := (∀ x ∈ Wire.nine m, (Lit.int .i64 x).wf = true) ∧ (Lit.int .i64 m.kind).wf = true ∧ (Lit.int .i64 m.frm).wf = true ∧ ∀ s ∈ m.table, (Lit.int .i64 s.1).wf = true ∧ (Lit.int .i64 s.2).wf = true
/-- A message's cells, as they were read. -/
theorem trod_msg {H : Type} {enc : TypeId × Value → H} {w : World} {fuel : Nat} {l : List Value} {x : DataW H × List MemPlace} (hcl : l.length = 14) (hf : DataW.trod enc Try.prog w 0 (fun _ => true) true fuel 38 l = some x) :
    ∃ (m : Msg) (A : Option Addr) (cap : Nat), l = (msgCells m A cap).toList ∧ PairsAt w A m.table ∧ m.table.length ≤ cap ∧ cap ≤ maxLen ∧ MsgWf m ∧ ((∀ n ∈ x.1.weights Try.prog 38, n ≤ reachBytes) → m.table.length ≤ 8796093022208) := by
  obtain ⟨ys, n', hn', hy, hlen, hyl, hfl⟩ := DataW.trod_struct Try.underlying38 hf
  have hys : ys.length = 11 := hyl
  have cI : Try.prog.cellsOf 3 = 1 := by kernel_rfl
  have cB : Try.prog.cellsOf 4 = 1 := by kernel_rfl
  have cS : Try.prog.cellsOf 33 = 2 := by kernel_rfl
  have cT : Try.prog.cellsOf 35 = 2 := by kernel_rfl
  have cL : Try.prog.cellsOf 36 = 1 := by kernel_rfl
  match l, hcl with
  | [c0, c1, c2, c3, c4, c5, c6, c7, c8, c9, c10, c11, c12, c13], _ =>
    have get : ∀ i, i < 11 → ∃ y, ys[i]? = some y := fun i hi => ⟨ys[i]'(by omega), List.getElem?_eq_getElem _⟩
    have int1 : ∀ (i : Nat) (c : Value), DataW.trod enc Try.prog w 0 (fun _ => true) true n' 3 [c] = ys[i]? → i < 11 → ∃ z, c = .int .i64 z ∧ (Lit.int .i64 z).wf = true := by
      intro i c h hi
      obtain ⟨y, hy⟩ := get i hi
      rw [hy] at h
      obtain ⟨z, h1, _, h3⟩ := DataW.trod_int Try.underlying3 h
      exact ⟨z, by simpa using h1, h3⟩
    have bool1 : ∀ (i : Nat) (c : Value), DataW.trod enc Try.prog w 0 (fun _ => true) true n' 4 [c] = ys[i]? → i < 11 → ∃ z, c = .bool z := by
      intro i c h hi
      obtain ⟨y, hy⟩ := get i hi
      rw [hy] at h
      obtain ⟨z, h1, _⟩ := DataW.trod_bool Try.underlying4 h
      exact ⟨z, by simpa using h1⟩
    have pair1 : ∀ (i : Nat) (t : TypeId) (f0 f1 : Field) (c d : Value), Try.prog.underlying t = some (.struct #[f0, f1]) → f0.type = 3 → f1.type = 3 → f0.offset = 0 → f1.offset = 1 → DataW.trod enc Try.prog w 0 (fun _ => true) true n' t [c, d] = ys[i]? → i < 11 →
        ∃ x y, c = .int .i64 x ∧ d = .int .i64 y ∧ (Lit.int .i64 x).wf = true ∧ (Lit.int .i64 y).wf = true := by
      intro i t f0 f1 c d hu t0 t1 o0 o1 h hi
      obtain ⟨y, hy⟩ := get i hi
      rw [hy] at h
      obtain ⟨zs, n2, _, _, _, hzl, hz⟩ := DataW.trod_struct hu h
      have hzs : zs.length = 2 := hzl
      have a0 := hz 0 f0 rfl
      have a1 := hz 1 f1 rfl
      rw [t0, o0, cI, List.getElem?_eq_getElem (by omega)] at a0
      rw [t1, o1, cI, List.getElem?_eq_getElem (by omega)] at a1
      obtain ⟨x, e1, _, w1⟩ := DataW.trod_int Try.underlying3 a0
      obtain ⟨z, e2, _, w2⟩ := DataW.trod_int Try.underlying3 a1
      exact ⟨x, z, by simpa using e1, by simpa using e2, w1, w2⟩
    have g0 : DataW.trod enc Try.prog w 0 (fun _ => true) true n' 3 (([c0, c1, c2, c3, c4, c5, c6, c7, c8, c9, c10, c11, c12, c13].drop 0).take (Try.prog.cellsOf 3)) = ys[0]? := hfl 0 _ rfl
    rw [cI] at g0
    have g1 : DataW.trod enc Try.prog w 0 (fun _ => true) true n' 3 (([c0, c1, c2, c3, c4, c5, c6, c7, c8, c9, c10, c11, c12, c13].drop 1).take (Try.prog.cellsOf 3)) = ys[1]? := hfl 1 _ rfl
    rw [cI] at g1
    have g2 : DataW.trod enc Try.prog w 0 (fun _ => true) true n' 33 (([c0, c1, c2, c3, c4, c5, c6, c7, c8, c9, c10, c11, c12, c13].drop 2).take (Try.prog.cellsOf 33)) = ys[2]? := hfl 2 _ rfl
    rw [cS] at g2
    have g3 : DataW.trod enc Try.prog w 0 (fun _ => true) true n' 3 (([c0, c1, c2, c3, c4, c5, c6, c7, c8, c9, c10, c11, c12, c13].drop 4).take (Try.prog.cellsOf 3)) = ys[3]? := hfl 3 _ rfl
    rw [cI] at g3
    have g4 : DataW.trod enc Try.prog w 0 (fun _ => true) true n' 3 (([c0, c1, c2, c3, c4, c5, c6, c7, c8, c9, c10, c11, c12, c13].drop 5).take (Try.prog.cellsOf 3)) = ys[4]? := hfl 4 _ rfl
    rw [cI] at g4
    have g5 : DataW.trod enc Try.prog w 0 (fun _ => true) true n' 4 (([c0, c1, c2, c3, c4, c5, c6, c7, c8, c9, c10, c11, c12, c13].drop 6).take (Try.prog.cellsOf 4)) = ys[5]? := hfl 5 _ rfl
    rw [cB] at g5
    have g6 : DataW.trod enc Try.prog w 0 (fun _ => true) true n' 4 (([c0, c1, c2, c3, c4, c5, c6, c7, c8, c9, c10, c11, c12, c13].drop 7).take (Try.prog.cellsOf 4)) = ys[6]? := hfl 6 _ rfl
    rw [cB] at g6
    have g7 : DataW.trod enc Try.prog w 0 (fun _ => true) true n' 33 (([c0, c1, c2, c3, c4, c5, c6, c7, c8, c9, c10, c11, c12, c13].drop 8).take (Try.prog.cellsOf 33)) = ys[7]? := hfl 7 _ rfl
    rw [cS] at g7
    have g8 : DataW.trod enc Try.prog w 0 (fun _ => true) true n' 3 (([c0, c1, c2, c3, c4, c5, c6, c7, c8, c9, c10, c11, c12, c13].drop 10).take (Try.prog.cellsOf 3)) = ys[8]? := hfl 8 _ rfl
    rw [cI] at g8
    have g9 : DataW.trod enc Try.prog w 0 (fun _ => true) true n' 35 (([c0, c1, c2, c3, c4, c5, c6, c7, c8, c9, c10, c11, c12, c13].drop 11).take (Try.prog.cellsOf 35)) = ys[9]? := hfl 9 _ rfl
    rw [cT] at g9
    have g10 : DataW.trod enc Try.prog w 0 (fun _ => true) true n' 36 (([c0, c1, c2, c3, c4, c5, c6, c7, c8, c9, c10, c11, c12, c13].drop 13).take (Try.prog.cellsOf 36)) = ys[10]? := hfl 10 _ rfl
    rw [cL] at g10
    obtain ⟨kind, rfl, wk⟩ := int1 0 _ g0 (by omega)
    obtain ⟨frm, rfl, wf⟩ := int1 1 _ g1 (by omega)
    obtain ⟨lo, hi, rfl, rfl, wlo, whi⟩ := pair1 2 _ _ _ _ _ Try.underlying33 rfl rfl rfl rfl g2 (by omega)
    obtain ⟨held, rfl, whe⟩ := int1 3 _ g3 (by omega)
    obtain ⟨hops, rfl, who⟩ := int1 4 _ g4 (by omega)
    obtain ⟨good, rfl⟩ := bool1 5 _ g5 (by omega)
    obtain ⟨ref, rfl⟩ := bool1 6 _ g6 (by omega)
    obtain ⟨slo, shi, rfl, rfl, wsl, wsh⟩ := pair1 7 _ _ _ _ _ Try.underlying33 rfl rfl rfl rfl g7 (by omega)
    obtain ⟨pulse, rfl, wp⟩ := int1 8 _ g8 (by omega)
    obtain ⟨time, num, rfl, rfl, wt, wn⟩ := pair1 9 _ _ _ _ _ Try.underlying35 rfl rfl rfl rfl g9 (by omega)
    obtain ⟨y, hy10⟩ := get 10 (by omega)
    rw [hy10] at g10
    obtain ⟨A, tb, cap, e, hA, hc1, hc2, hw, hbig⟩ := trod_pairs Try.underlying36 Try.underlying55 (by kernel_rfl) (by kernel_rfl) Try.underlying3 Try.underlying3 g10
    obtain rfl : c13 = .slice A tb.length cap := by simpa using e
    refine ⟨⟨kind, frm, lo, hi, held, hops, good, ref, slo, shi, pulse, time, num, tb⟩, A, cap, rfl, hA, hc1, hc2, ⟨?_, wk, wf, hw⟩, fun hn => ?_⟩
    · intro x hx
      simp only [Wire.nine, List.mem_cons, List.not_mem_nil, or_false] at hx
      rcases hx with rfl | rfl | rfl | rfl | rfl | rfl | rfl | rfl | rfl <;> assumption
    · have hT : tb.length * Try.prog.bytesOf 55 ≤ reachBytes := hbig fun n hn2 => hn n (by
        have hyx : x.1 = .agg (ys.map (·.1)) := by rw [hy]
        rw [hyx]
        simp only [DataW.weights, Try.underlying38]
        exact DataW.weights_mem_each (j := 10) (t := 36) (d := y.1) rfl (by rw [List.getElem?_map, hy10]; rfl) n hn2)
      rw [show Try.prog.bytesOf 55 = 16 by kernel_rfl] at hT
      simp only [reachBytes] at hT
      show tb.length ≤ 8796093022208
      omega
theorem open_msg {H : Type} {enc : TypeId × Value → H} {w : World} {b0 : Nat} {v : Value} {d : DataW H} {p : List MemPlace} (hv : Value.okWide Try.prog w .any b0 38 v) (h : DataW.Trod enc Try.prog w 0 (fun _ => true) true 38 v d p) :
    ∃ (m : Msg) (A : Option Addr) (cap : Nat), v = msgV m A cap ∧ PairsAt w A m.table ∧ m.table.length ≤ cap ∧ cap ≤ maxLen ∧ MsgWf m := by
  obtain ⟨cs, rfl, hsz⟩ := okWide_struct Try.underlying38 hv
  obtain ⟨fuel, hf⟩ := h
  rw [show Try.prog.cellsOf 38 = 14 by kernel_rfl] at hsz
  obtain ⟨m, A, cap, e, h1, h2, h3, h4, _⟩ := trod_msg (l := cs.toList) (by simpa using hsz) hf
  have hcs : cs = msgCells m A cap := by
    rw [← Array.toArray_toList (xs := cs), e, Array.toArray_toList]
  exact ⟨m, A, cap, by rw [hcs]; rfl, h1, h2, h3, h4⟩
end Go.Proofs.Ytgkcmiaagbgajaa
