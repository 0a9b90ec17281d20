/- Words of my own: a state (api.State) that came in by value. -/
import Derived.Test.YtlclfonlidcfiaaDoorWA
import Derived.Test.YtlclfonlidcfiaaDoorWC
import Derived.SizedLaws
import Derived.Test.YtlclfonlidcfiaaDoorMA
import Derived.Test.YtlclfonlidcfiaaDoorRows
import Derived.Test.YtlclfonlidcfiaaDoorProg
namespace Go.Proofs.YtlclfonlidcfiaaDoor
open Go.RowKit Go.WideShapes Go.ChangeShapes Go.Joins Go.Deep
set_option maxRecDepth 100000
/-- A state's value: its table lies at A. -/
def staV (s : Sta) (A : Option Addr) (cap : Nat) : Value := .agg #[.int .i64 s.lo, .int .i64 s.hi, .int .i64 s.time, .bool s.set, .int .i64 s.held, .int .i64 s.hops, .bool s.good, .slice A s.table.length cap, .int .i64 s.st, .int .i64 s.sn, .int .i64 s.life]
/-- The cells of a state in a block. -/
def staCells (s : Sta) (A : Option Addr) (cap : Nat) : Array Value := #[.int .i64 s.lo, .int .i64 s.hi, .int .i64 s.time, .bool s.set, .int .i64 s.held, .int .i64 s.hops, .bool s.good, .slice A s.table.length cap, .int .i64 s.st, .int .i64 s.sn, .int .i64 s.life]
/-- All of its numbers are numbers of 64 bits. -/
structure StaWf (s : Sta) : Prop where
  lo : (Lit.int .i64 s.lo).wf = true
  hi : (Lit.int .i64 s.hi).wf = true
  time : (Lit.int .i64 s.time).wf = true
  held : (Lit.int .i64 s.held).wf = true
  hops : (Lit.int .i64 s.hops).wf = true
  st : (Lit.int .i64 s.st).wf = true
  sn : (Lit.int .i64 s.sn).wf = true
  life : (Lit.int .i64 s.life).wf = true
  table : ∀ e ∈ s.table, (Lit.int .i64 e.1).wf = true ∧ (Lit.int .i64 e.2).wf = true
theorem trod_sta {H : Type} {enc : TypeId × Value → H} {w : World} {fuel : Nat} {l : List Value} {x : DataW H × List MemPlace} (hcl : l.length = 11) (hf : DataW.trod enc Tryd.prog w 0 (fun _ => true) true fuel 30 l = some x) :
    ∃ (s : Sta) (A : Option Addr) (cap : Nat), l = (staCells s A cap).toList ∧ PairsAt w A s.table ∧ s.table.length ≤ cap ∧ cap ≤ maxLen ∧ StaWf s := by
  obtain ⟨ys, n', hn', hy, hlen, hyl, hfl⟩ := DataW.trod_struct Tryd.underlying30 hf
  have hys : ys.length = 9 := hyl
  have cint : Tryd.prog.cellsOf 3 = 1 := by kernel_rfl
  have cbool : Tryd.prog.cellsOf 4 = 1 := by kernel_rfl
  have cSpan : Tryd.prog.cellsOf 25 = 2 := by kernel_rfl
  have cStamp : Tryd.prog.cellsOf 28 = 2 := by kernel_rfl
  have cLeap : Tryd.prog.cellsOf 26 = 1 := by kernel_rfl
  match l, hcl with
  | [c0, c1, c2, c3, c4, c5, c6, c7, c8, c9, c10], _ =>
    have get : ∀ i, i < 9 → ∃ y, ys[i]? = some y := fun i hi => ⟨ys[i]'(by omega), List.getElem?_eq_getElem _⟩
    have int1 : ∀ (i : Nat) (c : Value), DataW.trod enc Tryd.prog w 0 (fun _ => true) true n' 3 [c] = ys[i]? → i < 9 → ∃ z, c = .int .i64 z ∧ (Lit.int .i64 z).wf = true := by
      intro i c h hi
      obtain ⟨y, hy⟩ := get i hi
      rw [hy] at h
      obtain ⟨z, h1, _, h3⟩ := DataW.trod_int Tryd.underlying3 h
      exact ⟨z, by simpa using h1, h3⟩
    have bool1 : ∀ (i : Nat) (c : Value), DataW.trod enc Tryd.prog w 0 (fun _ => true) true n' 4 [c] = ys[i]? → i < 9 → ∃ z, c = .bool z := by
      intro i c h hi
      obtain ⟨y, hy⟩ := get i hi
      rw [hy] at h
      obtain ⟨z, h1, _⟩ := DataW.trod_bool Tryd.underlying4 h
      exact ⟨z, by simpa using h1⟩
    have pair1 : ∀ (i : Nat) (t : TypeId) (f0 f1 : Field) (c d : Value), Tryd.prog.underlying t = some (.struct #[f0, f1]) → f0.type = 3 → f1.type = 3 → f0.offset = 0 → f1.offset = 1 → DataW.trod enc Tryd.prog w 0 (fun _ => true) true n' t [c, d] = ys[i]? → i < 9 →
        ∃ x y, c = .int .i64 x ∧ d = .int .i64 y ∧ (Lit.int .i64 x).wf = true ∧ (Lit.int .i64 y).wf = true := by
      intro i t f0 f1 c d hu t0 t1 o0 o1 h hi
      obtain ⟨y, hy⟩ := get i hi
      rw [hy] at h
      obtain ⟨zs, n2, _, _, _, hzl, hz⟩ := DataW.trod_struct hu h
      have hzs : zs.length = 2 := hzl
      have a0 := hz 0 f0 rfl
      have a1 := hz 1 f1 rfl
      rw [t0, o0, cint, List.getElem?_eq_getElem (by omega)] at a0
      rw [t1, o1, cint, List.getElem?_eq_getElem (by omega)] at a1
      obtain ⟨x, e1, _, w1⟩ := DataW.trod_int Tryd.underlying3 a0
      obtain ⟨z, e2, _, w2⟩ := DataW.trod_int Tryd.underlying3 a1
      exact ⟨x, z, by simpa using e1, by simpa using e2, w1, w2⟩
    have g0 : DataW.trod enc Tryd.prog w 0 (fun _ => true) true n' 25 (([c0, c1, c2, c3, c4, c5, c6, c7, c8, c9, c10].drop 0).take (Tryd.prog.cellsOf 25)) = ys[0]? := hfl 0 _ rfl
    rw [cSpan] at g0
    have g1 : DataW.trod enc Tryd.prog w 0 (fun _ => true) true n' 3 (([c0, c1, c2, c3, c4, c5, c6, c7, c8, c9, c10].drop 2).take (Tryd.prog.cellsOf 3)) = ys[1]? := hfl 1 _ rfl
    rw [cint] at g1
    have g2 : DataW.trod enc Tryd.prog w 0 (fun _ => true) true n' 4 (([c0, c1, c2, c3, c4, c5, c6, c7, c8, c9, c10].drop 3).take (Tryd.prog.cellsOf 4)) = ys[2]? := hfl 2 _ rfl
    rw [cbool] at g2
    have g3 : DataW.trod enc Tryd.prog w 0 (fun _ => true) true n' 3 (([c0, c1, c2, c3, c4, c5, c6, c7, c8, c9, c10].drop 4).take (Tryd.prog.cellsOf 3)) = ys[3]? := hfl 3 _ rfl
    rw [cint] at g3
    have g4 : DataW.trod enc Tryd.prog w 0 (fun _ => true) true n' 3 (([c0, c1, c2, c3, c4, c5, c6, c7, c8, c9, c10].drop 5).take (Tryd.prog.cellsOf 3)) = ys[4]? := hfl 4 _ rfl
    rw [cint] at g4
    have g5 : DataW.trod enc Tryd.prog w 0 (fun _ => true) true n' 4 (([c0, c1, c2, c3, c4, c5, c6, c7, c8, c9, c10].drop 6).take (Tryd.prog.cellsOf 4)) = ys[5]? := hfl 5 _ rfl
    rw [cbool] at g5
    have g6 : DataW.trod enc Tryd.prog w 0 (fun _ => true) true n' 26 (([c0, c1, c2, c3, c4, c5, c6, c7, c8, c9, c10].drop 7).take (Tryd.prog.cellsOf 26)) = ys[6]? := hfl 6 _ rfl
    rw [cLeap] at g6
    have g7 : DataW.trod enc Tryd.prog w 0 (fun _ => true) true n' 28 (([c0, c1, c2, c3, c4, c5, c6, c7, c8, c9, c10].drop 8).take (Tryd.prog.cellsOf 28)) = ys[7]? := hfl 7 _ rfl
    rw [cStamp] at g7
    have g8 : DataW.trod enc Tryd.prog w 0 (fun _ => true) true n' 3 (([c0, c1, c2, c3, c4, c5, c6, c7, c8, c9, c10].drop 10).take (Tryd.prog.cellsOf 3)) = ys[8]? := hfl 8 _ rfl
    rw [cint] at g8
    obtain ⟨lo, hi, rfl, rfl, wlo, whi⟩ := pair1 0 _ _ _ _ _ Tryd.underlying25 rfl rfl rfl rfl g0 (by omega)
    obtain ⟨time, rfl, wtime⟩ := int1 1 _ g1 (by omega)
    obtain ⟨set, rfl⟩ := bool1 2 _ g2 (by omega)
    obtain ⟨held, rfl, wheld⟩ := int1 3 _ g3 (by omega)
    obtain ⟨hops, rfl, whops⟩ := int1 4 _ g4 (by omega)
    obtain ⟨good, rfl⟩ := bool1 5 _ g5 (by omega)
    obtain ⟨y, hy6⟩ := get 6 (by omega)
    rw [hy6] at g6
    obtain ⟨A, tb, cap, e, hA, hc1, hc2, hw, _⟩ := trod_pairs Tryd.underlying26 Tryd.underlying77 (by kernel_rfl) (by kernel_rfl) Tryd.underlying3 Tryd.underlying3 g6
    obtain rfl : c7 = .slice A tb.length cap := by simpa using e
    obtain ⟨st, sn, rfl, rfl, wst, wsn⟩ := pair1 7 _ _ _ _ _ Tryd.underlying28 rfl rfl rfl rfl g7 (by omega)
    obtain ⟨life, rfl, wlife⟩ := int1 8 _ g8 (by omega)
    exact ⟨⟨lo, hi, time, set, held, hops, good, tb, st, sn, life⟩, A, cap, rfl, hA, hc1, hc2, ⟨wlo, whi, wtime, wheld, whops, wst, wsn, wlife, hw⟩⟩
theorem open_sta {H : Type} {enc : TypeId × Value → H} {w : World} {b0 : Nat} {v : Value} {d : DataW H} {p : List MemPlace} (hv : Value.okWide Tryd.prog w .any b0 30 v) (h : DataW.Trod enc Tryd.prog w 0 (fun _ => true) true 30 v d p) :
    ∃ (s : Sta) (A : Option Addr) (cap : Nat), v = staV s A cap ∧ PairsAt w A s.table ∧ s.table.length ≤ cap ∧ cap ≤ maxLen ∧ StaWf s := by
  obtain ⟨cs, rfl, hsz⟩ := okWide_struct Tryd.underlying30 hv
  obtain ⟨fuel, hf⟩ := h
  rw [show Tryd.prog.cellsOf 30 = 11 by kernel_rfl] at hsz
  obtain ⟨s, A, cap, e, h1, h2, h3, h4⟩ := trod_sta (l := cs.toList) (by simpa using hsz) hf
  have hcs : cs = staCells s A cap := by
    rw [← Array.toArray_toList (xs := cs), e, Array.toArray_toList]
  exact ⟨s, A, cap, by rw [hcs]; rfl, h1, h2, h3, h4⟩
end Go.Proofs.YtlclfonlidcfiaaDoor
