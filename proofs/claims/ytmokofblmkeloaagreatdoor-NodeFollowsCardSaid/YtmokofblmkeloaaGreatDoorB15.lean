/- Words of my own: a state (api.State) that came in by value. -/
import Derived.Test.YtmokofblmkeloaaGreatDoorB00
import Derived.Test.YtmokofblmkeloaaGreatDoorP22
import Derived.Test.YtmokofblmkeloaaGreatDoorMA
import Derived.Test.YtmokofblmkeloaaGreatDoorRows
import Derived.Test.YtmokofblmkeloaaGreatDoorProg
import Derived.Test.YtmokofblmkeloaaGreatDoorB06
import Derived.Test.YtmokofblmkeloaaGreatDoorB03
import Derived.Test.YtmokofblmkeloaaGreatDoorB12
import Derived.Test.YtmokofblmkeloaaGreatDoorP24
import Derived.SizedLaws
namespace Go.Proofs.YtmokofblmkeloaaGreatDoor
open Go.RowKit Go.WideShapes Go.ChangeShapes Go.Joins Go.Deep
set_option maxRecDepth 100000
/-- A state's value: its table lies at A. -/
def staV (s : Sta) (A : Option Addr) (cap : Nat) : Value := .agg #[.int .i64 s.lo, .int .i64 s.hi, .int .i64 s.time, .bool s.set, .int .i64 s.held, .int .i64 s.hops, .bool s.good, .slice A s.table.length cap, .int .i64 s.st, .int .i64 s.sn, .int .i64 s.life]
/-- The cells of a state in a block. -/
def staCells (s : Sta) (A : Option Addr) (cap : Nat) : Array Value := #[.int .i64 s.lo, .int .i64 s.hi, .int .i64 s.time, .bool s.set, .int .i64 s.held, .int .i64 s.hops, .bool s.good, .slice A s.table.length cap, .int .i64 s.st, .int .i64 s.sn, .int .i64 s.life]
/-- All of its numbers are numbers of 64 bits. -/
structure StaWf (s : Sta) : Prop where
  lo : (Lit.int .i64 s.lo).wf = true
  hi : (Lit.int .i64 s.hi).wf = true
  time : (Lit.int .i64 s.time).wf = true
  held : (Lit.int .i64 s.held).wf = true
  hops : (Lit.int .i64 s.hops).wf = true
  st : (Lit.int .i64 s.st).wf = true
  sn : (Lit.int .i64 s.sn).wf = true
  life : (Lit.int .i64 s.life).wf = true
  table : ∀ e ∈ s.table, (Lit.int .i64 e.1).wf = true ∧ (Lit.int .i64 e.2).wf = true
theorem trod_sta {H : Type} {enc : TypeId × Value → H} {w : World} {fuel : Nat} {l : List Value} {x : DataW H × List MemPlace} (hcl : l.length = 11) (hf : DataW.trod enc Tryz.prog w 0 (fun _ => true) true fuel 30 l = some x) :
    ∃ (s : Sta) (A : Option Addr) (cap : Nat), l = (staCells s A cap).toList ∧ PairsAt w A s.table ∧ s.table.length ≤ cap ∧ cap ≤ maxLen ∧ StaWf s := by
  obtain ⟨ys, n', hn', hy, hlen, hyl, hfl⟩ := DataW.trod_struct Tryz.underlying30 hf
  have hys : ys.length = 9 := hyl
  have cint : Tryz.prog.cellsOf 3 = 1 := by kernel_rfl
  have cbool : Tryz.prog.cellsOf 4 = 1 := by kernel_rfl
  have cSpan : Tryz.prog.cellsOf 25 = 2 := by kernel_rfl
  have cStamp : Tryz.prog.cellsOf 28 = 2 := by kernel_rfl
  have cLeap : Tryz.prog.cellsOf 26 = 1 := by kernel_rfl
  match l, hcl with
  | [c0, c1, c2, c3, c4, c5, c6, c7, c8, c9, c10], _ =>
    have get : ∀ i, i < 9 → ∃ y, ys[i]? = some y := fun i hi => ⟨ys[i]'(by omega), List.getElem?_eq_getElem _⟩
    have int1 : ∀ (i : Nat) (c : Value), DataW.trod enc Tryz.prog w 0 (fun _ => true) true n' 3 [c] = ys[i]? → i < 9 → ∃ z, c = .int .i64 z ∧ (Lit.int .i64 z).wf = true := by
      intro i c h hi
      obtain ⟨y, hy⟩ := get i hi
      rw [hy] at h
      obtain ⟨z, h1, _, h3⟩ := DataW.trod_int Tryz.underlying3 h
      exact ⟨z, by simpa using h1, h3⟩
    have bool1 : ∀ (i : Nat) (c : Value), DataW.trod enc Tryz.prog w 0 (fun _ => true) true n' 4 [c] = ys[i]? → i < 9 → ∃ z, c = .bool z := by
      intro i c h hi
      obtain ⟨y, hy⟩ := get i hi
      rw [hy] at h
      obtain ⟨z, h1, _⟩ := DataW.trod_bool Tryz.underlying4 h
      exact ⟨z, by simpa using h1⟩
    have pair1 : ∀ (i : Nat) (t : TypeId) (f0 f1 : Field) (c d : Value), Tryz.prog.underlying t = some (.struct #[f0, f1]) → f0.type = 3 → f1.type = 3 → f0.offset = 0 → f1.offset = 1 → DataW.trod enc Tryz.prog w 0 (fun _ => true) true n' t [c, d] = ys[i]? → i < 9 →
        ∃ x y, c = .int .i64 x ∧ d = .int .i64 y ∧ (Lit.int .i64 x).wf = true ∧ (Lit.int .i64 y).wf = true := by
      intro i t f0 f1 c d hu t0 t1 o0 o1 h hi
      obtain ⟨y, hy⟩ := get i hi
      rw [hy] at h
      obtain ⟨zs, n2, _, _, _, hzl, hz⟩ := DataW.trod_struct hu h
      have hzs : zs.length = 2 := hzl
      have a0 := hz 0 f0 rfl
      have a1 := hz 1 f1 rfl
      rw [t0, o0, cint, List.getElem?_eq_getElem (by omega)] at a0
      rw [t1, o1, cint, List.getElem?_eq_getElem (by omega)] at a1
      obtain ⟨x, e1, _, w1⟩ := DataW.trod_int Tryz.underlying3 a0
      obtain ⟨z, e2, _, w2⟩ := DataW.trod_int Tryz.underlying3 a1
      exact ⟨x, z, by simpa using e1, by simpa using e2, w1, w2⟩
    have g0 : DataW.trod enc Tryz.prog w 0 (fun _ => true) true n' 25 (([c0, c1, c2, c3, c4, c5, c6, c7, c8, c9, c10].drop 0).take (Tryz.prog.cellsOf 25)) = ys[0]? := hfl 0 _ rfl
    rw [cSpan] at g0
    have g1 : DataW.trod enc Tryz.prog w 0 (fun _ => true) true n' 3 (([c0, c1, c2, c3, c4, c5, c6, c7, c8, c9, c10].drop 2).take (Tryz.prog.cellsOf 3)) = ys[1]? := hfl 1 _ rfl
    rw [cint] at g1
    have g2 : DataW.trod enc Tryz.prog w 0 (fun _ => true) true n' 4 (([c0, c1, c2, c3, c4, c5, c6, c7, c8, c9, c10].drop 3).take (Tryz.prog.cellsOf 4)) = ys[2]? := hfl 2 _ rfl
    rw [cbool] at g2
    have g3 : DataW.trod enc Tryz.prog w 0 (fun _ => true) true n' 3 (([c0, c1, c2, c3, c4, c5, c6, c7, c8, c9, c10].drop 4).take (Tryz.prog.cellsOf 3)) = ys[3]? := hfl 3 _ rfl
    rw [cint] at g3
    have g4 : DataW.trod enc Tryz.prog w 0 (fun _ => true) true n' 3 (([c0, c1, c2, c3, c4, c5, c6, c7, c8, c9, c10].drop 5).take (Tryz.prog.cellsOf 3)) = ys[4]? := hfl 4 _ rfl
    rw [cint] at g4
    have g5 : DataW.trod enc Tryz.prog w 0 (fun _ => true) true n' 4 (([c0, c1, c2, c3, c4, c5, c6, c7, c8, c9, c10].drop 6).take (Tryz.prog.cellsOf 4)) = ys[5]? := hfl 5 _ rfl
    rw [cbool] at g5
    have g6 : DataW.trod enc Tryz.prog w 0 (fun _ => true) true n' 26 (([c0, c1, c2, c3, c4, c5, c6, c7, c8, c9, c10].drop 7).take (Tryz.prog.cellsOf 26)) = ys[6]? := hfl 6 _ rfl
    rw [cLeap] at g6
    have g7 : DataW.trod enc Tryz.prog w 0 (fun _ => true) true n' 28 (([c0, c1, c2, c3, c4, c5, c6, c7, c8, c9, c10].drop 8).take (Tryz.prog.cellsOf 28)) = ys[7]? := hfl 7 _ rfl
    rw [cStamp] at g7
    have g8 : DataW.trod enc Tryz.prog w 0 (fun _ => true) true n' 3 (([c0, c1, c2, c3, c4, c5, c6, c7, c8, c9, c10].drop 10).take (Tryz.prog.cellsOf 3)) = ys[8]? := hfl 8 _ rfl
    rw [cint] at g8
    obtain ⟨lo, hi, rfl, rfl, wlo, whi⟩ := pair1 0 _ _ _ _ _ Tryz.underlying25 rfl rfl rfl rfl g0 (by omega)
    obtain ⟨time, rfl, wtime⟩ := int1 1 _ g1 (by omega)
    obtain ⟨set, rfl⟩ := bool1 2 _ g2 (by omega)
    obtain ⟨held, rfl, wheld⟩ := int1 3 _ g3 (by omega)
    obtain ⟨hops, rfl, whops⟩ := int1 4 _ g4 (by omega)
    obtain ⟨good, rfl⟩ := bool1 5 _ g5 (by omega)
    obtain ⟨y, hy6⟩ := get 6 (by omega)
    rw [hy6] at g6
    obtain ⟨A, tb, cap, e, hA, hc1, hc2, hw, _⟩ := trod_pairs Tryz.underlying26 Tryz.underlying81 (by kernel_rfl) (by kernel_rfl) Tryz.underlying3 Tryz.underlying3 g6
    obtain rfl : c7 = .slice A tb.length cap := by simpa using e
    obtain ⟨st, sn, rfl, rfl, wst, wsn⟩ := pair1 7 _ _ _ _ _ Tryz.underlying28 rfl rfl rfl rfl g7 (by omega)
    obtain ⟨life, rfl, wlife⟩ := int1 8 _ g8 (by omega)
    exact ⟨⟨lo, hi, time, set, held, hops, good, tb, st, sn, life⟩, A, cap, rfl, hA, hc1, hc2, ⟨wlo, whi, wtime, wheld, whops, wst, wsn, wlife, hw⟩⟩
theorem open_sta {H : Type} {enc : TypeId × Value → H} {w : World} {b0 : Nat} {v : Value} {d : DataW H} {p : List MemPlace} (hv : Value.okWide Tryz.prog w .any b0 30 v) (h : DataW.Trod enc Tryz.prog w 0 (fun _ => true) true 30 v d p) :
    ∃ (s : Sta) (A : Option Addr) (cap : Nat), v = staV s A cap ∧ PairsAt w A s.table ∧ s.table.length ≤ cap ∧ cap ≤ maxLen ∧ StaWf s := by
  obtain ⟨cs, rfl, hsz⟩ := okWide_struct Tryz.underlying30 hv
  obtain ⟨fuel, hf⟩ := h
  rw [show Tryz.prog.cellsOf 30 = 11 by kernel_rfl] at hsz
  obtain ⟨s, A, cap, e, h1, h2, h3, h4⟩ := trod_sta (l := cs.toList) (by simpa using hsz) hf
  have hcs : cs = staCells s A cap := by
    rw [← Array.toArray_toList (xs := cs), e, Array.toArray_toList]
  exact ⟨s, A, cap, by rw [hcs]; rfl, h1, h2, h3, h4⟩
end Go.Proofs.YtmokofblmkeloaaGreatDoor

/- Contracts of layer 21: a state in a block; the document's Of, Far and Jumps. -/
namespace Go.Proofs.YtmokofblmkeloaaGreatDoor
open Go.RowKit
set_option linter.unusedVariables false
set_option maxRecDepth 100000
attribute [local go_sem ↓] Go.wp_at_zero Go.wp_at_succ
/-- The cells of a state in a block. -/
theorem Own.sta {W : World} {g : Nat} {s : Sta} {A : Option Addr} {cap : Nat} (h : Own W g (staCells s A cap)) :
    W.cell? ⟨g, 0, none⟩ = some (.int .i64 s.lo) ∧ W.cell? ⟨g, 1, none⟩ = some (.int .i64 s.hi) ∧ W.cell? ⟨g, 2, none⟩ = some (.int .i64 s.time) ∧ W.cell? ⟨g, 3, none⟩ = some (.bool s.set) ∧ W.cell? ⟨g, 4, none⟩ = some (.int .i64 s.held) ∧ W.cell? ⟨g, 5, none⟩ = some (.int .i64 s.hops) ∧ W.cell? ⟨g, 6, none⟩ = some (.bool s.good) ∧ W.cell? ⟨g, 7, none⟩ = some (.slice A s.table.length cap) ∧ W.cell? ⟨g, 8, none⟩ = some (.int .i64 s.st) ∧ W.cell? ⟨g, 9, none⟩ = some (.int .i64 s.sn) ∧ W.cell? ⟨g, 10, none⟩ = some (.int .i64 s.life) :=
  ⟨h.cell 0 rfl, h.cell 1 rfl, h.cell 2 rfl, h.cell 3 rfl, h.cell 4 rfl, h.cell 5 rfl, h.cell 6 rfl, h.cell 7 rfl, h.cell 8 rfl, h.cell 9 rfl, h.cell 10 rfl⟩
theorem Own.as {W : World} {g : Nat} {cs ds : Array Value} (h : Own W g cs) (e : cs = ds) : Own W g ds := e ▸ h
end Go.Proofs.YtmokofblmkeloaaGreatDoor

/- Words of my own: a region by facts (W11) whose last two operations are a store and an assignment, ahead of whose store one operation (f: the second extract of `x, ok := f(..)`) need not have come. -/
namespace Go.Proofs.YtmokofblmkeloaaGreatDoor
open Go
section
variable {P : Program} {md : Region.Mode} {ops : Array Oper} {Q : Exit → Act → World → Prop} {V : Nat → Value → World → Prop} {R : World → World → Prop} {a0 : Act} {w0 : World}
/-- **A region that draws its order, by facts; a store and an assignment last, one operation floating past the store.** -/
theorem wp_region_facts_float {id : Nat} {a : Act} {w : World} (hm : P.follows .mixedOrders = true) (n : Nat) (hn : a.tmps.size = n) (V : Nat → Value → World → Prop) (R : World → World → Prop) (m f : Nat) (hsz : ops.size = m + 2) (hfm : f < m) (om o1 : Oper) (hom : ops[m]? = some om) (ho1 : ops[m + 1]? = some o1)
    (hre : ((List.range m).all (fun j => j == f || om.after.any fun e => Region.binds .any e && e.on == j) && (List.range (m + 1)).all fun j => o1.after.any fun e => Region.binds .any e && e.on == j) = true) (hB : regionB .any ops n = true)
    (ini inf : Array Oper) (hini : ops.extract 0 m = ini) (hmi : ini.size = m) (hinf : ini.modify f (fun o => { o with dst := none }) = inf) (hBi : regionB .any ini n = true) (hBf : regionB .any inf n = true)
    (hV : ∀ i v w w', V i v w → R w w' → V i v w') (hT : ∀ a b c, R a b → R b c → R a c) (h0 : R w.drew w.drew) (ds dsf : List (Option Tmp)) (hds : dsts ini = ds) (hdsf : dsts inf = dsf)
    (steps : StepsFrom P ops Q V R a w.drew 0 ini.toList)
    (lastA : ∀ (vs : Nat → Value) (w' : World), (∀ i, i < m → V i (vs i) w') → R w.drew w' → wpOp P ops Q m (fun a' w' => wpOp P ops Q (m + 1) (fun a'' w'' => Q .normal a'' w'') a' w') (putFrom vs 0 ds a) w')
    (lastB : ∀ (vs : Nat → Value) (w' : World), (∀ i, i < m → i ≠ f → V i (vs i) w') → R w.drew w' → wpOp P ops Q m (fun a' w' => wpOp P ops Q f (fun a'' w'' => wpOp P ops Q (m + 1) (fun a3 w3 => Q .normal a3 w3) a'' w'') a' w') (putFrom vs 0 dsf a) w') : (Code.region id ops true).wp P Q a w := by
  subst hn hds hdsf
  refine wp_region_any hm ?_
  have hex : ∀ i o, i < m → ops[i]? = some o → ini[i]? = some o := fun i o hi ho => by
    rw [← hini, Array.getElem?_extract]
    simp only [Nat.zero_add]
    rw [if_pos (by omega)]
    exact ho
  have hex' : ∀ i o, ini[i]? = some o → ops[i]? = some o ∧ i < m := fun i o ho => by
    have hi : i < ini.size := (Array.getElem?_eq_some_iff.1 ho).1
    rw [hmi] at hi
    rw [← hini, Array.getElem?_extract] at ho
    simp only [Nat.zero_add] at ho
    rw [if_pos (by omega)] at ho
    exact ⟨ho, hi⟩
  have hr1 : ∀ j, j < m → j ≠ f → ∃ e ∈ om.after, Region.binds .any e = true ∧ e.on = j := fun j hj hjf => by
    have h1 := List.all_eq_true.1 (Bool.and_eq_true_iff.1 hre).1 j (List.mem_range.2 hj)
    simp only [Bool.or_eq_true, beq_iff_eq] at h1
    rcases h1 with h1 | h1
    · exact absurd h1 hjf
    · obtain ⟨e, he, hb⟩ := Array.any_eq_true'.1 h1
      simp only [Bool.and_eq_true, beq_iff_eq] at hb
      exact ⟨e, he, hb.1, hb.2⟩
  have hr2 : ∀ j, j < m + 1 → ∃ e ∈ o1.after, Region.binds .any e = true ∧ e.on = j := fun j hj => by
    have h1 := List.all_eq_true.1 (Bool.and_eq_true_iff.1 hre).2 j (List.mem_range.2 hj)
    obtain ⟨e, he, hb⟩ := Array.any_eq_true'.1 h1
    simp only [Bool.and_eq_true, beq_iff_eq] at hb
    exact ⟨e, he, hb.1, hb.2⟩
  refine wpAny_facts_float (a0 := a) (w0 := w.drew) (m := m) (f := f) hsz hfm hom ho1 hr1 hr2 hB hV hT (fun i o a' w' hi ho hF hR => ?_) (fun a' w' hF hO hR => ?_) (fun a' w' hF hO hR => ?_) _ _ _ _ (by simp) ?_ (fun j _ => ?_) ⟨fun j o hj _ => ?_, fun _ _ => rfl, rfl, rfl⟩ (fun _ _ => rfl) (fun _ _ _ => rfl) h0
  · have := StepsFrom.at_ ini.toList 0 i o steps (by rw [Array.getElem?_toList]; exact hex i o hi ho) a' w' hF hR
    rw [Nat.zero_add] at this
    exact this
  · have hF' : RF ini V a (fun j => j < ini.size) a' w' := by
      refine ⟨fun j o hj hoj => hF.at_ j o (by omega) (hex' j o hoj).1, fun k hk => hO k fun j o hj hoj => hk j o (hex j o hj hoj), hF.size, hF.defers⟩
    obtain ⟨vs, hvs, rfl⟩ := hF'.frame hBi
    exact lastA vs w' (fun i hi => hvs i (by omega)) hR
  · have hsf : inf.size = m := by rw [← hinf, Array.size_modify, hmi]
    have hF' : RF inf (fun i v w => i = f ∨ V i v w) a (fun j => j < inf.size) a' w' := by
      refine ⟨fun j o hj hoj => ?_, fun k hk => hO k fun j o hj hjf hoj => ?_, hF.size, hF.defers⟩
      · rw [← hinf, Array.getElem?_modify] at hoj
        by_cases e : f = j
        · rw [if_pos e] at hoj
          obtain ⟨o2, _, rfl⟩ := Option.map_eq_some_iff.1 hoj
          exact ⟨undef, .inl e.symm, fun d hd => by cases hd⟩
        · rw [if_neg e] at hoj
          obtain ⟨u, hu, hud⟩ := hF.at_ j o ⟨by omega, fun h => e h.symm⟩ (hex' j o hoj).1
          exact ⟨u, .inr hu, hud⟩
      · refine hk j o ?_
        rw [← hinf, Array.getElem?_modify, if_neg (fun h => hjf h.symm)]
        exact hex j o hj hoj
    obtain ⟨vs, hvs, rfl⟩ := hF'.frame hBf
    exact lastB vs w' (fun i hi hif => (hvs i (by omega)).resolve_left hif) hR
  · have := List.countP_le_length (p := fun j => !(Array.replicate ops.size false).getD j false) (l := List.range ops.size)
    simpa using this
  · rw [Array.getD_eq_getD_getElem?, Array.getElem?_replicate]
    split <;> rfl
  · rw [Array.getD_eq_getD_getElem?, Array.getElem?_replicate] at hj
    split at hj <;> cases hj
end
end Go.Proofs.YtmokofblmkeloaaGreatDoor

/- Words of my own: a region by facts (W11) whose last operation is a store, ahead of which one operation (f: the second extract of `x, _ = f(..)`) need not have come. -/
namespace Go.Proofs.YtmokofblmkeloaaGreatDoor
open Go
section
variable {P : Program} {md : Region.Mode} {ops : Array Oper} {Q : Exit → Act → World → Prop} {V : Nat → Value → World → Prop} {R : World → World → Prop} {a0 : Act} {w0 : World}
theorem wpAny_facts_loose {m f : Nat} (hsz : ops.size = m + 1) (hfm : f < m) {om : Oper} (hom : ops[m]? = some om)
    (hwm : ∀ j, j < m → j ≠ f → ∃ e ∈ om.after, Region.binds md e = true ∧ e.on = j)
    (hB : regionB md ops a0.tmps.size = true) (hV : ∀ i v w w', V i v w → R w w' → V i v w') (hT : ∀ a b c, R a b → R b c → R a c)
    (step : ∀ (i : Nat) (o : Oper) (a : Act) (w : World), i < m → ops[i]? = some o → RF ops V a0 (fun j => ∃ e ∈ o.after, Region.binds md e = true ∧ e.on = j) a w → R w0 w → wpOp P ops Q i (fun a' w' => ∃ v, a' = a.put o.dst v ∧ V i v w' ∧ R w w') a w)
    (tailA : ∀ a w, RF ops V a0 (fun j => j < m) a w → OldM ops m a0 a → R w0 w → wpOp P ops Q m (fun a' w' => Q .normal a' w') a w)
    (tailB : ∀ a w, RF ops V a0 (fun j => j < m ∧ j ≠ f) a w → OldF ops m f a0 a → R w0 w → wpOp P ops Q m (fun a' w' => wpOp P ops Q f (fun a'' w'' => Q .normal a'' w'') a' w') a w) :
    ∀ (fuel : Nat) (listed : Array Bool) (a : Act) (w : World), listed.size = ops.size → (List.range ops.size).countP (fun j => !listed.getD j false) ≤ fuel → (∀ j, m ≤ j → listed.getD j false = false) →
      RF ops V a0 (fun j => listed.getD j false = true) a w → OldM ops m a0 a → (listed.getD f false = false → OldF ops m f a0 a) → R w0 w → wpAny P md ops Q fuel listed a w := by
  have count1 : ∀ (listed : Array Bool), (∀ j, m ≤ j → listed.getD j false = false) → 1 ≤ (List.range ops.size).countP (fun j => !listed.getD j false) := by
    intro listed hun
    rw [hsz, List.range_succ, List.countP_append]
    have e1 : List.countP (fun j => !listed.getD j false) [m] = 1 := by rw [List.countP_singleton, hun m (Nat.le_refl _)]; rfl
    omega
  intro fuel
  have full : ∀ (fuel : Nat) (listed : Array Bool) (a : Act) (w : World), listed.size = ops.size → (List.range ops.size).countP (fun j => !listed.getD j false) ≤ fuel → (∀ j, m ≤ j → listed.getD j false = false) →
      RF ops V a0 (fun j => listed.getD j false = true) a w → OldM ops m a0 a → R w0 w → (∀ j, j < m → listed.getD j false = true) → wpAny P md ops Q fuel listed a w := by
    intro fuel listed a w hs hc hun hF hO hR hall
    have hd : ops.toList.drop m = [om] := by
      apply List.ext_getElem?
      intro j
      rw [List.getElem?_drop, Array.getElem?_toList]
      match j with
      | 0 => exact hom
      | j + 1 => rw [Array.getElem?_eq_none (by omega)]; rfl
    refine wpAny_tail hB [om] m hd (fun i hi o ho j hj hji => ?_) fuel listed a w hs (fun j hj _ => hall j hj) hun ?_ (tailA a w (hF.mono fun j hj => hall j hj) hO hR)
    · have hil : i < ops.size := (Array.getElem?_eq_some_iff.1 ho).1
      omega
    · have := count1 listed hun
      show 1 ≤ fuel
      omega
  induction fuel with
  | zero =>
    intro listed a w hs hc hun hF hO hO2 hR
    have := count1 listed hun
    omega
  | succ fuel ih =>
    intro listed a w hs hc hun hF hO hO2 hR
    by_cases hall : ∀ j, j < m → listed.getD j false = true
    · exact full (fuel + 1) listed a w hs hc hun hF hO hR hall
    refine ⟨fun hr => ?_, fun i hi => ?_⟩
    · exact absurd (fun j hj => ready_some hB hs hr j (by omega)) hall
    obtain ⟨huni, o, ho, hrd⟩ := (ready_iff hs).1 hi
    have hlt : i < ops.size := (Array.getElem?_eq_some_iff.1 ho).1
    have hls : i < listed.size := by omega
    have hcl := count_less (listed := listed) (i := i) (n := ops.size) hls huni hlt
    by_cases him : i < m
    · have hst := step i o a w him ho (hF.mono (by rintro j ⟨e, he, hb, rfl⟩; exact hrd e he hb)) hR
      refine wpOp_mono (fun a' w' h' => ?_) hst
      obtain ⟨v, rfl, hv, hR'⟩ := h'
      refine ih (listed.setIfInBounds i true) _ w' (by simpa using hs) (by omega) (fun j hj => ?_) ((hF.step hB hV ho hv hR').mono ?_) (fun k hk => by rw [put_other (hk i o him ho)]; exact hO k hk) (fun hnf k hk => ?_) (hT _ _ _ hR hR')
      · rw [getD_set hls, if_neg (by omega)]
        exact hun j hj
      · intro j hj
        rw [getD_set hls] at hj
        by_cases e : j = i
        · exact .inr e
        · left
          rwa [if_neg e] at hj
      · rw [getD_set hls] at hnf
        have e : f ≠ i := by rintro rfl; simp at hnf
        rw [if_neg e] at hnf
        rw [put_other (hk i o him (Ne.symm e) ho)]
        exact hO2 hnf k hk
    · have him1 : i = m := by omega
      subst him1
      rw [hom] at ho
      cases ho
      have hoth : ∀ j, j < i → j ≠ f → listed.getD j false = true := fun j hj hjf => by
        obtain ⟨e, he, hb, rfl⟩ := hwm j hj hjf
        exact hrd e he hb
      have hnf : listed.getD f false = false := by
        cases hfl : listed.getD f false with
        | false => rfl
        | true =>
          exfalso
          refine hall fun j hj => ?_
          by_cases e : j = f
          · subst e; exact hfl
          · exact hoth j hj e
      have hc2 : 1 ≤ fuel := by
        have := count1 (listed.setIfInBounds f true) (fun j hj => by rw [getD_set (by omega), if_neg (by omega)]; exact hun j hj)
        have h3 := count_less (listed := listed) (i := f) (n := ops.size) (by omega) hnf (by omega)
        omega
      obtain ⟨fu, rfl⟩ : ∃ fu, fuel = fu + 1 := ⟨fuel - 1, by omega⟩
      refine wpOp_mono (fun a' w' h' => ?_) (tailB a w (hF.mono fun j hj => hoth j hj.1 hj.2) (hO2 hnf) hR)
      have hs1 : (listed.setIfInBounds i true).size = ops.size := by simpa using hs
      have hff : ops[f]? = some ops[f] := Array.getElem?_eq_getElem (by omega)
      have r1 : f ∈ Region.ready md ops (listed.setIfInBounds i true) := by
        refine (ready_iff hs1).2 ⟨?_, ops[f], hff, fun e he hb => ?_⟩
        · rw [getD_set hls, if_neg (by omega)]
          exact hnf
        · have hlf := regionB_after hB hff e he hb
          rw [getD_set hls, if_neg (by omega)]
          exact hoth _ (by omega) (by omega)
      refine wpAny_only r1 (fun j hj => ?_) (wpOp_mono (fun a2 w2 h2 => ?_) h')
      · obtain ⟨g0, oj, hoj, _⟩ := (ready_iff hs1).1 hj
        have hjl : j < ops.size := (Array.getElem?_eq_some_iff.1 hoj).1
        rw [getD_set hls] at g0
        by_cases e : j = i
        · rw [if_pos e] at g0; cases g0
        · rw [if_neg e] at g0
          rcases Nat.decEq j f with h | h
          · have := hoth j (by omega) h
            rw [this] at g0; cases g0
          · exact h
      · have hlf : f < (listed.setIfInBounds i true).size := by omega
        have st : ∀ j, j < i + 1 → ((listed.setIfInBounds i true).setIfInBounds f true).getD j false = true := fun j hj => by
          rw [getD_set hlf]
          by_cases e : j = f
          · rw [if_pos e]
          · rw [if_neg e, getD_set hls]
            by_cases e2 : j = i
            · rw [if_pos e2]
            · rw [if_neg e2]
              exact hoth j (by omega) e
        have hr : Region.ready md ops ((listed.setIfInBounds i true).setIfInBounds f true) = [] := by
          apply List.eq_nil_iff_forall_not_mem.2
          intro j hj
          obtain ⟨g0, oj, hoj, _⟩ := (ready_iff (by simpa using hs)).1 hj
          have hjl : j < ops.size := (Array.getElem?_eq_some_iff.1 hoj).1
          rw [st j (by omega)] at g0; cases g0
        cases fu with
        | zero => exact ⟨hr, h2⟩
        | succ f3 => exact ⟨fun _ => h2, fun j hj => by (rw [hr] at hj; cases hj)⟩
/-- **A region that draws its order, by facts; a store last, one operation floating past it.** -/
theorem wp_region_facts_loose {id : Nat} {a : Act} {w : World} (hm : P.follows .mixedOrders = true) (n : Nat) (hn : a.tmps.size = n) (V : Nat → Value → World → Prop) (R : World → World → Prop) (m f : Nat) (hsz : ops.size = m + 1) (hfm : f < m) (om : Oper) (hom : ops[m]? = some om)
    (hre : ((List.range m).all fun j => j == f || om.after.any fun e => Region.binds .any e && e.on == j) = true) (hB : regionB .any ops n = true)
    (ini inf : Array Oper) (hini : ops.extract 0 m = ini) (hmi : ini.size = m) (hinf : ini.modify f (fun o => { o with dst := none }) = inf) (hBi : regionB .any ini n = true) (hBf : regionB .any inf n = true)
    (hV : ∀ i v w w', V i v w → R w w' → V i v w') (hT : ∀ a b c, R a b → R b c → R a c) (h0 : R w.drew w.drew) (ds dsf : List (Option Tmp)) (hds : dsts ini = ds) (hdsf : dsts inf = dsf)
    (steps : StepsFrom P ops Q V R a w.drew 0 ini.toList)
    (lastA : ∀ (vs : Nat → Value) (w' : World), (∀ i, i < m → V i (vs i) w') → R w.drew w' → wpOp P ops Q m (fun a' w' => Q .normal a' w') (putFrom vs 0 ds a) w')
    (lastB : ∀ (vs : Nat → Value) (w' : World), (∀ i, i < m → i ≠ f → V i (vs i) w') → R w.drew w' → wpOp P ops Q m (fun a' w' => wpOp P ops Q f (fun a'' w'' => Q .normal a'' w'') a' w') (putFrom vs 0 dsf a) w') : (Code.region id ops true).wp P Q a w := by
  subst hn hds hdsf
  refine wp_region_any hm ?_
  have hex : ∀ i o, i < m → ops[i]? = some o → ini[i]? = some o := fun i o hi ho => by
    rw [← hini, Array.getElem?_extract]
    simp only [Nat.zero_add]
    rw [if_pos (by omega)]
    exact ho
  have hex' : ∀ i o, ini[i]? = some o → ops[i]? = some o ∧ i < m := fun i o ho => by
    have hi : i < ini.size := (Array.getElem?_eq_some_iff.1 ho).1
    rw [hmi] at hi
    rw [← hini, Array.getElem?_extract] at ho
    simp only [Nat.zero_add] at ho
    rw [if_pos (by omega)] at ho
    exact ⟨ho, hi⟩
  have hr1 : ∀ j, j < m → j ≠ f → ∃ e ∈ om.after, Region.binds .any e = true ∧ e.on = j := fun j hj hjf => by
    have h1 := List.all_eq_true.1 hre j (List.mem_range.2 hj)
    simp only [Bool.or_eq_true, beq_iff_eq] at h1
    rcases h1 with h1 | h1
    · exact absurd h1 hjf
    · obtain ⟨e, he, hb⟩ := Array.any_eq_true'.1 h1
      simp only [Bool.and_eq_true, beq_iff_eq] at hb
      exact ⟨e, he, hb.1, hb.2⟩
  refine wpAny_facts_loose (a0 := a) (w0 := w.drew) (m := m) (f := f) hsz hfm hom hr1 hB hV hT (fun i o a' w' hi ho hF hR => ?_) (fun a' w' hF hO hR => ?_) (fun a' w' hF hO hR => ?_) _ _ _ _ (by simp) ?_ (fun j _ => ?_) ⟨fun j o hj _ => ?_, fun _ _ => rfl, rfl, rfl⟩ (fun _ _ => rfl) (fun _ _ _ => rfl) h0
  · have := StepsFrom.at_ ini.toList 0 i o steps (by rw [Array.getElem?_toList]; exact hex i o hi ho) a' w' hF hR
    rw [Nat.zero_add] at this
    exact this
  · have hF' : RF ini V a (fun j => j < ini.size) a' w' := by
      refine ⟨fun j o hj hoj => hF.at_ j o (by omega) (hex' j o hoj).1, fun k hk => hO k fun j o hj hoj => hk j o (hex j o hj hoj), hF.size, hF.defers⟩
    obtain ⟨vs, hvs, rfl⟩ := hF'.frame hBi
    exact lastA vs w' (fun i hi => hvs i (by omega)) hR
  · have hsf : inf.size = m := by rw [← hinf, Array.size_modify, hmi]
    have hF' : RF inf (fun i v w => i = f ∨ V i v w) a (fun j => j < inf.size) a' w' := by
      refine ⟨fun j o hj hoj => ?_, fun k hk => hO k fun j o hj hjf hoj => ?_, hF.size, hF.defers⟩
      · rw [← hinf, Array.getElem?_modify] at hoj
        by_cases e : f = j
        · rw [if_pos e] at hoj
          obtain ⟨o2, _, rfl⟩ := Option.map_eq_some_iff.1 hoj
          exact ⟨undef, .inl e.symm, fun d hd => by cases hd⟩
        · rw [if_neg e] at hoj
          obtain ⟨u, hu, hud⟩ := hF.at_ j o ⟨by omega, fun h => e h.symm⟩ (hex' j o hoj).1
          exact ⟨u, .inr hu, hud⟩
      · refine hk j o ?_
        rw [← hinf, Array.getElem?_modify, if_neg (fun h => hjf h.symm)]
        exact hex j o hj hoj
    obtain ⟨vs, hvs, rfl⟩ := hF'.frame hBf
    exact lastB vs w' (fun i hi hif => (hvs i (by omega)).resolve_left hif) hR
  · have := List.countP_le_length (p := fun j => !(Array.replicate ops.size false).getD j false) (l := List.range ops.size)
    simpa using this
  · rw [Array.getD_eq_getD_getElem?, Array.getElem?_replicate]
    split <;> rfl
  · rw [Array.getD_eq_getD_getElem?, Array.getElem?_replicate] at hj
    split at hj <;> cases hj
end
end Go.Proofs.YtmokofblmkeloaaGreatDoor
