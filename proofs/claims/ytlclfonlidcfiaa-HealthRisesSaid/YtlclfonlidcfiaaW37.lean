/- Words of my own: slices of slices of structs of two integers that came in. -/
import Derived.Test.YtlclfonlidcfiaaWA
import Derived.SizedLaws
namespace Go.Proofs.Ytlclfonlidcfiaa
open Go.RowKit Go.WideShapes Go.ChangeShapes Go.Joins Go.Deep
set_option maxRecDepth 100000
section
variable {H : Type} {enc : TypeId × Value → H} {P : Program} {w : World}
/-- A slice of structs of two integers, as cells that came in. -/
theorem trod_pairs {t e : TypeId} {f0 f1 : Field} {fuel : Nat} {cs : List Value} {x : DataW H × List MemPlace} (ht : P.underlying t = some (.slice e)) (he : P.underlying e = some (.struct #[f0, f1])) (hone : oneCellFields P #[f0, f1] = true) (hC : P.cellsOf e = 2)
    (h0 : P.underlying f0.type = some (.int .i64)) (h1 : P.underlying f1.type = some (.int .i64)) (hf : DataW.trod enc P w 0 (fun _ => true) true fuel t cs = some x) :
    ∃ (A : Option Addr) (l : List (Int × Int)) (cap : Nat), cs = [.slice A l.length cap] ∧ PairsAt w A l ∧ l.length ≤ cap ∧ cap ≤ maxLen ∧ (∀ s ∈ l, (Lit.int .i64 s.1).wf = true ∧ (Lit.int .i64 s.2).wf = true) ∧ ((∀ n ∈ x.1.weights P t, n ≤ reachBytes) → l.length * P.bytesOf e ≤ reachBytes) := by
  rcases open_slice ht hf with h2 | ⟨a, len', cap', m, n, D, Pl, hcs, hb, hl, hm, hmm, hx, hi⟩
  · exact ⟨none, [], 0, h2.1, PairsAt.empty _ _, by simp, by unfold maxLen; simp, by simp, fun _ => by simp⟩
  · subst hcs
    simp only [if_true] at hmm
    subst hmm
    have key : ∀ i, i < len' → ∃ x y : Int, w.cell? (a.add (i * 2)) = some (.int .i64 x) ∧ w.cell? (a.add (i * 2 + 1)) = some (.int .i64 y) ∧ (Lit.int .i64 x).wf = true ∧ (Lit.int .i64 y).wf = true := by
      intro i hlt
      obtain ⟨cs', hc, ht'⟩ := hi i (by omega)
      rw [hC] at hc
      obtain ⟨ys, n', hn', hy, hlen, hyl, hfl⟩ := DataW.trod_struct he ht'
      obtain ⟨_, hcl, hat⟩ := World.cells?_some hc
      have one : ∀ (j : Nat) (f : Field), #[f0, f1][j]? = some f → P.underlying f.type = some (.int .i64) → ∃ z : Int, w.cell? (a.add (i * 2 + j)) = some (.int .i64 z) ∧ (Lit.int .i64 z).wf = true := by
        intro j f hj hu
        obtain ⟨ho, hk⟩ := hone_of hone j f hj
        have hjl : j < 2 := (Array.getElem?_eq_some_iff.1 hj).1
        have hcell := hat j hjl
        have h1 := hfl j f hj
        rw [ho, hk] at h1
        have e1 : (cs'.drop j).take 1 = [cs'[j]'(by omega)] := by
          rw [List.drop_eq_getElem_cons (by omega)]
          rfl
        have hjs : j < ys.length := by rw [hyl]; exact hjl
        rw [e1, List.getElem?_eq_getElem hjs] at h1
        obtain ⟨z, h2, _, h3⟩ := DataW.trod_int hu h1
        refine ⟨z, ?_, h3⟩
        rw [← Go.Deep.add_add, hcell, List.getElem?_eq_getElem (show j < cs'.length by omega)]
        simpa using h2
      obtain ⟨x, hx, wx⟩ := one 0 f0 rfl h0
      obtain ⟨y, hy, wy⟩ := one 1 f1 rfl h1
      exact ⟨x, y, hx, hy, wx, wy⟩
    have key' : ∀ i : Fin len', ∃ s : Int × Int, w.cell? (a.add (i * 2)) = some (.int .i64 s.1) ∧ w.cell? (a.add (i * 2 + 1)) = some (.int .i64 s.2) ∧ (Lit.int .i64 s.1).wf = true ∧ (Lit.int .i64 s.2).wf = true := fun i => by
      obtain ⟨x, y, h⟩ := key i i.2
      exact ⟨(x, y), h⟩
    obtain ⟨F, hF⟩ := Classical.axiomOfChoice key'
    have hlen : (List.ofFn F).length = len' := by simp
    refine ⟨some a, List.ofFn F, _, by rw [hlen], fun k hk => ?_, by omega, hm, fun s hs => ?_, fun hn => ?_⟩
    · have hk' : k < len' := by omega
      have h := hF ⟨k, hk'⟩
      obtain ⟨b, off, spot⟩ := a
      have hspot : spot = none := by
        have h0 := hF ⟨0, by omega⟩
        simpa [Addr.add] using World.cell?_spot h0.1
      subst hspot
      simp only [Go.WideShapes.add_plain, ← Nat.add_assoc] at h
      have e : (List.ofFn F)[k] = F ⟨k, hk'⟩ := by simp
      rw [e]
      exact ⟨b, off, rfl, cell_lt h.1, h.1, h.2.1⟩
    · obtain ⟨i, rfl⟩ := List.mem_ofFn.1 hs
      exact (hF i).2.2
    · have h1 := hn ((len' + (m - len')) * P.bytesOf e) (by rw [hx]; simp [DataW.weights, ht])
      refine Nat.le_trans (Nat.mul_le_mul_right _ ?_) h1
      rw [hlen]
      omega
end
/-- A table, and where it lies. -/
structure TA where
  l : List (Int × Int)
  A : Option Addr
  cap : Nat
abbrev taV (x : TA) : Value := .slice x.A x.l.length x.cap
/-- The slice at B reads as these tables. -/
structure TabsAt (w : World) (B : Option Addr) (ts : List TA) : Prop where
  cells : ∀ k (h : k < ts.length), ∃ b off, B = some ⟨b, off, none⟩ ∧ b < w.heap.size ∧ w.cell? ⟨b, off + k, none⟩ = some (taV ts[k])
  tabs : ∀ x ∈ ts, PairsAt w x.A x.l
namespace TabsAt
variable {w w' : World} {B : Option Addr} {ts : List TA}
theorem below (h : TabsAt w B ts) (k : Ok w w') : TabsAt w' B ts := ⟨fun j hj => by
  obtain ⟨b, off, hA, hlt, hc⟩ := h.cells j hj
  exact ⟨b, off, hA, Nat.lt_of_lt_of_le hlt k.size, (k.cell (p := ⟨b, off + j, none⟩) hlt).trans hc⟩, fun x hx => (h.tabs x hx).below k⟩
theorem empty (w : World) (B : Option Addr) : TabsAt w B [] := ⟨fun k h => absurd h (Nat.not_lt_zero k), by simp⟩
end TabsAt
/-- What is so of each table that came in. -/
def TFit (x : TA) : Prop := x.l.length ≤ 9223372036854775807 ∧ ∀ e ∈ x.l, (-9223372036854775808 ≤ e.1 ∧ e.1 ≤ 9223372036854775807) ∧ -9223372036854775808 ≤ e.2 ∧ e.2 ≤ 9223372036854775807
section
variable {H : Type} {enc : TypeId × Value → H} {P : Program} {w : World} {base : Nat}
theorem wf_two {k : Int} (h : (Lit.int .i64 k).wf = true) : -9223372036854775808 ≤ k ∧ k ≤ 9223372036854775807 := by
  have e : IntKind.i64.min = -9223372036854775808 := rfl
  simp [Lit.wf] at h
  omega
/-- A slice of tables that came in. -/
theorem open_tabsC {tt t e : TypeId} {f0 f1 : Field} {v : Value} {d : DataW H} {ps : List MemPlace} (htt : P.underlying tt = some (.slice t)) (hCt : P.cellsOf t = 1) (ht : P.underlying t = some (.slice e)) (he : P.underlying e = some (.struct #[f0, f1])) (hone : oneCellFields P #[f0, f1] = true) (hC : P.cellsOf e = 2)
    (h0 : P.underlying f0.type = some (.int .i64)) (h1 : P.underlying f1.type = some (.int .i64)) (hv : Value.okWide P w .any base tt v) (h : DataW.Trod enc P w 0 (fun _ => true) true tt v d ps) :
    ∃ (B : Option Addr) (ts : List TA) (cap : Nat), v = .slice B ts.length cap ∧ TabsAt w B ts ∧ ts.length ≤ 9223372036854775807 ∧ (∀ x ∈ ts, TFit x) ∧ ts.length ≤ cap := by
  obtain ⟨a0, len, cap, rfl⟩ := okWide_slice htt hv
  obtain ⟨fuel, hf⟩ := h
  rcases open_slice htt hf with h2 | ⟨a, len', cap', m, n, D, Pl, hcs, hb, hl, hm, hmm, hx, hi⟩
  · simp [Value.cells] at h2
    obtain ⟨⟨rfl, rfl, rfl⟩, -⟩ := h2
    exact ⟨none, [], 0, rfl, TabsAt.empty _ _, by simp, by simp, by simp⟩
  · simp [Value.cells] at hcs
    obtain ⟨rfl, rfl, rfl⟩ := hcs
    simp only [if_true] at hmm
    subst hmm
    have key : ∀ i : Fin len, ∃ x : TA, w.cell? (a.add i) = some (taV x) ∧ PairsAt w x.A x.l ∧ TFit x := by
      intro i
      obtain ⟨cs', hc, ht'⟩ := hi i (by omega)
      rw [hCt, Nat.mul_one] at hc
      obtain ⟨hlen, hcl, hat⟩ := World.cells?_some hc
      obtain ⟨A, l, c, e2, hA, hc1, hc2, hw, _⟩ := trod_pairs ht he hone hC h0 h1 ht'
      have hz := hat 0 (by omega)
      rw [e2] at hz
      refine ⟨⟨l, A, c⟩, ?_, hA, ?_, fun s hs => ⟨wf_two (hw s hs).1, wf_two (hw s hs).2⟩⟩
      · rw [Go.Deep.add_add] at hz
        simpa using hz
      · show l.length ≤ 9223372036854775807
        unfold maxLen at hc2
        omega
    obtain ⟨F, hF⟩ := Classical.axiomOfChoice key
    have hlen : (List.ofFn F).length = len := by simp
    refine ⟨some a, List.ofFn F, _, by rw [hlen], ⟨fun k hk => ?_, fun x hx => ?_⟩, by unfold maxLen at hm; omega, fun x hx => ?_, by omega⟩
    · have hk' : k < len := by simpa using hk
      have h := (hF ⟨k, hk'⟩).1
      obtain ⟨b, off, spot⟩ := a
      have hspot : spot = none := by
        have h0 := (hF ⟨0, by omega⟩).1
        simpa [Addr.add] using World.cell?_spot h0
      subst hspot
      rw [Go.WideShapes.add_plain] at h
      exact ⟨b, off, rfl, cell_lt h, by simpa using h⟩
    · obtain ⟨i, rfl⟩ := List.mem_ofFn.1 hx
      exact (hF i).2.1
    · obtain ⟨i, rfl⟩ := List.mem_ofFn.1 hx
      exact (hF i).2.2
/-- A slice of tables that came in. -/
theorem open_tabs {tt t e : TypeId} {f0 f1 : Field} {v : Value} {d : DataW H} {ps : List MemPlace} (htt : P.underlying tt = some (.slice t)) (hCt : P.cellsOf t = 1) (ht : P.underlying t = some (.slice e)) (he : P.underlying e = some (.struct #[f0, f1])) (hone : oneCellFields P #[f0, f1] = true) (hC : P.cellsOf e = 2)
    (h0 : P.underlying f0.type = some (.int .i64)) (h1 : P.underlying f1.type = some (.int .i64)) (hv : Value.okWide P w .any base tt v) (h : DataW.Trod enc P w 0 (fun _ => true) true tt v d ps) :
    ∃ (B : Option Addr) (ts : List TA) (cap : Nat), v = .slice B ts.length cap ∧ TabsAt w B ts ∧ ts.length ≤ 9223372036854775807 ∧ ∀ x ∈ ts, TFit x := by
  obtain ⟨B, ts, cap, e1, h2, h3, h4, _⟩ := open_tabsC htt hCt ht he hone hC h0 h1 hv h
  exact ⟨B, ts, cap, e1, h2, h3, h4⟩
end
end Go.Proofs.Ytlclfonlidcfiaa
