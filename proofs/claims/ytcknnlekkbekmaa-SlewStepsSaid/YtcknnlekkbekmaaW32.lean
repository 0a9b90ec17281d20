/- Words of my own: a struct of an integer and a bool that came in by value. -/
import Derived.Test.YtcknnlekkbekmaaW03
namespace Go.Proofs.Ytcknnlekkbekmaa
open Go.WideShapes Go.ChangeShapes Go.Joins Go.Deep
section
variable {H : Type} {enc : TypeId × Value → H} {P : Program} {w : World} {base : Nat} {spare : Nat → Bool} {held : Bool}
theorem open_intbool {r : Reach} {b0 : Nat} {t : TypeId} {f0 f1 : Field} {v : Value} {d : DataW H} {p : List MemPlace} (hs : P.underlying t = some (.struct #[f0, f1])) (hone : oneCellFields P #[f0, f1] = true) (hC : P.cellsOf t = 2)
    (h0 : P.underlying f0.type = some (.int .i64)) (h1 : P.underlying f1.type = some .bool) (hv : Value.okWide P w r b0 t v) (h : DataW.Trod enc P w base spare held t v d p) :
    ∃ (a : Int) (b : Bool), v = .agg #[.int .i64 a, .bool b] ∧ (Lit.int .i64 a).wf = true := by
  obtain ⟨cs, rfl, hsz⟩ := okWide_struct hs hv
  obtain ⟨fuel, hf⟩ := h
  rw [hC] at hsz
  obtain ⟨ys, n', hn', hy, hlen, hyl, hfl⟩ := DataW.trod_struct hs hf
  have hyl' : ys.length = 2 := hyl
  have cell : ∀ j (hj : j < cs.size), ((Value.agg cs).cells.toList.drop j).take 1 = [cs[j]] := by
    intro j hj
    have hl : j < (Value.agg cs).cells.toList.length := by simpa [Value.cells] using hj
    rw [List.drop_eq_getElem_cons hl]
    simp [Value.cells]
  obtain ⟨o0, k0⟩ := hone_of hone 0 f0 rfl
  obtain ⟨o1, k1⟩ := hone_of hone 1 f1 rfl
  have e0 := hfl 0 f0 rfl
  have e1 := hfl 1 f1 rfl
  rw [o0, k0, cell 0 (by omega), List.getElem?_eq_getElem (show 0 < ys.length by omega)] at e0
  rw [o1, k1, cell 1 (by omega), List.getElem?_eq_getElem (show 1 < ys.length by omega)] at e1
  obtain ⟨a, ha, _, hw⟩ := DataW.trod_int h0 e0
  obtain ⟨b, hb, _⟩ := DataW.trod_bool h1 e1
  refine ⟨a, b, ?_, hw⟩
  congr 1
  apply Array.ext
  · simpa using hsz
  · intro i g1 g2
    match i, g1, g2 with
    | 0, _, _ => simpa using ha
    | 1, _, _ => simpa using hb
    | n + 2, g1, _ => omega
end
end Go.Proofs.Ytcknnlekkbekmaa
