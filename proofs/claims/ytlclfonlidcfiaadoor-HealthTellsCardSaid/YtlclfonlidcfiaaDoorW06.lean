/- Words of my own: a fabric's numbers that came in by value. -/
import Derived.Test.YtlclfonlidcfiaaDoorC04a
namespace Go.Proofs.YtlclfonlidcfiaaDoor
open Go.RowKit Go.WideShapes Go.ChangeShapes Go.Joins Go.Deep
/-- All of a fabric's numbers are numbers of 64 bits. -/
def ParWf (p : Par) : Prop := (Lit.int .i64 p.n).wf = true ∧ (Lit.int .i64 p.f).wf = true ∧ (Lit.int .i64 p.d).wf = true ∧ (Lit.int .i64 p.beat).wf = true ∧ (Lit.int .i64 p.rho).wf = true ∧ (Lit.int .i64 p.delay).wf = true ∧
  (Lit.int .i64 p.jit).wf = true ∧ (Lit.int .i64 p.eps).wf = true ∧ (Lit.int .i64 p.mu).wf = true ∧ (Lit.int .i64 p.hold).wf = true ∧ (Lit.int .i64 p.pulse).wf = true ∧ (Lit.int .i64 p.sec).wf = true
section
variable {H : Type} {enc : TypeId × Value → H} {P : Program} {w : World} {base : Nat} {spare : Nat → Bool} {held : Bool}
theorem open_par {r : Reach} {b0 : Nat} {t : TypeId} {fs : Array Field} {v : Value} {d : DataW H} {p : List MemPlace} (hs : P.underlying t = some (.struct fs)) (hn : fs.size = 12) (hone : oneCellFields P fs = true) (hC : P.cellsOf t = fs.size)
    (hall : (fs.all fun f => match P.underlying f.type with | some (.int .i64) => true | _ => false) = true) (hv : Value.okWide P w r b0 t v) (h : DataW.Trod enc P w base spare held t v d p) :
    ∃ q : Par, v = parV q ∧ ParWf q := by
  obtain ⟨zs, hl, rfl, hw⟩ := open_agg_ints hs hone hC (fun j f hj => by
    have := Array.all_eq_true.1 hall j (Array.getElem?_eq_some_iff.1 hj).1
    rw [(Array.getElem?_eq_some_iff.1 hj).2] at this
    split at this
    · assumption
    · exact absurd this (by simp)) hv h
  rw [hn] at hl
  match zs, hl with
  | [a, b, c, d, e, f, g, h, i, j, k, l], _ => exact ⟨⟨a, b, c, d, e, f, g, h, i, j, k, l⟩, rfl, hw a (by simp), hw b (by simp), hw c (by simp), hw d (by simp), hw e (by simp), hw f (by simp), hw g (by simp), hw h (by simp), hw i (by simp), hw j (by simp), hw k (by simp), hw l (by simp)⟩
end
end Go.Proofs.YtlclfonlidcfiaaDoor
