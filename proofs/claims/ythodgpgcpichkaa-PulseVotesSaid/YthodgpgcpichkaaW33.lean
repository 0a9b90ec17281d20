/- Words of my own: a slice of integers that came in, within the form's own reach (its bytes are at most 2^47 - 4096). -/
import Derived.Test.YthodgpgcpichkaaW01
import Derived.SizedLaws
namespace Go.Proofs.Ythodgpgcpichkaa
open Go.RowKit Go.ChangeShapes
theorem open_sliceR {H : Type} {enc : TypeId × Value → H} {P : Program} {w : World} {base : Nat} {t e : TypeId} {v : Value} {d : DataW H} {ps : List MemPlace}
    (ht : P.underlying t = some (.slice e)) (he : P.underlying e = some (.int .i64)) (hc : P.cellsOf e = 1) (h8 : P.bytesOf e = 8) (hw : ∀ elems spare, d = .slice elems spare → (elems.length + spare.length) * P.bytesOf e ≤ reachBytes)
    (hv : Value.okWide P w .any base t v) (h : DataW.Trod enc P w 0 (fun _ => true) true t v d ps) :
    ∃ (A : Option Addr) (l : List Int) (cap : Nat), v = .slice A l.length cap ∧ IntsAt w A l ∧ l.length ≤ 17592186044416 ∧ ∀ x ∈ l, (Lit.int .i64 x).wf = true := by
  obtain ⟨A, l, cap, e1, hI, _, hx⟩ := open_sliceK ht he hc hv h
  refine ⟨A, l, cap, e1, hI, ?_, hx⟩
  obtain ⟨fuel, hf⟩ := h
  rcases open_ints ht he hc hf with ⟨hcs, _⟩ | ⟨a, len', cap', zs, hcs, _, hl, hm, hz, hd, _, _⟩
  · rw [e1] at hcs
    simp [Value.cells] at hcs
    simp [hcs]
  · rw [e1] at hcs
    simp [Value.cells] at hcs
    obtain ⟨rfl, rfl, rfl⟩ := hcs
    have hd1 := hw _ _ (congrArg Prod.fst hd)
    rw [h8] at hd1
    simp only [if_true] at hz
    simp only [lits, List.length_map, List.length_take, List.length_drop, reachBytes] at hd1
    omega
end Go.Proofs.Ythodgpgcpichkaa
