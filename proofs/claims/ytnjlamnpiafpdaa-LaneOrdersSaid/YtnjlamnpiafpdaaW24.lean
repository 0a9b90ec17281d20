/- Words of my own: a slice of strings that came in. -/
import Derived.Test.YtnjlamnpiafpdaaW04
import Derived.Test.YtnjlamnpiafpdaaW02
namespace Go.Proofs.Ytnjlamnpiafpdaa
open Go.RowKit Go.WideShapes Go.ChangeShapes Go.Joins Go.Deep
/-- The slice with address A reads, in world w, as the strings l. -/
def StrsAt (w : World) (A : Option Addr) (l : List ByteArray) : Prop :=
  ∀ k (h : k < l.length), ∃ b off, A = some ⟨b, off, none⟩ ∧ b < w.heap.size ∧ w.cell? ⟨b, off + k, none⟩ = some (.string l[k])
theorem StrsAt.below {w w' : World} {A : Option Addr} {l : List ByteArray} (h : StrsAt w A l) (hb : Ok w w') : StrsAt w' A l := fun k hk => by
  obtain ⟨b, off, hA, hlt, hc⟩ := h k hk
  exact ⟨b, off, hA, Nat.lt_of_lt_of_le hlt hb.size, (hb.cell (p := ⟨b, off + k, none⟩) hlt).trans hc⟩
section
variable {H : Type} {enc : TypeId × Value → H} {P : Program} {w : World} {base : Nat}
/-- A slice of strings that came in. -/
theorem open_strs {t e : TypeId} {v : Value} {d : DataW H} {ps : List MemPlace} (ht : P.underlying t = some (.slice e)) (he : P.underlying e = some .string) (hC : P.cellsOf e = 1)
    (hv : Value.okWide P w .any base t v) (h : DataW.Trod enc P w 0 (fun _ => true) true t v d ps) :
    ∃ (A : Option Addr) (l : List ByteArray) (cap : Nat), v = .slice A l.length cap ∧ StrsAt w A l ∧ l.length ≤ 9223372036854775807 ∧ ∀ s ∈ l, s.size ≤ 9223372036854775807 := by
  obtain ⟨a0, len, cap, rfl⟩ := okWide_slice ht hv
  obtain ⟨fuel, hf⟩ := h
  rcases open_slice ht hf with h2 | ⟨a, len', cap', m, n, D, Pl, hcs, hb, hl, hm, hmm, hx, hi⟩
  · simp [Value.cells] at h2
    obtain ⟨⟨rfl, rfl, rfl⟩, -⟩ := h2
    exact ⟨none, [], 0, rfl, fun k h => absurd h (Nat.not_lt_zero k), by simp, by simp⟩
  · simp [Value.cells] at hcs
    obtain ⟨rfl, rfl, rfl⟩ := hcs
    simp only [if_true] at hmm
    subst hmm
    have key : ∀ i : Fin len, ∃ x : ByteArray, w.cell? (a.add i) = some (.string x) ∧ x.size ≤ maxLen := by
      intro i
      obtain ⟨cs', hc, ht'⟩ := hi i (by omega)
      rw [hC, Nat.mul_one] at hc
      obtain ⟨hlen, hcl, hat⟩ := World.cells?_some hc
      obtain ⟨x, h2, _, h3⟩ := DataW.trod_string he ht'
      have h0 := hat 0 (by omega)
      rw [h2] at h0
      refine ⟨x, ?_, h3⟩
      rw [Go.Deep.add_add] at h0
      simpa using h0
    obtain ⟨F, hF⟩ := Classical.axiomOfChoice key
    have hlen : (List.ofFn F).length = len := by simp
    refine ⟨some a, List.ofFn F, _, by rw [hlen], fun k hk => ?_, by unfold maxLen at hm; omega, fun s hs => ?_⟩
    · have hk' : k < len := by simpa using hk
      have h := (hF ⟨k, hk'⟩).1
      obtain ⟨b, off, spot⟩ := a
      have hspot : spot = none := by
        have h0 := (hF ⟨0, by omega⟩).1
        simpa [Addr.add] using World.cell?_spot h0
      subst hspot
      rw [Go.WideShapes.add_plain] at h
      exact ⟨b, off, rfl, cell_lt h, by simpa using h⟩
    · obtain ⟨i, rfl⟩ := List.mem_ofFn.1 hs
      have := (hF i).2
      unfold maxLen at this
      omega
end
end Go.Proofs.Ytnjlamnpiafpdaa
