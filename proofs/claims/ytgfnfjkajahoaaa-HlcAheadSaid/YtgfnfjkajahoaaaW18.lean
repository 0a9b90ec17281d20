/- Words of my own: an integer that came in has the bounds of its kind. -/
import Derived.Test.YtgfnfjkajahoaaaW01
namespace Go.Proofs.Ytgfnfjkajahoaaa
theorem wf_bd {k : Int} (h : (Lit.int .i64 k).wf = true) : -9223372036854775808 ≤ k ∧ k ≤ 9223372036854775807 := by
  have e : IntKind.i64.min = -9223372036854775808 := rfl
  simp [Lit.wf] at h
  omega
end Go.Proofs.Ytgfnfjkajahoaaa
