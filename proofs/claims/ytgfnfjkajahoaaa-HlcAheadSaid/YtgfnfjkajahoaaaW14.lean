/- Words of my own: guarded operations in a region by facts (W11). -/
import Derived.Test.YtgfnfjkajahoaaaW11
namespace Go.Proofs.Ytgfnfjkajahoaaa
open Go
section
variable {P : Program} {ops : Array Oper} {Q : Exit → Act → World → Prop} {V : Nat → Value → World → Prop} {R : World → World → Prop} {a0 : Act} {w0 : World}
/-- The truth value that it is, if it is one. -/
def boolOf : Value → Option Bool
  | .bool b => some b
  | _ => none
theorem yielded_at {tmps : Array Value} {j d : Nat} {v : Value} (hd : dstOf ops j = some d) (ht : tmps[d]? = some v) : yielded ops tmps j = boolOf v := by
  unfold yielded
  unfold dstOf at hd
  rw [hd, Option.bind_some]
  simp only [ht]
  cases v <;> rfl
theorem wanted_not {o : Oper} {a : Act} {j d : Nat} {want : Bool} {v : Value} (hg : o.guard = some (j, want)) (hd : dstOf ops j = some d) (ht : a.tmps[d]? = some v) (hv : v ≠ .bool want) : Region.wanted o (yielded ops a.tmps) = false := by
  unfold Region.wanted
  rw [hg]
  show (yielded ops a.tmps j == some want) = false
  rw [yielded_at hd ht]
  cases v with
  | bool b =>
    have : b ≠ want := fun h => hv (by rw [h])
    simp [boolOf, this]
  | _ => rfl
theorem wanted_yes {o : Oper} {a : Act} {j d : Nat} {want : Bool} (hg : o.guard = some (j, want)) (hd : dstOf ops j = some d) (ht : a.tmps[d]? = some (.bool want)) : Region.wanted o (yielded ops a.tmps) = true := by
  unfold Region.wanted
  rw [hg]
  show (yielded ops a.tmps j == some want) = true
  rw [yielded_at hd ht]
  simp [boolOf]
/-- An operation that is passed over. -/
theorem wpOp_skip {i : Nat} {o : Oper} {a : Act} {w : World} (ho : ops[i]? = some o) (hg : Region.wanted o (yielded ops a.tmps) = false) (hv : V i undef w) (hR : R w w) :
    wpOp P ops Q i (fun a'' w'' => ∃ v, a'' = a.put o.dst v ∧ V i v w'' ∧ R w w'') a w := by
  refine wpOp_step ho fun K hK => ?_
  rw [if_neg (by rw [hg]; decide)]
  exact hK _ _ ⟨undef, rfl, hv, hR⟩
/-- An operation that is wanted, and runs to its end. -/
theorem wpOp_runG {i : Nat} {o : Oper} {a : Act} {w w' : World} {v : Value} (ho : ops[i]? = some o) (hg : Region.wanted o (yielded ops a.tmps) = true) (hr : (execOp a.eval o).run P w = .ok (.value v) w') (hv : V i v w') (hR : R w w') :
    wpOp P ops Q i (fun a'' w'' => ∃ v, a'' = a.put o.dst v ∧ V i v w'' ∧ R w w'') a w := by
  refine wpOp_step ho fun K hK => ?_
  rw [if_pos hg]
  unfold Oper.wp
  rw [hr, Oper.upon_value]
  exact hK _ _ ⟨v, rfl, hv, hR⟩
/-- A call that is wanted, by its contract. -/
theorem wpOp_callG {i : Nat} {o : Oper} {a : Act} {w : World} {f : FuncId} {args : Array Value} (ho : ops[i]? = some o) (hg : Region.wanted o (yielded ops a.tmps) = true) (hr : (execOp a.eval o).run P w = .ok (.enter f args) w)
    (hc : Calls P f args w fun e w' => ∃ v, e = .returned v ∧ V i v w' ∧ R w w') :
    wpOp P ops Q i (fun a'' w'' => ∃ v, a'' = a.put o.dst v ∧ V i v w'' ∧ R w w'') a w := by
  refine wpOp_step ho fun K hK => ?_
  rw [if_pos hg]
  unfold Oper.wp
  rw [hr, Oper.upon_enter]
  refine hc.mono fun e w' h => ?_
  obtain ⟨v, rfl, hv, hR⟩ := h
  exact hK _ _ ⟨v, rfl, hv, hR⟩
end
end Go.Proofs.Ytgfnfjkajahoaaa
