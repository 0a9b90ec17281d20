/- Words of my own: a row of bytes of one's own, that may be nil; append of bytes to it. -/
import Derived.Test.YtacnoakbcilmfaaW09
import Derived.Laws.AppendOwn
namespace Go.Proofs.Ytacnoakbcilmfaa
open Go.RowKit Go.WideShapes Go.ChangeShapes
/-- The slice with address A reads as the bytes l, it lies at B or behind, and may be written. -/
def RowAt (w : World) (B : Nat) (A : Option Addr) (l : List Nat) : Prop :=
  ∀ k (h : k < l.length), ∃ b off, A = some ⟨b, off, none⟩ ∧ B ≤ b ∧ b < w.heap.size ∧ w.cell? ⟨b, off + k, none⟩ = some (.int .u8 (l[k] : Int)) ∧ w.frozen? ⟨b, off + k, none⟩ = false
namespace RowAt
theorem bytes {w : World} {B : Nat} {A : Option Addr} {l : List Nat} (h : RowAt w B A l) : BytesAt w A l := fun k hk => by
  obtain ⟨b, off, hA, _, hlt, hc, _⟩ := h k hk
  exact ⟨b, off, hA, hlt, hc⟩
theorem of_own {w : World} {B : Nat} {e : TypeId} {v : Value} {l : List Nat} (h : w.ownsRow B e 1 v l.length (u8s l)) : ∃ A cap, v = .slice A l.length cap ∧ l.length ≤ cap ∧ RowAt w B A l := by
  rcases h.2 with ⟨rfl, hx⟩ | ⟨g, cap, cur, rfl, hb, hh, hnc, r⟩
  · have : l = [] := by simpa [u8s] using hx
    subst this
    exact ⟨none, 0, rfl, Nat.le_refl _, fun k hk => absurd hk (Nat.not_lt_zero k)⟩
  · refine ⟨some ⟨g, 0, none⟩, cap, rfl, hnc, fun k hk => ⟨g, 0, rfl, hb, (Array.getElem?_eq_some_iff.1 hh).1, ?_, ?_⟩⟩
    · have := h.cellAt (g := g) k (by omega)
      rw [Nat.zero_add, this]
      exact u8s_at l k hk
    · rw [Nat.zero_add]; exact h.frozenAt k
theorem next {w w' : World} {B : Nat} {A : Option Addr} {l : List Nat} (h : RowAt w B A l) (k : Ok w w') : RowAt w' B A l := fun j hj => by
  obtain ⟨b, off, hA, hB, hlt, hc, hf⟩ := h j hj
  exact ⟨b, off, hA, hB, Nat.lt_of_lt_of_le hlt k.size, (k.cell (p := ⟨b, off + j, none⟩) hlt).trans hc, (Below.frozen k.below (p := ⟨b, off + j, none⟩) hlt).trans hf⟩
theorem set {w : World} {B b off : Nat} {l : List Nat} (h : RowAt w B (some ⟨b, off, none⟩) l) (k : Nat) (hk : k < l.length) (v : Nat) : RowAt (w.setCell ⟨b, off + k, none⟩ (.int .u8 (v : Int))) B (some ⟨b, off, none⟩) (l.set k v) := fun j hj => by
  have hj' : j < l.length := by simpa using hj
  obtain ⟨b', off', e, hB, hlt, hc, hf⟩ := h j hj'
  cases e
  refine ⟨b, off, rfl, hB, by simpa using hlt, ?_, ?_⟩
  · by_cases e : j = k
    · subst e
      rw [World.cell?_setCell_same (h := hc)]
      simp
    · rw [World.cell?_setCell_other (h := by intro g; simp only [Addr.mk.injEq, and_true, true_and] at g; omega), hc]
      simp [Ne.symm e]
  · rw [World.frozen?_setCell]; exact hf
end RowAt
theorem u8s_nil_own (w : World) (B : Nat) (e : TypeId) : w.ownsRow B e 1 (.slice none 0 0) 0 (u8s []) := ⟨rfl, .inl ⟨rfl, rfl⟩⟩
/-- append of bytes that came in, nil or not, to a row of one's own. -/
theorem wpList_append_bytes {P : Program} {w : World} {ops : Array Oper} {rest : List Oper} {o : Oper} {a : Act} {Q : Exit → Act → World → Prop} (hgd : o.guard = none) (s x : Operand) (t : TypeId)
    (ho : o.op = .call { callee := .builtin .append, args := #[s, x], argTypes := #[t, t] })
    (base : Nat) (e : TypeId) (ht : P.underlying t = some (.slice e)) (hi : (P.info? e).map (fun i => (i.zero, i.size, i.bytes)) = some (some (.int .u8 0), 1, 1))
    (v : Value) (xs : List Nat) (n : Nat) (hn : n = xs.length) (hs : a.eval s = v) (hown : w.ownsRow base e 1 v n (u8s xs)) (A : Option Addr) (l : List Nat) (m c : Nat) (hm : m = l.length) (hx : a.eval x = .slice A m c) (hA : BytesAt w A l)
    (h63 : xs.length + l.length ≤ 140737488355328) (hbase : base ≤ w.heap.size)
    (h : ∀ v' w', w'.ownsRow base e 1 v' (xs ++ l).length (u8s (xs ++ l)) → w.grownBy w' v.ownBlock → wpList P ops Q rest (a.put o.dst v') w') : wpList P ops Q (o :: rest) a w := by
  subst hn
  subst hm
  obtain ⟨i, i0, i1, i2, i3⟩ := info_parts hi
  cases A with
  | some ad =>
    refine wpList_append_own w hgd s x t ho base e i (.int .u8 0) 1 1 ht i0 i1 i2 i3 rfl (by decide) v xs.length (u8s xs) hs hown ad l.length c (u8s l) hx (by rw [u8s_length, Nat.mul_one]) (fun j u hj => ?_) (u8s_one _) (by unfold maxLen; omega) (by omega) hbase fun v' w' h1 h2 _ => h v' w' (by rw [List.length_append, u8s_append]; exact h1) h2
    have hlt : j < l.length := by have := (List.getElem?_eq_some_iff.1 hj).1; rw [u8s_length] at this; exact this
    obtain ⟨ad', e, hsrc⟩ := hA.src (by omega)
    cases e
    exact hsrc j u hj
  | none =>
    have hl : l = [] := by
      cases l with
      | nil => rfl
      | cons b l => obtain ⟨_, _, e, _⟩ := hA 0 (by simp); cases e
    subst hl
    refine wpList_plain hgd fun K hK => ?_
    have hrun : (Builtin.append_ #[t, t] o.type #[v, .slice none 0 c]).run P w = .ok v w := by
      rcases hown.2 with ⟨rfl, _⟩ | ⟨g, cap, cur, rfl, _, _, hnc, _⟩
      · simp [Builtin.append_, run_underlying ht, sizeOf, typeInfo, i0, Builtin.lenOf, Builtin.firstCells]
      · simp [Builtin.append_, run_underlying ht, sizeOf, typeInfo, i0, Builtin.lenOf, Builtin.firstCells, hnc, storeCells]
    have hk := h v w (by simpa using hown) ⟨rfl, rfl, rfl, Nat.le_refl _, fun _ _ _ => rfl⟩
    unfold Oper.wp
    simp at hx
    simp [execOp, ho, resolve, invoke, builtin, hs, hx, hrun, Result.andThen]
    exact hK _ _ hk
end Go.Proofs.Ytacnoakbcilmfaa
