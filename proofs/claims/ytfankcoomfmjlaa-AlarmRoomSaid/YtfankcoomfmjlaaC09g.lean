/- Contracts of layer 9: the program's table: New, Len, Next, Drop. -/
import Derived.Test.YtfankcoomfmjlaaC09f
namespace Go.Proofs.Ytfankcoomfmjlaa
open Go.RowKit
set_option maxRecDepth 100000
/-- In block g is a table whose elements (of the type e) are those of L; they lie in block r; r is g if there is no row. -/
structure TabAt (e : TypeId) (w : World) (g r : Nat) (L : List Tm) : Prop where
  ex : ∃ A c, Own w g #[.slice A L.length c] ∧ w.ownsRow 0 e 2 (.slice A L.length c) L.length (L.flatMap tmcells) ∧ (A = none ∧ r = g ∨ A = some ⟨r, 0, none⟩ ∧ r ≠ g)
/-- The blocks of a table. -/
def Pr (g r : Nat) : Nat → Prop := fun k => k = g ∨ k = r
namespace TabAt
variable {e : TypeId} {w w1 : World} {g r : Nat} {L : List Tm} {S : Nat → Prop}
theorem lt (h : TabAt e w g r L) : g < w.heap.size ∧ r < w.heap.size := by
  obtain ⟨A, c, hO, hR, ⟨rfl, rfl⟩ | ⟨rfl, hne⟩⟩ := h.ex
  · exact ⟨hO.lt, hO.lt⟩
  · exact ⟨hO.lt, (hR.lt r rfl).2⟩
theorem far (h : TabAt e w g r L) (k : Far S w w1) (hg : ¬ S g) (hr : ¬ S r) : TabAt e w1 g r L := by
  obtain ⟨A, c, hO, hR, hA⟩ := h.ex
  refine ⟨A, c, k.own hO hg, k.row hR fun i hi => ?_, hA⟩
  rcases hA with ⟨rfl, rfl⟩ | ⟨rfl, hne⟩
  · cases hi
  · cases hi; exact hr
theorem next (h : TabAt e w g r L) (k : Ok w w1) : TabAt e w1 g r L := h.far (S := fun _ => False) (Far.of_ok k) (fun c => c) (fun c => c)
theorem new (w : World) (e t : TypeId) : TabAt e (w.alloc (.cells #[.slice none 0 0] t)) w.heap.size w.heap.size [] := ⟨none, 0, Own.new w _ t rfl, World.ownsRow_nil _ _ _ _, .inl ⟨rfl, rfl⟩⟩
/-- What a walk wants of it. -/
theorem opened (h : TabAt e w g r L) : ∃ A c, Own w g #[.slice A L.length c] ∧ w.ownsRow 0 e 2 (.slice A L.length c) L.length (L.flatMap tmcells) ∧ CellsAt w A (L.flatMap tmcells) ∧ L.length ≤ c ∧ c ≤ 9223372036854775807 ∧ (A = none ∧ r = g ∨ A = some ⟨r, 0, none⟩ ∧ r ≠ g) := by
  obtain ⟨A, c, hO, hR, hA⟩ := h.ex
  obtain ⟨A', c', e', h1, h2, _⟩ := row_form hR
  cases e'
  obtain ⟨A', c', e', hC⟩ := CellsAt.of_own hR (by rw [tms_length]) (by decide)
  cases e'
  exact ⟨A, c, hO, hR, hC, h1, by unfold maxLen at h2; omega, hA⟩
end TabAt
theorem tabNew (w : World) : Calls Try.prog 8 #[] w fun e w' => e = .returned (.pointer (some ⟨w.heap.size, 0, none⟩)) ∧ Ok w w' ∧ TabAt 50 w' w.heap.size w.heap.size [] := by
  have hok := Ok.refl w
  go_enter Try.func8, Try.ntmps8
  go_wp2
  go_ret
  exact ⟨rfl, hok.alloc _, TabAt.new w _ _⟩
theorem tabLenNil (w : World) : Calls Try.prog 18 #[.pointer none] w fun e w' => e = .returned (.int .i64 0) ∧ w = w' := by
  go_enter Try.func18, Try.ntmps18
  go_wp2
  go_ret
  exact ⟨rfl, rfl⟩
theorem tabLen (g r : Nat) (L : List Tm) (w : World) (hT : TabAt 50 w g r L) : Calls Try.prog 18 #[.pointer (some ⟨g, 0, none⟩)] w fun e w' => e = .returned (.int .i64 (L.length : Nat)) ∧ w = w' := by
  obtain ⟨A, c, hO, -⟩ := hT.ex
  have c0 := hO.cell 0 rfl
  clear hO hT
  go_enter Try.func18, Try.ntmps18
  go_wp2
  go_ret
  exact ⟨rfl, rfl⟩
theorem tabNextNil (w : World) : Calls Try.prog 16 #[.pointer none] w fun e w' => e = .returned (.tuple #[.int .i64 0, .bool false]) ∧ w = w' := by
  go_enter Try.func16, Try.ntmps16
  go_wp2_with (go_at_call 18; (with_reducible refine (tabLenNil _).mono ?_); rintro e w1 ⟨rfl, rfl⟩)
  go_ret2
  exact ⟨rfl, rfl⟩
/-- What Next answers. -/
def nextV : List Tm → Value
  | [] => .tuple #[.int .i64 0, .bool false]
  | x :: _ => .tuple #[.int .i64 x.t, .bool true]
theorem tabNext (g r : Nat) (L : List Tm) (w : World) (hT : TabAt 50 w g r L) (hl : L.length ≤ 1000000) : Calls Try.prog 16 #[.pointer (some ⟨g, 0, none⟩)] w fun e w' => e = .returned (nextV L) ∧ w = w' := by
  have K := tabLen g r L w hT
  cases L with
  | nil =>
    have HK := Lib.hid K
    clear K hT
    go_enter Try.func16, Try.ntmps16
    go_wp2_with (go_at_call 18; (with_reducible refine HK.out.mono ?_); rintro e w1 ⟨rfl, rfl⟩)
    go_ret2
    exact ⟨rfl, rfl⟩
  | cons x L =>
    obtain ⟨A, c, hO, -, hC, hlc, -⟩ := hT.opened
    obtain ⟨b, off, hA, hb, hc⟩ := hC.at tmcells_length (by decide) 0 (by simp)
    subst hA
    have c0 := hO.cell 0 rfl
    have c2 := hc 1 _ rfl
    simp only [Nat.zero_mul, Nat.add_zero, List.getElem_cons_zero, List.length_cons] at c2 K hlc hl c0
    have HK := Lib.hid K
    clear K hT hO hC hc hb
    have hd : (((L.length + 1 : Nat) : Int) == 0) = false := by rw [beq_eq_false_iff_ne]; omega
    go_enter Try.func16, Try.ntmps16
    go_wp2_with (go_at_call 18; (with_reducible refine HK.out.mono ?_); rintro e w1 ⟨rfl, rfl⟩)
    go_ret2
    exact ⟨rfl, rfl⟩
theorem tabDropNil (i : Int) (w : World) : Calls Try.prog 11 #[.pointer none, .int .i64 i] w fun e w' => e = .returned (.int .i64 2) ∧ Ok w w' := by
  have hok := Ok.refl w
  go_enter Try.func11, Try.ntmps11
  go_wp2
  go_ret
  exact ⟨rfl, hok.alloc _⟩
end Go.Proofs.Ytfankcoomfmjlaa
