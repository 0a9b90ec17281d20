/- Contracts of layer 8: the document's Lanes: Near, Len. -/
import Derived.Test.YtnjlamnpiafpdaaW22
import Derived.Test.YtnjlamnpiafpdaaW23
import Derived.Test.YtnjlamnpiafpdaaM18
namespace Go.Proofs.Ytnjlamnpiafpdaa
open Go.RowKit
set_option maxRecDepth 100000
def itcells (x : It) : List Value := [.int .i64 x.who, .string x.text, .int .i64 x.age]
theorem itcells_length (x : It) : (itcells x).length = 3 := rfl
theorem its_length (L : List It) : (L.flatMap itcells).length = L.length * 3 := flatMap_length itcells 3 itcells_length L
theorem its_one (L : List It) : ∀ u ∈ L.flatMap itcells, u.oneCell' = true := fun u hu => by
  obtain ⟨x, _, hx⟩ := List.mem_flatMap.1 hu
  simp [itcells] at hx
  rcases hx with rfl | rfl | rfl <;> rfl
/-- In block r is the document's slice of all that waits; it lies neither in r nor in g. -/
structure RefAt (w : World) (g r : Nat) (L : List It) : Prop where
  ex : ∃ A cap, Own w r #[.slice A L.length cap] ∧ w.ownsRow 0 40 3 (.slice A L.length cap) L.length (L.flatMap itcells) ∧ (∀ a, A = some a → a.block ≠ r ∧ a.block ≠ g)
namespace RefAt
variable {w w1 : World} {g r : Nat} {L : List It}
theorem next (h : RefAt w g r L) (k : Ok w w1) : RefAt w1 g r L := by
  obtain ⟨A, cap, hO, hr, ha⟩ := h.ex
  exact ⟨A, cap, hO.next k, hr.kept (w' := w1) (row := none) ⟨k.below.os, k.below.tape, k.below.output, k.size, fun i hi _ => k.below.block i hi⟩ (by cases h : (Value.slice A L.length cap).ownBlock <;> simp), ha⟩
theorem only (h : RefAt w g r L) (k : Only g w w1) (hr : r ≠ g) : RefAt w1 g r L := by
  obtain ⟨A, cap, hO, hw, ha⟩ := h.ex
  refine ⟨A, cap, k.own hO hr, hw.kept (w' := w1) (row := some g) ⟨k.os, k.tape, k.output, k.size, fun i hi he => k.block i hi fun e => he (by rw [e])⟩ ?_, ha⟩
  cases A with
  | none => exact .inl rfl
  | some a => exact .inr fun e => (ha a rfl).2 (by simpa [Value.ownBlock] using e)
theorem lt (h : RefAt w g r L) : r < w.heap.size := by
  obtain ⟨_, _, hO, _⟩ := h.ex
  exact hO.lt
/-- What a walk wants of it. -/
theorem opened (h : RefAt w g r L) : ∃ A cap, Own w r #[.slice A L.length cap] ∧ CellsAt w A (L.flatMap itcells) ∧ L.length ≤ cap ∧ cap ≤ 9223372036854775807 ∧ (∀ a, A = some a → a.block ≠ r ∧ a.block ≠ g) := by
  obtain ⟨A, cap, hO, hw, ha⟩ := h.ex
  obtain ⟨A', cap', e, h1, h2, _⟩ := row_form hw
  cases e
  obtain ⟨A', cap', e, hC⟩ := CellsAt.of_own hw (by rw [its_length]) (by decide)
  cases e
  exact ⟨A, cap, hO, hC, h1, by unfold maxLen at h2; omega, ha⟩
end RefAt
theorem refNear (who : Int) (w : World) : Calls Try.prog 22 #[.int .i64 who] w fun e w' => e = .returned (.bool (decide (0 ≤ who ∧ who < 48))) ∧ w = w' := by
  by_cases h : 0 ≤ who
  · by_cases h2 : who ≤ 47
    · rw [show decide (0 ≤ who ∧ who < 48) = true from decide_eq_true ⟨h, by omega⟩]
      go_enter Try.func22, Try.ntmps22
      go_wp2
      go_ret
      exact ⟨rfl, rfl⟩
    · rw [show decide (0 ≤ who ∧ who < 48) = false from decide_eq_false (by omega)]
      go_enter Try.func22, Try.ntmps22
      go_wp2
      go_ret
      exact ⟨rfl, rfl⟩
  · rw [show decide (0 ≤ who ∧ who < 48) = false from decide_eq_false (by omega)]
    go_enter Try.func22, Try.ntmps22
    go_wp2
    go_ret
    exact ⟨rfl, rfl⟩
theorem row_take (L : List It) (who : Int) {k : Nat} (hk : k < L.length) : (Lane.row (L.take (k + 1)) who).length = (Lane.row (L.take k) who).length + if L[k].who = who then 1 else 0 := by
  rw [take_more hk, Lane.row_append, List.length_append, Lane.row_cons, Lane.row_nil]
  by_cases h : L[k].who = who <;> simp [h]
theorem row_le (L : List It) (who : Int) : (Lane.row L who).length ≤ L.length := by
  rw [Lane.row_length]; exact List.countP_le_length
set_option maxHeartbeats 800000 in
theorem refLen (g r : Nat) (L : List It) (who : Int) (w : World) (hR : RefAt w g r L) :
    Calls Try.prog 19 #[.pointer (some ⟨r, 0, none⟩), .int .i64 who] w fun e w' => e = .returned (.int .i64 ((Lane.row L who).length : Nat)) ∧ Ok w w' := by
  obtain ⟨A, cap, hO, hC, hcap, hm, -⟩ := hR.opened
  have c0 := hO.cell 0 rfl
  have HC := Lib.hid hC
  have hok := Ok.refl w
  clear hO hC hR
  go_enter Try.func19, Try.ntmps19
  go_wp2_with fail
  go_loopw [5, 13] (fun v i wr => ∃ k : Nat, k ≤ L.length ∧ i = .int .i64 k ∧ v = .int .i64 ((Lane.row (L.take k) who).length : Nat) ∧ Ok w wr) (fun _ i _ => L.length - (intOf i).toNat)
  case atStart => exact ⟨0, Nat.zero_le _, rfl, rfl, hok⟩
  case round =>
    obtain ⟨k, hk, rfl, rfl, hok1⟩ := hrel
    clear hok c0
    by_cases hlt : k < L.length
    · obtain ⟨b, off, hA, hb, hc⟩ := (HC.out.below hok1).at itcells_length (by decide) k hlt
      subst hA
      have hrow := row_take L who hlt
      have hle := row_le (L.take k) who
      have hle2 : (L.take k).length ≤ k := List.length_take_le _ _
      obtain ⟨x, hx⟩ : ∃ x, L[k] = x := ⟨_, rfl⟩
      rw [hx] at hc hrow
      have c0 := hc 0 _ rfl
      have c1 := hc 1 _ rfl
      have c2 := hc 2 _ rfl
      rw [Nat.add_zero] at c0
      obtain ⟨xw, xs, xa⟩ := x
      simp only at c0 c1 c2 hrow
      generalize hn : (Lane.row (L.take k) who).length = n at hrow hle ⊢
      have hn1 : n ≤ 9223372036854775806 := by omega
      clear hle hle2
      have HN := Lib.hid hrow
      clear hc hx hrow hn
      by_cases he : xw = who
      · subst he
        go_wp2_with fail
        go_roundw
        case rel => exact ⟨k + 1, by omega, by go_num, by rw [HN.out, if_pos rfl]; go_num, hok1.alloc _⟩
        case measure => simp [intOf]; omega
      · have HE := Lib.hid he
        have hd : (xw == who) = false := by rw [beq_eq_false_iff_ne]; exact he
        clear he
        go_wp2_with fail
        go_roundw
        case rel => exact ⟨k + 1, by omega, by go_num, by rw [HN.out, if_neg HE.out]; rfl, hok1.alloc _⟩
        case measure => simp [intOf]; omega
    · have HE : Hid (L.take k = L) := Lib.hid (List.take_of_length_le (by omega))
      go_wp2_with fail
      go_ret
      exact ⟨ret_int (by rw [HE.out]), hok1⟩
end Go.Proofs.Ytnjlamnpiafpdaa
