/- Contracts of layer 14: the program's Tick. -/
import Derived.Test.YtcoeiedaopmpcaaC14d
namespace Go.Proofs.Ytcoeiedaopmpcaa
open Go.RowKit Go.Maps
set_option maxRecDepth 100000
attribute [local go_sem ↓] Go.wp_at_zero Go.wp_at_succ
theorem ints_only {r : Nat} {w w1 : World} {A : Option Addr} {l : List Int} (h : IntsAt w A l) (k : Only r w w1) (hA : ∀ a, A = some a → a.block ≠ r) : IntsAt w1 A l := fun j hj => by
  obtain ⟨b, off, e, hlt, hc⟩ := h j hj
  exact ⟨b, off, e, Nat.lt_of_lt_of_le hlt k.size, (k.cell (p := ⟨b, off + j, none⟩) hlt (show b ≠ r from hA _ e)).trans hc⟩
theorem memNext (a q : Int) (w : World) (ha : 0 ≤ a ∧ a ≤ 1073741824) (hq : 0 ≤ q ∧ q ≤ 1073741824) :
    Calls Try.prog 19 #[.agg #[.int .i64 a, .int .i64 q]] w fun e w' => e = .returned (.agg #[.int .i64 (Mem.next (a, q)).1, .int .i64 (Mem.next (a, q)).2]) ∧ Ok w w' := by
  have hok := Ok.refl w
  have e2 : (Mem.next (a, q)).2 = min (q + 1) 1073741824 := Mem.up_min hq.2
  have e1 : (Mem.next (a, q)).1 = if q = 0 then min (a + 1) 1073741824 else 0 := by
    show (if q = 0 then Mem.up a else 0) = _
    rw [Mem.up_min ha.2]
  by_cases h0 : q = 0
  · subst h0
    rw [if_pos rfl] at e1
    by_cases h1 : 1073741824 < a + 1
    · rw [show min (a + 1) (1073741824 : Int) = 1073741824 by omega] at e1
      rw [show min (0 + 1) (1073741824 : Int) = 1 by omega] at e2
      rw [e1, e2]
      clear e1 e2
      go_enter Try.func19, Try.ntmps19
      go_wp2
      exact bodyPost_ret (v := .agg #[.int .i64 1073741824, .int .i64 1]) (by simp [results, Try.results19, go_sem]; omega) rfl ⟨rfl, (hok.alloc _).alloc _⟩
    · rw [show min (a + 1) (1073741824 : Int) = a + 1 by omega] at e1
      rw [show min (0 + 1) (1073741824 : Int) = 1 by omega] at e2
      rw [e1, e2]
      clear e1 e2
      go_enter Try.func19, Try.ntmps19
      go_wp2
      exact bodyPost_ret (v := .agg #[.int .i64 (a + 1), .int .i64 1]) (by simp [results, Try.results19, go_sem]; omega) rfl ⟨rfl, (hok.alloc _).alloc _⟩
  · rw [if_neg h0] at e1
    have hd : (q == 0) = false := by rw [beq_eq_false_iff_ne]; exact h0
    by_cases h2 : 1073741824 < q + 1
    · rw [show min (q + 1) (1073741824 : Int) = 1073741824 by omega] at e2
      rw [e1, e2]
      clear e1 e2
      go_enter Try.func19, Try.ntmps19
      go_wp2
      exact bodyPost_ret (v := .agg #[.int .i64 0, .int .i64 1073741824]) (by simp [results, Try.results19, go_sem]; omega) rfl ⟨rfl, (hok.alloc _).alloc _⟩
    · rw [show min (q + 1) (1073741824 : Int) = (q + 1) by omega] at e2
      rw [e1, e2]
      clear e1 e2
      go_enter Try.func19, Try.ntmps19
      go_wp2
      exact bodyPost_ret (v := .agg #[.int .i64 0, .int .i64 (q + 1)]) (by simp [results, Try.results19, go_sem]; omega) rfl ⟨rfl, (hok.alloc _).alloc _⟩
end Go.Proofs.Ytcoeiedaopmpcaa
