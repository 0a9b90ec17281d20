/- Contracts of layer 7: Least, Most and Middle, the program's. -/
import Derived.Test.YtlbijepejihjgaaC07a
namespace Go.Proofs.Ytlbijepejihjgaa
open Go.RowKit
set_option maxRecDepth 100000
theorem Trim.is_t {k : Int} {n : Nat} (h : 0 ≤ k ∧ k < n) : Trim.is k n = true := decide_eq_true h
theorem Trim.is_f {k : Int} {n : Nat} (h : ¬(0 ≤ k ∧ k < n)) : Trim.is k n = false := decide_eq_false h
theorem trimLeast (k : Int) (A : Option Addr) (l : List Int) (cap : Nat) (w : World) (hI : IntsAt w A l) (hl : l.length ≤ 1099511627776) :
    Calls Try.prog 25 #[.int .i64 k, .slice A l.length cap] w fun e w' => e = .returned (.tuple #[.int .i64 (Trim.val k l), .bool (Trim.is k l.length)]) ∧ Ok w w' := by
  by_cases h : 0 ≤ k ∧ k < l.length
  · rw [Trim.is_t h]
    obtain ⟨n, rfl⟩ : ∃ n : Nat, k = n := ⟨k.toNat, by omega⟩
    unfold Trim.val
    rw [if_pos h]
    exact trimLeastT n A l cap w hI hl (by omega)
  · rw [Trim.is_f h, Trim.val_out h]
    exact trimLeastF k A l cap w h
theorem trimMost (k : Int) (A : Option Addr) (l : List Int) (cap : Nat) (w : World) (hI : IntsAt w A l) (hl : l.length ≤ 1099511627776) :
    Calls Try.prog 46 #[.int .i64 k, .slice A l.length cap] w fun e w' => e = .returned (.tuple #[.int .i64 (Trim.val ((l.length : Int) - 1 - k) l), .bool (Trim.is k l.length)]) ∧ Ok w w' := by
  have hok := Ok.refl w
  by_cases h : 0 ≤ k ∧ k < l.length
  · have K := Lib.hid (trimLeast ((l.length : Int) - 1 - k) A l cap w hI hl)
    rw [Trim.is_t (show 0 ≤ (l.length : Int) - 1 - k ∧ (l.length : Int) - 1 - k < l.length by omega)] at K
    rw [Trim.is_t h]
    obtain ⟨n, rfl⟩ : ∃ n : Nat, k = n := ⟨k.toNat, by omega⟩
    have hn : n < l.length := by omega
    clear h hI
    go_enter Try.func46, Try.ntmps46
    go_wp2_with (first
      | (go_at_call 42; refine (trimHasT n _ _ _ _ hn).mono ?_; rintro e w1 ⟨rfl, rfl⟩)
      | (go_at_call 25; refine K.out.mono ?_; rintro e w2 ⟨rfl, hb⟩))
    go_ret2
    exact ⟨rfl, hb⟩
  · rw [Trim.is_f h, Trim.val_out (by omega)]
    go_enter Try.func46, Try.ntmps46
    go_wp2_with (go_at_call 42; refine (trimHasF k _ _ _ _ h).mono ?_; rintro e w1 ⟨rfl, rfl⟩)
    go_ret2
    exact ⟨rfl, hok⟩
theorem trimOutvoted (f n : Int) (w : World) (hn : 0 ≤ n ∧ n ≤ 1099511627776) (hf : -9223372036854775808 ≤ f ∧ f ≤ 9223372036854775807) : Calls Try.prog 45 #[.int .i64 f, .int .i64 n] w fun e w' => e = .returned (.bool (Trim.many f n.toNat)) ∧ w = w' := by
  by_cases h0 : 0 ≤ f
  · have hr : IntKind.i64.wrap (n - f) = n - f := IntWalk.i64_in _ ⟨by omega, by omega⟩
    have hm : Trim.many f n.toNat = decide (f < n - f) := by
      unfold Trim.many
      rw [show ((n.toNat : Nat) : Int) = n by omega]
      simp [h0]
    rw [hm]
    by_cases h1 : f < n - f
    · rw [decide_eq_true h1]
      have h2 : 0 ≤ n - f := by omega
      clear hm hf
      go_enter Try.func45, Try.ntmps45
      go_wp2
      go_ret
      exact ⟨rfl, rfl⟩
    · rw [decide_eq_false h1]
      clear hm hf
      go_enter Try.func45, Try.ntmps45
      go_wp2
      go_ret
      exact ⟨rfl, rfl⟩
  · have hm : Trim.many f n.toNat = false := decide_eq_false fun g => h0 g.1
    rw [hm]
    clear hm hf
    go_enter Try.func45, Try.ntmps45
    go_wp2
    go_ret
    exact ⟨rfl, rfl⟩
theorem trimOutvotedN (f : Int) (n : Nat) (w : World) (hn : n ≤ 1099511627776) (hf : -9223372036854775808 ≤ f ∧ f ≤ 9223372036854775807) : Calls Try.prog 45 #[.int .i64 f, .int .i64 (n : Int)] w fun e w' => e = .returned (.bool (Trim.many f n)) ∧ w = w' := by
  have := trimOutvoted f n w (by omega) hf
  rwa [Int.toNat_natCast] at this
end Go.Proofs.Ytlbijepejihjgaa
