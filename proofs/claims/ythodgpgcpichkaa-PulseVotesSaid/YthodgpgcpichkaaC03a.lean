/- Contracts of layer 3's functions: those of one span. -/
import Derived.Test.YthodgpgcpichkaaC01a
import Derived.Test.YthodgpgcpichkaaC01c
import Derived.Test.YthodgpgcpichkaaW04
import Derived.Deep.QuietTactic
import Derived.BigQuiet
import Derived.Deep.RegionHeld3
import Derived.Deep.DrawnRows
import Derived.Test.YthodgpgcpichkaaM04
namespace Go.Proofs.Ythodgpgcpichkaa
open Go.RowKit
set_option maxRecDepth 100000
attribute [local go_sem ↓] Go.wp_at_zero Go.wp_at_succ
/-- A span, as a value. -/
abbrev spanV (lo hi : Int) : Value := .agg #[.int .i64 lo, .int .i64 hi]

theorem spanMid (lo hi : Int) (w : World) : Calls Try.prog 31 #[spanV lo hi] w fun e w' => e = .returned (.int .i64 ((Sat.clip lo + Sat.clip hi) / 2)) ∧ Ok w w' := by
  have hok := Ok.refl w
  have b1 := Sat.clip_bd lo
  have b2 := Sat.clip_bd hi
  go_enter Try.func31, Try.ntmps31
  go_wp2
  go_quiet ((go_at_call 26; exact Calls.quiet_of_same ((satClip _ _).mono fun _ _ h => ⟨h.1, h.2.symm⟩)))
  go_wp2
  go_ret
  exact ⟨rfl, (hok.alloc _).drewN _⟩
theorem ref3Mid (lo hi : Int) (w : World) : Calls Try.prog 22 #[spanV lo hi] w fun e w' => e = .returned (.int .i64 ((Sat.clip lo + Sat.clip hi) / 2)) ∧ Ok w w' := by
  have hok := Ok.refl w
  have b1 := Sat.clip_bd lo
  have b2 := Sat.clip_bd hi
  obtain ⟨n, hn⟩ : ∃ n, Sat.clip lo + Sat.clip hi = n := ⟨_, rfl⟩
  rw [hn]
  have hb : -4611686018427387904 ≤ n ∧ n ≤ 4611686018427387904 := by omega
  clear b1 b2
  by_cases h : n % 2 = 0
  · have h1 : n.tmod 2 = 0 := (Span.half_even h).1
    have h2 : n.tdiv 2 = n / 2 := (Span.half_even h).2
    go_enter Try.func22, Try.ntmps22
    go_wp2
    go_quiet ((go_at_call 32; exact Calls.quiet_of_same ((refClip _ _).mono fun _ _ h => ⟨h.1, h.2.symm⟩)))
    go_wp2
    go_ret
    exact ⟨rfl, (hok.alloc _).drewN _⟩
  · have h1 : n.tmod 2 ≠ 0 := (Span.half_odd h).1
    have h2 : (n - 1).tdiv 2 = n / 2 := (Span.half_odd h).2
    go_enter Try.func22, Try.ntmps22
    go_wp2
    go_quiet ((go_at_call 32; exact Calls.quiet_of_same ((refClip _ _).mono fun _ _ h => ⟨h.1, h.2.symm⟩)))
    go_wp2
    go_ret
    exact ⟨rfl, (hok.alloc _).drewN _⟩
end Go.Proofs.Ythodgpgcpichkaa
