/- Contracts of layer 13: the program's Begin and Vote. -/
import Derived.Test.YthodgpgcpichkaaC13a
import Derived.Test.YthodgpgcpichkaaC04b
import Derived.Test.YthodgpgcpichkaaC01b
import Derived.Test.YthodgpgcpichkaaC07b
namespace Go.Proofs.Ythodgpgcpichkaa
open Go.RowKit
set_option maxRecDepth 100000
attribute [local go_sem ↓] Go.wp_at_zero Go.wp_at_succ
theorem pulseBegin (p : Par) (n : Int) (w : World) : Calls Try.prog 14 #[parV p, .int .i64 n] w fun e w' => e = .returned (.int .i64 (Sat.mul n (Wide.one p.pulse))) ∧ Ok w w' := by
  have hok := Ok.refl w
  have h1 := Lib.hid (Wide.most_one p.pulse)
  go_enter Try.func14, Try.ntmps14
  go_wp2_with (first | (go_at_call 24; (with_reducible refine (satMax2 _ _ _ _ _ (by simp)).mono ?_); rintro e w' ⟨rfl, rfl⟩; rw [h1.out]) | (go_at_call 23; refine (satMul _ _ _).mono ?_; rintro e w' ⟨rfl, rfl⟩))
  go_ret
  exact ⟨rfl, (hok.alloc _).alloc _⟩
theorem pulseVote (f : Int) (A : Option Addr) (l : List Int) (cap : Nat) (w : World) (hI : IntsAt w A l) (hl : l.length ≤ 1099511627776) (hf : -9223372036854775808 ≤ f ∧ f ≤ 9223372036854775807) :
    Calls Try.prog 12 #[.int .i64 f, .slice A l.length cap] w fun e w' => e = .returned (.tuple #[.int .i64 (Trim.mid f l Sat.clip), .bool (Trim.many f l.length)]) ∧ Ok w w' := by
  have K := Lib.hid (trimMiddle f A l cap w hI hl hf)
  generalize Trim.mid f l Sat.clip = m at K ⊢
  generalize Trim.many f l.length = q at K ⊢
  clear hI hl hf
  go_enter Try.func12, Try.ntmps12
  go_wp2_with (go_at_call 18; refine K.out.mono ?_; rintro e w1 ⟨rfl, hb1⟩)
  go_ret2
  exact ⟨rfl, hb1⟩
end Go.Proofs.Ythodgpgcpichkaa
