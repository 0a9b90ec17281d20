/- Contracts of layer 1: products. -/
import Derived.Test.YtpblehdkkdjfoaaDoorC01a
import Derived.Test.YtpblehdkkdjfoaaDoorShelf
namespace Go.Proofs.YtpblehdkkdjfoaaDoor
open Go.RowKit Go.Lib

theorem bitsMul64' (x y q r : Nat) (hx : x < 18446744073709551616) (hy : y < 18446744073709551616) (hq : Hid (x * y / 18446744073709551616 = q)) (hr : Hid (x * y % 18446744073709551616 = r)) (w : World) :
    Calls Tryd.prog 33 #[.int .u64 x, .int .u64 y] w fun e w' => e = .returned (.tuple #[.int .u64 (q : Int), .int .u64 (r : Int)]) ∧ w = w' := by
  have h := Tryd.bits_Mul64 x y hx hy w
  rw [hq.out, hr.out] at h
  exact h.mono fun e w' g => ⟨g.1, g.2.symm⟩
end Go.Proofs.YtpblehdkkdjfoaaDoor
