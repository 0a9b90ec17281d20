/- Layer 5: what every law asks first. -/
import Derived.Test.YtkjifhhipbegdaaC05c
import Derived.Lib.SlBytesConst
namespace Go.Proofs.Ytkjifhhipbegdaa
open Go.RowKit
set_option maxRecDepth 100000
def nine : List Nat := [49, 50, 51, 52, 53, 54, 55, 56, 57]
theorem nine_check : Crc.check nine = 3421780262 := by decide
theorem sumNine (W : World) (b : Nat) (hb : b = W.heap.size) (A : Option Addr) (h : BytesAt W A nine) (cap : Nat) : Calls Try.prog 10 #[.slice (some ⟨b, 0, none⟩) 1 1] (W.alloc (.cells #[.slice A 9 cap] 22)) fun e w' => e = .returned (.int .u32 3421780262) ∧ Ok (W.alloc (.cells #[.slice A 9 cap] 22)) w' := by
  have h := crcSum (some ⟨b, 0, none⟩) [nine] 1 _ (PiecesAt.new1 h cap 22 hb) (by decide) (by decide) (by decide)
  rw [show [nine].flatten = nine from rfl, nine_check] at h
  exact h
theorem sumNone (W : World) : Calls Try.prog 10 #[.slice none 0 0] W fun e w' => e = .returned (.int .u32 0) ∧ Ok W w' := by
  have h := crcSum none [] 0 W (PiecesAt.empty _ _) (by simp) (by simp) (by simp)
  rw [show ([] : List (List Nat)).flatten = [] from rfl, Crc.check_nil] at h
  exact h
set_option maxHeartbeats 800000 in
theorem law5Alive (w : World) : Calls Try.prog 9 #[] w fun e w' => e = .returned (.bool true) ∧ Ok w w' := by
  have hok := Ok.refl w
  have hcv := fun (w : World) (C : Array Value) (n c : Nat) => Lib.run_convert_bytes_const (P := Try.prog) w 22 5 C n c Try.underlying22 Try.underlying5
  have HN := Lib.hid fun (fr : Nat × Nat) => BytesAt.newF w nine 5 fr #[.int .u8 49, .int .u8 50, .int .u8 51, .int .u8 52, .int .u8 53, .int .u8 54, .int .u8 55, .int .u8 56, .int .u8 57] rfl rfl
  go_enter Try.func9, Try.ntmps9
  go_wp2_with (first
    | (go_at_call 10; with_reducible refine (sumNine _ _ (by simp) _ (HN.out _) _).mono ?_; rintro e w1 ⟨rfl, hb1⟩; replace hok := ((hok.alloc _).alloc _).trans hb1; clear hb1)
    | (go_at_call 10; with_reducible refine (sumNone _).mono ?_; rintro e w1 ⟨rfl, hb1⟩; replace hok := hok.trans hb1; clear hb1))
  go_ret
  exact ⟨rfl, hok⟩
end Go.Proofs.Ytkjifhhipbegdaa
