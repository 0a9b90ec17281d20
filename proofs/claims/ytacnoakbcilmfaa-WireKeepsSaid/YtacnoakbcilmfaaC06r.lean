/- Layer 6: what every law asks first. -/
import Derived.Test.YtacnoakbcilmfaaC06q
namespace Go.Proofs.Ytacnoakbcilmfaa
open Go.RowKit
set_option maxRecDepth 100000
attribute [local go_sem ↓] Go.wp_at_zero Go.wp_at_succ
/-- What is laid down is read. -/
theorem decOf_enc {m : Msg} (h : Wire.good m = true) : decOf (sealL (Wire.frame m)) = (m, 0) := by
  have hl := sealL_length (Wire.frame m)
  have hf := Wire.frame_length m
  have hs := Wire.good_short h
  obtain ⟨p1, p2⟩ := Wire.parse_frame h
  have ho : (sealL (Wire.frame m)).take ((sealL (Wire.frame m)).length - 4) = Wire.frame m := by
    rw [hl, Nat.add_sub_cancel, sealL, List.take_left]
  unfold decOf
  rw [if_neg (by omega), isSealed_sealL, if_neg (by simp), ho, p1, if_neg (by simp), p2, if_pos ⟨h, rfl⟩]
theorem strL_enc {m : Msg} (h : Wire.good m = true) : strL (encS m) = sealL (Wire.frame m) := by
  unfold encS
  rw [if_pos h, strL_strOf (sealL_lt (Wire.frame_lt h))]
theorem enc_size {m : Msg} (h : Wire.good m = true) : (encS m).size = 80 + 16 * m.table.length := by
  unfold encS
  rw [if_pos h, strOf_size, sealL_length, Wire.frame_length]
  omega
def oneMsg : Msg := ⟨1, 0, 0, 0, 0, 0, false, false, 0, 0, 0, 0, 0, []⟩
def threeMsg : Msg := ⟨3, 0, 0, 0, 0, 0, false, false, 0, 0, 0, 0, 0, []⟩
theorem enc_one (w : World) : Calls Try.prog 16 #[.agg #[.int .i64 1, .int .i64 0, .int .i64 0, .int .i64 0, .int .i64 0, .int .i64 0, .bool false, .bool false, .int .i64 0, .int .i64 0, .int .i64 0, .int .i64 0, .int .i64 0, .slice none 0 0]] w fun e w' => e = .returned (.tuple #[.string (encS oneMsg), .int .i64 0]) ∧ Ok w w' :=
  wireEncode oneMsg none 0 w (PairsAt.empty _ _) (by decide)
theorem enc_three (w : World) : Calls Try.prog 16 #[.agg #[.int .i64 3, .int .i64 0, .int .i64 0, .int .i64 0, .int .i64 0, .int .i64 0, .bool false, .bool false, .int .i64 0, .int .i64 0, .int .i64 0, .int .i64 0, .int .i64 0, .slice none 0 0]] w fun e w' => e = .returned (.tuple #[.string (encS threeMsg), .int .i64 1]) ∧ Ok w w' :=
  wireEncode threeMsg none 0 w (PairsAt.empty _ _) (by decide)
theorem dec_one (w : World) : Calls Try.prog 18 #[.string (encS oneMsg)] w fun e w' => ∃ A cap, e = .returned (.tuple #[.agg #[.int .i64 1, .int .i64 0, .int .i64 0, .int .i64 0, .int .i64 0, .int .i64 0, .bool false, .bool false, .int .i64 0, .int .i64 0, .int .i64 0, .int .i64 0, .int .i64 0, .slice A 0 cap], .int .i64 0]) ∧ Ok w w' := by
  have h : Wire.good oneMsg = true := by decide
  refine (wireDecode (encS oneMsg) w).mono fun e w' hd => ?_
  rw [strL_enc h, decOf_enc h] at hd
  obtain ⟨A, cap, h1, _, h3⟩ := hd
  exact ⟨A, cap, h1, h3⟩
set_option maxHeartbeats 1600000 in
theorem law6Alive (w : World) : Calls Try.prog 15 #[] w fun e w' => e = .returned (.bool true) ∧ Ok w w' := by
  have hok := Ok.refl w
  have K1 := Lib.hid enc_one
  have K2 := Lib.hid enc_three
  have K3 := Lib.hid dec_one
  have hsz : (encS oneMsg).size = 80 := enc_size (by decide)
  obtain ⟨t, ht⟩ : ∃ t, encS oneMsg = t := ⟨_, rfl⟩
  rw [ht] at K1 K3 hsz
  obtain ⟨u, hu⟩ : ∃ t, encS threeMsg = t := ⟨_, rfl⟩
  rw [hu] at K2
  clear ht hu
  go_enter Try.func15, Try.ntmps15
  go_wp2_with (first | (go_at_call 16; (with_reducible refine (K1.out _).mono ?_); rintro e w1 ⟨rfl, hb1⟩; replace hok := hok.trans hb1; clear hb1) | (go_at_call 16; (with_reducible refine (K2.out _).mono ?_); rintro e w2 ⟨rfl, hb1⟩; have c0 := hb1.cell (p := ⟨w3.heap.size, 0, none⟩) (by simp); simp at c0; replace hok := (hok.alloc _).trans hb1; clear hb1) | (go_at_call 18; (with_reducible refine (K3.out _).mono ?_); rintro e w3 ⟨A, cap, rfl, hb1⟩; replace hok := hok.trans hb1; clear hb1))
  go_ret
  exact ⟨rfl, hok⟩
theorem law6Long (m : Msg) (A : Option Addr) (cap : Nat) (w : World) :
    Calls Try.prog 11 #[msgV m A cap] w fun e w' => e = .returned (.bool (decide (1024 < m.table.length))) ∧ Ok w w' := by
  have hok := Ok.refl w
  unfold msgV
  go_enter Try.func11, Try.ntmps11
  have hd : decide ((1024 : Int) < (m.table.length : Int)) = decide (1024 < m.table.length) := decide_eq_decide.2 (by omega)
  go_wp2
  go_ret
  exact ⟨by simp only; rfl, hok.alloc _⟩
end Go.Proofs.Ytacnoakbcilmfaa
