/- Contracts of layer 5: the document's check of bytes. -/
import Derived.Test.YtacnoakbcilmfaaRows
import Derived.Test.YtacnoakbcilmfaaM07
import Derived.WalkKit
import Derived.ProofKit
import Derived.OpenShut
import Derived.WalkLawsBesides
import Derived.IntWalk
import Derived.Lib.Hide
namespace Go.Proofs.Ytacnoakbcilmfaa
open Go.RowKit
set_option maxRecDepth 100000
/-- The bytes of a string, as numbers. -/
def strL (s : ByteArray) : List Nat := s.data.toList.map UInt8.toNat
theorem strL_lt (s : ByteArray) : ∀ b ∈ strL s, b < 256 := by
  intro b hb
  obtain ⟨c, _, rfl⟩ := List.mem_map.1 hb
  exact c.toNat_lt
theorem strL_length (s : ByteArray) : (strL s).length = s.size := by simp [strL]
theorem strL_take (s : ByteArray) (k : Nat) (h : k < s.size) : (strL s).take (k + 1) = (strL s).take k ++ [s[k].toNat] := by
  rw [List.take_succ_eq_append_getElem (by rw [strL_length]; exact h)]
  congr 2
  simp [strL]
  rfl
theorem xor_u32 {x y : Nat} (hx : x < 4294967296) (hy : y < 4294967296) : bits .xor .u32 (x : Int) (y : Int) = ((x ^^^ y : Nat) : Int) := by
  have hz : x ^^^ y < 2 ^ 32 := Nat.xor_lt_two_pow (n := 32) (by omega) (by omega)
  have e1 : (BitVec.ofInt 32 (x : Int)).toNat = x := by rw [BitVec.ofInt_natCast, BitVec.toNat_ofNat]; exact Nat.mod_eq_of_lt (by omega)
  have e2 : (BitVec.ofInt 32 (y : Int)).toNat = y := by rw [BitVec.ofInt_natCast, BitVec.toNat_ofNat]; exact Nat.mod_eq_of_lt (by omega)
  show IntKind.u32.wrap ((BitVec.ofInt 32 (x : Int) ^^^ BitVec.ofInt 32 (y : Int)).toNat : Int) = _
  rw [BitVec.toNat_xor, e1, e2, IntKind.wrap_u32]
  omega
theorem ret_u32 {a b : Int} (h : a = b) : Ending.returned (.int .u32 a) = .returned (.int .u32 b) := by rw [h]
theorem shn_one (n x : Nat) : Crc.shn (n + 1) x = Crc.sh (Crc.shn n x) := by rw [Crc.shn_add]; rfl
theorem turn_sub {x : Nat} (h : x < 4294967296) : ((Crc.turn x : Nat) : Int) = 4294967295 - (x : Int) := by
  have e : Crc.turn x + x = 4294967295 := by
    unfold Crc.turn
    have h1 : (BitVec.ofNat 32 x ^^^ BitVec.allOnes 32).toNat = x ^^^ 4294967295 := by
      rw [BitVec.toNat_xor, BitVec.toNat_ofNat, Nat.mod_eq_of_lt (by omega), BitVec.toNat_allOnes]
    rw [← h1, BitVec.xor_allOnes, BitVec.toNat_not, BitVec.toNat_ofNat, Nat.mod_eq_of_lt (by omega)]
    omega
  omega
set_option maxHeartbeats 800000 in
theorem ref5Sum (s : ByteArray) (w : World) (hs : s.size ≤ maxLen) : Calls Try.prog 40 #[.string s] w fun e w' => e = .returned (.int .u32 (Crc.check (strL s) : Nat)) ∧ w = w' := by
  unfold maxLen at hs
  go_enter Try.func40, Try.ntmps40
  go_wp2
  go_loop [3, 4] (fun c i => ∃ k : Nat, k ≤ s.size ∧ i = .int .i64 k ∧ c = .int .u32 ((Crc.run 4294967295 ((strL s).take k) : Nat) : Int)) (fun _ i => s.size - (intOf i).toNat)
  case atStart => exact ⟨0, Nat.zero_le _, rfl, rfl⟩
  case round =>
    obtain ⟨k, hk, rfl, rfl⟩ := hrel
    have hb : Crc.run 4294967295 ((strL s).take k) < 4294967296 := Crc.run_lt (by decide) fun b hb => strL_lt s b (List.mem_of_mem_take hb)
    by_cases hlt : k < s.size
    · have hby : s[k].toNat < 256 := s[k].toNat_lt
      have HS := Lib.hid (show Crc.run 4294967295 ((strL s).take (k + 1)) = Crc.byte (Crc.run 4294967295 ((strL s).take k)) s[k].toNat by rw [strL_take s k hlt, Crc.run_snoc])
      obtain ⟨c, hc⟩ : ∃ c, Crc.run 4294967295 ((strL s).take k) = c := ⟨_, rfl⟩
      rw [hc] at hb HS ⊢
      clear hc
      have hx := xor_u32 hb (show s[k].toNat < 4294967296 by omega)
      have hxb : c ^^^ s[k].toNat < 4294967296 := Nat.xor_lt_two_pow (n := 32) (by omega) (by omega)
      have HB := Lib.hid (show Crc.byte c s[k].toNat = Crc.shn 8 (c ^^^ s[k].toNat) from rfl)
      obtain ⟨x, hxe⟩ : ∃ x, c ^^^ s[k].toNat = x := ⟨_, rfl⟩
      rw [hxe] at hx hxb HB
      clear hxe
      go_wp2
      go_loop [3, 5] (fun c j => ∃ m : Nat, m ≤ 8 ∧ j = .int .i64 m ∧ c = .int .u32 ((Crc.shn m x : Nat) : Int)) (fun _ j => 8 - (intOf j).toNat)
      case atStart => exact ⟨0, by omega, rfl, rfl⟩
      case round =>
        obtain ⟨m, hm, rfl, rfl⟩ := hrel
        have hy := Crc.shn_lt m hxb
        have HN := Lib.hid (shn_one m x)
        by_cases hm8 : m < 8
        · obtain ⟨y, hye⟩ : ∃ y, Crc.shn m x = y := ⟨_, rfl⟩
          rw [hye] at hy HN ⊢
          clear hye hx
          rcases Nat.mod_two_eq_zero_or_one y with h0 | h1
          · have e0 : (y : Int) % 2 = 0 := by omega
            have HE := Lib.hid (show Crc.sh y = y / 2 by unfold Crc.sh; rw [if_neg (by omega), Nat.xor_zero])
            clear h0
            go_wp2
            go_round
            case rel => exact ⟨m + 1, by omega, by go_num, by rw [HN.out, HE.out]; go_num⟩
            case measure => simp [intOf]; omega
          · have e1 : (y : Int) % 2 = 1 := by omega
            have HE := Lib.hid (show Crc.sh y = (y / 2) ^^^ 3988292384 by unfold Crc.sh; rw [if_pos h1]; rfl)
            have hz := xor_u32 (x := y / 2) (y := 3988292384) (by omega) (by decide)
            rw [← HE.out] at hz
            have HZ : bits .xor .u32 ((y : Int) / 2) 3988292384 = ((Crc.sh y : Nat) : Int) := by rw [← hz]; congr 1
            clear h1 hz
            go_wp2
            go_round
            case rel => exact ⟨m + 1, by omega, by go_num, by rw [HN.out]⟩
            case measure => simp [intOf]; omega
        · obtain rfl : m = 8 := by omega
          go_wp2
          go_round
          case rel => exact ⟨k + 1, by omega, by go_num, by rw [HS.out, HB.out]⟩
          case measure => simp [intOf]; omega
    · go_wp2
      go_ret
      exact ⟨ret_u32 (by rw [List.take_of_length_le (by rw [strL_length]; omega)]; exact (turn_sub (by rw [List.take_of_length_le (by rw [strL_length]; omega)] at hb; exact hb)).symm), rfl⟩
end Go.Proofs.Ytacnoakbcilmfaa
