/- Layer 5: sealed bytes of which the first i of 32 bits are turned. -/
import Derived.Test.YtacnoakbcilmfaaC05h
namespace Go.Proofs.Ytacnoakbcilmfaa
open Go.RowKit
/-- Sealed bytes, of which the first i of 32 bits from at_ on are turned where bits has them set. -/
def flipL (l : List Nat) (at_ bits i : Nat) : List Nat := List.zipWith (· ^^^ ·) (sealL l) (Crc.bytesOf (l.length + 4) (2 ^ at_ * (bits % 2 ^ i)))
theorem flipL_length (l : List Nat) (at_ bits i : Nat) : (flipL l at_ bits i).length = l.length + 4 := by simp [flipL, sealL_length, Crc.bytesOf_length]
theorem flipL_at (l : List Nat) (at_ bits i k : Nat) (hk : k < l.length + 4) : (flipL l at_ bits i)[k]'(by rw [flipL_length]; exact hk) = (sealL l)[k]'(by rw [sealL_length]; exact hk) ^^^ (2 ^ at_ * (bits % 2 ^ i) / 256 ^ k % 256) := by
  simp only [flipL, List.getElem_zipWith]
  rw [Crc.bytesOf_at _ _ k hk]
theorem flipL_zero (l : List Nat) (at_ bits : Nat) : flipL l at_ bits 0 = sealL l := by
  apply List.ext_getElem (by rw [flipL_length, sealL_length])
  intro k h1 h2
  rw [flipL_at _ _ _ _ _ (by rw [flipL_length] at h1; exact h1)]
  simp [Nat.mod_one]
theorem flipL_same (l : List Nat) (at_ bits i : Nat) (h : bits.testBit i = false) : flipL l at_ bits (i + 1) = flipL l at_ bits i := by
  apply List.ext_getElem (by rw [flipL_length, flipL_length])
  intro k h1 h2
  rw [flipL_length] at h1
  rw [flipL_at _ _ _ _ _ h1, flipL_at _ _ _ _ _ h1, Crc.flip_step, h]
  simp
theorem flipL_turn (l : List Nat) (at_ bits i : Nat) (h : bits.testBit i = true) (hj : (at_ + i) / 8 < l.length + 4) : flipL l at_ bits (i + 1) = (flipL l at_ bits i).set ((at_ + i) / 8) ((flipL l at_ bits i)[(at_ + i) / 8]'(by rw [flipL_length]; exact hj) ^^^ 2 ^ ((at_ + i) % 8)) := by
  apply List.ext_getElem (by simp [flipL_length])
  intro k h1 h2
  rw [flipL_length] at h1
  rw [flipL_at _ _ _ _ _ h1, Crc.flip_step, List.getElem_set]
  by_cases e : (at_ + i) / 8 = k
  · subst e
    rw [if_pos rfl, if_pos ⟨rfl, h⟩, flipL_at _ _ _ _ _ hj, Nat.xor_assoc]
  · rw [if_neg e, if_neg (fun g => e g.1.symm), flipL_at _ _ _ _ _ h1, Nat.xor_zero]
theorem flipL_lt (l : List Nat) (hl : ∀ b ∈ l, b < 256) (at_ bits i : Nat) : ∀ b ∈ flipL l at_ bits i, b < 256 := by
  intro b hb
  obtain ⟨k, hk, rfl⟩ := List.mem_iff_getElem.1 hb
  rw [flipL_length] at hk
  rw [flipL_at _ _ _ _ _ hk]
  exact Nat.xor_lt_two_pow (n := 8) (sealL_lt hl _ (List.getElem_mem _)) (by omega)
theorem flipL_told (l : List Nat) (hl : ∀ b ∈ l, b < 256) (at_ bits : Nat) (hb : 0 < bits) (hb' : bits < 4294967296) (hat : at_ + 32 ≤ 8 * (l.length + 4)) : isSealed (flipL l at_ bits 32) = false := by
  have h := Crc.sealed_told l hl bits at_ hb hb' hat
  have e : flipL l at_ bits 32 = List.zipWith (· ^^^ ·) (l ++ Crc.bytesOf 4 (Crc.check l)) (Crc.bytesOf (l.length + 4) (2 ^ at_ * bits)) := by
    unfold flipL sealL
    rw [Nat.mod_eq_of_lt (by omega : bits < 2 ^ 32)]
  rw [← e] at h
  have hlen := flipL_length l at_ bits 32
  generalize flipL l at_ bits 32 = t at h hlen
  rw [← List.take_append_drop l.length t, isSealed_iff (by simp; omega)]
  exact decide_eq_false h
theorem xor_u8 {x y : Nat} (hx : x < 256) (hy : y < 256) : bits .xor .u8 (x : Int) (y : Int) = ((x ^^^ y : Nat) : Int) := by
  have hz : x ^^^ y < 2 ^ 8 := Nat.xor_lt_two_pow (n := 8) (by omega) (by omega)
  have e1 : (BitVec.ofInt 8 (x : Int)).toNat = x := by rw [BitVec.ofInt_natCast, BitVec.toNat_ofNat]; exact Nat.mod_eq_of_lt (by omega)
  have e2 : (BitVec.ofInt 8 (y : Int)).toNat = y := by rw [BitVec.ofInt_natCast, BitVec.toNat_ofNat]; exact Nat.mod_eq_of_lt (by omega)
  show IntKind.u8.wrap ((BitVec.ofInt 8 (x : Int) ^^^ BitVec.ofInt 8 (y : Int)).toNat : Int) = _
  rw [BitVec.toNat_xor, e1, e2, IntKind.wrap_u8]
  omega
theorem bit_test {B i : Nat} (hB : B < 4294967296) : bits .and .u32 ((B : Int) / 2 ^ i) 1 = ((if B.testBit i then 1 else 0 : Nat) : Int) := by
  have e := and_u32 (x := B / 2 ^ i) (Nat.lt_of_le_of_lt (Nat.div_le_self _ _) hB)
  rw [Int.natCast_ediv] at e
  simp only [Int.natCast_pow, Int.cast_ofNat_Int] at e
  rw [e, Nat.testBit_eq_decide_div_mod_eq]
  rcases Nat.mod_two_eq_zero_or_one (B / 2 ^ i) with h | h <;> simp [h]
end Go.Proofs.Ytacnoakbcilmfaa
