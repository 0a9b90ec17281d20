/- Contracts of layer 6: the document's eight bytes of a number, and back. -/
import Derived.Test.YtacnoakbcilmfaaC06b
import Derived.Test.YtacnoakbcilmfaaC05b
import Derived.Test.YtacnoakbcilmfaaW09
namespace Go.Proofs.Ytacnoakbcilmfaa
open Go.RowKit
set_option maxRecDepth 100000
theorem bytes_cons (n : Nat) (x : Int) : Wire.bytesBE (n + 1) x = (x / 256 ^ n % 256).toNat :: Wire.bytesBE n x := by
  induction n generalizing x with
  | zero => simp [Wire.bytesBE]
  | succ n ih =>
    rw [Wire.bytesBE, ih, Wire.bytesBE, List.cons_append]
    congr 2
    rw [Int.ediv_ediv_of_nonneg (by decide), Int.pow_succ, Int.mul_comm 256]
/-- The last n bytes are there. -/
def lastN (x : Int) (n : Nat) : List Nat := List.replicate (8 - n) 0 ++ Wire.bytesBE n x
theorem lastN_set (x : Int) (n : Nat) (h : n < 8) : (lastN x n).set (7 - n) (x / 256 ^ n % 256).toNat = lastN x (n + 1) := by
  unfold lastN
  rw [bytes_cons, show 8 - n = (7 - n) + 1 by omega, show 8 - (n + 1) = 7 - n by omega, List.replicate_succ', List.append_assoc]
  rw [List.set_append_right _ _ (by simp), List.length_replicate, Nat.sub_self]
  rfl
theorem lastN_length (x : Int) (n : Nat) (h : n ≤ 8) : (lastN x n).length = 8 := by simp [lastN, Wire.bytesBE_length]; omega
theorem zero8 (w : World) : Sem.run Try.prog (zeroValue 78) w = .ok (.agg (u8s (lastN 0 0)).toArray) w := by kernel_rfl
theorem shift8 (x : Int) (k : Nat) : x / 2 ^ (8 * k) % 256 = (((x / 256 ^ k % 256).toNat : Nat) : Int) := by
  rw [Int.toNat_of_nonneg (Int.emod_nonneg _ (by decide)), Int.pow_mul]
  rfl
set_option maxHeartbeats 1600000 in
theorem ref6eight (x : Int) (w : World) (_ : -9223372036854775808 ≤ x) (_ : x ≤ 9223372036854775807) : Calls Try.prog 30 #[.int .i64 x] w fun e w' => e = .returned (.string (strOf (Wire.eight x))) ∧ Ok w w' := by
  have hz := zero8
  have hzz : lastN 0 0 = lastN x 0 := rfl
  rw [hzz] at hz
  clear hzz
  go_enter Try.func30, Try.ntmps30
  go_wp2_with fail
  go_loopw [4] (fun i wx => ∃ k : Nat, k ≤ 8 ∧ i = .int .i64 k ∧ Own wx w.heap.size (u8s (lastN x k)).toArray ∧ Ok w wx) (fun i _ => 8 - (intOf i).toNat)
  case atStart => exact ⟨0, by omega, rfl, Own.new _ _ _ rfl, (Ok.refl w).alloc _⟩
  case round =>
    clear hz
    obtain ⟨k, hk, rfl, hO, hok⟩ := hrel
    by_cases hlt : k < 8
    · have hll := lastN_length x k hk
      have cX := hO.cell (7 - k) (by rw [List.getElem?_toArray]; exact u8s_at _ (7 - k) (by omega))
      have fX := hO.frozen (7 - k)
      obtain ⟨y, hy⟩ : ∃ y, (lastN x k)[7 - k]'(by omega) = y := ⟨_, rfl⟩
      rw [hy] at cX
      have HSet := Lib.hid fun v => hO.setByte (7 - k) v
      have HE := Lib.hid (lastN_set x k hlt)
      have i1 : IntKind.i64.wrap (7 - (k : Int)) = 7 - (k : Int) := IntWalk.i64_in _ ⟨by omega, by omega⟩
      have i2 : (0 : Int) ≤ 7 - (k : Int) := by omega
      have i3 : (7 - (k : Int)).toNat = 7 - k := by omega
      have i4 : 7 - (k : Int) < 8 := by omega
      clear hy hO hll
      go_wp2
      go_roundw
      case rel => exact ⟨k + 1, by omega, by go_num, by rw [← HE.out, shift8]; exact HSet.out _, hok.setCell (Nat.le_refl _) _⟩
      case measure => simp [intOf]; omega
    · obtain rfl : k = 8 := by omega
      have e8 : lastN x 8 = Wire.eight x := rfl
      rw [e8] at hO
      have hcv := run_bytes_string (P := Try.prog) (src := 41) (dst := 9) Try.underlying41 Try.underlying5 Try.underlying9 hO.bytes (Wire.eight_lt x) (n := 8) rfl 8
      clear hO e8
      go_wp2
      go_ret
      exact ⟨rfl, hok⟩
theorem or_byte {n b : Nat} (hn : n < 72057594037927936) (hb : b < 256) : bits .or .i64 (wrap64 ((n : Int) * 256)) (b : Int) = IntKind.i64.wrap ((n : Int) * 256 + b) := by
  have e1 : (BitVec.ofInt 64 (wrap64 ((n : Int) * 256))).toNat = 2 ^ 8 * n := by
    rw [BitVec.toNat_ofInt]
    unfold wrap64
    omega
  have e2 : (BitVec.ofInt 64 (b : Int)).toNat = b := by rw [BitVec.ofInt_natCast, BitVec.toNat_ofNat]; exact Nat.mod_eq_of_lt (by omega)
  show IntKind.i64.wrap ((BitVec.ofInt 64 (wrap64 ((n : Int) * 256)) ||| BitVec.ofInt 64 (b : Int)).toNat : Int) = _
  rw [BitVec.toNat_or, e1, e2, ← Nat.two_pow_add_eq_or_of_lt (by omega)]
  congr 1
  omega
/-- The number that is read behind j of eight bytes. -/
def numTo (q : List Nat) (j : Nat) : Int := IntKind.i64.wrap ((Wire.big (q.take j) : Nat) : Int)
set_option maxHeartbeats 1600000 in
theorem ref6number (s : ByteArray) (k : Nat) (w : World) (hk : 4 + 8 * k + 8 ≤ s.size) (hs : s.size ≤ 4611686018427387904) : Calls Try.prog 37 #[.string s, .int .i64 k] w fun e w' => e = .returned (.int .i64 (Wire.rest8 (strL s) k)) ∧ w = w' := by
  obtain ⟨q, hq⟩ : ∃ q, ((strL s).drop (4 + 8 * k)).take 8 = q := ⟨_, rfl⟩
  have hqa : ∀ j (hj : j < 8), q[j]? = some (s[4 + 8 * k + j]'(by omega)).toNat := fun j hj => by
    rw [← hq, List.getElem?_take, if_pos hj, List.getElem?_drop]
    simp [strL, show 4 + 8 * k + j < s.size by omega]
    rfl
  have hqb : ∀ x ∈ q, x < 256 := fun x hx => by rw [← hq] at hx; exact strL_lt s x (List.mem_of_mem_drop (List.mem_of_mem_take hx))
  go_enter Try.func37, Try.ntmps37
  go_wp2
  go_loop [5, 6] (fun n i => ∃ j : Nat, j ≤ 8 ∧ i = .int .i64 j ∧ n = .int .i64 (numTo q j)) (fun _ i => 8 - (intOf i).toNat)
  case atStart => exact ⟨0, by omega, rfl, rfl⟩
  case round =>
    obtain ⟨j, hj, rfl, rfl⟩ := hrel
    by_cases hlt : j < 8
    · have hb := hqa j hlt
      have hby : (s[4 + 8 * k + j]'(by omega)).toNat < 256 := (s[4 + 8 * k + j]'(by omega)).toNat_lt
      have hl : (q.take j).length ≤ 7 := by rw [List.length_take]; omega
      have hlt8 := Wire.big_lt (q.take j) (fun x hx => hqb x (List.mem_of_mem_take hx))
      have hpow : 256 ^ (q.take j).length ≤ 256 ^ 7 := Nat.pow_le_pow_right (by decide) hl
      have hn : Wire.big (q.take j) < 72057594037927936 := by
        have : (256 : Nat) ^ 7 = 72057594037927936 := by decide
        omega
      have e1 : numTo q j = (Wire.big (q.take j) : Int) := IntWalk.i64_in _ ⟨by omega, by omega⟩
      have HN := Lib.hid (show numTo q (j + 1) = IntKind.i64.wrap (((Wire.big (q.take j) : Nat) : Int) * 256 + ((s[4 + 8 * k + j]'(by omega)).toNat : Int)) by
        unfold numTo
        rw [List.take_add_one, hb, Option.toList_some, Wire.big_snoc]
        congr 1)
      have HO := Lib.hid (or_byte hn hby)
      rw [e1]
      clear e1 hpow hlt8 hl hb hn hqa hqb hq
      go_wp2
      go_round
      case rel => exact ⟨j + 1, by omega, by go_num, by rw [HN.out, HO.out]⟩
      case measure => simp [intOf]; omega
    · obtain rfl : j = 8 := by omega
      have e : numTo q 8 = Wire.rest8 (strL s) k := by
        have hlt8 := Wire.big_lt q hqb
        have hle : q.length ≤ 8 := by rw [← hq, List.length_take]; omega
        have hpow : 256 ^ q.length ≤ 256 ^ 8 := Nat.pow_le_pow_right (by decide) hle
        have e8 : (256 : Nat) ^ 8 = 18446744073709551616 := by decide
        unfold Wire.rest8 Wire.at8 numTo Wire.num
        rw [List.drop_drop, hq, List.take_of_length_le hle, IntKind.wrap_i64]
        split <;> omega
      clear hqa hqb hq
      go_wp2
      go_ret
      exact ⟨rfl, rfl⟩
end Go.Proofs.Ytacnoakbcilmfaa
