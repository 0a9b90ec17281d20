/- Contracts of layer 2's document functions: products by digits. -/
import Derived.Test.YtcelhpocegmpgaaC01a
import Derived.Test.YtcelhpocegmpgaaC01c
import Derived.Test.YtcelhpocegmpgaaC02c
import Derived.Test.YtcelhpocegmpgaaM03
import Derived.Test.YtcelhpocegmpgaaW02
import Derived.Deep.OwnRows
import Derived.RegionTactic
import Derived.ChangeAlike
namespace Go.Proofs.Ytcelhpocegmpgaa
open Go.RowKit
set_option maxRecDepth 100000

def zeros : Array Value := Array.replicate 128 (.int .i64 0)
theorem zero_arr (w : World) : Sem.run Try.prog (zeroValue 51) w = .ok (.agg zeros) w := by kernel_rfl
/-- The digits' block. -/
structure Digs (w wr : World) (L : Nat → Int) (cap v : Int) : Prop where
  row : wr.rowIs w.heap.size 51 128 (fun j => .int .i64 (L j))
  ok : Ok w wr
  bd : ∀ j, j < 128 → 0 ≤ L j ∧ L j ≤ cap
  val : Wide.val 128 L = v
theorem Digs.start (w : World) : Digs w (w.alloc (.cells zeros 51)) (fun _ => 0) 0 0 :=
  ⟨World.rowIs_alloc w zeros _ _ (fun i hi => by simp [zeros] at hi; simp [zeros, hi]), (Ok.refl w).alloc _, fun _ _ => ⟨Int.le_refl _, Int.le_refl _⟩, by decide⟩
theorem Digs.put {w wr : World} {L : Nat → Int} {cap v : Int} (h : Digs w wr L cap v) {a b i k : Nat} (hi : i < 62) (hk : k < 62) {e : Int} (he : e = ((a / 2 ^ i % 2 * (b / 2 ^ k % 2) : Nat) : Int)) (h0 : 0 ≤ e) (h1 : e ≤ 1)
    (hv : v = ((Wide.part a b i k : Nat) : Int)) : Digs w (wr.setCell ⟨w.heap.size, 127 - i - k, none⟩ (.int .i64 (L (127 - i - k) + e))) (Wide.upd L (127 - i - k) (L (127 - i - k) + e)) (cap + 1) ((Wide.part a b i (k + 1) : Nat) : Int) := by
  refine ⟨(h.row.set _ _).congr (fun j hj => ?_), h.ok.setCell (Nat.le_refl _) _, fun j hj => ?_, Wide.val_bit L a b i k hi hk e he (by rw [h.val, hv])⟩
  · unfold Wide.upd; split <;> rfl
  · have := h.bd j hj
    have := h.bd (127 - i - k) (by omega)
    unfold Wide.upd; split <;> omega
theorem bit01 (x i y k : Nat) : (((x / 2 ^ i % 2 : Nat) : Int) * ((y / 2 ^ k % 2 : Nat) : Int) = ((x / 2 ^ i % 2 * (y / 2 ^ k % 2) : Nat) : Int)) ∧ 0 ≤ ((x / 2 ^ i % 2 * (y / 2 ^ k % 2) : Nat) : Int) ∧ ((x / 2 ^ i % 2 * (y / 2 ^ k % 2) : Nat) : Int) ≤ 1 := by
  refine ⟨by rw [Int.natCast_mul], by omega, ?_⟩
  rcases Nat.mod_two_eq_zero_or_one (x / 2 ^ i) with h | h <;> rcases Nat.mod_two_eq_zero_or_one (y / 2 ^ k) with h' | h' <;> rw [h, h'] <;> decide
theorem and_bit (x k : Nat) (h : x < 9223372036854775808) : bits .and .i64 ((x : Int) / 2 ^ k) 1 = ((x / 2 ^ k % 2 : Nat) : Int) := by
  have e := and_one (x / 2 ^ k) (Nat.lt_of_le_of_lt (Nat.div_le_self _ _) h)
  rw [← e, Int.natCast_ediv]
  simp
structure Carr (w wr : World) (L : Nat → Int) (i : Nat) (v : Int) : Prop where
  row : wr.rowIs w.heap.size 51 128 (fun j => .int .i64 (L j))
  ok : Ok w wr
  nn : ∀ j, j < 128 → 0 ≤ L j
  lo : ∀ j, j < i → L j ≤ 3844
  mid : L i ≤ 7688
  hi : ∀ j, i < j → j < 128 → L j ≤ 1
  val : Wide.val 128 L = v
theorem Carr.carry {w wr : World} {M : Nat → Int} {n : Nat} {v : Int} (h : Carr w wr M (n + 1) v) (hn : n + 1 < 128) :
    Carr w ((wr.setCell ⟨w.heap.size, n, none⟩ (.int .i64 (M n + M (n + 1) / 2))).setCell ⟨w.heap.size, n + 1, none⟩ (.int .i64 (M (n + 1) % 2))).drew (Wide.upd (Wide.upd M n (M n + M (n + 1) / 2)) (n + 1) (M (n + 1) % 2)) n v := by
  have d1 := h.nn n (by omega)
  have d2 := h.nn (n + 1) (by omega)
  have d3 := h.lo n (by omega)
  have d4 := h.mid
  refine ⟨(((h.row.set _ _).set _ _).congr (fun j hj => ?_)).drew, ((h.ok.setCell (Nat.le_refl _) _).setCell (Nat.le_refl _) _).drew, fun j hj => ?_, fun j hj => ?_, ?_, fun j h1 h2 => ?_, ?_⟩
  · unfold Wide.upd; repeat' split
    all_goals rfl
  · have := h.nn j hj
    unfold Wide.upd; repeat' split
    all_goals omega
  · have := h.lo j (by omega)
    unfold Wide.upd; repeat' split
    all_goals omega
  · unfold Wide.upd; repeat' split
    all_goals omega
  · unfold Wide.upd
    by_cases e : j = n + 1
    · rw [if_pos e]; omega
    · rw [if_neg e, if_neg (by omega)]; exact h.hi j (by omega) h2
  · rw [← h.val]
    exact Wide.val_carry M (n + 1) (by omega) (by omega) d2
/-- What Digits answers: 128 bits, the highest first, of the product. -/
def DigitsPost (w : World) (a b : Nat) (e : Ending) (w' : World) : Prop :=
  ∃ (A : Option Addr) (l : List Int), e = .returned (.slice A l.length 128) ∧ l.length = 128 ∧ Wide.Bits l ∧ Wide.lval l = ((a * b : Nat) : Int) ∧ IntsAt w' A l ∧ Ok w w'
theorem Carr.post {w wr : World} {M : Nat → Int} {a b : Nat} (ha : (a : Int) ≤ 2305843009213693952) (hb : (b : Int) ≤ 2305843009213693952) (h : Carr w wr M 0 ((Wide.part a b 62 0 : Nat) : Int)) :
    DigitsPost w a b (.returned (.slice (some ⟨w.heap.size, 0, none⟩) 128 128)) wr := by
  have hv := h.val
  rw [Wide.part_all a b (by omega)] at hv
  have hf := Wide.val_first 127 M h.nn
  rw [hv] at hf
  have hp : a * b ≤ 2305843009213693952 * 2305843009213693952 := Nat.mul_le_mul (by omega) (by omega)
  have h0 := h.nn 0 (by omega)
  have hz : M 0 = 0 := by
    rcases Int.lt_or_le 0 (M 0) with g | g
    · exfalso
      have := Int.mul_le_mul_of_nonneg_right (show 1 ≤ M 0 by omega) (show (0 : Int) ≤ 2 ^ 127 by decide)
      omega
    · omega
  refine ⟨_, (List.range 128).map M, by simp, by simp, fun x hx => ?_, by rw [Wide.lval_range, hv], fun k hk => ⟨w.heap.size, 0, rfl, h.row.lt, ?_⟩, h.ok⟩
  · obtain ⟨j, hj, rfl⟩ := List.mem_map.1 hx
    rw [List.mem_range] at hj
    by_cases e : j = 0
    · subst e; exact .inl hz
    · have := h.nn j hj
      have := h.hi j (by omega) hj
      omega
  · have hk' : k < 128 := by simpa using hk
    rw [Nat.zero_add, h.row.cell hk']
    simp
set_option maxHeartbeats 2000000 in
theorem refDigits (a b : Nat) (ha : (a : Int) ≤ 2305843009213693952) (hb : (b : Int) ≤ 2305843009213693952) (w : World) :
    Calls Try.prog 48 #[.int .i64 a, .int .i64 b] w (DigitsPost w a b) := by
  have hz := zero_arr
  go_enter Try.func48, Try.ntmps48
  go_wp2
  clear hz
  go_loopw [6] (fun i wr => ∃ (n : Nat) (L : Nat → Int), n ≤ 62 ∧ i = .int .i64 n ∧ Digs w wr L (62 * n) ((Wide.part a b n 0 : Nat) : Int)) (fun i _ => (62 - intOf i).toNat)
  case atStart => exact ⟨0, _, by omega, rfl, by have := Digs.start w; rw [Wide.part_zero]; exact this⟩
  case round =>
    obtain ⟨n, L, hn, rfl, hD⟩ := hrel
    by_cases hlt : n < 62
    · go_wp2
      go_loopw [7] (fun k wx => ∃ (m : Nat) (M : Nat → Int), m ≤ 62 ∧ k = .int .i64 m ∧ Digs w wx M (62 * n + m) ((Wide.part a b n m : Nat) : Int)) (fun k _ => (62 - intOf k).toNat)
      case atStart => exact ⟨0, L, by omega, rfl, by simpa using hD⟩
      case round =>
        obtain ⟨m, M, hm, rfl, hE⟩ := hrel
        by_cases hlt2 : m < 62
        · have c1 := hE.row.cell (i := 127 - n - m) (by omega)
          have c2 := hE.row.frozen (127 - n - m)
          have c3 := hE.bd (127 - n - m) (by omega)
          have x1 := and_bit a n (by omega)
          have x2 := and_bit b m (by omega)
          obtain ⟨y1, y2, y3⟩ := bit01 a n b m
          obtain ⟨X, hX⟩ : ∃ X : Int, ((a / 2 ^ n % 2 : Nat) : Int) = X := ⟨_, rfl⟩
          obtain ⟨Y, hY⟩ : ∃ Y : Int, ((b / 2 ^ m % 2 : Nat) : Int) = Y := ⟨_, rfl⟩
          obtain ⟨e, he⟩ : ∃ e : Int, e = ((a / 2 ^ n % 2 * (b / 2 ^ m % 2) : Nat) : Int) := ⟨_, rfl⟩
          rw [hX] at x1 y1
          rw [hY] at x2 y1
          rw [← he] at y1 y2 y3
          have E := Lib.hid he
          clear hX hY he
          go_wp2
          go_roundw
          case rel => exact ⟨m + 1, _, by omega, by go_num, by have := hE.put hlt hlt2 E.out y2 y3 rfl; simpa [Int.add_assoc] using this⟩
          case measure => simp [intOf]; omega
        · go_wp2
          obtain rfl : m = 62 := by omega
          go_roundw
          case rel => exact ⟨n + 1, M, by omega, by go_num, by rw [← Wide.part_next a b n (by omega)]; simpa [Int.mul_add] using hE⟩
          case measure => simp [intOf]; omega
    · obtain rfl : n = 62 := by omega
      go_wp2
      go_loopw [8] (fun i wx => ∃ (n : Nat) (M : Nat → Int), n ≤ 127 ∧ i = .int .i64 n ∧ Carr w wx M n ((Wide.part a b 62 0 : Nat) : Int)) (fun i _ => (intOf i).toNat)
      case atStart => exact ⟨127, L, by omega, rfl, hD.row, hD.ok, fun j hj => (hD.bd j hj).1, fun j hj => by have := hD.bd j (by omega); omega, by have := hD.bd 127 (by omega); omega, fun j h1 h2 => by omega, hD.val⟩
      case round =>
        obtain ⟨n, M, hn, rfl, hE⟩ := hrel
        cases n with
        | zero =>
          go_wp2
          go_ret
          exact hE.post ha hb
        | succ n =>
          have c1 := hE.row.cell (i := n) (by omega)
          have c2 := hE.row.frozen n
          have c3 := hE.row.cell (i := n + 1) (by omega)
          have c4 := hE.row.frozen (n + 1)
          have d1 := hE.nn n (by omega)
          have d2 := hE.nn (n + 1) (by omega)
          have d3 := hE.lo n (by omega)
          have d4 := hE.mid
          rw [show ((n + 1 : Nat) : Int) = (n : Int) + 1 by omega]
          go_wp2
          go_region
          all_goals
            go_wp2
            go_roundw
            case rel => exact ⟨n, _, by omega, rfl, hE.carry (by omega)⟩
            case measure => simp [intOf]
theorem nat_mod_int (p c : Nat) : (p : Int) % (c : Int) = ((p % c : Nat) : Int) := rfl
set_option maxHeartbeats 1000000 in
theorem refRatio (a b : Nat) (c : Int) (ha : (a : Int) ≤ 2305843009213693952) (hb : (b : Int) ≤ 2305843009213693952) (hc : 1 ≤ c) (hc' : c ≤ 2305843009213693952) (w : World) :
    Calls Try.prog 42 #[.int .i64 a, .int .i64 b, .int .i64 c] w fun e w' => e = .returned (.tuple #[.int .i64 (Wide.fdiv ((a * b : Nat) : Int) c), .bool (decide (0 < ((a * b : Nat) : Int) % c))]) ∧ Ok w w' := by
  go_enter Try.func42, Try.ntmps42
  go_wp2_with fail
  refine (refDigits a b ha hb _).mono ?_
  rintro e w1 ⟨A, l, rfl, hlen, hbits, hval, hints, hok⟩
  have hlb : l.length ≤ 200 := by omega
  have VAL := Lib.hid hval
  have LEN := Lib.hid hlen
  have INTS := Lib.hid hints
  have BITS := Lib.hid hbits
  clear hval hlen hints hbits
  go_wp2_with fail
  go_loop [8, 9, 16] (fun n r i => ∃ k : Nat, k ≤ l.length ∧ i = .int .i64 k ∧ n = .int .i64 (Sat.clip (Wide.lval (l.take k) / c)) ∧ r = .int .i64 (Wide.lval (l.take k) % c)) (fun _ _ i => l.length - (intOf i).toNat)
  case atStart => exact ⟨0, Nat.zero_le _, rfl, by simp [Wide.lval_nil, Sat.clip], by simp [Wide.lval_nil]⟩
  case round =>
    obtain ⟨k, hk, rfl, rfl, rfl⟩ := hrel
    have p0 := Wide.lval_nonneg (Wide.bits_take BITS.out k)
    have m0 := Int.emod_nonneg (Wide.lval (l.take k)) (show c ≠ 0 by omega)
    have m1 := Int.emod_lt_of_pos (Wide.lval (l.take k)) (show 0 < c by omega)
    have q0 := Wide.clip_nonneg (Int.ediv_nonneg p0 (show 0 ≤ c by omega))
    have q1 := (Sat.clip_bd (Wide.lval (l.take k) / c)).2
    by_cases hlt : k < l.length
    · obtain ⟨bb, off, hA, hbb, hcell⟩ := INTS.out k hlt
      subst hA
      have hd := Wide.bits_get BITS.out hlt
      have hn := Lib.hid (Wide.lval_snoc (l.take k) l[k])
      obtain ⟨d, hdd⟩ : ∃ d, l[k] = d := ⟨_, rfl⟩
      rw [hdd] at hcell hd hn
      have HDD := Lib.hid hdd
      have s0 := Lib.hid (Wide.ratio_step0 (p := Wide.lval (l.take k)) (d := d) hc p0 hd)
      have s1 := Lib.hid (Wide.ratio_step1 (p := Wide.lval (l.take k)) (d := d) hc p0 hd)
      have hd0 : 0 ≤ d := by omega
      have hd1 : d ≤ 1 := by omega
      clear hd hdd
      obtain ⟨N, hN⟩ : ∃ N, Sat.clip (Wide.lval (l.take k) / c) = N := ⟨_, rfl⟩
      obtain ⟨R, hR⟩ : ∃ R, Wide.lval (l.take k) % c = R := ⟨_, rfl⟩
      rw [hN] at q0 q1 s0 s1 ⊢
      rw [hR] at m0 m1 s0 s1 ⊢
      clear hN hR p0
      have b2 := Sat.clip_bd (2 * N)
      by_cases hge : c ≤ 2 * R + d
      · obtain ⟨e1, e2⟩ := s1.out hge
        have E1 := Lib.hid e1
        have E2 := Lib.hid e2
        clear e1 e2
        go_wp2_with (go_at_call 40; refine (refClip _ _).mono ?_; rintro e w' ⟨rfl, rfl⟩)
        go_round
        case rel => exact ⟨k + 1, by omega, by go_num, by rw [take_more hlt, HDD.out, hn.out, E1.out], by rw [take_more hlt, HDD.out, hn.out, E2.out]⟩
        case measure => simp [intOf]; omega
      · obtain ⟨e1, e2⟩ := s0.out (by omega)
        have E1 := Lib.hid e1
        have E2 := Lib.hid e2
        clear e1 e2
        go_wp2_with (go_at_call 40; refine (refClip _ _).mono ?_; rintro e w' ⟨rfl, rfl⟩)
        go_round
        case rel => exact ⟨k + 1, by omega, by go_num, by rw [take_more hlt, HDD.out, hn.out, E1.out], by rw [take_more hlt, HDD.out, hn.out, E2.out]⟩
        case measure => simp [intOf]; omega
    · have hkk : l.take k = l := List.take_of_length_le (by omega)
      rw [hkk, VAL.out]
      clear hkk
      go_wp2_with fail
      go_ret2
      exact ⟨rfl, hok⟩
theorem cdiv_of (P : Nat) (k : Int) (hk : 1 ≤ k) : Wide.cdiv (P : Int) k = if 0 < (P : Int) % k then Sat.clip (Wide.fdiv (P : Int) k + 1) else Wide.fdiv (P : Int) k := by
  obtain ⟨c, rfl⟩ := Int.eq_ofNat_of_zero_le (show 0 ≤ k by omega)
  rw [Wide.cdiv_nat (by omega), Wide.fdiv_nat, nat_mod_int]
  have h0 : (0 : Int) ≤ ((P / c : Nat) : Int) := Int.natCast_nonneg _
  by_cases h : 0 < P % c
  · rw [if_pos h, if_pos (by omega), Sat.clip_more _ _ (by omega) (by omega)]
  · rw [if_neg h, if_neg (by omega)]
set_option maxHeartbeats 2000000 in
theorem refMulDiv (a b c : Int) (w : World) : Calls Try.prog 33 #[.int .i64 a, .int .i64 b, .int .i64 c] w fun e w' => e = .returned (.int .i64 (Wide.down a b c)) ∧ Ok w w' := by
  have ha := Sat.clip_bd a
  have hb := Sat.clip_bd b
  have hc := Wide.one_bd c
  obtain ⟨x, hx⟩ : ∃ x : Nat, (x : Int) = Sat.abs a := ⟨(Sat.abs a).toNat, by have := Sat.abs_bd a; omega⟩
  obtain ⟨y, hy⟩ : ∃ y : Nat, (y : Int) = Sat.abs b := ⟨(Sat.abs b).toNat, by have := Sat.abs_bd b; omega⟩
  have hxb : (x : Int) ≤ 2305843009213693952 := by have := Sat.abs_bd a; omega
  have hyb : (y : Int) ≤ 2305843009213693952 := by have := Sat.abs_bd b; omega
  have K1 := Lib.hid fun w => refRatio x y (Wide.one c) hxb hyb hc.1 hc.2 w
  have hok := Ok.refl w
  have hcd := cdiv_of (x * y) (Wide.one c) hc.1
  have bf := Wide.fdiv_bd ((x * y : Nat) : Int) (Wide.one c)
  obtain ⟨F, hF⟩ : ∃ F, Wide.fdiv ((x * y : Nat) : Int) (Wide.one c) = F := ⟨_, rfl⟩
  obtain ⟨M, hM⟩ : ∃ M, ((x * y : Nat) : Int) % (Wide.one c) = M := ⟨_, rfl⟩
  rw [hF] at hcd bf
  rw [hM] at hcd
  have K := Lib.hid K1.out
  rw [hF, hM] at K
  have bc := Sat.clip_bd (F + 1)
  have FF := Lib.hid hF
  have CC := Lib.hid hcd
  have x0 : (0 : Int) ≤ x := by omega
  have y0 : (0 : Int) ≤ y := by omega
  have four : (Sat.clip a = x ∧ Sat.clip b = y) ∨ (Sat.clip a = -(x : Int) ∧ (0 : Int) < x ∧ Sat.clip b = y) ∨ (Sat.clip a = -(x : Int) ∧ Sat.clip b = -(y : Int) ∧ (0 : Int) < y) ∨ (Sat.clip a = x ∧ (0 : Int) < x ∧ Sat.clip b = -(y : Int) ∧ (0 : Int) < y) := by
    unfold Sat.abs at hx hy
    split at hx <;> split at hy <;> omega
  clear hF hM hcd K1 ha hb hx hy
  rcases four with ⟨ea, eb⟩ | ⟨ea, g1, eb⟩ | ⟨ea, eb, g2⟩ | ⟨ea, g1, eb, g2⟩
  · have hd : Wide.down a b c = F := by unfold Wide.down; rw [ea, eb, ← Int.natCast_mul]; exact FF.out
    rw [hd]; clear hd
    go_enter Try.func33, Try.ntmps33
    go_wp2_with (first | (go_at_call 40; refine (refClip _ _).mono ?_; rintro e w' ⟨rfl, rfl⟩) | (go_at_call 43; refine (refOne _ _).mono ?_; rintro e w' ⟨rfl, rfl⟩) | (go_at_call 42; refine (K.out _).mono ?_; rintro e w1 ⟨rfl, hb1⟩; replace hok := hok.trans hb1; clear hb1))
    go_ret
    exact ⟨rfl, hok⟩
  · by_cases g : 0 < M
    · have hd : Wide.down a b c = -Sat.clip (F + 1) := by unfold Wide.down; rw [ea, eb, Int.neg_mul, ← Int.natCast_mul, Wide.fdiv_neg, CC.out, if_pos g]
      rw [hd]; clear hd
      go_enter Try.func33, Try.ntmps33
      go_wp2_with (first | (go_at_call 40; refine (refClip _ _).mono ?_; rintro e w' ⟨rfl, rfl⟩) | (go_at_call 43; refine (refOne _ _).mono ?_; rintro e w' ⟨rfl, rfl⟩) | (go_at_call 42; refine (K.out _).mono ?_; rintro e w1 ⟨rfl, hb1⟩; replace hok := hok.trans hb1; clear hb1))
      go_ret
      exact ⟨rfl, hok⟩
    · have hd : Wide.down a b c = -F := by unfold Wide.down; rw [ea, eb, Int.neg_mul, ← Int.natCast_mul, Wide.fdiv_neg, CC.out, if_neg g]
      rw [hd]; clear hd
      have g' : decide (0 < M) = false := by simpa using g
      clear g
      go_enter Try.func33, Try.ntmps33
      go_wp2_with (first | (go_at_call 40; refine (refClip _ _).mono ?_; rintro e w' ⟨rfl, rfl⟩) | (go_at_call 43; refine (refOne _ _).mono ?_; rintro e w' ⟨rfl, rfl⟩) | (go_at_call 42; refine (K.out _).mono ?_; rintro e w1 ⟨rfl, hb1⟩; replace hok := hok.trans hb1; clear hb1))
      go_ret
      exact ⟨rfl, hok⟩
  · have hd : Wide.down a b c = F := by unfold Wide.down; rw [ea, eb, Int.neg_mul_neg, ← Int.natCast_mul]; exact FF.out
    rw [hd]; clear hd
    go_enter Try.func33, Try.ntmps33
    go_wp2_with (first | (go_at_call 40; refine (refClip _ _).mono ?_; rintro e w' ⟨rfl, rfl⟩) | (go_at_call 43; refine (refOne _ _).mono ?_; rintro e w' ⟨rfl, rfl⟩) | (go_at_call 42; refine (K.out _).mono ?_; rintro e w1 ⟨rfl, hb1⟩; replace hok := hok.trans hb1; clear hb1))
    go_ret
    exact ⟨rfl, hok⟩
  · by_cases g : 0 < M
    · have hd : Wide.down a b c = -Sat.clip (F + 1) := by unfold Wide.down; rw [ea, eb, Int.mul_neg, ← Int.natCast_mul, Wide.fdiv_neg, CC.out, if_pos g]
      rw [hd]; clear hd
      go_enter Try.func33, Try.ntmps33
      go_wp2_with (first | (go_at_call 40; refine (refClip _ _).mono ?_; rintro e w' ⟨rfl, rfl⟩) | (go_at_call 43; refine (refOne _ _).mono ?_; rintro e w' ⟨rfl, rfl⟩) | (go_at_call 42; refine (K.out _).mono ?_; rintro e w1 ⟨rfl, hb1⟩; replace hok := hok.trans hb1; clear hb1))
      go_ret
      exact ⟨rfl, hok⟩
    · have hd : Wide.down a b c = -F := by unfold Wide.down; rw [ea, eb, Int.mul_neg, ← Int.natCast_mul, Wide.fdiv_neg, CC.out, if_neg g]
      rw [hd]; clear hd
      have g' : decide (0 < M) = false := by simpa using g
      clear g
      go_enter Try.func33, Try.ntmps33
      go_wp2_with (first | (go_at_call 40; refine (refClip _ _).mono ?_; rintro e w' ⟨rfl, rfl⟩) | (go_at_call 43; refine (refOne _ _).mono ?_; rintro e w' ⟨rfl, rfl⟩) | (go_at_call 42; refine (K.out _).mono ?_; rintro e w1 ⟨rfl, hb1⟩; replace hok := hok.trans hb1; clear hb1))
      go_ret
      exact ⟨rfl, hok⟩
end Go.Proofs.Ytcelhpocegmpgaa
