/- Plain mathematics of layer 2: quotients of products, and long division in base 2^32. It names no program. -/
import Derived.Test.YtgfnfjkajahoaaaM01
namespace Go.Proofs.Ytgfnfjkajahoaaa
namespace Wide

/-- A trial digit t, with what it leaves: not below the quotient, and at most one more than the base. -/
structure Dig (n1 n0 u d t r : Nat) : Prop where
  sum : t * n1 + r = u
  ge : (u * 4294967296 + d) / (n1 * 4294967296 + n0) ≤ t
  left : r < 4294967296
  le : t ≤ 4294967297

theorem digit_lt {y u d : Nat} (hu : u < y) (hd : d < 4294967296) : (u * 4294967296 + d) / y < 4294967296 := by
  rw [Nat.div_lt_iff_lt_mul (by omega)]
  have : (u + 1) * 4294967296 ≤ y * 4294967296 := Nat.mul_le_mul_right _ hu
  rw [Nat.mul_comm 4294967296 y]; omega
theorem dig_start {n1 n0 u d : Nat} (h1 : 2147483648 ≤ n1) (h2 : n1 < 4294967296) (h0 : n0 < 4294967296) (hd : d < 4294967296) (hu : u < n1 * 4294967296 + n0) : Dig n1 n0 u d (u / n1) (u % n1) := by
  have hm := Nat.div_add_mod u n1
  have hr := Nat.mod_lt u (show 0 < n1 by omega)
  refine ⟨by rw [Nat.mul_comm]; exact hm, ?_, by omega, ?_⟩
  · have e : (u * 4294967296 + d) / (n1 * 4294967296) = u / n1 := by
      rw [Nat.mul_comm n1, ← Nat.div_div_eq_div_mul]
      congr 1; omega
    rw [← e]
    rw [Nat.div_le_iff_le_mul_add_pred (by omega)]
    have h := Nat.div_add_mod (u * 4294967296 + d) (n1 * 4294967296)
    have hl := Nat.mod_lt (u * 4294967296 + d) (show 0 < n1 * 4294967296 by omega)
    generalize (u * 4294967296 + d) / (n1 * 4294967296) = t at *
    rw [Nat.add_mul]
    have : 0 ≤ n0 * t := Nat.zero_le _
    omega
  · rw [Nat.div_le_iff_le_mul_add_pred (by omega)]
    have : n1 * 4294967296 + n0 ≤ n1 * 4294967297 + n1 := by omega
    omega
theorem dig_next {n1 n0 u d t r : Nat} (hy : u < n1 * 4294967296 + n0) (hd : d < 4294967296) (_h2 : n1 < 4294967296) (h : Dig n1 n0 u d t r) (hc : 4294967296 ≤ t ∨ 4294967296 * r + d < t * n0) : 1 ≤ t ∧ (t - 1) * n1 + (r + n1) = u ∧ (u * 4294967296 + d) / (n1 * 4294967296 + n0) ≤ t - 1 ∧ t - 1 ≤ 4294967296 := by
  obtain ⟨hs, hg, hl, hle⟩ := h
  have hq := digit_lt hy hd
  have hlt : (u * 4294967296 + d) / (n1 * 4294967296 + n0) < t := by
    rcases hc with hc | hc
    · omega
    · rw [Nat.div_lt_iff_lt_mul (by omega)]
      rw [Nat.mul_add, ← Nat.mul_assoc]
      generalize t * n1 = a at *
      omega
  have ht : 1 ≤ t := Nat.lt_of_le_of_lt (Nat.zero_le _) hlt
  refine ⟨ht, ?_, Nat.le_sub_one_of_lt hlt, by omega⟩
  have : t * n1 = (t - 1) * n1 + n1 := by
    obtain ⟨k, rfl⟩ := Nat.exists_eq_add_of_le' ht
    rw [Nat.add_sub_cancel, Nat.add_mul, Nat.one_mul]
  omega
theorem dig_stop {n1 n0 u d t r : Nat} (h1 : 0 < n1) (h : Dig n1 n0 u d t r) (hc : t * n0 ≤ 4294967296 * r + d) : t = (u * 4294967296 + d) / (n1 * 4294967296 + n0) := by
  obtain ⟨hs, hg, hl, hle⟩ := h
  refine Nat.le_antisymm ?_ hg
  rw [Nat.le_div_iff_mul_le (by omega), Nat.mul_add, ← Nat.mul_assoc]
  generalize t * n1 = a at *
  omega
theorem dig_break {n1 n0 u d t r : Nat} (h1 : 0 < n1) (h0 : n0 < 4294967296) (hs : t * n1 + r = u) (hg : (u * 4294967296 + d) / (n1 * 4294967296 + n0) ≤ t) (hr : 4294967296 ≤ r) (hle : t ≤ 4294967296) : t = (u * 4294967296 + d) / (n1 * 4294967296 + n0) := by
  refine Nat.le_antisymm ?_ hg
  rw [Nat.le_div_iff_mul_le (by omega), Nat.mul_add, ← Nat.mul_assoc]
  have : t * n0 ≤ 4294967296 * n0 := Nat.mul_le_mul_right _ hle
  generalize t * n1 = a at *
  generalize t * n0 = b at *
  omega

/-- What a digit leaves, reckoned in a word. -/
theorem wrap_parts (a d p M : Int) : ((a % M + d) % M - p % M) % M = (a + d - p) % M := by rw [Int.emod_add_emod, ← Int.sub_emod]
theorem left_int {u d y q : Nat} (hq : q = (u * 4294967296 + d) / y) : (u : Int) * 4294967296 + d - (q : Int) * y = (((u * 4294967296 + d) % y : Nat) : Int) := by
  have h := Nat.div_add_mod (u * 4294967296 + d) y
  rw [← hq, Nat.mul_comm] at h
  rw [← Int.natCast_mul]
  revert h
  generalize (u * 4294967296 + d) % y = m
  generalize q * y = p
  intro h
  omega
theorem left_word {u d y q : Nat} (hy : y ≤ 18446744073709551616) (hy0 : 0 < y) (hq : q = (u * 4294967296 + d) / y) :
    (((u : Int) * 4294967296 % 18446744073709551616 + d) % 18446744073709551616 - (q : Int) * y % 18446744073709551616) % 18446744073709551616 = ((u * 4294967296 + d) % y : Nat) := by
  rw [wrap_parts, left_int hq]
  have hl := Nat.mod_lt (u * 4294967296 + d) hy0
  exact Int.emod_eq_of_lt (by omega) (by omega)

/-- Two digits: the quotient and what is left, of numbers that were moved s to the left. -/
theorem two_digits {N y s u d1 d0 q1 q0 r1 r0 : Nat} (hs : N * 2 ^ s = (u * 4294967296 + d1) * 4294967296 + d0) (hy : 0 < y)
    (h1 : u * 4294967296 + d1 = q1 * (y * 2 ^ s) + r1) (h0 : r1 * 4294967296 + d0 = q0 * (y * 2 ^ s) + r0) (hr : r0 < y * 2 ^ s) :
    q1 * 4294967296 + q0 = N / y ∧ r0 / 2 ^ s = N % y := by
  have hp : 0 < 2 ^ s := Nat.two_pow_pos s
  have e : N * 2 ^ s = (q1 * 4294967296 + q0) * y * 2 ^ s + r0 := by
    rw [Nat.mul_assoc, Nat.add_mul]
    obtain ⟨z, hz⟩ : ∃ z, y * 2 ^ s = z := ⟨_, rfl⟩
    obtain ⟨m, hm⟩ : ∃ m, N * 2 ^ s = m := ⟨_, rfl⟩
    rw [hz] at h1 h0 ⊢
    rw [hm] at hs ⊢
    clear hz hm
    have e1 : q1 * z * 4294967296 = q1 * 4294967296 * z := Nat.mul_right_comm _ _ _
    omega
  obtain ⟨q, hq⟩ : ∃ q, q1 * 4294967296 + q0 = q := ⟨_, rfl⟩
  rw [hq] at e ⊢
  clear hq hs h1 h0
  have hle : q * y ≤ N := by
    refine Nat.le_of_mul_le_mul_right (c := 2 ^ s) ?_ hp
    omega
  have e2 : r0 = (N - q * y) * 2 ^ s := by rw [Nat.sub_mul]; omega
  have hlt : N - q * y < y := by
    refine Nat.lt_of_mul_lt_mul_right (a := 2 ^ s) ?_
    omega
  have hd : N / y = q := by
    have h := Nat.div_add_mod N y
    have h' := Nat.mod_lt N hy
    rw [Nat.div_eq_iff hy]
    rw [Nat.mul_comm q y] at *
    omega
  constructor
  · exact hd.symm
  · rw [e2, Nat.mul_div_cancel _ hp]
    have := Nat.div_add_mod N y
    rw [hd, Nat.mul_comm] at this
    omega

/-- A divisor: clipped, not below 1. -/
def one (c : Int) : Int := if Sat.clip c < 1 then 1 else Sat.clip c
theorem one_bd (c : Int) : 1 ≤ one c ∧ one c ≤ 2305843009213693952 := by
  have := Sat.clip_bd c; unfold one; split <;> omega
theorem most_one (c : Int) : Sat.most [c, 1] = one c := by
  have := Sat.clip_bd c
  have h1 : Sat.clip 1 = 1 := by decide
  unfold Sat.most one
  simp only [List.foldl_cons, List.foldl_nil, h1]
  repeat' split
  all_goals omega
/-- A ratio down, and up, clipped. -/
def fdiv (p c : Int) : Int := Sat.clip (p / c)
def cdiv (p c : Int) : Int := Sat.clip (-(-p / c))
def down (a b c : Int) : Int := fdiv (Sat.clip a * Sat.clip b) (one c)
def up (a b c : Int) : Int := cdiv (Sat.clip a * Sat.clip b) (one c)
theorem fdiv_bd (p c : Int) : -2305843009213693952 ≤ fdiv p c ∧ fdiv p c ≤ 2305843009213693952 := Sat.clip_bd _
theorem cdiv_bd (p c : Int) : -2305843009213693952 ≤ cdiv p c ∧ cdiv p c ≤ 2305843009213693952 := Sat.clip_bd _
theorem down_bd (a b c : Int) : -2305843009213693952 ≤ down a b c ∧ down a b c ≤ 2305843009213693952 := Sat.clip_bd _
theorem up_bd (a b c : Int) : -2305843009213693952 ≤ up a b c ∧ up a b c ≤ 2305843009213693952 := Sat.clip_bd _
theorem fdiv_neg (p c : Int) : fdiv (-p) c = -cdiv p c := by unfold fdiv cdiv; rw [Sat.clip_neg, Int.neg_neg]
theorem cdiv_neg (p c : Int) : cdiv (-p) c = -fdiv p c := by unfold fdiv cdiv; rw [Int.neg_neg, Sat.clip_neg]
/-- A ratio of natural numbers, down and up. -/
theorem fdiv_nat (p c : Nat) : fdiv (p : Int) (c : Int) = Sat.clip ((p / c : Nat) : Int) := by unfold fdiv; rw [Int.natCast_ediv]
theorem cdiv_nat {p c : Nat} (hc : 0 < c) : cdiv (p : Int) (c : Int) = if 0 < p % c then Sat.clip (((p / c : Nat) : Int) + 1) else Sat.clip ((p / c : Nat) : Int) := by
  have h := Nat.div_add_mod p c
  have hl := Nat.mod_lt p hc
  have h' : (c : Int) * ((p / c : Nat) : Int) + ((p % c : Nat) : Int) = p := by rw [← Int.natCast_mul, ← Int.natCast_add, h]
  have key : ∀ (q : Int) (r : Int), r + (c : Int) * q = -(p : Int) → 0 ≤ r → r < c → -(p : Int) / c = q := fun q r h1 h2 h3 => ((Int.ediv_emod_unique (by omega)).2 ⟨h1, h2, h3⟩).1
  unfold cdiv
  split
  · rename_i g
    rw [key (-((p / c : Nat) : Int) - 1) ((c : Int) - ((p % c : Nat) : Int)) (by rw [Int.mul_sub, Int.mul_neg, Int.mul_one]; omega) (by omega) (by omega)]
    congr 1; omega
  · rename_i g
    rw [key (-((p / c : Nat) : Int)) 0 (by rw [Int.mul_neg]; omega) (by omega) (by omega)]
    congr 1; omega
theorem abs_mul (a b : Int) : (decide (a < 0) = decide (b < 0) → Sat.clip a * Sat.clip b = Sat.abs a * Sat.abs b) ∧ (decide (a < 0) ≠ decide (b < 0) → Sat.clip a * Sat.clip b = -(Sat.abs a * Sat.abs b)) := by
  have ca : a < 0 ↔ Sat.clip a < 0 := by unfold Sat.clip; repeat' split
                                         all_goals omega
  have cb : b < 0 ↔ Sat.clip b < 0 := by unfold Sat.clip; repeat' split
                                         all_goals omega
  unfold Sat.abs
  by_cases h1 : Sat.clip a < 0 <;> by_cases h2 : Sat.clip b < 0 <;> simp [ca, cb, h1, h2, Int.neg_mul, Int.mul_neg, Int.neg_neg]
/-- Whole division, of Go's. -/
theorem trunc (a k : Int) (hk : 1 ≤ k) (hk' : k ≤ 2305843009213693952) (ha : -2305843009213693952 ≤ a) (ha' : a ≤ 2305843009213693952) :
    (-2305843009213693952 ≤ a.tdiv k ∧ a.tdiv k ≤ 2305843009213693952) ∧ (-2305843009213693952 < a.tmod k ∧ a.tmod k < 2305843009213693952) ∧
    (a.tmod k < 0 → a / k = a.tdiv k - 1 ∧ a % k = a.tmod k + k) ∧ (0 ≤ a.tmod k → a / k = a.tdiv k ∧ a % k = a.tmod k) := by
  have key : ∀ (q r : Int), r + k * q = a → 0 ≤ r → r < k → a / k = q ∧ a % k = r := fun q r h1 h2 h3 => (Int.ediv_emod_unique (by omega)).2 ⟨h1, h2, h3⟩
  have h := Int.mul_tdiv_add_tmod a k
  rcases Int.lt_or_le a 0 with hn | hn
  · obtain ⟨n, hn'⟩ : ∃ n : Nat, a = -(n : Int) := ⟨a.natAbs, by omega⟩
    obtain ⟨m, rfl⟩ := Int.eq_ofNat_of_zero_le (show 0 ≤ k by omega)
    have e1 : a.tdiv m = -((n / m : Nat) : Int) := by rw [hn', Int.neg_tdiv]; rfl
    have e2 : a.tmod m = -((n % m : Nat) : Int) := by rw [hn', Int.neg_tmod]; rfl
    have hl := Nat.mod_lt n (show 0 < m by omega)
    have hd := Nat.div_le_self n m
    rw [e1, e2] at h ⊢
    clear e1 e2
    generalize n / m = q at *
    generalize n % m = r at *
    rw [Int.mul_neg] at h
    refine ⟨by omega, by omega, fun hr => ?_, fun hr => ?_⟩
    · exact key _ _ (by rw [Int.mul_sub, Int.mul_one, Int.mul_neg]; omega) (by omega) (by omega)
    · exact key _ _ (by rw [Int.mul_neg]; omega) (by omega) (by omega)
  · obtain ⟨n, rfl⟩ := Int.eq_ofNat_of_zero_le hn
    obtain ⟨m, rfl⟩ := Int.eq_ofNat_of_zero_le (show 0 ≤ k by omega)
    have e1 : ((n : Int)).tdiv m = ((n / m : Nat) : Int) := rfl
    have e2 : ((n : Int)).tmod m = ((n % m : Nat) : Int) := rfl
    have hl := Nat.mod_lt n (show 0 < m by omega)
    have hd := Nat.div_le_self n m
    rw [e1, e2] at h ⊢
    clear e1 e2
    generalize n / m = q at *
    generalize n % m = r at *
    exact ⟨by omega, by omega, fun hr => by omega, fun hr => key _ _ (by omega) (by omega) (by omega)⟩
theorem ceil_of (p k : Int) (hk : 1 ≤ k) : p / k ≤ -(-p / k) ∧ -(-p / k) ≤ p / k + 1 := by
  have h1 := Int.mul_ediv_add_emod p k
  have h2 := Int.mul_ediv_add_emod (-p) k
  have b1 := Int.emod_nonneg p (show k ≠ 0 by omega)
  have b2 := Int.emod_nonneg (-p) (show k ≠ 0 by omega)
  have c1 := Int.emod_lt_of_pos p (show 0 < k by omega)
  have c2 := Int.emod_lt_of_pos (-p) (show 0 < k by omega)
  obtain ⟨x, hx⟩ : ∃ x, p / k = x := ⟨_, rfl⟩
  obtain ⟨y, hy⟩ : ∃ y, -p / k = y := ⟨_, rfl⟩
  rw [hx] at h1 ⊢
  rw [hy] at h2 ⊢
  have e : k * (x + y) = k * x + k * y := Int.mul_add _ _ _
  constructor
  · rcases Int.lt_or_le 0 (x + y) with g | g
    · have := Int.mul_le_mul_of_nonneg_left (show 1 ≤ x + y by omega) (show 0 ≤ k by omega); omega
    · omega
  · rcases Int.lt_or_le (x + y) (-1) with g | g
    · have := Int.mul_le_mul_of_nonneg_left (show x + y ≤ -2 by omega) (show 0 ≤ k by omega); omega
    · omega
theorem up_down (a b c : Int) : down a b c ≤ up a b c ∧ up a b c ≤ down a b c + 1 := by
  obtain ⟨h1, h2⟩ := ceil_of (Sat.clip a * Sat.clip b) (one c) (one_bd c).1
  unfold down up fdiv cdiv
  generalize Sat.clip a * Sat.clip b / one c = x at *
  generalize -(-(Sat.clip a * Sat.clip b) / one c) = y at *
  constructor
  · exact Sat.clip_mono h1
  · unfold Sat.clip; repeat' split
    all_goals omega
theorem self (a b : Int) (hb : 1 ≤ b) : down a b b = Sat.clip a ∧ up a b b = Sat.clip a := by
  have h1 : one b = Sat.clip b := by
    unfold one; rw [if_neg]; unfold Sat.clip; repeat' split
    all_goals omega
  have h0 : Sat.clip b ≠ 0 := by have := one_bd b; omega
  unfold down up fdiv cdiv
  rw [h1, ← Int.neg_mul, Int.mul_ediv_cancel _ h0, Int.mul_ediv_cancel _ h0, Int.neg_neg, Sat.clip_clip]
  exact ⟨rfl, rfl⟩
theorem rises (a b more c : Int) (hb : 0 ≤ b) (hm : 0 ≤ more) : down a b c ≤ down (Sat.sum [a, more]) b c := by
  have cb : 0 ≤ Sat.clip b := by unfold Sat.clip; repeat' split
                                 all_goals omega
  have cm : Sat.clip a ≤ Sat.clip (Sat.sum [a, more]) := by
    have : Sat.sum [a, more] = Sat.clip (Sat.clip (0 + Sat.clip a) + Sat.clip more) := rfl
    rw [this, Sat.clip_clip, Int.zero_add, Sat.clip_clip]
    have h := Sat.clip_bd a
    have hmm : 0 ≤ Sat.clip more := by unfold Sat.clip; repeat' split
                                       all_goals omega
    have := Sat.clip_mono (show Sat.clip a ≤ Sat.clip a + Sat.clip more by omega)
    rw [Sat.clip_clip] at this
    exact this
  unfold down fdiv
  exact Sat.clip_mono (Int.ediv_le_ediv (by have := one_bd c; omega) (Int.mul_le_mul_of_nonneg_right cm cb))
/-- Small numbers. -/
theorem small_mul {x y B : Int} (h1 : -536870912 ≤ x) (h2 : x ≤ 536870912) (h3 : -536870912 ≤ y) (h4 : y ≤ 536870912) (hB : B = 288230376151711744) : -B ≤ x * y ∧ x * y ≤ B := by
  have key : ∀ u v : Int, 0 ≤ u → u ≤ 536870912 → 0 ≤ v → v ≤ 536870912 → 0 ≤ u * v ∧ u * v ≤ 288230376151711744 := fun u v a b c d => by
    have e1 := Int.mul_le_mul_of_nonneg_right b c
    exact ⟨Int.mul_nonneg a c, by omega⟩
  rcases Int.le_total 0 x with a | a <;> rcases Int.le_total 0 y with b | b
  · have := key x y a h2 b h4; omega
  · have := key x (-y) a h2 (by omega) (by omega); rw [Int.mul_neg] at this; omega
  · have := key (-x) y (by omega) (by omega) b h4; rw [Int.neg_mul] at this; omega
  · have := key (-x) (-y) (by omega) (by omega) (by omega) (by omega); rw [Int.neg_mul, Int.mul_neg] at this; omega
theorem small_down {x y z p : Int} (h1 : -536870912 ≤ x) (h2 : x ≤ 536870912) (h3 : -536870912 ≤ y) (h4 : y ≤ 536870912) (hp : x * y = p) (hz : z ≤ 65535) :
    (-288230376151711744 ≤ p ∧ p ≤ 288230376151711744) ∧ (z < 1 → down x y z = p) ∧ (1 ≤ z → down x y z = p / z) := by
  have hb := small_mul h1 h2 h3 h4 rfl
  rw [hp] at hb
  refine ⟨hb, fun hz => ?_, fun hz => ?_⟩
  · have h1 : one z = 1 := by unfold one; rw [if_pos]; unfold Sat.clip; repeat' split
                              all_goals omega
    unfold down fdiv
    rw [h1, Sat.clip_in (x := x) (by omega) (by omega), Sat.clip_in (x := y) (by omega) (by omega), hp, Int.ediv_one, Sat.clip_in (by omega) (by omega)]
  · have h1 : one z = z := by
      unfold one; rw [if_neg, Sat.clip_in (by omega) (by omega)]; rw [Sat.clip_in (by omega) (by omega)]; omega
    have l1 : -288230376151711744 ≤ p / z := by rw [Int.le_ediv_iff_mul_le (by omega)]; have := Int.mul_le_mul_of_nonneg_left hz (show (0 : Int) ≤ 288230376151711744 by omega); omega
    have l2 : p / z < 288230376151711745 := by rw [Int.ediv_lt_iff_lt_mul (by omega)]; have := Int.mul_le_mul_of_nonneg_left hz (show (0 : Int) ≤ 288230376151711745 by omega); omega
    unfold down fdiv
    rw [h1, Sat.clip_in (x := x) (by omega) (by omega), Sat.clip_in (x := y) (by omega) (by omega), hp, Sat.clip_in (by omega) (by omega)]
end Wide
end Go.Proofs.Ytgfnfjkajahoaaa
