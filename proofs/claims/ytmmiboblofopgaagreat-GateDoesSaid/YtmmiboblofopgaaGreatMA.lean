/- Several texts of mine in one: M01, M02, M05, M03, M04, M11, M08, M12, M06, M14, M26, M32, M10, M15, M33, M34, M16, M37, M25, M38, M39, M43, M44, M45. -/
import Derived.KernelRfl
/- Plain mathematics of layer 1: numbers that stay where they are greatest. It names no program. -/
namespace Go.Proofs.YtmmiboblofopgaaGreat
namespace Sat

def clip (x : Int) : Int := if 2305843009213693952 < x then 2305843009213693952 else if x < -2305843009213693952 then -2305843009213693952 else x
def bound (x lo hi : Int) : Int := if hi < lo ∨ x < lo then lo else if hi < x then hi else x
def neg (x : Int) : Int := -clip x
def abs (x : Int) : Int := if clip x < 0 then -clip x else clip x
def sub (a b : Int) : Int := clip (clip a - clip b)
def mul (a b : Int) : Int := clip (clip a * clip b)
def add2 (a b : Int) : Int := clip (clip a + clip b)
def sum (l : List Int) : Int := l.foldl (fun n x => clip (n + clip x)) 0
def most (l : List Int) : Int := l.foldl (fun n x => if n < clip x then clip x else n) (-2305843009213693952)
def least (l : List Int) : Int := l.foldl (fun n x => if clip x < n then clip x else n) 2305843009213693952

theorem clip_bd (x : Int) : -2305843009213693952 ≤ clip x ∧ clip x ≤ 2305843009213693952 := by
  unfold clip; repeat' split
  all_goals omega
theorem clip_hi {x : Int} (h : 2305843009213693952 ≤ x) : clip x = 2305843009213693952 := by
  unfold clip; repeat' split
  all_goals omega
theorem clip_lo {x : Int} (h : x ≤ -2305843009213693952) : clip x = -2305843009213693952 := by
  unfold clip; repeat' split
  all_goals omega
theorem clip_in {x : Int} (h1 : -2305843009213693952 ≤ x) (h2 : x ≤ 2305843009213693952) : clip x = x := by
  unfold clip; repeat' split
  all_goals omega
theorem clip_clip (x : Int) : clip (clip x) = clip x := clip_in (clip_bd x).1 (clip_bd x).2
theorem clip_neg (x : Int) : clip (-x) = -clip x := by
  unfold clip; repeat' split
  all_goals omega
theorem clip_mono {x y : Int} (h : x ≤ y) : clip x ≤ clip y := by
  unfold clip; repeat' split
  all_goals omega
theorem clip_eq_bound (x : Int) : clip x = bound x (-2305843009213693952) 2305843009213693952 := by
  unfold clip bound; repeat' split
  all_goals omega
theorem abs_bd (x : Int) : 0 ≤ abs x ∧ abs x ≤ 2305843009213693952 := by
  have := clip_bd x; unfold abs; split <;> omega
theorem neg_bd (x : Int) : -2305843009213693952 ≤ neg x ∧ neg x ≤ 2305843009213693952 := by
  have := clip_bd x; unfold neg; omega
theorem sub_bd (a b : Int) : -2305843009213693952 ≤ sub a b ∧ sub a b ≤ 2305843009213693952 := clip_bd _
theorem mul_bd (a b : Int) : -2305843009213693952 ≤ mul a b ∧ mul a b ≤ 2305843009213693952 := clip_bd _

theorem sum_nil : sum [] = 0 := rfl
theorem sum_snoc (l : List Int) (x : Int) : sum (l ++ [x]) = clip (sum l + clip x) := by simp [sum]
theorem sum_bd (l : List Int) : -2305843009213693952 ≤ sum l ∧ sum l ≤ 2305843009213693952 := by
  rcases List.eq_nil_or_concat l with rfl | ⟨m, x, rfl⟩
  · rw [sum_nil]; omega
  · rw [List.concat_eq_append, sum_snoc]; exact clip_bd _
theorem most_nil : most [] = -2305843009213693952 := rfl
theorem most_snoc (l : List Int) (x : Int) : most (l ++ [x]) = if most l < clip x then clip x else most l := by unfold most; rw [List.foldl_append]; rfl
theorem most_bd (l : List Int) : -2305843009213693952 ≤ most l ∧ most l ≤ 2305843009213693952 := by
  suffices h : ∀ (l : List Int) (n : Int), -2305843009213693952 ≤ n → n ≤ 2305843009213693952 → -2305843009213693952 ≤ l.foldl (fun n x => if n < clip x then clip x else n) n ∧ l.foldl (fun n x => if n < clip x then clip x else n) n ≤ 2305843009213693952 from h l _ (by omega) (by omega)
  intro l; induction l with
  | nil => intro n h1 h2; exact ⟨h1, h2⟩
  | cons x l ih => intro n h1 h2; have := clip_bd x; simp only [List.foldl_cons]; apply ih <;> split <;> omega
theorem least_nil : least [] = 2305843009213693952 := rfl
theorem least_snoc (l : List Int) (x : Int) : least (l ++ [x]) = if clip x < least l then clip x else least l := by unfold least; rw [List.foldl_append]; rfl
theorem least_bd (l : List Int) : -2305843009213693952 ≤ least l ∧ least l ≤ 2305843009213693952 := by
  suffices h : ∀ (l : List Int) (n : Int), -2305843009213693952 ≤ n → n ≤ 2305843009213693952 → -2305843009213693952 ≤ l.foldl (fun n x => if clip x < n then clip x else n) n ∧ l.foldl (fun n x => if clip x < n then clip x else n) n ≤ 2305843009213693952 from h l _ (by omega) (by omega)
  intro l; induction l with
  | nil => intro n h1 h2; exact ⟨h1, h2⟩
  | cons x l ih => intro n h1 h2; have := clip_bd x; simp only [List.foldl_cons]; apply ih <;> split <;> omega
theorem least_turned (l : List Int) : least l = -most (l.map fun x => -clip x) := by
  suffices h : ∀ (l : List Int) (n : Int), l.foldl (fun n x => if clip x < n then clip x else n) (-n) = -(l.map fun x => -clip x).foldl (fun n x => if n < clip x then clip x else n) n by
    have g := h l (-2305843009213693952); rw [Int.neg_neg] at g; exact g
  intro l; induction l with
  | nil => intro n; rfl
  | cons x l ih =>
    intro n
    simp only [List.map_cons, List.foldl_cons, clip_neg, clip_clip]
    rw [← ih]; congr 1; repeat' split
    all_goals omega

/-- What is left of m above its k lowest bits. -/
def top (m k : Nat) : Int := ((m / 2 ^ k : Nat) : Int)
theorem top_bd (m k : Nat) : 0 ≤ top m k := Int.natCast_nonneg _
theorem top_zero (m : Nat) : top m 0 = m := by simp [top]
theorem top_high (m k : Nat) (h : m < 2 ^ k) : top m k = 0 := by unfold top; rw [Nat.div_eq_of_lt h]; rfl
theorem top_step (m k : Nat) : top m k = 2 * top m (k + 1) + (((m / 2 ^ k) % 2 : Nat) : Int) := by
  unfold top
  rw [Nat.pow_succ, ← Nat.div_div_eq_div_mul]
  omega
theorem clip_double (p : Int) : clip (2 * clip p) = clip (2 * p) := by
  unfold clip; repeat' split
  all_goals omega
theorem clip_more (p x : Int) (h1 : 0 ≤ x → 0 ≤ p) (h2 : x ≤ 0 → p ≤ 0) : clip (clip p + x) = clip (p + x) := by
  unfold clip; repeat' split
  all_goals omega
theorem mul_round0 (x : Int) (m k : Nat) (hm : (m / 2 ^ k) % 2 = 0) : clip (2 * clip (x * top m (k + 1))) = clip (x * top m k) := by
  rw [clip_double, top_step m k, hm]; congr 1
  rw [Int.mul_add, ← Int.mul_assoc, ← Int.mul_assoc, Int.mul_comm 2 x]; simp
theorem mul_round1 (x : Int) (m k : Nat) (hm : (m / 2 ^ k) % 2 = 1) : clip (clip (2 * clip (x * top m (k + 1))) + x) = clip (x * top m k) := by
  have ht := top_bd m (k + 1)
  have e : x * top m k = 2 * (x * top m (k + 1)) + x := by
    rw [top_step m k, hm, Int.mul_add, ← Int.mul_assoc, ← Int.mul_assoc, Int.mul_comm 2 x]; simp
  rw [clip_double, e]
  refine clip_more _ _ (fun h => ?_) (fun h => ?_)
  · have := Int.mul_nonneg h ht; omega
  · have := Int.mul_nonneg (show 0 ≤ -x by omega) ht
    rw [Int.neg_mul] at this; omega
end Sat
end Go.Proofs.YtmmiboblofopgaaGreat

/- Plain mathematics of layer 2: quotients of products, and long division in base 2^32. It names no program. -/
namespace Go.Proofs.YtmmiboblofopgaaGreat
namespace Wide

/-- A trial digit t, with what it leaves: not below the quotient, and at most one more than the base. -/
structure Dig (n1 n0 u d t r : Nat) : Prop where
  sum : t * n1 + r = u
  ge : (u * 4294967296 + d) / (n1 * 4294967296 + n0) ≤ t
  left : r < 4294967296
  le : t ≤ 4294967297

theorem digit_lt {y u d : Nat} (hu : u < y) (hd : d < 4294967296) : (u * 4294967296 + d) / y < 4294967296 := by
  rw [Nat.div_lt_iff_lt_mul (by omega)]
  have : (u + 1) * 4294967296 ≤ y * 4294967296 := Nat.mul_le_mul_right _ hu
  rw [Nat.mul_comm 4294967296 y]; omega
theorem dig_start {n1 n0 u d : Nat} (h1 : 2147483648 ≤ n1) (h2 : n1 < 4294967296) (h0 : n0 < 4294967296) (hd : d < 4294967296) (hu : u < n1 * 4294967296 + n0) : Dig n1 n0 u d (u / n1) (u % n1) := by
  have hm := Nat.div_add_mod u n1
  have hr := Nat.mod_lt u (show 0 < n1 by omega)
  refine ⟨by rw [Nat.mul_comm]; exact hm, ?_, by omega, ?_⟩
  · have e : (u * 4294967296 + d) / (n1 * 4294967296) = u / n1 := by
      rw [Nat.mul_comm n1, ← Nat.div_div_eq_div_mul]
      congr 1; omega
    rw [← e]
    rw [Nat.div_le_iff_le_mul_add_pred (by omega)]
    have h := Nat.div_add_mod (u * 4294967296 + d) (n1 * 4294967296)
    have hl := Nat.mod_lt (u * 4294967296 + d) (show 0 < n1 * 4294967296 by omega)
    generalize (u * 4294967296 + d) / (n1 * 4294967296) = t at *
    rw [Nat.add_mul]
    have : 0 ≤ n0 * t := Nat.zero_le _
    omega
  · rw [Nat.div_le_iff_le_mul_add_pred (by omega)]
    have : n1 * 4294967296 + n0 ≤ n1 * 4294967297 + n1 := by omega
    omega
theorem dig_next {n1 n0 u d t r : Nat} (hy : u < n1 * 4294967296 + n0) (hd : d < 4294967296) (_h2 : n1 < 4294967296) (h : Dig n1 n0 u d t r) (hc : 4294967296 ≤ t ∨ 4294967296 * r + d < t * n0) : 1 ≤ t ∧ (t - 1) * n1 + (r + n1) = u ∧ (u * 4294967296 + d) / (n1 * 4294967296 + n0) ≤ t - 1 ∧ t - 1 ≤ 4294967296 := by
  obtain ⟨hs, hg, hl, hle⟩ := h
  have hq := digit_lt hy hd
  have hlt : (u * 4294967296 + d) / (n1 * 4294967296 + n0) < t := by
    rcases hc with hc | hc
    · omega
    · rw [Nat.div_lt_iff_lt_mul (by omega)]
      rw [Nat.mul_add, ← Nat.mul_assoc]
      generalize t * n1 = a at *
      omega
  have ht : 1 ≤ t := Nat.lt_of_le_of_lt (Nat.zero_le _) hlt
  refine ⟨ht, ?_, Nat.le_sub_one_of_lt hlt, by omega⟩
  have : t * n1 = (t - 1) * n1 + n1 := by
    obtain ⟨k, rfl⟩ := Nat.exists_eq_add_of_le' ht
    rw [Nat.add_sub_cancel, Nat.add_mul, Nat.one_mul]
  omega
theorem dig_stop {n1 n0 u d t r : Nat} (h1 : 0 < n1) (h : Dig n1 n0 u d t r) (hc : t * n0 ≤ 4294967296 * r + d) : t = (u * 4294967296 + d) / (n1 * 4294967296 + n0) := by
  obtain ⟨hs, hg, hl, hle⟩ := h
  refine Nat.le_antisymm ?_ hg
  rw [Nat.le_div_iff_mul_le (by omega), Nat.mul_add, ← Nat.mul_assoc]
  generalize t * n1 = a at *
  omega
theorem dig_break {n1 n0 u d t r : Nat} (h1 : 0 < n1) (h0 : n0 < 4294967296) (hs : t * n1 + r = u) (hg : (u * 4294967296 + d) / (n1 * 4294967296 + n0) ≤ t) (hr : 4294967296 ≤ r) (hle : t ≤ 4294967296) : t = (u * 4294967296 + d) / (n1 * 4294967296 + n0) := by
  refine Nat.le_antisymm ?_ hg
  rw [Nat.le_div_iff_mul_le (by omega), Nat.mul_add, ← Nat.mul_assoc]
  have : t * n0 ≤ 4294967296 * n0 := Nat.mul_le_mul_right _ hle
  generalize t * n1 = a at *
  generalize t * n0 = b at *
  omega

/-- What a digit leaves, reckoned in a word. -/
theorem wrap_parts (a d p M : Int) : ((a % M + d) % M - p % M) % M = (a + d - p) % M := by rw [Int.emod_add_emod, ← Int.sub_emod]
theorem left_int {u d y q : Nat} (hq : q = (u * 4294967296 + d) / y) : (u : Int) * 4294967296 + d - (q : Int) * y = (((u * 4294967296 + d) % y : Nat) : Int) := by
  have h := Nat.div_add_mod (u * 4294967296 + d) y
  rw [← hq, Nat.mul_comm] at h
  rw [← Int.natCast_mul]
  revert h
  generalize (u * 4294967296 + d) % y = m
  generalize q * y = p
  intro h
  omega
theorem left_word {u d y q : Nat} (hy : y ≤ 18446744073709551616) (hy0 : 0 < y) (hq : q = (u * 4294967296 + d) / y) :
    (((u : Int) * 4294967296 % 18446744073709551616 + d) % 18446744073709551616 - (q : Int) * y % 18446744073709551616) % 18446744073709551616 = ((u * 4294967296 + d) % y : Nat) := by
  rw [wrap_parts, left_int hq]
  have hl := Nat.mod_lt (u * 4294967296 + d) hy0
  exact Int.emod_eq_of_lt (by omega) (by omega)

/-- Two digits: the quotient and what is left, of numbers that were moved s to the left. -/
theorem two_digits {N y s u d1 d0 q1 q0 r1 r0 : Nat} (hs : N * 2 ^ s = (u * 4294967296 + d1) * 4294967296 + d0) (hy : 0 < y)
    (h1 : u * 4294967296 + d1 = q1 * (y * 2 ^ s) + r1) (h0 : r1 * 4294967296 + d0 = q0 * (y * 2 ^ s) + r0) (hr : r0 < y * 2 ^ s) :
    q1 * 4294967296 + q0 = N / y ∧ r0 / 2 ^ s = N % y := by
  have hp : 0 < 2 ^ s := Nat.two_pow_pos s
  have e : N * 2 ^ s = (q1 * 4294967296 + q0) * y * 2 ^ s + r0 := by
    rw [Nat.mul_assoc, Nat.add_mul]
    obtain ⟨z, hz⟩ : ∃ z, y * 2 ^ s = z := ⟨_, rfl⟩
    obtain ⟨m, hm⟩ : ∃ m, N * 2 ^ s = m := ⟨_, rfl⟩
    rw [hz] at h1 h0 ⊢
    rw [hm] at hs ⊢
    clear hz hm
    have e1 : q1 * z * 4294967296 = q1 * 4294967296 * z := Nat.mul_right_comm _ _ _
    omega
  obtain ⟨q, hq⟩ : ∃ q, q1 * 4294967296 + q0 = q := ⟨_, rfl⟩
  rw [hq] at e ⊢
  clear hq hs h1 h0
  have hle : q * y ≤ N := by
    refine Nat.le_of_mul_le_mul_right (c := 2 ^ s) ?_ hp
    omega
  have e2 : r0 = (N - q * y) * 2 ^ s := by rw [Nat.sub_mul]; omega
  have hlt : N - q * y < y := by
    refine Nat.lt_of_mul_lt_mul_right (a := 2 ^ s) ?_
    omega
  have hd : N / y = q := by
    have h := Nat.div_add_mod N y
    have h' := Nat.mod_lt N hy
    rw [Nat.div_eq_iff hy]
    rw [Nat.mul_comm q y] at *
    omega
  constructor
  · exact hd.symm
  · rw [e2, Nat.mul_div_cancel _ hp]
    have := Nat.div_add_mod N y
    rw [hd, Nat.mul_comm] at this
    omega

/-- A divisor: clipped, not below 1. -/
def one (c : Int) : Int := if Sat.clip c < 1 then 1 else Sat.clip c
theorem one_bd (c : Int) : 1 ≤ one c ∧ one c ≤ 2305843009213693952 := by
  have := Sat.clip_bd c; unfold one; split <;> omega
theorem most_one (c : Int) : Sat.most [c, 1] = one c := by
  have := Sat.clip_bd c
  have h1 : Sat.clip 1 = 1 := by decide
  unfold Sat.most one
  simp only [List.foldl_cons, List.foldl_nil, h1]
  repeat' split
  all_goals omega
/-- A ratio down, and up, clipped. -/
def fdiv (p c : Int) : Int := Sat.clip (p / c)
def cdiv (p c : Int) : Int := Sat.clip (-(-p / c))
def down (a b c : Int) : Int := fdiv (Sat.clip a * Sat.clip b) (one c)
def up (a b c : Int) : Int := cdiv (Sat.clip a * Sat.clip b) (one c)
theorem fdiv_bd (p c : Int) : -2305843009213693952 ≤ fdiv p c ∧ fdiv p c ≤ 2305843009213693952 := Sat.clip_bd _
theorem cdiv_bd (p c : Int) : -2305843009213693952 ≤ cdiv p c ∧ cdiv p c ≤ 2305843009213693952 := Sat.clip_bd _
theorem down_bd (a b c : Int) : -2305843009213693952 ≤ down a b c ∧ down a b c ≤ 2305843009213693952 := Sat.clip_bd _
theorem up_bd (a b c : Int) : -2305843009213693952 ≤ up a b c ∧ up a b c ≤ 2305843009213693952 := Sat.clip_bd _
theorem fdiv_neg (p c : Int) : fdiv (-p) c = -cdiv p c := by unfold fdiv cdiv; rw [Sat.clip_neg, Int.neg_neg]
theorem cdiv_neg (p c : Int) : cdiv (-p) c = -fdiv p c := by unfold fdiv cdiv; rw [Int.neg_neg, Sat.clip_neg]
/-- A ratio of natural numbers, down and up. -/
theorem fdiv_nat (p c : Nat) : fdiv (p : Int) (c : Int) = Sat.clip ((p / c : Nat) : Int) := by unfold fdiv; rw [Int.natCast_ediv]
theorem cdiv_nat {p c : Nat} (hc : 0 < c) : cdiv (p : Int) (c : Int) = if 0 < p % c then Sat.clip (((p / c : Nat) : Int) + 1) else Sat.clip ((p / c : Nat) : Int) := by
  have h := Nat.div_add_mod p c
  have hl := Nat.mod_lt p hc
  have h' : (c : Int) * ((p / c : Nat) : Int) + ((p % c : Nat) : Int) = p := by rw [← Int.natCast_mul, ← Int.natCast_add, h]
  have key : ∀ (q : Int) (r : Int), r + (c : Int) * q = -(p : Int) → 0 ≤ r → r < c → -(p : Int) / c = q := fun q r h1 h2 h3 => ((Int.ediv_emod_unique (by omega)).2 ⟨h1, h2, h3⟩).1
  unfold cdiv
  split
  · rename_i g
    rw [key (-((p / c : Nat) : Int) - 1) ((c : Int) - ((p % c : Nat) : Int)) (by rw [Int.mul_sub, Int.mul_neg, Int.mul_one]; omega) (by omega) (by omega)]
    congr 1; omega
  · rename_i g
    rw [key (-((p / c : Nat) : Int)) 0 (by rw [Int.mul_neg]; omega) (by omega) (by omega)]
    congr 1; omega
theorem abs_mul (a b : Int) : (decide (a < 0) = decide (b < 0) → Sat.clip a * Sat.clip b = Sat.abs a * Sat.abs b) ∧ (decide (a < 0) ≠ decide (b < 0) → Sat.clip a * Sat.clip b = -(Sat.abs a * Sat.abs b)) := by
  have ca : a < 0 ↔ Sat.clip a < 0 := by unfold Sat.clip; repeat' split
                                         all_goals omega
  have cb : b < 0 ↔ Sat.clip b < 0 := by unfold Sat.clip; repeat' split
                                         all_goals omega
  unfold Sat.abs
  by_cases h1 : Sat.clip a < 0 <;> by_cases h2 : Sat.clip b < 0 <;> simp [ca, cb, h1, h2, Int.neg_mul, Int.mul_neg, Int.neg_neg]
/-- Whole division, of Go's. -/
theorem trunc (a k : Int) (hk : 1 ≤ k) (hk' : k ≤ 2305843009213693952) (ha : -2305843009213693952 ≤ a) (ha' : a ≤ 2305843009213693952) :
    (-2305843009213693952 ≤ a.tdiv k ∧ a.tdiv k ≤ 2305843009213693952) ∧ (-2305843009213693952 < a.tmod k ∧ a.tmod k < 2305843009213693952) ∧
    (a.tmod k < 0 → a / k = a.tdiv k - 1 ∧ a % k = a.tmod k + k) ∧ (0 ≤ a.tmod k → a / k = a.tdiv k ∧ a % k = a.tmod k) := by
  have key : ∀ (q r : Int), r + k * q = a → 0 ≤ r → r < k → a / k = q ∧ a % k = r := fun q r h1 h2 h3 => (Int.ediv_emod_unique (by omega)).2 ⟨h1, h2, h3⟩
  have h := Int.mul_tdiv_add_tmod a k
  rcases Int.lt_or_le a 0 with hn | hn
  · obtain ⟨n, hn'⟩ : ∃ n : Nat, a = -(n : Int) := ⟨a.natAbs, by omega⟩
    obtain ⟨m, rfl⟩ := Int.eq_ofNat_of_zero_le (show 0 ≤ k by omega)
    have e1 : a.tdiv m = -((n / m : Nat) : Int) := by rw [hn', Int.neg_tdiv]; rfl
    have e2 : a.tmod m = -((n % m : Nat) : Int) := by rw [hn', Int.neg_tmod]; rfl
    have hl := Nat.mod_lt n (show 0 < m by omega)
    have hd := Nat.div_le_self n m
    rw [e1, e2] at h ⊢
    clear e1 e2
    generalize n / m = q at *
    generalize n % m = r at *
    rw [Int.mul_neg] at h
    refine ⟨by omega, by omega, fun hr => ?_, fun hr => ?_⟩
    · exact key _ _ (by rw [Int.mul_sub, Int.mul_one, Int.mul_neg]; omega) (by omega) (by omega)
    · exact key _ _ (by rw [Int.mul_neg]; omega) (by omega) (by omega)
  · obtain ⟨n, rfl⟩ := Int.eq_ofNat_of_zero_le hn
    obtain ⟨m, rfl⟩ := Int.eq_ofNat_of_zero_le (show 0 ≤ k by omega)
    have e1 : ((n : Int)).tdiv m = ((n / m : Nat) : Int) := rfl
    have e2 : ((n : Int)).tmod m = ((n % m : Nat) : Int) := rfl
    have hl := Nat.mod_lt n (show 0 < m by omega)
    have hd := Nat.div_le_self n m
    rw [e1, e2] at h ⊢
    clear e1 e2
    generalize n / m = q at *
    generalize n % m = r at *
    exact ⟨by omega, by omega, fun hr => by omega, fun hr => key _ _ (by omega) (by omega) (by omega)⟩
theorem ceil_of (p k : Int) (hk : 1 ≤ k) : p / k ≤ -(-p / k) ∧ -(-p / k) ≤ p / k + 1 := by
  have h1 := Int.mul_ediv_add_emod p k
  have h2 := Int.mul_ediv_add_emod (-p) k
  have b1 := Int.emod_nonneg p (show k ≠ 0 by omega)
  have b2 := Int.emod_nonneg (-p) (show k ≠ 0 by omega)
  have c1 := Int.emod_lt_of_pos p (show 0 < k by omega)
  have c2 := Int.emod_lt_of_pos (-p) (show 0 < k by omega)
  obtain ⟨x, hx⟩ : ∃ x, p / k = x := ⟨_, rfl⟩
  obtain ⟨y, hy⟩ : ∃ y, -p / k = y := ⟨_, rfl⟩
  rw [hx] at h1 ⊢
  rw [hy] at h2 ⊢
  have e : k * (x + y) = k * x + k * y := Int.mul_add _ _ _
  constructor
  · rcases Int.lt_or_le 0 (x + y) with g | g
    · have := Int.mul_le_mul_of_nonneg_left (show 1 ≤ x + y by omega) (show 0 ≤ k by omega); omega
    · omega
  · rcases Int.lt_or_le (x + y) (-1) with g | g
    · have := Int.mul_le_mul_of_nonneg_left (show x + y ≤ -2 by omega) (show 0 ≤ k by omega); omega
    · omega
theorem up_down (a b c : Int) : down a b c ≤ up a b c ∧ up a b c ≤ down a b c + 1 := by
  obtain ⟨h1, h2⟩ := ceil_of (Sat.clip a * Sat.clip b) (one c) (one_bd c).1
  unfold down up fdiv cdiv
  generalize Sat.clip a * Sat.clip b / one c = x at *
  generalize -(-(Sat.clip a * Sat.clip b) / one c) = y at *
  constructor
  · exact Sat.clip_mono h1
  · unfold Sat.clip; repeat' split
    all_goals omega
theorem self (a b : Int) (hb : 1 ≤ b) : down a b b = Sat.clip a ∧ up a b b = Sat.clip a := by
  have h1 : one b = Sat.clip b := by
    unfold one; rw [if_neg]; unfold Sat.clip; repeat' split
    all_goals omega
  have h0 : Sat.clip b ≠ 0 := by have := one_bd b; omega
  unfold down up fdiv cdiv
  rw [h1, ← Int.neg_mul, Int.mul_ediv_cancel _ h0, Int.mul_ediv_cancel _ h0, Int.neg_neg, Sat.clip_clip]
  exact ⟨rfl, rfl⟩
theorem rises (a b more c : Int) (hb : 0 ≤ b) (hm : 0 ≤ more) : down a b c ≤ down (Sat.sum [a, more]) b c := by
  have cb : 0 ≤ Sat.clip b := by unfold Sat.clip; repeat' split
                                 all_goals omega
  have cm : Sat.clip a ≤ Sat.clip (Sat.sum [a, more]) := by
    have : Sat.sum [a, more] = Sat.clip (Sat.clip (0 + Sat.clip a) + Sat.clip more) := rfl
    rw [this, Sat.clip_clip, Int.zero_add, Sat.clip_clip]
    have h := Sat.clip_bd a
    have hmm : 0 ≤ Sat.clip more := by unfold Sat.clip; repeat' split
                                       all_goals omega
    have := Sat.clip_mono (show Sat.clip a ≤ Sat.clip a + Sat.clip more by omega)
    rw [Sat.clip_clip] at this
    exact this
  unfold down fdiv
  exact Sat.clip_mono (Int.ediv_le_ediv (by have := one_bd c; omega) (Int.mul_le_mul_of_nonneg_right cm cb))
/-- Small numbers. -/
theorem small_mul {x y B : Int} (h1 : -536870912 ≤ x) (h2 : x ≤ 536870912) (h3 : -536870912 ≤ y) (h4 : y ≤ 536870912) (hB : B = 288230376151711744) : -B ≤ x * y ∧ x * y ≤ B := by
  have key : ∀ u v : Int, 0 ≤ u → u ≤ 536870912 → 0 ≤ v → v ≤ 536870912 → 0 ≤ u * v ∧ u * v ≤ 288230376151711744 := fun u v a b c d => by
    have e1 := Int.mul_le_mul_of_nonneg_right b c
    exact ⟨Int.mul_nonneg a c, by omega⟩
  rcases Int.le_total 0 x with a | a <;> rcases Int.le_total 0 y with b | b
  · have := key x y a h2 b h4; omega
  · have := key x (-y) a h2 (by omega) (by omega); rw [Int.mul_neg] at this; omega
  · have := key (-x) y (by omega) (by omega) b h4; rw [Int.neg_mul] at this; omega
  · have := key (-x) (-y) (by omega) (by omega) (by omega) (by omega); rw [Int.neg_mul, Int.mul_neg] at this; omega
theorem small_down {x y z p : Int} (h1 : -536870912 ≤ x) (h2 : x ≤ 536870912) (h3 : -536870912 ≤ y) (h4 : y ≤ 536870912) (hp : x * y = p) (hz : z ≤ 65535) :
    (-288230376151711744 ≤ p ∧ p ≤ 288230376151711744) ∧ (z < 1 → down x y z = p) ∧ (1 ≤ z → down x y z = p / z) := by
  have hb := small_mul h1 h2 h3 h4 rfl
  rw [hp] at hb
  refine ⟨hb, fun hz => ?_, fun hz => ?_⟩
  · have h1 : one z = 1 := by unfold one; rw [if_pos]; unfold Sat.clip; repeat' split
                              all_goals omega
    unfold down fdiv
    rw [h1, Sat.clip_in (x := x) (by omega) (by omega), Sat.clip_in (x := y) (by omega) (by omega), hp, Int.ediv_one, Sat.clip_in (by omega) (by omega)]
  · have h1 : one z = z := by
      unfold one; rw [if_neg, Sat.clip_in (by omega) (by omega)]; rw [Sat.clip_in (by omega) (by omega)]; omega
    have l1 : -288230376151711744 ≤ p / z := by rw [Int.le_ediv_iff_mul_le (by omega)]; have := Int.mul_le_mul_of_nonneg_left hz (show (0 : Int) ≤ 288230376151711744 by omega); omega
    have l2 : p / z < 288230376151711745 := by rw [Int.ediv_lt_iff_lt_mul (by omega)]; have := Int.mul_le_mul_of_nonneg_left hz (show (0 : Int) ≤ 288230376151711745 by omega); omega
    unfold down fdiv
    rw [h1, Sat.clip_in (x := x) (by omega) (by omega), Sat.clip_in (x := y) (by omega) (by omega), hp, Sat.clip_in (by omega) (by omega)]
end Wide
end Go.Proofs.YtmmiboblofopgaaGreat

/- Plain mathematics of layer 4: a fabric's numbers, and what they bound. It names no program. -/
namespace Go.Proofs.YtmmiboblofopgaaGreat
/-- A fabric's numbers. -/
structure Par where
  n : Int
  f : Int
  d : Int
  beat : Int
  rho : Int
  delay : Int
  jit : Int
  eps : Int
  mu : Int
  hold : Int
  pulse : Int
  sec : Int
namespace Lim
def win (x lo hi : Int) : Bool := decide (lo ≤ x ∧ x ≤ hi)
theorem win_true {x lo hi : Int} : win x lo hi = true ↔ lo ≤ x ∧ x ≤ hi := by simp [win]
theorem win_false {x lo hi : Int} : win x lo hi = false ↔ ¬ (lo ≤ x ∧ x ≤ hi) := by simp [win]
def Gates (p : Par) : Prop := (1 ≤ p.n ∧ p.n ≤ 16) ∧ (0 ≤ p.f ∧ 3 * p.f + 1 ≤ p.n)
def Beat (p : Par) : Prop := (1 ≤ p.beat ∧ p.beat ≤ 1099511627776) ∧ (0 ≤ p.rho ∧ 8 * p.rho ≤ p.beat) ∧ (0 ≤ p.delay ∧ 2 * p.delay ≤ p.beat) ∧ (0 ≤ p.jit ∧ p.jit ≤ p.delay) ∧ (0 ≤ p.eps ∧ p.eps ≤ 1099511627776) ∧ (p.rho < p.mu ∧ 4 * p.mu ≤ p.beat)
def Beats (p : Par) : Prop := (0 ≤ p.d ∧ p.d ≤ 16) ∧ (p.d + 2 ≤ p.hold ∧ p.hold ≤ 1048576)
def Users (p : Par) : Prop := (1 ≤ p.pulse ∧ p.pulse ≤ 1099511627776) ∧ (1 ≤ p.sec ∧ p.sec ≤ 1099511627776)
instance (p : Par) : Decidable (Gates p) := by unfold Gates; infer_instance
instance (p : Par) : Decidable (Beat p) := by unfold Beat; infer_instance
instance (p : Par) : Decidable (Beats p) := by unfold Beats; infer_instance
instance (p : Par) : Decidable (Users p) := by unfold Users; infer_instance
def May (p : Par) : Prop := Gates p ∧ Beat p ∧ Beats p ∧ Users p
instance (p : Par) : Decidable (May p) := by unfold May; infer_instance
def check (p : Par) : Int := if May p then 0 else 1
def hop (p : Par) : Int := Sat.sum [p.jit, Sat.mul 2 p.rho]
def gate (p : Par) : Int := Sat.mul 2 (Sat.sum [Sat.mul 2 p.eps, hop p])
def width (p : Par) (held hops : Int) : Int := Sat.sum [gate p, Sat.mul (Sat.mul 2 p.rho) held, Sat.mul (Sat.sum [hops, 1]) (hop p)]
def skew (p : Par) (held : Int) : Int := Sat.mul 2 (width p held p.d)
def far (p : Par) : Int := Sat.mul 3 (width p p.hold p.d)
def settle (p : Par) : Int := Sat.sum [Sat.mul 2 p.d, 6, Wide.up (far p) 1 (Sat.sub p.mu p.rho)]
theorem sum_sum2 (a b c : Int) : Sat.sum [Sat.sum [a, b], c] = Sat.sum [a, b, c] := by
  have e1 : Sat.sum [Sat.sum [a, b], c] = Sat.clip (Sat.sum [Sat.sum [a, b]] + Sat.clip c) := Sat.sum_snoc [Sat.sum [a, b]] c
  have e2 : Sat.sum [Sat.sum [a, b]] = Sat.clip (Sat.sum [] + Sat.clip (Sat.sum [a, b])) := Sat.sum_snoc [] (Sat.sum [a, b])
  have e3 : Sat.sum [a, b, c] = Sat.clip (Sat.sum [a, b] + Sat.clip c) := Sat.sum_snoc [a, b] c
  have hb := Sat.sum_bd [a, b]
  rw [e1, e2, e3, Sat.sum_nil, Int.zero_add, Sat.clip_clip, Sat.clip_in hb.1 hb.2]
theorem up_neg (x s : Int) : -(Wide.down (-x) 1 s) = Wide.up x 1 s := by
  unfold Wide.down Wide.up
  rw [Sat.clip_neg, Int.neg_mul, Wide.fdiv_neg, Int.neg_neg]
end Lim
end Go.Proofs.YtmmiboblofopgaaGreat

/- Plain mathematics of layer 2's document: products by digits, ratios by digits. It names no program. -/
namespace Go.Proofs.YtmmiboblofopgaaGreat
namespace Wide

/-- What n digits say, the highest first. -/
def val : Nat → (Nat → Int) → Int
  | 0, _ => 0
  | n + 1, L => 2 * val n L + L n
def upd (L : Nat → Int) (p : Nat) (x : Int) : Nat → Int := fun j => if j = p then x else L j
theorem val_congr : ∀ (n : Nat) (L M : Nat → Int), (∀ j, j < n → L j = M j) → val n L = val n M
  | 0, _, _, _ => rfl
  | n + 1, L, M, h => by rw [val, val, val_congr n L M (fun j hj => h j (by omega)), h n (by omega)]
theorem val_upd : ∀ (n : Nat) (L : Nat → Int) (p : Nat) (x : Int), p < n → val n (upd L p x) = val n L + (x - L p) * 2 ^ (n - 1 - p)
  | 0, _, _, _, h => absurd h (Nat.not_lt_zero _)
  | n + 1, L, p, x, h => by
    rw [val, val]
    by_cases e : p = n
    · subst e
      rw [val_congr p (upd L p x) L (fun j hj => by unfold upd; rw [if_neg (by omega)])]
      unfold upd
      rw [if_pos rfl, show p + 1 - 1 - p = 0 by omega]
      simp; omega
    · rw [val_upd n L p x (by omega), show n + 1 - 1 - p = n - 1 - p + 1 by omega, Int.pow_succ]
      have : upd L p x n = L n := by unfold upd; rw [if_neg (by omega)]
      rw [this, ← Int.mul_assoc]
      generalize (x - L p) * 2 ^ (n - 1 - p) = t
      omega
theorem val_nonneg : ∀ (n : Nat) (L : Nat → Int), (∀ j, j < n → 0 ≤ L j) → 0 ≤ val n L
  | 0, _, _ => by simp [val]
  | n + 1, L, h => by have := val_nonneg n L (fun j hj => h j (by omega)); have := h n (by omega); rw [val]; omega
theorem val_first : ∀ (n : Nat) (L : Nat → Int), (∀ j, j < n + 1 → 0 ≤ L j) → L 0 * 2 ^ n ≤ val (n + 1) L
  | 0, L, _ => by simp [val]
  | n + 1, L, h => by
    have h1 := val_first n L (fun j hj => h j (by omega))
    have h2 := h (n + 1) (by omega)
    rw [val, Int.pow_succ, ← Int.mul_assoc]
    generalize L 0 * 2 ^ n = t at *
    omega

/-- The product so far: i bits of a, and k more of b for the next one. -/
def part (a b i k : Nat) : Nat := a % 2 ^ i * b + a / 2 ^ i % 2 * 2 ^ i * (b % 2 ^ k)
theorem part_zero (a b : Nat) : part a b 0 0 = 0 := by simp [part, Nat.mod_one]
theorem part_next (a b i : Nat) (hb : b < 2 ^ 62) : part a b i 62 = part a b (i + 1) 0 := by
  unfold part
  rw [Nat.mod_eq_of_lt hb, Nat.pow_zero, Nat.mod_one, Nat.mul_zero, Nat.add_zero, Nat.mod_pow_succ, Nat.add_mul, Nat.mul_comm (2 ^ i)]
theorem part_step (a b i k : Nat) : part a b i (k + 1) = part a b i k + a / 2 ^ i % 2 * (b / 2 ^ k % 2) * 2 ^ (i + k) := by
  unfold part
  rw [Nat.mod_pow_succ, Nat.mul_add, Nat.add_assoc]
  congr 1
  congr 1
  rw [Nat.pow_add]
  generalize 2 ^ i = x
  generalize 2 ^ k = y
  generalize a / x % 2 = u
  generalize b / y % 2 = v
  ac_rfl
theorem part_all (a b : Nat) (ha : a < 2 ^ 62) : part a b 62 0 = a * b := by unfold part; rw [Nat.mod_eq_of_lt ha, Nat.pow_zero, Nat.mod_one, Nat.mul_zero, Nat.add_zero]

/-- One place of the product by digits gets a bit more. -/
theorem val_bit (L : Nat → Int) (a b i k : Nat) (hi : i < 62) (hk : k < 62) (e : Int) (he : e = ((a / 2 ^ i % 2 * (b / 2 ^ k % 2) : Nat) : Int)) (h : val 128 L = ((part a b i k : Nat) : Int)) :
    val 128 (upd L (127 - i - k) (L (127 - i - k) + e)) = ((part a b i (k + 1) : Nat) : Int) := by
  rw [val_upd 128 L _ _ (by omega), h, part_step, show 128 - 1 - (127 - i - k) = i + k by omega, he]
  rw [show L (127 - i - k) + ((a / 2 ^ i % 2 * (b / 2 ^ k % 2) : Nat) : Int) - L (127 - i - k) = ((a / 2 ^ i % 2 * (b / 2 ^ k % 2) : Nat) : Int) by omega]
  rw [Int.natCast_add, Int.natCast_mul (a / 2 ^ i % 2 * (b / 2 ^ k % 2))]
  simp
/-- What is carried. -/
theorem val_carry (L : Nat → Int) (i : Nat) (hi : 0 < i) (hi' : i < 128) (_h : 0 ≤ L i) :
    val 128 (upd (upd L (i - 1) (L (i - 1) + L i / 2)) i (L i % 2)) = val 128 L := by
  have e1 : upd L (i - 1) (L (i - 1) + L i / 2) i = L i := by unfold upd; rw [if_neg (by omega)]
  rw [val_upd 128 _ i _ hi', e1, val_upd 128 _ (i - 1) _ (by omega), show 128 - 1 - (i - 1) = 128 - 1 - i + 1 by omega, Int.pow_succ]
  generalize (2 : Int) ^ (128 - 1 - i) = t
  have e2 : L i % 2 - L i = -(2 * (L i / 2)) := by omega
  rw [e2, show L (i - 1) + L i / 2 - L (i - 1) = L i / 2 by omega, Int.mul_comm t 2, ← Int.mul_assoc, Int.neg_mul, Int.mul_comm (L i / 2) 2]
  omega

/-- What a list of digits says. -/
def lval (l : List Int) : Int := l.foldl (fun v d => 2 * v + d) 0
theorem lval_nil : lval [] = 0 := rfl
theorem lval_snoc (l : List Int) (d : Int) : lval (l ++ [d]) = 2 * lval l + d := by simp [lval]
theorem lval_range (L : Nat → Int) : ∀ n, lval ((List.range n).map L) = val n L
  | 0 => rfl
  | n + 1 => by rw [List.range_succ, List.map_append, List.map_singleton, lval_snoc, lval_range L n, val]
def Bits (l : List Int) : Prop := ∀ x ∈ l, x = 0 ∨ x = 1
theorem lval_nonneg {l : List Int} (h : Bits l) : 0 ≤ lval l := by
  suffices g : ∀ (l : List Int) (v : Int), Bits l → 0 ≤ v → 0 ≤ l.foldl (fun v d => 2 * v + d) v from g l 0 h (by omega)
  intro l; induction l with
  | nil => intro v _ h; exact h
  | cons x l ih => intro v hb hv; rw [List.foldl_cons]; have := hb x (by simp); exact ih _ (fun y hy => hb y (by simp [hy])) (by omega)
theorem bits_take {l : List Int} (h : Bits l) (k : Nat) : Bits (l.take k) := fun x hx => h x (List.mem_of_mem_take hx)
theorem bits_get {l : List Int} (h : Bits l) {k : Nat} (hk : k < l.length) : l[k] = 0 ∨ l[k] = 1 := h _ (List.getElem_mem hk)

/-- A ratio by digits: one digit more. -/
theorem clip_nonneg {x : Int} (h : 0 ≤ x) : 0 ≤ Sat.clip x := by
  unfold Sat.clip; repeat' split
  all_goals omega
theorem ratio_step0 {p d c : Int} (hc : 1 ≤ c) (_hp : 0 ≤ p) (hd : d = 0 ∨ d = 1) (h : 2 * (p % c) + d < c) : Sat.clip (2 * Sat.clip (p / c)) = Sat.clip ((2 * p + d) / c) ∧ 2 * (p % c) + d = (2 * p + d) % c := by
  have h1 := Int.mul_ediv_add_emod p c
  have h2 := Int.emod_nonneg p (show c ≠ 0 by omega)
  obtain ⟨k1, k2⟩ := (Int.ediv_emod_unique (a := 2 * p + d) (b := c) (q := 2 * (p / c)) (r := 2 * (p % c) + d) (by omega)).2 ⟨by rw [Int.mul_left_comm]; omega, by omega, h⟩
  rw [k1, k2, Sat.clip_double]
  exact ⟨rfl, rfl⟩
theorem ratio_step1 {p d c : Int} (hc : 1 ≤ c) (hp : 0 ≤ p) (hd : d = 0 ∨ d = 1) (h : c ≤ 2 * (p % c) + d) : Sat.clip (Sat.clip (2 * Sat.clip (p / c)) + 1) = Sat.clip ((2 * p + d) / c) ∧ 2 * (p % c) + d - c = (2 * p + d) % c := by
  have h1 := Int.mul_ediv_add_emod p c
  have h2 := Int.emod_nonneg p (show c ≠ 0 by omega)
  have h3 := Int.emod_lt_of_pos p (show 0 < c by omega)
  have h4 : 0 ≤ p / c := Int.ediv_nonneg hp (by omega)
  obtain ⟨k1, k2⟩ := (Int.ediv_emod_unique (a := 2 * p + d) (b := c) (q := 2 * (p / c) + 1) (r := 2 * (p % c) + d - c) (by omega)).2 ⟨by rw [Int.mul_add, Int.mul_left_comm, Int.mul_one]; omega, by omega, by omega⟩
  rw [k1, k2, Sat.clip_double, Sat.clip_more _ _ (by omega) (by omega)]
  exact ⟨rfl, rfl⟩
theorem snoc_ind {P : List Int → Prop} (h0 : P []) (h1 : ∀ l x, P l → P (l ++ [x])) : ∀ l, P l := by
  intro l
  have : ∀ m : List Int, P m.reverse := by
    intro m; induction m with
    | nil => exact h0
    | cons x m ih => rw [List.reverse_cons]; exact h1 _ _ ih
  rw [← List.reverse_reverse l]; exact this _
/-- Two numbers by digits: the first digit in which they part tells. -/
theorem lval_bound : ∀ (l : List Int), Bits l → lval l < 2 ^ l.length := by
  refine snoc_ind (fun _ => by decide) (fun l x ih => ?_)
  · intro h
    have h1 := ih (fun y hy => h y (by simp [hy]))
    have h2 := h x (by simp)
    rw [lval_snoc, List.length_append, List.length_singleton, Int.pow_succ]
    generalize (2 : Int) ^ l.length = t at *
    omega
theorem lval_append (l m : List Int) : lval (l ++ m) = lval l * 2 ^ m.length + lval m := by
  refine snoc_ind (P := fun m => lval (l ++ m) = lval l * 2 ^ m.length + lval m) (by simp [lval_nil]) (fun m x ih => ?_) m
  · show lval (l ++ (m ++ [x])) = _
    rw [← List.append_assoc, lval_snoc, ih, lval_snoc, List.length_append, List.length_singleton, Int.pow_succ, Int.mul_add, ← Int.mul_assoc, ← Int.mul_assoc, Int.mul_comm 2 (lval l)]
    rw [Int.mul_assoc, Int.mul_comm 2, ← Int.mul_assoc, Int.add_assoc]
theorem part_lt {l m : List Int} (hl : Bits l) (hm : Bits m) (he : l.length = m.length) {k : Nat} (hk : k < l.length) (hk' : k < m.length) (hp : l.take k = m.take k) (h : l[k] < m[k]) : lval l < lval m := by
  have h1 : l = l.take k ++ (l[k] :: l.drop (k + 1)) := by rw [← List.drop_eq_getElem_cons hk, List.take_append_drop]
  have h2 : m = m.take k ++ (m[k] :: m.drop (k + 1)) := by rw [← List.drop_eq_getElem_cons hk', List.take_append_drop]
  have a0 := bits_get hl hk
  have b0 := bits_get hm hk'
  have hd1 : Bits (l.drop (k + 1)) := fun x hx => hl x (List.mem_of_mem_drop hx)
  have hd2 : Bits (m.drop (k + 1)) := fun x hx => hm x (List.mem_of_mem_drop hx)
  have b1 := lval_bound _ hd1
  have b2 := lval_nonneg hd2
  have el : (l.drop (k + 1)).length = (m.drop (k + 1)).length := by simp; omega
  rw [el] at b1
  have ea : ∀ (x : Int) (r : List Int), lval (x :: r) = x * 2 ^ r.length + lval r := fun x r => by
    have := lval_append [x] r
    simpa [lval] using this
  rw [h1, h2, lval_append, lval_append, hp, ea, ea, List.length_cons, List.length_cons, el]
  have e1 : l[k] = 0 := by omega
  have e2 : m[k] = 1 := by omega
  rw [e1, e2]
  generalize lval (m.take k) * 2 ^ ((m.drop (k + 1)).length + 1) = t
  generalize (2 : Int) ^ (m.drop (k + 1)).length = u at *
  omega
/-- How two numbers stand. -/
def cmp (x y : Int) : Int := if x < y then -1 else if y < x then 1 else 0
theorem cmp_bd (x y : Int) : -1 ≤ cmp x y ∧ cmp x y ≤ 1 := by
  unfold cmp; repeat' split
  all_goals omega
theorem cmp_neg (x y : Int) : cmp (-x) (-y) = -cmp x y := by
  unfold cmp; repeat' split
  all_goals omega
theorem cmp_swap (x y : Int) : cmp y x = -cmp x y := by
  unfold cmp; repeat' split
  all_goals omega
theorem cmp_self (x : Int) : cmp x x = 0 := by unfold cmp; simp
theorem bits_cmp {l m : List Int} (hl : Bits l) (hm : Bits m) (he : l.length = m.length) {k : Nat} (hk : k < l.length) (hk' : k < m.length) (hp : l.take k = m.take k) (h : l[k] ≠ m[k]) : l[k] - m[k] = cmp (lval l) (lval m) := by
  have a0 := bits_get hl hk
  have b0 := bits_get hm hk'
  rcases Int.lt_or_gt_of_ne h with g | g
  · have := part_lt hl hm he hk hk' hp g
    unfold cmp; rw [if_pos this]; omega
  · have := part_lt hm hl he.symm hk' hk hp.symm g
    unfold cmp; rw [if_neg (by omega), if_pos this]; omega
/-- How two rates stand: products across. -/
def rates (an ad bn bd : Int) : Int := cmp (Sat.clip an * one bd) (Sat.clip bn * one ad)
/-- Two numbers in two words. -/
theorem cmp_words (x y : Int) : (cmp (x / 18446744073709551616) (y / 18446744073709551616) ≠ 0 → cmp (x / 18446744073709551616) (y / 18446744073709551616) = cmp x y) ∧
    (cmp (x / 18446744073709551616) (y / 18446744073709551616) = 0 → cmp (x % 18446744073709551616) (y % 18446744073709551616) = cmp x y) := by
  unfold cmp; constructor <;> intro h <;> (repeat' split) <;> (repeat' split at h) <;> omega
end Wide
end Go.Proofs.YtmmiboblofopgaaGreat

/- Plain mathematics of layer 3: what is in all spans, the least span around some. -/
namespace Go.Proofs.YtmmiboblofopgaaGreat
namespace Span
def mLo (l : List (Int × Int)) : Int := l.foldl (fun m s => max m s.1) (-2305843009213693952)
def mHi (l : List (Int × Int)) : Int := l.foldl (fun m s => min m s.2) 2305843009213693952
def hLo (l : List (Int × Int)) : Int := l.foldl (fun m s => if s.2 < s.1 then m else min m s.1) 2305843009213693952
def hHi (l : List (Int × Int)) : Int := l.foldl (fun m s => if s.2 < s.1 then m else max m s.2) (-2305843009213693952)
theorem mLo_snoc (l : List (Int × Int)) (s : Int × Int) : mLo (l ++ [s]) = max (mLo l) s.1 := by simp [mLo]
theorem mHi_snoc (l : List (Int × Int)) (s : Int × Int) : mHi (l ++ [s]) = min (mHi l) s.2 := by simp [mHi]
theorem hLo_snoc (l : List (Int × Int)) (s : Int × Int) : hLo (l ++ [s]) = if s.2 < s.1 then hLo l else min (hLo l) s.1 := by simp [hLo]
theorem hHi_snoc (l : List (Int × Int)) (s : Int × Int) : hHi (l ++ [s]) = if s.2 < s.1 then hHi l else max (hHi l) s.2 := by simp [hHi]
theorem snoc_ind {p : List (Int × Int) → Prop} (h0 : p []) (h1 : ∀ l s, p l → p (l ++ [s])) (l : List (Int × Int)) : p l := by
  have : ∀ n (l : List (Int × Int)), l.length = n → p l := by
    intro n
    induction n with
    | zero => intro l hl; rw [List.length_eq_zero_iff] at hl; subst hl; exact h0
    | succ n ih =>
      intro l hl
      rcases List.eq_nil_or_concat l with rfl | ⟨l', s, rfl⟩
      · simp at hl
      · rw [List.concat_eq_append] at hl ⊢; exact h1 l' s (ih l' (by simpa using hl))
  exact this _ l rfl
theorem mLo_ge (l : List (Int × Int)) : -2305843009213693952 ≤ mLo l := by
  induction l using snoc_ind with
  | h0 => decide
  | h1 l s ih => rw [mLo_snoc]; omega
theorem mHi_le (l : List (Int × Int)) : mHi l ≤ 2305843009213693952 := by
  induction l using snoc_ind with
  | h0 => decide
  | h1 l s ih => rw [mHi_snoc]; omega
theorem hLo_le (l : List (Int × Int)) : hLo l ≤ 2305843009213693952 := by
  induction l using snoc_ind with
  | h0 => decide
  | h1 l s ih => rw [hLo_snoc]; split <;> omega
theorem hHi_ge (l : List (Int × Int)) : -2305843009213693952 ≤ hHi l := by
  induction l using snoc_ind with
  | h0 => decide
  | h1 l s ih => rw [hHi_snoc]; split <;> omega
theorem mLo_iff (l : List (Int × Int)) (x : Int) : mLo l ≤ x ↔ -2305843009213693952 ≤ x ∧ ∀ s ∈ l, s.1 ≤ x := by
  induction l using snoc_ind with
  | h0 => simp [mLo]
  | h1 l s ih =>
    rw [mLo_snoc, Int.max_le, ih]
    constructor
    · rintro ⟨⟨h1, h2⟩, h3⟩
      exact ⟨h1, fun t ht => (List.mem_append.1 ht).elim (h2 t) (fun h => by rw [List.mem_singleton.1 h]; exact h3)⟩
    · rintro ⟨h1, h2⟩
      exact ⟨⟨h1, fun t ht => h2 t (by simp [ht])⟩, h2 s (by simp)⟩
theorem mHi_iff (l : List (Int × Int)) (x : Int) : x ≤ mHi l ↔ x ≤ 2305843009213693952 ∧ ∀ s ∈ l, x ≤ s.2 := by
  induction l using snoc_ind with
  | h0 => simp [mHi]
  | h1 l s ih =>
    rw [mHi_snoc, Int.le_min, ih]
    constructor
    · rintro ⟨⟨h1, h2⟩, h3⟩
      exact ⟨h1, fun t ht => (List.mem_append.1 ht).elim (h2 t) (fun h => by rw [List.mem_singleton.1 h]; exact h3)⟩
    · rintro ⟨h1, h2⟩
      exact ⟨⟨h1, fun t ht => h2 t (by simp [ht])⟩, h2 s (by simp)⟩
theorem hLo_iff (l : List (Int × Int)) (x : Int) : x ≤ hLo l ↔ x ≤ 2305843009213693952 ∧ ∀ s ∈ l, s.1 ≤ s.2 → x ≤ s.1 := by
  induction l using snoc_ind with
  | h0 => simp [hLo]
  | h1 l s ih =>
    rw [hLo_snoc]
    constructor
    · intro h
      have h' : x ≤ hLo l := by split at h <;> omega
      obtain ⟨h1, h2⟩ := ih.1 h'
      exact ⟨h1, fun t ht => (List.mem_append.1 ht).elim (h2 t) (fun ht hs => by rw [List.mem_singleton.1 ht] at hs ⊢; rw [if_neg (by omega)] at h; omega)⟩
    · rintro ⟨h1, h2⟩
      have h3 := ih.2 ⟨h1, fun t ht => h2 t (by simp [ht])⟩
      have h4 := h2 s (by simp)
      split <;> omega
theorem hHi_iff (l : List (Int × Int)) (x : Int) : hHi l ≤ x ↔ -2305843009213693952 ≤ x ∧ ∀ s ∈ l, s.1 ≤ s.2 → s.2 ≤ x := by
  induction l using snoc_ind with
  | h0 => simp [hHi]
  | h1 l s ih =>
    rw [hHi_snoc]
    constructor
    · intro h
      have h' : hHi l ≤ x := by split at h <;> omega
      obtain ⟨h1, h2⟩ := ih.1 h'
      exact ⟨h1, fun t ht => (List.mem_append.1 ht).elim (h2 t) (fun ht hs => by rw [List.mem_singleton.1 ht] at hs ⊢; rw [if_neg (by omega)] at h; omega)⟩
    · rintro ⟨h1, h2⟩
      have h3 := ih.2 ⟨h1, fun t ht => h2 t (by simp [ht])⟩
      have h4 := h2 s (by simp)
      split <;> omega
/-- These hang on what stands in the list alone. -/
theorem same {l k : List (Int × Int)} (h : ∀ s, s ∈ l ↔ s ∈ k) : mLo l = mLo k ∧ mHi l = mHi k ∧ hLo l = hLo k ∧ hHi l = hHi k := by
  refine ⟨Int.le_antisymm ?_ ?_, Int.le_antisymm ?_ ?_, Int.le_antisymm ?_ ?_, Int.le_antisymm ?_ ?_⟩
  · exact (mLo_iff l _).2 ⟨mLo_ge k, fun s hs => ((mLo_iff k _).1 (Int.le_refl _)).2 s ((h s).1 hs)⟩
  · exact (mLo_iff k _).2 ⟨mLo_ge l, fun s hs => ((mLo_iff l _).1 (Int.le_refl _)).2 s ((h s).2 hs)⟩
  · exact (mHi_iff k _).2 ⟨mHi_le l, fun s hs => ((mHi_iff l _).1 (Int.le_refl _)).2 s ((h s).2 hs)⟩
  · exact (mHi_iff l _).2 ⟨mHi_le k, fun s hs => ((mHi_iff k _).1 (Int.le_refl _)).2 s ((h s).1 hs)⟩
  · exact (hLo_iff k _).2 ⟨hLo_le l, fun s hs => ((hLo_iff l _).1 (Int.le_refl _)).2 s ((h s).2 hs)⟩
  · exact (hLo_iff l _).2 ⟨hLo_le k, fun s hs => ((hLo_iff k _).1 (Int.le_refl _)).2 s ((h s).1 hs)⟩
  · exact (hHi_iff l _).2 ⟨hHi_ge k, fun s hs => ((hHi_iff k _).1 (Int.le_refl _)).2 s ((h s).1 hs)⟩
  · exact (hHi_iff k _).2 ⟨hHi_ge l, fun s hs => ((hHi_iff l _).1 (Int.le_refl _)).2 s ((h s).2 hs)⟩
/-- Clipped as it goes, or at the end: it is one. -/
theorem clip_max (m x : Int) : Sat.clip (max (Sat.clip m) x) = Sat.clip (max m x) := by unfold Sat.clip; repeat' split
                                                                                        all_goals omega
theorem clip_min (m x : Int) : Sat.clip (min (Sat.clip m) x) = Sat.clip (min m x) := by unfold Sat.clip; repeat' split
                                                                                        all_goals omega
theorem half_even {n : Int} (h : n % 2 = 0) : n.tmod 2 = 0 ∧ n.tdiv 2 = n / 2 := by
  obtain ⟨k, rfl⟩ : ∃ k, n = 2 * k := ⟨n / 2, by omega⟩
  exact ⟨Int.mul_tmod_right 2 k, by rw [Int.mul_tdiv_cancel_left _ (by decide)]; omega⟩
theorem half_odd {n : Int} (h : ¬ n % 2 = 0) : n.tmod 2 ≠ 0 ∧ (n - 1).tdiv 2 = n / 2 := by
  refine ⟨fun h0 => ?_, (half_even (n := n - 1) (by omega)).2.trans (by omega)⟩
  have := Int.dvd_of_tmod_eq_zero h0
  omega
end Span
end Go.Proofs.YtmmiboblofopgaaGreat

/- Plain mathematics of layer 6: messages as frames. -/
namespace Go.Proofs.YtmmiboblofopgaaGreat
/-- A message. -/
structure Msg where
  kind : Int
  frm : Int
  lo : Int
  hi : Int
  held : Int
  hops : Int
  good : Bool
  ref : Bool
  slo : Int
  shi : Int
  pulse : Int
  time : Int
  num : Int
  table : List (Int × Int)
  deriving DecidableEq
namespace Wire
/-- Entries behind one with offset 'off' whose next may be at 'lo' at the earliest. -/
def tabFrom (lo off : Int) : List (Int × Int) → Bool
  | [] => true
  | e :: l => decide (lo ≤ e.1 ∧ e.1 ≤ 1099511627776 ∧ -32 ≤ e.2 ∧ e.2 ≤ 32 ∧ (e.2 = off + 1 ∨ e.2 = off - 1)) && tabFrom (e.1 + 86400) e.2 l
/-- A leap table. -/
def tab (l : List (Int × Int)) : Bool := decide (l.length ≤ 32) && tabFrom 0 0 l
/-- A message that can be, but for its table. -/
def goodN (m : Msg) : Bool := decide ((m.kind = 1 ∨ m.kind = 2) ∧ 0 ≤ m.frm ∧ m.frm ≤ 47 ∧ 0 ≤ m.held ∧ m.held ≤ 1073741824 ∧ 0 ≤ m.hops ∧ m.hops ≤ 17) &&
  decide ((-2305843009213693952 ≤ m.lo ∧ m.lo ≤ 2305843009213693952) ∧ (-2305843009213693952 ≤ m.hi ∧ m.hi ≤ 2305843009213693952) ∧ (-2305843009213693952 ≤ m.slo ∧ m.slo ≤ 2305843009213693952) ∧ (-2305843009213693952 ≤ m.shi ∧ m.shi ≤ 2305843009213693952) ∧
    (-2305843009213693952 ≤ m.pulse ∧ m.pulse ≤ 2305843009213693952) ∧ (-2305843009213693952 ≤ m.time ∧ m.time ≤ 2305843009213693952) ∧ 0 ≤ m.num ∧ m.num ≤ 1073741824)
def good (m : Msg) : Bool := goodN m && tab m.table
/-- A number's n lowest bytes, the highest first. -/
def bytesBE : Nat → Int → List Nat
  | 0, _ => []
  | n + 1, x => bytesBE n (x / 256) ++ [(x % 256).toNat]
def eight (x : Int) : List Nat := bytesBE 8 x
theorem bytesBE_length (n : Nat) (x : Int) : (bytesBE n x).length = n := by
  induction n generalizing x with
  | zero => rfl
  | succ n ih => simp [bytesBE, ih]
theorem bytesBE_lt (n : Nat) (x : Int) : ∀ b ∈ bytesBE n x, b < 256 := by
  induction n generalizing x with
  | zero => intro b hb; cases hb
  | succ n ih =>
    intro b hb
    rcases List.mem_append.1 hb with h | h
    · exact ih _ b h
    · simp at h; omega
theorem eight_length (x : Int) : (eight x).length = 8 := bytesBE_length 8 x
theorem eight_lt (x : Int) : ∀ b ∈ eight x, b < 256 := bytesBE_lt 8 x
/-- Bytes as a number, the highest first. -/
def big (l : List Nat) : Nat := l.foldl (fun n b => n * 256 + b) 0
theorem big_snoc (l : List Nat) (b : Nat) : big (l ++ [b]) = big l * 256 + b := by simp [big]
theorem snoc_ind {P : List Nat → Prop} (h0 : P []) (hs : ∀ l b, P l → P (l ++ [b])) (l : List Nat) : P l := by
  have : ∀ r : List Nat, P r.reverse := fun r => by
    induction r with
    | nil => exact h0
    | cons b r ih => rw [List.reverse_cons]; exact hs _ b ih
  have h := this l.reverse
  rwa [List.reverse_reverse] at h
theorem big_lt (l : List Nat) : (∀ b ∈ l, b < 256) → big l < 256 ^ l.length := by
  induction l using snoc_ind with
  | h0 => intro _; decide
  | hs l b ih =>
    intro h
    have h1 := ih fun x hx => h x (List.mem_append_left _ hx)
    have h2 := h b (by simp)
    rw [big_snoc, List.length_append, List.length_singleton, Nat.pow_succ]
    omega
theorem pow256_pos (n : Nat) : (0 : Int) < 256 ^ n := Int.pow_pos (by decide)
theorem big_bytes (n : Nat) (x : Int) : ((big (bytesBE n x) : Nat) : Int) = x % 256 ^ n := by
  induction n generalizing x with
  | zero => simp [bytesBE, big, Int.emod_one]
  | succ n ih =>
    rw [bytesBE, big_snoc, Int.natCast_add, Int.natCast_mul, ih, Int.toNat_of_nonneg (Int.emod_nonneg _ (by decide))]
    have e : (256 : Int) ^ (n + 1) = 256 * 256 ^ n := by rw [Int.pow_succ, Int.mul_comm]
    rw [e]
    have h1 := Int.mul_ediv_add_emod x 256
    have h2 := Int.mul_ediv_add_emod (x / 256) (256 ^ n)
    have h3 : x / (256 * 256 ^ n) = x / 256 / 256 ^ n := (Int.ediv_ediv_of_nonneg (x := x) (y := 256) (z := 256 ^ n) (by decide)).symm
    have h4 := Int.mul_ediv_add_emod x (256 * 256 ^ n)
    rw [h3, Int.mul_assoc] at h4
    have h5 : (256 : Int) * (256 ^ n * (x / 256 / 256 ^ n)) = 256 * (x / 256) - 256 * (x / 256 % 256 ^ n) := by
      rw [← Int.mul_sub]; congr 1; omega
    rw [h5] at h4
    show x / 256 % 256 ^ n * 256 + x % 256 = _
    omega
theorem bytes_big (l : List Nat) : (∀ b ∈ l, b < 256) → bytesBE l.length (big l : Nat) = l := by
  induction l using snoc_ind with
  | h0 => intro _; rfl
  | hs l b ih =>
    intro h
    have h1 := ih fun x hx => h x (List.mem_append_left _ hx)
    have h2 := h b (by simp)
    rw [List.length_append, List.length_singleton, bytesBE, big_snoc]
    rw [show (((big l * 256 + b : Nat) : Int) / 256) = ((big l : Nat) : Int) by omega, h1]
    congr 2
    omega
theorem bytes_mod (n : Nat) (x k : Int) : bytesBE n (x + 256 ^ n * k) = bytesBE n x := by
  induction n generalizing x k with
  | zero => rfl
  | succ n ih =>
    have e : (256 : Int) ^ (n + 1) * k = 256 * (256 ^ n * k) := by rw [Int.pow_succ, Int.mul_comm (256 ^ n) 256, Int.mul_assoc]
    rw [bytesBE, bytesBE, e]
    rw [show (x + 256 * (256 ^ n * k)) / 256 = x / 256 + 256 ^ n * k by omega, ih, show (x + 256 * (256 ^ n * k)) % 256 = x % 256 by omega]
/-- Eight bytes as a number with a sign. -/
def num (l : List Nat) : Int := if big l < 9223372036854775808 then (big l : Int) else (big l : Int) - 18446744073709551616
theorem num_eight {x : Int} (h0 : -9223372036854775808 ≤ x) (h1 : x ≤ 9223372036854775807) : num (eight x) = x := by
  have h := big_bytes 8 x
  unfold num eight
  rw [show (256 : Int) ^ 8 = 18446744073709551616 from by decide] at h
  split <;> omega
theorem eight_num {l : List Nat} (hl : l.length = 8) (hb : ∀ b ∈ l, b < 256) : eight (num l) = l := by
  have h := bytes_big l hb
  rw [hl] at h
  unfold num eight
  split
  · exact h
  · have := bytes_mod 8 (big l : Int) (-1)
    rw [show (256 : Int) ^ 8 = 18446744073709551616 from by decide] at this
    rw [show (big l : Int) - 18446744073709551616 = (big l : Int) + 18446744073709551616 * -1 by omega, this]
    exact h
theorem num_bd {l : List Nat} (hl : l.length = 8) (hb : ∀ b ∈ l, b < 256) : -9223372036854775808 ≤ num l ∧ num l ≤ 9223372036854775807 := by
  have := big_lt l hb
  rw [hl] at this
  unfold num
  split <;> omega
def flags (m : Msg) : Nat := (if m.good then 1 else 0) + (if m.ref then 2 else 0)
/-- The first four bytes. -/
def head (m : Msg) : List Nat := [m.kind.toNat, m.frm.toNat, flags m, m.table.length]
/-- The nine numbers. -/
def nine (m : Msg) : List Int := [m.lo, m.hi, m.held, m.hops, m.slo, m.shi, m.pulse, m.time, m.num]
/-- The table's numbers. -/
def flat (l : List (Int × Int)) : List Int := l.flatMap fun e => [e.1, e.2]
def eights (l : List Int) : List Nat := l.flatMap eight
/-- What stands ahead of the check. -/
def frame (m : Msg) : List Nat := head m ++ eights (nine m) ++ eights (flat m.table)
theorem eights_length (l : List Int) : (eights l).length = 8 * l.length := by
  induction l with
  | nil => rfl
  | cons x l ih => simp only [eights, List.flatMap_cons, List.length_append, eight_length, List.length_cons] at *; omega
theorem flat_length (l : List (Int × Int)) : (flat l).length = 2 * l.length := by
  induction l with
  | nil => rfl
  | cons x l ih => simp only [flat, List.flatMap_cons, List.length_append, List.length_cons, List.length_nil] at *; omega
theorem frame_length (m : Msg) : (frame m).length = 76 + 16 * m.table.length := by
  simp only [frame, List.length_append, eights_length, flat_length, head, nine, List.length_cons, List.length_nil]
  omega
theorem eights_lt (l : List Int) : ∀ b ∈ eights l, b < 256 := by
  intro b hb
  obtain ⟨x, _, hx⟩ := List.mem_flatMap.1 hb
  exact eight_lt x b hx
/-- The k-th eight bytes. -/
def at8 (b : List Nat) (k : Nat) : Int := num ((b.drop (8 * k)).take 8)
theorem eights_drop (l : List Int) (k : Nat) : (eights l).drop (8 * k) = eights (l.drop k) := by
  induction k generalizing l with
  | zero => simp
  | succ k ih =>
    cases l with
    | nil => simp [eights]
    | cons x l =>
      rw [List.drop_succ_cons, ← ih, show 8 * (k + 1) = 8 + 8 * k by omega, ← List.drop_drop]
      rfl
theorem at8_eights {l : List Int} {k : Nat} (hk : k < l.length) (hb : ∀ x ∈ l, -9223372036854775808 ≤ x ∧ x ≤ 9223372036854775807) : at8 (eights l) k = l[k] := by
  unfold at8
  rw [eights_drop, List.drop_eq_getElem_cons hk]
  show num ((eight l[k] ++ eights (l.drop (k + 1))).take 8) = _
  rw [List.take_append_of_le_length (by rw [eight_length]; exact Nat.le_refl _), List.take_of_length_le (by rw [eight_length]; exact Nat.le_refl _)]
  exact num_eight (hb _ (List.getElem_mem _)).1 (hb _ (List.getElem_mem _)).2
/-- Bytes, eight by eight. -/
theorem eights_at8 (n : Nat) (b : List Nat) (hl : b.length = 8 * n) (hb : ∀ x ∈ b, x < 256) : eights ((List.range n).map (at8 b)) = b := by
  induction n generalizing b with
  | zero => have : b = [] := List.length_eq_zero_iff.1 (by omega)
            subst this; rfl
  | succ n ih =>
    rw [List.range_succ_eq_map, List.map_cons, List.map_map]
    have h1 := ih (b.drop 8) (by simp; omega) (fun x hx => hb x (List.mem_of_mem_drop hx))
    have e : (at8 b ∘ Nat.succ) = at8 (b.drop 8) := by
      funext k
      simp only [Function.comp, at8, List.drop_drop]
      rw [show 8 * Nat.succ k = 8 + 8 * k by omega]
    rw [e]
    show eight (at8 b 0) ++ eights ((List.range n).map (at8 (b.drop 8))) = b
    rw [h1]
    have h2 : eight (at8 b 0) = b.take 8 := by
      unfold at8
      simp only [Nat.mul_zero, List.drop_zero]
      exact eight_num (by simp; omega) (fun x hx => hb x (List.mem_of_mem_take hx))
    rw [h2, List.take_append_drop]
/-- What stands behind the first four bytes, as numbers. -/
def rest8 (b : List Nat) (k : Nat) : Int := at8 (b.drop 4) k
def byteAt (b : List Nat) (i : Nat) : Nat := b[i]?.getD 0
/-- The message of bytes. -/
def parse (b : List Nat) : Msg :=
  { kind := byteAt b 0, frm := byteAt b 1, lo := rest8 b 0, hi := rest8 b 1, held := rest8 b 2, hops := rest8 b 3, good := byteAt b 2 % 2 == 1, ref := byteAt b 2 / 2 % 2 == 1, slo := rest8 b 4, shi := rest8 b 5, pulse := rest8 b 6, time := rest8 b 7, num := rest8 b 8,
    table := (List.range (byteAt b 3)).map fun i => (rest8 b (9 + 2 * i), rest8 b (10 + 2 * i)) }
/-- Have they the length that they tell? -/
def fits (b : List Nat) : Bool := decide (76 ≤ b.length ∧ b.length = 76 + 16 * byteAt b 3)
theorem flat_range (f : Nat → Int) (n : Nat) : flat ((List.range n).map fun i => (f (9 + 2 * i), f (10 + 2 * i))) = (List.range (2 * n)).map fun j => f (9 + j) := by
  induction n with
  | zero => rfl
  | succ n ih =>
    rw [List.range_succ, List.map_append, show 2 * (n + 1) = 2 * n + 1 + 1 by omega, List.range_succ, List.range_succ]
    simp only [flat, List.flatMap_append, List.map_append, List.map_cons, List.map_nil, List.flatMap_cons, List.flatMap_nil, List.append_nil] at *
    rw [ih, List.append_assoc]
    simp only [List.singleton_append]
    congr 4
    omega
theorem nums_range (f : Nat → Int) (n : Nat) : [f 0, f 1, f 2, f 3, f 4, f 5, f 6, f 7, f 8] ++ (List.range n).map (fun j => f (9 + j)) = (List.range (9 + n)).map f := by
  rw [List.range_add, List.map_append, List.map_map]
  rfl
theorem byteAt_lt {b : List Nat} (hb : ∀ x ∈ b, x < 256) (i : Nat) : byteAt b i < 256 := by
  unfold byteAt
  cases h : b[i]? with
  | none => decide
  | some x => exact hb x (List.mem_of_getElem? h)
/-- What was read has that frame, but for flags that no message has. -/
theorem frame_parse {b : List Nat} (hb : ∀ x ∈ b, x < 256) (hf : fits b = true) : frame (parse b) = [byteAt b 0, byteAt b 1, byteAt b 2 % 4, byteAt b 3] ++ b.drop 4 := by
  simp only [fits, decide_eq_true_eq] at hf
  have e1 : eights (nine (parse b)) ++ eights (flat (parse b).table) = b.drop 4 := by
    have h1 := flat_range (rest8 b) (byteAt b 3)
    have h2 := nums_range (rest8 b) (2 * byteAt b 3)
    have h3 := eights_at8 (9 + 2 * byteAt b 3) (b.drop 4) (by simp; omega) (fun x hx => hb x (List.mem_of_mem_drop hx))
    rw [show at8 (b.drop 4) = rest8 b from rfl, ← h2, ← h1] at h3
    simp only [eights, List.flatMap_append] at h3 ⊢
    exact h3
  have e2 : head (parse b) = [byteAt b 0, byteAt b 1, byteAt b 2 % 4, byteAt b 3] := by
    have hfl : flags (parse b) = byteAt b 2 % 4 := by
      simp only [flags, parse, beq_iff_eq]
      have h1 := Nat.mod_two_eq_zero_or_one (byteAt b 2)
      have h2 := Nat.mod_two_eq_zero_or_one (byteAt b 2 / 2)
      rcases h1 with h1 | h1 <;> rcases h2 with h2 | h2 <;> simp only [h1, h2] <;> simp <;> omega
    unfold head
    rw [hfl]
    simp [parse]
  unfold frame
  rw [List.append_assoc, e1, e2]
theorem four_drop {b : List Nat} (h : 4 ≤ b.length) : [byteAt b 0, byteAt b 1, byteAt b 2, byteAt b 3] ++ b.drop 4 = b := by
  match b, h with
  | a :: b :: c :: d :: l, _ => rfl
theorem frame_parse_iff {b : List Nat} (hb : ∀ x ∈ b, x < 256) (hf : fits b = true) : frame (parse b) = b ↔ byteAt b 2 < 4 := by
  rw [frame_parse hb hf]
  simp only [fits, decide_eq_true_eq] at hf
  have h4 := four_drop (b := b) (by omega)
  constructor
  · intro h
    rw [← h4] at h
    have := List.append_cancel_right h
    simp at this
    have h5 : byteAt b 2 = byteAt b 2 % 4 := by
      have h6 := congrArg (fun l => byteAt l 2) h
      simp [byteAt] at h6
      unfold byteAt
      omega
    omega
  · intro h
    rw [Nat.mod_eq_of_lt h]; exact h4
/-- Numbers that a message that can be has are small. -/
theorem tabFrom_bd : ∀ (l : List (Int × Int)) (lo off : Int), 0 ≤ lo → tabFrom lo off l = true → ∀ e ∈ l, (0 ≤ e.1 ∧ e.1 ≤ 1099511627776) ∧ -32 ≤ e.2 ∧ e.2 ≤ 32
  | [], _, _, _, _, e, he => by cases he
  | x :: l, lo, off, h0, h, e, he => by
    simp only [tabFrom, Bool.and_eq_true, decide_eq_true_eq] at h
    rcases List.mem_cons.1 he with rfl | he
    · omega
    · exact tabFrom_bd l _ _ (by omega) h.2 e he
theorem flat_mem {l : List (Int × Int)} {x : Int} (h : x ∈ flat l) : ∃ e ∈ l, x = e.1 ∨ x = e.2 := by
  obtain ⟨e, he, hx⟩ := List.mem_flatMap.1 h
  exact ⟨e, he, by simpa using hx⟩
theorem good_bd {m : Msg} (h : good m = true) : ∀ x ∈ nine m ++ flat m.table, -9223372036854775808 ≤ x ∧ x ≤ 9223372036854775807 := by
  simp only [good, goodN, tab, Bool.and_eq_true, decide_eq_true_eq] at h
  intro x hx
  rcases List.mem_append.1 hx with hx | hx
  · simp only [nine, List.mem_cons, List.not_mem_nil, or_false] at hx
    rcases hx with rfl | rfl | rfl | rfl | rfl | rfl | rfl | rfl | rfl <;> omega
  · obtain ⟨e, he, hx⟩ := flat_mem hx
    have := tabFrom_bd m.table 0 0 (by decide) h.2.2 e he
    rcases hx with rfl | rfl <;> omega
theorem flat_at : ∀ (l : List (Int × Int)) (k : Nat) (h : k < l.length), (flat l)[2 * k]? = some l[k].1 ∧ (flat l)[2 * k + 1]? = some l[k].2
  | [], k, h => absurd h (Nat.not_lt_zero k)
  | x :: l, 0, _ => ⟨rfl, rfl⟩
  | x :: l, k + 1, h => by
    have := flat_at l k (by simpa using h)
    rw [show 2 * (k + 1) = 2 * k + 2 by omega]
    exact this
theorem frame_head (m : Msg) : byteAt (frame m) 0 = m.kind.toNat ∧ byteAt (frame m) 1 = m.frm.toNat ∧ byteAt (frame m) 2 = flags m ∧ byteAt (frame m) 3 = m.table.length ∧ (frame m).drop 4 = eights (nine m ++ flat m.table) := by
  refine ⟨rfl, rfl, rfl, rfl, ?_⟩
  show eights (nine m) ++ eights (flat m.table) = _
  simp [eights]
/-- A message is read from its frame as it is. -/
theorem parse_frame {m : Msg} (h : good m = true) : fits (frame m) = true ∧ parse (frame m) = m := by
  obtain ⟨h0, h1, h2, h3, h4⟩ := frame_head m
  have hbd := good_bd h
  refine ⟨by simp only [fits, decide_eq_true_eq]; rw [frame_length, h3]; omega, ?_⟩
  have hl : (nine m ++ flat m.table).length = 9 + 2 * m.table.length := by simp [nine, flat_length]; omega
  have hr : ∀ k (hk : k < 9 + 2 * m.table.length), rest8 (frame m) k = (nine m ++ flat m.table)[k]'(by rw [hl]; exact hk) := fun k hk => by
    unfold rest8
    rw [h4]
    exact at8_eights (by rw [hl]; exact hk) hbd
  have ht : ((List.range m.table.length).map fun i => (rest8 (frame m) (9 + 2 * i), rest8 (frame m) (10 + 2 * i))) = m.table := by
    apply List.ext_getElem (by simp)
    intro k hk1 hk2
    have hk : k < m.table.length := hk2
    obtain ⟨f1, f2⟩ := flat_at m.table k hk
    have g1 := hr (9 + 2 * k) (by omega)
    have g2 := hr (10 + 2 * k) (by omega)
    rw [List.getElem_append_right (by simp only [nine, List.length_cons, List.length_nil]; omega)] at g1
    rw [List.getElem_append_right (by simp only [nine, List.length_cons, List.length_nil]; omega)] at g2
    have e1 : (flat m.table)[2 * k]? = some (rest8 (frame m) (9 + 2 * k)) := by
      rw [g1, List.getElem?_eq_getElem (by rw [flat_length]; omega)]
      congr 2
      simp only [nine, List.length_cons, List.length_nil]; omega
    have e2 : (flat m.table)[2 * k + 1]? = some (rest8 (frame m) (10 + 2 * k)) := by
      rw [g2, List.getElem?_eq_getElem (by rw [flat_length]; omega)]
      congr 2
      simp only [nine, List.length_cons, List.length_nil]; omega
    rw [f1] at e1
    rw [f2] at e2
    simp only [List.getElem_map, List.getElem_range]
    rw [← Option.some.inj e1, ← Option.some.inj e2]
  simp only [good, goodN, Bool.and_eq_true, decide_eq_true_eq] at h
  have hg : (flags m % 2 == 1) = m.good ∧ (flags m / 2 % 2 == 1) = m.ref := by
    unfold flags
    cases m.good <;> cases m.ref <;> exact ⟨rfl, rfl⟩
  unfold parse
  rw [h0, h1, h2, h3, ht, hg.1, hg.2]
  have n := fun k (hk : k < 9) => hr k (by omega)
  rw [n 0 (by omega), n 1 (by omega), n 2 (by omega), n 3 (by omega), n 4 (by omega), n 5 (by omega), n 6 (by omega), n 7 (by omega), n 8 (by omega)]
  rw [Int.toNat_of_nonneg (by omega), Int.toNat_of_nonneg (by omega)]
  rfl
theorem frame_lt {m : Msg} (h : good m = true) : ∀ b ∈ frame m, b < 256 := by
  simp only [good, goodN, tab, Bool.and_eq_true, decide_eq_true_eq] at h
  intro b hb
  unfold frame at hb
  rcases List.mem_append.1 hb with hb | hb
  · rcases List.mem_append.1 hb with hb | hb
    · simp only [head, List.mem_cons, List.not_mem_nil, or_false] at hb
      have hfl : flags m < 4 := by unfold flags; cases m.good <;> cases m.ref <;> decide
      rcases hb with rfl | rfl | rfl | rfl <;> omega
    · exact eights_lt _ b hb
  · exact eights_lt _ b hb
theorem frame_inj {m n : Msg} (hm : good m = true) (hn : good n = true) (h : frame m = frame n) : m = n := by
  rw [← (parse_frame hm).2, ← (parse_frame hn).2, h]
theorem good_short {m : Msg} (h : good m = true) : m.table.length ≤ 32 := by
  simp only [good, tab, Bool.and_eq_true, decide_eq_true_eq] at h
  exact h.2.1
end Wire
end Go.Proofs.YtmmiboblofopgaaGreat

/- Plain mathematics of layer 7: the k-th least, fusion of spans of which some lie. It names no program. -/
namespace Go.Proofs.YtmmiboblofopgaaGreat
namespace Trim
/-- How many of l are below x, and how many aren't above it. -/
def lt (x : Int) (l : List Int) : Nat := l.countP fun y => decide (y < x)
def le (x : Int) (l : List Int) : Nat := l.countP fun y => decide (y ≤ x)
/-- v is the k-th least of l. -/
def Pick (k : Nat) (l : List Int) (v : Int) : Prop := v ∈ l ∧ lt v l ≤ k ∧ k < le v l
theorem countP_mono {α : Type} {p q : α → Bool} {l : List α} (h : ∀ a ∈ l, p a = true → q a = true) : l.countP p ≤ l.countP q := by
  induction l with
  | nil => simp
  | cons a l ih =>
    have ih := ih fun b hb => h b (by simp [hb])
    have ha := h a (by simp)
    rw [List.countP_cons, List.countP_cons]
    cases hp : p a <;> cases hq : q a <;> simp_all <;> omega
theorem countP_not {α : Type} (p : α → Bool) (l : List α) : l.countP p + l.countP (fun a => !p a) = l.length := by
  induction l with
  | nil => simp
  | cons a l ih => rw [List.countP_cons, List.countP_cons, List.length_cons]; cases p a <;> simp <;> omega
/-- If p fails at most m times, and q at most n times, there is one of r, of which there are more, at which both hold. -/
theorem both {α : Type} {p q r : α → Bool} {l : List α} {m n : Nat} (hp : l.countP (fun a => !p a) ≤ m) (hq : l.countP (fun a => !q a) ≤ n) (hr : m + n < l.countP r) : ∃ a ∈ l, r a = true ∧ p a = true ∧ q a = true := by
  induction l generalizing m n with
  | nil => simp at hr
  | cons a l ih =>
    rw [List.countP_cons] at hp hq hr
    by_cases h : r a = true ∧ p a = true ∧ q a = true
    · exact ⟨a, by simp, h⟩
    · have key : ∃ b ∈ l, r b = true ∧ p b = true ∧ q b = true := by
        cases h1 : r a <;> cases h2 : p a <;> cases h3 : q a <;> simp [h1, h2, h3] at hp hq hr h
        all_goals first
          | exact ih hp hq (by omega)
          | exact ih (m := m - 1) (n := n) (by omega) (by omega) (by omega)
          | exact ih (m := m) (n := n - 1) (by omega) (by omega) (by omega)
          | exact ih (m := m - 1) (n := n - 1) (by omega) (by omega) (by omega)
      obtain ⟨b, hb, hx⟩ := key
      exact ⟨b, by simp [hb], hx⟩
theorem le_lt {x y : Int} (h : x < y) (l : List Int) : le x l ≤ lt y l := countP_mono fun a _ ha => by simp at *; omega
theorem Pick.unique {k : Nat} {l : List Int} {v u : Int} (h : Pick k l v) (g : Pick k l u) : v = u := by
  obtain ⟨-, h1, h2⟩ := h
  obtain ⟨-, g1, g2⟩ := g
  rcases Int.lt_trichotomy v u with c | c | c
  · have := le_lt c l; omega
  · exact c
  · have := le_lt c l; omega
theorem lt_perm {l m : List Int} (h : l.Perm m) (x : Int) : lt x l = lt x m := h.countP_eq _
theorem le_perm {l m : List Int} (h : l.Perm m) (x : Int) : le x l = le x m := h.countP_eq _
theorem Pick.perm {k : Nat} {l m : List Int} (h : l.Perm m) {v : Int} (hv : Pick k l v) : Pick k m v := ⟨h.mem_iff.1 hv.1, by rw [← lt_perm h]; exact hv.2.1, by rw [← le_perm h]; exact hv.2.2⟩
/-- There is one. -/
theorem Pick.exists {l : List Int} : ∀ {k : Nat}, k < l.length → ∃ v, Pick k l v := by
  -- the least of those that more than k aren't above
  intro k hk
  have hne : ∃ v ∈ l, k < le v l := by
    -- the greatest
    have hmax : ∀ (l : List Int), l ≠ [] → ∃ v ∈ l, ∀ y ∈ l, y ≤ v := by
      intro l
      induction l with
      | nil => intro h; exact absurd rfl h
      | cons a l ih =>
        intro _
        by_cases h : l = []
        · subst h; exact ⟨a, by simp, by simp⟩
        · obtain ⟨v, hv, hy⟩ := ih h
          by_cases c : a ≤ v
          · exact ⟨v, by simp [hv], fun y hy' => by rcases List.mem_cons.1 hy' with rfl | g; exact c; exact hy y g⟩
          · exact ⟨a, by simp, fun y hy' => by rcases List.mem_cons.1 hy' with rfl | g; exact Int.le_refl _; have := hy y g; omega⟩
    obtain ⟨v, hv, hy⟩ := hmax l (by intro h; subst h; simp at hk)
    refine ⟨v, hv, ?_⟩
    have : le v l = l.length := by
      unfold le; rw [List.countP_eq_length]; intro a ha; simpa using hy a ha
    omega
  have hmin : ∀ (m : List Int), (∃ v ∈ m, k < le v l) → ∃ v ∈ m, k < le v l ∧ ∀ y ∈ m, k < le y l → v ≤ y := by
    intro m
    induction m with
    | nil => rintro ⟨v, hv, -⟩; simp at hv
    | cons a m ih =>
      rintro ⟨v, hv, hk'⟩
      by_cases hm : ∃ v ∈ m, k < le v l
      · obtain ⟨u, hu, hku, huy⟩ := ih hm
        by_cases ha : k < le a l ∧ a < u
        · exact ⟨a, by simp, ha.1, fun y hy hky => by rcases List.mem_cons.1 hy with rfl | g; exact Int.le_refl _; have := huy y g hky; omega⟩
        · exact ⟨u, by simp [hu], hku, fun y hy hky => by rcases List.mem_cons.1 hy with rfl | g; exact Int.not_lt.1 fun c => ha ⟨hky, c⟩; exact huy y g hky⟩
      · rcases List.mem_cons.1 hv with rfl | g
        · exact ⟨v, by simp, hk', fun y hy hky => by rcases List.mem_cons.1 hy with rfl | g; exact Int.le_refl _; exact absurd ⟨y, g, hky⟩ hm⟩
        · exact absurd ⟨v, g, hk'⟩ hm
  obtain ⟨v, hv, hkv, hy⟩ := hmin l hne
  refine ⟨v, hv, ?_, hkv⟩
  -- below v there are at most k: else the greatest below v would do
  apply Classical.byContradiction
  intro hc
  have hc : k < lt v l := by omega
  have hg : ∀ (m : List Int), (∃ u ∈ m, u < v) → ∃ u ∈ m, u < v ∧ ∀ y ∈ m, y < v → y ≤ u := by
    intro m
    induction m with
    | nil => rintro ⟨u, hu, -⟩; simp at hu
    | cons a m ih =>
      rintro ⟨u, hu, huv⟩
      by_cases hm : ∃ u ∈ m, u < v
      · obtain ⟨z, hz, hzv, hzy⟩ := ih hm
        by_cases ha : a < v ∧ z < a
        · exact ⟨a, by simp, ha.1, fun y hy hyv => by rcases List.mem_cons.1 hy with rfl | g; exact Int.le_refl _; have := hzy y g hyv; omega⟩
        · exact ⟨z, by simp [hz], hzv, fun y hy hyv => by rcases List.mem_cons.1 hy with rfl | g; exact Int.not_lt.1 fun c => ha ⟨hyv, c⟩; exact hzy y g hyv⟩
      · rcases List.mem_cons.1 hu with rfl | g
        · exact ⟨u, by simp, huv, fun y hy hyv => by rcases List.mem_cons.1 hy with rfl | g; exact Int.le_refl _; exact absurd ⟨y, g, hyv⟩ hm⟩
        · exact absurd ⟨u, g, huv⟩ hm
  have hex : ∃ u ∈ l, u < v := by
    apply Classical.byContradiction
    intro h
    have : lt v l = 0 := by
      unfold lt; rw [List.countP_eq_zero]; intro a ha; simp; exact Int.not_lt.1 fun c => h ⟨a, ha, c⟩
    omega
  obtain ⟨u, hu, huv, huy⟩ := hg l hex
  have h1 : lt v l ≤ le u l := countP_mono fun a ha hav => by simp at *; exact huy a ha hav
  have := hy u hu (by omega)
  omega
/-- The k-th greatest. -/
def PickMost (k : Nat) (l : List Int) (v : Int) : Prop := Pick (l.length - 1 - k) l v
theorem most_above {k : Nat} {l : List Int} {v : Int} (hk : k < l.length) (h : PickMost k l v) : l.countP (fun y => decide (v < y)) ≤ k ∧ k < l.countP (fun y => decide (v ≤ y)) := by
  obtain ⟨-, h1, h2⟩ := h
  have e1 := countP_not (fun y => decide (y ≤ v)) l
  have e2 := countP_not (fun y => decide (y < v)) l
  have f1 : l.countP (fun y => decide (v < y)) = l.countP (fun y => !decide (y ≤ v)) := by congr 1; funext y; simp [← decide_not, Int.not_le]
  have f2 : l.countP (fun y => decide (v ≤ y)) = l.countP (fun y => !decide (y < v)) := by congr 1; funext y; simp [← decide_not, Int.not_lt]
  unfold lt at h1; unfold le at h2
  omega
/-- If all but f aren't above x, the f-th greatest isn't; if all but f aren't below x, the f-th least isn't. -/
theorem most_le {f : Nat} {l : List Int} {v x : Int} (hf : f < l.length) (h : PickMost f l v) (hx : l.countP (fun y => decide (x < y)) ≤ f) : v ≤ x := by
  apply Int.not_lt.1; intro c
  have := (most_above hf h).2
  have h1 : l.countP (fun y => decide (v ≤ y)) ≤ l.countP (fun y => decide (x < y)) := countP_mono fun a _ ha => by simp at *; omega
  omega
theorem le_pick {f : Nat} {l : List Int} {v x : Int} (h : Pick f l v) (hx : l.countP (fun y => decide (y < x)) ≤ f) : x ≤ v := by
  apply Int.not_lt.1; intro c
  have := h.2.2
  have h1 : le v l ≤ l.countP (fun y => decide (y < x)) := countP_mono fun a _ ha => by simp at *; omega
  omega
/-- Fusion: a time that is in all spans but f is in the fused one; and that isn't wider than one that has the time, if there are 2 f + 1 of these. -/
theorem fuse_holds {f : Nat} {l : List (Int × Int)} {lo hi x : Int} (hf : f < l.length) (hlo : PickMost f (l.map (·.1)) lo) (hhi : Pick f (l.map (·.2)) hi) (hx : l.countP (fun s => !decide (s.1 ≤ x ∧ x ≤ s.2)) ≤ f) :
    lo ≤ x ∧ x ≤ hi ∧ (2 * f + 1 ≤ l.countP (fun s => decide (s.1 ≤ x ∧ x ≤ s.2)) → ∃ s ∈ l, (s.1 ≤ x ∧ x ≤ s.2) ∧ s.1 ≤ lo ∧ hi ≤ s.2) := by
  refine ⟨most_le (by simpa using hf) hlo ?_, le_pick hhi ?_, fun h => ?_⟩
  · rw [List.countP_map]
    refine Nat.le_trans (countP_mono fun s _ hs => ?_) hx
    simp at *; omega
  · rw [List.countP_map]
    refine Nat.le_trans (countP_mono fun s _ hs => ?_) hx
    simp at *; omega
  · have a1 := (most_above (by simpa using hf) hlo).1
    have a2 := hhi.2.1
    unfold lt at a2
    rw [List.countP_map] at a1 a2
    obtain ⟨s, hs, h1, h2, h3⟩ := both (p := fun s => decide (s.1 ≤ lo)) (q := fun s : Int × Int => decide (hi ≤ s.2)) (r := fun s => decide (s.1 ≤ x ∧ x ≤ s.2)) (l := l) (m := f) (n := f)
      (Nat.le_trans (countP_mono fun s _ hs => by simp at *; omega) a1) (Nat.le_trans (countP_mono fun s _ hs => by simp at *; omega) a2) (by omega)
    exact ⟨s, hs, by simpa using h1, by simpa using h2, by simpa using h3⟩
/-- All but f from lo to hi: so are the f-th least and the f-th greatest. -/
theorem between {f : Nat} {l : List Int} {lo hi a b : Int} (hf : 2 * f + 1 ≤ l.length) (ha : Pick f l a) (hb : PickMost f l b) (hw : l.countP (fun y => !decide (lo ≤ y ∧ y ≤ hi)) ≤ f) : (lo ≤ a ∧ a ≤ hi) ∧ (lo ≤ b ∧ b ≤ hi) := by
  have h1 : lo ≤ a := le_pick ha (Nat.le_trans (countP_mono fun y _ hy => by simp at *; omega) hw)
  have h2 : b ≤ hi := most_le (by omega) hb (Nat.le_trans (countP_mono fun y _ hy => by simp at *; omega) hw)
  have h3 : a ≤ b := by
    apply Int.not_lt.1; intro c
    have := le_lt c l
    have h4 := ha.2.1
    have h5 := hb.2.2
    omega
  omega
end Trim
end Go.Proofs.YtmmiboblofopgaaGreat

/- Plain mathematics of layer 7: the k-th least by a sorted list, and what is made of it. It names no program. -/
namespace Go.Proofs.YtmmiboblofopgaaGreat
namespace Trim
/-- The k-th of the sorted list. -/
def kth (k : Nat) (l : List Int) : Int := (l.mergeSort fun x y => decide (x ≤ y)).getD k 0
theorem sorted_pick {s : List Int} (hs : s.Pairwise (fun x y => x ≤ y)) {k : Nat} (hk : k < s.length) : Pick k s s[k] := by
  have e : s = s.take k ++ s.drop k := (List.take_append_drop k s).symm
  have hd : s.drop k = s[k] :: s.drop (k + 1) := List.drop_eq_getElem_cons hk
  have hp := hs
  rw [e] at hp
  obtain ⟨h1, h2, h3⟩ := List.pairwise_append.1 hp
  refine ⟨List.getElem_mem hk, ?_, ?_⟩
  · unfold lt
    have c1 : (s.take k).countP (fun y => decide (y < s[k])) ≤ k := by
      have := (s.take k).countP_le_length (p := fun y => decide (y < s[k]))
      simp only [List.length_take] at this; omega
    have c2 : (s.drop k).countP (fun y => decide (y < s[k])) = 0 := by
      rw [List.countP_eq_zero]
      intro a ha
      rw [hd] at ha h2
      rcases List.mem_cons.1 ha with rfl | h
      · simp
      · have := (List.pairwise_cons.1 h2).1 a h; simpa using this
    have : s.countP (fun y => decide (y < s[k])) = (s.take k).countP (fun y => decide (y < s[k])) + (s.drop k).countP (fun y => decide (y < s[k])) := by
      rw [← List.countP_append, List.take_append_drop]
    omega
  · unfold le
    have c1 : (s.take k).countP (fun y => decide (y ≤ s[k])) = k := by
      have : (s.take k).countP (fun y => decide (y ≤ s[k])) = (s.take k).length := by
        rw [List.countP_eq_length]
        intro a ha
        have := h3 a ha s[k] (by rw [hd]; exact List.mem_cons_self)
        simpa using this
      rw [this, List.length_take]; omega
    have c2 : 0 < (s.drop k).countP (fun y => decide (y ≤ s[k])) := by
      rw [List.countP_pos_iff]
      exact ⟨s[k], by rw [hd]; exact List.mem_cons_self, by simp⟩
    have : s.countP (fun y => decide (y ≤ s[k])) = (s.take k).countP (fun y => decide (y ≤ s[k])) + (s.drop k).countP (fun y => decide (y ≤ s[k])) := by
      rw [← List.countP_append, List.take_append_drop]
    omega
theorem kth_pick {k : Nat} {l : List Int} (hk : k < l.length) : Pick k l (kth k l) := by
  have hp := List.mergeSort_perm l (fun x y => decide (x ≤ y))
  have hs : (l.mergeSort fun x y => decide (x ≤ y)).Pairwise (fun x y => x ≤ y) :=
    (List.pairwise_mergeSort (le := fun x y : Int => decide (x ≤ y)) (fun a b c h1 h2 => by simp at *; omega) (fun a b => by simp; omega) l).imp (fun h => by simpa using h)
  have hk' : k < (l.mergeSort fun x y => decide (x ≤ y)).length := by rw [hp.length_eq]; exact hk
  have := sorted_pick hs hk'
  unfold kth
  rw [List.getD_eq_getElem?_getD, List.getElem?_eq_getElem hk']
  exact this.perm hp
/-- The k-th least, and whether there is one. -/
def val (k : Int) (l : List Int) : Int := if 0 ≤ k ∧ k < l.length then kth k.toNat l else 0
def is (k : Int) (n : Nat) : Bool := decide (0 ≤ k ∧ k < n)
theorem val_pick {k : Int} {l : List Int} (h : 0 ≤ k ∧ k < l.length) : Pick k.toNat l (val k l) := by
  unfold val; rw [if_pos h]; exact kth_pick (by omega)
theorem val_out {k : Int} {l : List Int} (h : ¬(0 ≤ k ∧ k < l.length)) : val k l = 0 := by unfold val; rw [if_neg h]
theorem val_of_pick {k : Int} {l : List Int} {v : Int} (h : 0 ≤ k ∧ k < l.length) (hv : Pick k.toNat l v) : val k l = v := (val_pick h).unique hv
theorem val_perm {k : Int} {l m : List Int} (hp : l.Perm m) : val k l = val k m := by
  have hl := hp.length_eq
  by_cases h : 0 ≤ k ∧ k < l.length
  · exact (val_of_pick (by omega) ((val_pick h).perm hp)).symm
  · rw [val_out h, val_out (by omega)]
theorem val_mem {k : Int} {l : List Int} (h : 0 ≤ k ∧ k < l.length) : val k l ∈ l := (val_pick h).1
/-- Whether the others are more than f. -/
def many (f : Int) (n : Nat) : Bool := decide (0 ≤ f ∧ f < n - f)
/-- The greatest of those that are left, and the least. -/
def mid (f : Int) (l : List Int) (c : Int → Int) : Int := if many f l.length then (c (val f l) + c (val (l.length - 1 - f) l)) / 2 else 0
/-- How many are the same. -/
def same (l : List Int) (x : Int) : Nat := l.countP fun y => decide (x = y)
/-- The place of the one of which there are most, more than m. -/
def best (l : List Int) : List Int → Nat → Int → Int → Int × Int
  | [], _, b, m => (b, m)
  | x :: r, i, b, m => if m < (same l x : Int) then best l r (i + 1) i (same l x) else best l r (i + 1) b m
end Trim
end Go.Proofs.YtmmiboblofopgaaGreat

/- Plain mathematics of layer 4: where numbers may be so, nothing is clipped; what rises. It names no program. -/
namespace Go.Proofs.YtmmiboblofopgaaGreat
namespace Lim
theorem sum2 (a b : Int) : Sat.sum [a, b] = Sat.clip (Sat.clip a + Sat.clip b) := by
  have e1 : Sat.sum [a, b] = Sat.clip (Sat.sum [a] + Sat.clip b) := Sat.sum_snoc [a] b
  have e2 : Sat.sum [a] = Sat.clip (Sat.sum [] + Sat.clip a) := Sat.sum_snoc [] a
  rw [e1, e2, Sat.sum_nil, Int.zero_add, Sat.clip_clip]
theorem sum3 (a b c : Int) : Sat.sum [a, b, c] = Sat.clip (Sat.clip (Sat.clip a + Sat.clip b) + Sat.clip c) := by
  have e3 : Sat.sum [a, b, c] = Sat.clip (Sat.sum [a, b] + Sat.clip c) := Sat.sum_snoc [a, b] c
  rw [e3, sum2]
theorem mul_in {a b : Int} (ha : -2305843009213693952 ≤ a ∧ a ≤ 2305843009213693952) (hb : -2305843009213693952 ≤ b ∧ b ≤ 2305843009213693952) (h : -2305843009213693952 ≤ a * b ∧ a * b ≤ 2305843009213693952) : Sat.mul a b = a * b := by
  unfold Sat.mul; rw [Sat.clip_in ha.1 ha.2, Sat.clip_in hb.1 hb.2, Sat.clip_in h.1 h.2]
/-- Numbers that may be, and a little more of each. -/
def Small (p : Par) : Prop := (0 ≤ p.rho ∧ p.rho ≤ 137438953728) ∧ (0 ≤ p.jit ∧ p.jit ≤ 549755814144) ∧ (0 ≤ p.eps ∧ p.eps ≤ 1099511628032)
theorem May.small {p : Par} (h : May p) : Small p := by
  obtain ⟨-, ⟨⟨b1, b2⟩, ⟨r1, r2⟩, ⟨y1, y2⟩, ⟨j1, j2⟩, ⟨e1, e2⟩, -⟩, -, -⟩ := h
  unfold Small; omega
theorem hop_in {p : Par} (h : Small p) : hop p = p.jit + 2 * p.rho := by
  obtain ⟨⟨r1, r2⟩, ⟨j1, j2⟩, e1, e2⟩ := h
  unfold hop
  rw [mul_in (by omega) (by omega) (by omega), sum2, Sat.clip_in (x := p.jit) (by omega) (by omega), Sat.clip_in (x := 2 * p.rho) (by omega) (by omega), Sat.clip_in (by omega) (by omega)]
theorem gate_in {p : Par} (h : Small p) : gate p = 2 * (2 * p.eps + (p.jit + 2 * p.rho)) := by
  unfold gate
  rw [hop_in h]
  obtain ⟨⟨r1, r2⟩, ⟨j1, j2⟩, e1, e2⟩ := h
  rw [mul_in (a := 2) (b := p.eps) (by omega) (by omega) (by omega), sum2, Sat.clip_in (x := 2 * p.eps) (by omega) (by omega), Sat.clip_in (x := p.jit + 2 * p.rho) (by omega) (by omega), Sat.clip_in (by omega) (by omega)]
  exact mul_in (by omega) (by omega) (by omega)
theorem mul_bd {a b A B : Int} (a0 : 0 ≤ a) (b0 : 0 ≤ b) (ha : a ≤ A) (hb : b ≤ B) : 0 ≤ a * b ∧ a * b ≤ A * B :=
  ⟨Int.mul_nonneg a0 b0, Int.mul_le_mul ha hb b0 (by omega)⟩
/-- The width, reckoned without bounds. -/
def wide (p : Par) (held hops : Int) : Int := 2 * (2 * p.eps + (p.jit + 2 * p.rho)) + 2 * p.rho * held + (hops + 1) * (p.jit + 2 * p.rho)
theorem wide_bd {p : Par} (h : Small p) {held hops : Int} (h1 : 0 ≤ held ∧ held ≤ 1048831) (h2 : 0 ≤ hops ∧ hops ≤ 1048831) :
    (0 ≤ 2 * p.rho * held ∧ 2 * p.rho * held ≤ 288300470554983936) ∧ (0 ≤ (hops + 1) * (p.jit + 2 * p.rho) ∧ (hops + 1) * (p.jit + 2 * p.rho) ≤ 864902235493171200) := by
  obtain ⟨⟨r1, r2⟩, ⟨j1, j2⟩, e1, e2⟩ := h
  have m1 := mul_bd (a := 2 * p.rho) (b := held) (A := 274877907456) (B := 1048831) (by omega) h1.1 (by omega) h1.2
  have m2 := mul_bd (a := hops + 1) (b := p.jit + 2 * p.rho) (A := 1048832) (B := 824633721600) (by omega) (by omega) (by omega) (by omega)
  omega
theorem width_in {p : Par} (h : Small p) {held hops : Int} (h1 : 0 ≤ held ∧ held ≤ 1048831) (h2 : 0 ≤ hops ∧ hops ≤ 1048831) : width p held hops = wide p held hops := by
  have hb := wide_bd h h1 h2
  unfold width wide
  rw [hop_in h, gate_in h]
  obtain ⟨⟨r1, r2⟩, ⟨j1, j2⟩, e1, e2⟩ := h
  rw [mul_in (a := 2) (b := p.rho) (by omega) (by omega) (by omega), mul_in (a := 2 * p.rho) (b := held) (by omega) (by omega) (by omega), sum2, Sat.clip_in (x := hops) (by omega) (by omega), Sat.clip_in (x := 1) (by omega) (by omega), Sat.clip_in (x := hops + 1) (by omega) (by omega),
    mul_in (a := hops + 1) (by omega) (by omega) (by omega), sum3]
  obtain ⟨A, hA⟩ : ∃ A, 2 * p.rho * held = A := ⟨_, rfl⟩
  obtain ⟨B, hB⟩ : ∃ B, (hops + 1) * (p.jit + 2 * p.rho) = B := ⟨_, rfl⟩
  rw [hA, hB] at hb ⊢
  rw [Sat.clip_in (x := 2 * (2 * p.eps + (p.jit + 2 * p.rho))) (by omega) (by omega), Sat.clip_in (x := A) (by omega) (by omega), Sat.clip_in (x := B) (by omega) (by omega), Sat.clip_in (x := 2 * (2 * p.eps + (p.jit + 2 * p.rho)) + A) (by omega) (by omega), Sat.clip_in (by omega) (by omega)]
theorem wide_pos {p : Par} (h : Small p) {held hops : Int} (h1 : 0 ≤ held ∧ held ≤ 1048831) (h2 : 0 ≤ hops ∧ hops ≤ 1048831) : gate p ≤ wide p held hops ∧ 0 ≤ gate p ∧ gate p ≤ 8796093022208 ∧ wide p held hops ≤ 1224979098644774912 := by
  have hb := wide_bd h h1 h2
  rw [gate_in h]
  obtain ⟨⟨r1, r2⟩, ⟨j1, j2⟩, e1, e2⟩ := h
  unfold wide
  omega
theorem wide_held (p : Par) (held hops n : Int) (h : 0 ≤ p.rho) (hn : 0 ≤ n) : wide p held hops ≤ wide p (held + n) hops := by
  unfold wide
  have e : 2 * p.rho * (held + n) = 2 * p.rho * held + 2 * p.rho * n := Int.mul_add _ _ _
  have := Int.mul_nonneg (show 0 ≤ 2 * p.rho by omega) hn
  rw [e]; omega
theorem wide_hops (p : Par) (held hops n : Int) (h : 0 ≤ p.rho) (hj : 0 ≤ p.jit) (hn : 0 ≤ n) : wide p held hops ≤ wide p held (hops + n) := by
  unfold wide
  have e : (hops + n + 1) * (p.jit + 2 * p.rho) = (hops + 1) * (p.jit + 2 * p.rho) + n * (p.jit + 2 * p.rho) := by rw [← Int.add_mul]; congr 1; omega
  have := Int.mul_nonneg hn (show 0 ≤ p.jit + 2 * p.rho by omega)
  rw [e]; omega
theorem wide_more (p q : Par) (held hops : Int) (h1 : 0 ≤ held) (h2 : 0 ≤ hops) (hr : p.rho ≤ q.rho) (hj : p.jit ≤ q.jit) (he : p.eps ≤ q.eps) : wide p held hops ≤ wide q held hops := by
  unfold wide
  have m1 := Int.mul_le_mul_of_nonneg_right (show 2 * p.rho ≤ 2 * q.rho by omega) h1
  have m2 := Int.mul_le_mul_of_nonneg_left (show p.jit + 2 * p.rho ≤ q.jit + 2 * q.rho by omega) (show 0 ≤ hops + 1 by omega)
  omega
theorem skew_more {p : Par} (h : May p) {held : Int} (h1 : 0 ≤ held ∧ held ≤ 1048831) : 2 * gate p ≤ skew p held := by
  have hd : 0 ≤ p.d ∧ p.d ≤ 1048831 := by obtain ⟨-, -, ⟨⟨d1, d2⟩, -⟩, -⟩ := h; omega
  have hp := wide_pos h.small h1 hd
  unfold skew Sat.mul
  rw [width_in h.small h1 hd, Sat.clip_in (x := 2) (by omega) (by omega), Sat.clip_in (x := wide p held p.d) (by omega) (by omega)]
  unfold Sat.clip; repeat' split
  all_goals omega
theorem clip_pos {x : Int} (h : 0 ≤ x) : 0 ≤ Sat.clip x := by
  unfold Sat.clip; repeat' split
  all_goals omega
theorem up_pos {x s : Int} (h : 0 ≤ x) : 0 ≤ Wide.up x 1 s := by
  have h1 := (Wide.one_bd s).1
  unfold Wide.up Wide.cdiv
  refine clip_pos ?_
  rw [show Sat.clip 1 = 1 from rfl, Int.mul_one]
  have hc := clip_pos h
  have h2 := Int.ediv_le_ediv (show 0 < Wide.one s by omega) (show -Sat.clip x ≤ 0 by omega)
  rw [Int.zero_ediv] at h2
  omega
theorem far_pos {p : Par} (h : May p) : 0 ≤ far p := by
  have hs := h.small
  obtain ⟨-, -, ⟨⟨d1, d2⟩, o1, o2⟩, -⟩ := h
  have hp := wide_pos hs (held := p.hold) (hops := p.d) (by omega) (by omega)
  unfold far Sat.mul
  rw [width_in hs (by omega) (by omega), Sat.clip_in (x := 3) (by omega) (by omega), Sat.clip_in (x := wide p p.hold p.d) (by omega) (by omega)]
  exact clip_pos (by omega)
theorem sum3_more {a u : Int} (ha : 0 ≤ a ∧ a ≤ 100) (hu : 0 ≤ u ∧ u ≤ 2305843009213693952) : a + 6 ≤ Sat.sum [a, 6, u] := by
  rw [sum3, Sat.clip_in (x := a) (by omega) (by omega), Sat.clip_in (x := 6) (by omega) (by omega), Sat.clip_in (x := a + 6) (by omega) (by omega), Sat.clip_in (x := u) (by omega) (by omega)]
  unfold Sat.clip; repeat' split
  all_goals omega
theorem settle_more {p : Par} (h : May p) : 2 * p.d + 6 ≤ settle p := by
  have hu : 0 ≤ Wide.up (far p) 1 (Sat.sub p.mu p.rho) := up_pos (far_pos h)
  have hub := Wide.up_bd (far p) 1 (Sat.sub p.mu p.rho)
  obtain ⟨-, -, ⟨⟨d1, d2⟩, -⟩, -⟩ := h
  unfold settle
  rw [mul_in (by omega) (by omega) (by omega)]
  exact sum3_more (by omega) ⟨hu, hub.2⟩
end Lim
end Go.Proofs.YtmmiboblofopgaaGreat

/- Plain mathematics of layers 10 to 12: what a trip tells, what a span becomes while time goes by, a clock that is slewed. It names no program. -/
namespace Go.Proofs.YtmmiboblofopgaaGreat
namespace Lim
theorem sub_in {a b : Int} (ha : -2305843009213693952 ≤ a ∧ a ≤ 2305843009213693952) (hb : -2305843009213693952 ≤ b ∧ b ≤ 2305843009213693952) (h : -2305843009213693952 ≤ a - b ∧ a - b ≤ 2305843009213693952) : Sat.sub a b = a - b := by
  unfold Sat.sub; rw [Sat.clip_in ha.1 ha.2, Sat.clip_in hb.1 hb.2, Sat.clip_in h.1 h.2]
theorem sum2_in {a b : Int} (ha : -2305843009213693952 ≤ a ∧ a ≤ 2305843009213693952) (hb : -2305843009213693952 ≤ b ∧ b ≤ 2305843009213693952) (h : -2305843009213693952 ≤ a + b ∧ a + b ≤ 2305843009213693952) : Sat.sum [a, b] = a + b := by
  rw [sum2, Sat.clip_in ha.1 ha.2, Sat.clip_in hb.1 hb.2, Sat.clip_in h.1 h.2]
theorem sum3_in {a b c : Int} (ha : -2305843009213693952 ≤ a ∧ a ≤ 2305843009213693952) (hb : -2305843009213693952 ≤ b ∧ b ≤ 2305843009213693952) (hc : -2305843009213693952 ≤ c ∧ c ≤ 2305843009213693952) (h2 : -2305843009213693952 ≤ a + b ∧ a + b ≤ 2305843009213693952) (h : -2305843009213693952 ≤ a + b + c ∧ a + b + c ≤ 2305843009213693952) : Sat.sum [a, b, c] = a + b + c := by
  rw [sum3, Sat.clip_in ha.1 ha.2, Sat.clip_in hb.1 hb.2, Sat.clip_in h2.1 h2.2, Sat.clip_in hc.1 hc.2, Sat.clip_in h.1 h.2]
/-- The bounds of numbers that may be, as a walk and omega want them. -/
theorem May.bds {p : Par} (h : May p) : (1 ≤ p.beat ∧ p.beat ≤ 1099511627776) ∧ (0 ≤ p.rho ∧ 8 * p.rho ≤ p.beat) ∧ (0 ≤ p.delay ∧ 2 * p.delay ≤ p.beat) ∧ (0 ≤ p.jit ∧ p.jit ≤ p.delay) ∧ (0 ≤ p.eps ∧ p.eps ≤ 1099511627776) := by
  obtain ⟨-, ⟨b, r, d, j, e, -⟩, -, -⟩ := h
  exact ⟨b, r, d, j, e⟩
end Lim
namespace Probe
/-- What a trip tells. -/
def way1 (p : Par) (asked got : Int) : Int × Int := (Sat.sum [Sat.sub (Sat.sub got asked) p.delay, -Sat.mul 2 p.rho], Sat.sum [Sat.sub (Sat.sub got asked) (Sat.sub p.delay p.jit), Sat.mul 2 p.rho])
def way2 (p : Par) (said heard : Int) : Int × Int := (Sat.sum [Sat.sum [Sat.sub said heard, Sat.sub p.delay p.jit], -Sat.mul 2 p.rho], Sat.sum [Sat.sum [Sat.sub said heard, p.delay], Sat.mul 2 p.rho])
def ahead (p : Par) (asked got said heard : Int) : Int × Int := (Sat.clip (Span.mLo [way1 p asked got, way2 p said heard]), Sat.clip (Span.mHi [way1 p asked got, way2 p said heard]))
theorem holds {p : Par} (h : Lim.May p) {asked ad there rest back dr : Int} (ha : -1125899906842624 ≤ asked ∧ asked ≤ 1125899906842624) (hb : -1125899906842624 ≤ ad ∧ ad ≤ 1125899906842624) (hr : -1125899906842624 ≤ rest ∧ rest ≤ 1125899906842624)
    (ht : p.delay - p.jit ≤ there ∧ there ≤ p.delay) (hk : p.delay - p.jit ≤ back ∧ back ≤ p.delay) (hd : -(2 * p.rho) ≤ dr ∧ dr ≤ 2 * p.rho) :
    let s := ahead p asked (asked + there + ad) (asked + there + rest + ad + dr) (asked + there + rest + back)
    s.1 ≤ ad ∧ ad ≤ s.2 ∧ s.2 - s.1 ≤ p.jit + 4 * p.rho ∧ -2305843009213693952 ≤ s.1 ∧ s.2 ≤ 2305843009213693952 := by
  obtain ⟨b1, r1, d1, j1, -⟩ := Lim.May.bds h
  have m2 : Sat.mul 2 p.rho = 2 * p.rho := Lim.mul_in (by omega) (by omega) (by omega)
  have l1 : Sat.sub p.delay p.jit = p.delay - p.jit := Lim.sub_in (by omega) (by omega) (by omega)
  have e1 : Sat.sub (asked + there + ad) asked = there + ad := by rw [Lim.sub_in (by omega) (by omega) (by omega)]; omega
  have e2 : Sat.sub (asked + there + rest + ad + dr) (asked + there + rest + back) = ad + dr - back := by rw [Lim.sub_in (by omega) (by omega) (by omega)]; omega
  have w1 : way1 p asked (asked + there + ad) = (there + ad - p.delay - 2 * p.rho, there + ad - (p.delay - p.jit) + 2 * p.rho) := by
    unfold way1
    rw [e1, l1, m2, Lim.sub_in (a := there + ad) (b := p.delay) (by omega) (by omega) (by omega), Lim.sub_in (a := there + ad) (b := p.delay - p.jit) (by omega) (by omega) (by omega), Lim.sum2_in (by omega) (by omega) (by omega), Lim.sum2_in (by omega) (by omega) (by omega)]
    rfl
  have w2 : way2 p (asked + there + rest + ad + dr) (asked + there + rest + back) = (ad + dr - back + (p.delay - p.jit) - 2 * p.rho, ad + dr - back + p.delay + 2 * p.rho) := by
    unfold way2
    rw [e2, l1, m2, Lim.sum2_in (a := ad + dr - back) (b := p.delay - p.jit) (by omega) (by omega) (by omega), Lim.sum2_in (a := ad + dr - back) (b := p.delay) (by omega) (by omega) (by omega), Lim.sum2_in (by omega) (by omega) (by omega), Lim.sum2_in (by omega) (by omega) (by omega)]
    rfl
  unfold ahead
  rw [w1, w2]
  have g1 := Span.mLo_iff [(there + ad - p.delay - 2 * p.rho, there + ad - (p.delay - p.jit) + 2 * p.rho), (ad + dr - back + (p.delay - p.jit) - 2 * p.rho, ad + dr - back + p.delay + 2 * p.rho)]
  have g2 := Span.mHi_iff [(there + ad - p.delay - 2 * p.rho, there + ad - (p.delay - p.jit) + 2 * p.rho), (ad + dr - back + (p.delay - p.jit) - 2 * p.rho, ad + dr - back + p.delay + 2 * p.rho)]
  have k1 := (g1 ad).2 ⟨by omega, fun s hs => by simp at hs; rcases hs with rfl | rfl <;> simp <;> omega⟩
  have k2 := (g2 ad).2 ⟨by omega, fun s hs => by simp at hs; rcases hs with rfl | rfl <;> simp <;> omega⟩
  have k3 := ((g1 _).1 (Int.le_refl _)).2 (there + ad - p.delay - 2 * p.rho, there + ad - (p.delay - p.jit) + 2 * p.rho) (by simp)
  have k4 := ((g2 _).1 (Int.le_refl _)).2 (there + ad - p.delay - 2 * p.rho, there + ad - (p.delay - p.jit) + 2 * p.rho) (by simp)
  have k5 := ((g1 _).1 (Int.le_refl _)).1
  have k6 := ((g2 _).1 (Int.le_refl _)).1
  simp only at k3 k4
  rw [Sat.clip_in (by omega) (by omega), Sat.clip_in (by omega) (by omega)]
  exact ⟨k1, k2, by simp only; omega, by simp only; omega, by simp only; omega⟩
end Probe
namespace Carry
def hold (p : Par) (s : Int × Int) (n : Int) : Int × Int := (Sat.sum [s.1, Sat.sub n p.rho], Sat.sum [s.2, Sat.sum [n, p.rho]])
def way (p : Par) (s : Int × Int) (age : Int) : Int × Int := (Sat.sum [s.1, Sat.sum [Sat.sub p.delay p.jit, age, -Sat.clip p.rho]], Sat.sum [s.2, Sat.sum [p.delay, age, p.rho]])
def ticks (p : Par) : Int × Int := (Sat.sub p.beat p.rho, Sat.sum [p.beat, p.rho])
def ages (p : Par) : Int × Int := (Sat.sub (Sat.sub p.beat p.delay) p.rho, Sat.sum [Sat.sub p.beat p.delay, p.jit, p.rho])
theorem ticks_in {p : Par} (h : Lim.May p) : ticks p = (p.beat - p.rho, p.beat + p.rho) := by
  obtain ⟨b1, r1, d1, j1, -⟩ := Lim.May.bds h
  unfold ticks
  rw [Lim.sub_in (by omega) (by omega) (by omega), Lim.sum2_in (by omega) (by omega) (by omega)]
theorem ages_in {p : Par} (h : Lim.May p) : ages p = (p.beat - p.delay - p.rho, p.beat - p.delay + p.jit + p.rho) := by
  obtain ⟨b1, r1, d1, j1, -⟩ := Lim.May.bds h
  unfold ages
  rw [Lim.sub_in (a := p.beat) (b := p.delay) (by omega) (by omega) (by omega), Lim.sub_in (by omega) (by omega) (by omega), Lim.sum3_in (by omega) (by omega) (by omega) (by omega) (by omega)]
theorem hold_in {p : Par} (h : Lim.May p) (s : Int × Int) {n : Int} (hn : -1152921504606846976 ≤ n ∧ n ≤ 1152921504606846976) : hold p s n = (Sat.clip (Sat.clip s.1 + (n - p.rho)), Sat.clip (Sat.clip s.2 + (n + p.rho))) := by
  obtain ⟨b1, r1, d1, j1, -⟩ := Lim.May.bds h
  unfold hold
  rw [Lim.sub_in (by omega) (by omega) (by omega), Lim.sum2_in (a := n) (b := p.rho) (by omega) (by omega) (by omega), Lim.sum2, Lim.sum2, Sat.clip_in (x := n - p.rho) (by omega) (by omega), Sat.clip_in (x := n + p.rho) (by omega) (by omega)]
theorem way_in {p : Par} (h : Lim.May p) (s : Int × Int) {n : Int} (hn : -1152921504606846976 ≤ n ∧ n ≤ 1152921504606846976) : way p s n = (Sat.clip (Sat.clip s.1 + (p.delay - p.jit + n - p.rho)), Sat.clip (Sat.clip s.2 + (p.delay + n + p.rho))) := by
  obtain ⟨b1, r1, d1, j1, -⟩ := Lim.May.bds h
  unfold way
  rw [Sat.clip_in (x := p.rho) (by omega) (by omega), Lim.sub_in (by omega) (by omega) (by omega), Lim.sum3_in (a := p.delay - p.jit) (by omega) (by omega) (by omega) (by omega) (by omega), Lim.sum3_in (a := p.delay) (by omega) (by omega) (by omega) (by omega) (by omega), Lim.sum2, Lim.sum2, Sat.clip_in (x := p.delay - p.jit + n + -p.rho) (by omega) (by omega), Sat.clip_in (x := p.delay + n + p.rho) (by omega) (by omega)]
  rfl
/-- A span that has a time, moved: it has the time moved as far, or less and more. -/
theorem moved {lo hi now x y d : Int} (h1 : lo ≤ now) (h2 : now ≤ hi) (hn : -1152921504606846976 ≤ now ∧ now ≤ 1152921504606846976) (hd : -1152921504606846976 ≤ d ∧ d ≤ 1152921504606846976) (hx : x ≤ d) (hy : d ≤ y) : Sat.clip (Sat.clip lo + x) ≤ now + d ∧ now + d ≤ Sat.clip (Sat.clip hi + y) := by
  have m1 := Sat.clip_mono h1
  have m2 := Sat.clip_mono h2
  rw [Sat.clip_in (x := now) (by omega) (by omega)] at m1 m2
  have m3 := Sat.clip_mono (show Sat.clip lo + x ≤ now + d by omega)
  have m4 := Sat.clip_mono (show now + d ≤ Sat.clip hi + y by omega)
  rw [Sat.clip_in (x := now + d) (by omega) (by omega)] at m3 m4
  exact ⟨m3, m4⟩
theorem holds {p : Par} (h : Lim.May p) {s : Int × Int} {now off : Int} (hn : -1152921504606846976 ≤ now ∧ now ≤ 1152921504606846976) (h1 : s.1 ≤ now) (h2 : now ≤ s.2) (ho : -p.rho ≤ off ∧ off ≤ p.rho) :
    (hold p s (p.beat + off)).1 ≤ now + p.beat ∧ now + p.beat ≤ (hold p s (p.beat + off)).2 := by
  obtain ⟨b1, r1, d1, j1, -⟩ := Lim.May.bds h
  rw [hold_in h s (by omega)]
  exact moved h1 h2 hn (by omega) (by omega) (by omega)
theorem brings {p : Par} (h : Lim.May p) {s : Int × Int} {now age : Int} (hn : -1152921504606846976 ≤ now ∧ now ≤ 1152921504606846976) (h1 : s.1 ≤ now) (h2 : now ≤ s.2) (ha : p.beat - p.delay - p.rho ≤ age ∧ age ≤ p.beat - p.delay + p.jit + p.rho) :
    (way p s age).1 ≤ now + p.beat ∧ now + p.beat ≤ (way p s age).2 := by
  obtain ⟨b1, r1, d1, j1, -⟩ := Lim.May.bds h
  rw [way_in h s (by omega)]
  exact moved h1 h2 hn (by omega) (by omega) (by omega)
end Carry
namespace Slew
def step (p : Par) (time ticks to : Int) : Int := Sat.sum [Sat.sum [time, ticks], Sat.bound (Sat.sub to (Sat.sum [time, ticks])) (-Sat.clip p.mu) p.mu]
/-- Where nothing is clipped. -/
def by_ (mu d : Int) : Int := if d < -mu then -mu else if mu < d then mu else d
theorem step_in {p : Par} (hm : 0 ≤ p.mu ∧ p.mu ≤ 1152921504606846976) {time ticks to : Int} (h1 : -288230376151711744 ≤ time ∧ time ≤ 288230376151711744) (h2 : -288230376151711744 ≤ ticks ∧ ticks ≤ 288230376151711744) (h3 : -288230376151711744 ≤ to ∧ to ≤ 288230376151711744) : step p time ticks to = time + ticks + by_ p.mu (to - (time + ticks)) := by
  unfold step by_ Sat.bound
  rw [Lim.sum2_in (a := time) (by omega) (by omega) (by omega), Lim.sub_in (by omega) (by omega) (by omega), Sat.clip_in (x := p.mu) (by omega) (by omega)]
  by_cases c1 : to - (time + ticks) < -p.mu
  · rw [if_pos (Or.inr c1), if_pos c1, Lim.sum2_in (by omega) (by omega) (by omega)]
  · rw [if_neg (by omega), if_neg c1]
    by_cases c2 : p.mu < to - (time + ticks)
    · rw [if_pos c2, Lim.sum2_in (by omega) (by omega) (by omega)]
    · rw [if_neg c2, Lim.sum2_in (by omega) (by omega) (by omega)]
end Slew
end Go.Proofs.YtmmiboblofopgaaGreat

/- Plain mathematics of layer 13: pulses and their numbers. It names no program. -/
namespace Go.Proofs.YtmmiboblofopgaaGreat
namespace Pulse
/-- The number of a time's pulse, and the ticks since it began (q: a pulse's ticks). -/
def num (q t : Int) : Int := Sat.clip t / Wide.one q
def ph (q t : Int) : Int := Sat.clip t % Wide.one q
theorem num_bd (q t : Int) : -2305843009213693952 ≤ num q t ∧ num q t ≤ 2305843009213693952 := by
  have hc := Sat.clip_bd t
  have hq := (Wide.one_bd q).1
  unfold num
  constructor
  · rw [Int.le_ediv_iff_mul_le (by omega)]
    have := Int.mul_le_mul_of_nonneg_left hq (show (0 : Int) ≤ 2305843009213693952 by omega)
    omega
  · rw [Int.ediv_le_iff_le_mul (by omega)]
    have := Int.mul_le_mul_of_nonneg_left hq (show (0 : Int) ≤ 2305843009213693952 by omega)
    omega
theorem num_mono {q a b : Int} (h : a ≤ b) : num q a ≤ num q b :=
  Int.ediv_le_ediv (by have := (Wide.one_bd q).1; omega) (Sat.clip_mono h)
theorem ph_bd (q t : Int) : 0 ≤ ph q t ∧ ph q t < Wide.one q := by
  have hq := (Wide.one_bd q).1
  exact ⟨Int.emod_nonneg _ (by omega), Int.emod_lt_of_pos _ (by omega)⟩
theorem num_ph (q t : Int) : num q t * Wide.one q + ph q t = Sat.clip t := by
  unfold num ph
  rw [Int.mul_comm]
  exact Int.mul_ediv_add_emod _ _
/-- n numbers above x. -/
def above (x : Int) (n : Nat) : List Int := (List.range n).map fun i : Nat => x + 1 + (i : Int)
theorem above_length (x : Int) (n : Nat) : (above x n).length = n := by simp [above]
theorem above_zero (x : Int) : above x 0 = [] := rfl
theorem above_succ (x : Int) (n : Nat) : above x (n + 1) = above x n ++ [x + 1 + n] := by simp [above, List.range_succ]
theorem above_at {x : Int} {n k : Nat} (h : k < (above x n).length) : (above x n)[k] = x + 1 + k := by simp [above]
theorem above_add (x : Int) (n m : Nat) : above x (n + m) = above x n ++ above (x + n) m := by
  induction m with
  | zero => simp [above_zero]
  | succ m ih =>
    rw [← Nat.add_assoc, above_succ, ih, above_succ, List.append_assoc]
    congr 3
    omega
/-- How many fire. -/
def count (q a b most : Int) : Nat := (min most (num q b - num q a)).toNat
/-- What fires. -/
def fired (q a b most : Int) : List Int := above (num q a) (count q a b most)
theorem fired_length (q a b most : Int) : (fired q a b most).length = count q a b most := above_length _ _
/-- What fires up to a time between, and then from there. -/
theorem fired_parts {q a b c m : Int} (hab : a ≤ b) (hbc : b ≤ c) (h1 : count q a b m ≠ m.toNat) (h2 : count q a b m + count q b c m ≤ m.toNat) (h3 : count q b c m ≠ m.toNat) :
    fired q a c m = fired q a b m ++ fired q b c m := by
  have n1 := num_mono (q := q) hab
  have n2 := num_mono (q := q) hbc
  unfold fired
  unfold count at h1 h2 h3 ⊢
  generalize num q a = x at *
  generalize num q b = y at *
  generalize num q c = z at *
  obtain ⟨i, hi⟩ : ∃ i, (min m (y - x)).toNat = i := ⟨_, rfl⟩
  obtain ⟨j, hj⟩ : ∃ j, (min m (z - y)).toNat = j := ⟨_, rfl⟩
  rw [hi] at h1 h2 ⊢
  rw [hj] at h2 h3 ⊢
  have e : (min m (z - x)).toNat = i + j := by omega
  rw [e, above_add]
  congr 2
  omega
/-- Times not further from one another than a pulse. -/
theorem near {q a b : Int} (hq : 1 ≤ q) (ha : -1152921504606846976 ≤ a) (hab : a ≤ b) (hb : b ≤ 1152921504606846976) (hn : b - a ≤ q) :
    (0 ≤ num q b - num q a ∧ num q b - num q a ≤ 1) ∧ Sat.mul (num q a) (Wide.one q) + ph q a = a := by
  have n1 := num_mono (q := q) hab
  have e1 := num_ph q a
  have e2 := num_ph q b
  have p1 := ph_bd q a
  have p2 := ph_bd q b
  rw [Sat.clip_in (by omega) (by omega)] at e1 e2
  have ho := Wide.one_bd q
  have h1 : b - a ≤ Wide.one q := by
    unfold Wide.one
    by_cases h : q ≤ 2305843009213693952
    · rw [Sat.clip_in (by omega) h, if_neg (by omega)]; exact hn
    · rw [Sat.clip_hi (by omega)]; simp; omega
  have hbd := num_bd q a
  generalize hO : Wide.one q = o at *
  generalize num q a = x at *
  generalize num q b = y at *
  generalize ph q a = r at *
  generalize ph q b = s at *
  have hy : y - x ≤ 1 := by
    apply Classical.byContradiction
    intro h
    have := Int.mul_le_mul_of_nonneg_right (show x + 2 ≤ y by omega) (show 0 ≤ o by omega)
    rw [Int.add_mul] at this
    omega
  refine ⟨⟨by omega, hy⟩, ?_⟩
  have hx : -2305843009213693952 ≤ x * o := by
    by_cases h : o ≤ 1152921504606846976
    · omega
    · apply Classical.byContradiction
      intro h'
      have hx2 : x ≤ -2 := by
        apply Classical.byContradiction
        intro h2
        have := Int.mul_le_mul_of_nonneg_right (show -1 ≤ x by omega) (show 0 ≤ o by omega)
        omega
      have := Int.mul_le_mul_of_nonneg_right hx2 (show 0 ≤ o by omega)
      omega
  unfold Sat.mul
  rw [Sat.clip_in (x := x) hbd.1 hbd.2, Sat.clip_in (x := o) (by omega) ho.2, Sat.clip_in hx (by omega)]
  exact e1
theorem near_fired {q a b : Int} (h : 0 ≤ num q b - num q a ∧ num q b - num q a ≤ 1) : fired q a b 5 = if num q b = num q a then [] else [num q b] := by
  unfold fired count
  by_cases e : num q b = num q a
  · rw [if_pos e, show (min 5 (num q b - num q a)).toNat = 0 by omega]; rfl
  · rw [if_neg e, show (min 5 (num q b - num q a)).toNat = 0 + 1 by omega, above_succ, above_zero, List.nil_append]
    congr 1
    omega
end Pulse
end Go.Proofs.YtmmiboblofopgaaGreat

/- Plain mathematics of layer 16: what a reference's reading tells, what becomes of it by a message, and what is fused of that, whoever lies. It names no program. -/
namespace Go.Proofs.YtmmiboblofopgaaGreat
/-- Fused of spans, of which more than twice f are right in some way (r): one of these begins at or ahead of it, and ends at or behind it. -/
theorem Trim.fuse_by {f : Nat} {l : List (Int × Int)} {lo hi x : Int} (hf : f < l.length) (hlo : Trim.PickMost f (l.map (·.1)) lo) (hhi : Trim.Pick f (l.map (·.2)) hi) (hx : l.countP (fun s => !decide (s.1 ≤ x ∧ x ≤ s.2)) ≤ f) (r : Int × Int → Bool) (hr : 2 * f + 1 ≤ l.countP r) :
    lo ≤ x ∧ x ≤ hi ∧ ∃ s ∈ l, r s = true ∧ s.1 ≤ lo ∧ hi ≤ s.2 := by
  obtain ⟨h1, h2, -⟩ := Trim.fuse_holds hf hlo hhi hx
  have a1 := (Trim.most_above (by simpa using hf) hlo).1
  have a2 := hhi.2.1
  unfold Trim.lt at a2
  rw [List.countP_map] at a1 a2
  obtain ⟨s, hs, k1, k2, k3⟩ := Trim.both (p := fun s => decide (s.1 ≤ lo)) (q := fun s : Int × Int => decide (hi ≤ s.2)) (r := r) (l := l) (m := f) (n := f)
    (Nat.le_trans (Trim.countP_mono fun s _ hs => by simp at *; omega) a1) (Nat.le_trans (Trim.countP_mono fun s _ hs => by simp at *; omega) a2) (by omega)
  exact ⟨h1, h2, s, hs, k1, by simpa using k2, by simpa using k3⟩
/-- What a gateway sees, and how what it tells is carried. -/
structure Tld where
  err : Int
  way : Int
  off : Int
namespace Anchor
/-- Whether it is a reading, of an error that may be. -/
def is (p : Par) (x : Int) : Bool := decide (0 ≤ p.eps ∧ -1152921504606846976 ≤ x ∧ x ≤ 1152921504606846976)
def seen (p : Par) (x : Int) : Int × Int := if is p x = true then (Sat.sub x p.eps, Sat.sum [x, p.eps]) else (0, 0)
def more (h : Int) : Int := Sat.bound (Sat.sum [h, 1]) 0 1073741824
def held (f : Int) (l : List Int) : Int := if Trim.is f l.length = true then more (Trim.val f l) else 1073741824
theorem abs_le (x : Int) : Sat.abs x ≤ 1152921504606846976 ↔ -1152921504606846976 ≤ x ∧ x ≤ 1152921504606846976 := by
  unfold Sat.abs Sat.clip
  by_cases h1 : 2305843009213693952 < x
  · rw [if_pos h1]; omega
  · rw [if_neg h1]
    by_cases h2 : x < -2305843009213693952
    · rw [if_pos h2]; omega
    · rw [if_neg h2]; omega
theorem more_in {v : Int} (h : 0 ≤ v ∧ v ≤ 536870912) : more v = v + 1 := by
  unfold more
  rw [Lim.sum2_in (by omega) (by omega) (by omega)]
  unfold Sat.bound
  rw [if_neg (by omega), if_neg (by omega)]
/-- What becomes of what is seen. -/
def carried (p : Par) (now : Int) (t : Tld) : Int × Int := Carry.way p (seen p (now + t.err)) (p.beat - t.way + t.off)
def Fine (p : Par) (t : Tld) : Prop := (-p.eps ≤ t.err ∧ t.err ≤ p.eps) ∧ (p.delay - p.jit ≤ t.way ∧ t.way ≤ p.delay) ∧ -p.rho ≤ t.off ∧ t.off ≤ p.rho
theorem seen_in {p : Par} (h : Lim.May p) {x : Int} (hx : -1152921504606846976 ≤ x ∧ x ≤ 1152921504606846976) : is p x = true ∧ seen p x = (x - p.eps, x + p.eps) := by
  obtain ⟨b1, r1, d1, j1, e1⟩ := Lim.May.bds h
  have hi : is p x = true := decide_eq_true ⟨e1.1, hx⟩
  refine ⟨hi, ?_⟩
  unfold seen
  rw [if_pos hi, Lim.sub_in (by omega) (by omega) (by omega), Lim.sum2_in (by omega) (by omega) (by omega)]
/-- Right: it has the time, and isn't too wide. -/
def right (x W : Int) (s : Int × Int) : Bool := decide ((s.1 ≤ x ∧ x ≤ s.2) ∧ s.2 - s.1 ≤ W ∧ -2305843009213693952 ≤ s.1 ∧ s.2 ≤ 2305843009213693952)
theorem carried_right {p : Par} (h : Lim.May p) {now : Int} (hn : -576460752303423488 ≤ now ∧ now ≤ 576460752303423488) {t : Tld} (ht : Fine p t) : right (now + p.beat) (2 * p.eps + Lim.hop p) (carried p now t) = true := by
  obtain ⟨b1, r1, d1, j1, e1⟩ := Lim.May.bds h
  obtain ⟨t1, t2, t3⟩ := ht
  obtain ⟨-, hs⟩ := seen_in h (x := now + t.err) (by omega)
  unfold carried
  rw [hs]
  have hb := Carry.brings h (s := (now + t.err - p.eps, now + t.err + p.eps)) (now := now) (age := p.beat - t.way + t.off) (by omega) (by simp only; omega) (by simp only; omega) (by omega)
  have hw := Carry.way_in h (now + t.err - p.eps, now + t.err + p.eps) (n := p.beat - t.way + t.off) (by omega)
  rw [Sat.clip_in (x := (now + t.err - p.eps, now + t.err + p.eps).1) (by simp only; omega) (by simp only; omega), Sat.clip_in (x := (now + t.err - p.eps, now + t.err + p.eps).2) (by simp only; omega) (by simp only; omega),
    Sat.clip_in (x := (now + t.err - p.eps, now + t.err + p.eps).1 + _) (by simp only; omega) (by simp only; omega), Sat.clip_in (x := (now + t.err - p.eps, now + t.err + p.eps).2 + _) (by simp only; omega) (by simp only; omega)] at hw
  rw [hw] at hb ⊢
  rw [Lim.hop_in (Lim.May.small h)]
  simp only at hb
  exact decide_eq_true ⟨hb, by simp only; omega, by simp only; omega, by simp only; omega⟩
theorem all_right {p : Par} (h : Lim.May p) {now : Int} (hn : -576460752303423488 ≤ now ∧ now ≤ 576460752303423488) {l : List Tld} (hl : ∀ t ∈ l, Fine p t) : ∀ s ∈ l.map (carried p now), right (now + p.beat) (2 * p.eps + Lim.hop p) s = true := by
  intro s hs
  obtain ⟨t, ht, rfl⟩ := List.mem_map.1 hs
  exact carried_right h hn (hl t ht)
end Anchor
end Go.Proofs.YtmmiboblofopgaaGreat

/- Plain mathematics of layer 17: days and their numbers. It names no program. -/
namespace Go.Proofs.YtmmiboblofopgaaGreat
namespace Civil
/-- How many leap years there are up to a year. -/
def leaps (y : Int) : Int := y / 4 - y / 100 + y / 400
def isLeap (y : Int) : Bool := decide (y % 4 = 0 ∧ (y % 100 ≠ 0 ∨ y % 400 = 0))
def one (y : Int) : Int := if isLeap y then 1 else 0
theorem leap_step (y : Int) : leaps y = leaps (y - 1) + one y := by
  unfold leaps one isLeap
  by_cases h4 : y % 4 = 0 <;> by_cases h100 : y % 100 = 0 <;> by_cases h400 : y % 400 = 0 <;> simp [h4, h100, h400] <;> omega
theorem one_bd (y : Int) : 0 ≤ one y ∧ one y ≤ 1 := by unfold one; split <;> omega
theorem leap_400 (y k : Int) : isLeap (y + 400 * k) = isLeap y := by
  unfold isLeap
  rw [show (y + 400 * k) % 4 = y % 4 by omega, show (y + 400 * k) % 100 = y % 100 by omega, show (y + 400 * k) % 400 = y % 400 by omega]
theorem one_400 (y k : Int) : one (y + 400 * k) = one y := by unfold one; rw [leap_400]
/-- The number of a year's first day. -/
def first (y : Int) : Int := 365 * (y - 1970) + leaps (y - 1) - 477
theorem first_1970 : first 1970 = 0 := by decide
theorem first_next (y : Int) : first (y + 1) = first y + 365 + one y := by
  unfold first
  have := leap_step y
  rw [show y + 1 - 1 = y by omega]
  omega
theorem first_400 (y k : Int) : first (y + 400 * k) = first y + 146097 * k := by unfold first leaps; omega
theorem first_mono {y z : Int} (h : y ≤ z) : first y + 365 * (z - y) ≤ first z := by
  unfold first leaps; omega
/-- The days of a month; 0: there is no such month. -/
def days (y m : Int) : Int := if m < 1 ∨ 12 < m then 0 else if m = 2 then 28 + one y else if m = 4 ∨ m = 6 ∨ m = 9 ∨ m = 11 then 30 else 31
/-- How many days of its year stand ahead of a month. -/
def ahead (y m : Int) : Int :=
  if m ≤ 1 then 0 else if m = 2 then 31 else (if m = 3 then 59 else if m = 4 then 90 else if m = 5 then 120 else if m = 6 then 151 else if m = 7 then 181 else if m = 8 then 212 else if m = 9 then 243 else if m = 10 then 273 else if m = 11 then 304 else if m = 12 then 334 else 365) + one y
theorem ahead_next {y m : Int} (h : 1 ≤ m) (h' : m ≤ 12) : ahead y (m + 1) = ahead y m + days y m := by
  have hc : m = 1 ∨ m = 2 ∨ m = 3 ∨ m = 4 ∨ m = 5 ∨ m = 6 ∨ m = 7 ∨ m = 8 ∨ m = 9 ∨ m = 10 ∨ m = 11 ∨ m = 12 := by omega
  rcases hc with rfl | rfl | rfl | rfl | rfl | rfl | rfl | rfl | rfl | rfl | rfl | rfl <;> simp [ahead, days] <;> omega
theorem days_bd {y m : Int} (h : 1 ≤ m) (h' : m ≤ 12) : 28 ≤ days y m ∧ days y m ≤ 31 := by
  have := one_bd y; unfold days; repeat' split
  all_goals omega
theorem days_no {y m : Int} (h : m < 1 ∨ 12 < m) : days y m = 0 := by unfold days; rw [if_pos h]
theorem ahead_mono (y : Int) {m k : Int} (h1 : 1 ≤ m) (h : m < k) (hk : k ≤ 13) : ahead y m + days y m ≤ ahead y k := by
  have h0 := one_bd y
  have hc : m = 1 ∨ m = 2 ∨ m = 3 ∨ m = 4 ∨ m = 5 ∨ m = 6 ∨ m = 7 ∨ m = 8 ∨ m = 9 ∨ m = 10 ∨ m = 11 ∨ m = 12 := by omega
  have hd : k = 2 ∨ k = 3 ∨ k = 4 ∨ k = 5 ∨ k = 6 ∨ k = 7 ∨ k = 8 ∨ k = 9 ∨ k = 10 ∨ k = 11 ∨ k = 12 ∨ k = 13 := by omega
  rcases hc with rfl | rfl | rfl | rfl | rfl | rfl | rfl | rfl | rfl | rfl | rfl | rfl <;> rcases hd with rfl | rfl | rfl | rfl | rfl | rfl | rfl | rfl | rfl | rfl | rfl | rfl <;> simp [ahead, days] at h ⊢ <;> omega
theorem ahead_13 (y : Int) : ahead y 13 = 365 + one y := by simp [ahead]
/-- n is the number of the day (y, m, d). -/
def Is (n y m d : Int) : Prop := (1 ≤ m ∧ m ≤ 12) ∧ (1 ≤ d ∧ d ≤ days y m) ∧ n = first y + ahead y m + d - 1
theorem Is.year {n y m d : Int} (h : Is n y m d) : first y ≤ n ∧ n < first (y + 1) := by
  obtain ⟨⟨m1, m2⟩, ⟨d1, d2⟩, e⟩ := h
  have a := ahead_mono y (m := m) (k := 13) m1 (by omega) (by omega)
  rw [ahead_13] at a
  have b := first_next y
  have c : 0 ≤ ahead y m := by
    by_cases h1 : m = 1
    · subst h1; simp [ahead]
    · have := ahead_mono y (m := 1) (k := m) (by omega) (by omega) (by omega)
      have := days_bd (y := y) (m := 1) (by omega) (by omega)
      have : ahead y 1 = 0 := by simp [ahead]
      omega
  omega
/-- A number is that of one day alone. -/
theorem Is.day {n y m d y' m' d' : Int} (h : Is n y m d) (g : Is n y' m' d') : y = y' ∧ m = m' ∧ d = d' := by
  have hy := h.year
  have gy := g.year
  have e : y = y' := by
    rcases Int.lt_trichotomy y y' with c | c | c
    · have := first_mono (y := y + 1) (z := y') (by omega); omega
    · exact c
    · have := first_mono (y := y' + 1) (z := y) (by omega); omega
  subst e
  obtain ⟨⟨m1, m2⟩, ⟨d1, d2⟩, e1⟩ := h
  obtain ⟨⟨k1, k2⟩, ⟨c1, c2⟩, e2⟩ := g
  have e : m = m' := by
    rcases Int.lt_trichotomy m m' with c | c | c
    · have := ahead_mono y m1 c (by omega); omega
    · exact c
    · have := ahead_mono y k1 c (by omega); omega
  subst e
  exact ⟨rfl, rfl, by omega⟩
/-- The next number's day. -/
theorem Is.next {n y m d : Int} (h : Is n y m d) :
    (d < days y m → Is (n + 1) y m (d + 1)) ∧ (d = days y m → m < 12 → Is (n + 1) y (m + 1) 1) ∧ (d = days y m → m = 12 → Is (n + 1) (y + 1) 1 1) := by
  obtain ⟨⟨m1, m2⟩, ⟨d1, d2⟩, e⟩ := h
  refine ⟨fun hd => ⟨⟨m1, m2⟩, ⟨by omega, by omega⟩, by omega⟩, fun hd hm => ⟨⟨by omega, by omega⟩, ⟨by omega, ?_⟩, ?_⟩, fun hd hm => ⟨⟨by omega, by omega⟩, ⟨by omega, ?_⟩, ?_⟩⟩
  · have := days_bd (y := y) (m := m + 1) (by omega) (by omega); omega
  · have := ahead_next (y := y) m1 m2; omega
  · have := days_bd (y := y + 1) (m := 1) (by omega) (by omega); omega
  · have a := ahead_next (y := y) m1 m2
    subst hm
    rw [show (12 : Int) + 1 = 13 from rfl, ahead_13] at a
    have b := first_next y
    have c : ahead (y + 1) 1 = 0 := by simp [ahead]
    omega
theorem ahead_400 (y k m : Int) : ahead (y + 400 * k) m = ahead y m := by unfold ahead; rw [one_400]
theorem days_400 (y k m : Int) : days (y + 400 * k) m = days y m := by unfold days; rw [one_400]
theorem Is.cycle {n y m d : Int} (h : Is n y m d) (k : Int) : Is (n + 146097 * k) (y + 400 * k) m d := by
  obtain ⟨a, b, c⟩ := h
  refine ⟨a, by rw [days_400]; exact b, ?_⟩
  rw [first_400, ahead_400]; omega
end Civil
end Go.Proofs.YtmmiboblofopgaaGreat

/- Plain mathematics of layer 18: counts and labels, leap seconds. It names no program. -/
namespace Go.Proofs.YtmmiboblofopgaaGreat
namespace Leap
/-- A good table behind a count a, with offset o. -/
def Chain (a o : Int) : List (Int × Int) → Prop
  | [] => True
  | e :: l => a ≤ e.1 ∧ (e.2 = o + 1 ∨ e.2 = o - 1) ∧ (e.1 - e.2) % 86400 = 0 ∧ Chain (e.1 + 86400) e.2 l
/-- The offset of a count. -/
def off (o : Int) (c : Int) : List (Int × Int) → Int
  | [] => o
  | e :: l => if e.1 ≤ c then off e.2 c l else off o c l
theorem off_snoc (o c : Int) (l : List (Int × Int)) (e : Int × Int) : off o c (l ++ [e]) = if e.1 ≤ c then e.2 else off o c l := by
  induction l generalizing o with
  | nil => by_cases h : e.1 ≤ c <;> simp [off, h]
  | cons x l ih =>
    rw [List.cons_append, off, off]
    by_cases h : x.1 ≤ c
    · rw [if_pos h, if_pos h, ih]
    · rw [if_neg h, if_neg h, ih]
theorem Chain.mono {a b o : Int} {l : List (Int × Int)} (h : Chain a o l) (hb : b ≤ a) : Chain b o l := by
  cases l with
  | nil => trivial
  | cons e l => exact ⟨by have := h.1; omega, h.2⟩
theorem Chain.ge {a o : Int} {l : List (Int × Int)} (h : Chain a o l) : ∀ e ∈ l, a ≤ e.1 := by
  induction l generalizing a o with
  | nil => intro e he; cases he
  | cons x l ih =>
    intro e he
    rcases List.mem_cons.1 he with rfl | g
    · exact h.1
    · have := ih h.2.2.2 e g; have := h.1; omega
theorem Chain.mod {a o : Int} {l : List (Int × Int)} (h : Chain a o l) : ∀ e ∈ l, (e.1 - e.2) % 86400 = 0 := by
  induction l generalizing a o with
  | nil => intro e he; cases he
  | cons x l ih =>
    intro e he
    rcases List.mem_cons.1 he with rfl | g
    · exact h.2.2.1
    · exact ih h.2.2.2 e g
/-- Entries stand a day from one another. -/
theorem Chain.apart {a o : Int} {l : List (Int × Int)} (h : Chain a o l) {x y : Int × Int} (hx : x ∈ l) (hy : y ∈ l) (hxy : x.1 ≤ y.1) (hd : y.1 < x.1 + 86400) : x = y := by
  induction l generalizing a o with
  | nil => cases hx
  | cons z l ih =>
    have hg := Chain.ge h.2.2.2
    rcases List.mem_cons.1 hx with rfl | gx
    · rcases List.mem_cons.1 hy with rfl | gy
      · rfl
      · have := hg y gy; omega
    · rcases List.mem_cons.1 hy with rfl | gy
      · have := hg x gx; omega
      · exact ih h.2.2.2 gx gy
theorem off_early {o c : Int} {l : List (Int × Int)} (h : ∀ e ∈ l, c < e.1) : off o c l = o := by
  induction l with
  | nil => rfl
  | cons x l ih => rw [off, if_neg (by have := h x List.mem_cons_self; omega), ih fun e he => h e (List.mem_cons_of_mem _ he)]
/-- No entry there: the offset stays. -/
theorem off_same {o c : Int} {l : List (Int × Int)} (h : ∀ e ∈ l, e.1 ≠ c + 1) : off o (c + 1) l = off o c l := by
  induction l generalizing o with
  | nil => rfl
  | cons x l ih =>
    have hx := h x List.mem_cons_self
    have hl := fun e he => h e (List.mem_cons_of_mem _ he)
    rw [off, off]
    by_cases c1 : x.1 ≤ c
    · rw [if_pos c1, if_pos (by omega), ih hl]
    · rw [if_neg c1, if_neg (by omega), ih hl]
/-- An entry there: the offset is that entry's, one more or one less than it was. -/
theorem Chain.off_at {a o c : Int} {l : List (Int × Int)} (h : Chain a o l) {e : Int × Int} (he : e ∈ l) (hc : e.1 = c + 1) : off o (c + 1) l = e.2 ∧ (e.2 = off o c l + 1 ∨ e.2 = off o c l - 1) := by
  induction l generalizing a o with
  | nil => cases he
  | cons x l ih =>
    have hg := Chain.ge h.2.2.2
    rw [off, off]
    rcases List.mem_cons.1 he with rfl | g
    · rw [if_pos (by omega), if_neg (by omega), off_early (fun y hy => by have := hg y hy; omega), off_early (fun y hy => by have := hg y hy; omega)]
      exact ⟨rfl, h.2.1⟩
    · have := hg e g
      rw [if_pos (by omega), if_pos (by omega)]
      exact ih h.2.2.2 g
/-- Is a count a second more? -/
def more (l : List (Int × Int)) (c : Int) : Bool := l.any fun e => decide (e.1 - 1 = c) && decide (off 0 c l < e.2)
theorem more_iff {l : List (Int × Int)} {c : Int} : more l c = true ↔ ∃ e ∈ l, e.1 = c + 1 ∧ off 0 c l < e.2 := by
  unfold more
  rw [List.any_eq_true]
  constructor
  · rintro ⟨e, he, h⟩
    simp at h
    exact ⟨e, he, by omega, h.2⟩
  · rintro ⟨e, he, h1, h2⟩
    exact ⟨e, he, by simp; omega⟩
/-- The day's number and its second, 86400: 23:59:60. -/
def lab (l : List (Int × Int)) (c : Int) : Int × Int := if more l c = true then ((c - 1 - off 0 (c - 1) l) / 86400, (c - 1 - off 0 (c - 1) l) % 86400 + 1) else ((c - off 0 c l) / 86400, (c - off 0 c l) % 86400)
/-- What labels rise by. -/
def key (s : Int × Int) : Int := 86401 * s.1 + s.2
theorem Chain.more_lab {a : Int} {l : List (Int × Int)} (h : Chain a 0 l) {c : Int} (hm : more l c = true) : ∃ q, c - off 0 c l = 86400 * q ∧ off 0 (c - 1) l = off 0 c l ∧ lab l c = (q - 1, 86400) ∧ more l (c - 1) = false ∧ off 0 (c + 1) l = off 0 c l + 1 ∧ c + 1 - off 0 (c + 1) l = 86400 * q := by
  obtain ⟨e, he, h1, h2⟩ := more_iff.1 hm
  obtain ⟨k1, k2⟩ := h.off_at he h1
  have k3 := h.mod e he
  have k4 : e.2 = off 0 c l + 1 := by omega
  have hno : ∀ x ∈ l, x.1 ≠ c := fun x hx hxc => by
    have := h.apart hx he (by omega) (by omega)
    subst this; omega
  have hs : off 0 (c - 1) l = off 0 c l := by
    have := off_same (o := 0) (c := c - 1) (l := l) (fun x hx => by have := hno x hx; omega)
    rw [show c - 1 + 1 = c by omega] at this
    exact this.symm
  have hmn : more l (c - 1) = false := by
    cases hb : more l (c - 1) with
    | false => rfl
    | true =>
      obtain ⟨x, hx, g1, _⟩ := more_iff.1 hb
      exact absurd (by omega) (hno x hx)
  refine ⟨(e.1 - e.2) / 86400, by omega, hs, ?_, hmn, by omega, by omega⟩
  unfold lab
  rw [if_pos hm, hs]
  have : c - 1 - off 0 c l = 86400 * ((e.1 - e.2) / 86400 - 1) + 86399 := by omega
  rw [this]
  refine Prod.ext ?_ ?_
  · show (86400 * ((e.1 - e.2) / 86400 - 1) + 86399) / 86400 = (e.1 - e.2) / 86400 - 1; omega
  · show (86400 * ((e.1 - e.2) / 86400 - 1) + 86399) % 86400 + 1 = 86400; omega
theorem lab_plain {l : List (Int × Int)} {c : Int} (h : more l c = false) : lab l c = ((c - off 0 c l) / 86400, (c - off 0 c l) % 86400) := by unfold lab; rw [h]; rfl
/-- A later count has a later label. -/
theorem Chain.rises {a : Int} {l : List (Int × Int)} (h : Chain a 0 l) (c : Int) : key (lab l c) < key (lab l (c + 1)) := by
  by_cases hx : ∃ e ∈ l, e.1 = c + 1
  · obtain ⟨e, he, h1⟩ := hx
    obtain ⟨k1, k2⟩ := h.off_at he h1
    have k3 := h.mod e he
    have hno : more l (c + 1) = false := by
      cases hb : more l (c + 1) with
      | false => rfl
      | true =>
        obtain ⟨x, hx, g1, g2⟩ := more_iff.1 hb
        have := h.apart he hx (by omega) (by omega)
        subst this; omega
    rw [lab_plain hno, k1]
    by_cases hm : more l c = true
    · obtain ⟨q, m1, m2, m3, m4, m5, m6⟩ := h.more_lab hm
      rw [m3]
      unfold key
      rw [k1] at m6
      rw [m6]
      simp only
      omega
    · have hm' : more l c = false := by simpa using hm
      rw [lab_plain hm']
      have : e.2 = off 0 c l - 1 := by
        rcases k2 with g | g
        · exact absurd (more_iff.2 ⟨e, he, h1, by omega⟩) hm
        · exact g
      unfold key
      simp only
      omega
  · have hno : ∀ e ∈ l, e.1 ≠ c + 1 := fun e he g => hx ⟨e, he, g⟩
    have hs := off_same (o := 0) hno
    have hm : more l c = false := by
      cases hb : more l c with
      | false => rfl
      | true => obtain ⟨x, hx, g1, _⟩ := more_iff.1 hb; exact absurd g1 (hno x hx)
    rw [lab_plain hm]
    by_cases hm1 : more l (c + 1) = true
    · obtain ⟨q, m1, m2, m3, -, -, -⟩ := h.more_lab hm1
      rw [m3]
      rw [hs] at m1
      unfold key
      simp only
      omega
    · rw [lab_plain (by simpa using hm1), hs]
      unfold key
      simp only
      omega
theorem Chain.rise {a : Int} {l : List (Int × Int)} (h : Chain a 0 l) {c d : Int} (hcd : c < d) : key (lab l c) < key (lab l d) := by
  obtain ⟨n, rfl⟩ : ∃ n : Nat, d = c + 1 + n := ⟨(d - c - 1).toNat, by omega⟩
  clear hcd
  induction n with
  | zero => exact (by simpa using h.rises c)
  | succ n ih =>
    have := h.rises (c + 1 + n)
    rw [show c + 1 + ((n + 1 : Nat) : Int) = c + 1 + n + 1 by omega]
    omega
theorem Chain.one {a : Int} {l : List (Int × Int)} (h : Chain a 0 l) {c d : Int} (e : lab l c = lab l d) : c = d := by
  rcases Int.lt_trichotomy c d with g | g | g
  · have := h.rise g; rw [e] at this; omega
  · exact g
  · have := h.rise g; rw [e] at this; omega
/-- The second is one of the day's, or the 86401st. -/
theorem Chain.lab_bd {a : Int} {l : List (Int × Int)} (h : Chain a 0 l) (c : Int) : 0 ≤ (lab l c).2 ∧ (lab l c).2 ≤ 86400 := by
  by_cases hm : more l c = true
  · obtain ⟨q, -, -, m3, -⟩ := h.more_lab hm
    rw [m3]; simp
  · rw [lab_plain (by simpa using hm)]
    simp only
    omega
theorem key_lt {s t : Int × Int} (hs : 0 ≤ s.2 ∧ s.2 ≤ 86400) (ht : 0 ≤ t.2 ∧ t.2 ≤ 86400) : key s < key t ↔ s.1 < t.1 ∨ s.1 = t.1 ∧ s.2 < t.2 := by
  unfold key; omega
theorem key_eq {s t : Int × Int} (hs : 0 ≤ s.2 ∧ s.2 ≤ 86400) (ht : 0 ≤ t.2 ∧ t.2 ≤ 86400) (h : key s = key t) : s = t := by
  unfold key at h; exact Prod.ext (by omega) (by omega)
/-- Halving: what is found is the first that isn't below, if there is one in the stretch. -/
def halve (p : Int → Bool) : Nat → Int → Int → Int
  | 0, lo, _ => lo
  | n + 1, lo, hi => if lo < hi then (if p ((lo + hi) / 2) = true then halve p n ((lo + hi) / 2 + 1) hi else halve p n lo ((lo + hi) / 2)) else lo
theorem halve_found (p : Int → Bool) (hp : ∀ x y, x ≤ y → p y = true → p x = true) : ∀ (n : Nat) (lo hi : Int), lo ≤ hi → hi - lo < 2 ^ n → lo ≤ halve p n lo hi ∧ halve p n lo hi ≤ hi ∧ (∀ x, lo ≤ x → x < halve p n lo hi → p x = true) ∧ (halve p n lo hi < hi → p (halve p n lo hi) = false) := by
  intro n
  induction n with
  | zero =>
    intro lo hi h1 h2
    have h3 : hi - lo < 1 := by simpa using h2
    exact ⟨Int.le_refl _, h1, fun x a b => absurd b (by show ¬ x < lo; omega), fun g => absurd g (by show ¬ lo < hi; omega)⟩
  | succ n ih =>
    intro lo hi h1 h2
    have e2 : (2 : Int) ^ (n + 1) = 2 * 2 ^ n := by rw [Int.pow_succ]; omega
    unfold halve
    by_cases h : lo < hi
    · rw [if_pos h]
      by_cases hm : p ((lo + hi) / 2) = true
      · rw [if_pos hm]
        obtain ⟨a1, a2, a3, a4⟩ := ih ((lo + hi) / 2 + 1) hi (by omega) (by omega)
        refine ⟨by omega, a2, fun x hx hx2 => ?_, a4⟩
        by_cases g : x ≤ (lo + hi) / 2
        · exact hp _ _ g hm
        · exact a3 x (by omega) hx2
      · rw [if_neg hm]
        obtain ⟨a1, a2, a3, a4⟩ := ih lo ((lo + hi) / 2) (by omega) (by omega)
        refine ⟨a1, by omega, a3, fun hx => ?_⟩
        by_cases g : halve p n lo ((lo + hi) / 2) < (lo + hi) / 2
        · exact a4 g
        · have : halve p n lo ((lo + hi) / 2) = (lo + hi) / 2 := by omega
          rw [this]; simpa using hm
    · rw [if_neg h]
      exact ⟨Int.le_refl _, h1, fun x hx hx2 => by omega, fun hx => absurd hx h⟩
end Leap
end Go.Proofs.YtmmiboblofopgaaGreat

/- Plain mathematics of layer 17, more: remainders as Go has them, months in a row, days there are. It names no program. -/
namespace Go.Proofs.YtmmiboblofopgaaGreat
namespace Civil
theorem tmod_zero (y k : Int) : y.tmod k = 0 ↔ y % k = 0 := by rw [← Int.dvd_iff_tmod_eq_zero, ← Int.dvd_iff_emod_eq_zero]
theorem tmod_f {y k : Int} (h : y % k ≠ 0) : (y.tmod k == 0) = false := by rw [beq_eq_false_iff_ne]; exact fun e => h ((tmod_zero y k).1 e)
theorem tmod_t {y k : Int} (h : y % k = 0) : (y.tmod k == 0) = true := by rw [beq_iff_eq]; exact (tmod_zero y k).2 h
theorem tmod_bd (y : Int) (k : Nat) (hk : 0 < k) : -(k : Int) < y.tmod k ∧ y.tmod k < k := by
  rcases Int.lt_or_le y 0 with h | h
  · have e : y.tmod k = -((-y) % k) := by
      rw [← Int.tmod_eq_emod_of_nonneg (by omega : 0 ≤ -y), Int.neg_tmod, Int.neg_neg]
    have a := Int.emod_nonneg (-y) (show (k : Int) ≠ 0 by omega)
    have b := Int.emod_lt_of_pos (-y) (show (0 : Int) < k by omega)
    omega
  · rw [Int.tmod_eq_emod_of_nonneg h]
    have a := Int.emod_nonneg y (show (k : Int) ≠ 0 by omega)
    have b := Int.emod_lt_of_pos y (show (0 : Int) < k by omega)
    omega
/-- The table's months. -/
def lens (k : Nat) : Int := if k = 1 then 28 else if k = 3 ∨ k = 5 ∨ k = 8 ∨ k = 10 then 30 else 31
theorem lens_bd (k : Nat) : 28 ≤ lens k ∧ lens k ≤ 31 := by unfold lens; repeat' split
                                                            all_goals omega
theorem days_lens (y : Int) (k : Nat) (h : k < 12) (hk : k ≠ 1) : days y ((k : Int) + 1) = lens k := by
  unfold days lens
  have hc : k = 0 ∨ k = 2 ∨ k = 3 ∨ k = 4 ∨ k = 5 ∨ k = 6 ∨ k = 7 ∨ k = 8 ∨ k = 9 ∨ k = 10 ∨ k = 11 := by omega
  rcases hc with rfl | rfl | rfl | rfl | rfl | rfl | rfl | rfl | rfl | rfl | rfl <;> simp
theorem days_feb (y : Int) : days y 2 = 28 + one y := by simp [days]
theorem days_le (y m : Int) : 0 ≤ days y m ∧ days y m ≤ 31 := by
  have := one_bd y; unfold days; repeat' split
  all_goals omega
theorem one_t {y : Int} (h : isLeap y = true) : one y = 1 := by unfold one; rw [if_pos h]
theorem one_f {y : Int} (h : isLeap y = false) : one y = 0 := by unfold one; rw [h]; rfl
theorem leap_t {y : Int} (h : y % 4 = 0 ∧ (y % 100 ≠ 0 ∨ y % 400 = 0)) : isLeap y = true := by unfold isLeap; exact decide_eq_true h
theorem leap_f {y : Int} (h : ¬ (y % 4 = 0 ∧ (y % 100 ≠ 0 ∨ y % 400 = 0))) : isLeap y = false := by unfold isLeap; exact decide_eq_false h
/-- Where a year's number may be. -/
theorem first_bd {y : Int} : 365 * (y - 1970) - 477 + (y - 1) / 4 - (y - 1) / 100 + (y - 1) / 400 = first y := by unfold first leaps; omega
theorem first_lt {y : Int} (h : first y ≤ 4294967296) : y ≤ 11761191 := by rw [← first_bd] at h; omega
theorem first_gt {y : Int} (h : -4294967296 < first y) : -11757252 < y := by rw [← first_bd] at h; omega
theorem first_in {y : Int} (h1 : -100000000 ≤ y) (h2 : y ≤ 100000000) : -40000000000 ≤ first y ∧ first y ≤ 40000000000 := by rw [← first_bd]; omega
/-- The number of a day, if there is one. -/
def num (y m d : Int) : Int := first y + ahead y m + d - 1
def inn (n : Int) : Prop := -4294967296 ≤ n ∧ n ≤ 4294967296
instance (n : Int) : Decidable (inn n) := inferInstanceAs (Decidable (_ ∧ _))
def real (y m d : Int) : Prop := (-11767033 ≤ y ∧ y ≤ 11767033) ∧ (1 ≤ d ∧ d ≤ days y m)
instance (y m d : Int) : Decidable (real y m d) := inferInstanceAs (Decidable (_ ∧ _))
def may (y m d : Int) : Prop := real y m d ∧ inn (num y m d)
instance (y m d : Int) : Decidable (may y m d) := inferInstanceAs (Decidable (_ ∧ _))
theorem real.month {y m d : Int} (h : real y m d) : 1 ≤ m ∧ m ≤ 12 := by
  obtain ⟨-, h1, h2⟩ := h
  by_cases g : m < 1 ∨ 12 < m
  · rw [days_no g] at h2; omega
  · omega
theorem real.is {y m d : Int} (h : real y m d) : Is (num y m d) y m d := ⟨h.month, h.2, rfl⟩
theorem Is.there {n y m d : Int} (h : Is n y m d) (hn : inn n) : may y m d := by
  have hy := h.year
  obtain ⟨a, b, e⟩ := h
  have e2 : num y m d = n := by unfold num; omega
  have hx := first_lt (y := y) (by unfold inn at hn; omega)
  have hz := first_gt (y := y + 1) (by unfold inn at hn; omega)
  exact ⟨⟨⟨by omega, by omega⟩, b⟩, by rw [e2]; exact hn⟩
theorem Is.same {n y m d : Int} (h : Is n y m d) : num y m d = n := by unfold num; have := h.2.2; omega
/-- Each number is one day's. -/
theorem is_next {n y m d : Int} (h : Is n y m d) : ∃ y' m' d', Is (n + 1) y' m' d' := by
  obtain ⟨a, b, c⟩ := h.next
  obtain ⟨⟨m1, m2⟩, ⟨d1, d2⟩, -⟩ := h
  rcases Int.lt_or_le d (days y m) with g | g
  · exact ⟨_, _, _, a g⟩
  · have e : d = days y m := by omega
    rcases Int.lt_or_le m 12 with k | k
    · exact ⟨_, _, _, b e k⟩
    · exact ⟨_, _, _, c e (by omega)⟩
theorem is_one : Is 0 1970 1 1 := ⟨by decide, by decide, by decide⟩
theorem is_nat (n : Nat) : ∃ y m d, Is n y m d := by
  induction n with
  | zero => exact ⟨_, _, _, is_one⟩
  | succ n ih => obtain ⟨y, m, d, h⟩ := ih; exact is_next h
theorem is_some (n : Int) : ∃ y m d, Is n y m d := by
  obtain ⟨y, m, d, h⟩ := is_nat (n + 146097 * n.natAbs).toNat
  have e : (((n + 146097 * n.natAbs).toNat : Nat) : Int) = n + 146097 * n.natAbs := by omega
  rw [e] at h
  have g := h.cycle (-(n.natAbs : Int))
  rw [show n + 146097 * (n.natAbs : Int) + 146097 * -(n.natAbs : Int) = n by omega] at g
  exact ⟨_, _, _, g⟩
/-- A year is that of a number by its two ends. -/
theorem year_one {n y z : Int} (h1 : first y ≤ n) (h2 : n < first (y + 1)) (g1 : first z ≤ n) (g2 : n < first (z + 1)) : z = y := by
  rcases Int.lt_trichotomy y z with c | c | c
  · have := first_mono (y := y + 1) (z := z) (by omega); omega
  · exact c.symm
  · have := first_mono (y := z + 1) (z := y) (by omega); omega
theorem ahead_bd {y m : Int} (h1 : 1 ≤ m) (h2 : m ≤ 13) : 0 ≤ ahead y m ∧ ahead y m ≤ 366 := by
  have h0 := one_bd y
  have hc : m = 1 ∨ m = 2 ∨ m = 3 ∨ m = 4 ∨ m = 5 ∨ m = 6 ∨ m = 7 ∨ m = 8 ∨ m = 9 ∨ m = 10 ∨ m = 11 ∨ m = 12 ∨ m = 13 := by omega
  rcases hc with rfl | rfl | rfl | rfl | rfl | rfl | rfl | rfl | rfl | rfl | rfl | rfl | rfl <;> simp [ahead] <;> omega
theorem ahead_one (y : Int) : ahead y 1 = 0 := by simp [ahead]
/-- A guess at a year. -/
def guess (n : Int) : Int := 1970 + Wide.down n 400 146097
theorem guess_bd {n : Int} (h : inn n) : -20000000 ≤ guess n ∧ guess n ≤ 20000000 := by
  unfold guess Wide.down Wide.fdiv
  have e : Wide.one 146097 = 146097 := by decide
  unfold inn at h
  rw [e, Sat.clip_in (x := n) (by omega) (by omega), Sat.clip_in (x := 400) (by omega) (by omega), Sat.clip_in (by omega) (by omega)]
  omega
/-- Weeks. -/
def week (n : Int) : Int := (n + 3) % 7
theorem week_bd (n : Int) : 0 ≤ week n ∧ week n ≤ 6 := by unfold week; omega
end Civil
end Go.Proofs.YtmmiboblofopgaaGreat

/- Plain mathematics of layer 18, more: where an entry stands in a table, what a label is, how labels stand, what a label's count is. It names no program. -/
namespace Go.Proofs.YtmmiboblofopgaaGreat
namespace Leap
/-- How many entries stand ahead of the first one behind a count. -/
def gone (c : Int) (l : List (Int × Int)) : Nat := l.findIdx fun e => decide (c < e.1)
theorem gone_nil (c : Int) : gone c [] = 0 := rfl
theorem gone_cons (c : Int) (e : Int × Int) (l : List (Int × Int)) : gone c (e :: l) = if c < e.1 then 0 else gone c l + 1 := by
  unfold gone
  rw [List.findIdx_cons]
  by_cases h : c < e.1
  · simp [h]
  · simp [h]
theorem gone_le (c : Int) (l : List (Int × Int)) : gone c l ≤ l.length := List.findIdx_le_length
theorem gone_at {c : Int} {l : List (Int × Int)} (h : gone c l < l.length) : c < (l[gone c l]).1 := by
  have := List.findIdx_getElem (xs := l) (p := fun e => decide (c < e.1)) (w := (show List.findIdx (fun e => decide (c < e.1)) l < l.length from h))
  simpa [gone] using this
/-- The offset, as the program finds it. -/
def ofs (o c : Int) (l : List (Int × Int)) : Int := match gone c l with
  | 0 => o
  | k + 1 => match l[k]? with
    | some e => e.2
    | none => o
theorem Chain.ofs {a o c : Int} {l : List (Int × Int)} (h : Chain a o l) : ofs o c l = off o c l := by
  induction l generalizing a o with
  | nil => rfl
  | cons e l ih =>
    rw [off]
    by_cases g : e.1 ≤ c
    · rw [if_pos g, ← ih h.2.2.2]
      unfold Leap.ofs
      rw [gone_cons, if_neg (by omega)]
      have hle := gone_le c l
      generalize gone c l = n at hle
      cases n with
      | zero => rfl
      | succ n =>
        simp only [List.getElem?_cons_succ]
        rw [List.getElem?_eq_getElem (by omega)]
    · rw [if_neg g, off_early (fun x hx => by have := h.2.2.2.ge x hx; omega)]
      unfold Leap.ofs
      rw [gone_cons, if_pos (by omega)]
/-- A second more, as the program finds it. -/
def mor (c : Int) (l : List (Int × Int)) : Bool := match l[gone c l]? with
  | some e => decide (e.1 = c + 1) && decide (ofs 0 c l < e.2)
  | none => false
theorem Chain.next_at {a o c : Int} {l : List (Int × Int)} (h : Chain a o l) {e : Int × Int} (he : e ∈ l) (hc : e.1 = c + 1) : l[gone c l]? = some e := by
  induction l generalizing a o with
  | nil => cases he
  | cons x l ih =>
    rw [gone_cons]
    rcases List.mem_cons.1 he with rfl | g
    · rw [if_pos (by omega)]; rfl
    · have := h.2.2.2.ge e g
      rw [if_neg (by omega), List.getElem?_cons_succ]
      exact ih h.2.2.2 g
theorem Chain.mor {a c : Int} {l : List (Int × Int)} (h : Chain a 0 l) : mor c l = more l c := by
  rw [Bool.eq_iff_iff, more_iff]
  unfold Leap.mor
  rw [h.ofs]
  constructor
  · intro g
    cases hx : l[gone c l]? with
    | none => rw [hx] at g; cases g
    | some e =>
      rw [hx] at g
      simp at g
      exact ⟨e, List.mem_of_getElem? hx, g.1, g.2⟩
  · rintro ⟨e, he, h1, h2⟩
    rw [h.next_at he h1]
    simp [h1, h2]
/-- The day's number and what is left, by which a label is made: m is 1 of a second more. -/
def mint (c : Int) (l : List (Int × Int)) : Int := if more l c = true then 1 else 0
theorem mint_bd (c : Int) (l : List (Int × Int)) : 0 ≤ mint c l ∧ mint c l ≤ 1 := by unfold mint; split <;> omega
theorem Chain.lab_eq {a : Int} {l : List (Int × Int)} (h : Chain a 0 l) (c : Int) : lab l c = ((c - mint c l - off 0 c l) / 86400, (c - mint c l - off 0 c l) % 86400 + mint c l) ∧ (mint c l = 1 → (c - mint c l - off 0 c l) % 86400 = 86399) := by
  unfold mint
  by_cases hm : more l c = true
  · obtain ⟨q, m1, m2, m3, -, -, -⟩ := h.more_lab hm
    rw [if_pos hm, m3]
    refine ⟨Prod.ext ?_ ?_, fun _ => ?_⟩
    · show q - 1 = (c - 1 - off 0 c l) / 86400; omega
    · show 86400 = (c - 1 - off 0 c l) % 86400 + 1; omega
    · omega
  · rw [if_neg hm, lab_plain (by simpa using hm)]
    refine ⟨Prod.ext ?_ ?_, fun h => absurd h (by decide)⟩
    · show (c - off 0 c l) / 86400 = (c - 0 - off 0 c l) / 86400; rw [Int.sub_zero]
    · show (c - off 0 c l) % 86400 = (c - 0 - off 0 c l) % 86400 + 0; rw [Int.sub_zero, Int.add_zero]
/-- A label: six numbers. -/
structure Lb where
  y : Int
  m : Int
  d : Int
  h : Int
  i : Int
  s : Int
  deriving DecidableEq
theorem Lb.ext_iff' (a b : Lb) : a = b ↔ a.y = b.y ∧ a.m = b.m ∧ a.d = b.d ∧ a.h = b.h ∧ a.i = b.i ∧ a.s = b.s := by
  cases a; cases b; simp
/-- Is a label earlier? -/
def bef (a b : Lb) : Bool := decide (a.y < b.y ∨ a.y = b.y ∧ (a.m < b.m ∨ a.m = b.m ∧ (a.d < b.d ∨ a.d = b.d ∧ (a.h < b.h ∨ a.h = b.h ∧ (a.i < b.i ∨ a.i = b.i ∧ a.s < b.s)))))
theorem bef_trans {a b c : Lb} (h : bef a b = true) (k : bef b c = true) : bef a c = true := by
  unfold bef at *
  rw [decide_eq_true_eq] at *
  omega
theorem bef_irrefl (a : Lb) : bef a a = false := by unfold bef; rw [decide_eq_false_iff_not]; omega
/-- The day of a number. -/
noncomputable def date (n : Int) : Int × Int × Int := (Classical.choose (Civil.is_some n), Classical.choose (Classical.choose_spec (Civil.is_some n)), Classical.choose (Classical.choose_spec (Classical.choose_spec (Civil.is_some n))))
theorem date_is (n : Int) : Civil.Is n (date n).1 (date n).2.1 (date n).2.2 := Classical.choose_spec (Classical.choose_spec (Classical.choose_spec (Civil.is_some n)))
theorem date_one {n y m d : Int} (h : Civil.Is n y m d) : date n = (y, m, d) := by
  obtain ⟨a, b, c⟩ := (date_is n).day h
  exact Prod.ext a (Prod.ext b c)
theorem is_lt {n y m d n' y' m' d' : Int} (h : Civil.Is n y m d) (g : Civil.Is n' y' m' d') (hn : n < n') : y < y' ∨ y = y' ∧ (m < m' ∨ m = m' ∧ d < d') := by
  have h1 := h.year
  have g1 := g.year
  obtain ⟨a, b, c⟩ := h
  obtain ⟨a', b', c'⟩ := g
  rcases Int.lt_trichotomy y y' with k | k | k
  · exact .inl k
  · subst k
    refine .inr ⟨rfl, ?_⟩
    rcases Int.lt_trichotomy m m' with k | k | k
    · exact .inl k
    · subst k; exact .inr ⟨rfl, by omega⟩
    · have := Civil.ahead_mono y (m := m') (k := m) (by omega) k (by omega); omega
  · have := Civil.first_mono (y := y' + 1) (z := y) (by omega); omega
/-- The hour, the minute, the second of a day's second; of the 86401st: 23:59:60. -/
def hour (s : Int) : Int := if s = 86400 then 23 else s / 3600
def minute (s : Int) : Int := if s = 86400 then 59 else s % 3600 / 60
def second (s : Int) : Int := if s = 86400 then 60 else s % 60
theorem tod_lt {s t : Int} (_h : 0 ≤ s) (hst : s < t) (ht : t ≤ 86400) : hour s < hour t ∨ hour s = hour t ∧ (minute s < minute t ∨ minute s = minute t ∧ second s < second t) := by
  unfold hour minute second
  simp only [if_neg (show ¬ s = 86400 by omega)]
  by_cases g : t = 86400
  · simp only [if_pos g]; omega
  · simp only [if_neg g]; omega
theorem tod_sum {s : Int} (h : 0 ≤ s) (ht : s ≤ 86400) : 3600 * hour s + 60 * minute s + second s = s ∧ (0 ≤ hour s ∧ hour s ≤ 23) ∧ (0 ≤ minute s ∧ minute s ≤ 59) ∧ 0 ≤ second s ∧ second s ≤ 60 := by
  unfold hour minute second
  by_cases g : s = 86400
  · simp only [if_pos g]; omega
  · simp only [if_neg g]
    exact ⟨by omega, ⟨by omega, by omega⟩, ⟨by omega, by omega⟩, by omega, by omega⟩
/-- The label of a day's number and its second. -/
noncomputable def mk (s : Int × Int) : Lb := ⟨(date s.1).1, (date s.1).2.1, (date s.1).2.2, hour s.2, minute s.2, second s.2⟩
theorem mk_lt {s t : Int × Int} (hs : 0 ≤ s.2 ∧ s.2 ≤ 86400) (ht : 0 ≤ t.2 ∧ t.2 ≤ 86400) (h : key s < key t) : bef (mk s) (mk t) = true := by
  rw [key_lt hs ht] at h
  unfold bef mk
  rw [decide_eq_true_eq]
  rcases h with h | ⟨h1, h2⟩
  · have := is_lt (date_is s.1) (date_is t.1) h
    simp only; omega
  · have := tod_lt hs.1 h2 ht.2
    rw [h1]; simp only [Int.lt_irrefl, true_and, false_or]; exact this
theorem mk_one {s t : Int × Int} (hs : 0 ≤ s.2 ∧ s.2 ≤ 86400) (ht : 0 ≤ t.2 ∧ t.2 ≤ 86400) (h : mk s = mk t) : s = t := by
  refine key_eq hs ht ?_
  rcases Int.lt_trichotomy (key s) (key t) with g | g | g
  · have := mk_lt hs ht g; rw [h, bef_irrefl] at this; cases this
  · exact g
  · have := mk_lt ht hs g; rw [h, bef_irrefl] at this; cases this
/-- The label of a count. -/
noncomputable def lbl (l : List (Int × Int)) (c : Int) : Lb := mk (lab l c)
theorem Chain.lbl_rise {a : Int} {l : List (Int × Int)} (h : Chain a 0 l) {c d : Int} (hcd : c < d) : bef (lbl l c) (lbl l d) = true := mk_lt (h.lab_bd c) (h.lab_bd d) (h.rise hcd)
theorem Chain.lbl_one {a : Int} {l : List (Int × Int)} (h : Chain a 0 l) {c d : Int} (e : lbl l c = lbl l d) : c = d := h.one (mk_one (h.lab_bd c) (h.lab_bd d) e)
theorem Chain.bef_iff {a : Int} {l : List (Int × Int)} (h : Chain a 0 l) (c d : Int) : bef (lbl l c) (lbl l d) = true ↔ c < d := by
  refine ⟨fun g => ?_, h.lbl_rise⟩
  rcases Int.lt_trichotomy c d with k | k | k
  · exact k
  · subst k; rw [bef_irrefl] at g; cases g
  · have := bef_trans g (h.lbl_rise k); rw [bef_irrefl] at this; cases this
/-- The offset is 0 or an entry's. -/
theorem off_some (o c : Int) (l : List (Int × Int)) : off o c l = o ∨ ∃ e ∈ l, off o c l = e.2 := by
  induction l generalizing o with
  | nil => exact .inl rfl
  | cons x l ih =>
    rw [off]
    by_cases h : x.1 ≤ c
    · rw [if_pos h]
      rcases ih x.2 with g | ⟨e, he, g⟩
      · exact .inr ⟨x, List.mem_cons_self, g⟩
      · exact .inr ⟨e, List.mem_cons_of_mem _ he, g⟩
    · rw [if_neg h]
      rcases ih o with g | ⟨e, he, g⟩
      · exact .inl g
      · exact .inr ⟨e, List.mem_cons_of_mem _ he, g⟩
theorem off_bd {o c : Int} {l : List (Int × Int)} {b : Int} (ho : -b ≤ o ∧ o ≤ b) (h : ∀ e ∈ l, -b ≤ e.2 ∧ e.2 ≤ b) : -b ≤ off o c l ∧ off o c l ≤ b := by
  rcases off_some o c l with g | ⟨e, he, g⟩
  · rw [g]; exact ho
  · rw [g]; exact h e he
/-- A good table: a leap table whose leaps are at the ends of days. -/
def good (l : List (Int × Int)) : Bool := Wire.tab l && l.all fun e => decide ((e.1 - e.2) % 86400 = 0)
theorem chain_of {a o : Int} {l : List (Int × Int)} (h : Wire.tabFrom a o l = true) (g : ∀ e ∈ l, (e.1 - e.2) % 86400 = 0) : Chain a o l := by
  induction l generalizing a o with
  | nil => trivial
  | cons e l ih =>
    simp only [Wire.tabFrom, Bool.and_eq_true, decide_eq_true_eq] at h
    exact ⟨h.1.1, h.1.2.2.2.2, g e List.mem_cons_self, ih h.2 fun x hx => g x (List.mem_cons_of_mem _ hx)⟩
theorem tab_bd {l : List (Int × Int)} (h : Wire.tab l = true) : l.length ≤ 32 ∧ ∀ e ∈ l, (0 ≤ e.1 ∧ e.1 ≤ 1099511627776) ∧ -32 ≤ e.2 ∧ e.2 ≤ 32 := by
  unfold Wire.tab at h
  rw [Bool.and_eq_true, decide_eq_true_eq] at h
  exact ⟨h.1, Wire.tabFrom_bd l 0 0 (by omega) h.2⟩
theorem good_chain {l : List (Int × Int)} (h : good l = true) : Chain 0 0 l := by
  unfold good Wire.tab at h
  simp only [Bool.and_eq_true, decide_eq_true_eq] at h
  exact chain_of h.1.2 fun e he => by simpa using List.all_eq_true.1 h.2 e he
theorem good_tab {l : List (Int × Int)} (h : good l = true) : Wire.tab l = true := by
  unfold good at h; rw [Bool.and_eq_true] at h; exact h.1
theorem good_off {l : List (Int × Int)} (h : good l = true) (c : Int) : -32 ≤ off 0 c l ∧ off 0 c l ≤ 32 :=
  off_bd (by omega) fun e he => ((tab_bd (good_tab h)).2 e he).2
/-- The counts there are. -/
def cnt (c : Int) : Prop := -4398046511104 ≤ c ∧ c ≤ 4398046511104
instance (c : Int) : Decidable (cnt c) := inferInstanceAs (Decidable (_ ∧ _))
/-- The number of a count's day. -/
theorem lab_inn {l : List (Int × Int)} (h : good l = true) {c : Int} (h1 : -4398046511105 ≤ c) (h2 : c ≤ 4398046511105) : Civil.inn (lab l c).1 := by
  have hb := good_off h c
  have hm := mint_bd c l
  obtain ⟨e, -⟩ := (good_chain h).lab_eq c
  rw [e]
  unfold Civil.inn
  simp only
  omega
/-- What a label's numbers make, but for the offset: the count. -/
theorem lbl_sum {l : List (Int × Int)} (h : good l = true) (c : Int) : 86400 * (lab l c).1 + 3600 * (lbl l c).h + 60 * (lbl l c).i + (lbl l c).s = c - off 0 c l := by
  obtain ⟨e, -⟩ := (good_chain h).lab_eq c
  have hb := (good_chain h).lab_bd c
  have ht := tod_sum hb.1 hb.2
  show 86400 * (lab l c).1 + 3600 * hour (lab l c).2 + 60 * minute (lab l c).2 + second (lab l c).2 = _
  rw [show 86400 * (lab l c).1 + 3600 * hour (lab l c).2 + 60 * minute (lab l c).2 + second (lab l c).2 = 86400 * (lab l c).1 + (lab l c).2 by omega, e]
  simp only
  omega
theorem lbl_bd {l : List (Int × Int)} (h : good l = true) (c : Int) : (0 ≤ (lbl l c).h ∧ (lbl l c).h ≤ 23) ∧ (0 ≤ (lbl l c).i ∧ (lbl l c).i ≤ 59) ∧ 0 ≤ (lbl l c).s ∧ (lbl l c).s ≤ 60 := by
  have hb := (good_chain h).lab_bd c
  exact (tod_sum hb.1 hb.2).2
theorem lbl_is (l : List (Int × Int)) (c : Int) : Civil.Is (lab l c).1 (lbl l c).y (lbl l c).m (lbl l c).d := date_is _
/-- The offsets that counts may have. -/
def offs (l : List (Int × Int)) : List Int := 0 :: l.map (·.2)
theorem off_mem (c : Int) (l : List (Int × Int)) : off 0 c l ∈ offs l := by
  unfold offs
  rcases off_some 0 c l with g | ⟨e, he, g⟩
  · rw [g]; exact List.mem_cons_self
  · rw [g]; exact List.mem_cons_of_mem _ (List.mem_map.2 ⟨e, he, rfl⟩)
/-- A count found by halving, if there is one of that label. -/
def find (_l : List (Int × Int)) (_L : Lb) (p : Int → Bool) : Int := halve p 50 (-4398046511104) 4398046511104
theorem find_is {l : List (Int × Int)} (h : good l = true) {L : Lb} {p : Int → Bool} (hp : ∀ c, p c = bef (lbl l c) L) {c : Int} (hc : cnt c) (hL : lbl l c = L) : find l L p = c := by
  have hm : ∀ x y, x ≤ y → p y = true → p x = true := fun x y hxy hy => by
    rw [hp] at hy ⊢
    rcases Int.lt_or_eq_of_le hxy with g | g
    · exact bef_trans ((good_chain h).lbl_rise g) hy
    · rw [g]; exact hy
  obtain ⟨a1, a2, a3, a4⟩ := halve_found p hm 50 (-4398046511104) 4398046511104 (by omega) (by omega)
  obtain ⟨c1, c2⟩ := hc
  unfold find
  generalize halve p 50 (-4398046511104) 4398046511104 = R at *
  rcases Int.lt_trichotomy R c with g | g | g
  · have g1 := a4 (by omega)
    have g2 := (good_chain h).lbl_rise g
    rw [hp, ← hL, g2] at g1; cases g1
  · exact g
  · have g1 := a3 c c1 g
    rw [hp, hL, bef_irrefl] at g1; cases g1
theorem find_in {l : List (Int × Int)} (L : Lb) (p : Int → Bool) (hm : ∀ x y, x ≤ y → p y = true → p x = true) : cnt (find l L p) := by
  obtain ⟨a1, a2, -, -⟩ := halve_found p hm 50 (-4398046511104) 4398046511104 (by omega) (by omega)
  exact ⟨a1, a2⟩
/-- Where no leap is near, the next label is a second later. -/
theorem lbl_next {l : List (Int × Int)} (h : good l = true) {c : Int} (hs : (lbl l c).s < 58) : (lbl l (c + 1)).s = (lbl l c).s + 1 ∧ (lbl l (c + 1)).i = (lbl l c).i ∧ (lbl l (c + 1)).d = (lbl l c).d := by
  have H := good_chain h
  obtain ⟨e1, e2⟩ := H.lab_eq c
  have hb := H.lab_bd c
  have hm : more l c = false := by
    cases hx : more l c with
    | false => rfl
    | true =>
      obtain ⟨q, -, -, m3, -⟩ := H.more_lab hx
      have : (lbl l c).s = 60 := by show second (lab l c).2 = 60; rw [m3]; rfl
      omega
  have hlab := lab_plain hm
  obtain ⟨q, hq⟩ : ∃ q, (c - off 0 c l) / 86400 = q := ⟨_, rfl⟩
  obtain ⟨r, hr⟩ : ∃ r, (c - off 0 c l) % 86400 = r := ⟨_, rfl⟩
  rw [hq, hr] at hlab
  have hrb : 0 ≤ r ∧ r < 86400 := by omega
  have hs2 : r % 60 < 58 := by
    have : (lbl l c).s = r % 60 := by show second (lab l c).2 = _; rw [hlab]; unfold second; rw [if_neg (by simp only; omega)]
    omega
  have hno : ∀ e ∈ l, e.1 ≠ c + 1 := fun e he hec => by
    obtain ⟨k1, k2⟩ := H.off_at he hec
    have k3 := H.mod e he
    rcases k2 with g | g
    · have := more_iff.2 ⟨e, he, hec, by omega⟩
      rw [hm] at this; cases this
    · omega
  have ho := off_same (o := 0) hno
  have hm1 : more l (c + 1) = false := by
    cases hx : more l (c + 1) with
    | false => rfl
    | true =>
      obtain ⟨q', m1, -, -, -⟩ := H.more_lab hx
      rw [ho] at m1
      omega
  have hlab1 := lab_plain hm1
  rw [ho, show (c + 1 - off 0 c l) / 86400 = q by omega, show (c + 1 - off 0 c l) % 86400 = r + 1 by omega] at hlab1
  unfold lbl mk
  rw [hlab, hlab1]
  simp only
  refine ⟨?_, ?_, trivial⟩
  · unfold second; rw [if_neg (by omega), if_neg (by omega)]; omega
  · unfold minute; rw [if_neg (by omega), if_neg (by omega)]; omega
/-- Around a leap: an entry's At is a day's first second; ahead of it 59 and 60, or 57 and 58. -/
theorem lbl_leap {l : List (Int × Int)} (h : good l = true) {e : Int × Int} (he : e ∈ l) :
    ((lbl l e.1).h = 0 ∧ (lbl l e.1).i = 0 ∧ (lbl l e.1).s = 0) ∧ ((lbl l (e.1 - 1)).h = 23 ∧ (lbl l (e.1 - 1)).i = 59 ∧ (lbl l (e.1 - 2)).i = 59 ∧ (lbl l (e.1 - 2)).d = (lbl l (e.1 - 1)).d) ∧
    (off 0 (e.1 - 1) l < e.2 → (lbl l (e.1 - 2)).s = 59 ∧ (lbl l (e.1 - 1)).s = 60) ∧
    (¬ off 0 (e.1 - 1) l < e.2 → (lbl l (e.1 - 2)).s = 57 ∧ (lbl l (e.1 - 1)).s = 58 ∧ ∀ c, lbl l c ≠ { lbl l (e.1 - 1) with s := 59 }) := by
  have H := good_chain h
  have hec : e.1 = e.1 - 1 + 1 := by omega
  obtain ⟨k1, k2⟩ := H.off_at he hec
  rw [← hec] at k1
  have k3 := H.mod e he
  have hno : ∀ c, e.1 - 86400 < c → c < e.1 + 86400 → c ≠ e.1 → ∀ x ∈ l, x.1 ≠ c := fun c h1 h2 h3 x hx hxc => by
    rcases Int.lt_or_le x.1 e.1 with g | g
    · have := H.apart hx he (by omega) (by omega); subst this; omega
    · have := H.apart he hx (by omega) (by omega); subst this; omega
  have hnm : ∀ c, e.1 - 86400 < c + 1 → c + 1 < e.1 + 86400 → c + 1 ≠ e.1 → more l c = false := fun c h1 h2 h3 => by
    cases hx : more l c with
    | false => rfl
    | true => obtain ⟨x, hx, g1, _⟩ := more_iff.1 hx; exact absurd g1 (hno _ h1 h2 h3 x hx)
  have o2 := off_same (o := 0) (c := e.1 - 2) (l := l) (by rw [show e.1 - 2 + 1 = e.1 - 1 by omega]; exact hno _ (by omega) (by omega) (by omega))
  rw [show e.1 - 2 + 1 = e.1 - 1 by omega] at o2
  have l0 := lab_plain (hnm e.1 (by omega) (by omega) (by omega))
  have l2 := lab_plain (hnm (e.1 - 2) (by omega) (by omega) (by omega))
  obtain ⟨q, hq⟩ : ∃ q, (e.1 - e.2) / 86400 = q := ⟨_, rfl⟩
  have hq2 : e.1 - e.2 = 86400 * q := by omega
  have L0 : lab l e.1 = (q, 0) := by rw [l0, k1]; exact Prod.ext hq k3
  have hle : ∀ q r, lab l (e.1 - 2) = (q, r) → lbl l (e.1 - 2) = mk (q, r) := fun q r h => by unfold lbl; rw [h]
  rcases k2 with k2 | k2
  · have hm : more l (e.1 - 1) = true := more_iff.2 ⟨e, he, by omega, by omega⟩
    obtain ⟨q', m1, -, m3, -⟩ := H.more_lab hm
    have e' : q' = q := by omega
    subst e'
    have L2 : lab l (e.1 - 2) = (q' - 1, 86399) := by
      rw [l2, ← o2]
      refine Prod.ext ?_ ?_
      · show (e.1 - 2 - off 0 (e.1 - 1) l) / 86400 = q' - 1; omega
      · show (e.1 - 2 - off 0 (e.1 - 1) l) % 86400 = 86399; omega
    unfold lbl
    rw [L0, m3, L2]
    refine ⟨⟨by show hour 0 = 0; decide, by show minute 0 = 0; decide, by show second 0 = 0; decide⟩, ⟨by show hour 86400 = 23; decide, by show minute 86400 = 59; decide, by show minute 86399 = 59; decide, rfl⟩, fun _ => ⟨by show second 86399 = 59; decide, by show second 86400 = 60; decide⟩, fun g => absurd (by omega) g⟩
  · have l1 := lab_plain (show more l (e.1 - 1) = false by
      cases hx : more l (e.1 - 1) with
      | false => rfl
      | true =>
        obtain ⟨x, hx, g1, g2⟩ := more_iff.1 hx
        have := H.apart he hx (by omega) (by omega)
        subst this; omega)
    have L1 : lab l (e.1 - 1) = (q - 1, 86398) := by
      rw [l1]
      refine Prod.ext ?_ ?_
      · show (e.1 - 1 - off 0 (e.1 - 1) l) / 86400 = q - 1; omega
      · show (e.1 - 1 - off 0 (e.1 - 1) l) % 86400 = 86398; omega
    have L2 : lab l (e.1 - 2) = (q - 1, 86397) := by
      rw [l2, ← o2]
      refine Prod.ext ?_ ?_
      · show (e.1 - 2 - off 0 (e.1 - 1) l) / 86400 = q - 1; omega
      · show (e.1 - 2 - off 0 (e.1 - 1) l) % 86400 = 86397; omega
    refine ⟨?_, ?_, fun g => absurd g (by omega), fun _ => ⟨?_, ?_, fun c hc => ?_⟩⟩
    · unfold lbl; rw [L0]; exact ⟨by show hour 0 = 0; decide, by show minute 0 = 0; decide, by show second 0 = 0; decide⟩
    · unfold lbl; rw [L1, L2]; exact ⟨by show hour 86398 = 23; decide, by show minute 86398 = 59; decide, by show minute 86397 = 59; decide, rfl⟩
    · unfold lbl; rw [L2]; show second 86397 = 57; decide
    · unfold lbl; rw [L1]; show second 86398 = 58; decide
    · have hx : mk (lab l c) = mk (q - 1, 86399) := by
        show lbl l c = _
        rw [hc]
        unfold lbl
        rw [L1]
        rfl
      have hy := mk_one (H.lab_bd c) (by simp) hx
      have r1 := H.rise (c := e.1 - 1) (d := e.1) (by omega)
      rcases Int.lt_or_le (e.1 - 1) c with g | g
      · rcases Int.lt_or_le c e.1 with g2 | g2
        · omega
        · rcases Int.lt_or_eq_of_le g2 with g3 | g3
          · have := H.rise g3; rw [hy, L0] at this; unfold key at this; simp only at this; omega
          · subst g3; rw [hy] at L0; have : (86399 : Int) = 0 := congrArg Prod.snd L0; omega
      · rcases Int.lt_or_eq_of_le g with g3 | g3
        · have := H.rise g3; rw [hy, L1] at this; unfold key at this; simp only at this; omega
        · subst g3; rw [hy] at L1; have : (86399 : Int) = 86398 := congrArg Prod.snd L1; omega
/-- An entry more, behind all others, changes no label ahead of it. -/
theorem lbl_snoc {l : List (Int × Int)} {e : Int × Int} {c : Int} (h : c < e.1 - 1) : lbl (l ++ [e]) c = lbl l c := by
  have ho : ∀ x, x < e.1 → off 0 x (l ++ [e]) = off 0 x l := fun x hx => by rw [off_snoc, if_neg (by omega)]
  have hm : more (l ++ [e]) c = more l c := by
    unfold more
    rw [ho c (by omega), List.any_append]
    simp only [List.any_cons, List.any_nil, Bool.or_false]
    rw [decide_eq_false (show ¬ e.1 - 1 = c by omega)]
    simp
  unfold lbl lab
  rw [hm, ho c (by omega), ho (c - 1) (by omega)]
end Leap
end Go.Proofs.YtmmiboblofopgaaGreat

/- Plain mathematics of layer 20: stamps. It names no program. -/
namespace Go.Proofs.YtmmiboblofopgaaGreat
namespace Hlc
def less (a b : Int × Int) : Bool := if a.1 = b.1 then decide (a.2 < b.2) else decide (a.1 < b.1)
def right (s : Int × Int) : Bool := decide (Sat.clip s.1 = s.1) && decide (0 ≤ s.2 ∧ s.2 ≤ 1073741824)
def next (s : Int × Int) : Int × Int := if 1073741824 ≤ s.2 then (Sat.sum [s.1, 1], 0) else (Sat.clip s.1, if 0 < s.2 then s.2 + 1 else 1)
def tick (c : Int × Int) (now : Int) : Int × Int := if c.1 < Sat.clip now then (Sat.clip now, 0) else next c
def best2 (a b : Int × Int) : Int × Int := if less a b = true then b else a
def hear (c : Int × Int) (now : Int) (s : Int × Int) (most : Int) : (Int × Int) × Bool := if right s = true ∧ s.1 ≤ most then (next (best2 (best2 c s) (Sat.clip now, -1)), true) else (tick c now, false)
theorem less_iff (a b : Int × Int) : less a b = true ↔ a.1 < b.1 ∨ a.1 = b.1 ∧ a.2 < b.2 := by
  unfold less
  by_cases h : a.1 = b.1
  · rw [if_pos h]; simp; omega
  · rw [if_neg h]; simp; omega
theorem clip_fix {x : Int} : Sat.clip x = x ↔ -2305843009213693952 ≤ x ∧ x ≤ 2305843009213693952 := by
  constructor
  · intro h; have := Sat.clip_bd x; omega
  · intro h; exact Sat.clip_in h.1 h.2
theorem right_iff (s : Int × Int) : right s = true ↔ (-2305843009213693952 ≤ s.1 ∧ s.1 ≤ 2305843009213693952) ∧ 0 ≤ s.2 ∧ s.2 ≤ 1073741824 := by
  unfold right
  rw [Bool.and_eq_true, decide_eq_true_iff, decide_eq_true_iff, clip_fix]
/-- The next one, where nothing is clipped: of a number from -1 on. -/
theorem next_in {s : Int × Int} (h1 : -2305843009213693952 ≤ s.1 ∧ s.1 < 2305843009213693952) (h2 : -1 ≤ s.2 ∧ s.2 ≤ 1073741824) :
    next s = if s.2 = 1073741824 then (s.1 + 1, 0) else (s.1, if 0 < s.2 then s.2 + 1 else 1) := by
  unfold next
  by_cases c : s.2 = 1073741824
  · rw [if_pos (by omega), if_pos c, Lim.sum2, Sat.clip_in (x := s.1) (by omega) (by omega), show Sat.clip (1 : Int) = 1 from by decide, Sat.clip_in (by omega) (by omega)]
  · rw [if_neg (by omega), if_neg c, Sat.clip_in (by omega) (by omega)]
theorem next_less {s : Int × Int} (h1 : -2305843009213693952 ≤ s.1 ∧ s.1 < 2305843009213693952) (h2 : -1 ≤ s.2 ∧ s.2 ≤ 1073741824) : less s (next s) = true ∧ right (next s) = true ∧ s.1 ≤ (next s).1 ∧ (next s).1 ≤ s.1 + (if s.2 = 1073741824 then 1 else 0) := by
  rw [less_iff, right_iff, next_in h1 h2]
  by_cases c : s.2 = 1073741824
  · simp only [c, if_true]; omega
  · simp only [c, if_false]
    by_cases d : 0 < s.2
    · simp only [d, if_true, true_and]; omega
    · simp only [d, if_false, true_and]; omega
theorem less_trans {a b c : Int × Int} (h : less a b = true) (g : less b c = true) : less a c = true := by
  rw [less_iff] at *; omega
theorem best2_or (a b : Int × Int) : best2 a b = a ∨ best2 a b = b := by unfold best2; split <;> simp
theorem best2_le (a b : Int × Int) : less (best2 a b) a = false ∧ less (best2 a b) b = false := by
  have key : ∀ x y : Int × Int, less x y = false ↔ ¬ (x.1 < y.1 ∨ x.1 = y.1 ∧ x.2 < y.2) := fun x y => by rw [← less_iff]; simp
  unfold best2
  by_cases h : less a b = true
  · rw [if_pos h, key, key]; rw [less_iff] at h; omega
  · rw [if_neg h, key, key]; rw [less_iff] at h; omega
theorem tick_in {c : Int × Int} {now : Int} (hc : right c = true) (h1 : c.1 < 2305843009213693952) (hn : -2305843009213693952 ≤ now ∧ now < 2305843009213693952) :
    less c (tick c now) = true ∧ right (tick c now) = true ∧ now ≤ (tick c now).1 ∧ ∀ T, c.1 ≤ T → now ≤ T → (tick c now).1 ≤ T + (if c.2 = 1073741824 then 1 else 0) := by
  rw [right_iff] at hc
  unfold tick
  rw [Sat.clip_in (x := now) (by omega) (by omega)]
  by_cases g : c.1 < now
  · rw [if_pos g, less_iff, right_iff]
    refine ⟨by simp only; omega, by simp only; omega, Int.le_refl _, fun T h2 h3 => ?_⟩
    simp only; split <;> omega
  · rw [if_neg g]
    obtain ⟨a1, a2, a3, a4⟩ := next_less (s := c) (by omega) (by omega)
    refine ⟨a1, a2, by omega, fun T h2 h3 => ?_⟩
    split at a4 <;> omega
theorem hear_in {c : Int × Int} {now : Int} {s : Int × Int} (hc : right c = true) (h1 : c.1 < 2305843009213693952) (hn : -2305843009213693952 ≤ now ∧ now < 2305843009213693952) (hs : right s = true) (h2 : s.1 < 2305843009213693952) :
    let x := next (best2 (best2 c s) (Sat.clip now, -1))
    less c x = true ∧ less s x = true ∧ right x = true ∧ now ≤ x.1 ∧ (∀ T, c.1 ≤ T → now ≤ T → s.1 ≤ T → x.1 ≤ T + (if c.2 = 1073741824 ∨ s.2 = 1073741824 then 1 else 0)) ∧ less x (tick c now) = false := by
  rw [Sat.clip_in (x := now) (by omega) (by omega)]
  have hc' := (right_iff c).1 hc
  have hs' := (right_iff s).1 hs
  have key : ∀ x y : Int × Int, less x y = false ↔ ¬ (x.1 < y.1 ∨ x.1 = y.1 ∧ x.2 < y.2) := fun x y => by rw [← less_iff]; simp
  obtain ⟨b1, b2⟩ := best2_le c s
  obtain ⟨b3, b4⟩ := best2_le (best2 c s) (now, -1)
  have o1 := best2_or c s
  have o2 := best2_or (best2 c s) (now, -1)
  generalize hb : best2 (best2 c s) (now, -1) = b at *
  generalize best2 c s = d at *
  rw [key] at b1 b2 b3 b4
  have hbd : (-2305843009213693952 ≤ b.1 ∧ b.1 < 2305843009213693952) ∧ -1 ≤ b.2 ∧ b.2 ≤ 1073741824 ∧ (∀ T, c.1 ≤ T → now ≤ T → s.1 ≤ T → b.1 ≤ T) ∧ (b.2 = 1073741824 → c.2 = 1073741824 ∨ s.2 = 1073741824) := by
    rcases o2 with rfl | rfl
    · rcases o1 with rfl | rfl
      · exact ⟨by omega, by omega, by omega, fun T a _ _ => a, fun g => .inl g⟩
      · exact ⟨by omega, by omega, by omega, fun T _ _ a => a, fun g => .inr g⟩
    · exact ⟨hn, by simp, by simp, fun T _ a _ => a, fun g => by simp at g⟩
  obtain ⟨q1, q2, q3, q4, q5⟩ := hbd
  obtain ⟨a1, a2, a3, a4⟩ := next_less (s := b) q1 ⟨q2, q3⟩
  have a1' := (less_iff _ _).1 a1
  simp only at b4
  refine ⟨?_, ?_, a2, by omega, ?_, ?_⟩
  · rw [less_iff]; omega
  · rw [less_iff]; omega
  · intro T t1 t2 t3
    have := q4 T t1 t2 t3
    split at a4
    · rename_i g; rw [if_pos (q5 g)]; omega
    · split <;> omega
  · rw [key]
    unfold tick
    rw [Sat.clip_in (x := now) (by omega) (by omega)]
    have hr := (right_iff _).1 a2
    by_cases g : c.1 < now
    · rw [if_pos g]; simp only; omega
    · rw [if_neg g, next_in (s := c) (by omega) (by omega)]
      rw [next_in q1 ⟨q2, q3⟩] at a1' ⊢
      by_cases cb : b.2 = 1073741824 <;> by_cases db : 0 < b.2 <;> by_cases cc : c.2 = 1073741824 <;> by_cases dc : 0 < c.2
      all_goals
        simp only [cb, db, cc, dc, if_true, if_false, Int.reduceLT, true_and, and_true, and_false, or_false] at a1' ⊢
        omega
end Hlc
end Go.Proofs.YtmmiboblofopgaaGreat

/- Plain mathematics of layer 20, more: stamps along a chain of things that happen, where times aren't beyond 2^60 and numbers are small. It names no program. -/
namespace Go.Proofs.YtmmiboblofopgaaGreat
namespace Hlc
/-- A stamp that stands behind at most k things. -/
structure Wf (k : Nat) (s : Int × Int) : Prop where
  t : -1152921504606846976 ≤ s.1 ∧ s.1 ≤ 1152921504606846976
  n : 0 ≤ s.2 ∧ s.2 ≤ k
theorem Wf.right {k : Nat} {s : Int × Int} (h : Wf k s) (hk : k ≤ 1000) : right s = true := by
  rw [right_iff]
  have := h.t; have := h.n
  omega
theorem Wf.mono {j k : Nat} {s : Int × Int} (h : Wf j s) (hjk : j ≤ k) : Wf k s := ⟨h.t, by have := h.n; omega⟩
theorem wf_start {x : Int} (h : -1152921504606846976 ≤ x ∧ x ≤ 1152921504606846976) : Wf 0 (x, 0) := ⟨h, by simp⟩
theorem next_wf {k : Nat} {s : Int × Int} (hk : k ≤ 1000) (h1 : -1152921504606846976 ≤ s.1 ∧ s.1 ≤ 1152921504606846976) (h2 : -1 ≤ s.2 ∧ s.2 ≤ k) : Wf (k + 1) (next s) := by
  rw [next_in ⟨by omega, by omega⟩ ⟨h2.1, by omega⟩, if_neg (by omega)]
  by_cases d : 0 < s.2
  · rw [if_pos d]; exact ⟨h1, by simp only; omega⟩
  · rw [if_neg d]; exact ⟨h1, by simp only; omega⟩
/-- Something happens. -/
theorem tick_wf {k : Nat} {c : Int × Int} {now : Int} (hk : k ≤ 1000) (hc : Wf k c) (hn : -1152921504606846976 ≤ now ∧ now ≤ 1152921504606846976) : Wf (k + 1) (tick c now) ∧ less c (tick c now) = true := by
  have h1 := hc.t
  have h2 := hc.n
  obtain ⟨a, -⟩ := tick_in (hc.right hk) (by omega) (now := now) ⟨by omega, by omega⟩
  refine ⟨?_, a⟩
  unfold tick
  rw [Sat.clip_in (x := now) (by omega) (by omega)]
  by_cases g : c.1 < now
  · rw [if_pos g]; exact ⟨hn, by simp only; omega⟩
  · rw [if_neg g]; exact next_wf hk h1 ⟨by omega, h2.2⟩
/-- A message is heard. -/
theorem hear_wf {k : Nat} {c : Int × Int} {now : Int} {s : Int × Int} (hk : k ≤ 1000) (hc : Wf k c) (hs : Wf k s) (hn : -1152921504606846976 ≤ now ∧ now ≤ 1152921504606846976) :
    Wf (k + 1) (hear c now s 1152921504606846976).1 ∧ less c (hear c now s 1152921504606846976).1 = true ∧ less s (hear c now s 1152921504606846976).1 = true := by
  have h1 := hc.t
  have h2 := hc.n
  have h3 := hs.t
  have h4 := hs.n
  obtain ⟨a, b, -⟩ := hear_in (hc.right hk) (by omega) (now := now) ⟨by omega, by omega⟩ (hs.right hk) (by omega)
  have e : hear c now s 1152921504606846976 = (next (best2 (best2 c s) (Sat.clip now, -1)), true) := by
    unfold hear
    rw [if_pos ⟨hs.right hk, h3.2⟩]
  rw [e]
  refine ⟨?_, a, b⟩
  rw [Sat.clip_in (x := now) (by omega) (by omega)]
  rcases best2_or (best2 c s) (now, -1) with g | g
  · rcases best2_or c s with g2 | g2
    · rw [g, g2]; exact next_wf hk h1 ⟨by omega, h2.2⟩
    · rw [g, g2]; exact next_wf hk h3 ⟨by omega, h4.2⟩
  · rw [g]; exact next_wf (s := (now, -1)) hk hn ⟨by simp, by simp only; omega⟩
/-- The node that a number names. -/
def node (a : Int) : Nat := (a % 8).toNat
theorem node_lt (a : Int) : node a < 8 := by unfold node; omega
theorem node_mod (a : Int) : (a % 18446744073709551616) % 8 = (node a : Int) := by unfold node; omega
end Hlc
end Go.Proofs.YtmmiboblofopgaaGreat

/- Plain mathematics of layer 12: what a slewed clock's steps come to. It names no program. -/
namespace Go.Proofs.YtmmiboblofopgaaGreat
namespace Slew
/-- Without sign. -/
def far_ (x : Int) : Int := if x < 0 then -x else x
/-- The slewing's bound, of numbers that may be. -/
theorem mu_bds {p : Par} (h : Lim.May p) : (1 ≤ p.beat ∧ p.beat ≤ 1099511627776) ∧ (0 ≤ p.rho ∧ p.rho < p.mu) ∧ (1 ≤ p.mu ∧ 4 * p.mu ≤ p.beat) := by
  obtain ⟨-, ⟨b, r, d, j, e, m⟩, -, -⟩ := h
  omega
theorem by_bd {mu : Int} (h : 0 ≤ mu) (d : Int) : -mu ≤ by_ mu d ∧ by_ mu d ≤ mu := by
  unfold by_; split
  · omega
  · split <;> omega
/-- It never goes past where it is brought to. -/
theorem by_between {mu : Int} (h : 0 ≤ mu) (d : Int) : (0 ≤ d → 0 ≤ by_ mu d ∧ by_ mu d ≤ d) ∧ (d ≤ 0 → d ≤ by_ mu d ∧ by_ mu d ≤ 0) := by
  unfold by_; split
  · omega
  · split <;> omega
/-- At most so far from the time, and again. -/
theorem by_stays {mu w e to : Int} (h1 : -w - mu ≤ e) (h2 : e ≤ w + mu) (h3 : -w ≤ to) (h4 : to ≤ w) : -w ≤ e + by_ mu (to - e) ∧ e + by_ mu (to - e) ≤ w := by
  unfold by_; split
  · omega
  · split <;> omega
/-- On a true beat what it is off by gets less. -/
theorem by_less {mu : Int} (h : 0 ≤ mu) (x : Int) : far_ (x + by_ mu (-x)) = (if far_ x ≤ mu then 0 else far_ x - mu) := by
  unfold by_ far_
  split <;> split <;> (try split) <;> (try split) <;> omega
/-- Two clocks come no further from one another, and keep their places. -/
theorem by_near {mu a b t : Int} (h : 0 ≤ mu) (hab : a ≤ b) : a + by_ mu (t - a) ≤ b + by_ mu (t - b) ∧ b + by_ mu (t - b) - (a + by_ mu (t - a)) ≤ b - a := by
  unfold by_; split <;> split <;> (try split) <;> (try split) <;> omega
end Slew
end Go.Proofs.YtmmiboblofopgaaGreat

/- Plain mathematics of layer 21: what a gateway or a node holds. It names no program. -/
namespace Go.Proofs.YtmmiboblofopgaaGreat
/-- A state. -/
structure Sta where
  lo : Int
  hi : Int
  time : Int
  set : Bool
  held : Int
  hops : Int
  good : Bool
  table : List (Int × Int)
  st : Int
  sn : Int
  life : Int
  deriving DecidableEq
namespace Health
def mid (lo hi : Int) : Int := (Sat.clip lo + Sat.clip hi) / 2
def far (p : Par) (held : Int) : Int := Sat.mul 2 (Lim.width p (Sat.most [held, p.hold]) p.d)
/-- Its health. -/
def of (p : Par) (s : Sta) : Int := if s.good = false ∨ s.set = false ∨ p.d < s.hops then 0 else if p.hold < s.held then 2 else 1
def life (x : Int) : Int := Sat.bound x 0 2305843009213693952
def stamp (time : Int) (s : Int × Int) : Int × Int := if Hlc.right s = true then s else (time, 0)
/-- One that can be. -/
def sane (p : Par) (s : Sta) : Sta where
  lo := if Sat.clip s.hi < Sat.clip s.lo then -2305843009213693952 else Sat.clip s.lo
  hi := if Sat.clip s.hi < Sat.clip s.lo then 2305843009213693952 else Sat.clip s.hi
  time := Sat.clip s.time
  set := s.set
  held := Sat.bound s.held 0 1073741824
  hops := Sat.bound s.hops 0 (Sat.sum [p.d, 1])
  good := if Sat.clip s.hi < Sat.clip s.lo then false else s.good
  table := if Leap.good s.table = true then s.table else []
  st := (stamp (Sat.clip s.time) (s.st, s.sn)).1
  sn := (stamp (Sat.clip s.time) (s.st, s.sn)).2
  life := life s.life
/-- The latest time of a stamp. -/
def most (p : Par) (s : Sta) : Int := Sat.sum [s.hi, far p s.held]
def off (was : Sta) (ticks : Int) (next : Sta) : Int := Sat.sub (mid next.lo next.hi) (Sat.sum [was.time, ticks])
def jumps (p : Par) (was : Sta) (ticks : Int) (next : Sta) : Bool := decide (of p was = 0 ∨ far p next.held < off was ticks next ∨ far p next.held < -off was ticks next)
/-- The clock behind a beat. -/
def clock (p : Par) (was : Sta) (ticks : Int) (next : Sta) : Int := if jumps p was ticks next = true ∨ was.set = false then Sat.clip (mid next.lo next.hi) else Slew.step p was.time ticks (mid next.lo next.hi)
/-- Does the stamp begin anew? -/
def anew (m : Int) (s : Int × Int) : Bool := decide (Hlc.right s = false ∨ m < s.1)
/-- Ahead of its stamp. -/
def led (p : Par) (was : Sta) (ticks : Int) (next : Sta) : Sta := { sane p next with time := clock p was ticks next, set := true, life := life was.life }
def lives (p : Par) (was : Sta) (ticks : Int) (next : Sta) : Int :=
  if anew (most p (led p was ticks next)) (was.st, was.sn) = true ∨ clock p was ticks next < was.time then life (Sat.sum [life was.life, 1]) else life was.life
def mark (p : Par) (was : Sta) (ticks : Int) (next : Sta) : Int × Int :=
  Hlc.tick (if anew (most p (led p was ticks next)) (was.st, was.sn) = true then (Sat.clip (clock p was ticks next), 0) else (was.st, was.sn)) (clock p was ticks next)
/-- Behind a beat. -/
def step (p : Par) (was : Sta) (ticks : Int) (next : Sta) : Sta := { led p was ticks next with st := (mark p was ticks next).1, sn := (mark p was ticks next).2, life := lives p was ticks next }
def listen (p : Par) (s : Sta) (x : Int × Int) : Sta := { s with st := (Hlc.hear (s.st, s.sn) s.time x (most p s)).1.1, sn := (Hlc.hear (s.st, s.sn) s.time x (most p s)).1.2 }
def stamped (s : Sta) : Sta := { s with st := (Hlc.tick (s.st, s.sn) s.time).1, sn := (Hlc.tick (s.st, s.sn) s.time).2 }
theorem bound_bd (x lo hi : Int) (h : lo ≤ hi) : lo ≤ Sat.bound x lo hi ∧ Sat.bound x lo hi ≤ hi := by unfold Sat.bound; split <;> (try split) <;> omega
theorem bound_bound (x lo hi : Int) : Sat.bound (Sat.bound x lo hi) lo hi = Sat.bound x lo hi := by
  by_cases h1 : hi < lo ∨ x < lo
  · have e : Sat.bound x lo hi = lo := by unfold Sat.bound; rw [if_pos h1]
    rw [e]
    unfold Sat.bound
    split
    · rfl
    · split <;> omega
  · by_cases h2 : hi < x
    · have e : Sat.bound x lo hi = hi := by unfold Sat.bound; rw [if_neg h1, if_pos h2]
      rw [e]
      unfold Sat.bound
      split
      · omega
      · split <;> omega
    · have e : Sat.bound x lo hi = x := by unfold Sat.bound; rw [if_neg h1, if_neg h2]
      rw [e, e]
theorem bound_in {x lo hi : Int} (h1 : lo ≤ x) (h2 : x ≤ hi) : Sat.bound x lo hi = x := by unfold Sat.bound; rw [if_neg (by omega), if_neg (by omega)]
theorem stamp_right (t : Int) (s : Int × Int) : Hlc.right (stamp (Sat.clip t) s) = true := by
  unfold stamp
  by_cases h : Hlc.right s = true
  · rw [if_pos h]; exact h
  · rw [if_neg h, Hlc.right_iff]
    have := Sat.clip_bd t
    exact ⟨by simp only; omega, by simp⟩
theorem stamp_stays (t : Int) {s : Int × Int} (h : Hlc.right s = true) : stamp t s = s := if_pos h
theorem tick_right {s : Int × Int} (h : Hlc.right s = true) (now : Int) : Hlc.right (Hlc.tick s now) = true := by
  have hr := (Hlc.right_iff s).1 h
  rw [Hlc.right_iff]
  unfold Hlc.tick
  by_cases g : s.1 < Sat.clip now
  · rw [if_pos g]
    have := Sat.clip_bd now
    exact ⟨by simp only; omega, by simp⟩
  · rw [if_neg g]
    unfold Hlc.next
    by_cases k : 1073741824 ≤ s.2
    · rw [if_pos k]
      have := Sat.sum_bd [s.1, 1]
      exact ⟨by simp only; omega, by simp⟩
    · rw [if_neg k]
      have := Sat.clip_bd s.1
      refine ⟨by simp only; omega, ?_⟩
      by_cases z : 0 < s.2
      · rw [if_pos z]; simp only; omega
      · rw [if_neg z]; simp
/-- Sane of Sane is Sane. -/
theorem sane_sane (p : Par) (s : Sta) : sane p (sane p s) = sane p s := by
  have hs := stamp_right s.time (s.st, s.sn)
  unfold sane
  simp only [Sat.clip_clip, life, bound_bound]
  have e := stamp_stays (Sat.clip s.time) hs
  by_cases h : Sat.clip s.hi < Sat.clip s.lo
  · simp only [if_pos h]
    rw [show Sat.clip (-2305843009213693952) = -2305843009213693952 from rfl, show Sat.clip 2305843009213693952 = 2305843009213693952 from rfl]
    simp [e]
    split <;> simp_all
  · simp only [if_neg h, Sat.clip_clip]
    simp [e]
    split <;> simp_all
end Health
end Go.Proofs.YtmmiboblofopgaaGreat

/- Plain mathematics of layer 21, more: a state behind a beat can be; a clock that is near stays near; stamps rise. It names no program. -/
namespace Go.Proofs.YtmmiboblofopgaaGreat
namespace Health
theorem slew_bd (p : Par) (time ticks to : Int) : -2305843009213693952 ≤ Slew.step p time ticks to ∧ Slew.step p time ticks to ≤ 2305843009213693952 := Sat.sum_bd _
theorem clock_bd (p : Par) (was : Sta) (ticks : Int) (next : Sta) : -2305843009213693952 ≤ clock p was ticks next ∧ clock p was ticks next ≤ 2305843009213693952 := by
  unfold clock
  split
  · have := Sat.clip_bd (mid next.lo next.hi); omega
  · exact slew_bd _ _ _ _
theorem mark_right (p : Par) (was : Sta) (ticks : Int) (next : Sta) : Hlc.right (mark p was ticks next) = true := by
  unfold mark
  refine tick_right ?_ _
  by_cases h : anew (most p (led p was ticks next)) (was.st, was.sn) = true
  · rw [if_pos h, Hlc.right_iff]
    have := Sat.clip_bd (clock p was ticks next)
    exact ⟨by simp only; omega, by simp⟩
  · rw [if_neg h]
    unfold anew at h
    rw [decide_eq_true_iff] at h
    cases hr : Hlc.right (was.st, was.sn) with
    | true => rfl
    | false => exact absurd (Or.inl hr) h
theorem lives_life (p : Par) (was : Sta) (ticks : Int) (next : Sta) : life (lives p was ticks next) = lives p was ticks next := by
  unfold lives
  split
  · exact bound_bound _ _ _
  · exact bound_bound _ _ _
theorem sta_ext {a b : Sta} (h1 : a.lo = b.lo) (h2 : a.hi = b.hi) (h3 : a.time = b.time) (h4 : a.set = b.set) (h5 : a.held = b.held) (h6 : a.hops = b.hops) (h7 : a.good = b.good) (h8 : a.table = b.table) (h9 : a.st = b.st) (h10 : a.sn = b.sn) (h11 : a.life = b.life) : a = b := by
  cases a; cases b
  simp only at h1 h2 h3 h4 h5 h6 h7 h8 h9 h10 h11
  subst h1 h2 h3 h4 h5 h6 h7 h8 h9 h10 h11
  rfl
/-- Six of its parts hang on these alone. -/
theorem sane_parts (p : Par) {a b : Sta} (h1 : a.lo = b.lo) (h2 : a.hi = b.hi) (h5 : a.held = b.held) (h6 : a.hops = b.hops) (h7 : a.good = b.good) (h8 : a.table = b.table) :
    (sane p a).lo = (sane p b).lo ∧ (sane p a).hi = (sane p b).hi ∧ (sane p a).held = (sane p b).held ∧ (sane p a).hops = (sane p b).hops ∧ (sane p a).good = (sane p b).good ∧ (sane p a).table = (sane p b).table := by
  unfold sane
  simp only [h1, h2, h5, h6, h7, h8, and_self]
/-- A state behind a beat is one that can be. -/
theorem sane_step (p : Par) (was : Sta) (ticks : Int) (next : Sta) : sane p (step p was ticks next) = step p was ticks next := by
  have hc := clock_bd p was ticks next
  have hr := mark_right p was ticks next
  have hl := lives_life p was ticks next
  obtain ⟨x, hx⟩ : ∃ x, sane p next = x := ⟨_, rfl⟩
  have h0 : sane p x = x := by rw [← hx]; exact sane_sane p next
  have hstep : step p was ticks next = { x with time := clock p was ticks next, set := true, st := (mark p was ticks next).1, sn := (mark p was ticks next).2, life := lives p was ticks next } := by
    unfold step led
    rw [hx]
  rw [hstep]
  generalize clock p was ticks next = c at hc ⊢
  generalize mark p was ticks next = m at hr ⊢
  generalize lives p was ticks next = v at hl ⊢
  have hm := stamp_stays (Sat.clip c) hr
  obtain ⟨e1, e2, e3, e4, e5, e6⟩ := sane_parts p (a := { x with time := c, set := true, st := m.1, sn := m.2, life := v }) (b := x) rfl rfl rfl rfl rfl rfl
  rw [h0] at e1 e2 e3 e4 e5 e6
  refine sta_ext e1 e2 (Sat.clip_in hc.1 hc.2) rfl e3 e4 e5 e6 ?_ ?_ hl
  · show (stamp (Sat.clip c) m).1 = m.1
    rw [hm]
  · show (stamp (Sat.clip c) m).2 = m.2
    rw [hm]
/-- How far a clock may be from the middle of its span without a jump, where numbers may be so. -/
theorem far_in {p : Par} (h : Lim.May p) {held : Int} (h0 : 0 ≤ held) (h1 : held ≤ p.hold) : far p held = Sat.clip (2 * Lim.wide p p.hold p.d) ∧ 6 * p.rho ≤ Lim.wide p p.hold p.d ∧ 0 ≤ Lim.wide p p.hold p.d := by
  have hs := h.small
  have hb : (0 ≤ p.d ∧ p.d ≤ 16) ∧ (p.d + 2 ≤ p.hold ∧ p.hold ≤ 1048576) := h.2.2.1
  have hm : Sat.most [held, p.hold] = p.hold := by
    unfold Sat.most
    simp only [List.foldl_cons, List.foldl_nil]
    rw [Sat.clip_in (x := held) (by omega) (by omega), Sat.clip_in (x := p.hold) (by omega) (by omega)]
    split <;> split <;> omega
  have hw := Lim.wide_pos hs (held := p.hold) (hops := p.d) ⟨by omega, by omega⟩ ⟨by omega, by omega⟩
  have hwb := Lim.wide_bd hs (held := p.hold) (hops := p.d) ⟨by omega, by omega⟩ ⟨by omega, by omega⟩
  unfold far
  rw [hm, Lim.width_in hs ⟨by omega, by omega⟩ ⟨by omega, by omega⟩]
  refine ⟨?_, ?_, by omega⟩
  · unfold Sat.mul
    rw [Sat.clip_in (x := (2 : Int)) (by omega) (by omega), Sat.clip_in (x := Lim.wide p p.hold p.d) (by omega) (by omega)]
  · obtain ⟨⟨r1, r2⟩, ⟨j1, j2⟩, e1, e2⟩ := hs
    have e3 : (p.d + 1) * (p.jit + 2 * p.rho) = p.d * (p.jit + 2 * p.rho) + (p.jit + 2 * p.rho) := by rw [Int.add_mul, Int.one_mul]
    have e4 := Int.mul_nonneg hb.1.1 (show 0 ≤ p.jit + 2 * p.rho by omega)
    unfold Lim.wide
    rw [e3]
    omega
theorem mid_in {lo hi : Int} (h1 : -2305843009213693952 ≤ lo ∧ lo ≤ 2305843009213693952) (h2 : -2305843009213693952 ≤ hi ∧ hi ≤ 2305843009213693952) : mid lo hi = (lo + hi) / 2 := by
  unfold mid
  rw [Sat.clip_in h1.1 h1.2, Sat.clip_in h2.1 h2.2]
/-- **No jumps.** -/
theorem stays {p : Par} (hp : Lim.May p) {s next : Sta} {now err w : Int} (hn : -72057594037927936 ≤ now ∧ now ≤ 72057594037927936) (he : -p.rho ≤ err ∧ err ≤ p.rho) (hh : 0 ≤ next.held ∧ next.held ≤ p.hold) (hw : w = (far p p.hold).tdiv 2) (hw1 : w ≤ 72057594037927936)
    (hk : of p s ≠ 0 → now - w ≤ s.time ∧ s.time ≤ now + w) (h1 : next.lo ≤ now + p.beat) (h2 : now + p.beat ≤ next.hi) (h3 : now + p.beat - w ≤ next.lo) (h4 : next.hi ≤ now + p.beat + w) (h5 : next.hi - next.lo ≤ w) :
    (now + p.beat - w ≤ clock p s (p.beat + err) next ∧ clock p s (p.beat + err) next ≤ now + p.beat + w) ∧ (of p s ≠ 0 → -p.mu ≤ clock p s (p.beat + err) next - s.time - p.beat - err ∧ clock p s (p.beat + err) next - s.time - p.beat - err ≤ p.mu) := by
  obtain ⟨f1, f2, f3⟩ := far_in hp hh.1 hh.2
  obtain ⟨g1, -, -⟩ := far_in hp (held := p.hold) (by have : (0 ≤ p.d ∧ p.d ≤ 16) ∧ (p.d + 2 ≤ p.hold ∧ p.hold ≤ 1048576) := hp.2.2.1; omega) (Int.le_refl _)
  obtain ⟨⟨b1, b2⟩, ⟨b3, b4⟩, b5, b6⟩ := Slew.mu_bds hp
  generalize Lim.wide p p.hold p.d = W at f1 f2 f3 g1
  have hF : far p next.held = 2 * W ∧ w = W := by
    rw [g1] at hw
    have hc : Sat.clip (2 * W) = 2 * W := by
      unfold Sat.clip at hw ⊢
      rw [Int.tdiv_eq_ediv_of_nonneg (by split <;> (try split) <;> omega)] at hw
      split at hw <;> (try split at hw) <;> omega
    rw [hc, Int.tdiv_eq_ediv_of_nonneg (by omega)] at hw
    exact ⟨by rw [f1, hc], by omega⟩
  obtain ⟨hF, rfl⟩ := hF
  have hm := mid_in (lo := next.lo) (hi := next.hi) ⟨by omega, by omega⟩ ⟨by omega, by omega⟩
  obtain ⟨m, hmm⟩ : ∃ m, mid next.lo next.hi = m := ⟨_, rfl⟩
  rw [hmm] at hm
  have m1 : next.lo ≤ m ∧ m ≤ next.hi := by omega
  have m2 : 2 * (m - (now + p.beat)) ≤ w ∧ 2 * (now + p.beat - m) ≤ w + 1 := by omega
  by_cases ho : of p s = 0
  · have hj : jumps p s (p.beat + err) next = true := by unfold jumps; rw [decide_eq_true_iff]; exact .inl ho
    have hcl : clock p s (p.beat + err) next = m := by
      unfold clock
      rw [if_pos (Or.inl hj), hmm]
      exact Sat.clip_in (by omega) (by omega)
    rw [hcl]
    exact ⟨by omega, fun h => absurd ho h⟩
  · obtain ⟨k1, k2⟩ := hk ho
    have hset : s.set = true := by
      unfold of at ho
      split at ho
      · exact absurd rfl ho
      · rename_i g
        cases hs : s.set with
        | true => rfl
        | false => exact absurd (Or.inr (Or.inl hs)) g
    have hoff : off s (p.beat + err) next = m - (s.time + (p.beat + err)) := by
      unfold off
      rw [hmm, Lim.sum2_in (by omega) (by omega) (by omega), Lim.sub_in (by omega) (by omega) (by omega)]
    have hj : ¬ (jumps p s (p.beat + err) next = true ∨ s.set = false) := by
      rw [hset]
      unfold jumps
      rw [decide_eq_true_iff, hoff, hF]
      intro h
      rcases h with (h | h | h) | h
      · exact ho h
      · omega
      · omega
      · cases h
    have hcl : clock p s (p.beat + err) next = s.time + (p.beat + err) + Slew.by_ p.mu (m - (s.time + (p.beat + err))) := by
      unfold clock
      rw [if_neg hj, hmm]
      exact Slew.step_in (by omega) (by omega) (by omega) (by omega)
    have hb := Slew.by_bd (mu := p.mu) (by omega) (m - (s.time + (p.beat + err)))
    have hst := Slew.by_stays (mu := p.mu) (w := w) (e := s.time + err - now) (to := m - (now + p.beat)) (by omega) (by omega) (by omega) (by omega)
    rw [show m - (now + p.beat) - (s.time + err - now) = m - (s.time + (p.beat + err)) by omega] at hst
    rw [hcl]
    exact ⟨by omega, fun _ => by omega⟩
/-- The clock's time is below the greatest number, where all numbers are small. -/
theorem clock_small {p : Par} (hp : Lim.May p) {s next : Sta} {ticks : Int} (h1 : -1152921504606846976 ≤ s.time ∧ s.time ≤ 1152921504606846976) (h2 : -1152921504606846976 ≤ ticks ∧ ticks ≤ 1152921504606846976) (h3 : -1152921504606846976 ≤ next.lo ∧ next.lo ≤ 1152921504606846976) (h4 : -1152921504606846976 ≤ next.hi ∧ next.hi ≤ 1152921504606846976) :
    -2305843009213693952 < clock p s ticks next ∧ clock p s ticks next < 2305843009213693952 := by
  obtain ⟨⟨b1, b2⟩, ⟨b3, b4⟩, b5, b6⟩ := Slew.mu_bds hp
  have hm := mid_in (lo := next.lo) (hi := next.hi) ⟨by omega, by omega⟩ ⟨by omega, by omega⟩
  unfold clock
  rw [hm]
  obtain ⟨m, hmm⟩ : ∃ m, (next.lo + next.hi) / 2 = m := ⟨_, rfl⟩
  rw [hmm]
  split
  · rw [Sat.clip_in (by omega) (by omega)]; omega
  · unfold Slew.step
    rw [Lim.sum2_in (a := s.time) (by omega) (by omega) (by omega)]
    have hd : (m < s.time + ticks → Sat.bound (Sat.sub m (s.time + ticks)) (-Sat.clip p.mu) p.mu < 0 ∧ -p.mu ≤ Sat.bound (Sat.sub m (s.time + ticks)) (-Sat.clip p.mu) p.mu) ∧ (s.time + ticks ≤ m → 0 ≤ Sat.bound (Sat.sub m (s.time + ticks)) (-Sat.clip p.mu) p.mu ∧ Sat.bound (Sat.sub m (s.time + ticks)) (-Sat.clip p.mu) p.mu ≤ p.mu ∧ (s.time + ticks < m → 0 < Sat.bound (Sat.sub m (s.time + ticks)) (-Sat.clip p.mu) p.mu)) := by
      unfold Sat.sub
      rw [Sat.clip_in (x := m) (by omega) (by omega), Sat.clip_in (x := s.time + ticks) (by omega) (by omega), Sat.clip_in (x := p.mu) (by omega) (by omega)]
      unfold Sat.bound Sat.clip
      constructor
      · intro h
        split <;> (try split) <;> (try split) <;> (try split) <;> omega
      · intro h
        split <;> (try split) <;> (try split) <;> (try split) <;> omega
    obtain ⟨d1, d2⟩ := hd
    generalize Sat.bound (Sat.sub m (s.time + ticks)) (-Sat.clip p.mu) p.mu = q at d1 d2
    by_cases h : m < s.time + ticks
    · have := d1 h
      rw [Lim.sum2_in (by omega) (by omega) (by omega)]
      omega
    · obtain ⟨e1, e2, e3⟩ := d2 (by omega)
      rw [Lim.sum2_in (by omega) (by omega) (by omega)]
      omega
end Health
end Go.Proofs.YtmmiboblofopgaaGreat

/- Plain mathematics of layer 22: what a gateway is told, what it makes of it, and its beat. It names no program. -/
namespace Go.Proofs.YtmmiboblofopgaaGreat
/-- A message that was heard. -/
structure Hd where
  m : Msg
  age : Int
namespace Gate
/-- How many gateways there are. -/
def cnt (p : Par) : Nat := (min p.n 16).toNat
/-- Is it gateway k's? -/
def has (k : Nat) (h : Hd) : Bool := decide (h.m.kind = 1 ∧ h.m.frm = k)
/-- What is told by gateway k. -/
def one (me : Int) (l : List Hd) (k : Nat) : Option Hd := if (k : Int) = me then none else l.find? (has k)
def told (p : Par) (me : Int) (l : List Hd) : List Hd := (List.range (cnt p)).filterMap (one me l)
def way (p : Par) (h : Hd) : Int × Int := Carry.way p (h.m.slo, h.m.shi) h.age
def ways (p : Par) (t : List Hd) : List (Int × Int) := (t.filter (·.m.ref)).map (way p)
/-- Does it read its reference? -/
def reads (p : Par) (ref : Bool) (x : Int) : Bool := Anchor.is p x && ref
def sees (p : Par) (ref : Bool) (x : Int) : Int × Int := if reads p ref x = true then Anchor.seen p x else (0, 0)
def spans (p : Par) (me : Int) (ref : Bool) (x : Int) (l : List Hd) : List (Int × Int) := (if reads p ref x = true then [Anchor.seen p x] else []) ++ ways p (told p me l)
/-- Is something fused of these? -/
def left (f : Int) (l : List (Int × Int)) : Bool := Trim.many f l.length && !decide (Trim.val f (l.map (·.2)) < Trim.val ((l.length : Int) - 1 - f) (l.map (·.1)))
def fused (f : Int) (l : List (Int × Int)) : Int × Int := if left f l = true then (Sat.clip (Trim.val ((l.length : Int) - 1 - f) (l.map (·.1))), Sat.clip (Trim.val f (l.map (·.2)))) else (0, 0)
/-- The state that follows: of what is fused (l: the spans), and of the table that is given. -/
def next (p : Par) (s : Sta) (ticks : Int) (l : List (Int × Int)) (given : Bool) (tb : List (Int × Int)) : Sta :=
  { s with
    lo := if left p.f l = true then (fused p.f l).1 else (Carry.hold p (s.lo, s.hi) ticks).1
    hi := if left p.f l = true then (fused p.f l).2 else (Carry.hold p (s.lo, s.hi) ticks).2
    held := if left p.f l = true then 0 else Anchor.more s.held
    hops := 0
    good := if left p.f l = true then true else s.good
    table := if given = true then tb else s.table }
/-- The state behind a beat, and what is told of it. -/
def state (p : Par) (me : Int) (s : Sta) (ticks : Int) (ref : Bool) (x : Int) (l : List Hd) (given : Bool) (tb : List (Int × Int)) : Sta := Health.step p s ticks (next p s ticks (spans p me ref x l) given tb)
def pulse (p : Par) (s : Sta) : Int := if Health.of p s = 0 then 0 else Pulse.num p.pulse s.time
def say (p : Par) (s : Sta) (kind me : Int) (read : Bool) (seen : Int × Int) : Msg :=
  ⟨kind, me, s.lo, s.hi, s.held, s.hops, s.good, read, seen.1, seen.2, pulse p s, (Health.stamped s).st, (Health.stamped s).sn, s.table⟩
/-! How many are told. -/
theorem count_or (p q : Nat → Bool) : ∀ l : List Nat, l.countP (fun k => p k || q k) ≤ l.countP p + l.countP q
  | [] => by simp
  | k :: l => by
    have := count_or p q l
    simp only [List.countP_cons]
    cases p k <;> cases q k <;> simp <;> omega
theorem count_has {R : List Nat} (hR : R.Nodup) : ∀ l : List Hd, R.countP (fun k => l.any (has k)) ≤ l.length
  | [] => by simp
  | h :: l => by
    have h1 := count_has hR l
    have h2 := count_or (fun k => has k h) (fun k => l.any (has k)) R
    have h3 : R.countP (fun k => has k h) ≤ 1 := by
      refine Nat.le_trans (Trim.countP_mono (q := fun k => k == h.m.frm.toNat) fun k _ hk => ?_) (List.nodup_iff_count.1 hR h.m.frm.toNat)
      have := (of_decide_eq_true hk).2
      rw [this]
      simp
    simp only [List.any_cons, List.length_cons]
    omega
theorem length_filterMap (f : Nat → Option Hd) : ∀ R : List Nat, (R.filterMap f).length = R.countP fun k => (f k).isSome
  | [] => rfl
  | k :: R => by
    have := length_filterMap f R
    rw [List.filterMap_cons, List.countP_cons]
    cases f k <;> simp [this]
theorem find_some (l : List Hd) (k : Nat) : (l.find? (has k)).isSome = l.any (has k) := by
  induction l with
  | nil => rfl
  | cons h l ih =>
    rw [List.find?_cons, List.any_cons]
    cases has k h <;> simp [ih]
theorem one_some (me : Int) (l : List Hd) (k : Nat) (h : (one me l k).isSome = true) : l.any (has k) = true := by
  unfold one at h
  split at h
  · cases h
  · rw [← find_some]; exact h
theorem told_few (p : Par) (me : Int) (l : List Hd) : (told p me l).length ≤ l.length := by
  unfold told
  rw [length_filterMap]
  exact Nat.le_trans (Trim.countP_mono fun k _ h => one_some me l k h) (count_has List.nodup_range l)
theorem told_cnt (p : Par) (me : Int) (l : List Hd) : (told p me l).length ≤ 16 := by
  have h1 : (told p me l).length ≤ (List.range (cnt p)).length := List.length_filterMap_le _ _
  rw [List.length_range] at h1
  have : cnt p ≤ 16 := by unfold cnt; omega
  omega
theorem ways_few (p : Par) (t : List Hd) : (ways p t).length ≤ t.length := by
  unfold ways
  rw [List.length_map]
  exact List.length_filter_le _ _
theorem spans_few (p : Par) (me : Int) (ref : Bool) (x : Int) (l : List Hd) : (spans p me ref x l).length ≤ 17 := by
  have h1 := told_cnt p me l
  have h2 := ways_few p (told p me l)
  unfold spans
  rw [List.length_append]
  split <;> simp <;> omega
theorem left_few {f : Int} {l : List (Int × Int)} (h : (l.length : Int) ≤ 2 * f) : left f l = false := by
  unfold left Trim.many
  rw [decide_eq_false (by omega)]
  rfl
/-! The parts of the state behind a beat. -/
theorem step_lo (p : Par) (s u : Sta) (n : Int) : (Health.step p s n u).lo = (Health.sane p u).lo := rfl
theorem step_hi (p : Par) (s u : Sta) (n : Int) : (Health.step p s n u).hi = (Health.sane p u).hi := rfl
theorem step_held (p : Par) (s u : Sta) (n : Int) : (Health.step p s n u).held = (Health.sane p u).held := rfl
theorem step_hops (p : Par) (s u : Sta) (n : Int) : (Health.step p s n u).hops = (Health.sane p u).hops := rfl
theorem step_good (p : Par) (s u : Sta) (n : Int) : (Health.step p s n u).good = (Health.sane p u).good := rfl
theorem step_set (p : Par) (s u : Sta) (n : Int) : (Health.step p s n u).set = true := rfl
theorem step_time (p : Par) (s u : Sta) (n : Int) : (Health.step p s n u).time = Health.clock p s n u := rfl
theorem step_table (p : Par) (s u : Sta) (n : Int) : (Health.step p s n u).table = (Health.sane p u).table := rfl
theorem sane_span (p : Par) (u : Sta) (h1 : -2305843009213693952 ≤ u.lo) (h2 : u.lo ≤ u.hi) (h3 : u.hi ≤ 2305843009213693952) : (Health.sane p u).lo = u.lo ∧ (Health.sane p u).hi = u.hi ∧ (Health.sane p u).good = u.good := by
  unfold Health.sane
  simp only
  rw [Sat.clip_in (by omega) (by omega), Sat.clip_in (by omega) (by omega), if_neg (by omega), if_neg (by omega), if_neg (by omega)]
  exact ⟨rfl, rfl, rfl⟩
theorem sane_hops (p : Par) (hp : Lim.May p) (u : Sta) (h : u.hops = 0) : (Health.sane p u).hops = 0 := by
  have hd := hp.2.2.1.1
  show Sat.bound u.hops 0 (Sat.sum [p.d, 1]) = 0
  rw [h, Lim.sum2_in (by omega) (by omega) (by omega)]
  unfold Sat.bound
  rw [if_neg (by omega), if_neg (by omega)]
theorem sane_held (p : Par) (u : Sta) (h : 0 ≤ u.held ∧ u.held ≤ 1073741824) : (Health.sane p u).held = u.held := by
  show Sat.bound u.held 0 1073741824 = u.held
  unfold Sat.bound
  rw [if_neg (by omega), if_neg (by omega)]
end Gate
end Go.Proofs.YtmmiboblofopgaaGreat

/- Plain mathematics of layer 22: whoever lies, a gateway that hears all but F is right behind a beat; where nothing is fused it waits; it forgets. It names no program. -/
namespace Go.Proofs.YtmmiboblofopgaaGreat
namespace Gate
/-- What gateway i tells, that sees the time so. -/
def hon (p : Par) (now : Int) (t : Tld) (i : Nat) : Hd := ⟨⟨1, i, 0, 0, 0, 0, false, true, now + t.err - p.eps, now + t.err + p.eps, 0, 0, 0, []⟩, p.beat - t.way + t.off⟩
/-- Whatever it is, told by gateway n + j. -/
def lie (n : Nat) (h : Hd) (j : Nat) : Hd := ⟨{ h.m with frm := (n + j : Nat) }, h.age⟩
def noT : Tld := ⟨0, 0, 0⟩
def noH : Hd := ⟨⟨0, 0, 0, 0, 0, 0, false, false, 0, 0, 0, 0, 0, []⟩, 0⟩
def hons (p : Par) (now : Int) (ts : List Tld) (m : Nat) : List Hd := (List.range' 1 m).map fun i => hon p now (ts.getD i noT) i
def liars (n : Nat) (lies : List Hd) (m : Nat) : List Hd := (List.range m).map fun j => lie n (lies.getD j noH) j
def heard (p : Par) (now : Int) (ts : List Tld) (lies : List Hd) : List Hd := hons p now ts (ts.length - 1) ++ liars ts.length lies lies.length
theorem hons_next (p : Par) (now : Int) (ts : List Tld) (m : Nat) : hons p now ts (m + 1) = hons p now ts m ++ [hon p now (ts.getD (m + 1) noT) (m + 1)] := by
  unfold hons
  rw [List.range'_concat, List.map_append]
  simp [Nat.add_comm]
theorem liars_next (n : Nat) (lies : List Hd) (m : Nat) : liars n lies (m + 1) = liars n lies m ++ [lie n (lies.getD m noH) m] := by
  unfold liars
  rw [List.range_succ, List.map_append]
  rfl
theorem find_hons (p : Par) (now : Int) (ts : List Tld) (k : Nat) : ∀ m a, ((List.range' a m).map fun i => hon p now (ts.getD i noT) i).find? (has k) = if a ≤ k ∧ k < a + m then some (hon p now (ts.getD k noT) k) else none
  | 0, a => by rw [if_neg (by omega)]; rfl
  | m + 1, a => by
    rw [List.range'_succ, List.map_cons, List.find?_cons, find_hons p now ts k m (a + 1)]
    by_cases h : a = k
    · subst h
      have : has a (hon p now (ts.getD a noT) a) = true := decide_eq_true ⟨rfl, rfl⟩
      rw [this, if_pos (show a ≤ a ∧ a < a + (m + 1) from ⟨Nat.le_refl _, by omega⟩)]
    · have : has k (hon p now (ts.getD a noT) a) = false := decide_eq_false fun g => h (by have := g.2; unfold hon at this; simp only at this; omega)
      rw [this]
      simp only
      by_cases g : a + 1 ≤ k ∧ k < a + 1 + m
      · rw [if_pos g, if_pos (by omega)]
      · rw [if_neg g, if_neg (by omega)]
theorem one_hon (p : Par) (now : Int) (ts : List Tld) (lies : List Hd) {k : Nat} (h1 : 1 ≤ k) (h2 : k < ts.length) : one 0 (heard p now ts lies) k = some (hon p now (ts.getD k noT) k) := by
  unfold one heard hons
  rw [if_neg (by omega), List.find?_append, find_hons, if_pos (by omega)]
  rfl
theorem filterMap_hon (p : Par) (now : Int) (ts : List Tld) (lies : List Hd) : ∀ m a, 1 ≤ a → a + m ≤ ts.length → (List.range' a m).filterMap (one 0 (heard p now ts lies)) = (List.range' a m).map fun i => hon p now (ts.getD i noT) i
  | 0, _, _, _ => rfl
  | m + 1, a, h1, h2 => by
    rw [List.range'_succ, List.filterMap_cons, one_hon p now ts lies h1 (by omega), List.map_cons, filterMap_hon p now ts lies m (a + 1) (by omega) (by omega)]
/-- What is told: by each of the right ones, and by F at most of the others. -/
theorem told_heard {p : Par} (hp : Lim.May p) (now : Int) {ts : List Tld} (hts : (ts.length : Int) = p.n - p.f) (lies : List Hd) :
    ∃ L : List Hd, told p 0 (heard p now ts lies) = hons p now ts (ts.length - 1) ++ L ∧ (L.length : Int) ≤ p.f := by
  obtain ⟨⟨n1, n2⟩, f1, f2⟩ := hp.1
  have hc : cnt p = ts.length + p.f.toNat := by unfold cnt; omega
  refine ⟨(List.range' ts.length p.f.toNat).filterMap (one 0 (heard p now ts lies)), ?_, ?_⟩
  · unfold told
    rw [hc, List.range_eq_range', show ts.length + p.f.toNat = 1 + ((ts.length - 1) + p.f.toNat) by omega, ← List.range'_append_1, List.filterMap_append, ← List.range'_append_1, List.filterMap_append, Nat.zero_add, filterMap_hon p now ts lies (ts.length - 1) 1 (Nat.le_refl _) (by omega), show 1 + (ts.length - 1) = ts.length by omega]
    rfl
  · have := List.length_filterMap_le (one 0 (heard p now ts lies)) (List.range' ts.length p.f.toNat)
    rw [List.length_range'] at this
    omega
theorem hon_way {p : Par} (hp : Lim.May p) {now : Int} (hn : -1125899906842624 ≤ now ∧ now ≤ 1125899906842624) {t : Tld} (ht : Anchor.Fine p t) (i : Nat) : way p (hon p now t i) = Anchor.carried p now t := by
  obtain ⟨b1, r1, d1, j1, e1⟩ := Lim.May.bds hp
  obtain ⟨t1, t2, t3⟩ := ht
  obtain ⟨-, hs⟩ := Anchor.seen_in hp (x := now + t.err) (by omega)
  unfold way Anchor.carried hon
  rw [hs]
theorem ways_hons {p : Par} (hp : Lim.May p) {now : Int} (hn : -1125899906842624 ≤ now ∧ now ≤ 1125899906842624) {ts : List Tld} (hf : ∀ t ∈ ts, Anchor.Fine p t) : ∀ m a, a + m ≤ ts.length → ways p ((List.range' a m).map fun i => hon p now (ts.getD i noT) i) = (List.range' a m).map fun i => Anchor.carried p now (ts.getD i noT)
  | 0, _, _ => rfl
  | m + 1, a, h => by
    have ih := ways_hons hp hn hf m (a + 1) (by omega)
    have hm : ts.getD a noT ∈ ts := by rw [List.getD_eq_getElem?_getD, List.getElem?_eq_getElem (by omega)]; exact List.getElem_mem _
    have hw := hon_way hp hn (hf _ hm) a
    unfold ways at ih ⊢
    rw [List.range'_succ, List.map_cons, List.map_cons, List.filter_cons, if_pos (show (hon p now (ts.getD a noT) a).m.ref = true from rfl), List.map_cons, ih, hw]
theorem ways_append (p : Par) (a b : List Hd) : ways p (a ++ b) = ways p a ++ ways p b := by unfold ways; rw [List.filter_append, List.map_append]
theorem range_mem {ts : List Tld} {m a : Nat} (h : a + m ≤ ts.length) {f : Tld → Int × Int} {s : Int × Int} (hs : s ∈ (List.range' a m).map fun i => f (ts.getD i noT)) : ∃ t ∈ ts, s = f t := by
  obtain ⟨i, hi, rfl⟩ := List.mem_map.1 hs
  have := List.mem_range'_1.1 hi
  refine ⟨ts.getD i noT, ?_, rfl⟩
  rw [List.getD_eq_getElem?_getD, List.getElem?_eq_getElem (by omega)]
  exact List.getElem_mem _
/-- What is fused is right, whoever lies. -/
theorem fused_right {p : Par} (hp : Lim.May p) {now : Int} (hn : -1125899906842624 ≤ now ∧ now ≤ 1125899906842624) {ts : List Tld} (hts : (ts.length : Int) = p.n - p.f) (hf : ∀ t ∈ ts, Anchor.Fine p t) (lies : List Hd) :
    reads p true (now + p.beat + (ts.getD 0 noT).err) = true ∧ left p.f (spans p 0 true (now + p.beat + (ts.getD 0 noT).err) (heard p now ts lies)) = true ∧
      ∀ s, fused p.f (spans p 0 true (now + p.beat + (ts.getD 0 noT).err) (heard p now ts lies)) = s → (s.1 ≤ now + p.beat ∧ now + p.beat ≤ s.2) ∧ s.2 - s.1 ≤ 2 * p.eps + Lim.hop p ∧ -2305843009213693952 ≤ s.1 ∧ s.2 ≤ 2305843009213693952 := by
  obtain ⟨b1, r1, d1, j1, e1⟩ := Lim.May.bds hp
  obtain ⟨⟨n1, n2⟩, f1, f2⟩ := hp.1
  have h0 : 0 < ts.length := by omega
  have hm0 : ts.getD 0 noT ∈ ts := by rw [List.getD_eq_getElem?_getD, List.getElem?_eq_getElem h0]; exact List.getElem_mem _
  obtain ⟨t1, t2, t3⟩ := hf _ hm0
  obtain ⟨hr, hs⟩ := Anchor.seen_in hp (x := now + p.beat + (ts.getD 0 noT).err) (by omega)
  have hR : reads p true (now + p.beat + (ts.getD 0 noT).err) = true := by unfold reads; rw [hr]; rfl
  obtain ⟨L, hL, hLl⟩ := told_heard hp now hts lies
  have hS : spans p 0 true (now + p.beat + (ts.getD 0 noT).err) (heard p now ts lies) = (Anchor.seen p (now + p.beat + (ts.getD 0 noT).err) :: (List.range' 1 (ts.length - 1)).map fun i => Anchor.carried p now (ts.getD i noT)) ++ ways p L := by
    unfold spans
    rw [if_pos hR, hL, ways_append]
    unfold hons
    rw [ways_hons hp hn hf (ts.length - 1) 1 (by omega)]
    rfl
  have hhop : 0 ≤ Lim.hop p := by rw [Lim.hop_in (Lim.May.small hp)]; omega
  have hall : ∀ s ∈ (Anchor.seen p (now + p.beat + (ts.getD 0 noT).err) :: (List.range' 1 (ts.length - 1)).map fun i => Anchor.carried p now (ts.getD i noT)), Anchor.right (now + p.beat) (2 * p.eps + Lim.hop p) s = true := by
    intro s hs2
    rcases List.mem_cons.1 hs2 with rfl | hs2
    · rw [hs]
      exact decide_eq_true ⟨by simp only; omega, by simp only; omega, by simp only; omega, by simp only; omega⟩
    · obtain ⟨t, ht, rfl⟩ := range_mem (by omega) hs2
      exact Anchor.carried_right hp (by omega) (hf t ht)
  have hwl := ways_few p L
  generalize hR0 : (Anchor.seen p (now + p.beat + (ts.getD 0 noT).err) :: (List.range' 1 (ts.length - 1)).map fun i => Anchor.carried p now (ts.getD i noT)) = R at hS hall
  have hRl : R.length = ts.length := by rw [← hR0]; simp; omega
  generalize ways p L = Q at hS hwl
  generalize spans p 0 true (now + p.beat + (ts.getD 0 noT).err) (heard p now ts lies) = S at hS ⊢
  have hSl : S.length = R.length + Q.length := by rw [hS, List.length_append]
  have hlen : 2 * p.f.toNat + 1 ≤ R.length := by omega
  have hfS : p.f.toNat < S.length := by omega
  have e1' : p.f.toNat = p.f := by omega
  have hval := Trim.val_pick (k := p.f) (l := S.map (·.2)) (by simp; omega)
  have hval2 := Trim.val_pick (k := (S.length : Int) - 1 - p.f) (l := S.map (·.1)) (by simp; omega)
  have hmost : Trim.PickMost p.f.toNat (S.map (·.1)) (Trim.val ((S.length : Int) - 1 - p.f) (S.map (·.1))) := by
    unfold Trim.PickMost
    rw [List.length_map, show S.length - 1 - p.f.toNat = ((S.length : Int) - 1 - p.f).toNat by omega]
    exact hval2
  have hcx : S.countP (fun s => !decide (s.1 ≤ now + p.beat ∧ now + p.beat ≤ s.2)) ≤ p.f.toNat := by
    rw [hS, List.countP_append]
    have h1 : R.countP (fun s => !decide (s.1 ≤ now + p.beat ∧ now + p.beat ≤ s.2)) = 0 := by
      rw [List.countP_eq_zero]
      intro s hs2
      have := of_decide_eq_true (hall s hs2)
      simp [this.1]
    have h2 := List.countP_le_length (p := fun s : Int × Int => !decide (s.1 ≤ now + p.beat ∧ now + p.beat ≤ s.2)) (l := Q)
    omega
  have hcr : 2 * p.f.toNat + 1 ≤ S.countP (Anchor.right (now + p.beat) (2 * p.eps + Lim.hop p)) := by
    rw [hS, List.countP_append]
    have h1 : R.countP (Anchor.right (now + p.beat) (2 * p.eps + Lim.hop p)) = R.length := List.countP_eq_length.2 hall
    omega
  obtain ⟨g1, g2, s, hs3, hr3, g3, g4⟩ := Trim.fuse_by hfS hmost hval hcx (Anchor.right (now + p.beat) (2 * p.eps + Lim.hop p)) hcr
  have hr4 := of_decide_eq_true hr3
  have hleft : left p.f S = true := by
    unfold left Trim.many
    rw [decide_eq_true (by omega), decide_eq_false (by omega)]
    rfl
  refine ⟨hR, hleft, fun z hz => ?_⟩
  unfold fused at hz
  rw [if_pos hleft, Sat.clip_in (by omega) (by omega), Sat.clip_in (by omega) (by omega)] at hz
  subst hz
  exact ⟨⟨g1, g2⟩, by simp only; omega, by simp only; omega, by simp only; omega⟩
/-- Behind such a beat. -/
theorem holds {p : Par} (hp : Lim.May p) {now : Int} (hn : -1125899906842624 ≤ now ∧ now ≤ 1125899906842624) {ts : List Tld} (hts : (ts.length : Int) = p.n - p.f) (hf : ∀ t ∈ ts, Anchor.Fine p t) (lies : List Hd) (s : Sta) (ticks : Int) (tb : List (Int × Int)) (Y : Sta)
    (hY : state p 0 s ticks true (now + p.beat + (ts.getD 0 noT).err) (heard p now ts lies) false tb = Y) :
    reads p true (now + p.beat + (ts.getD 0 noT).err) = true ∧ (Y.lo ≤ now + p.beat ∧ now + p.beat ≤ Y.hi) ∧ Y.hi - Y.lo ≤ 2 * p.eps + Lim.hop p ∧ (-2305843009213693952 ≤ Y.lo ∧ Y.hi ≤ 2305843009213693952) ∧ Y.held = 0 ∧ Health.of p Y = 1 ∧ (Health.of p s = 0 → Y.lo ≤ Y.time ∧ Y.time ≤ Y.hi) := by
  obtain ⟨hR, hleft, hfz⟩ := fused_right hp hn hts hf lies
  have hfz := hfz _ rfl
  unfold state at hY
  generalize spans p 0 true (now + p.beat + (ts.getD 0 noT).err) (heard p now ts lies) = S at hY hleft hfz
  generalize hu : next p s ticks S false tb = u at hY
  have u1 : u.lo = (fused p.f S).1 := by rw [← hu]; unfold next; simp only; rw [if_pos hleft]
  have u2 : u.hi = (fused p.f S).2 := by rw [← hu]; unfold next; simp only; rw [if_pos hleft]
  have u3 : u.held = 0 := by rw [← hu]; unfold next; simp only; rw [if_pos hleft]
  have u4 : u.hops = 0 := by rw [← hu]; rfl
  have u5 : u.good = true := by rw [← hu]; unfold next; simp only; rw [if_pos hleft]
  generalize fused p.f S = z at u1 u2 hfz
  obtain ⟨q1, q2, q3⟩ := sane_span p u (by omega) (by omega) (by omega)
  have q4 := sane_hops p hp u u4
  have q5 := sane_held p u (by omega)
  obtain ⟨⟨hd1, hd2⟩, hd3, hd4⟩ := hp.2.2.1
  have y1 : Y.lo = u.lo := by rw [← hY, step_lo, q1]
  have y2 : Y.hi = u.hi := by rw [← hY, step_hi, q2]
  have y3 : Y.held = 0 := by rw [← hY, step_held, q5, u3]
  have y4 : Y.hops = 0 := by rw [← hY, step_hops, q4]
  have y5 : Y.good = true := by rw [← hY, step_good, q3, u5]
  have y6 : Y.set = true := by rw [← hY, step_set]
  have y7 : Y.time = Health.clock p s ticks u := by rw [← hY, step_time]
  refine ⟨hR, by omega, by omega, by omega, y3, ?_, fun h0 => ?_⟩
  · unfold Health.of
    rw [y5, y6, y4, y3, if_neg (by simp; omega), if_neg (by omega)]
  · have hj : Health.jumps p s ticks u = true := decide_eq_true (.inl h0)
    have ht : Y.time = Sat.clip (Health.mid u.lo u.hi) := by
      rw [y7]
      unfold Health.clock
      rw [if_pos (.inl hj)]
    rw [Health.mid_in (by omega) (by omega), Sat.clip_in (by omega) (by omega)] at ht
    omega
/-- Where nothing is fused. -/
theorem waits {p : Par} (hp : Lim.May p) {s : Sta} {now err : Int} (hn : -1125899906842624 ≤ now ∧ now ≤ 1125899906842624) (he : -p.rho ≤ err ∧ err ≤ p.rho) (hs : s.lo ≤ now ∧ now ≤ s.hi ∧ -36028797018963968 ≤ s.lo ∧ s.hi ≤ 36028797018963968) (hh : 0 ≤ s.held ∧ s.held ≤ 1048576) (l : List Hd) (hl : (l.length : Int) ≤ 2 * p.f) (x : Int) (tb : List (Int × Int)) (Y : Sta)
    (hY : state p 0 (Health.sane p s) (p.beat + err) false x l false tb = Y) : Y.lo ≤ now + p.beat ∧ now + p.beat ≤ Y.hi ∧ Y.hi - Y.lo = s.hi - s.lo + 2 * p.rho ∧ Y.held = s.held + 1 ∧ Y.hops = 0 := by
  obtain ⟨b1, r1, d1, j1, e1⟩ := Lim.May.bds hp
  have hleft : left p.f (spans p 0 false x l) = false := by
    refine left_few ?_
    have h1 := ways_few p (told p 0 l)
    have h2 := told_few p 0 l
    have h3 : spans p 0 false x l = ways p (told p 0 l) := by
      unfold spans reads
      rw [Bool.and_false, if_neg (by decide)]
      rfl
    rw [h3]
    omega
  unfold state at hY
  generalize spans p 0 false x l = S at hY hleft
  obtain ⟨z1, z2, z3⟩ := sane_span p s (by omega) (by omega) (by omega)
  have z4 := sane_held p s (by omega)
  generalize hu : next p (Health.sane p s) (p.beat + err) S false tb = u at hY
  have hc := Carry.hold_in hp ((Health.sane p s).lo, (Health.sane p s).hi) (n := p.beat + err) (by omega)
  simp only at hc
  rw [z1, z2, Sat.clip_in (x := s.lo) (by omega) (by omega), Sat.clip_in (x := s.hi) (by omega) (by omega), Sat.clip_in (by omega) (by omega), Sat.clip_in (by omega) (by omega)] at hc
  have u1 : u.lo = s.lo + (p.beat + err - p.rho) := by rw [← hu]; unfold next; simp only; rw [hleft, if_neg (by decide), z1, z2, hc]
  have u2 : u.hi = s.hi + (p.beat + err + p.rho) := by rw [← hu]; unfold next; simp only; rw [hleft, if_neg (by decide), z1, z2, hc]
  have u3 : u.held = s.held + 1 := by rw [← hu]; unfold next; simp only; rw [hleft, if_neg (by decide), z4]; exact Anchor.more_in (by omega)
  have u4 : u.hops = 0 := by rw [← hu]; rfl
  obtain ⟨q1, q2, q3⟩ := sane_span p u (by omega) (by omega) (by omega)
  have q4 := sane_hops p hp u u4
  have q5 := sane_held p u (by omega)
  have y1 : Y.lo = u.lo := by rw [← hY, step_lo, q1]
  have y2 : Y.hi = u.hi := by rw [← hY, step_hi, q2]
  have y3 : Y.held = u.held := by rw [← hY, step_held, q5]
  have y4 : Y.hops = 0 := by rw [← hY, step_hops, q4]
  exact ⟨by omega, by omega, by omega, by omega, y4⟩
/-- It forgets. -/
theorem forgets {p : Par} (me : Int) (a b : Sta) (ticks : Int) (ref : Bool) (x : Int) (l : List Hd) (given : Bool) (tb : List (Int × Int)) (A B : Sta)
    (hA : state p me (Health.sane p a) ticks ref x l given tb = A) (hB : state p me (Health.sane p b) ticks ref x l given tb = B) (h : A.held = 0 ∨ B.held = 0) : A.lo = B.lo ∧ A.hi = B.hi ∧ A.held = B.held ∧ A.good = B.good ∧ ((A.hi < A.lo → False) → True) ∧ left p.f (spans p me ref x l) = true := by
  unfold state at hA hB
  generalize spans p me ref x l = S at *
  have key : ∀ s : Sta, left p.f S = false → (Health.step p (Health.sane p s) ticks (next p (Health.sane p s) ticks S given tb)).held ≠ 0 := fun s hl => by
    rw [step_held]
    show Sat.bound (next p (Health.sane p s) ticks S given tb).held 0 1073741824 ≠ 0
    have e : (next p (Health.sane p s) ticks S given tb).held = Anchor.more (Sat.bound s.held 0 1073741824) := by
      unfold next
      simp only
      rw [hl, if_neg (by decide)]
      rfl
    rw [e]
    obtain ⟨k1, k2⟩ := Health.bound_bd s.held 0 1073741824 (by decide)
    generalize Sat.bound s.held 0 1073741824 = v at *
    unfold Anchor.more
    rw [Lim.sum2_in (by omega) (by omega) (by omega)]
    unfold Sat.bound
    split <;> (try split) <;> (try split) <;> (try split) <;> omega
  have hleft : left p.f S = true := by
    cases hl : left p.f S with
    | true => rfl
    | false =>
      rcases h with h | h
      · rw [← hA] at h; exact absurd h (key a hl)
      · rw [← hB] at h; exact absurd h (key b hl)
  rw [← hA, ← hB, step_lo, step_lo, step_hi, step_hi, step_held, step_held, step_good, step_good]
  have e1 : ∀ s, (next p s ticks S given tb).lo = (fused p.f S).1 := fun s => by unfold next; simp only; rw [if_pos hleft]
  have e2 : ∀ s, (next p s ticks S given tb).hi = (fused p.f S).2 := fun s => by unfold next; simp only; rw [if_pos hleft]
  have e3 : ∀ s, (next p s ticks S given tb).held = 0 := fun s => by unfold next; simp only; rw [if_pos hleft]
  have e4 : ∀ s, (next p s ticks S given tb).good = true := fun s => by unfold next; simp only; rw [if_pos hleft]
  unfold Health.sane
  simp only [e1, e2, e3, e4]
  exact ⟨trivial, trivial, trivial, trivial, fun _ => trivial, hleft⟩
end Gate
end Go.Proofs.YtmmiboblofopgaaGreat

/- Plain mathematics of layer 22: of each gateway the first message, sorted by numbers, is what is told. It names no program. -/
namespace Go.Proofs.YtmmiboblofopgaaGreat
namespace Gate
/-- Is it another gateway's? -/
def other (p : Par) (me : Int) (h : Hd) : Bool := decide (h.m.kind = 1 ∧ 0 ≤ h.m.frm ∧ h.m.frm < p.n ∧ h.m.frm < 16 ∧ h.m.frm ≠ me)
/-- Did that one say something already? -/
def said (l : List Hd) (k : Int) : Bool := l.any fun h => decide (h.m.frm = k)
def pick1 (p : Par) (me : Int) (out : List Hd) (h : Hd) : List Hd := if other p me h = true ∧ said out h.m.frm = false then out ++ [h] else out
/-- The first ones, in the order in which they came. -/
def pick (p : Par) (me : Int) (l : List Hd) : List Hd := l.foldl (pick1 p me) []
theorem pick_snoc (p : Par) (me : Int) (l : List Hd) (h : Hd) : pick p me (l ++ [h]) = pick1 p me (pick p me l) h := by
  unfold pick
  rw [List.foldl_append]
  rfl
theorem said_snoc (l : List Hd) (h : Hd) (k : Int) : said (l ++ [h]) k = (said l k || decide (h.m.frm = k)) := by
  unfold said
  simp
theorem other_has {p : Par} {me : Int} {h : Hd} (e : other p me h = true) : ∃ k : Nat, k < cnt p ∧ (k : Int) ≠ me ∧ has k h = true ∧ h.m.frm = k := by
  obtain ⟨e1, e2, e3, e4, e5⟩ := of_decide_eq_true e
  refine ⟨h.m.frm.toNat, by unfold cnt; omega, by omega, decide_eq_true ⟨e1, by omega⟩, by omega⟩
theorem has_other {p : Par} {me : Int} {h : Hd} {k : Nat} (h1 : k < cnt p) (h2 : (k : Int) ≠ me) (h3 : has k h = true) : other p me h = true ∧ h.m.frm = k := by
  obtain ⟨e1, e2⟩ := of_decide_eq_true h3
  unfold cnt at h1
  exact ⟨decide_eq_true ⟨e1, by omega, by omega, by omega, by omega⟩, e2⟩
theorem snoc_rec {P : List Hd → Prop} (h0 : P []) (h1 : ∀ l x, P l → P (l ++ [x])) (l : List Hd) : P l := by
  have : ∀ r : List Hd, P r.reverse := fun r => by
    induction r with
    | nil => exact h0
    | cons x r ih => rw [List.reverse_cons]; exact h1 _ _ ih
  simpa using this l.reverse
/-- What is picked is the others', of each one. -/
theorem pick_good (p : Par) (me : Int) (l : List Hd) : (∀ h ∈ pick p me l, other p me h = true) ∧ (pick p me l).Pairwise (fun a b => a.m.frm ≠ b.m.frm) := by
  induction l using snoc_rec with
  | h0 => exact ⟨by simp [pick], by simp [pick]⟩
  | h1 l x ih =>
    rw [pick_snoc]
    unfold pick1
    split
    · next h =>
      refine ⟨fun y hy => ?_, ?_⟩
      · rcases List.mem_append.1 hy with hy | hy
        · exact ih.1 y hy
        · rw [List.mem_singleton] at hy; subst hy; exact h.1
      · rw [List.pairwise_append]
        refine ⟨ih.2, List.pairwise_singleton _ _, fun a ha b hb => ?_⟩
        rw [List.mem_singleton] at hb
        subst hb
        have := h.2
        unfold said at this
        rw [List.any_eq_false] at this
        simpa using this a ha
    · exact ih
theorem said_find {p : Par} {me : Int} {out : List Hd} (ho : ∀ h ∈ out, other p me h = true) {k : Nat} : (out.find? (has k)).isSome = said out k := by
  rw [find_some]
  unfold said
  rw [Bool.eq_iff_iff, List.any_eq_true, List.any_eq_true]
  constructor
  · rintro ⟨x, hx, e⟩; exact ⟨x, hx, decide_eq_true (of_decide_eq_true e).2⟩
  · rintro ⟨x, hx, e⟩; exact ⟨x, hx, decide_eq_true ⟨(of_decide_eq_true (ho x hx)).1, of_decide_eq_true e⟩⟩
theorem pick_find (p : Par) (me : Int) (l : List Hd) {k : Nat} (h1 : k < cnt p) (h2 : (k : Int) ≠ me) : (pick p me l).find? (has k) = l.find? (has k) := by
  induction l using snoc_rec with
  | h0 => rfl
  | h1 l x ih =>
    have hg := (pick_good p me l).1
    rw [pick_snoc, List.find?_append, ← ih]
    by_cases hx : has k x = true
    · obtain ⟨e1, e2⟩ := has_other h1 h2 hx
      have hs := said_find hg (k := k)
      unfold pick1
      rw [e2]
      cases e : said (pick p me l) k with
      | true =>
        rw [if_neg (by simp)]
        rw [e] at hs
        obtain ⟨y, hy⟩ := Option.isSome_iff_exists.1 hs
        rw [hy]
        rfl
      | false => rw [if_pos ⟨e1, rfl⟩, List.find?_append]
    · have hx' : has k x = false := by simpa using hx
      have : [x].find? (has k) = none := by simp [hx']
      rw [this, Option.or_none]
      unfold pick1
      split
      · rw [List.find?_append, this, Option.or_none]
      · rfl
theorem told_lt (p : Par) (me : Int) (l : List Hd) : (told p me l).Pairwise fun a b => a.m.frm < b.m.frm := by
  unfold told
  rw [List.pairwise_filterMap]
  refine List.Pairwise.imp (fun {a b} hab => ?_) (List.pairwise_lt_range)
  intro x hx y hy
  have f1 : ∀ {k : Nat} {x : Hd}, one me l k = some x → x.m.frm = k := fun {k x} h => by
    unfold one at h
    split at h
    · cases h
    · have h2 : has k x = true := List.find?_some h
      exact (of_decide_eq_true h2).2
  rw [f1 hx, f1 hy]
  omega
theorem told_mem (p : Par) (me : Int) (l : List Hd) (x : Hd) : x ∈ told p me l ↔ x ∈ pick p me l := by
  obtain ⟨g1, g2⟩ := pick_good p me l
  unfold told
  rw [List.mem_filterMap]
  constructor
  · rintro ⟨k, hk, e⟩
    rw [List.mem_range] at hk
    unfold one at e
    split at e
    · cases e
    · next hme => rw [← pick_find p me l hk hme] at e; exact List.mem_of_find?_eq_some e
  · intro hx
    obtain ⟨k, h1, h2, h3, h4⟩ := other_has (g1 x hx)
    refine ⟨k, List.mem_range.2 h1, ?_⟩
    unfold one
    rw [if_neg h2, ← pick_find p me l h1 h2]
    have hs : ((pick p me l).find? (has k)).isSome = true := by
      rw [find_some, List.any_eq_true]
      exact ⟨x, hx, h3⟩
    obtain ⟨y, hy⟩ := Option.isSome_iff_exists.1 hs
    rw [hy]
    have hym := List.mem_of_find?_eq_some hy
    have hy2 : has k y = true := List.find?_some hy
    have hyf := (of_decide_eq_true hy2).2
    by_cases hxy : x = y
    · rw [hxy]
    · exfalso
      have : ∀ {L : List Hd}, L.Pairwise (fun a b => a.m.frm ≠ b.m.frm) → x ∈ L → y ∈ L → x.m.frm ≠ y.m.frm := fun {L} hL hx hy => by
        induction hL with
        | nil => cases hx
        | cons ha _ ih =>
          rcases List.mem_cons.1 hx with e1 | f1 <;> rcases List.mem_cons.1 hy with e2 | f2
          · exact absurd (e1.trans e2.symm) hxy
          · rw [e1]; exact ha _ f2
          · rw [e2]; exact fun e => ha _ f1 e.symm
          · exact ih f1 f2
      exact this g2 hx hym (by omega)
/-- Sorted by their numbers they are what is told. -/
theorem told_sorted {p : Par} {me : Int} {l L : List Hd} (hp : L.Perm (pick p me l)) (hs : L.Pairwise fun a b => a.m.frm ≤ b.m.frm) : L = told p me l := by
  have h1 : L.Pairwise (fun a b => a.m.frm ≠ b.m.frm) := (hp.pairwise_iff (fun {a b} h => Ne.symm h)).2 (pick_good p me l).2
  have h2 : L.Pairwise (fun a b => a.m.frm < b.m.frm) := (List.Pairwise.and hs h1).imp fun {a b} h => by have := h.1; have := h.2; omega
  have n1 : L.Nodup := h1.imp fun {a b} h e => h (by rw [e])
  have n2 : (told p me l).Nodup := (told_lt p me l).imp fun {a b} h e => by rw [e] at h; omega
  have hq : L.Perm (told p me l) := (List.perm_ext_iff_of_nodup n1 n2).2 fun x => by rw [told_mem]; exact hp.mem_iff
  exact List.Perm.eq_of_pairwise (fun a b _ _ h g => by omega) h2 (told_lt p me l) hq
theorem pick_few (p : Par) (me : Int) (l : List Hd) : (pick p me l).length ≤ 16 ∧ (pick p me l).length ≤ l.length := by
  have hq : (told p me l).Perm (pick p me l) := (List.perm_ext_iff_of_nodup ((told_lt p me l).imp fun {a b} h e => by rw [e] at h; omega) ((pick_good p me l).2.imp fun {a b} h e => h (by rw [e]))).2 fun x => told_mem p me l x
  exact ⟨by rw [← hq.length_eq]; exact told_cnt p me l, by rw [← hq.length_eq]; exact told_few p me l⟩
end Gate
end Go.Proofs.YtmmiboblofopgaaGreat
