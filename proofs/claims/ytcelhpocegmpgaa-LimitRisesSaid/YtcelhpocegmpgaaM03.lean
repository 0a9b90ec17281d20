/- Plain mathematics of layer 2's document: products by digits, ratios by digits. It names no program. -/
import Derived.Test.YtcelhpocegmpgaaM02
namespace Go.Proofs.Ytcelhpocegmpgaa
namespace Wide

/-- What n digits say, the highest first. -/
def val : Nat → (Nat → Int) → Int
  | 0, _ => 0
  | n + 1, L => 2 * val n L + L n
def upd (L : Nat → Int) (p : Nat) (x : Int) : Nat → Int := fun j => if j = p then x else L j
theorem val_congr : ∀ (n : Nat) (L M : Nat → Int), (∀ j, j < n → L j = M j) → val n L = val n M
  | 0, _, _, _ => rfl
  | n + 1, L, M, h => by rw [val, val, val_congr n L M (fun j hj => h j (by omega)), h n (by omega)]
theorem val_upd : ∀ (n : Nat) (L : Nat → Int) (p : Nat) (x : Int), p < n → val n (upd L p x) = val n L + (x - L p) * 2 ^ (n - 1 - p)
  | 0, _, _, _, h => absurd h (Nat.not_lt_zero _)
  | n + 1, L, p, x, h => by
    rw [val, val]
    by_cases e : p = n
    · subst e
      rw [val_congr p (upd L p x) L (fun j hj => by unfold upd; rw [if_neg (by omega)])]
      unfold upd
      rw [if_pos rfl, show p + 1 - 1 - p = 0 by omega]
      simp; omega
    · rw [val_upd n L p x (by omega), show n + 1 - 1 - p = n - 1 - p + 1 by omega, Int.pow_succ]
      have : upd L p x n = L n := by unfold upd; rw [if_neg (by omega)]
      rw [this, ← Int.mul_assoc]
      generalize (x - L p) * 2 ^ (n - 1 - p) = t
      omega
theorem val_nonneg : ∀ (n : Nat) (L : Nat → Int), (∀ j, j < n → 0 ≤ L j) → 0 ≤ val n L
  | 0, _, _ => by simp [val]
  | n + 1, L, h => by have := val_nonneg n L (fun j hj => h j (by omega)); have := h n (by omega); rw [val]; omega
theorem val_first : ∀ (n : Nat) (L : Nat → Int), (∀ j, j < n + 1 → 0 ≤ L j) → L 0 * 2 ^ n ≤ val (n + 1) L
  | 0, L, _ => by simp [val]
  | n + 1, L, h => by
    have h1 := val_first n L (fun j hj => h j (by omega))
    have h2 := h (n + 1) (by omega)
    rw [val, Int.pow_succ, ← Int.mul_assoc]
    generalize L 0 * 2 ^ n = t at *
    omega

/-- The product so far: i bits of a, and k more of b for the next one. -/
def part (a b i k : Nat) : Nat := a % 2 ^ i * b + a / 2 ^ i % 2 * 2 ^ i * (b % 2 ^ k)
theorem part_zero (a b : Nat) : part a b 0 0 = 0 := by simp [part, Nat.mod_one]
theorem part_next (a b i : Nat) (hb : b < 2 ^ 62) : part a b i 62 = part a b (i + 1) 0 := by
  unfold part
  rw [Nat.mod_eq_of_lt hb, Nat.pow_zero, Nat.mod_one, Nat.mul_zero, Nat.add_zero, Nat.mod_pow_succ, Nat.add_mul, Nat.mul_comm (2 ^ i)]
theorem part_step (a b i k : Nat) : part a b i (k + 1) = part a b i k + a / 2 ^ i % 2 * (b / 2 ^ k % 2) * 2 ^ (i + k) := by
  unfold part
  rw [Nat.mod_pow_succ, Nat.mul_add, Nat.add_assoc]
  congr 1
  congr 1
  rw [Nat.pow_add]
  generalize 2 ^ i = x
  generalize 2 ^ k = y
  generalize a / x % 2 = u
  generalize b / y % 2 = v
  ac_rfl
theorem part_all (a b : Nat) (ha : a < 2 ^ 62) : part a b 62 0 = a * b := by unfold part; rw [Nat.mod_eq_of_lt ha, Nat.pow_zero, Nat.mod_one, Nat.mul_zero, Nat.add_zero]

/-- One place of the product by digits gets a bit more. -/
theorem val_bit (L : Nat → Int) (a b i k : Nat) (hi : i < 62) (hk : k < 62) (e : Int) (he : e = ((a / 2 ^ i % 2 * (b / 2 ^ k % 2) : Nat) : Int)) (h : val 128 L = ((part a b i k : Nat) : Int)) :
    val 128 (upd L (127 - i - k) (L (127 - i - k) + e)) = ((part a b i (k + 1) : Nat) : Int) := by
  rw [val_upd 128 L _ _ (by omega), h, part_step, show 128 - 1 - (127 - i - k) = i + k by omega, he]
  rw [show L (127 - i - k) + ((a / 2 ^ i % 2 * (b / 2 ^ k % 2) : Nat) : Int) - L (127 - i - k) = ((a / 2 ^ i % 2 * (b / 2 ^ k % 2) : Nat) : Int) by omega]
  rw [Int.natCast_add, Int.natCast_mul (a / 2 ^ i % 2 * (b / 2 ^ k % 2))]
  simp
/-- What is carried. -/
theorem val_carry (L : Nat → Int) (i : Nat) (hi : 0 < i) (hi' : i < 128) (h : 0 ≤ L i) :
    val 128 (upd (upd L (i - 1) (L (i - 1) + L i / 2)) i (L i % 2)) = val 128 L := by
  have e1 : upd L (i - 1) (L (i - 1) + L i / 2) i = L i := by unfold upd; rw [if_neg (by omega)]
  rw [val_upd 128 _ i _ hi', e1, val_upd 128 _ (i - 1) _ (by omega), show 128 - 1 - (i - 1) = 128 - 1 - i + 1 by omega, Int.pow_succ]
  generalize (2 : Int) ^ (128 - 1 - i) = t
  have e2 : L i % 2 - L i = -(2 * (L i / 2)) := by omega
  rw [e2, show L (i - 1) + L i / 2 - L (i - 1) = L i / 2 by omega, Int.mul_comm t 2, ← Int.mul_assoc, Int.neg_mul, Int.mul_comm (L i / 2) 2]
  omega

/-- What a list of digits says. -/
def lval (l : List Int) : Int := l.foldl (fun v d => 2 * v + d) 0
theorem lval_nil : lval [] = 0 := rfl
theorem lval_snoc (l : List Int) (d : Int) : lval (l ++ [d]) = 2 * lval l + d := by simp [lval]
theorem lval_range (L : Nat → Int) : ∀ n, lval ((List.range n).map L) = val n L
  | 0 => rfl
  | n + 1 => by rw [List.range_succ, List.map_append, List.map_singleton, lval_snoc, lval_range L n, val]
def Bits (l : List Int) : Prop := ∀ x ∈ l, x = 0 ∨ x = 1
theorem lval_nonneg {l : List Int} (h : Bits l) : 0 ≤ lval l := by
  suffices g : ∀ (l : List Int) (v : Int), Bits l → 0 ≤ v → 0 ≤ l.foldl (fun v d => 2 * v + d) v from g l 0 h (by omega)
  intro l; induction l with
  | nil => intro v _ h; exact h
  | cons x l ih => intro v hb hv; rw [List.foldl_cons]; have := hb x (by simp); exact ih _ (fun y hy => hb y (by simp [hy])) (by omega)
theorem bits_take {l : List Int} (h : Bits l) (k : Nat) : Bits (l.take k) := fun x hx => h x (List.mem_of_mem_take hx)
theorem bits_get {l : List Int} (h : Bits l) {k : Nat} (hk : k < l.length) : l[k] = 0 ∨ l[k] = 1 := h _ (List.getElem_mem hk)

/-- A ratio by digits: one digit more. -/
theorem clip_nonneg {x : Int} (h : 0 ≤ x) : 0 ≤ Sat.clip x := by
  unfold Sat.clip; repeat' split
  all_goals omega
theorem ratio_step0 {p d c : Int} (hc : 1 ≤ c) (hp : 0 ≤ p) (hd : d = 0 ∨ d = 1) (h : 2 * (p % c) + d < c) : Sat.clip (2 * Sat.clip (p / c)) = Sat.clip ((2 * p + d) / c) ∧ 2 * (p % c) + d = (2 * p + d) % c := by
  have h1 := Int.mul_ediv_add_emod p c
  have h2 := Int.emod_nonneg p (show c ≠ 0 by omega)
  obtain ⟨k1, k2⟩ := (Int.ediv_emod_unique (a := 2 * p + d) (b := c) (q := 2 * (p / c)) (r := 2 * (p % c) + d) (by omega)).2 ⟨by rw [Int.mul_left_comm]; omega, by omega, h⟩
  rw [k1, k2, Sat.clip_double]
  exact ⟨rfl, rfl⟩
theorem ratio_step1 {p d c : Int} (hc : 1 ≤ c) (hp : 0 ≤ p) (hd : d = 0 ∨ d = 1) (h : c ≤ 2 * (p % c) + d) : Sat.clip (Sat.clip (2 * Sat.clip (p / c)) + 1) = Sat.clip ((2 * p + d) / c) ∧ 2 * (p % c) + d - c = (2 * p + d) % c := by
  have h1 := Int.mul_ediv_add_emod p c
  have h2 := Int.emod_nonneg p (show c ≠ 0 by omega)
  have h3 := Int.emod_lt_of_pos p (show 0 < c by omega)
  have h4 : 0 ≤ p / c := Int.ediv_nonneg hp (by omega)
  obtain ⟨k1, k2⟩ := (Int.ediv_emod_unique (a := 2 * p + d) (b := c) (q := 2 * (p / c) + 1) (r := 2 * (p % c) + d - c) (by omega)).2 ⟨by rw [Int.mul_add, Int.mul_left_comm, Int.mul_one]; omega, by omega, by omega⟩
  rw [k1, k2, Sat.clip_double, Sat.clip_more _ _ (by omega) (by omega)]
  exact ⟨rfl, rfl⟩
theorem snoc_ind {P : List Int → Prop} (h0 : P []) (h1 : ∀ l x, P l → P (l ++ [x])) : ∀ l, P l := by
  intro l
  have : ∀ m : List Int, P m.reverse := by
    intro m; induction m with
    | nil => exact h0
    | cons x m ih => rw [List.reverse_cons]; exact h1 _ _ ih
  rw [← List.reverse_reverse l]; exact this _
/-- Two numbers by digits: the first digit in which they part tells. -/
theorem lval_bound : ∀ (l : List Int), Bits l → lval l < 2 ^ l.length := by
  refine snoc_ind (fun _ => by decide) (fun l x ih => ?_)
  · intro h
    have h1 := ih (fun y hy => h y (by simp [hy]))
    have h2 := h x (by simp)
    rw [lval_snoc, List.length_append, List.length_singleton, Int.pow_succ]
    generalize (2 : Int) ^ l.length = t at *
    omega
theorem lval_append (l m : List Int) : lval (l ++ m) = lval l * 2 ^ m.length + lval m := by
  refine snoc_ind (P := fun m => lval (l ++ m) = lval l * 2 ^ m.length + lval m) (by simp [lval_nil]) (fun m x ih => ?_) m
  · show lval (l ++ (m ++ [x])) = _
    rw [← List.append_assoc, lval_snoc, ih, lval_snoc, List.length_append, List.length_singleton, Int.pow_succ, Int.mul_add, ← Int.mul_assoc, ← Int.mul_assoc, Int.mul_comm 2 (lval l)]
    rw [Int.mul_assoc, Int.mul_comm 2, ← Int.mul_assoc, Int.add_assoc]
theorem part_lt {l m : List Int} (hl : Bits l) (hm : Bits m) (he : l.length = m.length) {k : Nat} (hk : k < l.length) (hk' : k < m.length) (hp : l.take k = m.take k) (h : l[k] < m[k]) : lval l < lval m := by
  have h1 : l = l.take k ++ (l[k] :: l.drop (k + 1)) := by rw [← List.drop_eq_getElem_cons hk, List.take_append_drop]
  have h2 : m = m.take k ++ (m[k] :: m.drop (k + 1)) := by rw [← List.drop_eq_getElem_cons hk', List.take_append_drop]
  have a0 := bits_get hl hk
  have b0 := bits_get hm hk'
  have hd1 : Bits (l.drop (k + 1)) := fun x hx => hl x (List.mem_of_mem_drop hx)
  have hd2 : Bits (m.drop (k + 1)) := fun x hx => hm x (List.mem_of_mem_drop hx)
  have b1 := lval_bound _ hd1
  have b2 := lval_nonneg hd2
  have el : (l.drop (k + 1)).length = (m.drop (k + 1)).length := by simp; omega
  rw [el] at b1
  have ea : ∀ (x : Int) (r : List Int), lval (x :: r) = x * 2 ^ r.length + lval r := fun x r => by
    have := lval_append [x] r
    simpa [lval] using this
  rw [h1, h2, lval_append, lval_append, hp, ea, ea, List.length_cons, List.length_cons, el]
  have e1 : l[k] = 0 := by omega
  have e2 : m[k] = 1 := by omega
  rw [e1, e2]
  generalize lval (m.take k) * 2 ^ ((m.drop (k + 1)).length + 1) = t
  generalize (2 : Int) ^ (m.drop (k + 1)).length = u at *
  omega
/-- How two numbers stand. -/
def cmp (x y : Int) : Int := if x < y then -1 else if y < x then 1 else 0
theorem cmp_bd (x y : Int) : -1 ≤ cmp x y ∧ cmp x y ≤ 1 := by
  unfold cmp; repeat' split
  all_goals omega
theorem cmp_neg (x y : Int) : cmp (-x) (-y) = -cmp x y := by
  unfold cmp; repeat' split
  all_goals omega
theorem cmp_swap (x y : Int) : cmp y x = -cmp x y := by
  unfold cmp; repeat' split
  all_goals omega
theorem cmp_self (x : Int) : cmp x x = 0 := by unfold cmp; simp
theorem bits_cmp {l m : List Int} (hl : Bits l) (hm : Bits m) (he : l.length = m.length) {k : Nat} (hk : k < l.length) (hk' : k < m.length) (hp : l.take k = m.take k) (h : l[k] ≠ m[k]) : l[k] - m[k] = cmp (lval l) (lval m) := by
  have a0 := bits_get hl hk
  have b0 := bits_get hm hk'
  rcases Int.lt_or_gt_of_ne h with g | g
  · have := part_lt hl hm he hk hk' hp g
    unfold cmp; rw [if_pos this]; omega
  · have := part_lt hm hl he.symm hk' hk hp.symm g
    unfold cmp; rw [if_neg (by omega), if_pos this]; omega
/-- How two rates stand: products across. -/
def rates (an ad bn bd : Int) : Int := cmp (Sat.clip an * one bd) (Sat.clip bn * one ad)
/-- Two numbers in two words. -/
theorem cmp_words (x y : Int) : (cmp (x / 18446744073709551616) (y / 18446744073709551616) ≠ 0 → cmp (x / 18446744073709551616) (y / 18446744073709551616) = cmp x y) ∧
    (cmp (x / 18446744073709551616) (y / 18446744073709551616) = 0 → cmp (x % 18446744073709551616) (y % 18446744073709551616) = cmp x y) := by
  unfold cmp; constructor <;> intro h <;> (repeat' split) <;> (repeat' split at h) <;> omega
end Wide
end Go.Proofs.Ytcelhpocegmpgaa
