/- Plain mathematics of layer 1: numbers that stay where they are greatest. It names no program. -/
namespace Go.Proofs.Ytgfnfjkajahoaaa
namespace Sat

def clip (x : Int) : Int := if 2305843009213693952 < x then 2305843009213693952 else if x < -2305843009213693952 then -2305843009213693952 else x
def bound (x lo hi : Int) : Int := if hi < lo ∨ x < lo then lo else if hi < x then hi else x
def neg (x : Int) : Int := -clip x
def abs (x : Int) : Int := if clip x < 0 then -clip x else clip x
def sub (a b : Int) : Int := clip (clip a - clip b)
def mul (a b : Int) : Int := clip (clip a * clip b)
def add2 (a b : Int) : Int := clip (clip a + clip b)
def sum (l : List Int) : Int := l.foldl (fun n x => clip (n + clip x)) 0
def most (l : List Int) : Int := l.foldl (fun n x => if n < clip x then clip x else n) (-2305843009213693952)
def least (l : List Int) : Int := l.foldl (fun n x => if clip x < n then clip x else n) 2305843009213693952

theorem clip_bd (x : Int) : -2305843009213693952 ≤ clip x ∧ clip x ≤ 2305843009213693952 := by
  unfold clip; repeat' split
  all_goals omega
theorem clip_hi {x : Int} (h : 2305843009213693952 ≤ x) : clip x = 2305843009213693952 := by
  unfold clip; repeat' split
  all_goals omega
theorem clip_lo {x : Int} (h : x ≤ -2305843009213693952) : clip x = -2305843009213693952 := by
  unfold clip; repeat' split
  all_goals omega
theorem clip_in {x : Int} (h1 : -2305843009213693952 ≤ x) (h2 : x ≤ 2305843009213693952) : clip x = x := by
  unfold clip; repeat' split
  all_goals omega
theorem clip_clip (x : Int) : clip (clip x) = clip x := clip_in (clip_bd x).1 (clip_bd x).2
theorem clip_neg (x : Int) : clip (-x) = -clip x := by
  unfold clip; repeat' split
  all_goals omega
theorem clip_mono {x y : Int} (h : x ≤ y) : clip x ≤ clip y := by
  unfold clip; repeat' split
  all_goals omega
theorem clip_eq_bound (x : Int) : clip x = bound x (-2305843009213693952) 2305843009213693952 := by
  unfold clip bound; repeat' split
  all_goals omega
theorem abs_bd (x : Int) : 0 ≤ abs x ∧ abs x ≤ 2305843009213693952 := by
  have := clip_bd x; unfold abs; split <;> omega
theorem neg_bd (x : Int) : -2305843009213693952 ≤ neg x ∧ neg x ≤ 2305843009213693952 := by
  have := clip_bd x; unfold neg; omega
theorem sub_bd (a b : Int) : -2305843009213693952 ≤ sub a b ∧ sub a b ≤ 2305843009213693952 := clip_bd _
theorem mul_bd (a b : Int) : -2305843009213693952 ≤ mul a b ∧ mul a b ≤ 2305843009213693952 := clip_bd _

theorem sum_nil : sum [] = 0 := rfl
theorem sum_snoc (l : List Int) (x : Int) : sum (l ++ [x]) = clip (sum l + clip x) := by simp [sum]
theorem sum_bd (l : List Int) : -2305843009213693952 ≤ sum l ∧ sum l ≤ 2305843009213693952 := by
  rcases List.eq_nil_or_concat l with rfl | ⟨m, x, rfl⟩
  · rw [sum_nil]; omega
  · rw [List.concat_eq_append, sum_snoc]; exact clip_bd _
theorem most_nil : most [] = -2305843009213693952 := rfl
theorem most_snoc (l : List Int) (x : Int) : most (l ++ [x]) = if most l < clip x then clip x else most l := by unfold most; rw [List.foldl_append]; rfl
theorem most_bd (l : List Int) : -2305843009213693952 ≤ most l ∧ most l ≤ 2305843009213693952 := by
  suffices h : ∀ (l : List Int) (n : Int), -2305843009213693952 ≤ n → n ≤ 2305843009213693952 → -2305843009213693952 ≤ l.foldl (fun n x => if n < clip x then clip x else n) n ∧ l.foldl (fun n x => if n < clip x then clip x else n) n ≤ 2305843009213693952 from h l _ (by omega) (by omega)
  intro l; induction l with
  | nil => intro n h1 h2; exact ⟨h1, h2⟩
  | cons x l ih => intro n h1 h2; have := clip_bd x; simp only [List.foldl_cons]; apply ih <;> split <;> omega
theorem least_nil : least [] = 2305843009213693952 := rfl
theorem least_snoc (l : List Int) (x : Int) : least (l ++ [x]) = if clip x < least l then clip x else least l := by unfold least; rw [List.foldl_append]; rfl
theorem least_bd (l : List Int) : -2305843009213693952 ≤ least l ∧ least l ≤ 2305843009213693952 := by
  suffices h : ∀ (l : List Int) (n : Int), -2305843009213693952 ≤ n → n ≤ 2305843009213693952 → -2305843009213693952 ≤ l.foldl (fun n x => if clip x < n then clip x else n) n ∧ l.foldl (fun n x => if clip x < n then clip x else n) n ≤ 2305843009213693952 from h l _ (by omega) (by omega)
  intro l; induction l with
  | nil => intro n h1 h2; exact ⟨h1, h2⟩
  | cons x l ih => intro n h1 h2; have := clip_bd x; simp only [List.foldl_cons]; apply ih <;> split <;> omega
theorem least_turned (l : List Int) : least l = -most (l.map fun x => -clip x) := by
  suffices h : ∀ (l : List Int) (n : Int), l.foldl (fun n x => if clip x < n then clip x else n) (-n) = -(l.map fun x => -clip x).foldl (fun n x => if n < clip x then clip x else n) n by
    have g := h l (-2305843009213693952); rw [Int.neg_neg] at g; exact g
  intro l; induction l with
  | nil => intro n; rfl
  | cons x l ih =>
    intro n
    simp only [List.map_cons, List.foldl_cons, clip_neg, clip_clip]
    rw [← ih]; congr 1; repeat' split
    all_goals omega

/-- What is left of m above its k lowest bits. -/
def top (m k : Nat) : Int := ((m / 2 ^ k : Nat) : Int)
theorem top_bd (m k : Nat) : 0 ≤ top m k := Int.natCast_nonneg _
theorem top_zero (m : Nat) : top m 0 = m := by simp [top]
theorem top_high (m k : Nat) (h : m < 2 ^ k) : top m k = 0 := by unfold top; rw [Nat.div_eq_of_lt h]; rfl
theorem top_step (m k : Nat) : top m k = 2 * top m (k + 1) + (((m / 2 ^ k) % 2 : Nat) : Int) := by
  unfold top
  rw [Nat.pow_succ, ← Nat.div_div_eq_div_mul]
  omega
theorem clip_double (p : Int) : clip (2 * clip p) = clip (2 * p) := by
  unfold clip; repeat' split
  all_goals omega
theorem clip_more (p x : Int) (h1 : 0 ≤ x → 0 ≤ p) (h2 : x ≤ 0 → p ≤ 0) : clip (clip p + x) = clip (p + x) := by
  unfold clip; repeat' split
  all_goals omega
theorem mul_round0 (x : Int) (m k : Nat) (hm : (m / 2 ^ k) % 2 = 0) : clip (2 * clip (x * top m (k + 1))) = clip (x * top m k) := by
  rw [clip_double, top_step m k, hm]; congr 1
  rw [Int.mul_add, ← Int.mul_assoc, ← Int.mul_assoc, Int.mul_comm 2 x]; simp
theorem mul_round1 (x : Int) (m k : Nat) (hm : (m / 2 ^ k) % 2 = 1) : clip (clip (2 * clip (x * top m (k + 1))) + x) = clip (x * top m k) := by
  have ht := top_bd m (k + 1)
  have e : x * top m k = 2 * (x * top m (k + 1)) + x := by
    rw [top_step m k, hm, Int.mul_add, ← Int.mul_assoc, ← Int.mul_assoc, Int.mul_comm 2 x]; simp
  rw [clip_double, e]
  refine clip_more _ _ (fun h => ?_) (fun h => ?_)
  · have := Int.mul_nonneg h ht; omega
  · have := Int.mul_nonneg (show 0 ≤ -x by omega) ht
    rw [Int.neg_mul] at this; omega
end Sat
end Go.Proofs.Ytgfnfjkajahoaaa
