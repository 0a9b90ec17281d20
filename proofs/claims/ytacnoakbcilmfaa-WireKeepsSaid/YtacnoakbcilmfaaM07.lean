/- Plain mathematics of layer 5: a check of bytes; turned bits within 32 are told. It names no program. -/
namespace Go.Proofs.Ytacnoakbcilmfaa
namespace Crc
/-- The polynomial. -/
def P : Nat := 3988292384
/-- One shift down. -/
def sh (x : Nat) : Nat := (x / 2) ^^^ (if x % 2 = 1 then P else 0)
theorem xor_left_comm (x y z : Nat) : x ^^^ (y ^^^ z) = y ^^^ (x ^^^ z) := by rw [← Nat.xor_assoc, Nat.xor_comm x y, Nat.xor_assoc]
theorem xor_cancel (x y : Nat) : x ^^^ (x ^^^ y) = y := by rw [← Nat.xor_assoc, Nat.xor_self, Nat.zero_xor]
theorem xor_mod2 (x y : Nat) : (x ^^^ y) % 2 = (x % 2 + y % 2) % 2 := by
  have := Nat.xor_mod_two_pow (a := x) (b := y) (n := 1)
  simp only [Nat.pow_one] at this
  rw [this]
  rcases Nat.mod_two_eq_zero_or_one x with hx | hx <;> rcases Nat.mod_two_eq_zero_or_one y with hy | hy <;> rw [hx, hy] <;> rfl
theorem xor_div2 (x y : Nat) : (x ^^^ y) / 2 = (x / 2) ^^^ (y / 2) := Nat.xor_div_two
theorem sh_xor (x y : Nat) : sh (x ^^^ y) = sh x ^^^ sh y := by
  unfold sh
  rw [xor_div2, xor_mod2]
  rcases Nat.mod_two_eq_zero_or_one x with hx | hx <;> rcases Nat.mod_two_eq_zero_or_one y with hy | hy <;> simp [hx, hy, Nat.xor_comm, xor_left_comm, xor_cancel]
theorem sh_zero : sh 0 = 0 := rfl
theorem sh_double (y : Nat) : sh (2 * y) = y := by unfold sh; simp
theorem sh_lt {x : Nat} (h : x < 4294967296) : sh x < 4294967296 := by
  unfold sh
  refine Nat.xor_lt_two_pow (n := 32) (by omega) ?_
  split <;> decide
theorem sh_pos {x : Nat} (h : x < 4294967296) (hx : sh x = 0) : x = 0 := by
  unfold sh at hx
  rcases Nat.mod_two_eq_zero_or_one x with h0 | h1
  · rw [h0] at hx; simp at hx; omega
  · rw [if_pos h1] at hx
    have e : x / 2 = P := by
      have := congrArg (· ^^^ P) hx
      simpa [Nat.xor_assoc] using this
    unfold P at e; omega
def shn : Nat → Nat → Nat
  | 0, x => x
  | n + 1, x => shn n (sh x)
theorem shn_add (m n x : Nat) : shn (m + n) x = shn n (shn m x) := by
  induction m generalizing x with
  | zero => simp [shn]
  | succ m ih => rw [Nat.succ_add]; exact ih _
theorem shn_xor (n x y : Nat) : shn n (x ^^^ y) = shn n x ^^^ shn n y := by
  induction n generalizing x y with
  | zero => rfl
  | succ n ih => simp only [shn]; rw [sh_xor, ih]
theorem shn_zero (n : Nat) : shn n 0 = 0 := by
  induction n with
  | zero => rfl
  | succ n ih => simp only [shn]; rw [sh_zero, ih]
theorem shn_lt (n : Nat) {x : Nat} (h : x < 4294967296) : shn n x < 4294967296 := by
  induction n generalizing x with
  | zero => exact h
  | succ n ih => exact ih (sh_lt h)
theorem shn_pos (n : Nat) {x : Nat} (h : x < 4294967296) (hx : shn n x = 0) : x = 0 := by
  induction n generalizing x with
  | zero => exact hx
  | succ n ih => exact sh_pos h (ih (sh_lt h) hx)
theorem shn_high (n y : Nat) : shn n (2 ^ n * y) = y := by
  induction n with
  | zero => simp [shn]
  | succ n ih =>
    simp only [shn]
    rw [Nat.pow_succ, Nat.mul_comm (2 ^ n) 2, Nat.mul_assoc, sh_double, ih]
/-- One byte more. -/
def byte (c b : Nat) : Nat := shn 8 (c ^^^ b)
def run (c : Nat) (l : List Nat) : Nat := l.foldl byte c
theorem byte_lt {c b : Nat} (hc : c < 4294967296) (hb : b < 256) : byte c b < 4294967296 :=
  shn_lt 8 (Nat.xor_lt_two_pow (n := 32) hc (by omega))
theorem run_nil (c : Nat) : run c [] = c := rfl
theorem run_cons (c b : Nat) (l : List Nat) : run c (b :: l) = run (byte c b) l := rfl
theorem run_append (c : Nat) (l m : List Nat) : run c (l ++ m) = run (run c l) m := List.foldl_append
theorem run_snoc (c : Nat) (l : List Nat) (b : Nat) : run c (l ++ [b]) = byte (run c l) b := by rw [run_append]; rfl
theorem run_lt {c : Nat} {l : List Nat} (hc : c < 4294967296) (hl : ∀ b ∈ l, b < 256) : run c l < 4294967296 := by
  induction l generalizing c with
  | nil => exact hc
  | cons b l ih => exact ih (byte_lt hc (hl b (by simp))) fun x hx => hl x (by simp [hx])
theorem byte_xor (c d a b : Nat) : byte (c ^^^ d) (a ^^^ b) = byte c a ^^^ byte d b := by
  unfold byte
  rw [← shn_xor]; congr 1
  simp only [Nat.xor_assoc, xor_left_comm]
theorem run_xor (c d : Nat) : ∀ (l m : List Nat), l.length = m.length → run (c ^^^ d) (List.zipWith (· ^^^ ·) l m) = run c l ^^^ run d m := by
  intro l
  induction l generalizing c d with
  | nil => intro m h; cases m with
    | nil => rfl
    | cons => simp at h
  | cons a l ih => intro m h; cases m with
    | nil => simp at h
    | cons b m =>
      simp only [List.zipWith_cons_cons, run_cons]
      rw [byte_xor]
      exact ih _ _ m (by simpa using h)
/-- The check of bytes. -/
def turn (x : Nat) : Nat := x ^^^ 4294967295
def check (l : List Nat) : Nat := turn (run 4294967295 l)
theorem turn_turn (x : Nat) : turn (turn x) = x := by unfold turn; rw [Nat.xor_assoc, Nat.xor_self, Nat.xor_zero]
theorem turn_lt {x : Nat} (h : x < 4294967296) : turn x < 4294967296 := Nat.xor_lt_two_pow (n := 32) h (by decide)
theorem check_nil : check [] = 0 := by unfold check turn; rw [run_nil]; rfl
theorem check_lt {l : List Nat} (hl : ∀ b ∈ l, b < 256) : check l < 4294967296 := turn_lt (run_lt (by decide) hl)
theorem check_append (l m : List Nat) : check (l ++ m) = turn (run (turn (check l)) m) := by
  unfold check; rw [turn_turn, run_append]
/-- Three pieces. -/
theorem check_mix (l m k : List Nat) (h1 : l.length = m.length) (h2 : m.length = k.length) :
    check (List.zipWith (· ^^^ ·) (List.zipWith (· ^^^ ·) l m) k) = check l ^^^ check m ^^^ check k := by
  unfold check turn
  have e : run 4294967295 (List.zipWith (· ^^^ ·) (List.zipWith (· ^^^ ·) l m) k) = (run 4294967295 l ^^^ run 4294967295 m) ^^^ run 4294967295 k := by
    have e0 : (4294967295 : Nat) = (4294967295 ^^^ 4294967295) ^^^ 4294967295 := by decide
    have := run_xor (4294967295 ^^^ 4294967295) 4294967295 (List.zipWith (· ^^^ ·) l m) k (by simp [h1, h2])
    rw [← e0, run_xor _ _ l m h1] at this
    exact this
  rw [e]
  generalize run 4294967295 l = x
  generalize run 4294967295 m = y
  generalize run 4294967295 k = z
  have t : (4294967295 : Nat) ^^^ 4294967295 = 0 := by decide
  apply Nat.eq_of_testBit_eq; intro i
  simp only [Nat.testBit_xor]
  generalize x.testBit i = a; generalize y.testBit i = b; generalize z.testBit i = c; generalize (4294967295 : Nat).testBit i = d
  cases a <;> cases b <;> cases c <;> cases d <;> rfl
/-- The n bytes of a number, the lowest first. -/
def bytesOf : Nat → Nat → List Nat
  | 0, _ => []
  | n + 1, v => v % 256 :: bytesOf n (v / 256)
theorem bytesOf_length (n v : Nat) : (bytesOf n v).length = n := by
  induction n generalizing v with
  | zero => rfl
  | succ n ih => simp [bytesOf, ih]
theorem bytesOf_at (n v k : Nat) (h : k < n) : (bytesOf n v)[k]'(by rw [bytesOf_length]; exact h) = v / 256 ^ k % 256 := by
  induction n generalizing v k with
  | zero => omega
  | succ n ih =>
    cases k with
    | zero => simp [bytesOf]
    | succ k =>
      simp only [bytesOf, List.getElem_cons_succ]
      rw [ih _ _ (by omega), Nat.div_div_eq_div_mul, Nat.pow_succ, Nat.mul_comm 256]
theorem low_high (v : Nat) : v = (v % 256) ^^^ (256 * (v / 256)) := by
  apply Nat.eq_of_testBit_eq; intro i
  rw [Nat.testBit_xor, show (256 : Nat) = 2 ^ 8 from rfl, Nat.testBit_mod_two_pow, Nat.testBit_two_pow_mul, Nat.testBit_div_two_pow]
  by_cases h : i < 8
  · simp [h, show ¬ 8 ≤ i by omega]
  · simp [h, show 8 ≤ i by omega, show i - 8 + 8 = i by omega]
/-- The state behind a number's bytes. -/
theorem run_bytesOf (n c v : Nat) (h : v < 256 ^ n) : run c (bytesOf n v) = shn (8 * n) (c ^^^ v) := by
  induction n generalizing c v with
  | zero => simp only [Nat.pow_zero] at h; have : v = 0 := by omega
            subst this; simp [bytesOf, run_nil, shn]
  | succ n ih =>
    simp only [bytesOf, run_cons]
    rw [ih _ _ (by rw [Nat.pow_succ] at h; omega), show 8 * (n + 1) = 8 + 8 * n by omega, shn_add]
    congr 1
    unfold byte
    have e : c ^^^ v = (c ^^^ v % 256) ^^^ (2 ^ 8 * (v / 256)) := by
      conv => lhs; rw [low_high v]
      rw [Nat.xor_assoc]
    rw [e, shn_xor 8 (c ^^^ v % 256), shn_high]
/-- Bits that were turned, within 32 that stand together, are told. -/
theorem told (n bits at_ : Nat) (hb : 0 < bits) (hb' : bits < 4294967296) (hat : at_ + 32 ≤ 8 * n) : run 0 (bytesOf n (2 ^ at_ * bits)) ≠ 0 := by
  have hlt : 2 ^ at_ * bits < 256 ^ n := by
    have h1 : 2 ^ at_ * bits < 2 ^ at_ * 2 ^ 32 := Nat.mul_lt_mul_of_pos_left (by omega) (Nat.two_pow_pos at_)
    have h2 : 2 ^ at_ * 2 ^ 32 ≤ 256 ^ n := by
      rw [← Nat.pow_add, show (256 : Nat) = 2 ^ 8 from rfl, ← Nat.pow_mul]
      exact Nat.pow_le_pow_right (by decide) hat
    omega
  rw [run_bytesOf n 0 _ hlt, Nat.zero_xor]
  obtain ⟨k, hk⟩ : ∃ k, 8 * n = at_ + k := ⟨8 * n - at_, by omega⟩
  rw [hk, shn_add, shn_high]
  intro h0
  have := shn_pos k hb' h0
  omega
/-- One bit more is turned. -/
theorem flip_step (bits at_ i k : Nat) : 2 ^ at_ * (bits % 2 ^ (i + 1)) / 256 ^ k % 256 = (2 ^ at_ * (bits % 2 ^ i) / 256 ^ k % 256) ^^^ (if k = (at_ + i) / 8 ∧ bits.testBit i = true then 2 ^ ((at_ + i) % 8) else 0) := by
  apply Nat.eq_of_testBit_eq; intro j
  rw [Nat.testBit_xor, show (256 : Nat) = 2 ^ 8 from rfl, ← Nat.pow_mul]
  simp only [Nat.testBit_mod_two_pow, Nat.testBit_div_two_pow, Nat.testBit_two_pow_mul]
  have e : (if k = (at_ + i) / 8 ∧ bits.testBit i = true then 2 ^ ((at_ + i) % 8) else 0).testBit j = (decide (k = (at_ + i) / 8 ∧ (at_ + i) % 8 = j) && bits.testBit i) := by
    by_cases h1 : k = (at_ + i) / 8 <;> by_cases h2 : bits.testBit i = true <;> simp [h1, h2, Nat.testBit_two_pow]
  rw [e]
  by_cases hj : j < 8
  · by_cases ht : j + 8 * k = at_ + i
    · have h1 : k = (at_ + i) / 8 ∧ (at_ + i) % 8 = j := by omega
      have h2 : at_ ≤ j + 8 * k := by omega
      have h3 : j + 8 * k - at_ = i := by omega
      simp only [h3, decide_eq_true hj, decide_eq_true h2, decide_eq_true h1]
      simp
    · have h1 : ¬ (k = (at_ + i) / 8 ∧ (at_ + i) % 8 = j) := by omega
      by_cases h2 : at_ ≤ j + 8 * k
      · have h3 : (j + 8 * k - at_ < i + 1) = (j + 8 * k - at_ < i) := by apply propext; omega
        simp [hj, h1, h3]
      · simp [hj, h2, h1]
  · have h1 : ¬ (k = (at_ + i) / 8 ∧ (at_ + i) % 8 = j) := by omega
    simp [hj, h1]
/-- A check's four bytes, the lowest first. -/
theorem run_check (c v : Nat) (h : v < 4294967296) : run c (bytesOf 4 v) = shn 32 (c ^^^ v) := run_bytesOf 4 c v (by omega)
/-- Bytes that were sealed, and in which bits were turned: their check is another one. -/
theorem sealed_told (l : List Nat) (hl : ∀ b ∈ l, b < 256) (bits at_ : Nat) (hb : 0 < bits) (hb' : bits < 4294967296) (hat : at_ + 32 ≤ 8 * (l.length + 4)) :
    let t := List.zipWith (· ^^^ ·) (l ++ bytesOf 4 (check l)) (bytesOf (l.length + 4) (2 ^ at_ * bits))
    bytesOf 4 (check (t.take l.length)) ≠ t.drop l.length := by
  intro t heq
  have hlen : t.length = l.length + 4 := by simp [t, bytesOf_length]
  have ht : t = t.take l.length ++ bytesOf 4 (check (t.take l.length)) := by rw [heq, List.take_append_drop]
  -- what is sealed has this state, whatever it is
  have hs : ∀ m : List Nat, (∀ b ∈ m, b < 256) → run 4294967295 (m ++ bytesOf 4 (check m)) = shn 32 4294967295 := by
    intro m hm
    rw [run_append, run_check _ _ (check_lt hm)]
    unfold check turn
    rw [xor_cancel]
  have hx := run_xor 4294967295 0 (l ++ bytesOf 4 (check l)) (bytesOf (l.length + 4) (2 ^ at_ * bits)) (by simp [bytesOf_length])
  rw [Nat.xor_zero] at hx
  have hbt : ∀ b ∈ t, b < 256 := by
    intro b hb
    obtain ⟨k, hk, rfl⟩ := List.mem_iff_getElem.1 hb
    simp only [t, List.getElem_zipWith]
    refine Nat.xor_lt_two_pow (n := 8) ?_ ?_
    · have hmem : ∀ x ∈ l ++ bytesOf 4 (check l), x < 256 := by
        intro x hx
        rcases List.mem_append.1 hx with h | h
        · exact hl x h
        · obtain ⟨i, hi, rfl⟩ := List.mem_iff_getElem.1 h
          rw [bytesOf_length] at hi
          rw [bytesOf_at 4 _ i hi]; omega
      exact hmem _ (List.getElem_mem _)
    · have hk' : k < l.length + 4 := by omega
      rw [bytesOf_at _ _ k hk']; omega
  have h1 : run 4294967295 t = shn 32 4294967295 := by
    rw [ht]; exact hs _ fun b hb => hbt b (List.mem_of_mem_take hb)
  rw [show run 4294967295 t = _ from hx, hs l hl] at h1
  have h2 : run 0 (bytesOf (l.length + 4) (2 ^ at_ * bits)) = 0 := by
    have := congrArg (shn 32 4294967295 ^^^ ·) h1
    simpa [xor_cancel] using this
  exact told (l.length + 4) bits at_ hb hb' hat h2
end Crc
end Go.Proofs.Ytacnoakbcilmfaa
