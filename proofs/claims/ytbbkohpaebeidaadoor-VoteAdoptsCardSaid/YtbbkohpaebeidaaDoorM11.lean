/- Plain mathematics of layer 6: messages as frames. -/
namespace Go.Proofs.YtbbkohpaebeidaaDoor
/-- A message. -/
structure Msg where
  kind : Int
  frm : Int
  lo : Int
  hi : Int
  held : Int
  hops : Int
  good : Bool
  ref : Bool
  slo : Int
  shi : Int
  pulse : Int
  time : Int
  num : Int
  table : List (Int × Int)
  deriving DecidableEq
namespace Wire
/-- Entries behind one with offset 'off' whose next may be at 'lo' at the earliest. -/
def tabFrom (lo off : Int) : List (Int × Int) → Bool
  | [] => true
  | e :: l => decide (lo ≤ e.1 ∧ e.1 ≤ 1099511627776 ∧ -32 ≤ e.2 ∧ e.2 ≤ 32 ∧ (e.2 = off + 1 ∨ e.2 = off - 1)) && tabFrom (e.1 + 86400) e.2 l
/-- A leap table. -/
def tab (l : List (Int × Int)) : Bool := decide (l.length ≤ 32) && tabFrom 0 0 l
/-- A message that can be, but for its table. -/
def goodN (m : Msg) : Bool := decide ((m.kind = 1 ∨ m.kind = 2) ∧ 0 ≤ m.frm ∧ m.frm ≤ 47 ∧ 0 ≤ m.held ∧ m.held ≤ 1073741824 ∧ 0 ≤ m.hops ∧ m.hops ≤ 17) &&
  decide ((-2305843009213693952 ≤ m.lo ∧ m.lo ≤ 2305843009213693952) ∧ (-2305843009213693952 ≤ m.hi ∧ m.hi ≤ 2305843009213693952) ∧ (-2305843009213693952 ≤ m.slo ∧ m.slo ≤ 2305843009213693952) ∧ (-2305843009213693952 ≤ m.shi ∧ m.shi ≤ 2305843009213693952) ∧
    (-2305843009213693952 ≤ m.pulse ∧ m.pulse ≤ 2305843009213693952) ∧ (-2305843009213693952 ≤ m.time ∧ m.time ≤ 2305843009213693952) ∧ 0 ≤ m.num ∧ m.num ≤ 1073741824)
def good (m : Msg) : Bool := goodN m && tab m.table
/-- A number's n lowest bytes, the highest first. -/
def bytesBE : Nat → Int → List Nat
  | 0, _ => []
  | n + 1, x => bytesBE n (x / 256) ++ [(x % 256).toNat]
def eight (x : Int) : List Nat := bytesBE 8 x
theorem bytesBE_length (n : Nat) (x : Int) : (bytesBE n x).length = n := by
  induction n generalizing x with
  | zero => rfl
  | succ n ih => simp [bytesBE, ih]
theorem bytesBE_lt (n : Nat) (x : Int) : ∀ b ∈ bytesBE n x, b < 256 := by
  induction n generalizing x with
  | zero => intro b hb; cases hb
  | succ n ih =>
    intro b hb
    rcases List.mem_append.1 hb with h | h
    · exact ih _ b h
    · simp at h; omega
theorem eight_length (x : Int) : (eight x).length = 8 := bytesBE_length 8 x
theorem eight_lt (x : Int) : ∀ b ∈ eight x, b < 256 := bytesBE_lt 8 x
/-- Bytes as a number, the highest first. -/
def big (l : List Nat) : Nat := l.foldl (fun n b => n * 256 + b) 0
theorem big_snoc (l : List Nat) (b : Nat) : big (l ++ [b]) = big l * 256 + b := by simp [big]
theorem snoc_ind {P : List Nat → Prop} (h0 : P []) (hs : ∀ l b, P l → P (l ++ [b])) (l : List Nat) : P l := by
  have : ∀ r : List Nat, P r.reverse := fun r => by
    induction r with
    | nil => exact h0
    | cons b r ih => rw [List.reverse_cons]; exact hs _ b ih
  have h := this l.reverse
  rwa [List.reverse_reverse] at h
theorem big_lt (l : List Nat) : (∀ b ∈ l, b < 256) → big l < 256 ^ l.length := by
  induction l using snoc_ind with
  | h0 => intro _; decide
  | hs l b ih =>
    intro h
    have h1 := ih fun x hx => h x (List.mem_append_left _ hx)
    have h2 := h b (by simp)
    rw [big_snoc, List.length_append, List.length_singleton, Nat.pow_succ]
    omega
theorem pow256_pos (n : Nat) : (0 : Int) < 256 ^ n := Int.pow_pos (by decide)
theorem big_bytes (n : Nat) (x : Int) : ((big (bytesBE n x) : Nat) : Int) = x % 256 ^ n := by
  induction n generalizing x with
  | zero => simp [bytesBE, big, Int.emod_one]
  | succ n ih =>
    rw [bytesBE, big_snoc, Int.natCast_add, Int.natCast_mul, ih, Int.toNat_of_nonneg (Int.emod_nonneg _ (by decide))]
    have e : (256 : Int) ^ (n + 1) = 256 * 256 ^ n := by rw [Int.pow_succ, Int.mul_comm]
    rw [e]
    have h1 := Int.mul_ediv_add_emod x 256
    have h2 := Int.mul_ediv_add_emod (x / 256) (256 ^ n)
    have h3 : x / (256 * 256 ^ n) = x / 256 / 256 ^ n := (Int.ediv_ediv_of_nonneg (x := x) (y := 256) (z := 256 ^ n) (by decide)).symm
    have h4 := Int.mul_ediv_add_emod x (256 * 256 ^ n)
    rw [h3, Int.mul_assoc] at h4
    have h5 : (256 : Int) * (256 ^ n * (x / 256 / 256 ^ n)) = 256 * (x / 256) - 256 * (x / 256 % 256 ^ n) := by
      rw [← Int.mul_sub]; congr 1; omega
    rw [h5] at h4
    show x / 256 % 256 ^ n * 256 + x % 256 = _
    omega
theorem bytes_big (l : List Nat) : (∀ b ∈ l, b < 256) → bytesBE l.length (big l : Nat) = l := by
  induction l using snoc_ind with
  | h0 => intro _; rfl
  | hs l b ih =>
    intro h
    have h1 := ih fun x hx => h x (List.mem_append_left _ hx)
    have h2 := h b (by simp)
    rw [List.length_append, List.length_singleton, bytesBE, big_snoc]
    rw [show (((big l * 256 + b : Nat) : Int) / 256) = ((big l : Nat) : Int) by omega, h1]
    congr 2
    omega
theorem bytes_mod (n : Nat) (x k : Int) : bytesBE n (x + 256 ^ n * k) = bytesBE n x := by
  induction n generalizing x k with
  | zero => rfl
  | succ n ih =>
    have e : (256 : Int) ^ (n + 1) * k = 256 * (256 ^ n * k) := by rw [Int.pow_succ, Int.mul_comm (256 ^ n) 256, Int.mul_assoc]
    rw [bytesBE, bytesBE, e]
    rw [show (x + 256 * (256 ^ n * k)) / 256 = x / 256 + 256 ^ n * k by omega, ih, show (x + 256 * (256 ^ n * k)) % 256 = x % 256 by omega]
/-- Eight bytes as a number with a sign. -/
def num (l : List Nat) : Int := if big l < 9223372036854775808 then (big l : Int) else (big l : Int) - 18446744073709551616
theorem num_eight {x : Int} (h0 : -9223372036854775808 ≤ x) (h1 : x ≤ 9223372036854775807) : num (eight x) = x := by
  have h := big_bytes 8 x
  unfold num eight
  rw [show (256 : Int) ^ 8 = 18446744073709551616 from by decide] at h
  split <;> omega
theorem eight_num {l : List Nat} (hl : l.length = 8) (hb : ∀ b ∈ l, b < 256) : eight (num l) = l := by
  have h := bytes_big l hb
  rw [hl] at h
  unfold num eight
  split
  · exact h
  · have := bytes_mod 8 (big l : Int) (-1)
    rw [show (256 : Int) ^ 8 = 18446744073709551616 from by decide] at this
    rw [show (big l : Int) - 18446744073709551616 = (big l : Int) + 18446744073709551616 * -1 by omega, this]
    exact h
theorem num_bd {l : List Nat} (hl : l.length = 8) (hb : ∀ b ∈ l, b < 256) : -9223372036854775808 ≤ num l ∧ num l ≤ 9223372036854775807 := by
  have := big_lt l hb
  rw [hl] at this
  unfold num
  split <;> omega
def flags (m : Msg) : Nat := (if m.good then 1 else 0) + (if m.ref then 2 else 0)
/-- The first four bytes. -/
def head (m : Msg) : List Nat := [m.kind.toNat, m.frm.toNat, flags m, m.table.length]
/-- The nine numbers. -/
def nine (m : Msg) : List Int := [m.lo, m.hi, m.held, m.hops, m.slo, m.shi, m.pulse, m.time, m.num]
/-- The table's numbers. -/
def flat (l : List (Int × Int)) : List Int := l.flatMap fun e => [e.1, e.2]
def eights (l : List Int) : List Nat := l.flatMap eight
/-- What stands ahead of the check. -/
def frame (m : Msg) : List Nat := head m ++ eights (nine m) ++ eights (flat m.table)
theorem eights_length (l : List Int) : (eights l).length = 8 * l.length := by
  induction l with
  | nil => rfl
  | cons x l ih => simp only [eights, List.flatMap_cons, List.length_append, eight_length, List.length_cons] at *; omega
theorem flat_length (l : List (Int × Int)) : (flat l).length = 2 * l.length := by
  induction l with
  | nil => rfl
  | cons x l ih => simp only [flat, List.flatMap_cons, List.length_append, List.length_cons, List.length_nil] at *; omega
theorem frame_length (m : Msg) : (frame m).length = 76 + 16 * m.table.length := by
  simp only [frame, List.length_append, eights_length, flat_length, head, nine, List.length_cons, List.length_nil]
  omega
theorem eights_lt (l : List Int) : ∀ b ∈ eights l, b < 256 := by
  intro b hb
  obtain ⟨x, _, hx⟩ := List.mem_flatMap.1 hb
  exact eight_lt x b hx
/-- The k-th eight bytes. -/
def at8 (b : List Nat) (k : Nat) : Int := num ((b.drop (8 * k)).take 8)
theorem eights_drop (l : List Int) (k : Nat) : (eights l).drop (8 * k) = eights (l.drop k) := by
  induction k generalizing l with
  | zero => simp
  | succ k ih =>
    cases l with
    | nil => simp [eights]
    | cons x l =>
      rw [List.drop_succ_cons, ← ih, show 8 * (k + 1) = 8 + 8 * k by omega, ← List.drop_drop]
      rfl
theorem at8_eights {l : List Int} {k : Nat} (hk : k < l.length) (hb : ∀ x ∈ l, -9223372036854775808 ≤ x ∧ x ≤ 9223372036854775807) : at8 (eights l) k = l[k] := by
  unfold at8
  rw [eights_drop, List.drop_eq_getElem_cons hk]
  show num ((eight l[k] ++ eights (l.drop (k + 1))).take 8) = _
  rw [List.take_append_of_le_length (by rw [eight_length]; exact Nat.le_refl _), List.take_of_length_le (by rw [eight_length]; exact Nat.le_refl _)]
  exact num_eight (hb _ (List.getElem_mem _)).1 (hb _ (List.getElem_mem _)).2
/-- Bytes, eight by eight. -/
theorem eights_at8 (n : Nat) (b : List Nat) (hl : b.length = 8 * n) (hb : ∀ x ∈ b, x < 256) : eights ((List.range n).map (at8 b)) = b := by
  induction n generalizing b with
  | zero => have : b = [] := List.length_eq_zero_iff.1 (by omega)
            subst this; rfl
  | succ n ih =>
    rw [List.range_succ_eq_map, List.map_cons, List.map_map]
    have h1 := ih (b.drop 8) (by simp; omega) (fun x hx => hb x (List.mem_of_mem_drop hx))
    have e : (at8 b ∘ Nat.succ) = at8 (b.drop 8) := by
      funext k
      simp only [Function.comp, at8, List.drop_drop]
      rw [show 8 * Nat.succ k = 8 + 8 * k by omega]
    rw [e]
    show eight (at8 b 0) ++ eights ((List.range n).map (at8 (b.drop 8))) = b
    rw [h1]
    have h2 : eight (at8 b 0) = b.take 8 := by
      unfold at8
      simp only [Nat.mul_zero, List.drop_zero]
      exact eight_num (by simp; omega) (fun x hx => hb x (List.mem_of_mem_take hx))
    rw [h2, List.take_append_drop]
/-- What stands behind the first four bytes, as numbers. -/
def rest8 (b : List Nat) (k : Nat) : Int := at8 (b.drop 4) k
def byteAt (b : List Nat) (i : Nat) : Nat := b[i]?.getD 0
/-- The message of bytes. -/
def parse (b : List Nat) : Msg :=
  { kind := byteAt b 0, frm := byteAt b 1, lo := rest8 b 0, hi := rest8 b 1, held := rest8 b 2, hops := rest8 b 3, good := byteAt b 2 % 2 == 1, ref := byteAt b 2 / 2 % 2 == 1, slo := rest8 b 4, shi := rest8 b 5, pulse := rest8 b 6, time := rest8 b 7, num := rest8 b 8,
    table := (List.range (byteAt b 3)).map fun i => (rest8 b (9 + 2 * i), rest8 b (10 + 2 * i)) }
/-- Have they the length that they tell? -/
def fits (b : List Nat) : Bool := decide (76 ≤ b.length ∧ b.length = 76 + 16 * byteAt b 3)
theorem flat_range (f : Nat → Int) (n : Nat) : flat ((List.range n).map fun i => (f (9 + 2 * i), f (10 + 2 * i))) = (List.range (2 * n)).map fun j => f (9 + j) := by
  induction n with
  | zero => rfl
  | succ n ih =>
    rw [List.range_succ, List.map_append, show 2 * (n + 1) = 2 * n + 1 + 1 by omega, List.range_succ, List.range_succ]
    simp only [flat, List.flatMap_append, List.map_append, List.map_cons, List.map_nil, List.flatMap_cons, List.flatMap_nil, List.append_nil] at *
    rw [ih, List.append_assoc]
    simp only [List.singleton_append]
    congr 4
    omega
theorem nums_range (f : Nat → Int) (n : Nat) : [f 0, f 1, f 2, f 3, f 4, f 5, f 6, f 7, f 8] ++ (List.range n).map (fun j => f (9 + j)) = (List.range (9 + n)).map f := by
  rw [List.range_add, List.map_append, List.map_map]
  rfl
theorem byteAt_lt {b : List Nat} (hb : ∀ x ∈ b, x < 256) (i : Nat) : byteAt b i < 256 := by
  unfold byteAt
  cases h : b[i]? with
  | none => decide
  | some x => exact hb x (List.mem_of_getElem? h)
/-- What was read has that frame, but for flags that no message has. -/
theorem frame_parse {b : List Nat} (hb : ∀ x ∈ b, x < 256) (hf : fits b = true) : frame (parse b) = [byteAt b 0, byteAt b 1, byteAt b 2 % 4, byteAt b 3] ++ b.drop 4 := by
  simp only [fits, decide_eq_true_eq] at hf
  have e1 : eights (nine (parse b)) ++ eights (flat (parse b).table) = b.drop 4 := by
    have h1 := flat_range (rest8 b) (byteAt b 3)
    have h2 := nums_range (rest8 b) (2 * byteAt b 3)
    have h3 := eights_at8 (9 + 2 * byteAt b 3) (b.drop 4) (by simp; omega) (fun x hx => hb x (List.mem_of_mem_drop hx))
    rw [show at8 (b.drop 4) = rest8 b from rfl, ← h2, ← h1] at h3
    simp only [eights, List.flatMap_append] at h3 ⊢
    exact h3
  have e2 : head (parse b) = [byteAt b 0, byteAt b 1, byteAt b 2 % 4, byteAt b 3] := by
    have hfl : flags (parse b) = byteAt b 2 % 4 := by
      simp only [flags, parse, beq_iff_eq]
      have h1 := Nat.mod_two_eq_zero_or_one (byteAt b 2)
      have h2 := Nat.mod_two_eq_zero_or_one (byteAt b 2 / 2)
      rcases h1 with h1 | h1 <;> rcases h2 with h2 | h2 <;> simp only [h1, h2] <;> simp <;> omega
    unfold head
    rw [hfl]
    simp [parse]
  unfold frame
  rw [List.append_assoc, e1, e2]
theorem four_drop {b : List Nat} (h : 4 ≤ b.length) : [byteAt b 0, byteAt b 1, byteAt b 2, byteAt b 3] ++ b.drop 4 = b := by
  match b, h with
  | a :: b :: c :: d :: l, _ => rfl
theorem frame_parse_iff {b : List Nat} (hb : ∀ x ∈ b, x < 256) (hf : fits b = true) : frame (parse b) = b ↔ byteAt b 2 < 4 := by
  rw [frame_parse hb hf]
  simp only [fits, decide_eq_true_eq] at hf
  have h4 := four_drop (b := b) (by omega)
  constructor
  · intro h
    rw [← h4] at h
    have := List.append_cancel_right h
    simp at this
    have h5 : byteAt b 2 = byteAt b 2 % 4 := by
      have h6 := congrArg (fun l => byteAt l 2) h
      simp [byteAt] at h6
      unfold byteAt
      omega
    omega
  · intro h
    rw [Nat.mod_eq_of_lt h]; exact h4
/-- Numbers that a message that can be has are small. -/
theorem tabFrom_bd : ∀ (l : List (Int × Int)) (lo off : Int), 0 ≤ lo → tabFrom lo off l = true → ∀ e ∈ l, (0 ≤ e.1 ∧ e.1 ≤ 1099511627776) ∧ -32 ≤ e.2 ∧ e.2 ≤ 32
  | [], _, _, _, _, e, he => by cases he
  | x :: l, lo, off, h0, h, e, he => by
    simp only [tabFrom, Bool.and_eq_true, decide_eq_true_eq] at h
    rcases List.mem_cons.1 he with rfl | he
    · omega
    · exact tabFrom_bd l _ _ (by omega) h.2 e he
theorem flat_mem {l : List (Int × Int)} {x : Int} (h : x ∈ flat l) : ∃ e ∈ l, x = e.1 ∨ x = e.2 := by
  obtain ⟨e, he, hx⟩ := List.mem_flatMap.1 h
  exact ⟨e, he, by simpa using hx⟩
theorem good_bd {m : Msg} (h : good m = true) : ∀ x ∈ nine m ++ flat m.table, -9223372036854775808 ≤ x ∧ x ≤ 9223372036854775807 := by
  simp only [good, goodN, tab, Bool.and_eq_true, decide_eq_true_eq] at h
  intro x hx
  rcases List.mem_append.1 hx with hx | hx
  · simp only [nine, List.mem_cons, List.not_mem_nil, or_false] at hx
    rcases hx with rfl | rfl | rfl | rfl | rfl | rfl | rfl | rfl | rfl <;> omega
  · obtain ⟨e, he, hx⟩ := flat_mem hx
    have := tabFrom_bd m.table 0 0 (by decide) h.2.2 e he
    rcases hx with rfl | rfl <;> omega
theorem flat_at : ∀ (l : List (Int × Int)) (k : Nat) (h : k < l.length), (flat l)[2 * k]? = some l[k].1 ∧ (flat l)[2 * k + 1]? = some l[k].2
  | [], k, h => absurd h (Nat.not_lt_zero k)
  | x :: l, 0, _ => ⟨rfl, rfl⟩
  | x :: l, k + 1, h => by
    have := flat_at l k (by simpa using h)
    rw [show 2 * (k + 1) = 2 * k + 2 by omega]
    exact this
theorem frame_head (m : Msg) : byteAt (frame m) 0 = m.kind.toNat ∧ byteAt (frame m) 1 = m.frm.toNat ∧ byteAt (frame m) 2 = flags m ∧ byteAt (frame m) 3 = m.table.length ∧ (frame m).drop 4 = eights (nine m ++ flat m.table) := by
  refine ⟨rfl, rfl, rfl, rfl, ?_⟩
  show eights (nine m) ++ eights (flat m.table) = _
  simp [eights]
/-- A message is read from its frame as it is. -/
theorem parse_frame {m : Msg} (h : good m = true) : fits (frame m) = true ∧ parse (frame m) = m := by
  obtain ⟨h0, h1, h2, h3, h4⟩ := frame_head m
  have hbd := good_bd h
  refine ⟨by simp only [fits, decide_eq_true_eq]; rw [frame_length, h3]; omega, ?_⟩
  have hl : (nine m ++ flat m.table).length = 9 + 2 * m.table.length := by simp [nine, flat_length]; omega
  have hr : ∀ k (hk : k < 9 + 2 * m.table.length), rest8 (frame m) k = (nine m ++ flat m.table)[k]'(by rw [hl]; exact hk) := fun k hk => by
    unfold rest8
    rw [h4]
    exact at8_eights (by rw [hl]; exact hk) hbd
  have ht : ((List.range m.table.length).map fun i => (rest8 (frame m) (9 + 2 * i), rest8 (frame m) (10 + 2 * i))) = m.table := by
    apply List.ext_getElem (by simp)
    intro k hk1 hk2
    have hk : k < m.table.length := hk2
    obtain ⟨f1, f2⟩ := flat_at m.table k hk
    have g1 := hr (9 + 2 * k) (by omega)
    have g2 := hr (10 + 2 * k) (by omega)
    rw [List.getElem_append_right (by simp only [nine, List.length_cons, List.length_nil]; omega)] at g1
    rw [List.getElem_append_right (by simp only [nine, List.length_cons, List.length_nil]; omega)] at g2
    have e1 : (flat m.table)[2 * k]? = some (rest8 (frame m) (9 + 2 * k)) := by
      rw [g1, List.getElem?_eq_getElem (by rw [flat_length]; omega)]
      congr 2
      simp only [nine, List.length_cons, List.length_nil]; omega
    have e2 : (flat m.table)[2 * k + 1]? = some (rest8 (frame m) (10 + 2 * k)) := by
      rw [g2, List.getElem?_eq_getElem (by rw [flat_length]; omega)]
      congr 2
      simp only [nine, List.length_cons, List.length_nil]; omega
    rw [f1] at e1
    rw [f2] at e2
    simp only [List.getElem_map, List.getElem_range]
    rw [← Option.some.inj e1, ← Option.some.inj e2]
  simp only [good, goodN, Bool.and_eq_true, decide_eq_true_eq] at h
  have hg : (flags m % 2 == 1) = m.good ∧ (flags m / 2 % 2 == 1) = m.ref := by
    unfold flags
    cases m.good <;> cases m.ref <;> exact ⟨rfl, rfl⟩
  unfold parse
  rw [h0, h1, h2, h3, ht, hg.1, hg.2]
  have n := fun k (hk : k < 9) => hr k (by omega)
  rw [n 0 (by omega), n 1 (by omega), n 2 (by omega), n 3 (by omega), n 4 (by omega), n 5 (by omega), n 6 (by omega), n 7 (by omega), n 8 (by omega)]
  rw [Int.toNat_of_nonneg (by omega), Int.toNat_of_nonneg (by omega)]
  rfl
theorem frame_lt {m : Msg} (h : good m = true) : ∀ b ∈ frame m, b < 256 := by
  simp only [good, goodN, tab, Bool.and_eq_true, decide_eq_true_eq] at h
  intro b hb
  unfold frame at hb
  rcases List.mem_append.1 hb with hb | hb
  · rcases List.mem_append.1 hb with hb | hb
    · simp only [head, List.mem_cons, List.not_mem_nil, or_false] at hb
      have hfl : flags m < 4 := by unfold flags; cases m.good <;> cases m.ref <;> decide
      rcases hb with rfl | rfl | rfl | rfl <;> omega
    · exact eights_lt _ b hb
  · exact eights_lt _ b hb
theorem frame_inj {m n : Msg} (hm : good m = true) (hn : good n = true) (h : frame m = frame n) : m = n := by
  rw [← (parse_frame hm).2, ← (parse_frame hn).2, h]
theorem good_short {m : Msg} (h : good m = true) : m.table.length ≤ 32 := by
  simp only [good, tab, Bool.and_eq_true, decide_eq_true_eq] at h
  exact h.2.1
end Wire
end Go.Proofs.YtbbkohpaebeidaaDoor
