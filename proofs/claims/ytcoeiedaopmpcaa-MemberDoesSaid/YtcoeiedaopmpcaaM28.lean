/- Plain mathematics of layer 14: who is a neighbour, how old, how quiet. It names no program. -/
import Derived.Test.YtcoeiedaopmpcaaRows
namespace Go.Proofs.Ytcoeiedaopmpcaa
/-- Who is a neighbour: its age, and for how many beats it has been quiet. -/
abbrev NF := Nat → Option (Int × Int)
namespace Mem
def nobody : NF := fun _ => none
def nums (f : NF) : List Nat := (List.range 48).filter fun k => (f k).isSome
def put (f : NF) (k : Nat) (p : Int × Int) : NF := fun j => if j = k then some p else f j
def drop (f : NF) (k : Nat) : NF := fun j => if j = k then none else f j
def look (f : NF) (x : Int) : Option (Int × Int) := if 0 ≤ x then f x.toNat else none
def age : Option (Int × Int) → Int
  | none => 0
  | some p => p.1
def quiet : Option (Int × Int) → Int
  | none => 0
  | some p => p.2
def hearE (f : NF) (x : Int) : Int := if 0 ≤ x ∧ x < 48 then (if look f x = none ∧ (nums f).length = 16 then 7 else 0) else 1
def hear (f : NF) (x : Int) : NF := if hearE f x = 0 then put f x.toNat (age (look f x), 0) else f
def dropI (f : NF) (x : Int) : NF := if 0 ≤ x then drop f x.toNat else f
def up (a : Int) : Int := if a < 1073741824 then a + 1 else a
def next (p : Int × Int) : Int × Int := (if p.2 = 0 then up p.1 else 0, up p.2)
def goes (m : Int) (p : Int × Int) : Bool := decide (max m 0 < p.2)
def step (m : Int) : Option (Int × Int) → Option (Int × Int)
  | none => none
  | some p => if goes m p then none else some (next p)
def tick (m : Int) (f : NF) : NF := fun k => step m (f k)
def goesAt (m : Int) : Option (Int × Int) → Bool
  | none => false
  | some p => goes m p
def gone (m : Int) (f : NF) : List Nat := (List.range 48).filter fun k => goesAt m (f k)
structure Good (f : NF) : Prop where
  far : ∀ k, 48 ≤ k → f k = none
  bd : ∀ k p, f k = some p → 0 ≤ p.1 ∧ p.1 ≤ 1073741824 ∧ 0 ≤ p.2 ∧ p.2 ≤ 1073741824
  few : (nums f).length ≤ 16
theorem Good.nobody : Good nobody := ⟨fun _ _ => rfl, (fun _ _ h => by cases h), by decide⟩
theorem mem_nums {f : NF} {k : Nat} : k ∈ nums f ↔ k < 48 ∧ (f k).isSome = true := by simp [nums]
theorem nums_nodup (f : NF) : (nums f).Nodup := List.nodup_range.filter _
theorem Good.mem {f : NF} (h : Good f) {k : Nat} : k ∈ nums f ↔ (f k).isSome = true := by
  rw [mem_nums]
  refine ⟨fun h => h.2, fun hs => ⟨?_, hs⟩⟩
  rcases Nat.lt_or_ge k 48 with e | e
  · exact e
  · rw [h.far k e] at hs; cases hs
theorem look_at (f : NF) (k : Nat) : look f (k : Int) = f k := by simp [look]
theorem look_neg (f : NF) {x : Int} (h : x < 0) : look f x = none := by unfold look; rw [if_neg (by omega)]
theorem Good.look_out {f : NF} (h : Good f) {x : Int} (hx : ¬ (0 ≤ x ∧ x < 48)) : look f x = none := by
  unfold look
  by_cases h0 : 0 ≤ x
  · rw [if_pos h0]; exact h.far _ (by omega)
  · rw [if_neg h0]
theorem countP_put (f : NF) (k : Nat) (p : Int × Int) : ∀ l : List Nat, l.Nodup → l.countP (fun j => (put f k p j).isSome) ≤ l.countP (fun j => (f j).isSome) + 1
  | [], _ => by simp
  | x :: l, h => by
    obtain ⟨h1, h2⟩ := List.nodup_cons.1 h
    rw [List.countP_cons, List.countP_cons]
    by_cases e : x = k
    · subst e
      have : l.countP (fun j => (put f x p j).isSome) = l.countP (fun j => (f j).isSome) := by
        apply List.countP_congr
        intro j hj
        have : j ≠ x := fun e => h1 (e ▸ hj)
        simp [put, this]
      rw [this]
      split <;> split <;> omega
    · have := countP_put f k p l h2
      have e2 : put f k p x = f x := if_neg e
      rw [e2]
      omega
theorem nums_length (f : NF) : (nums f).length = (List.range 48).countP fun k => (f k).isSome := List.countP_eq_length_filter.symm
theorem nums_put_le (f : NF) (k : Nat) (p : Int × Int) : (nums (put f k p)).length ≤ (nums f).length + 1 := by
  rw [nums_length, nums_length]
  exact countP_put f k p _ List.nodup_range
theorem nums_put_same {f : NF} {k : Nat} {p q : Int × Int} (h : f k = some q) : nums (put f k p) = nums f := by
  unfold nums
  congr 1
  funext j
  unfold put
  by_cases e : j = k
  · subst e; simp [h]
  · rw [if_neg e]
theorem Good.put {f : NF} (h : Good f) {k : Nat} (hk : k < 48) {p : Int × Int} (hp : 0 ≤ p.1 ∧ p.1 ≤ 1073741824 ∧ 0 ≤ p.2 ∧ p.2 ≤ 1073741824) (hr : f k = none → (nums f).length ≠ 16) : Good (put f k p) := by
  refine ⟨fun j hj => ?_, fun j q hq => ?_, ?_⟩
  · unfold Mem.put
    rw [if_neg (by omega)]
    exact h.far j hj
  · unfold Mem.put at hq
    by_cases e : j = k
    · rw [if_pos e] at hq; cases hq; exact hp
    · rw [if_neg e] at hq; exact h.bd j q hq
  · cases hf : f k with
    | none => have := nums_put_le f k p; have := h.few; have := hr hf; omega
    | some q => rw [nums_put_same hf]; exact h.few
theorem age_bd {f : NF} (h : Good f) (k : Nat) : 0 ≤ age (f k) ∧ age (f k) ≤ 1073741824 := by
  cases e : f k with
  | none => exact ⟨Int.le_refl _, by decide⟩
  | some p => have := h.bd k p e; exact ⟨this.1, this.2.1⟩
theorem hearE_cases (f : NF) (x : Int) : hearE f x = 1 ∨ hearE f x = 7 ∨ hearE f x = 0 := by
  unfold hearE; split
  · split
    · exact .inr (.inl rfl)
    · exact .inr (.inr rfl)
  · exact .inl rfl
theorem hearE_zero {f : NF} {x : Int} (h : hearE f x = 0) : (0 ≤ x ∧ x < 48) ∧ ¬ (look f x = none ∧ (nums f).length = 16) := by
  unfold hearE at h
  split at h
  · rename_i hx
    split at h
    · cases h
    · rename_i hn; exact ⟨hx, hn⟩
  · cases h
theorem look_in {f : NF} {x : Int} (h : 0 ≤ x) : look f x = f x.toNat := if_pos h
theorem Good.hear {f : NF} (h : Good f) (x : Int) : Good (hear f x) := by
  unfold Mem.hear
  by_cases e : hearE f x = 0
  · rw [if_pos e]
    obtain ⟨hx, hn⟩ := hearE_zero e
    rw [look_in hx.1] at hn ⊢
    refine h.put (by omega) ⟨(age_bd h _).1, (age_bd h _).2, (show (0 : Int) ≤ 0 by decide), (show (0 : Int) ≤ 1073741824 by decide)⟩ fun hf h16 => hn ⟨hf, h16⟩
  · rw [if_neg e]; exact h
theorem nums_less {f g : NF} (h : ∀ k, (g k).isSome = true → (f k).isSome = true) : (nums g).length ≤ (nums f).length := by
  rw [nums_length, nums_length]
  exact List.countP_mono_left fun k _ => h k
theorem Good.drop {f : NF} (h : Good f) (k : Nat) : Good (drop f k) := by
  refine ⟨fun j hj => ?_, fun j q hq => ?_, ?_⟩
  · unfold Mem.drop
    split
    · rfl
    · exact h.far j hj
  · unfold Mem.drop at hq
    split at hq
    · cases hq
    · exact h.bd j q hq
  · refine Nat.le_trans (nums_less fun j hj => ?_) h.few
    unfold Mem.drop at hj
    split at hj
    · cases hj
    · exact hj
theorem Good.dropI {f : NF} (h : Good f) (x : Int) : Good (dropI f x) := by
  unfold Mem.dropI
  split
  · exact h.drop _
  · exact h
theorem up_bd {a : Int} (h : 0 ≤ a ∧ a ≤ 1073741824) : 0 ≤ up a ∧ up a ≤ 1073741824 := by unfold up; split <;> omega
theorem up_min {a : Int} (h : a ≤ 1073741824) : up a = min (a + 1) 1073741824 := by unfold up; split <;> omega
theorem next_bd {p : Int × Int} (h : 0 ≤ p.1 ∧ p.1 ≤ 1073741824 ∧ 0 ≤ p.2 ∧ p.2 ≤ 1073741824) : 0 ≤ (next p).1 ∧ (next p).1 ≤ 1073741824 ∧ 0 ≤ (next p).2 ∧ (next p).2 ≤ 1073741824 := by
  have h1 := up_bd ⟨h.1, h.2.1⟩
  have h2 := up_bd h.2.2
  unfold next
  refine ⟨?_, ?_, h2.1, h2.2⟩
  · show 0 ≤ (if p.2 = 0 then up p.1 else 0); split <;> omega
  · show (if p.2 = 0 then up p.1 else 0) ≤ _; split <;> omega
theorem step_isSome {m : Int} {o : Option (Int × Int)} (h : (step m o).isSome = true) : o.isSome = true := by
  cases o with
  | none => cases h
  | some p => rfl
theorem Good.tick {f : NF} (h : Good f) (m : Int) : Good (tick m f) := by
  refine ⟨fun j hj => by unfold Mem.tick; rw [h.far j hj]; rfl, fun j q hq => ?_, Nat.le_trans (nums_less fun j hj => step_isSome hj) h.few⟩
  unfold Mem.tick at hq
  cases e : f j with
  | none => rw [e] at hq; cases hq
  | some p =>
    rw [e] at hq
    unfold step at hq
    simp only at hq
    split at hq
    · cases hq
    · cases hq; exact next_bd (h.bd j p e)
/-- Behind the numbers of l of a beat's end. -/
def tickL (m : Int) (f : NF) (l : List Nat) : NF := fun k => if k ∈ l then step m (f k) else f k
theorem tickL_nil (m : Int) (f : NF) : tickL m f [] = f := by funext k; simp [tickL]
theorem tickL_nums {f : NF} (h : Good f) (m : Int) : tickL m f (nums f) = tick m f := by
  funext k
  unfold tickL tick
  split
  · rfl
  · rename_i hk
    rw [h.mem] at hk
    cases e : f k with
    | none => rfl
    | some p => rw [e] at hk; exact absurd rfl hk
theorem tickL_range {f : NF} (h : Good f) (m : Int) : tickL m f (List.range 48) = tick m f := by
  funext k
  unfold tickL tick
  split
  · rfl
  · rename_i hk
    rw [h.far k (by simpa using hk)]; rfl
theorem tickL_at {m : Int} {f : NF} {l : List Nat} {k : Nat} (h : k ∉ l) : tickL m f l k = f k := if_neg h
theorem tickL_none {m : Int} {f : NF} {l : List Nat} {k : Nat} (e : f k = none) : tickL m f (l ++ [k]) = tickL m f l := by
  funext j
  unfold tickL
  by_cases ej : j = k
  · subst ej
    rw [e]
    simp [step]
  · simp [ej]
theorem tickL_drop {m : Int} {f : NF} {l : List Nat} {k : Nat} {p : Int × Int} (e : f k = some p) (hg : goes m p = true) : drop (tickL m f l) k = tickL m f (l ++ [k]) := by
  funext j
  unfold tickL drop
  by_cases ej : j = k
  · subst ej
    simp [e, step, hg]
  · simp [ej]
theorem tickL_put {m : Int} {f : NF} {l : List Nat} {k : Nat} {p : Int × Int} (e : f k = some p) (hg : goes m p = false) : put (tickL m f l) k (next p) = tickL m f (l ++ [k]) := by
  funext j
  unfold tickL put
  by_cases ej : j = k
  · subst ej
    simp [e, step, hg]
  · simp [ej]
theorem Good.tickL {f : NF} (h : Good f) (m : Int) (l : List Nat) : Good (tickL m f l) := by
  have ht := h.tick m
  refine ⟨fun j hj => ?_, fun j q hq => ?_, ?_⟩
  · unfold Mem.tickL
    split
    · exact ht.far j hj
    · exact h.far j hj
  · unfold Mem.tickL at hq
    split at hq
    · exact ht.bd j q hq
    · exact h.bd j q hq
  · refine Nat.le_trans (nums_less fun j hj => ?_) h.few
    unfold Mem.tickL at hj
    split at hj
    · exact step_isSome hj
    · exact hj
theorem gone_nums (m : Int) (f : NF) : (nums f).filter (fun k => goesAt m (f k)) = gone m f := by
  unfold nums gone
  rw [List.filter_filter]
  congr 1
  funext k
  cases e : f k with
  | none => rfl
  | some p => simp
theorem goesAt_some {m : Int} {f : NF} {k : Nat} {p : Int × Int} (e : f k = some p) : goesAt m (f k) = goes m p := by rw [e]; rfl
theorem dropI_at (f : NF) (k : Nat) : dropI f (k : Int) = drop f k := by unfold dropI; rw [if_pos (by omega)]; simp
theorem filter_snoc_yes {q : Nat → Bool} {l : List Nat} {k : Nat} (h : q k = true) : (l ++ [k]).filter q = l.filter q ++ [k] := by simp [h]
theorem filter_snoc_no {q : Nat → Bool} {l : List Nat} {k : Nat} (h : q k = false) : (l ++ [k]).filter q = l.filter q := by simp [h]
/-- Of the first k of the 48. -/
def numsTo (f : NF) (k : Nat) : List Nat := (List.range k).filter fun j => (f j).isSome
theorem numsTo_all (f : NF) : numsTo f 48 = nums f := rfl
theorem numsTo_some {f : NF} {k : Nat} (h : (f k).isSome = true) : numsTo f (k + 1) = numsTo f k ++ [k] := by
  unfold numsTo; rw [List.range_succ]; exact filter_snoc_yes h
theorem numsTo_none {f : NF} {k : Nat} (h : (f k).isSome = false) : numsTo f (k + 1) = numsTo f k := by
  unfold numsTo; rw [List.range_succ]; exact filter_snoc_no h
theorem numsTo_le (f : NF) (k : Nat) : (numsTo f k).length ≤ k := by
  have := List.length_filter_le (fun j => (f j).isSome) (List.range k)
  simpa [numsTo] using this
theorem nums_le (f : NF) : (nums f).length ≤ 48 := numsTo_le f 48
def goneTo (m : Int) (f : NF) (k : Nat) : List Nat := (List.range k).filter fun j => goesAt m (f j)
theorem goneTo_all (m : Int) (f : NF) : goneTo m f 48 = gone m f := rfl
theorem goneTo_yes {m : Int} {f : NF} {k : Nat} (h : goesAt m (f k) = true) : goneTo m f (k + 1) = goneTo m f k ++ [k] := by
  unfold goneTo; rw [List.range_succ]; exact filter_snoc_yes h
theorem goneTo_no {m : Int} {f : NF} {k : Nat} (h : goesAt m (f k) = false) : goneTo m f (k + 1) = goneTo m f k := by
  unfold goneTo; rw [List.range_succ]; exact filter_snoc_no h
theorem goneTo_le (m : Int) (f : NF) (k : Nat) : (goneTo m f k).length ≤ k := by
  have := List.length_filter_le (fun j => goesAt m (f j)) (List.range k)
  simpa [goneTo] using this
/-- The numbers as Go has them. -/
def ints (l : List Nat) : List Int := l.map fun k : Nat => (k : Int)
theorem ints_length (l : List Nat) : (ints l).length = l.length := by simp [ints]
theorem ints_append (l : List Nat) (k : Nat) : ints (l ++ [k]) = ints l ++ [(k : Int)] := by simp [ints]
/-- Whatever order a list without doubles has: sorted it is the rising one of its members. -/
theorem sorted_nums {f : NF} {c : List Nat} (hn : c.Nodup) (hm : ∀ k, k ∈ c ↔ k ∈ nums f) : (ints c).mergeSort (fun x y => decide (x ≤ y)) = ints (nums f) := by
  have hp : c.Perm (nums f) := (List.perm_ext_iff_of_nodup hn (nums_nodup f)).2 hm
  have hs : (nums f).Pairwise (· < ·) := List.pairwise_lt_range.filter _
  refine List.Perm.eq_of_pairwise (le := fun a b => decide (a ≤ b) = true) (fun a b _ _ h1 h2 => ?_) (List.pairwise_mergeSort (fun a b c h1 h2 => ?_) (fun a b => ?_) _) ?_ ((List.mergeSort_perm _ _).trans (hp.map _))
  · simp only [decide_eq_true_eq] at h1 h2; omega
  · simp only [decide_eq_true_eq] at h1 h2 ⊢; omega
  · simp only [Bool.or_eq_true, decide_eq_true_eq]; omega
  · unfold ints
    rw [List.pairwise_map]
    exact hs.imp fun h => by simp only [decide_eq_true_eq]; omega
end Mem
end Go.Proofs.Ytcoeiedaopmpcaa
