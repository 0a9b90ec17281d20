/- Plain mathematics of layer 15: the shortest ways, level by level; what neighbours tell. -/
import Derived.Test.YtgkcmiaagbgajaaM30
namespace Go.Proofs.Ytgkcmiaagbgajaa
namespace Route
theorem pigeon : ∀ (n m : Nat) (F : Nat → Nat), (∀ e, e < m → F e < n) → (∀ e e', e < m → e' < m → F e = F e' → e = e') → m ≤ n
  | _, 0, _, _, _ => Nat.zero_le _
  | 0, m + 1, F, h, _ => absurd (h 0 (by omega)) (Nat.not_lt_zero _)
  | n + 1, m + 1, F, h, hi => by
    have key := pigeon n m (fun e => if F e = n then F m else F e) (fun e he => by
      show (if F e = n then F m else F e) < n
      have h1 := h e (by omega)
      have h2 := h m (by omega)
      split
      · rename_i q
        have : F m ≠ n := fun g => by have := hi e m (by omega) (by omega) (by omega); omega
        omega
      · omega) (fun e e' he he' q => by
      have q' : (if F e = n then F m else F e) = (if F e' = n then F m else F e') := q
      split at q' <;> split at q'
      · exact hi e e' (by omega) (by omega) (by omega)
      · have := hi m e' (by omega) (by omega) q'; omega
      · have := hi e m (by omega) (by omega) q'; omega
      · exact hi e e' (by omega) (by omega) q')
    omega
section
variable (n : Nat) (core : Nat → Bool) (hears : Nat → Nat → Bool)
/-- The shortest way has d steps. -/
def Sh (d i : Nat) : Prop := Way n core hears d i ∧ ∀ e, e < d → ¬ Way n core hears e i
variable {n core hears}
theorem Sh.unique {d e i : Nat} (h : Sh n core hears d i) (k : Sh n core hears e i) : d = e := by
  rcases Nat.lt_trichotomy d e with g | g | g
  · exact absurd h.1 (k.2 d g)
  · exact g
  · exact absurd k.1 (h.2 e g)
theorem Sh.of_way {m i : Nat} (h : Way n core hears m i) : ∃ d, d ≤ m ∧ Sh n core hears d i := by
  induction m using Nat.strongRecOn with
  | _ m ih =>
    by_cases g : ∃ e, e < m ∧ Way n core hears e i
    · obtain ⟨e, he, hw⟩ := g
      obtain ⟨d, hd, hs⟩ := ih e he hw
      exact ⟨d, by omega, hs⟩
    · exact ⟨m, Nat.le_refl _, h, fun e he hw => g ⟨e, he, hw⟩⟩
theorem Sh.pred {d i : Nat} (h : Sh n core hears (d + 1) i) : ∃ k, k < n ∧ hears i k = true ∧ Sh n core hears d k := by
  rcases h.1 with hc | ⟨k, hk, hh, hw⟩
  · exact absurd (Way.ofCore n core hears hc) (h.2 0 (by omega))
  · exact ⟨k, hk, hh, hw, fun e he hw2 => h.2 (e + 1) (by omega) (Or.inr ⟨k, hk, hh, hw2⟩)⟩
theorem Sh.chain : ∀ {d i : Nat}, i < n → Sh n core hears d i → ∀ e, e ≤ d → ∃ j, j < n ∧ Sh n core hears e j
  | 0, i, hi, h, e, he => ⟨i, hi, by rw [show e = 0 by omega]; exact h⟩
  | d + 1, i, hi, h, e, he => by
    by_cases q : e = d + 1
    · subst q; exact ⟨i, hi, h⟩
    · obtain ⟨k, hk, _, hs⟩ := h.pred
      exact Sh.chain hk hs e (by omega)
theorem Sh.lt {d i : Nat} (hi : i < n) (h : Sh n core hears d i) : d < n := by
  have key : ∀ e : Nat, ∃ j, e ≤ d → j < n ∧ Sh n core hears e j := fun e => by
    by_cases q : e ≤ d
    · obtain ⟨j, hj⟩ := Sh.chain hi h e q; exact ⟨j, fun _ => hj⟩
    · exact ⟨0, fun g => absurd g q⟩
  obtain ⟨F, hF⟩ := Classical.axiomOfChoice key
  exact pigeon n (d + 1) F (fun e he => (hF e (by omega)).1) (fun e e' he he' q => by
    have h1 := (hF e (by omega)).2
    rw [q] at h1
    exact h1.unique (hF e' (by omega)).2)
/-- As far as m steps a node's shortest way is v; -1: none. -/
def Lev (n : Nat) (core : Nat → Bool) (hears : Nat → Nat → Bool) (m i : Nat) (v : Int) : Prop := (v = -1 ∧ ¬ Way n core hears m i) ∨ ∃ d : Nat, d ≤ m ∧ v = d ∧ Sh n core hears d i
/-- The same in the making of the next level, the first k neighbours asked. -/
def Mid (n : Nat) (core : Nat → Bool) (hears : Nat → Nat → Bool) (m k i : Nat) (v : Int) : Prop :=
  (v = -1 ∧ ¬ Way n core hears m i ∧ ∀ j, j < k → hears i j = true → ¬ Sh n core hears m j) ∨ (∃ d : Nat, d ≤ m ∧ v = d ∧ Sh n core hears d i) ∨ (v = ((m + 1 : Nat) : Int) ∧ ¬ Way n core hears m i ∧ ∃ j, j < n ∧ hears i j = true ∧ Sh n core hears m j)
theorem Lev.start {i : Nat} {v : Int} (h : v = if core i = true then 0 else -1) : Lev n core hears 0 i v := by
  cases hc : core i with
  | true => rw [hc, if_pos rfl] at h; exact Or.inr ⟨0, Nat.le_refl _, by simpa using h, Way.ofCore n core hears hc, fun e he => absurd he (Nat.not_lt_zero e)⟩
  | false => rw [hc, if_neg (by simp)] at h; exact Or.inl ⟨h, fun g => by rw [show core i = true from g] at hc; cases hc⟩
theorem Lev.mid {m i : Nat} {v : Int} (h : Lev n core hears m i v) : Mid n core hears m 0 i v := by
  rcases h with ⟨h1, h2⟩ | h
  · exact Or.inl ⟨h1, h2, fun j hj => absurd hj (Nat.not_lt_zero j)⟩
  · exact Or.inr (Or.inl h)
theorem Mid.lev {m i : Nat} {v : Int} (h : Mid n core hears m n i v) : Lev n core hears (m + 1) i v := by
  rcases h with ⟨h1, h2, h3⟩ | ⟨d, h1, h2, h3⟩ | ⟨h1, h2, j, hj, hh, hs⟩
  · refine Or.inl ⟨h1, fun g => ?_⟩
    rcases g with hc | ⟨k, hk, hh, hw⟩
    · exact h2 (Way.ofCore n core hears hc)
    · obtain ⟨d, hd, hs⟩ := Sh.of_way hw
      by_cases q : d = m
      · subst q; exact h3 k hk hh hs
      · exact h2 (Way.mono n core hears (show d + 1 ≤ m by omega) (Or.inr ⟨k, hk, hh, hs.1⟩))
  · exact Or.inr ⟨d, by omega, h2, h3⟩
  · exact Or.inr ⟨m + 1, Nat.le_refl _, h1, Or.inr ⟨j, hj, hh, hs.1⟩, fun e he hw => h2 (Way.mono n core hears (show e ≤ m by omega) hw)⟩
/-- Whether a value, of either kind, says that the shortest way has m steps. -/
theorem Lev.is {m i : Nat} {v : Int} (h : Lev n core hears m i v) : v = (m : Int) ↔ Sh n core hears m i := by
  rcases h with ⟨h1, h2⟩ | ⟨d, h1, h2, h3⟩
  · exact ⟨fun e => by omega, fun e => absurd e.1 h2⟩
  · refine ⟨fun e => ?_, fun e => ?_⟩
    · obtain rfl : d = m := by omega
      exact h3
    · rw [h2, h3.unique e]
theorem Lev.is_more {m i : Nat} {v : Int} (h : Lev n core hears (m + 1) i v) : v = (m : Int) ↔ Sh n core hears m i := by
  rcases h with ⟨h1, h2⟩ | ⟨d, h1, h2, h3⟩
  · exact ⟨fun e => by omega, fun e => absurd (Way.more n core hears e.1) h2⟩
  · refine ⟨fun e => ?_, fun e => ?_⟩
    · obtain rfl : d = m := by omega
      exact h3
    · rw [h2, h3.unique e]
theorem Mid.is {m k i : Nat} {v : Int} (h : Mid n core hears m k i v) : v = (m : Int) ↔ Sh n core hears m i := by
  rcases h with ⟨h1, h2, _⟩ | ⟨d, h1, h2, h3⟩ | ⟨h1, h2, _⟩
  · exact ⟨fun e => by omega, fun e => absurd e.1 h2⟩
  · refine ⟨fun e => ?_, fun e => ?_⟩
    · obtain rfl : d = m := by omega
      exact h3
    · rw [h2, h3.unique e]
  · exact ⟨fun e => by omega, fun e => absurd e.1 h2⟩
theorem Mid.bd {m k i : Nat} {v : Int} (h : Mid n core hears m k i v) : -1 ≤ v ∧ v ≤ m + 1 := by
  rcases h with ⟨h1, _⟩ | ⟨d, h1, h2, h3⟩ | ⟨h1, _⟩ <;> omega
theorem Lev.bd {m i : Nat} {v : Int} (h : Lev n core hears m i v) : -1 ≤ v ∧ v ≤ m := by
  rcases h with ⟨h1, _⟩ | ⟨d, h1, h2, h3⟩ <;> omega
/-- One neighbour more, that tells nothing new. -/
theorem Mid.pass {m k i : Nat} {v : Int} (h : Mid n core hears m k i v) (hk : 0 ≤ v ∨ ¬ Sh n core hears m k ∨ hears i k = false) : Mid n core hears m (k + 1) i v := by
  rcases h with ⟨h1, h2, h3⟩ | h | h
  · refine Or.inl ⟨h1, h2, fun j hj hh => ?_⟩
    by_cases q : j = k
    · subst q
      rcases hk with g | g | g
      · omega
      · exact g
      · rw [g] at hh; cases hh
    · exact h3 j (by omega) hh
  · exact Or.inr (Or.inl h)
  · exact Or.inr (Or.inr h)
/-- One neighbour more, whose shortest way has m steps. -/
theorem Mid.take {m k i : Nat} {v : Int} (h : Mid n core hears m k i v) (hv : v < 0) (hk : k < n) (hs : Sh n core hears m k) (hh : hears i k = true) : Mid n core hears m (k + 1) i ((m + 1 : Nat) : Int) := by
  rcases h with ⟨h1, h2, h3⟩ | ⟨d, h1, h2, h3⟩ | ⟨h1, h2, h3⟩
  · exact Or.inr (Or.inr ⟨rfl, h2, k, hk, hh, hs⟩)
  · omega
  · omega
/-- Behind n levels: all ways. -/
theorem Lev.all {i : Nat} {v : Int} (hi : i < n) (h : Lev n core hears n i v) : (v = -1 ∧ ∀ m, ¬ Way n core hears m i) ∨ ∃ d : Nat, v = d ∧ Sh n core hears d i := by
  rcases h with ⟨h1, h2⟩ | ⟨d, h1, h2, h3⟩
  · refine Or.inl ⟨h1, fun m hw => ?_⟩
    obtain ⟨d, _, hs⟩ := Sh.of_way hw
    exact h2 (Way.mono n core hears (Nat.le_of_lt (hs.lt hi)) hs.1)
  · exact Or.inr ⟨d, h2, h3⟩
/-- What the first k neighbours of i tell. -/
def tell (b : Nat) (core : Nat → Bool) (hears : Nat → Nat → Bool) (v : Nat → Int) (i : Nat) : Nat → List Int
  | 0 => []
  | k + 1 => tell b core hears v i k ++ (if hears i k = true then [if b ≠ 0 ∧ core k = true then 0 else v k] else [])
theorem tell_len {b : Nat} {v : Nat → Int} {i : Nat} : ∀ k, (tell b core hears v i k).length ≤ k
  | 0 => Nat.le_refl _
  | k + 1 => by
    have := tell_len (b := b) (v := v) (i := i) k
    unfold tell
    rw [List.length_append]
    split <;> simp <;> omega
theorem mem_tell {b : Nat} {v : Nat → Int} {i : Nat} (x : Int) : ∀ k, x ∈ tell b core hears v i k ↔ ∃ j, j < k ∧ hears i j = true ∧ x = if b ≠ 0 ∧ core j = true then 0 else v j
  | 0 => by simp [tell]
  | k + 1 => by
    unfold tell
    rw [List.mem_append, mem_tell x k]
    constructor
    · rintro (⟨j, hj, h⟩ | h)
      · exact ⟨j, by omega, h⟩
      · split at h
        · rename_i hh
          exact ⟨k, by omega, hh, List.mem_singleton.1 h⟩
        · simp at h
    · rintro ⟨j, hj, hh, hx⟩
      by_cases q : j = k
      · subst q
        right
        rw [if_pos hh, hx]
        exact List.mem_singleton.2 rfl
      · exact Or.inl ⟨j, by omega, hh, hx⟩
/-- A node's steps behind a beat. -/
def step (D : Int) (b : Nat) (n : Nat) (core : Nat → Bool) (hears : Nat → Nat → Bool) (v : Nat → Int) (i : Nat) : Int := if core i = true then 0 else next D (tell b core hears v i n)
/-- One beat more. -/
theorem Told.step {D b : Nat} {v : Nat → Int} (h : b ≠ 0 → Told n core hears D b v) : Told n core hears D (b + 1) (fun i => step D b n core hears v i) := by
  refine Told.beat n core hears (l := fun i => tell b core hears v i n) h (fun hb i _ x => ?_) (fun i _ => ?_)
  · rw [mem_tell]
    constructor
    · rintro ⟨j, hj, hh, hx⟩
      refine ⟨j, hj, hh, ?_⟩
      rw [hx]
      split
      · rename_i g
        obtain ⟨h1, _, h2⟩ := h hb j hj
        have := (h2 0 (by omega) (by omega)).2 g.2
        omega
      · rfl
    · rintro ⟨j, hj, hh, hx⟩
      refine ⟨j, hj, hh, ?_⟩
      rw [hx]
      split
      · rename_i g
        obtain ⟨h1, _, h2⟩ := h hb j hj
        have := (h2 0 (by omega) (by omega)).2 g.2
        omega
      · rfl
  · refine ⟨fun hc => if_pos hc, fun hc => ?_⟩
    show IsNext _ _ (Route.step D b n core hears v i)
    unfold Route.step
    rw [if_neg (by rw [hc]; simp)]
    exact next_is (by omega) _
/-- What the law asks behind D + 1 beats. -/
theorem Told.same {D : Nat} {v : Nat → Int} {i : Nat} {d : Int} (h : Told n core hears D (D + 1) v) (hi : i < n) (hd : Lev n core hears n i d) : v i = if d > D ∨ d < 0 then (D : Int) + 1 else d := by
  rcases hd.all hi with ⟨h1, h2⟩ | ⟨e, h1, h2⟩
  · rw [if_pos (Or.inr (by omega))]
    exact Told.lost n core hears h hi (h2 D)
  · rw [Told.done n core hears h hi h2.1 h2.2, h1]
    split
    · rw [if_neg (by omega)]
    · rw [if_pos (Or.inl (by omega))]
end
end Route
end Go.Proofs.Ytgkcmiaagbgajaa
