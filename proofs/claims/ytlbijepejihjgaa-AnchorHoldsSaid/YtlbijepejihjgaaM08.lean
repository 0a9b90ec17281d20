/- Plain mathematics of layer 7: the k-th least, fusion of spans of which some lie. It names no program. -/
namespace Go.Proofs.Ytlbijepejihjgaa
namespace Trim
/-- How many of l are below x, and how many aren't above it. -/
def lt (x : Int) (l : List Int) : Nat := l.countP fun y => decide (y < x)
def le (x : Int) (l : List Int) : Nat := l.countP fun y => decide (y ≤ x)
/-- v is the k-th least of l. -/
def Pick (k : Nat) (l : List Int) (v : Int) : Prop := v ∈ l ∧ lt v l ≤ k ∧ k < le v l
theorem countP_mono {α : Type} {p q : α → Bool} {l : List α} (h : ∀ a ∈ l, p a = true → q a = true) : l.countP p ≤ l.countP q := by
  induction l with
  | nil => simp
  | cons a l ih =>
    have ih := ih fun b hb => h b (by simp [hb])
    have ha := h a (by simp)
    rw [List.countP_cons, List.countP_cons]
    cases hp : p a <;> cases hq : q a <;> simp_all <;> omega
theorem countP_not {α : Type} (p : α → Bool) (l : List α) : l.countP p + l.countP (fun a => !p a) = l.length := by
  induction l with
  | nil => simp
  | cons a l ih => rw [List.countP_cons, List.countP_cons, List.length_cons]; cases p a <;> simp <;> omega
/-- If p fails at most m times, and q at most n times, there is one of r, of which there are more, at which both hold. -/
theorem both {α : Type} {p q r : α → Bool} {l : List α} {m n : Nat} (hp : l.countP (fun a => !p a) ≤ m) (hq : l.countP (fun a => !q a) ≤ n) (hr : m + n < l.countP r) : ∃ a ∈ l, r a = true ∧ p a = true ∧ q a = true := by
  induction l generalizing m n with
  | nil => simp at hr
  | cons a l ih =>
    rw [List.countP_cons] at hp hq hr
    by_cases h : r a = true ∧ p a = true ∧ q a = true
    · exact ⟨a, by simp, h⟩
    · have key : ∃ b ∈ l, r b = true ∧ p b = true ∧ q b = true := by
        cases h1 : r a <;> cases h2 : p a <;> cases h3 : q a <;> simp [h1, h2, h3] at hp hq hr h
        all_goals first
          | exact ih hp hq (by omega)
          | exact ih (m := m - 1) (n := n) (by omega) (by omega) (by omega)
          | exact ih (m := m) (n := n - 1) (by omega) (by omega) (by omega)
          | exact ih (m := m - 1) (n := n - 1) (by omega) (by omega) (by omega)
      obtain ⟨b, hb, hx⟩ := key
      exact ⟨b, by simp [hb], hx⟩
theorem le_lt {x y : Int} (h : x < y) (l : List Int) : le x l ≤ lt y l := countP_mono fun a _ ha => by simp at *; omega
theorem Pick.unique {k : Nat} {l : List Int} {v u : Int} (h : Pick k l v) (g : Pick k l u) : v = u := by
  obtain ⟨-, h1, h2⟩ := h
  obtain ⟨-, g1, g2⟩ := g
  rcases Int.lt_trichotomy v u with c | c | c
  · have := le_lt c l; omega
  · exact c
  · have := le_lt c l; omega
theorem lt_perm {l m : List Int} (h : l.Perm m) (x : Int) : lt x l = lt x m := h.countP_eq _
theorem le_perm {l m : List Int} (h : l.Perm m) (x : Int) : le x l = le x m := h.countP_eq _
theorem Pick.perm {k : Nat} {l m : List Int} (h : l.Perm m) {v : Int} (hv : Pick k l v) : Pick k m v := ⟨h.mem_iff.1 hv.1, by rw [← lt_perm h]; exact hv.2.1, by rw [← le_perm h]; exact hv.2.2⟩
/-- There is one. -/
theorem Pick.exists {l : List Int} : ∀ {k : Nat}, k < l.length → ∃ v, Pick k l v := by
  -- the least of those that more than k aren't above
  intro k hk
  have hne : ∃ v ∈ l, k < le v l := by
    -- the greatest
    have hmax : ∀ (l : List Int), l ≠ [] → ∃ v ∈ l, ∀ y ∈ l, y ≤ v := by
      intro l
      induction l with
      | nil => intro h; exact absurd rfl h
      | cons a l ih =>
        intro _
        by_cases h : l = []
        · subst h; exact ⟨a, by simp, by simp⟩
        · obtain ⟨v, hv, hy⟩ := ih h
          by_cases c : a ≤ v
          · exact ⟨v, by simp [hv], fun y hy' => by rcases List.mem_cons.1 hy' with rfl | g; exact c; exact hy y g⟩
          · exact ⟨a, by simp, fun y hy' => by rcases List.mem_cons.1 hy' with rfl | g; exact Int.le_refl _; have := hy y g; omega⟩
    obtain ⟨v, hv, hy⟩ := hmax l (by intro h; subst h; simp at hk)
    refine ⟨v, hv, ?_⟩
    have : le v l = l.length := by
      unfold le; rw [List.countP_eq_length]; intro a ha; simpa using hy a ha
    omega
  have hmin : ∀ (m : List Int), (∃ v ∈ m, k < le v l) → ∃ v ∈ m, k < le v l ∧ ∀ y ∈ m, k < le y l → v ≤ y := by
    intro m
    induction m with
    | nil => rintro ⟨v, hv, -⟩; simp at hv
    | cons a m ih =>
      rintro ⟨v, hv, hk'⟩
      by_cases hm : ∃ v ∈ m, k < le v l
      · obtain ⟨u, hu, hku, huy⟩ := ih hm
        by_cases ha : k < le a l ∧ a < u
        · exact ⟨a, by simp, ha.1, fun y hy hky => by rcases List.mem_cons.1 hy with rfl | g; exact Int.le_refl _; have := huy y g hky; omega⟩
        · exact ⟨u, by simp [hu], hku, fun y hy hky => by rcases List.mem_cons.1 hy with rfl | g; exact Int.not_lt.1 fun c => ha ⟨hky, c⟩; exact huy y g hky⟩
      · rcases List.mem_cons.1 hv with rfl | g
        · exact ⟨v, by simp, hk', fun y hy hky => by rcases List.mem_cons.1 hy with rfl | g; exact Int.le_refl _; exact absurd ⟨y, g, hky⟩ hm⟩
        · exact absurd ⟨v, g, hk'⟩ hm
  obtain ⟨v, hv, hkv, hy⟩ := hmin l hne
  refine ⟨v, hv, ?_, hkv⟩
  -- below v there are at most k: else the greatest below v would do
  apply Classical.byContradiction
  intro hc
  have hc : k < lt v l := by omega
  have hg : ∀ (m : List Int), (∃ u ∈ m, u < v) → ∃ u ∈ m, u < v ∧ ∀ y ∈ m, y < v → y ≤ u := by
    intro m
    induction m with
    | nil => rintro ⟨u, hu, -⟩; simp at hu
    | cons a m ih =>
      rintro ⟨u, hu, huv⟩
      by_cases hm : ∃ u ∈ m, u < v
      · obtain ⟨z, hz, hzv, hzy⟩ := ih hm
        by_cases ha : a < v ∧ z < a
        · exact ⟨a, by simp, ha.1, fun y hy hyv => by rcases List.mem_cons.1 hy with rfl | g; exact Int.le_refl _; have := hzy y g hyv; omega⟩
        · exact ⟨z, by simp [hz], hzv, fun y hy hyv => by rcases List.mem_cons.1 hy with rfl | g; exact Int.not_lt.1 fun c => ha ⟨hyv, c⟩; exact hzy y g hyv⟩
      · rcases List.mem_cons.1 hu with rfl | g
        · exact ⟨u, by simp, huv, fun y hy hyv => by rcases List.mem_cons.1 hy with rfl | g; exact Int.le_refl _; exact absurd ⟨y, g, hyv⟩ hm⟩
        · exact absurd ⟨u, g, huv⟩ hm
  have hex : ∃ u ∈ l, u < v := by
    apply Classical.byContradiction
    intro h
    have : lt v l = 0 := by
      unfold lt; rw [List.countP_eq_zero]; intro a ha; simp; exact Int.not_lt.1 fun c => h ⟨a, ha, c⟩
    omega
  obtain ⟨u, hu, huv, huy⟩ := hg l hex
  have h1 : lt v l ≤ le u l := countP_mono fun a ha hav => by simp at *; exact huy a ha hav
  have := hy u hu (by omega)
  omega
/-- The k-th greatest. -/
def PickMost (k : Nat) (l : List Int) (v : Int) : Prop := Pick (l.length - 1 - k) l v
theorem most_above {k : Nat} {l : List Int} {v : Int} (hk : k < l.length) (h : PickMost k l v) : l.countP (fun y => decide (v < y)) ≤ k ∧ k < l.countP (fun y => decide (v ≤ y)) := by
  obtain ⟨-, h1, h2⟩ := h
  have e1 := countP_not (fun y => decide (y ≤ v)) l
  have e2 := countP_not (fun y => decide (y < v)) l
  have f1 : l.countP (fun y => decide (v < y)) = l.countP (fun y => !decide (y ≤ v)) := by congr 1; funext y; simp [← decide_not, Int.not_le]
  have f2 : l.countP (fun y => decide (v ≤ y)) = l.countP (fun y => !decide (y < v)) := by congr 1; funext y; simp [← decide_not, Int.not_lt]
  unfold lt at h1; unfold le at h2
  omega
/-- If all but f aren't above x, the f-th greatest isn't; if all but f aren't below x, the f-th least isn't. -/
theorem most_le {f : Nat} {l : List Int} {v x : Int} (hf : f < l.length) (h : PickMost f l v) (hx : l.countP (fun y => decide (x < y)) ≤ f) : v ≤ x := by
  apply Int.not_lt.1; intro c
  have := (most_above hf h).2
  have h1 : l.countP (fun y => decide (v ≤ y)) ≤ l.countP (fun y => decide (x < y)) := countP_mono fun a _ ha => by simp at *; omega
  omega
theorem le_pick {f : Nat} {l : List Int} {v x : Int} (h : Pick f l v) (hx : l.countP (fun y => decide (y < x)) ≤ f) : x ≤ v := by
  apply Int.not_lt.1; intro c
  have := h.2.2
  have h1 : le v l ≤ l.countP (fun y => decide (y < x)) := countP_mono fun a _ ha => by simp at *; omega
  omega
/-- Fusion: a time that is in all spans but f is in the fused one; and that isn't wider than one that has the time, if there are 2 f + 1 of these. -/
theorem fuse_holds {f : Nat} {l : List (Int × Int)} {lo hi x : Int} (hf : f < l.length) (hlo : PickMost f (l.map (·.1)) lo) (hhi : Pick f (l.map (·.2)) hi) (hx : l.countP (fun s => !decide (s.1 ≤ x ∧ x ≤ s.2)) ≤ f) :
    lo ≤ x ∧ x ≤ hi ∧ (2 * f + 1 ≤ l.countP (fun s => decide (s.1 ≤ x ∧ x ≤ s.2)) → ∃ s ∈ l, (s.1 ≤ x ∧ x ≤ s.2) ∧ s.1 ≤ lo ∧ hi ≤ s.2) := by
  refine ⟨most_le (by simpa using hf) hlo ?_, le_pick hhi ?_, fun h => ?_⟩
  · rw [List.countP_map]
    refine Nat.le_trans (countP_mono fun s _ hs => ?_) hx
    simp at *; omega
  · rw [List.countP_map]
    refine Nat.le_trans (countP_mono fun s _ hs => ?_) hx
    simp at *; omega
  · have a1 := (most_above (by simpa using hf) hlo).1
    have a2 := hhi.2.1
    unfold lt at a2
    rw [List.countP_map] at a1 a2
    obtain ⟨s, hs, h1, h2, h3⟩ := both (p := fun s => decide (s.1 ≤ lo)) (q := fun s : Int × Int => decide (hi ≤ s.2)) (r := fun s => decide (s.1 ≤ x ∧ x ≤ s.2)) (l := l) (m := f) (n := f)
      (Nat.le_trans (countP_mono fun s _ hs => by simp at *; omega) a1) (Nat.le_trans (countP_mono fun s _ hs => by simp at *; omega) a2) (by omega)
    exact ⟨s, hs, by simpa using h1, by simpa using h2, by simpa using h3⟩
/-- All but f from lo to hi: so are the f-th least and the f-th greatest. -/
theorem between {f : Nat} {l : List Int} {lo hi a b : Int} (hf : 2 * f + 1 ≤ l.length) (ha : Pick f l a) (hb : PickMost f l b) (hw : l.countP (fun y => !decide (lo ≤ y ∧ y ≤ hi)) ≤ f) : (lo ≤ a ∧ a ≤ hi) ∧ (lo ≤ b ∧ b ≤ hi) := by
  have h1 : lo ≤ a := le_pick ha (Nat.le_trans (countP_mono fun y _ hy => by simp at *; omega) hw)
  have h2 : b ≤ hi := most_le (by omega) hb (Nat.le_trans (countP_mono fun y _ hy => by simp at *; omega) hw)
  have h3 : a ≤ b := by
    apply Int.not_lt.1; intro c
    have := le_lt c l
    have h4 := ha.2.1
    have h5 := hb.2.2
    omega
  omega
end Trim
end Go.Proofs.Ytlbijepejihjgaa
