/- Words of my own: a region by facts (W11) whose last operations wait, each, for all ahead of it (the stores and assignments of a statement): these are run one behind the other, on the whole frame. -/
import Derived.Test.YtgfnfjkajahoaaaW27
namespace Go.Proofs.Ytgfnfjkajahoaaa
open Go
section
variable {P : Program} {md : Region.Mode} {ops : Array Oper} {Q : Exit → Act → World → Prop} {V : Nat → Value → World → Prop} {R : World → World → Prop} {a0 : Act} {w0 : World}
/-- Operations one behind the other. -/
def TailFrom (P : Program) (ops : Array Oper) (Q : Exit → Act → World → Prop) : Nat → List Oper → Act → World → Prop
  | _, [], a, w => Q .normal a w
  | k, _ :: l, a, w => wpOp P ops Q k (fun a' w' => TailFrom P ops Q (k + 1) l a' w') a w
theorem wpAny_tail (hB : regionB md ops a0.tmps.size = true) : ∀ (l : List Oper) (k : Nat), ops.toList.drop k = l →
    (∀ i, k ≤ i → ∀ o, ops[i]? = some o → ∀ j, k ≤ j → j < i → ∃ e ∈ o.after, Region.binds md e = true ∧ e.on = j) →
    ∀ (fuel : Nat) (listed : Array Bool) (a : Act) (w : World), listed.size = ops.size → (∀ j, j < k → j < ops.size → listed.getD j false = true) → (∀ j, k ≤ j → listed.getD j false = false) → l.length ≤ fuel → TailFrom P ops Q k l a w → wpAny P md ops Q fuel listed a w := by
  intro l
  induction l with
  | nil =>
    intro k hd hw fuel listed a w hs h1 h2 hf hT
    have hk : ops.size ≤ k := by simpa using hd
    have hr : Region.ready md ops listed = [] := by
      apply List.eq_nil_iff_forall_not_mem.2
      intro j hj
      obtain ⟨g0, oj, hoj, _⟩ := mem_ready.1 hj
      have hjl : j < ops.size := (Array.getElem?_eq_some_iff.1 hoj).1
      have := h1 j (by omega) hjl
      have hjs : j < listed.size := by omega
      simp [Array.getD, hjs] at this g0
      rw [this] at g0
      cases g0
    cases fuel with
    | zero => exact ⟨hr, hT⟩
    | succ f => exact ⟨fun _ => hT, fun j hj => by rw [hr] at hj; cases hj⟩
  | cons o l ih =>
    intro k hd hw fuel listed a w hs h1 h2 hf hT
    have hk : k < ops.size := by
      rcases Nat.lt_or_ge k ops.size with g | g
      · exact g
      · have : ops.toList.drop k = [] := by simpa using g
        rw [this] at hd
        cases hd
    have hok : ops[k]? = some ops[k] := Array.getElem?_eq_getElem hk
    cases fuel with
    | zero => simp at hf
    | succ f =>
      refine ⟨fun hr => ?_, fun i hi => ?_⟩
      · exfalso
        have hm : k ∈ Region.ready md ops listed := by
          refine mem_ready.2 ⟨?_, ops[k], hok, fun e he hb => ?_⟩
          · have := h2 k (Nat.le_refl _)
            have hks : k < listed.size := by omega
            simp [Array.getD, hks] at this ⊢
            exact this
          · have hlt := regionB_after hB hok e he hb
            exact h1 _ hlt (by omega)
        rw [hr] at hm
        cases hm
      · obtain ⟨g0, oi, hoi, hall⟩ := mem_ready.1 hi
        have hil : i < ops.size := (Array.getElem?_eq_some_iff.1 hoi).1
        have hge : k ≤ i := by
          rcases Nat.lt_or_ge i k with g | g
          · exfalso
            have := h1 i g hil
            have his : i < listed.size := by omega
            simp [Array.getD, his] at this g0
            rw [this] at g0
            cases g0
          · exact g
        have hik : i = k := by
          rcases Nat.lt_or_ge k i with g | g
          · exfalso
            obtain ⟨e, he, hb, hon⟩ := hw i hge oi hoi k (Nat.le_refl _) g
            have := hall e he hb
            rw [hon, h2 k (Nat.le_refl _)] at this
            cases this
          · omega
        subst hik
        refine wpOp_mono (fun a' w' h' => ?_) hT
        refine ih (i + 1) ?_ (fun j hj o ho j' hj' => hw j (by omega) o ho j' (by omega)) f _ a' w' (by simpa using hs) (fun j hj hjl => ?_) (fun j hj => ?_) (by simpa using hf) h'
        · rw [← List.drop_drop, hd]
          rfl
        · by_cases e : j = i
          · subst e
            have hjs : j < listed.size := by omega
            simp [Array.getD_eq_getD_getElem?, hjs]
          · have := h1 j (by omega) hjl
            simpa [Array.getD_eq_getD_getElem?, Array.getElem?_setIfInBounds, Ne.symm e] using this
        · have e : j ≠ i := by omega
          have := h2 j (by omega)
          simpa [Array.getD_eq_getD_getElem?, Array.getElem?_setIfInBounds, Ne.symm e] using this
/-- Slots of none of the first m operations are as they were. -/
def OldM (ops : Array Oper) (m : Nat) (a0 a : Act) : Prop := ∀ k : Tmp, (∀ (j : Nat) (o : Oper), j < m → ops[j]? = some o → o.dst ≠ some k) → a.tmps[k]? = a0.tmps[k]?
theorem wpAny_facts_tail {m : Nat} (hm : m ≤ ops.size) (hw : ∀ i, m ≤ i → ∀ o, ops[i]? = some o → ∀ j, j < i → ∃ e ∈ o.after, Region.binds md e = true ∧ e.on = j) (hB : regionB md ops a0.tmps.size = true) (hV : ∀ i v w w', V i v w → R w w' → V i v w') (hT : ∀ a b c, R a b → R b c → R a c)
    (step : ∀ (i : Nat) (o : Oper) (a : Act) (w : World), i < m → ops[i]? = some o → RF ops V a0 (fun j => ∃ e ∈ o.after, Region.binds md e = true ∧ e.on = j) a w → R w0 w → wpOp P ops Q i (fun a' w' => ∃ v, a' = a.put o.dst v ∧ V i v w' ∧ R w w') a w)
    (tail : ∀ a w, RF ops V a0 (fun j => j < m) a w → OldM ops m a0 a → R w0 w → TailFrom P ops Q m (ops.toList.drop m) a w) :
    ∀ (fuel : Nat) (listed : Array Bool) (a : Act) (w : World), listed.size = ops.size → (List.range ops.size).countP (fun j => !listed.getD j false) ≤ fuel → (∀ j, m ≤ j → listed.getD j false = false) →
      RF ops V a0 (fun j => listed.getD j false = true) a w → OldM ops m a0 a → R w0 w → wpAny P md ops Q fuel listed a w := by
  intro fuel
  have full : ∀ (fuel : Nat) (listed : Array Bool) (a : Act) (w : World), listed.size = ops.size → (List.range ops.size).countP (fun j => !listed.getD j false) ≤ fuel → (∀ j, m ≤ j → listed.getD j false = false) →
      RF ops V a0 (fun j => listed.getD j false = true) a w → OldM ops m a0 a → R w0 w → (∀ j, j < m → listed.getD j false = true) → wpAny P md ops Q fuel listed a w := by
    intro fuel listed a w hs hc hun hF hO hR hall
    refine wpAny_tail hB _ m rfl (fun i hi o ho j _ => hw i hi o ho j) fuel listed a w hs (fun j hj _ => hall j hj) hun ?_ (tail a w (hF.mono fun j hj => hall j hj) hO hR)
    have h1 : (ops.toList.drop m).length = ops.size - m := by simp
    have h2 : ops.size - m ≤ (List.range ops.size).countP (fun j => !listed.getD j false) := by
      have e : List.range ops.size = List.range m ++ (List.range (ops.size - m)).map (m + ·) := by
        rw [← List.range_add]; congr 1; omega
      rw [e, List.countP_append]
      have : ((List.range (ops.size - m)).map (m + ·)).countP (fun j => !listed.getD j false) = ops.size - m := by
        have hh : ∀ x ∈ (List.range (ops.size - m)).map (m + ·), (fun j => !listed.getD j false) x = true := by
          intro x hx
          obtain ⟨y, _, rfl⟩ := List.mem_map.1 hx
          simp only [hun (m + y) (by omega), Bool.not_false]
        rw [List.countP_eq_length.2 hh]
        simp
      omega
    omega
  induction fuel with
  | zero =>
    intro listed a w hs hc hun hF hO hR
    refine full 0 listed a w hs hc hun hF hO hR fun j hj => ?_
    have hz : (List.range ops.size).countP (fun j => !listed.getD j false) = 0 := by omega
    have := List.countP_eq_zero.1 hz j (List.mem_range.2 (by omega))
    simpa using this
  | succ fuel ih =>
    intro listed a w hs hc hun hF hO hR
    by_cases hall : ∀ j, j < m → listed.getD j false = true
    · exact full (fuel + 1) listed a w hs hc hun hF hO hR hall
    refine ⟨fun hr => ?_, fun i hi => ?_⟩
    · exact absurd (fun j hj => ready_some hB hs hr j (by omega)) hall
    obtain ⟨h0, o, ho, hrd⟩ := mem_ready.1 hi
    have hlt : i < ops.size := (Array.getElem?_eq_some_iff.1 ho).1
    have hls : i < listed.size := by omega
    have huni : listed.getD i false = false := by simp [Array.getD, hls] at h0 ⊢; exact h0
    have hcl := count_less (listed := listed) (i := i) (n := ops.size) hls huni hlt
    have him : i < m := by
      rcases Nat.lt_or_ge i m with g | g
      · exact g
      · exfalso
        refine hall fun j hj => ?_
        obtain ⟨e, he, hb, rfl⟩ := hw i g o ho j (by omega)
        exact hrd e he hb
    have hst := step i o a w him ho (hF.mono (by rintro j ⟨e, he, hb, rfl⟩; exact hrd e he hb)) hR
    refine wpOp_mono (fun a' w' h' => ?_) hst
    obtain ⟨v, rfl, hv, hR'⟩ := h'
    refine ih (listed.setIfInBounds i true) _ w' (by simpa using hs) (by omega) (fun j hj => ?_) ((hF.step hB hV ho hv hR').mono ?_) (fun k hk => by rw [put_other (hk i o him ho)]; exact hO k hk) (hT _ _ _ hR hR')
    · have e : j ≠ i := by omega
      simpa [Array.getD_eq_getD_getElem?, Array.getElem?_setIfInBounds, Ne.symm e] using hun j hj
    · intro j hj
      by_cases e : j = i
      · exact .inr e
      · left
        simpa [Array.getD_eq_getD_getElem?, Array.getElem?_setIfInBounds, Ne.symm e] using hj
/-- **A region that draws its order, by facts; its last operations, which wait for all ahead of them, are run one behind the other on the whole frame.** -/
theorem wp_region_facts_tail {id : Nat} {a : Act} {w : World} (hm : P.follows .mixedOrders = true) (n : Nat) (hn : a.tmps.size = n) (V : Nat → Value → World → Prop) (R : World → World → Prop) (ini : Array Oper) (m : Nat) (hini : ops.extract 0 m = ini) (hmi : ini.size = m) (hsz : m ≤ ops.size)
    (hre : ((List.range ops.size).all fun i => decide (i < m) || (ops[i]?.map fun o => (List.range i).all fun j => o.after.any fun e => Region.binds .any e && e.on == j).getD true) = true) (hB : regionB .any ops n = true) (hBi : regionB .any ini n = true)
    (hV : ∀ i v w w', V i v w → R w w' → V i v w') (hT : ∀ a b c, R a b → R b c → R a c) (h0 : R w.drew w.drew) (ds : List (Option Tmp)) (hds : dsts ini = ds) (tl : List Oper) (htl : ops.toList.drop m = tl)
    (steps : StepsFrom P ops Q V R a w.drew 0 ini.toList)
    (last : ∀ (vs : Nat → Value) (w' : World), (∀ i, i < m → V i (vs i) w') → R w.drew w' → TailFrom P ops Q m tl (putFrom vs 0 ds a) w') : (Code.region id ops true).wp P Q a w := by
  subst hn hds htl
  refine wp_region_any hm ?_
  have hex : ∀ i o, i < m → ops[i]? = some o → ini[i]? = some o := fun i o hi ho => by
    rw [← hini, Array.getElem?_extract]
    simp only [Nat.zero_add]
    rw [if_pos (by omega)]
    exact ho
  have hex' : ∀ i o, ini[i]? = some o → ops[i]? = some o ∧ i < m := fun i o ho => by
    have hi : i < ini.size := (Array.getElem?_eq_some_iff.1 ho).1
    rw [hmi] at hi
    rw [← hini, Array.getElem?_extract] at ho
    simp only [Nat.zero_add] at ho
    rw [if_pos (by omega)] at ho
    exact ⟨ho, hi⟩
  have hw : ∀ i, m ≤ i → ∀ o, ops[i]? = some o → ∀ j, j < i → ∃ e ∈ o.after, Region.binds .any e = true ∧ e.on = j := fun i hi o ho j hj => by
    have hil : i < ops.size := (Array.getElem?_eq_some_iff.1 ho).1
    have h1 := List.all_eq_true.1 hre i (List.mem_range.2 hil)
    rw [ho] at h1
    simp only [Option.map_some, Option.getD_some, Bool.or_eq_true, decide_eq_true_eq] at h1
    rcases h1 with h1 | h1
    · omega
    · have h2 := List.all_eq_true.1 h1 j (List.mem_range.2 hj)
      obtain ⟨e, he, hb⟩ := Array.any_eq_true'.1 h2
      simp only [Bool.and_eq_true, beq_iff_eq] at hb
      exact ⟨e, he, hb.1, hb.2⟩
  refine wpAny_facts_tail (a0 := a) (w0 := w.drew) (m := m) hsz hw hB hV hT (fun i o a' w' hi ho hF hR => ?_) (fun a' w' hF hO hR => ?_) _ _ _ _ (by simp) ?_ (fun j _ => ?_) ⟨fun j o hj _ => ?_, fun _ _ => rfl, rfl, rfl⟩ (fun _ _ => rfl) h0
  · have := StepsFrom.at_ ini.toList 0 i o steps (by rw [Array.getElem?_toList]; exact hex i o hi ho) a' w' hF hR
    rw [Nat.zero_add] at this
    exact this
  · have hF' : RF ini V a (fun j => j < ini.size) a' w' := by
      refine ⟨fun j o hj hoj => hF.at_ j o (by omega) (hex' j o hoj).1, fun k hk => hO k fun j o hj hoj => hk j o (hex j o hj hoj), hF.size, hF.defers⟩
    obtain ⟨vs, hvs, rfl⟩ := hF'.frame hBi
    exact last vs w' (fun i hi => hvs i (by omega)) hR
  · have := List.countP_le_length (p := fun j => !(Array.replicate ops.size false).getD j false) (l := List.range ops.size)
    simpa using this
  · rw [Array.getD_eq_getD_getElem?, Array.getElem?_replicate]
    split <;> rfl
  · rw [Array.getD_eq_getD_getElem?, Array.getElem?_replicate] at hj
    split at hj <;> cases hj
/-- An operation of the tail that leaves a value. -/
theorem wpOp_leaves {i : Nat} {o : Oper} {K : Act → World → Prop} {a : Act} {w w' : World} {v : Value} (ho : ops[i]? = some o) (hg : o.guard = none) (hr : (execOp a.eval o).run P w = .ok (.value v) w') (hK : K (a.put o.dst v) w') : wpOp P ops Q i K a w := by
  refine wpOp_step ho fun K' h => ?_
  rw [if_pos (by simp [Region.wanted, hg])]
  unfold Oper.wp
  rw [hr, Oper.upon_value]
  exact h _ _ hK
theorem wpAny_only {i fuel : Nat} {listed : Array Bool} {a : Act} {w : World} (hi : i ∈ Region.ready md ops listed) (honly : ∀ j ∈ Region.ready md ops listed, j = i) (h : wpOp P ops Q i (fun a' w' => wpAny P md ops Q fuel (listed.setIfInBounds i true) a' w') a w) : wpAny P md ops Q (fuel + 1) listed a w :=
  ⟨fun hr => by (rw [hr] at hi; cases hi), fun j hj => by (obtain rfl := honly j hj; exact h)⟩
theorem ready_iff {listed : Array Bool} (hs : listed.size = ops.size) {i : Nat} : i ∈ Region.ready md ops listed ↔ listed.getD i false = false ∧ ∃ o, ops[i]? = some o ∧ ∀ e ∈ o.after, Region.binds md e = true → listed.getD e.on false = true := by
  constructor
  · intro hi
    obtain ⟨h0, o, ho, hall⟩ := mem_ready.1 hi
    have hlt : i < ops.size := (Array.getElem?_eq_some_iff.1 ho).1
    have hls : i < listed.size := by omega
    refine ⟨?_, o, ho, hall⟩
    simp [Array.getD, hls] at h0 ⊢
    exact h0
  · rintro ⟨h0, o, ho, hall⟩
    have hlt : i < ops.size := (Array.getElem?_eq_some_iff.1 ho).1
    have hls : i < listed.size := by omega
    refine mem_ready.2 ⟨?_, o, ho, hall⟩
    simp [Array.getD, hls] at h0 ⊢
    exact h0
theorem getD_set {listed : Array Bool} {i j : Nat} (hi : i < listed.size) : (listed.setIfInBounds i true).getD j false = (if j = i then true else listed.getD j false) := by
  by_cases e : j = i
  · subst e
    simp [Array.getD_eq_getD_getElem?, hi]
  · simp [Array.getD_eq_getD_getElem?, Ne.symm e, e]
/-- Slots of none of the first m operations but f are as they were. -/
def OldF (ops : Array Oper) (m f : Nat) (a0 a : Act) : Prop := ∀ k : Tmp, (∀ (j : Nat) (o : Oper), j < m → j ≠ f → ops[j]? = some o → o.dst ≠ some k) → a.tmps[k]? = a0.tmps[k]?
theorem wpAny_facts_float {m f : Nat} (hsz : ops.size = m + 2) (hfm : f < m) {om o1 : Oper} (hom : ops[m]? = some om) (ho1 : ops[m + 1]? = some o1)
    (hwm : ∀ j, j < m → j ≠ f → ∃ e ∈ om.after, Region.binds md e = true ∧ e.on = j) (hw1 : ∀ j, j < m + 1 → ∃ e ∈ o1.after, Region.binds md e = true ∧ e.on = j)
    (hB : regionB md ops a0.tmps.size = true) (hV : ∀ i v w w', V i v w → R w w' → V i v w') (hT : ∀ a b c, R a b → R b c → R a c)
    (step : ∀ (i : Nat) (o : Oper) (a : Act) (w : World), i < m → ops[i]? = some o → RF ops V a0 (fun j => ∃ e ∈ o.after, Region.binds md e = true ∧ e.on = j) a w → R w0 w → wpOp P ops Q i (fun a' w' => ∃ v, a' = a.put o.dst v ∧ V i v w' ∧ R w w') a w)
    (tailA : ∀ a w, RF ops V a0 (fun j => j < m) a w → OldM ops m a0 a → R w0 w → wpOp P ops Q m (fun a' w' => wpOp P ops Q (m + 1) (fun a'' w'' => Q .normal a'' w'') a' w') a w)
    (tailB : ∀ a w, RF ops V a0 (fun j => j < m ∧ j ≠ f) a w → OldF ops m f a0 a → R w0 w → wpOp P ops Q m (fun a' w' => wpOp P ops Q f (fun a'' w'' => wpOp P ops Q (m + 1) (fun a3 w3 => Q .normal a3 w3) a'' w'') a' w') a w) :
    ∀ (fuel : Nat) (listed : Array Bool) (a : Act) (w : World), listed.size = ops.size → (List.range ops.size).countP (fun j => !listed.getD j false) ≤ fuel → (∀ j, m ≤ j → listed.getD j false = false) →
      RF ops V a0 (fun j => listed.getD j false = true) a w → OldM ops m a0 a → (listed.getD f false = false → OldF ops m f a0 a) → R w0 w → wpAny P md ops Q fuel listed a w := by
  have count2 : ∀ (listed : Array Bool), (∀ j, m ≤ j → listed.getD j false = false) → 2 ≤ (List.range ops.size).countP (fun j => !listed.getD j false) := by
    intro listed hun
    rw [hsz, List.range_succ, List.range_succ, List.countP_append, List.countP_append]
    have e1 : List.countP (fun j => !listed.getD j false) [m] = 1 := by rw [List.countP_singleton, hun m (Nat.le_refl _)]; rfl
    have e2 : List.countP (fun j => !listed.getD j false) [m + 1] = 1 := by rw [List.countP_singleton, hun (m + 1) (by omega)]; rfl
    omega
  intro fuel
  have full : ∀ (fuel : Nat) (listed : Array Bool) (a : Act) (w : World), listed.size = ops.size → (List.range ops.size).countP (fun j => !listed.getD j false) ≤ fuel → (∀ j, m ≤ j → listed.getD j false = false) →
      RF ops V a0 (fun j => listed.getD j false = true) a w → OldM ops m a0 a → R w0 w → (∀ j, j < m → listed.getD j false = true) → wpAny P md ops Q fuel listed a w := by
    intro fuel listed a w hs hc hun hF hO hR hall
    have hd : ops.toList.drop m = [om, o1] := by
      apply List.ext_getElem?
      intro j
      rw [List.getElem?_drop, Array.getElem?_toList]
      match j with
      | 0 => exact hom
      | 1 => exact ho1
      | j + 2 => rw [Array.getElem?_eq_none (by omega)]; rfl
    refine wpAny_tail hB [om, o1] m hd (fun i hi o ho j hj hji => ?_) fuel listed a w hs (fun j hj _ => hall j hj) hun ?_ (tailA a w (hF.mono fun j hj => hall j hj) hO hR)
    · have hil : i < ops.size := (Array.getElem?_eq_some_iff.1 ho).1
      obtain rfl : i = m + 1 := by omega
      rw [ho1] at ho
      cases ho
      exact hw1 j hji
    · have := count2 listed hun
      show 2 ≤ fuel
      omega
  induction fuel with
  | zero =>
    intro listed a w hs hc hun hF hO hO2 hR
    have := count2 listed hun
    omega
  | succ fuel ih =>
    intro listed a w hs hc hun hF hO hO2 hR
    by_cases hall : ∀ j, j < m → listed.getD j false = true
    · exact full (fuel + 1) listed a w hs hc hun hF hO hR hall
    refine ⟨fun hr => ?_, fun i hi => ?_⟩
    · exact absurd (fun j hj => ready_some hB hs hr j (by omega)) hall
    obtain ⟨huni, o, ho, hrd⟩ := (ready_iff hs).1 hi
    have hlt : i < ops.size := (Array.getElem?_eq_some_iff.1 ho).1
    have hls : i < listed.size := by omega
    have hcl := count_less (listed := listed) (i := i) (n := ops.size) hls huni hlt
    by_cases him : i < m
    · have hst := step i o a w him ho (hF.mono (by rintro j ⟨e, he, hb, rfl⟩; exact hrd e he hb)) hR
      refine wpOp_mono (fun a' w' h' => ?_) hst
      obtain ⟨v, rfl, hv, hR'⟩ := h'
      refine ih (listed.setIfInBounds i true) _ w' (by simpa using hs) (by omega) (fun j hj => ?_) ((hF.step hB hV ho hv hR').mono ?_) (fun k hk => by rw [put_other (hk i o him ho)]; exact hO k hk) (fun hnf k hk => ?_) (hT _ _ _ hR hR')
      · rw [getD_set hls, if_neg (by omega)]
        exact hun j hj
      · intro j hj
        rw [getD_set hls] at hj
        by_cases e : j = i
        · exact .inr e
        · left
          rwa [if_neg e] at hj
      · rw [getD_set hls] at hnf
        have e : f ≠ i := by rintro rfl; simp at hnf
        rw [if_neg e] at hnf
        rw [put_other (hk i o him (Ne.symm e) ho)]
        exact hO2 hnf k hk
    · have him1 : i = m := by
        rcases Nat.lt_or_ge m i with g | g
        · exfalso
          obtain rfl : i = m + 1 := by omega
          rw [ho1] at ho
          cases ho
          obtain ⟨e, he, hb, hon⟩ := hw1 m (by omega)
          have := hrd e he hb
          rw [hon, hun m (Nat.le_refl _)] at this
          cases this
        · omega
      subst him1
      rw [hom] at ho
      cases ho
      have hoth : ∀ j, j < i → j ≠ f → listed.getD j false = true := fun j hj hjf => by
        obtain ⟨e, he, hb, rfl⟩ := hwm j hj hjf
        exact hrd e he hb
      have hnf : listed.getD f false = false := by
        cases hfl : listed.getD f false with
        | false => rfl
        | true =>
          exfalso
          refine hall fun j hj => ?_
          by_cases e : j = f
          · subst e; exact hfl
          · exact hoth j hj e
      have hc2 : 2 ≤ fuel := by
        have := count2 (listed.setIfInBounds f true) (fun j hj => by rw [getD_set (by omega), if_neg (by omega)]; exact hun j hj)
        have h3 := count_less (listed := listed) (i := f) (n := ops.size) (by omega) hnf (by omega)
        omega
      obtain ⟨fu, rfl⟩ : ∃ fu, fuel = fu + 2 := ⟨fuel - 2, by omega⟩
      refine wpOp_mono (fun a' w' h' => ?_) (tailB a w (hF.mono fun j hj => hoth j hj.1 hj.2) (hO2 hnf) hR)
      have hs1 : (listed.setIfInBounds i true).size = ops.size := by simpa using hs
      have hff : ops[f]? = some ops[f] := Array.getElem?_eq_getElem (by omega)
      have r1 : f ∈ Region.ready md ops (listed.setIfInBounds i true) := by
        refine (ready_iff hs1).2 ⟨?_, ops[f], hff, fun e he hb => ?_⟩
        · rw [getD_set hls, if_neg (by omega)]
          exact hnf
        · have hlf := regionB_after hB hff e he hb
          rw [getD_set hls, if_neg (by omega)]
          exact hoth _ (by omega) (by omega)
      refine wpAny_only r1 (fun j hj => ?_) (wpOp_mono (fun a2 w2 h2 => ?_) h')
      · obtain ⟨g0, oj, hoj, hall'⟩ := (ready_iff hs1).1 hj
        have hjl : j < ops.size := (Array.getElem?_eq_some_iff.1 hoj).1
        rw [getD_set hls] at g0
        by_cases e : j = i
        · rw [if_pos e] at g0; cases g0
        · rw [if_neg e] at g0
          rcases Nat.lt_or_ge j i with g | g
          · rcases Nat.decEq j f with h | h
            · have := hoth j g h
              rw [this] at g0; cases g0
            · exact h
          · exfalso
            obtain rfl : j = i + 1 := by omega
            rw [ho1] at hoj
            cases hoj
            obtain ⟨e', he', hb', hon'⟩ := hw1 f (by omega)
            have := hall' e' he' hb'
            rw [hon', getD_set hls, if_neg (by omega), hnf] at this
            cases this
      · have hs2 : ((listed.setIfInBounds i true).setIfInBounds f true).size = ops.size := by simpa using hs
        have hlf : f < (listed.setIfInBounds i true).size := by omega
        have st : ∀ j, j < i + 1 → ((listed.setIfInBounds i true).setIfInBounds f true).getD j false = true := fun j hj => by
          rw [getD_set hlf]
          by_cases e : j = f
          · rw [if_pos e]
          · rw [if_neg e, getD_set hls]
            by_cases e2 : j = i
            · rw [if_pos e2]
            · rw [if_neg e2]
              exact hoth j (by omega) e
        have sn : ((listed.setIfInBounds i true).setIfInBounds f true).getD (i + 1) false = false := by
          rw [getD_set hlf, if_neg (by omega), getD_set hls, if_neg (by omega)]
          exact hun _ (by omega)
        have r2 : i + 1 ∈ Region.ready md ops ((listed.setIfInBounds i true).setIfInBounds f true) := by
          refine (ready_iff hs2).2 ⟨sn, o1, ho1, fun e he hb => ?_⟩
          have hlf2 := regionB_after hB ho1 e he hb
          exact st _ hlf2
        refine wpAny_only r2 (fun j hj => ?_) (wpOp_mono (fun a3 w3 h3 => ?_) h2)
        · obtain ⟨g0, oj, hoj, _⟩ := (ready_iff hs2).1 hj
          have hjl : j < ops.size := (Array.getElem?_eq_some_iff.1 hoj).1
          rcases Nat.lt_or_ge j (i + 1) with g | g
          · rw [st j g] at g0; cases g0
          · omega
        · have hlo : i + 1 < ((listed.setIfInBounds i true).setIfInBounds f true).size := by omega
          have hr : Region.ready md ops (((listed.setIfInBounds i true).setIfInBounds f true).setIfInBounds (i + 1) true) = [] := by
            apply List.eq_nil_iff_forall_not_mem.2
            intro j hj
            obtain ⟨g0, oj, hoj, _⟩ := (ready_iff (by simpa using hs)).1 hj
            have hjl : j < ops.size := (Array.getElem?_eq_some_iff.1 hoj).1
            rw [getD_set hlo] at g0
            by_cases e : j = i + 1
            · rw [if_pos e] at g0; cases g0
            · rw [if_neg e, st j (by omega)] at g0; cases g0
          cases fu with
          | zero => exact ⟨hr, h3⟩
          | succ f3 => exact ⟨fun _ => h3, fun j hj => by (rw [hr] at hj; cases hj)⟩
end
end Go.Proofs.Ytgfnfjkajahoaaa
