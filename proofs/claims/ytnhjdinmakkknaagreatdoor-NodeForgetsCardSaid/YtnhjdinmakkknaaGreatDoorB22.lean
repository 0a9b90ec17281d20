/- Words of my own: a region by facts (W11) whose last operations come one behind the other: the first of them waits for all ahead of it (at N + 1 steps at most), each other one for the one ahead of it. -/
import Derived.Test.YtnhjdinmakkknaaGreatDoorB12
import Derived.Test.YtnhjdinmakkknaaGreatDoorP24
namespace Go.Proofs.YtnhjdinmakkknaaGreatDoor
open Go
section
variable {P : Program} {md : Region.Mode} {ops : Array Oper} {Q : Exit → Act → World → Prop} {V : Nat → Value → World → Prop} {R : World → World → Prop} {a0 : Act} {w0 : World}
theorem wpAny_chain (hB : regionB md ops a0.tmps.size = true) : ∀ (l : List Oper) (k : Nat), ops.toList.drop k = l →
    (∀ i, k < i → ∀ o, ops[i]? = some o → ∃ e ∈ o.after, Region.binds md e = true ∧ e.on + 1 = i) →
    ∀ (fuel : Nat) (listed : Array Bool) (a : Act) (w : World), listed.size = ops.size → (∀ j, j < k → j < ops.size → listed.getD j false = true) → (∀ j, k ≤ j → listed.getD j false = false) → l.length ≤ fuel → TailFrom P ops Q k l a w → wpAny P md ops Q fuel listed a w := by
  intro l
  induction l with
  | nil =>
    intro k hd hw fuel listed a w hs h1 h2 hf hT
    have hk : ops.size ≤ k := by simpa using hd
    have hr : Region.ready md ops listed = [] := by
      apply List.eq_nil_iff_forall_not_mem.2
      intro j hj
      obtain ⟨g0, oj, hoj, _⟩ := mem_ready.1 hj
      have hjl : j < ops.size := (Array.getElem?_eq_some_iff.1 hoj).1
      have := h1 j (by omega) hjl
      have hjs : j < listed.size := by omega
      simp [Array.getD, hjs] at this g0
      rw [this] at g0
      cases g0
    cases fuel with
    | zero => exact ⟨hr, hT⟩
    | succ f => exact ⟨fun _ => hT, fun j hj => by rw [hr] at hj; cases hj⟩
  | cons o l ih =>
    intro k hd hw fuel listed a w hs h1 h2 hf hT
    have hk : k < ops.size := by
      rcases Nat.lt_or_ge k ops.size with g | g
      · exact g
      · have : ops.toList.drop k = [] := by simpa using g
        rw [this] at hd
        cases hd
    have hok : ops[k]? = some ops[k] := Array.getElem?_eq_getElem hk
    cases fuel with
    | zero => simp at hf
    | succ f =>
      refine ⟨fun hr => ?_, fun i hi => ?_⟩
      · exfalso
        have hm : k ∈ Region.ready md ops listed := by
          refine mem_ready.2 ⟨?_, ops[k], hok, fun e he hb => ?_⟩
          · have := h2 k (Nat.le_refl _)
            have hks : k < listed.size := by omega
            simp [Array.getD, hks] at this ⊢
            exact this
          · have hlt := regionB_after hB hok e he hb
            exact h1 _ hlt (by omega)
        rw [hr] at hm
        cases hm
      · obtain ⟨g0, oi, hoi, hall⟩ := mem_ready.1 hi
        have hil : i < ops.size := (Array.getElem?_eq_some_iff.1 hoi).1
        have hge : k ≤ i := by
          rcases Nat.lt_or_ge i k with g | g
          · exfalso
            have := h1 i g hil
            have his : i < listed.size := by omega
            simp [Array.getD, his] at this g0
            rw [this] at g0
            cases g0
          · exact g
        have hik : i = k := by
          rcases Nat.lt_or_ge k i with g | g
          · exfalso
            obtain ⟨e, he, hb, hon⟩ := hw i g oi hoi
            have := hall e he hb
            rw [h2 e.on (by omega)] at this
            cases this
          · omega
        subst hik
        refine wpOp_mono (fun a' w' h' => ?_) hT
        refine ih (i + 1) ?_ (fun j hj o ho => hw j (by omega) o ho) f _ a' w' (by simpa using hs) (fun j hj hjl => ?_) (fun j hj => ?_) (by simpa using hf) h'
        · rw [← List.drop_drop, hd]
          rfl
        · by_cases e : j = i
          · subst e
            have hjs : j < listed.size := by omega
            simp [Array.getD_eq_getD_getElem?, hjs]
          · have := h1 j (by omega) hjl
            simpa [Array.getD_eq_getD_getElem?, Array.getElem?_setIfInBounds, Ne.symm e] using this
        · have e : j ≠ i := by omega
          have := h2 j (by omega)
          simpa [Array.getD_eq_getD_getElem?, Array.getElem?_setIfInBounds, Ne.symm e] using this
theorem wpAny_facts_chain {m : Nat} (hm : m ≤ ops.size) (N : Nat) (hw0 : ∀ j, j < m → waitsN md ops N m j = true) (hw : ∀ i, m < i → ∀ o, ops[i]? = some o → ∃ e ∈ o.after, Region.binds md e = true ∧ e.on + 1 = i) (hB : regionB md ops a0.tmps.size = true) (hV : ∀ i v w w', V i v w → R w w' → V i v w') (hT : ∀ a b c, R a b → R b c → R a c)
    (step : ∀ (i : Nat) (o : Oper) (a : Act) (w : World), i < m → ops[i]? = some o → RF ops V a0 (fun j => ∃ e ∈ o.after, Region.binds md e = true ∧ e.on = j) a w → R w0 w → wpOp P ops Q i (fun a' w' => ∃ v, a' = a.put o.dst v ∧ V i v w' ∧ R w w') a w)
    (tail : ∀ a w, RF ops V a0 (fun j => j < m) a w → OldM ops m a0 a → R w0 w → TailFrom P ops Q m (ops.toList.drop m) a w) :
    ∀ (fuel : Nat) (listed : Array Bool) (a : Act) (w : World), listed.size = ops.size → (List.range ops.size).countP (fun j => !listed.getD j false) ≤ fuel → (∀ j, m ≤ j → listed.getD j false = false) →
      (∀ k o, ops[k]? = some o → listed.getD k false = true → ∀ e ∈ o.after, Region.binds md e = true → listed.getD e.on false = true) →
      RF ops V a0 (fun j => listed.getD j false = true) a w → OldM ops m a0 a → R w0 w → wpAny P md ops Q fuel listed a w := by
  intro fuel
  have full : ∀ (fuel : Nat) (listed : Array Bool) (a : Act) (w : World), listed.size = ops.size → (List.range ops.size).countP (fun j => !listed.getD j false) ≤ fuel → (∀ j, m ≤ j → listed.getD j false = false) →
      RF ops V a0 (fun j => listed.getD j false = true) a w → OldM ops m a0 a → R w0 w → (∀ j, j < m → listed.getD j false = true) → wpAny P md ops Q fuel listed a w := by
    intro fuel listed a w hs hc hun hF hO hR hall
    refine wpAny_chain hB _ m rfl hw fuel listed a w hs (fun j hj _ => hall j hj) hun ?_ (tail a w (hF.mono fun j hj => hall j hj) hO hR)
    have h1 : (ops.toList.drop m).length = ops.size - m := by simp
    have h2 : ops.size - m ≤ (List.range ops.size).countP (fun j => !listed.getD j false) := by
      have e : List.range ops.size = List.range m ++ (List.range (ops.size - m)).map (m + ·) := by
        rw [← List.range_add]; congr 1; omega
      rw [e, List.countP_append]
      have : ((List.range (ops.size - m)).map (m + ·)).countP (fun j => !listed.getD j false) = ops.size - m := by
        have hh : ∀ x ∈ (List.range (ops.size - m)).map (m + ·), (fun j => !listed.getD j false) x = true := by
          intro x hx
          obtain ⟨y, _, rfl⟩ := List.mem_map.1 hx
          simp only [hun (m + y) (by omega), Bool.not_false]
        rw [List.countP_eq_length.2 hh]
        simp
      omega
    omega
  induction fuel with
  | zero =>
    intro listed a w hs hc hun hcl0 hF hO hR
    refine full 0 listed a w hs hc hun hF hO hR fun j hj => ?_
    have hz : (List.range ops.size).countP (fun j => !listed.getD j false) = 0 := by omega
    have := List.countP_eq_zero.1 hz j (List.mem_range.2 (by omega))
    simpa using this
  | succ fuel ih =>
    intro listed a w hs hc hun hcl0 hF hO hR
    by_cases hall : ∀ j, j < m → listed.getD j false = true
    · exact full (fuel + 1) listed a w hs hc hun hF hO hR hall
    refine ⟨fun hr => ?_, fun i hi => ?_⟩
    · exact absurd (fun j hj => ready_some hB hs hr j (by omega)) hall
    obtain ⟨h0, o, ho, hrd⟩ := mem_ready.1 hi
    have hlt : i < ops.size := (Array.getElem?_eq_some_iff.1 ho).1
    have hls : i < listed.size := by omega
    have huni : listed.getD i false = false := by simp [Array.getD, hls] at h0 ⊢; exact h0
    have hcl := count_less (listed := listed) (i := i) (n := ops.size) hls huni hlt
    have him : i < m := by
      rcases Nat.lt_or_ge i m with g | g
      · exact g
      · exfalso
        rcases Nat.eq_or_lt_of_le g with g | g
        · subst g
          refine hall fun j hj => ?_
          exact waitsN_listed hcl0 N m j o ho hrd (hw0 j hj)
        · obtain ⟨e, he, hb, hon⟩ := hw i g o ho
          have := hrd e he hb
          rw [hun e.on (by omega)] at this
          cases this
    have hst := step i o a w him ho (hF.mono (by rintro j ⟨e, he, hb, rfl⟩; exact hrd e he hb)) hR
    refine wpOp_mono (fun a' w' h' => ?_) hst
    obtain ⟨v, rfl, hv, hR'⟩ := h'
    refine ih (listed.setIfInBounds i true) _ w' (by simpa using hs) (by omega) (fun j hj => ?_) (fun k ok hok hk e he hb => ?_) ((hF.step hB hV ho hv hR').mono ?_) (fun k hk => by rw [put_other (hk i o him ho)]; exact hO k hk) (hT _ _ _ hR hR')
    · have e : j ≠ i := by omega
      simpa [Array.getD_eq_getD_getElem?, Array.getElem?_setIfInBounds, Ne.symm e] using hun j hj
    · have hset : ∀ j, (listed.setIfInBounds i true).getD j false = true ↔ listed.getD j false = true ∨ j = i := fun j => by
        by_cases e : j = i
        · subst e
          simp [Array.getD_eq_getD_getElem?, hls]
        · simp [Array.getD_eq_getD_getElem?, Ne.symm e, e]
      refine (hset _).2 (.inl ?_)
      rcases (hset k).1 hk with g | rfl
      · exact hcl0 k ok hok g e he hb
      · rw [ho] at hok
        cases hok
        exact hrd e he hb
    · intro j hj
      by_cases e : j = i
      · exact .inr e
      · left
        simpa [Array.getD_eq_getD_getElem?, Array.getElem?_setIfInBounds, Ne.symm e] using hj
/-- **A region that draws its order, by facts; its last operations, of which the first waits for all ahead of it, and each of the others for the one ahead of it, are run one behind the other on the whole frame.** -/
theorem wp_region_facts_chain {id : Nat} {a : Act} {w : World} (hm : P.follows .mixedOrders = true) (N n : Nat) (hn : a.tmps.size = n) (V : Nat → Value → World → Prop) (R : World → World → Prop) (ini : Array Oper) (m : Nat) (hini : ops.extract 0 m = ini) (hmi : ini.size = m) (hsz : m ≤ ops.size)
    (hre0 : ((List.range m).all fun j => waitsN .any ops N m j) = true) (hre : ((List.range ops.size).all fun i => decide (i ≤ m) || (ops[i]?.map fun o => o.after.any fun e => Region.binds .any e && e.on + 1 == i).getD true) = true) (hB : regionB .any ops n = true) (hBi : regionB .any ini n = true)
    (hV : ∀ i v w w', V i v w → R w w' → V i v w') (hT : ∀ a b c, R a b → R b c → R a c) (h0 : R w.drew w.drew) (ds : List (Option Tmp)) (hds : dsts ini = ds) (tl : List Oper) (htl : ops.toList.drop m = tl)
    (steps : StepsFrom P ops Q V R a w.drew 0 ini.toList)
    (last : ∀ (vs : Nat → Value) (w' : World), (∀ i, i < m → V i (vs i) w') → R w.drew w' → TailFrom P ops Q m tl (putFrom vs 0 ds a) w') : (Code.region id ops true).wp P Q a w := by
  subst hn hds htl
  refine wp_region_any hm ?_
  have hex : ∀ i o, i < m → ops[i]? = some o → ini[i]? = some o := fun i o hi ho => by
    rw [← hini, Array.getElem?_extract]
    simp only [Nat.zero_add]
    rw [if_pos (by omega)]
    exact ho
  have hex' : ∀ i o, ini[i]? = some o → ops[i]? = some o ∧ i < m := fun i o ho => by
    have hi : i < ini.size := (Array.getElem?_eq_some_iff.1 ho).1
    rw [hmi] at hi
    rw [← hini, Array.getElem?_extract] at ho
    simp only [Nat.zero_add] at ho
    rw [if_pos (by omega)] at ho
    exact ⟨ho, hi⟩
  have hw : ∀ i, m < i → ∀ o, ops[i]? = some o → ∃ e ∈ o.after, Region.binds .any e = true ∧ e.on + 1 = i := fun i hi o ho => by
    have hil : i < ops.size := (Array.getElem?_eq_some_iff.1 ho).1
    have h1 := List.all_eq_true.1 hre i (List.mem_range.2 hil)
    rw [ho] at h1
    simp only [Option.map_some, Option.getD_some, Bool.or_eq_true, decide_eq_true_eq] at h1
    rcases h1 with h1 | h1
    · omega
    · obtain ⟨e, he, hb⟩ := Array.any_eq_true'.1 h1
      simp only [Bool.and_eq_true, beq_iff_eq] at hb
      exact ⟨e, he, hb.1, hb.2⟩
  refine wpAny_facts_chain (a0 := a) (w0 := w.drew) (m := m) hsz N (fun j hj => List.all_eq_true.1 hre0 j (List.mem_range.2 hj)) hw hB hV hT (fun i o a' w' hi ho hF hR => ?_) (fun a' w' hF hO hR => ?_) _ _ _ _ (by simp) ?_ (fun j _ => ?_) (fun k o _ hk => ?_) ⟨fun j o hj _ => ?_, fun _ _ => rfl, rfl, rfl⟩ (fun _ _ => rfl) h0
  · have := StepsFrom.at_ ini.toList 0 i o steps (by rw [Array.getElem?_toList]; exact hex i o hi ho) a' w' hF hR
    rw [Nat.zero_add] at this
    exact this
  · have hF' : RF ini V a (fun j => j < ini.size) a' w' := by
      refine ⟨fun j o hj hoj => hF.at_ j o (by omega) (hex' j o hoj).1, fun k hk => hO k fun j o hj hoj => hk j o (hex j o hj hoj), hF.size, hF.defers⟩
    obtain ⟨vs, hvs, rfl⟩ := hF'.frame hBi
    exact last vs w' (fun i hi => hvs i (by omega)) hR
  · have := List.countP_le_length (p := fun j => !(Array.replicate ops.size false).getD j false) (l := List.range ops.size)
    simpa using this
  · rw [Array.getD_eq_getD_getElem?, Array.getElem?_replicate]
    split <;> rfl
  · rw [Array.getD_eq_getD_getElem?, Array.getElem?_replicate] at hk
    split at hk <;> cases hk
  · rw [Array.getD_eq_getD_getElem?, Array.getElem?_replicate] at hj
    split at hj <;> cases hj
end
end Go.Proofs.YtnhjdinmakkknaaGreatDoor
