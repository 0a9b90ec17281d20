import Derived.Test.YtnhjdinmakkknaaGreatDoorP33
namespace Go.Proofs.YtnhjdinmakkknaaGreatDoor
open Go
section
variable {P : Program} {md : Region.Mode} {ops : Array Oper} {Q : Exit → Act → World → Prop} {V : Nat → Value → World → Prop} {I : Act → World → Prop} {R : World → World → Prop} {a0 : Act} {w0 : World}
/-- As StepsFrom; what none of the first m operations writes is as it was. -/
def StepsFromI (P : Program) (ops : Array Oper) (Q : Exit → Act → World → Prop) (V : Nat → Value → World → Prop) (I : Act → World → Prop) (R : World → World → Prop) (a : Act) (m : Nat) (w : World) : Nat → List Oper → Prop
  | _, [] => True
  | k, o :: l => (∀ (a' : Act) (w' : World), RF ops V a (fun j => ∃ e ∈ o.after, Region.binds .any e = true ∧ e.on = j) a' w' → OldM ops m a a' → (∀ d, o.dst = some d → a'.tmps[d]? = a.tmps[d]?) → I a' w' → R w w' → wpOp P ops Q k (fun a'' w'' => ∃ v, a'' = a'.put o.dst v ∧ V k v w'' ∧ R w' w'' ∧ I a'' w'') a' w') ∧ StepsFromI P ops Q V I R a m w (k + 1) l
theorem StepsFromI.at_ {a : Act} {m : Nat} {w : World} : ∀ (l : List Oper) (k i : Nat) (o : Oper), StepsFromI P ops Q V I R a m w k l → l[i]? = some o →
    ∀ (a' : Act) (w' : World), RF ops V a (fun j => ∃ e ∈ o.after, Region.binds .any e = true ∧ e.on = j) a' w' → OldM ops m a a' → (∀ d, o.dst = some d → a'.tmps[d]? = a.tmps[d]?) → I a' w' → R w w' → wpOp P ops Q (k + i) (fun a'' w'' => ∃ v, a'' = a'.put o.dst v ∧ V (k + i) v w'' ∧ R w' w'' ∧ I a'' w'') a' w'
  | [], _, _, _, _, hi => by simp at hi
  | o' :: l, k, 0, o, h, hi => by
    simp only [List.getElem?_cons_zero, Option.some.injEq] at hi
    subst hi
    exact h.1
  | o' :: l, k, i + 1, o, h, hi => by
    rw [List.getElem?_cons_succ] at hi
    have := StepsFromI.at_ l (k + 1) i o h.2 hi
    rw [show k + 1 + i = k + (i + 1) by omega] at this
    exact this
/-- An operation that runs to its end; a call. -/
theorem wpOp_runI {i : Nat} {o : Oper} {a : Act} {w w' : World} {v : Value} (ho : ops[i]? = some o) (hg : o.guard = none) (hr : (execOp a.eval o).run P w = .ok (.value v) w') (hv : V i v w') (hR : R w w') (hI : I (a.put o.dst v) w') :
    wpOp P ops Q i (fun a'' w'' => ∃ v, a'' = a.put o.dst v ∧ V i v w'' ∧ R w w'' ∧ I a'' w'') a w := wpOp_leaves ho hg hr ⟨v, rfl, hv, hR, hI⟩
theorem wpOp_callI {i : Nat} {o : Oper} {a : Act} {w : World} {f : FuncId} {args : Array Value} (ho : ops[i]? = some o) (hg : o.guard = none) (hr : (execOp a.eval o).run P w = .ok (.enter f args) w)
    (hc : Calls P f args w fun e w' => ∃ v, e = .returned v ∧ V i v w' ∧ R w w' ∧ I (a.put o.dst v) w') :
    wpOp P ops Q i (fun a'' w'' => ∃ v, a'' = a.put o.dst v ∧ V i v w'' ∧ R w w'' ∧ I a'' w'') a w :=
  wpOp_enters ho hg hr (hc.mono fun _ _ ⟨v, h1, h2, h3, h4⟩ => ⟨v, h1, v, rfl, h2, h3, h4⟩)
theorem wpAny_facts_chainI {m : Nat} (hm : m ≤ ops.size) (N : Nat) (hw0 : ∀ j, j < m → waitsN md ops N m j = true) (hw : ∀ i, m < i → ∀ o, ops[i]? = some o → ∃ e ∈ o.after, Region.binds md e = true ∧ e.on + 1 = i) (hB : regionB md ops a0.tmps.size = true) (hV : ∀ i v w w', V i v w → R w w' → V i v w') (hT : ∀ a b c, R a b → R b c → R a c)
    (step : ∀ (i : Nat) (o : Oper) (a : Act) (w : World), i < m → ops[i]? = some o → RF ops V a0 (fun j => ∃ e ∈ o.after, Region.binds md e = true ∧ e.on = j) a w → OldM ops m a0 a → (∀ d, o.dst = some d → a.tmps[d]? = a0.tmps[d]?) → I a w → R w0 w → wpOp P ops Q i (fun a' w' => ∃ v, a' = a.put o.dst v ∧ V i v w' ∧ R w w' ∧ I a' w') a w)
    (tail : ∀ a w, RF ops V a0 (fun j => j < m) a w → OldM ops m a0 a → I a w → R w0 w → TailFrom P ops Q m (ops.toList.drop m) a w) :
    ∀ (fuel : Nat) (listed : Array Bool) (a : Act) (w : World), listed.size = ops.size → (List.range ops.size).countP (fun j => !listed.getD j false) ≤ fuel → (∀ j, m ≤ j → listed.getD j false = false) →
      (∀ k o, ops[k]? = some o → listed.getD k false = true → ∀ e ∈ o.after, Region.binds md e = true → listed.getD e.on false = true) →
      RF ops V a0 (fun j => listed.getD j false = true) a w → OldM ops m a0 a → (∀ (j : Nat) (o : Oper), ops[j]? = some o → listed.getD j false = false → ∀ d, o.dst = some d → a.tmps[d]? = a0.tmps[d]?) → I a w → R w0 w → wpAny P md ops Q fuel listed a w := by
  intro fuel
  have full : ∀ (fuel : Nat) (listed : Array Bool) (a : Act) (w : World), listed.size = ops.size → (List.range ops.size).countP (fun j => !listed.getD j false) ≤ fuel → (∀ j, m ≤ j → listed.getD j false = false) →
      RF ops V a0 (fun j => listed.getD j false = true) a w → OldM ops m a0 a → I a w → R w0 w → (∀ j, j < m → listed.getD j false = true) → wpAny P md ops Q fuel listed a w := by
    intro fuel listed a w hs hc hun hF hO hIn hR hall
    refine wpAny_chain hB _ m rfl hw fuel listed a w hs (fun j hj _ => hall j hj) hun ?_ (tail a w (hF.mono fun j hj => hall j hj) hO hIn hR)
    have h1 : (ops.toList.drop m).length = ops.size - m := by simp
    have h2 : ops.size - m ≤ (List.range ops.size).countP (fun j => !listed.getD j false) := by
      have e : List.range ops.size = List.range m ++ (List.range (ops.size - m)).map (m + ·) := by
        rw [← List.range_add]; congr 1; omega
      rw [e, List.countP_append]
      have : ((List.range (ops.size - m)).map (m + ·)).countP (fun j => !listed.getD j false) = ops.size - m := by
        have hh : ∀ x ∈ (List.range (ops.size - m)).map (m + ·), (fun j => !listed.getD j false) x = true := by
          intro x hx
          obtain ⟨y, _, rfl⟩ := List.mem_map.1 hx
          simp only [hun (m + y) (by omega), Bool.not_false]
        rw [List.countP_eq_length.2 hh]
        simp
      omega
    omega
  induction fuel with
  | zero =>
    intro listed a w hs hc hun hcl0 hF hO hU hIn hR
    refine full 0 listed a w hs hc hun hF hO hIn hR fun j hj => ?_
    have hz : (List.range ops.size).countP (fun j => !listed.getD j false) = 0 := by omega
    have := List.countP_eq_zero.1 hz j (List.mem_range.2 (by omega))
    simpa using this
  | succ fuel ih =>
    intro listed a w hs hc hun hcl0 hF hO hU hIn hR
    by_cases hall : ∀ j, j < m → listed.getD j false = true
    · exact full (fuel + 1) listed a w hs hc hun hF hO hIn hR hall
    refine ⟨fun hr => ?_, fun i hi => ?_⟩
    · exact absurd (fun j hj => ready_some hB hs hr j (by omega)) hall
    obtain ⟨h0, o, ho, hrd⟩ := mem_ready.1 hi
    have hlt : i < ops.size := (Array.getElem?_eq_some_iff.1 ho).1
    have hls : i < listed.size := by omega
    have huni : listed.getD i false = false := by simp [Array.getD, hls] at h0 ⊢; exact h0
    have hcl := count_less (listed := listed) (i := i) (n := ops.size) hls huni hlt
    have him : i < m := by
      rcases Nat.lt_or_ge i m with g | g
      · exact g
      · exfalso
        rcases Nat.eq_or_lt_of_le g with g | g
        · subst g
          refine hall fun j hj => ?_
          exact waitsN_listed hcl0 N m j o ho hrd (hw0 j hj)
        · obtain ⟨e, he, hb, hon⟩ := hw i g o ho
          have := hrd e he hb
          rw [hun e.on (by omega)] at this
          cases this
    have hst := step i o a w him ho (hF.mono (by rintro j ⟨e, he, hb, rfl⟩; exact hrd e he hb)) hO (hU i o ho huni) hIn hR
    refine wpOp_mono (fun a' w' h' => ?_) hst
    obtain ⟨v, rfl, hv, hR', hI'⟩ := h'
    refine ih (listed.setIfInBounds i true) _ w' (by simpa using hs) (by omega) (fun j hj => ?_) (fun k ok hok hk e he hb => ?_) ((hF.step hB hV ho hv hR').mono ?_) (fun k hk => by rw [put_other (hk i o him ho)]; exact hO k hk) (fun j oj hoj hlj d hd => ?_) hI' (hT _ _ _ hR hR')
    · have e : j ≠ i := by omega
      simpa [Array.getD_eq_getD_getElem?, Array.getElem?_setIfInBounds, Ne.symm e] using hun j hj
    · have hset : ∀ j, (listed.setIfInBounds i true).getD j false = true ↔ listed.getD j false = true ∨ j = i := fun j => by
        by_cases e : j = i
        · subst e
          simp [Array.getD_eq_getD_getElem?, hls]
        · simp [Array.getD_eq_getD_getElem?, Ne.symm e, e]
      refine (hset _).2 (.inl ?_)
      rcases (hset k).1 hk with g | rfl
      · exact hcl0 k ok hok g e he hb
      · rw [ho] at hok
        cases hok
        exact hrd e he hb
    · intro j hj
      by_cases e : j = i
      · exact .inr e
      · left
        simpa [Array.getD_eq_getD_getElem?, Array.getElem?_setIfInBounds, Ne.symm e] using hj
    · have hji : j ≠ i := by
        rintro rfl
        simp [Array.getD_eq_getD_getElem?, hls] at hlj
      have hlj' : listed.getD j false = false := by
        simpa [Array.getD_eq_getD_getElem?, Array.getElem?_setIfInBounds, Ne.symm hji] using hlj
      have hdd : o.dst ≠ some d := fun h => hji ((regionB_dst hB ho h).2 j oj hoj hd)
      rw [put_other hdd]
      exact hU j oj hoj hlj' d hd
/-- **A region that draws its order, by facts; its last operations, of which the first waits for all ahead of it, and each of the others for the one ahead of it, are run one behind the other on the whole frame. An operation may read a slot that one of the last ones writes.** -/
theorem wp_region_facts_chainI {id : Nat} {a : Act} {w : World} (hm : P.follows .mixedOrders = true) (N n : Nat) (hn : a.tmps.size = n) (V : Nat → Value → World → Prop) (I : Act → World → Prop) (R : World → World → Prop) (ini : Array Oper) (m : Nat) (hini : ops.extract 0 m = ini) (hmi : ini.size = m) (hsz : m ≤ ops.size)
    (hre0 : ((List.range m).all fun j => waitsN .any ops N m j) = true) (hre : ((List.range ops.size).all fun i => decide (i ≤ m) || (ops[i]?.map fun o => o.after.any fun e => Region.binds .any e && e.on + 1 == i).getD true) = true) (hB : regionB .any ops n = true) (hBi : regionB .any ini n = true)
    (hV : ∀ i v w w', V i v w → R w w' → V i v w') (hT : ∀ a b c, R a b → R b c → R a c) (h0 : R w.drew w.drew) (ds : List (Option Tmp)) (hds : dsts ini = ds) (tl : List Oper) (htl : ops.toList.drop m = tl)
    (hI0 : I a w.drew) (steps : StepsFromI P ops Q V I R a m w.drew 0 ini.toList)
    (last : ∀ (vs : Nat → Value) (w' : World), (∀ i, i < m → V i (vs i) w') → I (putFrom vs 0 ds a) w' → R w.drew w' → TailFrom P ops Q m tl (putFrom vs 0 ds a) w') : (Code.region id ops true).wp P Q a w := by
  subst hn hds htl
  refine wp_region_any hm ?_
  have hex : ∀ i o, i < m → ops[i]? = some o → ini[i]? = some o := fun i o hi ho => by
    rw [← hini, Array.getElem?_extract]
    simp only [Nat.zero_add]
    rw [if_pos (by omega)]
    exact ho
  have hex' : ∀ i o, ini[i]? = some o → ops[i]? = some o ∧ i < m := fun i o ho => by
    have hi : i < ini.size := (Array.getElem?_eq_some_iff.1 ho).1
    rw [hmi] at hi
    rw [← hini, Array.getElem?_extract] at ho
    simp only [Nat.zero_add] at ho
    rw [if_pos (by omega)] at ho
    exact ⟨ho, hi⟩
  have hw : ∀ i, m < i → ∀ o, ops[i]? = some o → ∃ e ∈ o.after, Region.binds .any e = true ∧ e.on + 1 = i := fun i hi o ho => by
    have hil : i < ops.size := (Array.getElem?_eq_some_iff.1 ho).1
    have h1 := List.all_eq_true.1 hre i (List.mem_range.2 hil)
    rw [ho] at h1
    simp only [Option.map_some, Option.getD_some, Bool.or_eq_true, decide_eq_true_eq] at h1
    rcases h1 with h1 | h1
    · omega
    · obtain ⟨e, he, hb⟩ := Array.any_eq_true'.1 h1
      simp only [Bool.and_eq_true, beq_iff_eq] at hb
      exact ⟨e, he, hb.1, hb.2⟩
  refine wpAny_facts_chainI (a0 := a) (w0 := w.drew) (m := m) hsz N (fun j hj => List.all_eq_true.1 hre0 j (List.mem_range.2 hj)) hw hB hV hT (fun i o a' w' hi ho hF hO hU hIn hR => ?_) (fun a' w' hF hO hIn hR => ?_) _ _ _ _ (by simp) ?_ (fun j _ => ?_) (fun k o _ hk => ?_) ⟨fun j o hj _ => ?_, fun _ _ => rfl, rfl, rfl⟩ (fun _ _ => rfl) (fun _ _ _ _ _ _ => rfl) hI0 h0
  · have := StepsFromI.at_ ini.toList 0 i o steps (by rw [Array.getElem?_toList]; exact hex i o hi ho) a' w' hF hO hU hIn hR
    rw [Nat.zero_add] at this
    exact this
  · have hF' : RF ini V a (fun j => j < ini.size) a' w' := by
      refine ⟨fun j o hj hoj => hF.at_ j o (by omega) (hex' j o hoj).1, fun k hk => hO k fun j o hj hoj => hk j o (hex j o hj hoj), hF.size, hF.defers⟩
    obtain ⟨vs, hvs, rfl⟩ := hF'.frame hBi
    exact last vs w' (fun i hi => hvs i (by omega)) hIn hR
  · have := List.countP_le_length (p := fun j => !(Array.replicate ops.size false).getD j false) (l := List.range ops.size)
    simpa using this
  · rw [Array.getD_eq_getD_getElem?, Array.getElem?_replicate]
    split <;> rfl
  · rw [Array.getD_eq_getD_getElem?, Array.getElem?_replicate] at hk
    split at hk <;> cases hk
  · rw [Array.getD_eq_getD_getElem?, Array.getElem?_replicate] at hj
    split at hj <;> cases hj
end
end Go.Proofs.YtnhjdinmakkknaaGreatDoor
