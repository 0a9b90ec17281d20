/- Words of my own: a region by facts of which some are used up: a fact holds till the operation that uses it (an append to a row that was appended to, W29). -/
import Derived.Test.YtfhagccelkjflaaW29
namespace Go.Proofs.Ytfhagccelkjflaa
open Go
section
variable {P : Program} {md : Region.Mode} {ops : Array Oper} {Q : Exit → Act → World → Prop} {V V' : Nat → Value → World → Prop} {R : World → World → Prop} {a0 : Act} {w0 : World}
theorem RF.step2 {D : Nat → Prop} {a : Act} {w w' : World} {i : Nat} {o : Oper} {v : Value} (hB : regionB md ops a0.tmps.size = true) (h : RF ops V a0 D a w) (hi : ops[i]? = some o) (hk : ∀ j u, D j → j ≠ i → V j u w → V' j u w') (hv : V' i v w') :
    RF ops V' a0 (fun j => D j ∨ j = i) (a.put o.dst v) w' := by
  have hput : ∀ k, o.dst ≠ some k → (a.put o.dst v).tmps[k]? = a.tmps[k]? := fun k hk => put_other hk
  refine ⟨fun j oj hj hoj => ?_, fun k hk => ?_, ?_, ?_⟩
  · by_cases e : j = i
    · subst e
      rw [hi] at hoj
      cases hoj
      refine ⟨v, hv, fun d hd => ?_⟩
      have hlt := (regionB_dst hB hi hd).1
      rw [hd]
      exact put_same (by rw [h.size]; exact hlt)
    · have hj' : D j := by rcases hj with g | g; exact g; exact absurd g e
      obtain ⟨u, hu, hud⟩ := h.at_ j oj hj' hoj
      refine ⟨u, hk j u hj' e hu, fun d hd => ?_⟩
      rw [hput d (fun g => e ((regionB_dst hB hi g).2 j oj hoj hd)), hud d hd]
  · rw [hput k (hk i o hi)]
    exact h.old k hk
  · rw [← h.size]; exact put_size _ _ _
  · rw [← h.defers]; exact put_defers _ _ _
theorem getD_set_iff {listed : Array Bool} {i j : Nat} (hi : i < listed.size) : (listed.setIfInBounds i true).getD j false = true ↔ listed.getD j false = true ∨ j = i := by
  rw [getD_set hi]
  by_cases e : j = i
  · simp [e]
  · simp [e]
theorem wpAny_facts_uses {m f : Nat} (VD : (Nat → Prop) → Nat → Value → World → Prop) (RK : Nat → World → World → Prop) (hsz : ops.size = m + 2) (hfm : f < m) {om o1 : Oper} (hom : ops[m]? = some om) (ho1 : ops[m + 1]? = some o1)
    (hwm : ∀ j, j < m → j ≠ f → ∃ e ∈ om.after, Region.binds md e = true ∧ e.on = j) (hw1 : ∀ j, j < m + 1 → ∃ e ∈ o1.after, Region.binds md e = true ∧ e.on = j)
    (hB : regionB md ops a0.tmps.size = true) (hV : ∀ (D : Nat → Prop) i k v w w', D i → ¬ D k → VD D i v w → RK k w w' → VD (fun j => D j ∨ j = k) i v w') (hT : ∀ a b c k, R a b → RK k b c → R a c)
    (step : ∀ (D : Nat → Prop) (i : Nat) (o : Oper) (a : Act) (w : World), ¬ D i → (∀ j, D j → j < m) → i < m → ops[i]? = some o → RF ops (VD D) a0 (fun j => ∃ e ∈ o.after, Region.binds md e = true ∧ e.on = j) a w → R w0 w → wpOp P ops Q i (fun a' w' => ∃ v, a' = a.put o.dst v ∧ VD (fun j => D j ∨ j = i) i v w' ∧ RK i w w') a w)
    (tailA : ∀ D a w, (∀ j, D j ↔ j < m) → RF ops (VD D) a0 (fun j => j < m) a w → OldM ops m a0 a → R w0 w → wpOp P ops Q m (fun a' w' => wpOp P ops Q (m + 1) (fun a'' w'' => Q .normal a'' w'') a' w') a w)
    (tailB : ∀ D a w, (∀ j, D j ↔ (j < m ∧ j ≠ f)) → RF ops (VD D) a0 (fun j => j < m ∧ j ≠ f) a w → OldF ops m f a0 a → R w0 w → wpOp P ops Q m (fun a' w' => wpOp P ops Q f (fun a'' w'' => wpOp P ops Q (m + 1) (fun a3 w3 => Q .normal a3 w3) a'' w'') a' w') a w) :
    ∀ (fuel : Nat) (listed : Array Bool) (a : Act) (w : World), listed.size = ops.size → (List.range ops.size).countP (fun j => !listed.getD j false) ≤ fuel → (∀ j, m ≤ j → listed.getD j false = false) →
      RF ops (VD fun j => listed.getD j false = true) a0 (fun j => listed.getD j false = true) a w → OldM ops m a0 a → (listed.getD f false = false → OldF ops m f a0 a) → R w0 w → wpAny P md ops Q fuel listed a w := by
  have count2 : ∀ (listed : Array Bool), (∀ j, m ≤ j → listed.getD j false = false) → 2 ≤ (List.range ops.size).countP (fun j => !listed.getD j false) := by
    intro listed hun
    rw [hsz, List.range_succ, List.range_succ, List.countP_append, List.countP_append]
    have e1 : List.countP (fun j => !listed.getD j false) [m] = 1 := by rw [List.countP_singleton, hun m (Nat.le_refl _)]; rfl
    have e2 : List.countP (fun j => !listed.getD j false) [m + 1] = 1 := by rw [List.countP_singleton, hun (m + 1) (by omega)]; rfl
    omega
  intro fuel
  have full : ∀ (fuel : Nat) (listed : Array Bool) (a : Act) (w : World), listed.size = ops.size → (List.range ops.size).countP (fun j => !listed.getD j false) ≤ fuel → (∀ j, m ≤ j → listed.getD j false = false) →
      RF ops (VD fun j => listed.getD j false = true) a0 (fun j => listed.getD j false = true) a w → OldM ops m a0 a → R w0 w → (∀ j, j < m → listed.getD j false = true) → wpAny P md ops Q fuel listed a w := by
    intro fuel listed a w hs hc hun hF hO hR hall
    have hd : ops.toList.drop m = [om, o1] := by
      apply List.ext_getElem?
      intro j
      rw [List.getElem?_drop, Array.getElem?_toList]
      match j with
      | 0 => exact hom
      | 1 => exact ho1
      | j + 2 => rw [Array.getElem?_eq_none (by omega)]; rfl
    refine wpAny_tail hB [om, o1] m hd (fun i hi o ho j hj hji => ?_) fuel listed a w hs (fun j hj _ => hall j hj) hun ?_ (tailA _ a w (fun j => ⟨fun h => Nat.lt_of_not_le fun hj => by (rw [hun j hj] at h; cases h), fun h => hall j h⟩) (hF.mono fun j hj => hall j hj) hO hR)
    · have hil : i < ops.size := (Array.getElem?_eq_some_iff.1 ho).1
      obtain rfl : i = m + 1 := by omega
      rw [ho1] at ho
      cases ho
      exact hw1 j hji
    · have := count2 listed hun
      show 2 ≤ fuel
      omega
  induction fuel with
  | zero =>
    intro listed a w hs hc hun hF hO hO2 hR
    have := count2 listed hun
    omega
  | succ fuel ih =>
    intro listed a w hs hc hun hF hO hO2 hR
    by_cases hall : ∀ j, j < m → listed.getD j false = true
    · exact full (fuel + 1) listed a w hs hc hun hF hO hR hall
    refine ⟨fun hr => ?_, fun i hi => ?_⟩
    · exact absurd (fun j hj => ready_some hB hs hr j (by omega)) hall
    obtain ⟨huni, o, ho, hrd⟩ := (ready_iff hs).1 hi
    have hlt : i < ops.size := (Array.getElem?_eq_some_iff.1 ho).1
    have hls : i < listed.size := by omega
    have hcl := count_less (listed := listed) (i := i) (n := ops.size) hls huni hlt
    by_cases him : i < m
    · have hst := step (fun j => listed.getD j false = true) i o a w (by rw [huni]; decide) (fun j h => Nat.lt_of_not_le fun hj => by (rw [hun j hj] at h; cases h)) him ho (hF.mono (by rintro j ⟨e, he, hb, rfl⟩; exact hrd e he hb)) hR
      refine wpOp_mono (fun a' w' h' => ?_) hst
      obtain ⟨v, rfl, hv, hR'⟩ := h'
      have hDD : (fun j => (listed.setIfInBounds i true).getD j false = true) = (fun j => listed.getD j false = true ∨ j = i) := funext fun j => propext (getD_set_iff hls)
      refine ih (listed.setIfInBounds i true) _ w' (by simpa using hs) (by omega) (fun j hj => ?_) (by rw [hDD]; exact hF.step2 (V' := VD fun j => listed.getD j false = true ∨ j = i) hB ho (fun j u hj hji hu => hV _ j i u w w' hj (by rw [huni]; decide) hu hR') hv) (fun k hk => by rw [put_other (hk i o him ho)]; exact hO k hk) (fun hnf k hk => ?_) (hT _ _ _ _ hR hR')
      · rw [getD_set hls, if_neg (by omega)]
        exact hun j hj
      · rw [getD_set hls] at hnf
        have e : f ≠ i := by rintro rfl; simp at hnf
        rw [if_neg e] at hnf
        rw [put_other (hk i o him (Ne.symm e) ho)]
        exact hO2 hnf k hk
    · have him1 : i = m := by
        rcases Nat.lt_or_ge m i with g | g
        · exfalso
          obtain rfl : i = m + 1 := by omega
          rw [ho1] at ho
          cases ho
          obtain ⟨e, he, hb, hon⟩ := hw1 m (by omega)
          have := hrd e he hb
          rw [hon, hun m (Nat.le_refl _)] at this
          cases this
        · omega
      subst him1
      rw [hom] at ho
      cases ho
      have hoth : ∀ j, j < i → j ≠ f → listed.getD j false = true := fun j hj hjf => by
        obtain ⟨e, he, hb, rfl⟩ := hwm j hj hjf
        exact hrd e he hb
      have hnf : listed.getD f false = false := by
        cases hfl : listed.getD f false with
        | false => rfl
        | true =>
          exfalso
          refine hall fun j hj => ?_
          by_cases e : j = f
          · subst e; exact hfl
          · exact hoth j hj e
      have hc2 : 2 ≤ fuel := by
        have := count2 (listed.setIfInBounds f true) (fun j hj => by rw [getD_set (by omega), if_neg (by omega)]; exact hun j hj)
        have h3 := count_less (listed := listed) (i := f) (n := ops.size) (by omega) hnf (by omega)
        omega
      obtain ⟨fu, rfl⟩ : ∃ fu, fuel = fu + 2 := ⟨fuel - 2, by omega⟩
      refine wpOp_mono (fun a' w' h' => ?_) (tailB _ a w (fun j => ⟨fun h => ⟨Nat.lt_of_not_le fun hj => by (rw [hun j hj] at h; cases h), fun e => by (rw [e, hnf] at h; cases h)⟩, fun h => hoth j h.1 h.2⟩) (hF.mono fun j hj => hoth j hj.1 hj.2) (hO2 hnf) hR)
      have hs1 : (listed.setIfInBounds i true).size = ops.size := by simpa using hs
      have hff : ops[f]? = some ops[f] := Array.getElem?_eq_getElem (by omega)
      have r1 : f ∈ Region.ready md ops (listed.setIfInBounds i true) := by
        refine (ready_iff hs1).2 ⟨?_, ops[f], hff, fun e he hb => ?_⟩
        · rw [getD_set hls, if_neg (by omega)]
          exact hnf
        · have hlf := regionB_after hB hff e he hb
          rw [getD_set hls, if_neg (by omega)]
          exact hoth _ (by omega) (by omega)
      refine wpAny_only r1 (fun j hj => ?_) (wpOp_mono (fun a2 w2 h2 => ?_) h')
      · obtain ⟨g0, oj, hoj, hall'⟩ := (ready_iff hs1).1 hj
        have hjl : j < ops.size := (Array.getElem?_eq_some_iff.1 hoj).1
        rw [getD_set hls] at g0
        by_cases e : j = i
        · rw [if_pos e] at g0; cases g0
        · rw [if_neg e] at g0
          rcases Nat.lt_or_ge j i with g | g
          · rcases Nat.decEq j f with h | h
            · have := hoth j g h
              rw [this] at g0; cases g0
            · exact h
          · exfalso
            obtain rfl : j = i + 1 := by omega
            rw [ho1] at hoj
            cases hoj
            obtain ⟨e', he', hb', hon'⟩ := hw1 f (by omega)
            have := hall' e' he' hb'
            rw [hon', getD_set hls, if_neg (by omega), hnf] at this
            cases this
      · have hs2 : ((listed.setIfInBounds i true).setIfInBounds f true).size = ops.size := by simpa using hs
        have hlf : f < (listed.setIfInBounds i true).size := by omega
        have st : ∀ j, j < i + 1 → ((listed.setIfInBounds i true).setIfInBounds f true).getD j false = true := fun j hj => by
          rw [getD_set hlf]
          by_cases e : j = f
          · rw [if_pos e]
          · rw [if_neg e, getD_set hls]
            by_cases e2 : j = i
            · rw [if_pos e2]
            · rw [if_neg e2]
              exact hoth j (by omega) e
        have sn : ((listed.setIfInBounds i true).setIfInBounds f true).getD (i + 1) false = false := by
          rw [getD_set hlf, if_neg (by omega), getD_set hls, if_neg (by omega)]
          exact hun _ (by omega)
        have r2 : i + 1 ∈ Region.ready md ops ((listed.setIfInBounds i true).setIfInBounds f true) := by
          refine (ready_iff hs2).2 ⟨sn, o1, ho1, fun e he hb => ?_⟩
          have hlf2 := regionB_after hB ho1 e he hb
          exact st _ hlf2
        refine wpAny_only r2 (fun j hj => ?_) (wpOp_mono (fun a3 w3 h3 => ?_) h2)
        · obtain ⟨g0, oj, hoj, _⟩ := (ready_iff hs2).1 hj
          have hjl : j < ops.size := (Array.getElem?_eq_some_iff.1 hoj).1
          rcases Nat.lt_or_ge j (i + 1) with g | g
          · rw [st j g] at g0; cases g0
          · omega
        · have hlo : i + 1 < ((listed.setIfInBounds i true).setIfInBounds f true).size := by omega
          have hr : Region.ready md ops (((listed.setIfInBounds i true).setIfInBounds f true).setIfInBounds (i + 1) true) = [] := by
            apply List.eq_nil_iff_forall_not_mem.2
            intro j hj
            obtain ⟨g0, oj, hoj, _⟩ := (ready_iff (by simpa using hs)).1 hj
            have hjl : j < ops.size := (Array.getElem?_eq_some_iff.1 hoj).1
            rw [getD_set hlo] at g0
            by_cases e : j = i + 1
            · rw [if_pos e] at g0; cases g0
            · rw [if_neg e, st j (by omega)] at g0; cases g0
          cases fu with
          | zero => exact ⟨hr, h3⟩
          | succ f3 => exact ⟨fun _ => h3, fun j hj => by (rw [hr] at hj; cases hj)⟩
/-- The operations' facts, one behind the other; of what it waits for, an operation knows what none but it uses up. -/
def StepsUse (P : Program) (ops : Array Oper) (Q : Exit → Act → World → Prop) (V : Nat → Value → World → Prop) (c : Nat → Nat) (RK : Nat → World → World → Prop) (R : World → World → Prop) (m : Nat) (a : Act) (w : World) : Nat → List Oper → Prop
  | _, [] => True
  | k, o :: l => (∀ (a' : Act) (w' : World), RF ops (fun j v w => c j = k ∨ m ≤ c j → V j v w) a (fun j => ∃ e ∈ o.after, Region.binds .any e = true ∧ e.on = j) a' w' → R w w' → wpOp P ops Q k (fun a'' w'' => ∃ v, a'' = a'.put o.dst v ∧ V k v w'' ∧ RK k w' w'') a' w') ∧ StepsUse P ops Q V c RK R m a w (k + 1) l
theorem StepsUse.at_ {c : Nat → Nat} {RK : Nat → World → World → Prop} {m : Nat} {a : Act} {w : World} : ∀ (l : List Oper) (k i : Nat) (o : Oper), StepsUse P ops Q V c RK R m a w k l → l[i]? = some o →
    ∀ (a' : Act) (w' : World), RF ops (fun j v w => c j = k + i ∨ m ≤ c j → V j v w) a (fun j => ∃ e ∈ o.after, Region.binds .any e = true ∧ e.on = j) a' w' → R w w' → wpOp P ops Q (k + i) (fun a'' w'' => ∃ v, a'' = a'.put o.dst v ∧ V (k + i) v w'' ∧ RK (k + i) w' w'') a' w'
  | [], _, _, _, _, hi => by simp at hi
  | o' :: l, k, 0, o, h, hi => by
    simp only [List.getElem?_cons_zero, Option.some.injEq] at hi
    subst hi
    exact h.1
  | o' :: l, k, i + 1, o, h, hi => by
    rw [List.getElem?_cons_succ] at hi
    have := StepsUse.at_ l (k + 1) i o h.2 hi
    rw [show k + 1 + i = k + (i + 1) by omega] at this
    exact this
theorem RF.weak {D : Nat → Prop} {a : Act} {w : World} (h : RF ops V a0 D a w) (hk : ∀ j u, D j → V j u w → V' j u w) : RF ops V' a0 D a w :=
  ⟨fun j o hj hoj => (h.at_ j o hj hoj).imp fun u hu => ⟨hk j u hj hu.1, hu.2⟩, h.old, h.size, h.defers⟩
/-- **A region that draws its order, by facts of which some are used up, whose last two operations are a store and an assignment, ahead of whose store one operation (f) need not have come.** -/
theorem wp_region_facts_uses {id : Nat} {a : Act} {w : World} (hm : P.follows .mixedOrders = true) (n : Nat) (hn : a.tmps.size = n) (V : Nat → Value → World → Prop) (c : Nat → Nat) (RK : Nat → World → World → Prop) (R : World → World → Prop) (m f : Nat) (hsz : ops.size = m + 2) (hfm : f < m) (om o1 : Oper) (hom : ops[m]? = some om) (ho1 : ops[m + 1]? = some o1)
    (hre : ((List.range m).all (fun j => j == f || om.after.any fun e => Region.binds .any e && e.on == j) && (List.range (m + 1)).all fun j => o1.after.any fun e => Region.binds .any e && e.on == j) = true) (hB : regionB .any ops n = true)
    (ini inf : Array Oper) (hini : ops.extract 0 m = ini) (hmi : ini.size = m) (hinf : ini.modify f (fun o => { o with dst := none }) = inf) (hBi : regionB .any ini n = true) (hBf : regionB .any inf n = true)
    (hV : ∀ i k v w w', i ≠ k → c i ≠ k → V i v w → RK k w w' → V i v w') (hT : ∀ a b c k, R a b → RK k b c → R a c) (h0 : R w.drew w.drew) (ds dsf : List (Option Tmp)) (hds : dsts ini = ds) (hdsf : dsts inf = dsf)
    (steps : StepsUse P ops Q V c RK R m a w.drew 0 ini.toList)
    (lastA : ∀ (vs : Nat → Value) (w' : World), (∀ i, i < m → c i < m ∨ V i (vs i) w') → R w.drew w' → wpOp P ops Q m (fun a' w' => wpOp P ops Q (m + 1) (fun a'' w'' => Q .normal a'' w'') a' w') (putFrom vs 0 ds a) w')
    (lastB : ∀ (vs : Nat → Value) (w' : World), (∀ i, i < m → i ≠ f → c i < m ∨ V i (vs i) w') → R w.drew w' → wpOp P ops Q m (fun a' w' => wpOp P ops Q f (fun a'' w'' => wpOp P ops Q (m + 1) (fun a3 w3 => Q .normal a3 w3) a'' w'') a' w') (putFrom vs 0 dsf a) w') : (Code.region id ops true).wp P Q a w := by
  subst hn hds hdsf
  refine wp_region_any hm ?_
  have hex : ∀ i o, i < m → ops[i]? = some o → ini[i]? = some o := fun i o hi ho => by
    rw [← hini, Array.getElem?_extract]
    simp only [Nat.zero_add]
    rw [if_pos (by omega)]
    exact ho
  have hex' : ∀ i o, ini[i]? = some o → ops[i]? = some o ∧ i < m := fun i o ho => by
    have hi : i < ini.size := (Array.getElem?_eq_some_iff.1 ho).1
    rw [hmi] at hi
    rw [← hini, Array.getElem?_extract] at ho
    simp only [Nat.zero_add] at ho
    rw [if_pos (by omega)] at ho
    exact ⟨ho, hi⟩
  have hr1 : ∀ j, j < m → j ≠ f → ∃ e ∈ om.after, Region.binds .any e = true ∧ e.on = j := fun j hj hjf => by
    have h1 := List.all_eq_true.1 (Bool.and_eq_true_iff.1 hre).1 j (List.mem_range.2 hj)
    simp only [Bool.or_eq_true, beq_iff_eq] at h1
    rcases h1 with h1 | h1
    · exact absurd h1 hjf
    · obtain ⟨e, he, hb⟩ := Array.any_eq_true'.1 h1
      simp only [Bool.and_eq_true, beq_iff_eq] at hb
      exact ⟨e, he, hb.1, hb.2⟩
  have hr2 : ∀ j, j < m + 1 → ∃ e ∈ o1.after, Region.binds .any e = true ∧ e.on = j := fun j hj => by
    have h1 := List.all_eq_true.1 (Bool.and_eq_true_iff.1 hre).2 j (List.mem_range.2 hj)
    obtain ⟨e, he, hb⟩ := Array.any_eq_true'.1 h1
    simp only [Bool.and_eq_true, beq_iff_eq] at hb
    exact ⟨e, he, hb.1, hb.2⟩
  refine wpAny_facts_uses (a0 := a) (w0 := w.drew) (m := m) (f := f) (fun D i v w => D (c i) ∨ V i v w) RK hsz hfm hom ho1 hr1 hr2 hB (fun D i k v w w' hDi hDk hv hR => ?_) hT (fun D i o a' w' hDi hDm hi ho hF hR => ?_) (fun D a' w' hD hF hO hR => ?_) (fun D a' w' hD hF hO hR => ?_) _ _ _ _ (by simp) ?_ (fun j _ => ?_) ⟨fun j o hj _ => ?_, fun _ _ => rfl, rfl, rfl⟩ (fun _ _ => rfl) (fun _ _ _ => rfl) h0
  · rcases hv with h | h
    · exact .inl (.inl h)
    · by_cases e : c i = k
      · exact .inl (.inr e)
      · exact .inr (hV i k v w w' (fun e2 => hDk (e2 ▸ hDi)) e h hR)
  · have := StepsUse.at_ ini.toList 0 i o steps (by rw [Array.getElem?_toList]; exact hex i o hi ho) a' w' (by
      rw [Nat.zero_add]
      exact hF.weak fun j u _ hu hc => by
        rcases hu with h | h
        · exfalso
          rcases hc with h1 | h1
          · exact hDi (h1 ▸ h)
          · have := hDm _ h
            omega
        · exact h) hR
    rw [Nat.zero_add] at this
    exact wpOp_mono (fun a2 w2 ⟨v, h1, h2, h3⟩ => ⟨v, h1, .inr h2, h3⟩) this
  · have hF' : RF ini (fun i v w => c i < m ∨ V i v w) a (fun j => j < ini.size) a' w' := by
      refine ⟨fun j o hj hoj => ?_, fun k hk => hO k fun j o hj hoj => hk j o (hex j o hj hoj), hF.size, hF.defers⟩
      obtain ⟨u, hu, hud⟩ := hF.at_ j o (by omega) (hex' j o hoj).1
      exact ⟨u, hu.imp (fun h => (hD _).1 h) (fun h => h), hud⟩
    obtain ⟨vs, hvs, rfl⟩ := hF'.frame hBi
    exact lastA vs w' (fun i hi => hvs i (by omega)) hR
  · have hsf : inf.size = m := by rw [← hinf, Array.size_modify, hmi]
    have hF' : RF inf (fun i v w => i = f ∨ c i < m ∨ V i v w) a (fun j => j < inf.size) a' w' := by
      refine ⟨fun j o hj hoj => ?_, fun k hk => hO k fun j o hj hjf hoj => ?_, hF.size, hF.defers⟩
      · rw [← hinf, Array.getElem?_modify] at hoj
        by_cases e : f = j
        · rw [if_pos e] at hoj
          obtain ⟨o2, _, rfl⟩ := Option.map_eq_some_iff.1 hoj
          exact ⟨undef, .inl e.symm, fun d hd => by cases hd⟩
        · rw [if_neg e] at hoj
          obtain ⟨u, hu, hud⟩ := hF.at_ j o ⟨by omega, fun h => e h.symm⟩ (hex' j o hoj).1
          exact ⟨u, .inr (hu.imp (fun h => ((hD _).1 h).1) (fun h => h)), hud⟩
      · refine hk j o ?_
        rw [← hinf, Array.getElem?_modify, if_neg (fun h => hjf h.symm)]
        exact hex j o hj hoj
    obtain ⟨vs, hvs, rfl⟩ := hF'.frame hBf
    exact lastB vs w' (fun i hi hif => (hvs i (by omega)).resolve_left hif) hR
  · have := List.countP_le_length (p := fun j => !(Array.replicate ops.size false).getD j false) (l := List.range ops.size)
    simpa using this
  · rw [Array.getD_eq_getD_getElem?, Array.getElem?_replicate]
    split <;> rfl
  · rw [Array.getD_eq_getD_getElem?, Array.getElem?_replicate] at hj
    split at hj <;> cases hj
/-- An operation that runs to its end. -/
theorem wpOp_ran {i : Nat} {o : Oper} {a : Act} {w w' : World} {v : Value} {RK : Nat → World → World → Prop} (ho : ops[i]? = some o) (hg : o.guard = none) (hr : (execOp a.eval o).run P w = .ok (.value v) w') (hv : V i v w') (hR : RK i w w') :
    wpOp P ops Q i (fun a'' w'' => ∃ v, a'' = a.put o.dst v ∧ V i v w'' ∧ RK i w w'') a w := wpOp_run (R := RK i) ho hg hr hv hR
theorem eval_tmp {a : Act} {k : Tmp} {v : Value} (h : a.tmps[k]? = some v) : a.eval (.tmp k) = v := by
  simp [Act.eval, Array.getD_eq_getD_getElem?, h]
theorem exec_append {o : Oper} {a : Act} {w w' : World} {s x : Operand} {t : TypeId} {v v1 v2 : Value} (ho : o.op = .call { callee := .builtin .append, args := #[s, x], argTypes := #[t, t] }) (hs : a.eval s = v1) (hx : a.eval x = v2) (hr : (Builtin.append_ #[t, t] o.type #[v1, v2]).run P w = .ok v w') :
    (execOp a.eval o).run P w = .ok (.value v) w' := by
  unfold execOp
  simp only [ho, resolve, invoke, builtin, Sem.run_bind, Sem.run_pure, Result.andThen_ok, List.map_toArray, List.map_cons, List.map_nil, hs, hx, hr]
end
end Go.Proofs.Ytfhagccelkjflaa
