/- Words of my own: a region that draws its order, by facts about each operation alone: no order is walked. -/
import Derived.Test.YtmokofblmkeloaaGreatDoorB01
import Derived.Orders
import Derived.RegionTactic
namespace Go.Proofs.YtmokofblmkeloaaGreatDoor
open Go
/-- Of the operations D: each has left a value that has its fact; slots of no operation are as they were. -/
structure RF (ops : Array Oper) (V : Nat → Value → World → Prop) (a0 : Act) (D : Nat → Prop) (a : Act) (w : World) : Prop where
  at_ : ∀ (j : Nat) (o : Oper), D j → ops[j]? = some o → ∃ v, V j v w ∧ ∀ d, o.dst = some d → a.tmps[d]? = some v
  old : ∀ (k : Nat), (∀ (j : Nat) (o : Oper), ops[j]? = some o → o.dst ≠ some k) → a.tmps[k]? = a0.tmps[k]?
  size : a.tmps.size = a0.tmps.size
  defers : a.defers = a0.defers
/-- What is checked of a region's text: each slot once, and in the frame; each waits for earlier ones alone. -/
def dstOf (ops : Array Oper) (i : Nat) : Option Tmp := (ops[i]?).bind (·.dst)
def regionB (md : Region.Mode) (ops : Array Oper) (n : Nat) : Bool :=
  (List.range ops.size).all fun i =>
    (match dstOf ops i with
      | some d => decide (d < n) && (List.range ops.size).all (fun j => j == i || dstOf ops j != some d)
      | none => true) &&
    ((ops[i]?).map fun o => o.after.all fun e => !Region.binds md e || decide (e.on < i)).getD true
theorem dstOf_some {ops : Array Oper} {i : Nat} {o : Oper} (h : ops[i]? = some o) : dstOf ops i = o.dst := by simp [dstOf, h]
theorem regionB_dst {md : Region.Mode} {ops : Array Oper} {n : Nat} (h : regionB md ops n = true) {i : Nat} {o : Oper} (hi : ops[i]? = some o) {d : Tmp} (hd : o.dst = some d) : d < n ∧ ∀ (j : Nat) (oj : Oper), ops[j]? = some oj → oj.dst = some d → j = i := by
  have hlt : i < ops.size := (Array.getElem?_eq_some_iff.1 hi).1
  have h1 := (List.all_eq_true.1 h) i (List.mem_range.2 hlt)
  rw [dstOf_some hi, hd] at h1
  simp only [Bool.and_eq_true, decide_eq_true_eq] at h1
  refine ⟨h1.1.1, fun j oj hj hjd => ?_⟩
  have hjl : j < ops.size := (Array.getElem?_eq_some_iff.1 hj).1
  have h2 := (List.all_eq_true.1 h1.1.2) j (List.mem_range.2 hjl)
  rw [dstOf_some hj, hjd] at h2
  simp at h2
  exact h2
theorem regionB_after {md : Region.Mode} {ops : Array Oper} {n : Nat} (h : regionB md ops n = true) {i : Nat} {o : Oper} (hi : ops[i]? = some o) : ∀ e ∈ o.after, Region.binds md e = true → e.on < i := by
  have hlt : i < ops.size := (Array.getElem?_eq_some_iff.1 hi).1
  have h1 := (List.all_eq_true.1 h) i (List.mem_range.2 hlt)
  simp only [Bool.and_eq_true] at h1
  have h2 := h1.2
  rw [hi] at h2
  simp only [Option.map_some, Option.getD_some, Array.all_eq_true_iff_forall_mem] at h2
  intro e he hb
  have h3 := h2 e he
  rw [hb] at h3
  simpa using h3
section
variable {P : Program} {md : Region.Mode} {ops : Array Oper} {Q : Exit → Act → World → Prop} {V : Nat → Value → World → Prop} {R : World → World → Prop} {a0 : Act} {w0 : World}
theorem RF.step {D : Nat → Prop} {a : Act} {w w' : World} {i : Nat} {o : Oper} {v : Value} (hB : regionB md ops a0.tmps.size = true) (hV : ∀ i v w w', V i v w → R w w' → V i v w') (h : RF ops V a0 D a w) (hi : ops[i]? = some o) (hv : V i v w') (hR : R w w') :
    RF ops V a0 (fun j => D j ∨ j = i) (a.put o.dst v) w' := by
  have hput : ∀ k, o.dst ≠ some k → (a.put o.dst v).tmps[k]? = a.tmps[k]? := fun k hk => by
    unfold Act.put
    cases hd : o.dst with
    | none => rfl
    | some d =>
      have : d ≠ k := fun e => hk (by rw [hd, e])
      simp [this]
  refine ⟨fun j oj hj hoj => ?_, fun k hk => ?_, ?_, ?_⟩
  · by_cases e : j = i
    · subst e
      rw [hi] at hoj
      cases hoj
      refine ⟨v, hv, fun d hd => ?_⟩
      have hlt := (regionB_dst hB hi hd).1
      rw [hd]
      simp only [Act.put, Array.getElem?_setIfInBounds, if_true]
      rw [if_pos (by rw [h.size]; exact hlt)]
    · have hj' : D j := by rcases hj with g | g; exact g; exact absurd g e
      obtain ⟨u, hu, hud⟩ := h.at_ j oj hj' hoj
      refine ⟨u, hV _ _ _ _ hu hR, fun d hd => ?_⟩
      rw [hput d (fun g => e ((regionB_dst hB hi g).2 j oj hoj hd)), hud d hd]
  · rw [hput k (hk i o hi)]
    exact h.old k hk
  · rw [← h.size]
    cases hd : o.dst <;> simp [Act.put]
  · rw [← h.defers]
    cases hd : o.dst <;> simp [Act.put]
theorem RF.mono {D D' : Nat → Prop} {a : Act} {w : World} (h : RF ops V a0 D a w) (hD : ∀ j, D' j → D j) : RF ops V a0 D' a w :=
  ⟨fun j o hj => h.at_ j o (hD j hj), h.old, h.size, h.defers⟩
/-- Not all have come up: one may. -/
theorem ready_some {listed : Array Bool} {n : Nat} (hB : regionB md ops n = true) (hs : listed.size = ops.size) (hr : Region.ready md ops listed = []) : ∀ i, i < ops.size → listed.getD i false = true := by
  intro i
  induction i using Nat.strongRecOn with
  | _ i ih =>
    intro hi
    cases hl : listed.getD i false with
    | true => rfl
    | false =>
      have hm : i ∈ Region.ready md ops listed := by
        refine mem_ready.2 ⟨?_, ops[i], by simp [hi], fun e he hb => ?_⟩
        · have : i < listed.size := by omega
          simp [Array.getD, this] at hl ⊢
          exact hl
        · have hlt := regionB_after hB (i := i) (o := ops[i]) (by simp [hi]) e he hb
          exact ih _ hlt (by omega)
      rw [hr] at hm
      cases hm
theorem wpAny_facts (hB : regionB md ops a0.tmps.size = true) (hV : ∀ i v w w', V i v w → R w w' → V i v w') (hT : ∀ a b c, R a b → R b c → R a c)
    (step : ∀ (i : Nat) (o : Oper) (a : Act) (w : World), ops[i]? = some o → RF ops V a0 (fun j => ∃ e ∈ o.after, Region.binds md e = true ∧ e.on = j) a w → R w0 w → wpOp P ops Q i (fun a' w' => ∃ v, a' = a.put o.dst v ∧ V i v w' ∧ R w w') a w)
    (fin : ∀ a w, RF ops V a0 (fun j => j < ops.size) a w → R w0 w → Q .normal a w) :
    ∀ (fuel : Nat) (listed : Array Bool) (a : Act) (w : World), listed.size = ops.size → (List.range ops.size).countP (fun j => !listed.getD j false) ≤ fuel →
      RF ops V a0 (fun j => listed.getD j false = true) a w → R w0 w → wpAny P md ops Q fuel listed a w := by
  intro fuel
  have hlast : ∀ (listed : Array Bool) (a : Act) (w : World), listed.size = ops.size → RF ops V a0 (fun j => listed.getD j false = true) a w → R w0 w → Region.ready md ops listed = [] → Q .normal a w :=
    fun listed a w hs hF hR hr => fin a w (hF.mono (fun j hj => ready_some hB hs hr j hj)) hR
  induction fuel with
  | zero =>
    intro listed a w hs hc hF hR
    have hr : Region.ready md ops listed = [] := by
      apply List.eq_nil_iff_forall_not_mem.2
      intro i hi
      obtain ⟨h0, o, ho, _⟩ := mem_ready.1 hi
      have hlt : i < ops.size := (Array.getElem?_eq_some_iff.1 ho).1
      have hz : (List.range ops.size).countP (fun j => !listed.getD j false) = 0 := by omega
      have := List.countP_eq_zero.1 hz i (List.mem_range.2 hlt)
      have hls : i < listed.size := by omega
      simp [Array.getD, hls] at this h0
      rw [this] at h0
      cases h0
    exact ⟨hr, hlast listed a w hs hF hR hr⟩
  | succ fuel ih =>
    intro listed a w hs hc hF hR
    refine ⟨hlast listed a w hs hF hR, fun i hi => ?_⟩
    obtain ⟨h0, o, ho, hall⟩ := mem_ready.1 hi
    have hlt : i < ops.size := (Array.getElem?_eq_some_iff.1 ho).1
    have hst := step i o a w ho (hF.mono (by rintro j ⟨e, he, hb, rfl⟩; exact hall e he hb)) hR
    refine wpOp_mono (fun a' w' h' => ?_) hst
    obtain ⟨v, rfl, hv, hR'⟩ := h'
    have hls : i < listed.size := by omega
    refine ih (listed.setIfInBounds i true) _ w' (by simpa using hs) ?_ ((hF.step hB hV ho hv hR').mono ?_) (hT _ _ _ hR hR')
    · have hun : listed.getD i false = false := by simp [Array.getD, hls] at h0 ⊢; exact h0
      have key : ∀ l : List Nat, l.Nodup → i ∈ l → l.countP (fun j => !(listed.setIfInBounds i true).getD j false) + 1 ≤ l.countP (fun j => !listed.getD j false) := by
        intro l
        induction l with
        | nil => intro _ h; cases h
        | cons x l ihl =>
          intro hn hm
          rw [List.nodup_cons] at hn
          have same : ∀ j, j ≠ i → (listed.setIfInBounds i true).getD j false = listed.getD j false := fun j hj => by
            simp [Array.getD_eq_getD_getElem?, Ne.symm hj]
          have le : ∀ l' : List Nat, l'.countP (fun j => !(listed.setIfInBounds i true).getD j false) ≤ l'.countP (fun j => !listed.getD j false) := fun l' => by
            apply List.countP_mono_left
            intro j _ hj
            by_cases e : j = i
            · subst e; simp [hun]
            · rw [same j e] at hj; exact hj
          by_cases e : x = i
          · subst e
            have h1 : (listed.setIfInBounds x true).getD x false = true := by simp [Array.getD_eq_getD_getElem?, hls]
            have := le l
            rw [List.countP_cons, List.countP_cons, h1, hun]
            simp only [Bool.not_true, Bool.not_false, Bool.false_eq_true, if_false, if_true]
            omega
          · have hm' : i ∈ l := by rcases List.mem_cons.1 hm with g | g; exact absurd g.symm e; exact g
            have := ihl hn.2 hm'
            simp only [List.countP_cons, same x e]
            omega
      have := key (List.range ops.size) List.nodup_range (List.mem_range.2 hlt)
      omega
    · intro j hj
      by_cases e : j = i
      · exact .inr e
      · left
        simpa [Array.getD_eq_getD_getElem?, Array.getElem?_setIfInBounds, Ne.symm e] using hj
/-- Values put into slots, in a row. -/
def putFrom (vs : Nat → Value) : Nat → List (Option Tmp) → Act → Act
  | _, [], a => a
  | k, d :: ds, a => putFrom vs (k + 1) ds (a.put d (vs k))
theorem put_size (a : Act) (d : Option Tmp) (v : Value) : (a.put d v).tmps.size = a.tmps.size := by cases d <;> simp [Act.put]
theorem put_defers (a : Act) (d : Option Tmp) (v : Value) : (a.put d v).defers = a.defers := by cases d <;> rfl
theorem put_other {a : Act} {d : Option Tmp} {v : Value} {k : Nat} (h : d ≠ some k) : (a.put d v).tmps[k]? = a.tmps[k]? := by
  cases d with
  | none => rfl
  | some d =>
    have : d ≠ k := fun e => h (by rw [e])
    simp [Act.put, this]
theorem put_same {a : Act} {v : Value} {k : Nat} (h : k < a.tmps.size) : (a.put (some k) v).tmps[k]? = some v := by
  simp [Act.put, h]
theorem putFrom_defers (vs : Nat → Value) : ∀ (ds : List (Option Tmp)) (k : Nat) (a : Act), (putFrom vs k ds a).defers = a.defers
  | [], _, _ => rfl
  | d :: ds, k, a => by rw [putFrom, putFrom_defers vs ds, put_defers]
theorem putFrom_other (vs : Nat → Value) (s : Nat) : ∀ (ds : List (Option Tmp)) (k : Nat) (a : Act), (∀ d ∈ ds, d ≠ some s) → (putFrom vs k ds a).tmps[s]? = a.tmps[s]?
  | [], _, _, _ => rfl
  | d :: ds, k, a, h => by rw [putFrom, putFrom_other vs s ds _ _ (fun d hd => h d (List.mem_cons_of_mem _ hd)), put_other (h d (List.mem_cons_self ..))]
theorem putFrom_at (vs : Nat → Value) (s : Nat) : ∀ (ds : List (Option Tmp)) (k : Nat) (a : Act) (j : Nat), s < a.tmps.size → ds[j]? = some (some s) → (∀ j', ds[j']? = some (some s) → j' = j) → (putFrom vs k ds a).tmps[s]? = some (vs (k + j))
  | [], _, _, _, _, h, _ => by simp at h
  | d :: ds, k, a, 0, hs, h, hu => by
    simp only [List.getElem?_cons_zero, Option.some.injEq] at h
    rw [putFrom, putFrom_other vs s ds, h, put_same hs, Nat.add_zero]
    intro d' hd' e
    obtain ⟨j', hj'⟩ := List.mem_iff_getElem?.1 hd'
    have := hu (j' + 1) (by rw [List.getElem?_cons_succ, hj', e])
    omega
  | d :: ds, k, a, j + 1, hs, h, hu => by
    rw [List.getElem?_cons_succ] at h
    rw [putFrom, putFrom_at vs s ds (k + 1) _ j (by rw [put_size]; exact hs) h (fun j' hj' => by have := hu (j' + 1) (by rw [List.getElem?_cons_succ]; exact hj'); omega), show k + 1 + j = k + (j + 1) by omega]
/-- The slots of a region's operations, in their order. -/
def dsts (ops : Array Oper) : List (Option Tmp) := ops.toList.map (·.dst)
theorem RF.frame (hB : regionB md ops a0.tmps.size = true) {a : Act} {w : World} (h : RF ops V a0 (fun j => j < ops.size) a w) :
    ∃ vs : Nat → Value, (∀ i, i < ops.size → V i (vs i) w) ∧ a = putFrom vs 0 (dsts ops) a0 := by
  have hex : ∀ i, ∃ v, i < ops.size → V i v w ∧ ∀ d, dstOf ops i = some d → a.tmps[d]? = some v := fun i => by
    by_cases hi : i < ops.size
    · obtain ⟨v, hv, hd⟩ := h.at_ i ops[i] hi (by simp [hi])
      exact ⟨v, fun _ => ⟨hv, fun d hdd => hd d (by rw [dstOf_some (o := ops[i]) (by simp [hi])] at hdd; exact hdd)⟩⟩
    · exact ⟨undef, fun g => absurd g hi⟩
  obtain ⟨vs, hvs⟩ := Classical.axiomOfChoice hex
  refine ⟨vs, fun i hi => (hvs i hi).1, ?_⟩
  have hat : ∀ j : Nat, (dsts ops)[j]? = (ops[j]?).map (fun o : Oper => o.dst) := fun j => by simp [dsts]
  have ht : a.tmps = (putFrom vs 0 (dsts ops) a0).tmps := by
    apply Array.ext_getElem?
    intro s
    by_cases hs : ∃ (j : Nat) (o : Oper), ops[j]? = some o ∧ o.dst = some s
    · obtain ⟨j, o, hj, hd⟩ := hs
      have hlt : j < ops.size := (Array.getElem?_eq_some_iff.1 hj).1
      rw [(hvs j hlt).2 s (by rw [dstOf_some hj]; exact hd)]
      rw [putFrom_at vs s (dsts ops) 0 a0 j (regionB_dst hB hj hd).1 (by rw [hat, hj]; simp [hd]) (fun j' hj' => ?_), Nat.zero_add]
      rw [hat] at hj'
      obtain ⟨o', ho', hd'⟩ := Option.map_eq_some_iff.1 hj'
      exact (regionB_dst hB hj hd).2 j' o' ho' hd'
    · rw [h.old s (fun j o hj hd => hs ⟨j, o, hj, hd⟩)]
      rw [putFrom_other vs s (dsts ops) 0 a0]
      intro d hd e
      simp only [dsts, List.mem_map, Array.mem_toList_iff] at hd
      obtain ⟨o, ho, hod⟩ := hd
      obtain ⟨j, hj⟩ := Array.getElem?_of_mem ho
      exact hs ⟨j, o, hj, by rw [hod, e]⟩
  cases a with
  | mk tm df =>
    have hdf : df = a0.defers := h.defers
    simp only at ht
    have e2 := putFrom_defers vs (dsts ops) 0 a0
    generalize putFrom vs 0 (dsts ops) a0 = b at *
    cases b
    simp only at ht e2
    rw [ht, hdf, e2]
/-- **A region that draws its order, by a fact about each operation**: V i v w: what operation i has left, v, has this of the world w, and keeps it whatever comes (R). No order is walked. -/
theorem wp_region_facts_at {id : Nat} {a : Act} {w : World} (hm : P.follows .mixedOrders = true) (V : Nat → Value → World → Prop) (R : World → World → Prop) (hB : regionB .any ops a.tmps.size = true)
    (hV : ∀ i v w w', V i v w → R w w' → V i v w') (hT : ∀ a b c, R a b → R b c → R a c) (h0 : R w.drew w.drew)
    (step : ∀ (i : Nat) (o : Oper) (a' : Act) (w' : World), ops[i]? = some o → RF ops V a (fun j => ∃ e ∈ o.after, Region.binds .any e = true ∧ e.on = j) a' w' → R w.drew w' → wpOp P ops Q i (fun a'' w'' => ∃ v, a'' = a'.put o.dst v ∧ V i v w'' ∧ R w' w'') a' w')
    (fin : ∀ (vs : Nat → Value) (w' : World), (∀ i, i < ops.size → V i (vs i) w') → R w.drew w' → Q .normal (putFrom vs 0 (dsts ops) a) w') : (Code.region id ops true).wp P Q a w := by
  refine wp_region_any hm ?_
  refine wpAny_facts (a0 := a) (w0 := w.drew) hB hV hT step (fun a' w' hF hR => ?_) _ _ _ _ (by simp) ?_ ⟨fun j o hj _ => ?_, fun _ _ => rfl, rfl, rfl⟩ h0
  · obtain ⟨vs, hvs, rfl⟩ := hF.frame hB
    exact fin vs w' hvs hR
  · have := List.countP_le_length (p := fun j => !(Array.replicate ops.size false).getD j false) (l := List.range ops.size)
    simpa using this
  · simp [Array.getD_eq_getD_getElem?] at hj
    exfalso
    by_cases hlt : j < ops.size <;> simp [hlt] at hj
/-- The operations' facts, one behind the other. -/
def StepsFrom (P : Program) (ops : Array Oper) (Q : Exit → Act → World → Prop) (V : Nat → Value → World → Prop) (R : World → World → Prop) (a : Act) (w : World) : Nat → List Oper → Prop
  | _, [] => True
  | k, o :: l => (∀ (a' : Act) (w' : World), RF ops V a (fun j => ∃ e ∈ o.after, Region.binds .any e = true ∧ e.on = j) a' w' → R w w' → wpOp P ops Q k (fun a'' w'' => ∃ v, a'' = a'.put o.dst v ∧ V k v w'' ∧ R w' w'') a' w') ∧ StepsFrom P ops Q V R a w (k + 1) l
theorem StepsFrom.at_ {a : Act} {w : World} : ∀ (l : List Oper) (k i : Nat) (o : Oper), StepsFrom P ops Q V R a w k l → l[i]? = some o →
    ∀ (a' : Act) (w' : World), RF ops V a (fun j => ∃ e ∈ o.after, Region.binds .any e = true ∧ e.on = j) a' w' → R w w' → wpOp P ops Q (k + i) (fun a'' w'' => ∃ v, a'' = a'.put o.dst v ∧ V (k + i) v w'' ∧ R w' w'') a' w'
  | [], _, _, _, _, hi => by simp at hi
  | o' :: l, k, 0, o, h, hi => by
    simp only [List.getElem?_cons_zero, Option.some.injEq] at hi
    subst hi
    exact h.1
  | o' :: l, k, i + 1, o, h, hi => by
    rw [List.getElem?_cons_succ] at hi
    have := StepsFrom.at_ l (k + 1) i o h.2 hi
    rw [show k + 1 + i = k + (i + 1) by omega] at this
    exact this
theorem wp_region_facts {id : Nat} {a : Act} {w : World} (hm : P.follows .mixedOrders = true) (n : Nat) (hn : a.tmps.size = n) (V : Nat → Value → World → Prop) (R : World → World → Prop) (hB : regionB .any ops n = true)
    (hV : ∀ i v w w', V i v w → R w w' → V i v w') (hT : ∀ a b c, R a b → R b c → R a c) (h0 : R w.drew w.drew) (ds : List (Option Tmp)) (hds : dsts ops = ds) (m : Nat) (hm' : ops.size = m)
    (steps : StepsFrom P ops Q V R a w.drew 0 ops.toList)
    (fin : ∀ (vs : Nat → Value) (w' : World), (∀ i, i < m → V i (vs i) w') → R w.drew w' → Q .normal (putFrom vs 0 ds a) w') : (Code.region id ops true).wp P Q a w := by
  subst hm'
  subst hn
  subst hds
  refine wp_region_facts_at hm V R hB hV hT h0 (fun i o a' w' ho hF hR => ?_) fin
  have := StepsFrom.at_ ops.toList 0 i o steps (by simpa using ho) a' w' hF hR
  rw [Nat.zero_add] at this
  exact this
/-- An operation that runs to its end. -/
theorem wpOp_run {i : Nat} {o : Oper} {a : Act} {w w' : World} {v : Value} (ho : ops[i]? = some o) (hg : o.guard = none) (hr : (execOp a.eval o).run P w = .ok (.value v) w') (hv : V i v w') (hR : R w w') :
    wpOp P ops Q i (fun a'' w'' => ∃ v, a'' = a.put o.dst v ∧ V i v w'' ∧ R w w'') a w := by
  refine wpOp_step ho fun K hK => ?_
  rw [if_pos (by simp [Region.wanted, hg])]
  unfold Oper.wp
  rw [hr, Oper.upon_value]
  exact hK _ _ ⟨v, rfl, hv, hR⟩
/-- A call, by its contract. -/
theorem wpOp_call {i : Nat} {o : Oper} {a : Act} {w : World} {f : FuncId} {args : Array Value} (ho : ops[i]? = some o) (hg : o.guard = none) (hr : (execOp a.eval o).run P w = .ok (.enter f args) w)
    (hc : Calls P f args w fun e w' => ∃ v, e = .returned v ∧ V i v w' ∧ R w w') :
    wpOp P ops Q i (fun a'' w'' => ∃ v, a'' = a.put o.dst v ∧ V i v w'' ∧ R w w'') a w := by
  refine wpOp_step ho fun K hK => ?_
  rw [if_pos (by simp [Region.wanted, hg])]
  unfold Oper.wp
  rw [hr, Oper.upon_enter]
  refine hc.mono fun e w' h => ?_
  obtain ⟨v, rfl, hv, hR⟩ := h
  exact hK _ _ ⟨v, rfl, hv, hR⟩
/-- What an operation that this one waits for has left. -/
theorem RF.get {o : Oper} {a : Act} {w : World} (h : RF ops V a0 (fun j => ∃ e ∈ o.after, Region.binds .any e = true ∧ e.on = j) a w) (j : Nat) (d : Tmp) (hj : o.after.any (fun e => Region.binds .any e && e.on == j) = true) (hd : dstOf ops j = some d) : ∃ v, V j v w ∧ a.tmps[d]? = some v := by
  obtain ⟨e, he, hb⟩ := Array.any_eq_true'.1 hj
  simp only [Bool.and_eq_true, beq_iff_eq] at hb
  unfold dstOf at hd
  obtain ⟨oj, hoj, hod⟩ := Option.bind_eq_some_iff.1 hd
  obtain ⟨v, hv, ht⟩ := h.at_ j oj ⟨e, he, hb.1, hb.2⟩ hoj
  exact ⟨v, hv, ht d hod⟩
/-- A slot of no operation of the region. -/
theorem RF.slot {D : Nat → Prop} {a : Act} {w : World} (h : RF ops V a0 D a w) (k : Tmp) (hk : (dsts ops).all (fun d => d != some k) = true) {v : Value} (hv : a0.tmps[k]? = some v) : a.tmps[k]? = some v := by
  rw [← hv]
  exact h.old k fun j o hj hd => by
    have hm : some k ∈ dsts ops := by
      simp only [dsts, List.mem_map, Array.mem_toList_iff]
      exact ⟨o, Array.mem_of_getElem? hj, hd⟩
    have := (List.all_eq_true.1 hk) _ hm
    simp at this
end
end Go.Proofs.YtmokofblmkeloaaGreatDoor

/- Words of my own: guarded operations in a region by facts (W11). -/
namespace Go.Proofs.YtmokofblmkeloaaGreatDoor
open Go
section
variable {P : Program} {ops : Array Oper} {Q : Exit → Act → World → Prop} {V : Nat → Value → World → Prop} {R : World → World → Prop} {a0 : Act} {w0 : World}
/-- The truth value that it is, if it is one. -/
def boolOf : Value → Option Bool
  | .bool b => some b
  | _ => none
theorem yielded_at {tmps : Array Value} {j d : Nat} {v : Value} (hd : dstOf ops j = some d) (ht : tmps[d]? = some v) : yielded ops tmps j = boolOf v := by
  unfold yielded
  unfold dstOf at hd
  rw [hd, Option.bind_some]
  simp only [ht]
  cases v <;> rfl
theorem wanted_not {o : Oper} {a : Act} {j d : Nat} {want : Bool} {v : Value} (hg : o.guard = some (j, want)) (hd : dstOf ops j = some d) (ht : a.tmps[d]? = some v) (hv : v ≠ .bool want) : Region.wanted o (yielded ops a.tmps) = false := by
  unfold Region.wanted
  rw [hg]
  show (yielded ops a.tmps j == some want) = false
  rw [yielded_at hd ht]
  cases v with
  | bool b =>
    have : b ≠ want := fun h => hv (by rw [h])
    simp [boolOf, this]
  | _ => rfl
theorem wanted_yes {o : Oper} {a : Act} {j d : Nat} {want : Bool} (hg : o.guard = some (j, want)) (hd : dstOf ops j = some d) (ht : a.tmps[d]? = some (.bool want)) : Region.wanted o (yielded ops a.tmps) = true := by
  unfold Region.wanted
  rw [hg]
  show (yielded ops a.tmps j == some want) = true
  rw [yielded_at hd ht]
  simp [boolOf]
/-- An operation that is passed over. -/
theorem wpOp_skip {i : Nat} {o : Oper} {a : Act} {w : World} (ho : ops[i]? = some o) (hg : Region.wanted o (yielded ops a.tmps) = false) (hv : V i undef w) (hR : R w w) :
    wpOp P ops Q i (fun a'' w'' => ∃ v, a'' = a.put o.dst v ∧ V i v w'' ∧ R w w'') a w := by
  refine wpOp_step ho fun K hK => ?_
  rw [if_neg (by rw [hg]; decide)]
  exact hK _ _ ⟨undef, rfl, hv, hR⟩
/-- An operation that is wanted, and runs to its end. -/
theorem wpOp_runG {i : Nat} {o : Oper} {a : Act} {w w' : World} {v : Value} (ho : ops[i]? = some o) (hg : Region.wanted o (yielded ops a.tmps) = true) (hr : (execOp a.eval o).run P w = .ok (.value v) w') (hv : V i v w') (hR : R w w') :
    wpOp P ops Q i (fun a'' w'' => ∃ v, a'' = a.put o.dst v ∧ V i v w'' ∧ R w w'') a w := by
  refine wpOp_step ho fun K hK => ?_
  rw [if_pos hg]
  unfold Oper.wp
  rw [hr, Oper.upon_value]
  exact hK _ _ ⟨v, rfl, hv, hR⟩
/-- A call that is wanted, by its contract. -/
theorem wpOp_callG {i : Nat} {o : Oper} {a : Act} {w : World} {f : FuncId} {args : Array Value} (ho : ops[i]? = some o) (hg : Region.wanted o (yielded ops a.tmps) = true) (hr : (execOp a.eval o).run P w = .ok (.enter f args) w)
    (hc : Calls P f args w fun e w' => ∃ v, e = .returned v ∧ V i v w' ∧ R w w') :
    wpOp P ops Q i (fun a'' w'' => ∃ v, a'' = a.put o.dst v ∧ V i v w'' ∧ R w w'') a w := by
  refine wpOp_step ho fun K hK => ?_
  rw [if_pos hg]
  unfold Oper.wp
  rw [hr, Oper.upon_enter]
  refine hc.mono fun e w' h => ?_
  obtain ⟨v, rfl, hv, hR⟩ := h
  exact hK _ _ ⟨v, rfl, hv, hR⟩
end
end Go.Proofs.YtmokofblmkeloaaGreatDoor

/- Words of my own: a region by facts (W11) whose last operation waits for all others: it is run by itself, on the whole frame. -/
namespace Go.Proofs.YtmokofblmkeloaaGreatDoor
open Go
section
variable {P : Program} {md : Region.Mode} {ops : Array Oper} {Q : Exit → Act → World → Prop} {V : Nat → Value → World → Prop} {R : World → World → Prop} {a0 : Act} {w0 : World}
theorem count_less {listed : Array Bool} {i n : Nat} (hls : i < listed.size) (hun : listed.getD i false = false) (hin : i < n) : (List.range n).countP (fun j => !(listed.setIfInBounds i true).getD j false) + 1 ≤ (List.range n).countP (fun j => !listed.getD j false) := by
  have key : ∀ l : List Nat, l.Nodup → i ∈ l → l.countP (fun j => !(listed.setIfInBounds i true).getD j false) + 1 ≤ l.countP (fun j => !listed.getD j false) := by
    intro l
    induction l with
    | nil => intro _ h; cases h
    | cons x l ihl =>
      intro hn hm
      rw [List.nodup_cons] at hn
      have same : ∀ j, j ≠ i → (listed.setIfInBounds i true).getD j false = listed.getD j false := fun j hj => by
        simp [Array.getD_eq_getD_getElem?, Ne.symm hj]
      have le : ∀ l' : List Nat, l'.countP (fun j => !(listed.setIfInBounds i true).getD j false) ≤ l'.countP (fun j => !listed.getD j false) := fun l' => by
        apply List.countP_mono_left
        intro j _ hj
        by_cases e : j = i
        · subst e; simp [hun]
        · rw [same j e] at hj; exact hj
      by_cases e : x = i
      · subst e
        have h1 : (listed.setIfInBounds x true).getD x false = true := by simp [Array.getD_eq_getD_getElem?, hls]
        have := le l
        rw [List.countP_cons, List.countP_cons, h1, hun]
        simp only [Bool.not_true, Bool.not_false, Bool.false_eq_true, if_false, if_true]
        omega
      · have hm' : i ∈ l := by rcases List.mem_cons.1 hm with g | g; exact absurd g.symm e; exact g
        have := ihl hn.2 hm'
        simp only [List.countP_cons, same x e]
        omega
  exact key (List.range n) List.nodup_range (List.mem_range.2 hin)
theorem wpAny_facts_last {L : Nat} {oL : Oper} (hL : ops[L]? = some oL) (hsz : ops.size = L + 1) (hre : ∀ j, j < L → ∃ e ∈ oL.after, Region.binds md e = true ∧ e.on = j) (hB : regionB md ops a0.tmps.size = true) (hV : ∀ i v w w', V i v w → R w w' → V i v w') (hT : ∀ a b c, R a b → R b c → R a c)
    (step : ∀ (i : Nat) (o : Oper) (a : Act) (w : World), i < L → ops[i]? = some o → RF ops V a0 (fun j => ∃ e ∈ o.after, Region.binds md e = true ∧ e.on = j) a w → R w0 w → wpOp P ops Q i (fun a' w' => ∃ v, a' = a.put o.dst v ∧ V i v w' ∧ R w w') a w)
    (last : ∀ a w, RF ops V a0 (fun j => j < L) a w → R w0 w → wpOp P ops Q L (fun a' w' => Q .normal a' w') a w) :
    ∀ (fuel : Nat) (listed : Array Bool) (a : Act) (w : World), listed.size = ops.size → (List.range ops.size).countP (fun j => !listed.getD j false) ≤ fuel → listed.getD L false = false →
      RF ops V a0 (fun j => listed.getD j false = true) a w → R w0 w → wpAny P md ops Q fuel listed a w := by
  intro fuel
  induction fuel with
  | zero =>
    intro listed a w hs hc hun hF hR
    exfalso
    have := count_less (listed := listed) (i := L) (n := ops.size) (by omega) hun (by omega)
    omega
  | succ fuel ih =>
    intro listed a w hs hc hun hF hR
    refine ⟨fun hr => ?_, fun i hi => ?_⟩
    · have := ready_some hB hs hr L (by omega)
      rw [hun] at this
      cases this
    obtain ⟨h0, o, ho, hall⟩ := mem_ready.1 hi
    have hlt : i < ops.size := (Array.getElem?_eq_some_iff.1 ho).1
    have hls : i < listed.size := by omega
    have huni : listed.getD i false = false := by simp [Array.getD, hls] at h0 ⊢; exact h0
    have hcl := count_less (listed := listed) (i := i) (n := ops.size) hls huni hlt
    by_cases eL : i = L
    · subst eL
      rw [hL] at ho
      cases ho
      have hall' : ∀ j, j < i → listed.getD j false = true := fun j hj => by
        obtain ⟨e, he, hb, rfl⟩ := hre j hj
        exact hall e he hb
      refine wpOp_mono (fun a' w' h' => ?_) (last a w (hF.mono (fun j hj => hall' j hj)) hR)
      have hfull : Region.ready md ops (listed.setIfInBounds i true) = [] := by
        apply List.eq_nil_iff_forall_not_mem.2
        intro j hj
        obtain ⟨g0, oj, hoj, _⟩ := mem_ready.1 hj
        have hjl : j < ops.size := (Array.getElem?_eq_some_iff.1 hoj).1
        by_cases e : j = i
        · subst e
          simp [hls] at g0
        · have hjL : j < i := by omega
          have hjs : j < listed.size := by omega
          have := hall' j hjL
          simp [Array.getD, hjs] at this
          simp [Ne.symm e, hjs, this] at g0
      cases fuel with
      | zero => exact ⟨hfull, h'⟩
      | succ f =>
        refine ⟨fun _ => h', fun j hj => ?_⟩
        rw [hfull] at hj
        cases hj
    · have hst := step i o a w (by omega) ho (hF.mono (by rintro j ⟨e, he, hb, rfl⟩; exact hall e he hb)) hR
      refine wpOp_mono (fun a' w' h' => ?_) hst
      obtain ⟨v, rfl, hv, hR'⟩ := h'
      refine ih (listed.setIfInBounds i true) _ w' (by simpa using hs) (by omega) ?_ ((hF.step hB hV ho hv hR').mono ?_) (hT _ _ _ hR hR')
      · simpa [Array.getD_eq_getD_getElem?, Array.getElem?_setIfInBounds, eL] using hun
      · intro j hj
        by_cases e : j = i
        · exact .inr e
        · left
          simpa [Array.getD_eq_getD_getElem?, Array.getElem?_setIfInBounds, Ne.symm e] using hj
theorem getElem?_pop {α : Type} (a : Array α) (j : Nat) (x : α) (h : a.pop[j]? = some x) : a[j]? = some x ∧ j < a.size - 1 := by
  have hj : j < a.pop.size := (Array.getElem?_eq_some_iff.1 h).1
  rw [Array.size_pop] at hj
  rw [Array.getElem?_pop] at h
  rw [if_pos hj] at h
  exact ⟨h, hj⟩
/-- **A region that draws its order, by facts; its last operation, which has no slot and waits for all others, is run on the whole frame.** -/
theorem wp_region_facts_last {id : Nat} {a : Act} {w : World} (hm : P.follows .mixedOrders = true) (n : Nat) (hn : a.tmps.size = n) (V : Nat → Value → World → Prop) (R : World → World → Prop) (ini : Array Oper) (hini : ops.pop = ini) (oL : Oper) (m : Nat) (hmi : ini.size = m) (hL : ops[m]? = some oL) (hsz : ops.size = m + 1) (hd : oL.dst = none)
    (hre : ((List.range m).all fun j => oL.after.any fun e => Region.binds .any e && e.on == j) = true) (hB : regionB .any ops n = true) (hBi : regionB .any ini n = true)
    (hV : ∀ i v w w', V i v w → R w w' → V i v w') (hT : ∀ a b c, R a b → R b c → R a c) (h0 : R w.drew w.drew) (ds : List (Option Tmp)) (hds : dsts ini = ds)
    (steps : StepsFrom P ops Q V R a w.drew 0 ini.toList)
    (last : ∀ (vs : Nat → Value) (w' : World), (∀ i, i < m → V i (vs i) w') → R w.drew w' → wpOp P ops Q m (fun a' w'' => Q .normal a' w'') (putFrom vs 0 ds a) w') : (Code.region id ops true).wp P Q a w := by
  subst hn hmi hds hini
  refine wp_region_any hm ?_
  have hpop : ∀ i o, i < ops.pop.size → ops[i]? = some o → ops.pop[i]? = some o := fun i o hi ho => by
    rw [Array.size_pop] at hi
    rw [Array.getElem?_pop, if_pos hi, ho]
  refine wpAny_facts_last (a0 := a) (w0 := w.drew) hL hsz (fun j hj => ?_) hB hV hT (fun i o a' w' hi ho hF hR => ?_) (fun a' w' hF hR => ?_) _ _ _ _ (by simp) ?_ ?_ ⟨fun j o hj _ => ?_, fun _ _ => rfl, rfl, rfl⟩ h0
  · have := List.all_eq_true.1 hre j (List.mem_range.2 hj)
    obtain ⟨e, he, hb⟩ := Array.any_eq_true'.1 this
    simp only [Bool.and_eq_true, beq_iff_eq] at hb
    exact ⟨e, he, hb.1, hb.2⟩
  · have := StepsFrom.at_ ops.pop.toList 0 i o steps (by rw [Array.getElem?_toList]; exact hpop i o hi ho) a' w' hF hR
    rw [Nat.zero_add] at this
    exact this
  · have hF' : RF ops.pop V a (fun j => j < ops.pop.size) a' w' := by
      refine ⟨fun j o hj hoj => hF.at_ j o hj (getElem?_pop _ _ _ hoj).1, fun k hk => hF.old k fun j o hoj hod => ?_, hF.size, hF.defers⟩
      by_cases hj : j < ops.pop.size
      · exact hk j o (hpop j o hj hoj) hod
      · have hjl : j < ops.size := (Array.getElem?_eq_some_iff.1 hoj).1
        have : j = ops.pop.size := by omega
        subst this
        rw [hL] at hoj
        cases hoj
        rw [hd] at hod
        cases hod
    obtain ⟨vs, hvs, rfl⟩ := hF'.frame hBi
    exact last vs w' hvs hR
  · have := List.countP_le_length (p := fun j => !(Array.replicate ops.size false).getD j false) (l := List.range ops.size)
    simpa using this
  · rw [Array.getD_eq_getD_getElem?, Array.getElem?_replicate]
    split <;> rfl
  · rw [Array.getD_eq_getD_getElem?, Array.getElem?_replicate] at hj
    split at hj <;> cases hj
end
end Go.Proofs.YtmokofblmkeloaaGreatDoor

/- Words of my own: structs of some integers that came in by value; a store that ends a region by facts. -/
namespace Go.Proofs.YtmokofblmkeloaaGreatDoor
open Go.RowKit Go.WideShapes Go.ChangeShapes Go.Joins Go.Deep
/-- A store that is run, and what comes behind it. -/
theorem wpOp_store {P : Program} {ops : Array Oper} {Q : Exit → Act → World → Prop} {i : Nat} {o : Oper} {K : Act → World → Prop} {a : Act} {w w' : World} (ho : ops[i]? = some o) (hg : o.guard = none) (hd : o.dst = none) (hr : (execOp a.eval o).run P w = .ok .skip w') (hK : K a w') : wpOp P ops Q i K a w := by
  refine wpOp_step ho fun K' h => ?_
  rw [if_pos (by simp [Region.wanted, hg])]
  unfold Oper.wp
  rw [hr, Oper.upon_skip, hd]
  exact h _ _ hK
section
variable {H : Type} {enc : TypeId × Value → H} {P : Program} {w : World} {base : Nat} {spare : Nat → Bool} {held : Bool}
end
end Go.Proofs.YtmokofblmkeloaaGreatDoor
