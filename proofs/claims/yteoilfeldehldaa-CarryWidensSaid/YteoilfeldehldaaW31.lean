/- Words of my own: a region by facts (W11, W28) in which two operations make a block each: the two are not one. An operation of the tail may wait for one that waits for another. -/
import Derived.Test.YteoilfeldehldaaW28
namespace Go.Proofs.Yteoilfeldehldaa
open Go
section
variable {P : Program} {md : Region.Mode} {ops : Array Oper} {Q : Exit → Act → World → Prop} {V : Nat → Value → World → Prop} {U : World → Nat → Value → World → Prop} {I : Act → World → Prop} {R : World → World → Prop} {a0 : Act} {w0 : World}
/-- Operation i waits for operation j. -/
def waits (md : Region.Mode) (ops : Array Oper) (i j : Nat) : Bool := ((ops[i]?).map fun o => o.after.any fun e => Region.binds md e && e.on == j).getD false
theorem waits_ex {i j : Nat} {o : Oper} (ho : ops[i]? = some o) (h : waits md ops i j = true) : ∃ e ∈ o.after, Region.binds md e = true ∧ e.on = j := by
  unfold waits at h
  rw [ho] at h
  simp only [Option.map_some, Option.getD_some] at h
  obtain ⟨e, he, hb⟩ := Array.any_eq_true'.1 h
  simp only [Bool.and_eq_true, beq_iff_eq] at hb
  exact ⟨e, he, hb.1, hb.2⟩
/-- What is checked: each operation of the tail waits for all ahead of it, for one of the others at two steps at most. -/
def tailB (md : Region.Mode) (ops : Array Oper) (m : Nat) : Bool :=
  (List.range ops.size).all fun i => decide (i < m) || (List.range i).all fun j => waits md ops i j || (decide (j < m) && (List.range m).any fun k => waits md ops i k && waits md ops k j)
theorem wpAny_facts_inv {m : Nat} (hm : m ≤ ops.size) (hw : tailB md ops m = true) (hB : regionB md ops a0.tmps.size = true) (hV : ∀ i v w w', V i v w → R w w' → V i v w') (hT : ∀ a b c, R a b → R b c → R a c)
    (hUV : ∀ w i v w', U w i v w' → V i v w') (hI : ∀ i o a v w w', i < m → ops[i]? = some o → a.tmps.size = a0.tmps.size → I a w → U w i v w' → R w w' → I (a.put o.dst v) w')
    (step : ∀ (i : Nat) (o : Oper) (a : Act) (w : World), i < m → ops[i]? = some o → RF ops V a0 (fun j => ∃ e ∈ o.after, Region.binds md e = true ∧ e.on = j) a w → R w0 w → wpOp P ops Q i (fun a' w' => ∃ v, a' = a.put o.dst v ∧ U w i v w' ∧ R w w') a w)
    (tail : ∀ a w, RF ops V a0 (fun j => j < m) a w → OldM ops m a0 a → I a w → R w0 w → TailFrom P ops Q m (ops.toList.drop m) a w) :
    ∀ (fuel : Nat) (listed : Array Bool) (a : Act) (w : World), listed.size = ops.size → (List.range ops.size).countP (fun j => !listed.getD j false) ≤ fuel → (∀ j, m ≤ j → listed.getD j false = false) →
      (∀ k o, ops[k]? = some o → listed.getD k false = true → ∀ e ∈ o.after, Region.binds md e = true → listed.getD e.on false = true) →
      RF ops V a0 (fun j => listed.getD j false = true) a w → OldM ops m a0 a → I a w → R w0 w → wpAny P md ops Q fuel listed a w := by
  have hwx : ∀ i, m ≤ i → ∀ o, ops[i]? = some o → ∀ j, j < i → waits md ops i j = true ∨ (j < m ∧ ∃ k, k < m ∧ waits md ops i k = true ∧ waits md ops k j = true) := fun i hi o ho j hj => by
    have hil : i < ops.size := (Array.getElem?_eq_some_iff.1 ho).1
    have h1 := List.all_eq_true.1 hw i (List.mem_range.2 hil)
    simp only [Bool.or_eq_true, decide_eq_true_eq] at h1
    rcases h1 with h1 | h1
    · omega
    · have h2 := List.all_eq_true.1 h1 j (List.mem_range.2 hj)
      simp only [Bool.or_eq_true, Bool.and_eq_true, decide_eq_true_eq, List.any_eq_true, List.mem_range] at h2
      rcases h2 with h2 | ⟨h2, k, hk, h3, h4⟩
      · exact .inl h2
      · exact .inr ⟨h2, k, hk, h3, h4⟩
  intro fuel
  have full : ∀ (fuel : Nat) (listed : Array Bool) (a : Act) (w : World), listed.size = ops.size → (List.range ops.size).countP (fun j => !listed.getD j false) ≤ fuel → (∀ j, m ≤ j → listed.getD j false = false) →
      RF ops V a0 (fun j => listed.getD j false = true) a w → OldM ops m a0 a → I a w → R w0 w → (∀ j, j < m → listed.getD j false = true) → wpAny P md ops Q fuel listed a w := by
    intro fuel listed a w hs hc hun hF hO hIn hR hall
    refine wpAny_tail hB _ m rfl (fun i hi o ho j hmj hj => ?_) fuel listed a w hs (fun j hj _ => hall j hj) hun ?_ (tail a w (hF.mono fun j hj => hall j hj) hO hIn hR)
    · rcases hwx i hi o ho j hj with h | ⟨h, -⟩
      · exact waits_ex ho h
      · omega
    have h1 : (ops.toList.drop m).length = ops.size - m := by simp
    have h2 : ops.size - m ≤ (List.range ops.size).countP (fun j => !listed.getD j false) := by
      have e : List.range ops.size = List.range m ++ (List.range (ops.size - m)).map (m + ·) := by
        rw [← List.range_add]; congr 1; omega
      rw [e, List.countP_append]
      have : ((List.range (ops.size - m)).map (m + ·)).countP (fun j => !listed.getD j false) = ops.size - m := by
        have hh : ∀ x ∈ (List.range (ops.size - m)).map (m + ·), (fun j => !listed.getD j false) x = true := by
          intro x hx
          obtain ⟨y, _, rfl⟩ := List.mem_map.1 hx
          simp only [hun (m + y) (by omega), Bool.not_false]
        rw [List.countP_eq_length.2 hh]
        simp
      omega
    omega
  induction fuel with
  | zero =>
    intro listed a w hs hc hun hcl hF hO hIn hR
    refine full 0 listed a w hs hc hun hF hO hIn hR fun j hj => ?_
    have hz : (List.range ops.size).countP (fun j => !listed.getD j false) = 0 := by omega
    have := List.countP_eq_zero.1 hz j (List.mem_range.2 (by omega))
    simpa using this
  | succ fuel ih =>
    intro listed a w hs hc hun hcl hF hO hIn hR
    by_cases hall : ∀ j, j < m → listed.getD j false = true
    · exact full (fuel + 1) listed a w hs hc hun hF hO hIn hR hall
    refine ⟨fun hr => ?_, fun i hi => ?_⟩
    · exact absurd (fun j hj => ready_some hB hs hr j (by omega)) hall
    obtain ⟨h0, o, ho, hrd⟩ := mem_ready.1 hi
    have hlt : i < ops.size := (Array.getElem?_eq_some_iff.1 ho).1
    have hls : i < listed.size := by omega
    have huni : listed.getD i false = false := by simp [Array.getD, hls] at h0 ⊢; exact h0
    have hcnt := count_less (listed := listed) (i := i) (n := ops.size) hls huni hlt
    have him : i < m := by
      rcases Nat.lt_or_ge i m with g | g
      · exact g
      · exfalso
        refine hall fun j hj => ?_
        rcases hwx i g o ho j (by omega) with h | ⟨-, k, hk, h1, h2⟩
        · obtain ⟨e, he, hb, rfl⟩ := waits_ex ho h
          exact hrd e he hb
        · obtain ⟨e, he, hb, rfl⟩ := waits_ex ho h1
          have hkl := hrd e he hb
          have hok : ops[e.on]? = some ops[e.on] := Array.getElem?_eq_getElem (by omega)
          obtain ⟨e2, he2, hb2, rfl⟩ := waits_ex hok h2
          exact hcl e.on _ hok hkl e2 he2 hb2
    have hst := step i o a w him ho (hF.mono (by rintro j ⟨e, he, hb, rfl⟩; exact hrd e he hb)) hR
    refine wpOp_mono (fun a' w' h' => ?_) hst
    obtain ⟨v, rfl, hu, hR'⟩ := h'
    have hv := hUV _ _ _ _ hu
    have hset : ∀ j, (listed.setIfInBounds i true).getD j false = true ↔ listed.getD j false = true ∨ j = i := fun j => by
      by_cases e : j = i
      · subst e
        simp [Array.getD_eq_getD_getElem?, hls]
      · simp [Array.getD_eq_getD_getElem?, Ne.symm e, e]
    refine ih (listed.setIfInBounds i true) _ w' (by simpa using hs) (by omega) (fun j hj => ?_) (fun k ok hok hk e he hb => ?_) ((hF.step hB hV ho hv hR').mono fun j hj => (hset j).1 hj) (fun k hk => by rw [put_other (hk i o him ho)]; exact hO k hk) (hI i o a v w w' him ho hF.size hIn hu hR') (hT _ _ _ hR hR')
    · have e : j ≠ i := by omega
      simpa [Array.getD_eq_getD_getElem?, Array.getElem?_setIfInBounds, Ne.symm e] using hun j hj
    · refine (hset _).2 (.inl ?_)
      rcases (hset k).1 hk with g | rfl
      · exact hcl k ok hok g e he hb
      · rw [ho] at hok
        cases hok
        exact hrd e he hb
/-- A pointer to a whole block. -/
abbrev toBlk (g : Nat) : Value := .pointer (some ⟨g, 0, none⟩)
/-- Two slots hold blocks that are there, and not the same. -/
def TwoBlk (d1 d2 : Tmp) (a : Act) (w : World) : Prop := (∀ g, a.tmps[d1]? = some (toBlk g) → g < w.heap.size) ∧ (∀ g, a.tmps[d2]? = some (toBlk g) → g < w.heap.size) ∧ ∀ g h, a.tmps[d1]? = some (toBlk g) → a.tmps[d2]? = some (toBlk h) → g ≠ h
/-- The operations' facts, one behind the other; of the operations i1 and i2 also that they make a block. -/
def StepsNew (P : Program) (ops : Array Oper) (Q : Exit → Act → World → Prop) (V : Nat → Value → World → Prop) (U : World → Nat → Value → World → Prop) (R : World → World → Prop) (a : Act) (w : World) : Nat → List Oper → Prop
  | _, [] => True
  | k, o :: l => (∀ (a' : Act) (w' : World), RF ops V a (fun j => ∃ e ∈ o.after, Region.binds .any e = true ∧ e.on = j) a' w' → R w w' → wpOp P ops Q k (fun a'' w'' => ∃ v, a'' = a'.put o.dst v ∧ U w' k v w'' ∧ R w' w'') a' w') ∧ StepsNew P ops Q V U R a w (k + 1) l
theorem StepsNew.at_ {a : Act} {w : World} : ∀ (l : List Oper) (k i : Nat) (o : Oper), StepsNew P ops Q V U R a w k l → l[i]? = some o →
    ∀ (a' : Act) (w' : World), RF ops V a (fun j => ∃ e ∈ o.after, Region.binds .any e = true ∧ e.on = j) a' w' → R w w' → wpOp P ops Q (k + i) (fun a'' w'' => ∃ v, a'' = a'.put o.dst v ∧ U w' (k + i) v w'' ∧ R w' w'') a' w'
  | [], _, _, _, _, hi => by simp at hi
  | o' :: l, k, 0, o, h, hi => by
    simp only [List.getElem?_cons_zero, Option.some.injEq] at hi
    subst hi
    exact h.1
  | o' :: l, k, i + 1, o, h, hi => by
    rw [List.getElem?_cons_succ] at hi
    have := StepsNew.at_ l (k + 1) i o h.2 hi
    rw [show k + 1 + i = k + (i + 1) by omega] at this
    exact this
/-- **A region that draws its order, by facts, in which the operations i1 and i2 make a block each**: the blocks are two. The last operations are run one behind the other on the whole frame. -/
theorem wp_region_facts_two {id : Nat} {a : Act} {w : World} (hm : P.follows .mixedOrders = true) (n : Nat) (hn : a.tmps.size = n) (V : Nat → Value → World → Prop) (U : World → Nat → Value → World → Prop) (R : World → World → Prop) (i1 i2 : Nat) (d1 d2 : Tmp) (ini : Array Oper) (m : Nat) (hini : ops.extract 0 m = ini) (hmi : ini.size = m) (hsz : m ≤ ops.size)
    (hre : tailB .any ops m = true) (hB : regionB .any ops n = true) (hBi : regionB .any ini n = true) (hi1 : dstOf ini i1 = some d1) (hi2 : dstOf ini i2 = some d2) (hne : i1 ≠ i2) (hz1 : ∀ g, a.tmps[d1]? ≠ some (toBlk g)) (hz2 : ∀ g, a.tmps[d2]? ≠ some (toBlk g))
    (hV : ∀ i v w w', V i v w → R w w' → V i v w') (hUV : ∀ w i v w', U w i v w' → V i v w') (hU1 : ∀ w v w', U w i1 v w' → v = toBlk w.heap.size ∧ w.heap.size < w'.heap.size) (hU2 : ∀ w v w', U w i2 v w' → v = toBlk w.heap.size ∧ w.heap.size < w'.heap.size)
    (hRs : ∀ w w', R w w' → w.heap.size ≤ w'.heap.size) (hT : ∀ a b c, R a b → R b c → R a c) (h0 : R w.drew w.drew) (ds : List (Option Tmp)) (hds : dsts ini = ds) (tl : List Oper) (htl : ops.toList.drop m = tl)
    (steps : StepsNew P ops Q V U R a w.drew 0 ini.toList)
    (last : ∀ (vs : Nat → Value) (w' : World), (∀ i, i < m → V i (vs i) w') → (∀ g h, vs i1 = toBlk g → vs i2 = toBlk h → g ≠ h) → R w.drew w' → TailFrom P ops Q m tl (putFrom vs 0 ds a) w') : (Code.region id ops true).wp P Q a w := by
  subst hn hds htl
  refine wp_region_any hm ?_
  have hex : ∀ i o, i < m → ops[i]? = some o → ini[i]? = some o := fun i o hi ho => by
    rw [← hini, Array.getElem?_extract]
    simp only [Nat.zero_add]
    rw [if_pos (by omega)]
    exact ho
  have hex' : ∀ i o, ini[i]? = some o → ops[i]? = some o ∧ i < m := fun i o ho => by
    have hi : i < ini.size := (Array.getElem?_eq_some_iff.1 ho).1
    rw [hmi] at hi
    rw [← hini, Array.getElem?_extract] at ho
    simp only [Nat.zero_add] at ho
    rw [if_pos (by omega)] at ho
    exact ⟨ho, hi⟩
  obtain ⟨o1, ho1, hd1⟩ := Option.bind_eq_some_iff.1 (show (ini[i1]?).bind (·.dst) = some d1 from hi1)
  obtain ⟨o2, ho2, hd2⟩ := Option.bind_eq_some_iff.1 (show (ini[i2]?).bind (·.dst) = some d2 from hi2)
  obtain ⟨hp1, hl1⟩ := hex' i1 o1 ho1
  obtain ⟨hp2, hl2⟩ := hex' i2 o2 ho2
  have hdd : d1 ≠ d2 := fun e => hne ((regionB_dst hB hp2 hd2).2 i1 o1 hp1 (by rw [hd1, e]))
  have hb1 := (regionB_dst hB hp1 hd1).1
  have hb2 := (regionB_dst hB hp2 hd2).1
  refine wpAny_facts_inv (a0 := a) (w0 := w.drew) (m := m) (I := TwoBlk d1 d2) hsz hre hB hV hT hUV (fun i o a' v w1 w2 hi ho hsa hIn hu hR => ?_) (fun i o a' w' hi ho hF hR => ?_) (fun a' w' hF hO hIn hR => ?_) _ _ _ _ (by simp) ?_ (fun j _ => ?_) (fun k o ho hk => ?_) ⟨fun j o hj _ => ?_, fun _ _ => rfl, rfl, rfl⟩ (fun _ _ => rfl) ⟨fun g h => absurd h (hz1 g), fun g h => absurd h (hz2 g), fun g _ h => absurd h (hz1 g)⟩ h0
  · have hs := hRs _ _ hR
    obtain ⟨q1, q2, q3⟩ := hIn
    by_cases e1 : i = i1
    · subst e1
      rw [hp1] at ho
      cases ho
      obtain ⟨rfl, hlt⟩ := hU1 _ _ _ hu
      rw [hd1]
      have p1 : (a'.put (some d1) (toBlk w1.heap.size)).tmps[d1]? = some (toBlk w1.heap.size) := put_same (by rw [hsa]; exact hb1)
      have p2 : (a'.put (some d1) (toBlk w1.heap.size)).tmps[d2]? = a'.tmps[d2]? := put_other (by simpa using hdd)
      refine ⟨fun g h => ?_, fun g h => ?_, fun g k h h' => ?_⟩
      · rw [p1] at h; injection h with h; injection h with h; injection h with h; injection h with h; omega
      · rw [p2] at h; have := q2 g h; omega
      · rw [p1] at h; rw [p2] at h'; injection h with h; injection h with h; injection h with h; injection h with h; have := q2 k h'; omega
    · by_cases e2 : i = i2
      · subst e2
        rw [hp2] at ho
        cases ho
        obtain ⟨rfl, hlt⟩ := hU2 _ _ _ hu
        rw [hd2]
        have p1 : (a'.put (some d2) (toBlk w1.heap.size)).tmps[d2]? = some (toBlk w1.heap.size) := put_same (by rw [hsa]; exact hb2)
        have p2 : (a'.put (some d2) (toBlk w1.heap.size)).tmps[d1]? = a'.tmps[d1]? := put_other (by simpa using Ne.symm hdd)
        refine ⟨fun g h => ?_, fun g h => ?_, fun g k h h' => ?_⟩
        · rw [p2] at h; have := q1 g h; omega
        · rw [p1] at h; injection h with h; injection h with h; injection h with h; injection h with h; omega
        · rw [p2] at h; rw [p1] at h'; injection h' with h'; injection h' with h'; injection h' with h'; injection h' with h'; have := q1 g h; omega
      · have p1 : (a'.put o.dst v).tmps[d1]? = a'.tmps[d1]? := put_other fun g => e1 ((regionB_dst hB ho g).2 i1 o1 hp1 hd1).symm
        have p2 : (a'.put o.dst v).tmps[d2]? = a'.tmps[d2]? := put_other fun g => e2 ((regionB_dst hB ho g).2 i2 o2 hp2 hd2).symm
        refine ⟨fun g h => ?_, fun g h => ?_, fun g k h h' => ?_⟩
        · rw [p1] at h; have := q1 g h; omega
        · rw [p2] at h; have := q2 g h; omega
        · rw [p1] at h; rw [p2] at h'; exact q3 g k h h'
  · have := StepsNew.at_ ini.toList 0 i o steps (by rw [Array.getElem?_toList]; exact hex i o hi ho) a' w' hF hR
    rw [Nat.zero_add] at this
    exact this
  · have hF' : RF ini V a (fun j => j < ini.size) a' w' := by
      refine ⟨fun j o hj hoj => hF.at_ j o (by omega) (hex' j o hoj).1, fun k hk => hO k fun j o hj hoj => hk j o (hex j o hj hoj), hF.size, hF.defers⟩
    obtain ⟨vs, hvs, rfl⟩ := hF'.frame hBi
    have hat : ∀ j : Nat, (dsts ini)[j]? = (ini[j]?).map (fun o : Oper => o.dst) := fun j => by simp [dsts]
    have key : ∀ i o d, ini[i]? = some o → o.dst = some d → (putFrom vs 0 (dsts ini) a).tmps[d]? = some (vs i) := fun i o d ho hd => by
      rw [putFrom_at vs d (dsts ini) 0 a i (regionB_dst hBi ho hd).1 (by rw [hat, ho]; simp [hd]) (fun j' hj' => ?_), Nat.zero_add]
      rw [hat] at hj'
      obtain ⟨o', ho', hd'⟩ := Option.map_eq_some_iff.1 hj'
      exact (regionB_dst hBi ho hd).2 j' o' ho' hd'
    refine last vs w' (fun i hi => hvs i (by omega)) (fun g h e1 e2 => hIn.2.2 g h ?_ ?_) hR
    · rw [key i1 o1 d1 ho1 hd1, e1]
    · rw [key i2 o2 d2 ho2 hd2, e2]
  · have := List.countP_le_length (p := fun j => !(Array.replicate ops.size false).getD j false) (l := List.range ops.size)
    simpa using this
  · rw [Array.getD_eq_getD_getElem?, Array.getElem?_replicate]
    split <;> rfl
  · rw [Array.getD_eq_getD_getElem?, Array.getElem?_replicate] at hk
    split at hk <;> cases hk
  · rw [Array.getD_eq_getD_getElem?, Array.getElem?_replicate] at hj
    split at hj <;> cases hj
end
end Go.Proofs.Yteoilfeldehldaa
