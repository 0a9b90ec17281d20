/- Words of my own: a region by facts (W11) whose last two operations are a store and an assignment, ahead of whose store one operation (f: the second extract of `x, ok := f(..)`) need not have come. -/
import Derived.Test.YtgfnfjkajahoaaaW28
namespace Go.Proofs.Ytgfnfjkajahoaaa
open Go
section
variable {P : Program} {md : Region.Mode} {ops : Array Oper} {Q : Exit → Act → World → Prop} {V : Nat → Value → World → Prop} {R : World → World → Prop} {a0 : Act} {w0 : World}
/-- **A region that draws its order, by facts; a store and an assignment last, one operation floating past the store.** -/
theorem wp_region_facts_float {id : Nat} {a : Act} {w : World} (hm : P.follows .mixedOrders = true) (n : Nat) (hn : a.tmps.size = n) (V : Nat → Value → World → Prop) (R : World → World → Prop) (m f : Nat) (hsz : ops.size = m + 2) (hfm : f < m) (om o1 : Oper) (hom : ops[m]? = some om) (ho1 : ops[m + 1]? = some o1)
    (hre : ((List.range m).all (fun j => j == f || om.after.any fun e => Region.binds .any e && e.on == j) && (List.range (m + 1)).all fun j => o1.after.any fun e => Region.binds .any e && e.on == j) = true) (hB : regionB .any ops n = true)
    (ini inf : Array Oper) (hini : ops.extract 0 m = ini) (hmi : ini.size = m) (hinf : ini.modify f (fun o => { o with dst := none }) = inf) (hBi : regionB .any ini n = true) (hBf : regionB .any inf n = true)
    (hV : ∀ i v w w', V i v w → R w w' → V i v w') (hT : ∀ a b c, R a b → R b c → R a c) (h0 : R w.drew w.drew) (ds dsf : List (Option Tmp)) (hds : dsts ini = ds) (hdsf : dsts inf = dsf)
    (steps : StepsFrom P ops Q V R a w.drew 0 ini.toList)
    (lastA : ∀ (vs : Nat → Value) (w' : World), (∀ i, i < m → V i (vs i) w') → R w.drew w' → wpOp P ops Q m (fun a' w' => wpOp P ops Q (m + 1) (fun a'' w'' => Q .normal a'' w'') a' w') (putFrom vs 0 ds a) w')
    (lastB : ∀ (vs : Nat → Value) (w' : World), (∀ i, i < m → i ≠ f → V i (vs i) w') → R w.drew w' → wpOp P ops Q m (fun a' w' => wpOp P ops Q f (fun a'' w'' => wpOp P ops Q (m + 1) (fun a3 w3 => Q .normal a3 w3) a'' w'') a' w') (putFrom vs 0 dsf a) w') : (Code.region id ops true).wp P Q a w := by
  subst hn hds hdsf
  refine wp_region_any hm ?_
  have hex : ∀ i o, i < m → ops[i]? = some o → ini[i]? = some o := fun i o hi ho => by
    rw [← hini, Array.getElem?_extract]
    simp only [Nat.zero_add]
    rw [if_pos (by omega)]
    exact ho
  have hex' : ∀ i o, ini[i]? = some o → ops[i]? = some o ∧ i < m := fun i o ho => by
    have hi : i < ini.size := (Array.getElem?_eq_some_iff.1 ho).1
    rw [hmi] at hi
    rw [← hini, Array.getElem?_extract] at ho
    simp only [Nat.zero_add] at ho
    rw [if_pos (by omega)] at ho
    exact ⟨ho, hi⟩
  have hr1 : ∀ j, j < m → j ≠ f → ∃ e ∈ om.after, Region.binds .any e = true ∧ e.on = j := fun j hj hjf => by
    have h1 := List.all_eq_true.1 (Bool.and_eq_true_iff.1 hre).1 j (List.mem_range.2 hj)
    simp only [Bool.or_eq_true, beq_iff_eq] at h1
    rcases h1 with h1 | h1
    · exact absurd h1 hjf
    · obtain ⟨e, he, hb⟩ := Array.any_eq_true'.1 h1
      simp only [Bool.and_eq_true, beq_iff_eq] at hb
      exact ⟨e, he, hb.1, hb.2⟩
  have hr2 : ∀ j, j < m + 1 → ∃ e ∈ o1.after, Region.binds .any e = true ∧ e.on = j := fun j hj => by
    have h1 := List.all_eq_true.1 (Bool.and_eq_true_iff.1 hre).2 j (List.mem_range.2 hj)
    obtain ⟨e, he, hb⟩ := Array.any_eq_true'.1 h1
    simp only [Bool.and_eq_true, beq_iff_eq] at hb
    exact ⟨e, he, hb.1, hb.2⟩
  refine wpAny_facts_float (a0 := a) (w0 := w.drew) (m := m) (f := f) hsz hfm hom ho1 hr1 hr2 hB hV hT (fun i o a' w' hi ho hF hR => ?_) (fun a' w' hF hO hR => ?_) (fun a' w' hF hO hR => ?_) _ _ _ _ (by simp) ?_ (fun j _ => ?_) ⟨fun j o hj _ => ?_, fun _ _ => rfl, rfl, rfl⟩ (fun _ _ => rfl) (fun _ _ _ => rfl) h0
  · have := StepsFrom.at_ ini.toList 0 i o steps (by rw [Array.getElem?_toList]; exact hex i o hi ho) a' w' hF hR
    rw [Nat.zero_add] at this
    exact this
  · have hF' : RF ini V a (fun j => j < ini.size) a' w' := by
      refine ⟨fun j o hj hoj => hF.at_ j o (by omega) (hex' j o hoj).1, fun k hk => hO k fun j o hj hoj => hk j o (hex j o hj hoj), hF.size, hF.defers⟩
    obtain ⟨vs, hvs, rfl⟩ := hF'.frame hBi
    exact lastA vs w' (fun i hi => hvs i (by omega)) hR
  · have hsf : inf.size = m := by rw [← hinf, Array.size_modify, hmi]
    have hF' : RF inf (fun i v w => i = f ∨ V i v w) a (fun j => j < inf.size) a' w' := by
      refine ⟨fun j o hj hoj => ?_, fun k hk => hO k fun j o hj hjf hoj => ?_, hF.size, hF.defers⟩
      · rw [← hinf, Array.getElem?_modify] at hoj
        by_cases e : f = j
        · rw [if_pos e] at hoj
          obtain ⟨o2, _, rfl⟩ := Option.map_eq_some_iff.1 hoj
          exact ⟨undef, .inl e.symm, fun d hd => by cases hd⟩
        · rw [if_neg e] at hoj
          obtain ⟨u, hu, hud⟩ := hF.at_ j o ⟨by omega, fun h => e h.symm⟩ (hex' j o hoj).1
          exact ⟨u, .inr hu, hud⟩
      · refine hk j o ?_
        rw [← hinf, Array.getElem?_modify, if_neg (fun h => hjf h.symm)]
        exact hex j o hj hoj
    obtain ⟨vs, hvs, rfl⟩ := hF'.frame hBf
    exact lastB vs w' (fun i hi hif => (hvs i (by omega)).resolve_left hif) hR
  · have := List.countP_le_length (p := fun j => !(Array.replicate ops.size false).getD j false) (l := List.range ops.size)
    simpa using this
  · rw [Array.getD_eq_getD_getElem?, Array.getElem?_replicate]
    split <;> rfl
  · rw [Array.getD_eq_getD_getElem?, Array.getElem?_replicate] at hj
    split at hj <;> cases hj
end
end Go.Proofs.Ytgfnfjkajahoaaa
