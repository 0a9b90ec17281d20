/- Words of my own: a region by facts (W11) whose last operations wait, each, for all ahead of it (the stores and assignments of a statement): these are run one behind the other, on the whole frame. -/
import Derived.Test.YtmokofblmkeloaaGreatDoorB09
import Derived.Test.YtmokofblmkeloaaGreatDoorB04
import Derived.Test.YtmokofblmkeloaaGreatDoorB06
import Derived.Test.YtmokofblmkeloaaGreatDoorB03
import Derived.Test.YtmokofblmkeloaaGreatDoorMA
import Derived.Test.YtmokofblmkeloaaGreatDoorB08
import Derived.Deep.CutRange
namespace Go.Proofs.YtmokofblmkeloaaGreatDoor
open Go
section
variable {P : Program} {md : Region.Mode} {ops : Array Oper} {Q : Exit → Act → World → Prop} {V : Nat → Value → World → Prop} {R : World → World → Prop} {a0 : Act} {w0 : World}
/-- Operations one behind the other. -/
def TailFrom (P : Program) (ops : Array Oper) (Q : Exit → Act → World → Prop) : Nat → List Oper → Act → World → Prop
  | _, [], a, w => Q .normal a w
  | k, _ :: l, a, w => wpOp P ops Q k (fun a' w' => TailFrom P ops Q (k + 1) l a' w') a w
theorem wpAny_tail (hB : regionB md ops a0.tmps.size = true) : ∀ (l : List Oper) (k : Nat), ops.toList.drop k = l →
    (∀ i, k ≤ i → ∀ o, ops[i]? = some o → ∀ j, k ≤ j → j < i → ∃ e ∈ o.after, Region.binds md e = true ∧ e.on = j) →
    ∀ (fuel : Nat) (listed : Array Bool) (a : Act) (w : World), listed.size = ops.size → (∀ j, j < k → j < ops.size → listed.getD j false = true) → (∀ j, k ≤ j → listed.getD j false = false) → l.length ≤ fuel → TailFrom P ops Q k l a w → wpAny P md ops Q fuel listed a w := by
  intro l
  induction l with
  | nil =>
    intro k hd hw fuel listed a w hs h1 h2 hf hT
    have hk : ops.size ≤ k := by simpa using hd
    have hr : Region.ready md ops listed = [] := by
      apply List.eq_nil_iff_forall_not_mem.2
      intro j hj
      obtain ⟨g0, oj, hoj, _⟩ := mem_ready.1 hj
      have hjl : j < ops.size := (Array.getElem?_eq_some_iff.1 hoj).1
      have := h1 j (by omega) hjl
      have hjs : j < listed.size := by omega
      simp [Array.getD, hjs] at this g0
      rw [this] at g0
      cases g0
    cases fuel with
    | zero => exact ⟨hr, hT⟩
    | succ f => exact ⟨fun _ => hT, fun j hj => by rw [hr] at hj; cases hj⟩
  | cons o l ih =>
    intro k hd hw fuel listed a w hs h1 h2 hf hT
    have hk : k < ops.size := by
      rcases Nat.lt_or_ge k ops.size with g | g
      · exact g
      · have : ops.toList.drop k = [] := by simpa using g
        rw [this] at hd
        cases hd
    have hok : ops[k]? = some ops[k] := Array.getElem?_eq_getElem hk
    cases fuel with
    | zero => simp at hf
    | succ f =>
      refine ⟨fun hr => ?_, fun i hi => ?_⟩
      · exfalso
        have hm : k ∈ Region.ready md ops listed := by
          refine mem_ready.2 ⟨?_, ops[k], hok, fun e he hb => ?_⟩
          · have := h2 k (Nat.le_refl _)
            have hks : k < listed.size := by omega
            simp [Array.getD, hks] at this ⊢
            exact this
          · have hlt := regionB_after hB hok e he hb
            exact h1 _ hlt (by omega)
        rw [hr] at hm
        cases hm
      · obtain ⟨g0, oi, hoi, hall⟩ := mem_ready.1 hi
        have hil : i < ops.size := (Array.getElem?_eq_some_iff.1 hoi).1
        have hge : k ≤ i := by
          rcases Nat.lt_or_ge i k with g | g
          · exfalso
            have := h1 i g hil
            have his : i < listed.size := by omega
            simp [Array.getD, his] at this g0
            rw [this] at g0
            cases g0
          · exact g
        have hik : i = k := by
          rcases Nat.lt_or_ge k i with g | g
          · exfalso
            obtain ⟨e, he, hb, hon⟩ := hw i hge oi hoi k (Nat.le_refl _) g
            have := hall e he hb
            rw [hon, h2 k (Nat.le_refl _)] at this
            cases this
          · omega
        subst hik
        refine wpOp_mono (fun a' w' h' => ?_) hT
        refine ih (i + 1) ?_ (fun j hj o ho j' hj' => hw j (by omega) o ho j' (by omega)) f _ a' w' (by simpa using hs) (fun j hj hjl => ?_) (fun j hj => ?_) (by simpa using hf) h'
        · rw [← List.drop_drop, hd]
          rfl
        · by_cases e : j = i
          · subst e
            have hjs : j < listed.size := by omega
            simp [Array.getD_eq_getD_getElem?, hjs]
          · have := h1 j (by omega) hjl
            simpa [Array.getD_eq_getD_getElem?, Array.getElem?_setIfInBounds, Ne.symm e] using this
        · have e : j ≠ i := by omega
          have := h2 j (by omega)
          simpa [Array.getD_eq_getD_getElem?, Array.getElem?_setIfInBounds, Ne.symm e] using this
/-- Slots of none of the first m operations are as they were. -/
def OldM (ops : Array Oper) (m : Nat) (a0 a : Act) : Prop := ∀ k : Tmp, (∀ (j : Nat) (o : Oper), j < m → ops[j]? = some o → o.dst ≠ some k) → a.tmps[k]? = a0.tmps[k]?
/-- An operation of the tail that leaves a value. -/
theorem wpOp_leaves {i : Nat} {o : Oper} {K : Act → World → Prop} {a : Act} {w w' : World} {v : Value} (ho : ops[i]? = some o) (hg : o.guard = none) (hr : (execOp a.eval o).run P w = .ok (.value v) w') (hK : K (a.put o.dst v) w') : wpOp P ops Q i K a w := by
  refine wpOp_step ho fun K' h => ?_
  rw [if_pos (by simp [Region.wanted, hg])]
  unfold Oper.wp
  rw [hr, Oper.upon_value]
  exact h _ _ hK
theorem wpAny_only {i fuel : Nat} {listed : Array Bool} {a : Act} {w : World} (hi : i ∈ Region.ready md ops listed) (honly : ∀ j ∈ Region.ready md ops listed, j = i) (h : wpOp P ops Q i (fun a' w' => wpAny P md ops Q fuel (listed.setIfInBounds i true) a' w') a w) : wpAny P md ops Q (fuel + 1) listed a w :=
  ⟨fun hr => by (rw [hr] at hi; cases hi), fun j hj => by (obtain rfl := honly j hj; exact h)⟩
theorem ready_iff {listed : Array Bool} (hs : listed.size = ops.size) {i : Nat} : i ∈ Region.ready md ops listed ↔ listed.getD i false = false ∧ ∃ o, ops[i]? = some o ∧ ∀ e ∈ o.after, Region.binds md e = true → listed.getD e.on false = true := by
  constructor
  · intro hi
    obtain ⟨h0, o, ho, hall⟩ := mem_ready.1 hi
    have hlt : i < ops.size := (Array.getElem?_eq_some_iff.1 ho).1
    have hls : i < listed.size := by omega
    refine ⟨?_, o, ho, hall⟩
    simp [Array.getD, hls] at h0 ⊢
    exact h0
  · rintro ⟨h0, o, ho, hall⟩
    have hlt : i < ops.size := (Array.getElem?_eq_some_iff.1 ho).1
    have hls : i < listed.size := by omega
    refine mem_ready.2 ⟨?_, o, ho, hall⟩
    simp [Array.getD, hls] at h0 ⊢
    exact h0
theorem getD_set {listed : Array Bool} {i j : Nat} (hi : i < listed.size) : (listed.setIfInBounds i true).getD j false = (if j = i then true else listed.getD j false) := by
  by_cases e : j = i
  · subst e
    simp [Array.getD_eq_getD_getElem?, hi]
  · simp [Array.getD_eq_getD_getElem?, Ne.symm e, e]
/-- Slots of none of the first m operations but f are as they were. -/
def OldF (ops : Array Oper) (m f : Nat) (a0 a : Act) : Prop := ∀ k : Tmp, (∀ (j : Nat) (o : Oper), j < m → j ≠ f → ops[j]? = some o → o.dst ≠ some k) → a.tmps[k]? = a0.tmps[k]?
theorem wpAny_facts_float {m f : Nat} (hsz : ops.size = m + 2) (hfm : f < m) {om o1 : Oper} (hom : ops[m]? = some om) (ho1 : ops[m + 1]? = some o1)
    (hwm : ∀ j, j < m → j ≠ f → ∃ e ∈ om.after, Region.binds md e = true ∧ e.on = j) (hw1 : ∀ j, j < m + 1 → ∃ e ∈ o1.after, Region.binds md e = true ∧ e.on = j)
    (hB : regionB md ops a0.tmps.size = true) (hV : ∀ i v w w', V i v w → R w w' → V i v w') (hT : ∀ a b c, R a b → R b c → R a c)
    (step : ∀ (i : Nat) (o : Oper) (a : Act) (w : World), i < m → ops[i]? = some o → RF ops V a0 (fun j => ∃ e ∈ o.after, Region.binds md e = true ∧ e.on = j) a w → R w0 w → wpOp P ops Q i (fun a' w' => ∃ v, a' = a.put o.dst v ∧ V i v w' ∧ R w w') a w)
    (tailA : ∀ a w, RF ops V a0 (fun j => j < m) a w → OldM ops m a0 a → R w0 w → wpOp P ops Q m (fun a' w' => wpOp P ops Q (m + 1) (fun a'' w'' => Q .normal a'' w'') a' w') a w)
    (tailB : ∀ a w, RF ops V a0 (fun j => j < m ∧ j ≠ f) a w → OldF ops m f a0 a → R w0 w → wpOp P ops Q m (fun a' w' => wpOp P ops Q f (fun a'' w'' => wpOp P ops Q (m + 1) (fun a3 w3 => Q .normal a3 w3) a'' w'') a' w') a w) :
    ∀ (fuel : Nat) (listed : Array Bool) (a : Act) (w : World), listed.size = ops.size → (List.range ops.size).countP (fun j => !listed.getD j false) ≤ fuel → (∀ j, m ≤ j → listed.getD j false = false) →
      RF ops V a0 (fun j => listed.getD j false = true) a w → OldM ops m a0 a → (listed.getD f false = false → OldF ops m f a0 a) → R w0 w → wpAny P md ops Q fuel listed a w := by
  have count2 : ∀ (listed : Array Bool), (∀ j, m ≤ j → listed.getD j false = false) → 2 ≤ (List.range ops.size).countP (fun j => !listed.getD j false) := by
    intro listed hun
    rw [hsz, List.range_succ, List.range_succ, List.countP_append, List.countP_append]
    have e1 : List.countP (fun j => !listed.getD j false) [m] = 1 := by rw [List.countP_singleton, hun m (Nat.le_refl _)]; rfl
    have e2 : List.countP (fun j => !listed.getD j false) [m + 1] = 1 := by rw [List.countP_singleton, hun (m + 1) (by omega)]; rfl
    omega
  intro fuel
  have full : ∀ (fuel : Nat) (listed : Array Bool) (a : Act) (w : World), listed.size = ops.size → (List.range ops.size).countP (fun j => !listed.getD j false) ≤ fuel → (∀ j, m ≤ j → listed.getD j false = false) →
      RF ops V a0 (fun j => listed.getD j false = true) a w → OldM ops m a0 a → R w0 w → (∀ j, j < m → listed.getD j false = true) → wpAny P md ops Q fuel listed a w := by
    intro fuel listed a w hs hc hun hF hO hR hall
    have hd : ops.toList.drop m = [om, o1] := by
      apply List.ext_getElem?
      intro j
      rw [List.getElem?_drop, Array.getElem?_toList]
      match j with
      | 0 => exact hom
      | 1 => exact ho1
      | j + 2 => rw [Array.getElem?_eq_none (by omega)]; rfl
    refine wpAny_tail hB [om, o1] m hd (fun i hi o ho j hj hji => ?_) fuel listed a w hs (fun j hj _ => hall j hj) hun ?_ (tailA a w (hF.mono fun j hj => hall j hj) hO hR)
    · have hil : i < ops.size := (Array.getElem?_eq_some_iff.1 ho).1
      obtain rfl : i = m + 1 := by omega
      rw [ho1] at ho
      cases ho
      exact hw1 j hji
    · have := count2 listed hun
      show 2 ≤ fuel
      omega
  induction fuel with
  | zero =>
    intro listed a w hs hc hun hF hO hO2 hR
    have := count2 listed hun
    omega
  | succ fuel ih =>
    intro listed a w hs hc hun hF hO hO2 hR
    by_cases hall : ∀ j, j < m → listed.getD j false = true
    · exact full (fuel + 1) listed a w hs hc hun hF hO hR hall
    refine ⟨fun hr => ?_, fun i hi => ?_⟩
    · exact absurd (fun j hj => ready_some hB hs hr j (by omega)) hall
    obtain ⟨huni, o, ho, hrd⟩ := (ready_iff hs).1 hi
    have hlt : i < ops.size := (Array.getElem?_eq_some_iff.1 ho).1
    have hls : i < listed.size := by omega
    have hcl := count_less (listed := listed) (i := i) (n := ops.size) hls huni hlt
    by_cases him : i < m
    · have hst := step i o a w him ho (hF.mono (by rintro j ⟨e, he, hb, rfl⟩; exact hrd e he hb)) hR
      refine wpOp_mono (fun a' w' h' => ?_) hst
      obtain ⟨v, rfl, hv, hR'⟩ := h'
      refine ih (listed.setIfInBounds i true) _ w' (by simpa using hs) (by omega) (fun j hj => ?_) ((hF.step hB hV ho hv hR').mono ?_) (fun k hk => by rw [put_other (hk i o him ho)]; exact hO k hk) (fun hnf k hk => ?_) (hT _ _ _ hR hR')
      · rw [getD_set hls, if_neg (by omega)]
        exact hun j hj
      · intro j hj
        rw [getD_set hls] at hj
        by_cases e : j = i
        · exact .inr e
        · left
          rwa [if_neg e] at hj
      · rw [getD_set hls] at hnf
        have e : f ≠ i := by rintro rfl; simp at hnf
        rw [if_neg e] at hnf
        rw [put_other (hk i o him (Ne.symm e) ho)]
        exact hO2 hnf k hk
    · have him1 : i = m := by
        rcases Nat.lt_or_ge m i with g | g
        · exfalso
          obtain rfl : i = m + 1 := by omega
          rw [ho1] at ho
          cases ho
          obtain ⟨e, he, hb, hon⟩ := hw1 m (by omega)
          have := hrd e he hb
          rw [hon, hun m (Nat.le_refl _)] at this
          cases this
        · omega
      subst him1
      rw [hom] at ho
      cases ho
      have hoth : ∀ j, j < i → j ≠ f → listed.getD j false = true := fun j hj hjf => by
        obtain ⟨e, he, hb, rfl⟩ := hwm j hj hjf
        exact hrd e he hb
      have hnf : listed.getD f false = false := by
        cases hfl : listed.getD f false with
        | false => rfl
        | true =>
          exfalso
          refine hall fun j hj => ?_
          by_cases e : j = f
          · subst e; exact hfl
          · exact hoth j hj e
      have hc2 : 2 ≤ fuel := by
        have := count2 (listed.setIfInBounds f true) (fun j hj => by rw [getD_set (by omega), if_neg (by omega)]; exact hun j hj)
        have h3 := count_less (listed := listed) (i := f) (n := ops.size) (by omega) hnf (by omega)
        omega
      obtain ⟨fu, rfl⟩ : ∃ fu, fuel = fu + 2 := ⟨fuel - 2, by omega⟩
      refine wpOp_mono (fun a' w' h' => ?_) (tailB a w (hF.mono fun j hj => hoth j hj.1 hj.2) (hO2 hnf) hR)
      have hs1 : (listed.setIfInBounds i true).size = ops.size := by simpa using hs
      have hff : ops[f]? = some ops[f] := Array.getElem?_eq_getElem (by omega)
      have r1 : f ∈ Region.ready md ops (listed.setIfInBounds i true) := by
        refine (ready_iff hs1).2 ⟨?_, ops[f], hff, fun e he hb => ?_⟩
        · rw [getD_set hls, if_neg (by omega)]
          exact hnf
        · have hlf := regionB_after hB hff e he hb
          rw [getD_set hls, if_neg (by omega)]
          exact hoth _ (by omega) (by omega)
      refine wpAny_only r1 (fun j hj => ?_) (wpOp_mono (fun a2 w2 h2 => ?_) h')
      · obtain ⟨g0, oj, hoj, hall'⟩ := (ready_iff hs1).1 hj
        have hjl : j < ops.size := (Array.getElem?_eq_some_iff.1 hoj).1
        rw [getD_set hls] at g0
        by_cases e : j = i
        · rw [if_pos e] at g0; cases g0
        · rw [if_neg e] at g0
          rcases Nat.lt_or_ge j i with g | g
          · rcases Nat.decEq j f with h | h
            · have := hoth j g h
              rw [this] at g0; cases g0
            · exact h
          · exfalso
            obtain rfl : j = i + 1 := by omega
            rw [ho1] at hoj
            cases hoj
            obtain ⟨e', he', hb', hon'⟩ := hw1 f (by omega)
            have := hall' e' he' hb'
            rw [hon', getD_set hls, if_neg (by omega), hnf] at this
            cases this
      · have hs2 : ((listed.setIfInBounds i true).setIfInBounds f true).size = ops.size := by simpa using hs
        have hlf : f < (listed.setIfInBounds i true).size := by omega
        have st : ∀ j, j < i + 1 → ((listed.setIfInBounds i true).setIfInBounds f true).getD j false = true := fun j hj => by
          rw [getD_set hlf]
          by_cases e : j = f
          · rw [if_pos e]
          · rw [if_neg e, getD_set hls]
            by_cases e2 : j = i
            · rw [if_pos e2]
            · rw [if_neg e2]
              exact hoth j (by omega) e
        have sn : ((listed.setIfInBounds i true).setIfInBounds f true).getD (i + 1) false = false := by
          rw [getD_set hlf, if_neg (by omega), getD_set hls, if_neg (by omega)]
          exact hun _ (by omega)
        have r2 : i + 1 ∈ Region.ready md ops ((listed.setIfInBounds i true).setIfInBounds f true) := by
          refine (ready_iff hs2).2 ⟨sn, o1, ho1, fun e he hb => ?_⟩
          have hlf2 := regionB_after hB ho1 e he hb
          exact st _ hlf2
        refine wpAny_only r2 (fun j hj => ?_) (wpOp_mono (fun a3 w3 h3 => ?_) h2)
        · obtain ⟨g0, oj, hoj, _⟩ := (ready_iff hs2).1 hj
          have hjl : j < ops.size := (Array.getElem?_eq_some_iff.1 hoj).1
          rcases Nat.lt_or_ge j (i + 1) with g | g
          · rw [st j g] at g0; cases g0
          · omega
        · have hlo : i + 1 < ((listed.setIfInBounds i true).setIfInBounds f true).size := by omega
          have hr : Region.ready md ops (((listed.setIfInBounds i true).setIfInBounds f true).setIfInBounds (i + 1) true) = [] := by
            apply List.eq_nil_iff_forall_not_mem.2
            intro j hj
            obtain ⟨g0, oj, hoj, _⟩ := (ready_iff (by simpa using hs)).1 hj
            have hjl : j < ops.size := (Array.getElem?_eq_some_iff.1 hoj).1
            rw [getD_set hlo] at g0
            by_cases e : j = i + 1
            · rw [if_pos e] at g0; cases g0
            · rw [if_neg e, st j (by omega)] at g0; cases g0
          cases fu with
          | zero => exact ⟨hr, h3⟩
          | succ f3 => exact ⟨fun _ => h3, fun j hj => by (rw [hr] at hj; cases hj)⟩
end
end Go.Proofs.YtmokofblmkeloaaGreatDoor

/- Contracts of layer 16: More and Seen, the program's and the document's. -/
namespace Go.Proofs.YtmokofblmkeloaaGreatDoor
open Go.RowKit
set_option linter.unusedVariables false
set_option maxRecDepth 100000
attribute [local go_sem ↓] Go.wp_at_zero Go.wp_at_succ
theorem anchorMore (h : Int) (w : World) : Calls Tryz.prog 126 #[.int .i64 h] w fun e w' => e = .returned (.int .i64 (Anchor.more h)) ∧ Ok w w' := by
  have hok := Ok.refl w
  have KB := Lib.hid fun w => satBound (Sat.sum [h, 1]) 0 1073741824 w
  rw [show Sat.bound (Sat.sum [h, 1]) 0 1073741824 = Anchor.more h from rfl] at KB
  go_enter Tryz.func126, Tryz.ntmps126
  go_wp2_with (first | (go_at_call 49; refine (satAdd _ [h, 1] 2 _ (ints_new _ [h, 1] _ _ rfl (by simp)) (by simp)).mono ?_; rintro e w1 ⟨rfl, rfl⟩) | (go_at_call 55; refine (KB.out _).mono ?_; rintro e w1 ⟨rfl, rfl⟩))
  go_ret
  exact ⟨rfl, hok.alloc _⟩
end Go.Proofs.YtmokofblmkeloaaGreatDoor

/- Contracts of layer 16: Held and Fuse, the program's and the document's. -/
namespace Go.Proofs.YtmokofblmkeloaaGreatDoor
open Go.RowKit
set_option linter.unusedVariables false
set_option maxRecDepth 100000
attribute [local go_sem ↓] Go.wp_at_zero Go.wp_at_succ
theorem anchorHeld (p : Par) (A : Option Addr) (l : List Int) (cap : Nat) (w : World) (hI : IntsAt w A l) (hl : l.length ≤ 1099511627776) :
    Calls Tryz.prog 123 #[parV p, .slice A l.length cap] w fun e w' => e = .returned (.tuple #[.int .i64 (Anchor.held p.f l), .bool (Trim.is p.f l.length)]) ∧ Ok w w' := by
  have KL := Lib.hid fun w h => trimLeast p.f A l cap w h hl
  have KM := Lib.hid fun w => anchorMore (Trim.val p.f l) w
  have HE := Lib.hid (show Anchor.held p.f l = if Trim.is p.f l.length = true then Anchor.more (Trim.val p.f l) else 1073741824 from rfl)
  have hI2 := hI.alloc (.cells (parCells p) 23)
  have hok := (Ok.refl w).alloc (.cells (parCells p) 23)
  have hP := Own.new w (parCells p) 23 rfl
  generalize Anchor.held p.f l = z at HE ⊢
  generalize Anchor.more (Trim.val p.f l) = m at HE KM
  generalize Trim.val p.f l = v at KL KM
  generalize Trim.is p.f l.length = q at KL HE ⊢
  cases q
  · have hz : z = 1073741824 := HE.out
    subst hz
    clear HE KM
    go_enter Tryz.func123, Tryz.ntmps123
    go_upto_region 1 with fail
    generalize w.alloc (.cells (parCells p) 23) = W at hP hok hI2 ⊢
    obtain ⟨B, hB⟩ : ∃ r, w.heap.size = r := ⟨_, rfl⟩
    rw [hB] at hP ⊢
    clear hB
    obtain ⟨c0, c1, c2, c3, c4, c5, c6, c7, c8, c9, c10, c11⟩ := hP.pars
    have hPl := hP.lt
    go_wp2_with (go_at_call 156; refine (KL.out _ hI2).mono ?_; rintro e w1 ⟨rfl, hb1⟩; replace hok := hok.trans hb1; clear hb1)
    go_ret2
    exact ⟨rfl, hok⟩
  · have hz : z = m := HE.out
    subst hz
    clear HE
    go_enter Tryz.func123, Tryz.ntmps123
    go_upto_region 1 with fail
    generalize w.alloc (.cells (parCells p) 23) = W at hP hok hI2 ⊢
    obtain ⟨B, hB⟩ : ∃ r, w.heap.size = r := ⟨_, rfl⟩
    rw [hB] at hP ⊢
    clear hB
    obtain ⟨c0, c1, c2, c3, c4, c5, c6, c7, c8, c9, c10, c11⟩ := hP.pars
    have hPl := hP.lt
    go_wp2_with (first | (go_at_call 156; refine (KL.out _ hI2).mono ?_; rintro e w1 ⟨rfl, hb1⟩; replace hok := hok.trans hb1; clear hb1) | (go_at_call 126; refine (KM.out _).mono ?_; rintro e w2 ⟨rfl, hb1⟩; replace hok := hok.trans hb1; clear hb1))
    go_ret2
    exact ⟨rfl, hok⟩
theorem anchorFuse (p : Par) (A : Option Addr) (l : List (Int × Int)) (cap : Nat) (w : World) (hA : PairsAt w A l) (hl : l.length ≤ 1099511627776) (hf : -9223372036854775808 ≤ p.f ∧ p.f ≤ 9223372036854775807) :
    Calls Tryz.prog 122 #[parV p, .slice A l.length cap] w fun e w' => e = .returned (.tuple #[spanV (fz p.f l).1 (fz p.f l).2, .bool (fLeft p.f l)]) ∧ Ok w w' := by
  have KF := Lib.hid fun w h => trimFuse p.f A l cap w h hl hf
  generalize (fz p.f l).1 = x at KF ⊢
  generalize (fz p.f l).2 = y at KF ⊢
  generalize fLeft p.f l = q at KF ⊢
  have hP := (Own.new w (parCells p) 23 rfl).alloc (.cells #[.int .i64 0, .int .i64 0] 25)
  have hZ := Slab.new (w.alloc (.cells (parCells p) 23)) 0 0 25 (g := w.heap.size + 1) (by simp)
  have hok := ((Ok.refl w).alloc (.cells (parCells p) 23)).alloc (.cells #[.int .i64 0, .int .i64 0] 25)
  replace hA := hA.below hok
  have hrw : w.heap.size ≤ w.heap.size + 1 := by omega
  clear hf
  go_enter Tryz.func122, Tryz.ntmps122
  go_upto_region 1 with fail
  generalize (w.alloc (.cells (parCells p) 23)).alloc (.cells #[.int .i64 0, .int .i64 0] 25) = W at hP hZ hok hA ⊢
  obtain ⟨r, hr⟩ : ∃ r, w.heap.size + 1 = r := ⟨_, rfl⟩
  rw [hr] at hZ hrw ⊢
  clear hr
  obtain ⟨B, hB⟩ : ∃ r, w.heap.size = r := ⟨_, rfl⟩
  rw [hB] at hP hrw ⊢
  obtain ⟨c0, c1, c2, c3, c4, c5, c6, c7, c8, c9, c10, c11⟩ := hP.pars
  have hPl := hP.lt
  go_wp2_with (go_at_call 155; refine (KF.out _ hA).mono ?_; rintro e w1 ⟨rfl, hb1⟩; replace hok := hok.trans hb1; have hR := hZ.next hb1; clear hb1; have r0 := hR.c0; have r1 := hR.c1; have f0 := hR.f0; have f1 := hR.f1; have hrl := hR.lt)
  have hX := hR.set x y
  have hok3 := (hok.setCell (p := ⟨r, 0, none⟩) (hB ▸ hrw) (.int .i64 x)).setCell (p := ⟨r, 1, none⟩) (hB ▸ hrw) (.int .i64 y)
  generalize (w1.setCell ⟨r, 0, none⟩ (.int .i64 x)).setCell ⟨r, 1, none⟩ (.int .i64 y) = W4 at hX hok3 ⊢
  have s0 := hX.c0
  have s1 := hX.c1
  exact bodyPost_ret (v := .tuple #[spanV x y, .bool q]) (by simp [results, Tryz.results122, go_sem, s0, s1]) rfl ⟨rfl, hok3⟩
end Go.Proofs.YtmokofblmkeloaaGreatDoor

/- Words of my own: a fabric's numbers that came in by value. -/
namespace Go.Proofs.YtmokofblmkeloaaGreatDoor
open Go.RowKit Go.WideShapes Go.ChangeShapes Go.Joins Go.Deep
/-- All of a fabric's numbers are numbers of 64 bits. -/
def ParWf (p : Par) : Prop := (Lit.int .i64 p.n).wf = true ∧ (Lit.int .i64 p.f).wf = true ∧ (Lit.int .i64 p.d).wf = true ∧ (Lit.int .i64 p.beat).wf = true ∧ (Lit.int .i64 p.rho).wf = true ∧ (Lit.int .i64 p.delay).wf = true ∧
  (Lit.int .i64 p.jit).wf = true ∧ (Lit.int .i64 p.eps).wf = true ∧ (Lit.int .i64 p.mu).wf = true ∧ (Lit.int .i64 p.hold).wf = true ∧ (Lit.int .i64 p.pulse).wf = true ∧ (Lit.int .i64 p.sec).wf = true
section
variable {H : Type} {enc : TypeId × Value → H} {P : Program} {w : World} {base : Nat} {spare : Nat → Bool} {held : Bool}
theorem open_par {r : Reach} {b0 : Nat} {t : TypeId} {fs : Array Field} {v : Value} {d : DataW H} {p : List MemPlace} (hs : P.underlying t = some (.struct fs)) (hn : fs.size = 12) (hone : oneCellFields P fs = true) (hC : P.cellsOf t = fs.size)
    (hall : (fs.all fun f => match P.underlying f.type with | some (.int .i64) => true | _ => false) = true) (hv : Value.okWide P w r b0 t v) (h : DataW.Trod enc P w base spare held t v d p) :
    ∃ q : Par, v = parV q ∧ ParWf q := by
  obtain ⟨zs, hl, rfl, hw⟩ := open_agg_ints hs hone hC (fun j f hj => by
    have := Array.all_eq_true.1 hall j (Array.getElem?_eq_some_iff.1 hj).1
    rw [(Array.getElem?_eq_some_iff.1 hj).2] at this
    split at this
    · assumption
    · exact absurd this (by simp)) hv h
  rw [hn] at hl
  match zs, hl with
  | [a, b, c, d, e, f, g, h, i, j, k, l], _ => exact ⟨⟨a, b, c, d, e, f, g, h, i, j, k, l⟩, rfl, hw a (by simp), hw b (by simp), hw c (by simp), hw d (by simp), hw e (by simp), hw f (by simp), hw g (by simp), hw h (by simp), hw i (by simp), hw j (by simp), hw k (by simp), hw l (by simp)⟩
end
end Go.Proofs.YtmokofblmkeloaaGreatDoor
