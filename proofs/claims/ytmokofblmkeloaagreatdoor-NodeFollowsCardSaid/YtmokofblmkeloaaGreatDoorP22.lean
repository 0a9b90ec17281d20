/- Several texts of mine in one: B02, B20. -/
import Derived.Test.YtmokofblmkeloaaGreatDoorB00
import Derived.Test.YtmokofblmkeloaaGreatDoorB09
import Derived.SizedLaws
/- Words of my own: slices of slices of structs of two integers that came in. -/
namespace Go.Proofs.YtmokofblmkeloaaGreatDoor
open Go.RowKit Go.WideShapes Go.ChangeShapes Go.Joins Go.Deep
set_option maxRecDepth 100000
section
variable {H : Type} {enc : TypeId × Value → H} {P : Program} {w : World}
/-- A slice of structs of two integers, as cells that came in. -/
theorem trod_pairs {t e : TypeId} {f0 f1 : Field} {fuel : Nat} {cs : List Value} {x : DataW H × List MemPlace} (ht : P.underlying t = some (.slice e)) (he : P.underlying e = some (.struct #[f0, f1])) (hone : oneCellFields P #[f0, f1] = true) (hC : P.cellsOf e = 2)
    (h0 : P.underlying f0.type = some (.int .i64)) (h1 : P.underlying f1.type = some (.int .i64)) (hf : DataW.trod enc P w 0 (fun _ => true) true fuel t cs = some x) :
    ∃ (A : Option Addr) (l : List (Int × Int)) (cap : Nat), cs = [.slice A l.length cap] ∧ PairsAt w A l ∧ l.length ≤ cap ∧ cap ≤ maxLen ∧ (∀ s ∈ l, (Lit.int .i64 s.1).wf = true ∧ (Lit.int .i64 s.2).wf = true) ∧ ((∀ n ∈ x.1.weights P t, n ≤ reachBytes) → l.length * P.bytesOf e ≤ reachBytes) := by
  rcases open_slice ht hf with h2 | ⟨a, len', cap', m, n, D, Pl, hcs, hb, hl, hm, hmm, hx, hi⟩
  · exact ⟨none, [], 0, h2.1, PairsAt.empty _ _, by simp, by unfold maxLen; simp, by simp, fun _ => by simp⟩
  · subst hcs
    simp only [if_true] at hmm
    subst hmm
    have key : ∀ i, i < len' → ∃ x y : Int, w.cell? (a.add (i * 2)) = some (.int .i64 x) ∧ w.cell? (a.add (i * 2 + 1)) = some (.int .i64 y) ∧ (Lit.int .i64 x).wf = true ∧ (Lit.int .i64 y).wf = true := by
      intro i hlt
      obtain ⟨cs', hc, ht'⟩ := hi i (by omega)
      rw [hC] at hc
      obtain ⟨ys, n', hn', hy, hlen, hyl, hfl⟩ := DataW.trod_struct he ht'
      obtain ⟨_, hcl, hat⟩ := World.cells?_some hc
      have one : ∀ (j : Nat) (f : Field), #[f0, f1][j]? = some f → P.underlying f.type = some (.int .i64) → ∃ z : Int, w.cell? (a.add (i * 2 + j)) = some (.int .i64 z) ∧ (Lit.int .i64 z).wf = true := by
        intro j f hj hu
        obtain ⟨ho, hk⟩ := hone_of hone j f hj
        have hjl : j < 2 := (Array.getElem?_eq_some_iff.1 hj).1
        have hcell := hat j hjl
        have h1 := hfl j f hj
        rw [ho, hk] at h1
        have e1 : (cs'.drop j).take 1 = [cs'[j]'(by omega)] := by
          rw [List.drop_eq_getElem_cons (by omega)]
          rfl
        have hjs : j < ys.length := by rw [hyl]; exact hjl
        rw [e1, List.getElem?_eq_getElem hjs] at h1
        obtain ⟨z, h2, _, h3⟩ := DataW.trod_int hu h1
        refine ⟨z, ?_, h3⟩
        rw [← Go.Deep.add_add, hcell, List.getElem?_eq_getElem (show j < cs'.length by omega)]
        simpa using h2
      obtain ⟨x, hx, wx⟩ := one 0 f0 rfl h0
      obtain ⟨y, hy, wy⟩ := one 1 f1 rfl h1
      exact ⟨x, y, hx, hy, wx, wy⟩
    have key' : ∀ i : Fin len', ∃ s : Int × Int, w.cell? (a.add (i * 2)) = some (.int .i64 s.1) ∧ w.cell? (a.add (i * 2 + 1)) = some (.int .i64 s.2) ∧ (Lit.int .i64 s.1).wf = true ∧ (Lit.int .i64 s.2).wf = true := fun i => by
      obtain ⟨x, y, h⟩ := key i i.2
      exact ⟨(x, y), h⟩
    obtain ⟨F, hF⟩ := Classical.axiomOfChoice key'
    have hlen : (List.ofFn F).length = len' := by simp
    refine ⟨some a, List.ofFn F, _, by rw [hlen], fun k hk => ?_, by omega, hm, fun s hs => ?_, fun hn => ?_⟩
    · have hk' : k < len' := by omega
      have h := hF ⟨k, hk'⟩
      obtain ⟨b, off, spot⟩ := a
      have hspot : spot = none := by
        have h0 := hF ⟨0, by omega⟩
        simpa [Addr.add] using World.cell?_spot h0.1
      subst hspot
      simp only [Go.WideShapes.add_plain, ← Nat.add_assoc] at h
      have e : (List.ofFn F)[k] = F ⟨k, hk'⟩ := by simp
      rw [e]
      exact ⟨b, off, rfl, cell_lt h.1, h.1, h.2.1⟩
    · obtain ⟨i, rfl⟩ := List.mem_ofFn.1 hs
      exact (hF i).2.2
    · have h1 := hn ((len' + (m - len')) * P.bytesOf e) (by rw [hx]; simp [DataW.weights, ht])
      refine Nat.le_trans (Nat.mul_le_mul_right _ ?_) h1
      rw [hlen]
      omega
end
/-- A table, and where it lies. -/
structure TA where
  l : List (Int × Int)
  A : Option Addr
  cap : Nat
abbrev taV (x : TA) : Value := .slice x.A x.l.length x.cap
/-- The slice at B reads as these tables. -/
structure TabsAt (w : World) (B : Option Addr) (ts : List TA) : Prop where
  cells : ∀ k (h : k < ts.length), ∃ b off, B = some ⟨b, off, none⟩ ∧ b < w.heap.size ∧ w.cell? ⟨b, off + k, none⟩ = some (taV ts[k])
  tabs : ∀ x ∈ ts, PairsAt w x.A x.l
namespace TabsAt
variable {w w' : World} {B : Option Addr} {ts : List TA}
theorem below (h : TabsAt w B ts) (k : Ok w w') : TabsAt w' B ts := ⟨fun j hj => by
  obtain ⟨b, off, hA, hlt, hc⟩ := h.cells j hj
  exact ⟨b, off, hA, Nat.lt_of_lt_of_le hlt k.size, (k.cell (p := ⟨b, off + j, none⟩) hlt).trans hc⟩, fun x hx => (h.tabs x hx).below k⟩
theorem empty (w : World) (B : Option Addr) : TabsAt w B [] := ⟨fun k h => absurd h (Nat.not_lt_zero k), by simp⟩
end TabsAt
section
variable {H : Type} {enc : TypeId × Value → H} {P : Program} {w : World} {base : Nat}
end
end Go.Proofs.YtmokofblmkeloaaGreatDoor
/- Words of my own: a region by facts (W11) whose last operation waits for all others, for some of them by way of others, however far: it is run by itself, on the whole frame. -/
namespace Go.Proofs.YtmokofblmkeloaaGreatDoor
open Go
section
variable {P : Program} {md : Region.Mode} {ops : Array Oper} {Q : Exit → Act → World → Prop} {V : Nat → Value → World → Prop} {R : World → World → Prop} {a0 : Act} {w0 : World}
/-- Operation i waits for operation j, at n + 1 steps at most. -/
def waitsN (md : Region.Mode) (ops : Array Oper) : Nat → Nat → Nat → Bool
  | 0, i, j => ((ops[i]?).map fun o => o.after.any fun e => Region.binds md e && e.on == j).getD false
  | n + 1, i, j => ((ops[i]?).map fun o => o.after.any fun e => Region.binds md e && (e.on == j || waitsN md ops n e.on j)).getD false
theorem waitsN_listed {listed : Array Bool} (hcl : ∀ k o, ops[k]? = some o → listed.getD k false = true → ∀ e ∈ o.after, Region.binds md e = true → listed.getD e.on false = true) :
    ∀ (n i j : Nat) (o : Oper), ops[i]? = some o → (∀ e ∈ o.after, Region.binds md e = true → listed.getD e.on false = true) → waitsN md ops n i j = true → listed.getD j false = true := by
  intro n
  induction n with
  | zero =>
    intro i j o ho ha h
    unfold waitsN at h
    rw [ho] at h
    simp only [Option.map_some, Option.getD_some] at h
    obtain ⟨e, he, hb⟩ := Array.any_eq_true'.1 h
    simp only [Bool.and_eq_true, beq_iff_eq] at hb
    obtain ⟨hb, rfl⟩ := hb
    exact ha e he hb
  | succ n ih =>
    intro i j o ho ha h
    unfold waitsN at h
    rw [ho] at h
    simp only [Option.map_some, Option.getD_some] at h
    obtain ⟨e, he, hb⟩ := Array.any_eq_true'.1 h
    simp only [Bool.and_eq_true, Bool.or_eq_true, beq_iff_eq] at hb
    have hl := ha e he hb.1
    rcases hb.2 with rfl | h2
    · exact hl
    · cases ho2 : ops[e.on]? with
      | none =>
        cases n with
        | zero => unfold waitsN at h2; rw [ho2] at h2; cases h2
        | succ n => unfold waitsN at h2; rw [ho2] at h2; cases h2
      | some o2 => exact ih e.on j o2 ho2 (hcl e.on o2 ho2 hl) h2
theorem wpAny_facts_end {L : Nat} {oL : Oper} (hL : ops[L]? = some oL) (hsz : ops.size = L + 1) (N : Nat) (hre : ∀ j, j < L → waitsN md ops N L j = true) (hB : regionB md ops a0.tmps.size = true) (hV : ∀ i v w w', V i v w → R w w' → V i v w') (hT : ∀ a b c, R a b → R b c → R a c)
    (step : ∀ (i : Nat) (o : Oper) (a : Act) (w : World), i < L → ops[i]? = some o → RF ops V a0 (fun j => ∃ e ∈ o.after, Region.binds md e = true ∧ e.on = j) a w → R w0 w → wpOp P ops Q i (fun a' w' => ∃ v, a' = a.put o.dst v ∧ V i v w' ∧ R w w') a w)
    (last : ∀ a w, RF ops V a0 (fun j => j < L) a w → R w0 w → wpOp P ops Q L (fun a' w' => Q .normal a' w') a w) :
    ∀ (fuel : Nat) (listed : Array Bool) (a : Act) (w : World), listed.size = ops.size → (List.range ops.size).countP (fun j => !listed.getD j false) ≤ fuel → listed.getD L false = false →
      (∀ k o, ops[k]? = some o → listed.getD k false = true → ∀ e ∈ o.after, Region.binds md e = true → listed.getD e.on false = true) →
      RF ops V a0 (fun j => listed.getD j false = true) a w → R w0 w → wpAny P md ops Q fuel listed a w := by
  intro fuel
  induction fuel with
  | zero =>
    intro listed a w hs hc hun hcl hF hR
    exfalso
    have := count_less (listed := listed) (i := L) (n := ops.size) (by omega) hun (by omega)
    omega
  | succ fuel ih =>
    intro listed a w hs hc hun hcl hF hR
    refine ⟨fun hr => ?_, fun i hi => ?_⟩
    · have := ready_some hB hs hr L (by omega)
      rw [hun] at this
      cases this
    obtain ⟨h0, o, ho, hall⟩ := mem_ready.1 hi
    have hlt : i < ops.size := (Array.getElem?_eq_some_iff.1 ho).1
    have hls : i < listed.size := by omega
    have huni : listed.getD i false = false := by simp [Array.getD, hls] at h0 ⊢; exact h0
    have hcl2 := count_less (listed := listed) (i := i) (n := ops.size) hls huni hlt
    by_cases eL : i = L
    · subst eL
      rw [hL] at ho
      cases ho
      have hall' : ∀ j, j < i → listed.getD j false = true := fun j hj => waitsN_listed hcl N i j oL hL hall (hre j hj)
      refine wpOp_mono (fun a' w' h' => ?_) (last a w (hF.mono (fun j hj => hall' j hj)) hR)
      have hfull : Region.ready md ops (listed.setIfInBounds i true) = [] := by
        apply List.eq_nil_iff_forall_not_mem.2
        intro j hj
        obtain ⟨g0, oj, hoj, _⟩ := mem_ready.1 hj
        have hjl : j < ops.size := (Array.getElem?_eq_some_iff.1 hoj).1
        by_cases e : j = i
        · subst e
          simp [hls] at g0
        · have hjL : j < i := by omega
          have hjs : j < listed.size := by omega
          have := hall' j hjL
          simp [Array.getD, hjs] at this
          simp [Ne.symm e, hjs, this] at g0
      cases fuel with
      | zero => exact ⟨hfull, h'⟩
      | succ f =>
        refine ⟨fun _ => h', fun j hj => ?_⟩
        rw [hfull] at hj
        cases hj
    · have hst := step i o a w (by omega) ho (hF.mono (by rintro j ⟨e, he, hb, rfl⟩; exact hall e he hb)) hR
      refine wpOp_mono (fun a' w' h' => ?_) hst
      obtain ⟨v, rfl, hv, hR'⟩ := h'
      have hset : ∀ j, (listed.setIfInBounds i true).getD j false = true ↔ listed.getD j false = true ∨ j = i := fun j => by
        by_cases e : j = i
        · subst e
          simp [Array.getD_eq_getD_getElem?, hls]
        · simp [Array.getD_eq_getD_getElem?, Ne.symm e, e]
      refine ih (listed.setIfInBounds i true) _ w' (by simpa using hs) (by omega) ?_ (fun k ok hok hk e he hb => ?_) ((hF.step hB hV ho hv hR').mono fun j hj => (hset j).1 hj) (hT _ _ _ hR hR')
      · simpa [Array.getD_eq_getD_getElem?, Array.getElem?_setIfInBounds, eL] using hun
      · refine (hset _).2 (.inl ?_)
        rcases (hset k).1 hk with g | rfl
        · exact hcl k ok hok g e he hb
        · rw [ho] at hok
          cases hok
          exact hall e he hb
/-- **A region that draws its order, by facts; its last operation, which has no slot and waits for all others (at N + 1 steps at most), is run on the whole frame.** -/
theorem wp_region_facts_end {id : Nat} {a : Act} {w : World} (hm : P.follows .mixedOrders = true) (N n : Nat) (hn : a.tmps.size = n) (V : Nat → Value → World → Prop) (R : World → World → Prop) (ini : Array Oper) (hini : ops.pop = ini) (oL : Oper) (m : Nat) (hmi : ini.size = m) (hL : ops[m]? = some oL) (hsz : ops.size = m + 1) (hd : oL.dst = none)
    (hre : ((List.range m).all fun j => waitsN .any ops N m j) = true) (hB : regionB .any ops n = true) (hBi : regionB .any ini n = true)
    (hV : ∀ i v w w', V i v w → R w w' → V i v w') (hT : ∀ a b c, R a b → R b c → R a c) (h0 : R w.drew w.drew) (ds : List (Option Tmp)) (hds : dsts ini = ds)
    (steps : StepsFrom P ops Q V R a w.drew 0 ini.toList)
    (last : ∀ (vs : Nat → Value) (w' : World), (∀ i, i < m → V i (vs i) w') → R w.drew w' → wpOp P ops Q m (fun a' w'' => Q .normal a' w'') (putFrom vs 0 ds a) w') : (Code.region id ops true).wp P Q a w := by
  subst hn hmi hds hini
  refine wp_region_any hm ?_
  have hpop : ∀ i o, i < ops.pop.size → ops[i]? = some o → ops.pop[i]? = some o := fun i o hi ho => by
    rw [Array.size_pop] at hi
    rw [Array.getElem?_pop, if_pos hi, ho]
  refine wpAny_facts_end (a0 := a) (w0 := w.drew) hL hsz N (fun j hj => List.all_eq_true.1 hre j (List.mem_range.2 hj)) hB hV hT (fun i o a' w' hi ho hF hR => ?_) (fun a' w' hF hR => ?_) _ _ _ _ (by simp) ?_ ?_ (fun k o _ hk => ?_) ⟨fun j o hj _ => ?_, fun _ _ => rfl, rfl, rfl⟩ h0
  · have := StepsFrom.at_ ops.pop.toList 0 i o steps (by rw [Array.getElem?_toList]; exact hpop i o hi ho) a' w' hF hR
    rw [Nat.zero_add] at this
    exact this
  · have hF' : RF ops.pop V a (fun j => j < ops.pop.size) a' w' := by
      refine ⟨fun j o hj hoj => hF.at_ j o hj (getElem?_pop _ _ _ hoj).1, fun k hk => hF.old k fun j o hoj hod => ?_, hF.size, hF.defers⟩
      by_cases hj : j < ops.pop.size
      · exact hk j o (hpop j o hj hoj) hod
      · have hjl : j < ops.size := (Array.getElem?_eq_some_iff.1 hoj).1
        have : j = ops.pop.size := by omega
        subst this
        rw [hL] at hoj
        cases hoj
        rw [hd] at hod
        cases hod
    obtain ⟨vs, hvs, rfl⟩ := hF'.frame hBi
    exact last vs w' hvs hR
  · have := List.countP_le_length (p := fun j => !(Array.replicate ops.size false).getD j false) (l := List.range ops.size)
    simpa using this
  · rw [Array.getD_eq_getD_getElem?, Array.getElem?_replicate]
    split <;> rfl
  · rw [Array.getD_eq_getD_getElem?, Array.getElem?_replicate] at hk
    split at hk <;> cases hk
  · rw [Array.getD_eq_getD_getElem?, Array.getElem?_replicate] at hj
    split at hj <;> cases hj
end
end Go.Proofs.YtmokofblmkeloaaGreatDoor
