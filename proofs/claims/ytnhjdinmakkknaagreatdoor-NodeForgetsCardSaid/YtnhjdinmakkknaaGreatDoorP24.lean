/- Several texts of mine in one: B04, B20. -/
import Derived.Test.YtnhjdinmakkknaaGreatDoorC01a
import Derived.Test.YtnhjdinmakkknaaGreatDoorB00
import Derived.Test.YtnhjdinmakkknaaGreatDoorMA
import Derived.Test.YtnhjdinmakkknaaGreatDoorB03
import Derived.Test.YtnhjdinmakkknaaGreatDoorP03
import Derived.Test.YtnhjdinmakkknaaGreatDoorB09
import Derived.Deep.QuietTactic
import Derived.BigQuiet
import Derived.Deep.CutBlock
import Derived.Deep.DeepCutAuto
import Derived.Laws.BitsAllLaws
import Derived.Lib.ItoaNum
import Derived.Deep.RegionWith
import Derived.Deep.RegionHeld3
import Derived.Deep.DrawnRows
/- Contracts of layer 1: over lists of numbers. -/
namespace Go.Proofs.YtnhjdinmakkknaaGreatDoor
open Go.RowKit Go.Lib

set_option maxHeartbeats 400000 in
theorem satAdd (A : Option Addr) (l : List Int) (cap : Nat) (w : World) (h : IntsAt w A l) (hl : l.length ≤ 9223372036854775807) :
    Calls Tryz.prog 50 #[.slice A l.length cap] w fun e w' => e = .returned (.int .i64 (Sat.sum l)) ∧ w = w' := by
  go_enter Tryz.func50, Tryz.ntmps50
  go_wp2
  go_loop [3, 8] (fun s i => ∃ k : Nat, k ≤ l.length ∧ i = .int .i64 k ∧ s = .int .i64 (Sat.sum (l.take k))) (fun _ i => l.length - (intOf i).toNat)
  case atStart => exact ⟨0, Nat.zero_le _, rfl, rfl⟩
  case round =>
    obtain ⟨k, hk, rfl, rfl⟩ := hrel
    have hb := Sat.sum_bd (l.take k)
    by_cases hlt : k < l.length
    · obtain ⟨b, off, hA, hb, hc⟩ := h k hlt
      subst hA
      have hs := Lib.hid (Sat.sum_snoc (l.take k) l[k])
      have hbk := Sat.clip_bd l[k]
      go_wp2_with (go_at_call 55; refine (satClip _ _).mono ?_; rintro e w' ⟨rfl, rfl⟩)
      go_round
      case rel => exact ⟨k + 1, by omega, by go_num, by rw [take_more hlt, hs.out]⟩
      case measure => simp [intOf]; omega
    · go_wp2
      go_ret
      exact ⟨by rw [List.take_of_length_le (by omega)]; rfl, rfl⟩
theorem satAdd2 (x y : Int) (w : World) (t : TypeId) (b : Nat) (hb : b = w.heap.size) : Calls Tryz.prog 50 #[.slice (some ⟨b, 0, none⟩) 2 2] (w.alloc (.cells #[.int .i64 x, .int .i64 y] t)) fun e w' => e = .returned (.int .i64 (Sat.sum [x, y])) ∧ (w.alloc (.cells #[.int .i64 x, .int .i64 y] t)) = w' :=
  satAdd _ [x, y] 2 _ (ints_new w [x, y] t _ rfl hb) (by simp)
theorem satAdd3 (x y z : Int) (w : World) (t : TypeId) (b : Nat) (hb : b = w.heap.size) : Calls Tryz.prog 50 #[.slice (some ⟨b, 0, none⟩) 3 3] (w.alloc (.cells #[.int .i64 x, .int .i64 y, .int .i64 z] t)) fun e w' => e = .returned (.int .i64 (Sat.sum [x, y, z])) ∧ (w.alloc (.cells #[.int .i64 x, .int .i64 y, .int .i64 z] t)) = w' :=
  satAdd _ [x, y, z] 3 _ (ints_new w [x, y, z] t _ rfl hb) (by simp)
set_option maxHeartbeats 400000 in
theorem satMax (A : Option Addr) (l : List Int) (cap : Nat) (w : World) (h : IntsAt w A l) (hl : l.length ≤ 9223372036854775807) :
    Calls Tryz.prog 62 #[.slice A l.length cap] w fun e w' => e = .returned (.int .i64 (Sat.most l)) ∧ w = w' := by
  go_enter Tryz.func62, Tryz.ntmps62
  go_wp2
  go_loop [3, 8] (fun s i => ∃ k : Nat, k ≤ l.length ∧ i = .int .i64 k ∧ s = .int .i64 (Sat.most (l.take k))) (fun _ i => l.length - (intOf i).toNat)
  case atStart => exact ⟨0, Nat.zero_le _, rfl, rfl⟩
  case round =>
    obtain ⟨k, hk, rfl, rfl⟩ := hrel
    have hb := Sat.most_bd (l.take k)
    by_cases hlt : k < l.length
    · obtain ⟨b, off, hA, hb, hc⟩ := h k hlt
      subst hA
      have hs := Lib.hid (Sat.most_snoc (l.take k) l[k])
      have hbk := Sat.clip_bd l[k]
      by_cases hc : Sat.most (l.take k) < Sat.clip l[k]
      all_goals
        go_wp2_with (go_at_call 55; refine (satClip _ _).mono ?_; rintro e w' ⟨rfl, rfl⟩)
        go_round
        case rel => exact ⟨k + 1, by omega, by go_num, by rw [take_more hlt, hs.out]; first | rw [if_pos (by omega)] | rw [if_neg (by omega)]⟩
        case measure => simp [intOf]; omega
    · go_wp2
      go_ret
      exact ⟨by rw [List.take_of_length_le (by omega)]; rfl, rfl⟩
theorem satMax2 (x y : Int) (w : World) (t : TypeId) (b : Nat) (hb : b = w.heap.size) : Calls Tryz.prog 62 #[.slice (some ⟨b, 0, none⟩) 2 2] (w.alloc (.cells #[.int .i64 x, .int .i64 y] t)) fun e w' => e = .returned (.int .i64 (Sat.most [x, y])) ∧ (w.alloc (.cells #[.int .i64 x, .int .i64 y] t)) = w' :=
  satMax _ [x, y] 2 _ (ints_new w [x, y] t _ rfl hb) (by simp)
end Go.Proofs.YtnhjdinmakkknaaGreatDoor

/- math/bits.Div64: what it answers, of a high word below the divisor. -/
namespace Go.Proofs.YtnhjdinmakkknaaGreatDoor
open Go.RowKit Go.Lib
set_option maxRecDepth 100000

end Go.Proofs.YtnhjdinmakkknaaGreatDoor

/- Contracts of layer 2's functions of the program: wide. -/
namespace Go.Proofs.YtnhjdinmakkknaaGreatDoor
open Go.RowKit Go.Lib
set_option maxRecDepth 100000

theorem wideDivisor (c : Int) (w : World) : Calls Tryz.prog 181 #[.int .i64 c] w fun e w' => e = .returned (.int .i64 (Wide.one c)) ∧ Ok w w' := by
  have h1 := Lib.hid (Wide.most_one c)
  go_enter Tryz.func181, Tryz.ntmps181
  go_wp2_with (go_at_call 62; (with_reducible refine (satMax2 _ _ _ _ _ (by simp)).mono ?_); rintro e w' ⟨rfl, rfl⟩; rw [h1.out])
  go_ret
  exact ⟨rfl, (Ok.refl w).alloc _⟩
set_option maxHeartbeats 400000 in
theorem wideDiv (a c : Int) (w : World) : Calls Tryz.prog 148 #[.int .i64 a, .int .i64 c] w fun e w' => e = .returned (.tuple #[.int .i64 (Sat.clip a / Wide.one c), .int .i64 (Sat.clip a % Wide.one c)]) ∧ Ok w w' := by
  have ha := Sat.clip_bd a
  have hc := Wide.one_bd c
  obtain ⟨⟨t1, t2⟩, ⟨r1, r2⟩, k1, k2⟩ := Wide.trunc (Sat.clip a) (Wide.one c) hc.1 hc.2 ha.1 ha.2
  obtain ⟨T, hT⟩ : ∃ T, (Sat.clip a).tdiv (Wide.one c) = T := ⟨_, rfl⟩
  obtain ⟨R, hR⟩ : ∃ R, (Sat.clip a).tmod (Wide.one c) = R := ⟨_, rfl⟩
  rw [hT] at t1 t2 k1 k2
  rw [hR] at r1 r2 k1 k2
  have K1 := Lib.hid k1
  have K2 := Lib.hid k2
  clear k1 k2
  have hb := Ok.refl w
  have e0 : ((Wide.one c) == 0) = false := by rw [beq_eq_false_iff_ne]; omega
  by_cases hn : R < 0
  all_goals
    go_enter Tryz.func148, Tryz.ntmps148
    go_wp2_with (first | (go_at_call 55; refine (satClip _ _).mono ?_; rintro e w' ⟨rfl, rfl⟩) | (go_at_call 181; refine (wideDivisor _ _).mono ?_; rintro e w1 ⟨rfl, hb1⟩; replace hb := hb.trans hb1; clear hb1))
    go_quiet (fail)
    go_wp2
    go_ret2
    first
    | (obtain ⟨x, y⟩ := K1.out hn; exact ⟨by rw [x, y]; rfl, hb.drewN _⟩)
    | (obtain ⟨x, y⟩ := K2.out (by omega); exact ⟨by rw [x, y]; rfl, hb.drewN _⟩)
end Go.Proofs.YtnhjdinmakkknaaGreatDoor

/- Contracts of layer 18's document functions: Good, Offset, More. -/
namespace Go.Proofs.YtnhjdinmakkknaaGreatDoor
open Go.RowKit
set_option maxRecDepth 100000
attribute [local go_sem ↓] Go.wp_at_zero Go.wp_at_succ
theorem Box1.okk {g : Nat} {w w' : World} {x y : Int} (h : Box1 g w x y w') : Ok w w' := h.2.2.2
end Go.Proofs.YtnhjdinmakkknaaGreatDoor
/- Words of my own: a region by facts (W11) whose last operation waits for all others, for some of them by way of others, however far: it is run by itself, on the whole frame. -/
namespace Go.Proofs.YtnhjdinmakkknaaGreatDoor
open Go
section
variable {P : Program} {md : Region.Mode} {ops : Array Oper} {Q : Exit → Act → World → Prop} {V : Nat → Value → World → Prop} {R : World → World → Prop} {a0 : Act} {w0 : World}
/-- Operation i waits for operation j, at n + 1 steps at most. -/
def waitsN (md : Region.Mode) (ops : Array Oper) : Nat → Nat → Nat → Bool
  | 0, i, j => ((ops[i]?).map fun o => o.after.any fun e => Region.binds md e && e.on == j).getD false
  | n + 1, i, j => ((ops[i]?).map fun o => o.after.any fun e => Region.binds md e && (e.on == j || waitsN md ops n e.on j)).getD false
theorem waitsN_listed {listed : Array Bool} (hcl : ∀ k o, ops[k]? = some o → listed.getD k false = true → ∀ e ∈ o.after, Region.binds md e = true → listed.getD e.on false = true) :
    ∀ (n i j : Nat) (o : Oper), ops[i]? = some o → (∀ e ∈ o.after, Region.binds md e = true → listed.getD e.on false = true) → waitsN md ops n i j = true → listed.getD j false = true := by
  intro n
  induction n with
  | zero =>
    intro i j o ho ha h
    unfold waitsN at h
    rw [ho] at h
    simp only [Option.map_some, Option.getD_some] at h
    obtain ⟨e, he, hb⟩ := Array.any_eq_true'.1 h
    simp only [Bool.and_eq_true, beq_iff_eq] at hb
    obtain ⟨hb, rfl⟩ := hb
    exact ha e he hb
  | succ n ih =>
    intro i j o ho ha h
    unfold waitsN at h
    rw [ho] at h
    simp only [Option.map_some, Option.getD_some] at h
    obtain ⟨e, he, hb⟩ := Array.any_eq_true'.1 h
    simp only [Bool.and_eq_true, Bool.or_eq_true, beq_iff_eq] at hb
    have hl := ha e he hb.1
    rcases hb.2 with rfl | h2
    · exact hl
    · cases ho2 : ops[e.on]? with
      | none =>
        cases n with
        | zero => unfold waitsN at h2; rw [ho2] at h2; cases h2
        | succ n => unfold waitsN at h2; rw [ho2] at h2; cases h2
      | some o2 => exact ih e.on j o2 ho2 (hcl e.on o2 ho2 hl) h2
theorem wpAny_facts_end {L : Nat} {oL : Oper} (hL : ops[L]? = some oL) (hsz : ops.size = L + 1) (N : Nat) (hre : ∀ j, j < L → waitsN md ops N L j = true) (hB : regionB md ops a0.tmps.size = true) (hV : ∀ i v w w', V i v w → R w w' → V i v w') (hT : ∀ a b c, R a b → R b c → R a c)
    (step : ∀ (i : Nat) (o : Oper) (a : Act) (w : World), i < L → ops[i]? = some o → RF ops V a0 (fun j => ∃ e ∈ o.after, Region.binds md e = true ∧ e.on = j) a w → R w0 w → wpOp P ops Q i (fun a' w' => ∃ v, a' = a.put o.dst v ∧ V i v w' ∧ R w w') a w)
    (last : ∀ a w, RF ops V a0 (fun j => j < L) a w → R w0 w → wpOp P ops Q L (fun a' w' => Q .normal a' w') a w) :
    ∀ (fuel : Nat) (listed : Array Bool) (a : Act) (w : World), listed.size = ops.size → (List.range ops.size).countP (fun j => !listed.getD j false) ≤ fuel → listed.getD L false = false →
      (∀ k o, ops[k]? = some o → listed.getD k false = true → ∀ e ∈ o.after, Region.binds md e = true → listed.getD e.on false = true) →
      RF ops V a0 (fun j => listed.getD j false = true) a w → R w0 w → wpAny P md ops Q fuel listed a w := by
  intro fuel
  induction fuel with
  | zero =>
    intro listed a w hs hc hun hcl hF hR
    exfalso
    have := count_less (listed := listed) (i := L) (n := ops.size) (by omega) hun (by omega)
    omega
  | succ fuel ih =>
    intro listed a w hs hc hun hcl hF hR
    refine ⟨fun hr => ?_, fun i hi => ?_⟩
    · have := ready_some hB hs hr L (by omega)
      rw [hun] at this
      cases this
    obtain ⟨h0, o, ho, hall⟩ := mem_ready.1 hi
    have hlt : i < ops.size := (Array.getElem?_eq_some_iff.1 ho).1
    have hls : i < listed.size := by omega
    have huni : listed.getD i false = false := by simp [Array.getD, hls] at h0 ⊢; exact h0
    have hcl2 := count_less (listed := listed) (i := i) (n := ops.size) hls huni hlt
    by_cases eL : i = L
    · subst eL
      rw [hL] at ho
      cases ho
      have hall' : ∀ j, j < i → listed.getD j false = true := fun j hj => waitsN_listed hcl N i j oL hL hall (hre j hj)
      refine wpOp_mono (fun a' w' h' => ?_) (last a w (hF.mono (fun j hj => hall' j hj)) hR)
      have hfull : Region.ready md ops (listed.setIfInBounds i true) = [] := by
        apply List.eq_nil_iff_forall_not_mem.2
        intro j hj
        obtain ⟨g0, oj, hoj, _⟩ := mem_ready.1 hj
        have hjl : j < ops.size := (Array.getElem?_eq_some_iff.1 hoj).1
        by_cases e : j = i
        · subst e
          simp [hls] at g0
        · have hjL : j < i := by omega
          have hjs : j < listed.size := by omega
          have := hall' j hjL
          simp [Array.getD, hjs] at this
          simp [Ne.symm e, hjs, this] at g0
      cases fuel with
      | zero => exact ⟨hfull, h'⟩
      | succ f =>
        refine ⟨fun _ => h', fun j hj => ?_⟩
        rw [hfull] at hj
        cases hj
    · have hst := step i o a w (by omega) ho (hF.mono (by rintro j ⟨e, he, hb, rfl⟩; exact hall e he hb)) hR
      refine wpOp_mono (fun a' w' h' => ?_) hst
      obtain ⟨v, rfl, hv, hR'⟩ := h'
      have hset : ∀ j, (listed.setIfInBounds i true).getD j false = true ↔ listed.getD j false = true ∨ j = i := fun j => by
        by_cases e : j = i
        · subst e
          simp [Array.getD_eq_getD_getElem?, hls]
        · simp [Array.getD_eq_getD_getElem?, Ne.symm e, e]
      refine ih (listed.setIfInBounds i true) _ w' (by simpa using hs) (by omega) ?_ (fun k ok hok hk e he hb => ?_) ((hF.step hB hV ho hv hR').mono fun j hj => (hset j).1 hj) (hT _ _ _ hR hR')
      · simpa [Array.getD_eq_getD_getElem?, Array.getElem?_setIfInBounds, eL] using hun
      · refine (hset _).2 (.inl ?_)
        rcases (hset k).1 hk with g | rfl
        · exact hcl k ok hok g e he hb
        · rw [ho] at hok
          cases hok
          exact hall e he hb
/-- **A region that draws its order, by facts; its last operation, which has no slot and waits for all others (at N + 1 steps at most), is run on the whole frame.** -/
theorem wp_region_facts_end {id : Nat} {a : Act} {w : World} (hm : P.follows .mixedOrders = true) (N n : Nat) (hn : a.tmps.size = n) (V : Nat → Value → World → Prop) (R : World → World → Prop) (ini : Array Oper) (hini : ops.pop = ini) (oL : Oper) (m : Nat) (hmi : ini.size = m) (hL : ops[m]? = some oL) (hsz : ops.size = m + 1) (hd : oL.dst = none)
    (hre : ((List.range m).all fun j => waitsN .any ops N m j) = true) (hB : regionB .any ops n = true) (hBi : regionB .any ini n = true)
    (hV : ∀ i v w w', V i v w → R w w' → V i v w') (hT : ∀ a b c, R a b → R b c → R a c) (h0 : R w.drew w.drew) (ds : List (Option Tmp)) (hds : dsts ini = ds)
    (steps : StepsFrom P ops Q V R a w.drew 0 ini.toList)
    (last : ∀ (vs : Nat → Value) (w' : World), (∀ i, i < m → V i (vs i) w') → R w.drew w' → wpOp P ops Q m (fun a' w'' => Q .normal a' w'') (putFrom vs 0 ds a) w') : (Code.region id ops true).wp P Q a w := by
  subst hn hmi hds hini
  refine wp_region_any hm ?_
  have hpop : ∀ i o, i < ops.pop.size → ops[i]? = some o → ops.pop[i]? = some o := fun i o hi ho => by
    rw [Array.size_pop] at hi
    rw [Array.getElem?_pop, if_pos hi, ho]
  refine wpAny_facts_end (a0 := a) (w0 := w.drew) hL hsz N (fun j hj => List.all_eq_true.1 hre j (List.mem_range.2 hj)) hB hV hT (fun i o a' w' hi ho hF hR => ?_) (fun a' w' hF hR => ?_) _ _ _ _ (by simp) ?_ ?_ (fun k o _ hk => ?_) ⟨fun j o hj _ => ?_, fun _ _ => rfl, rfl, rfl⟩ h0
  · have := StepsFrom.at_ ops.pop.toList 0 i o steps (by rw [Array.getElem?_toList]; exact hpop i o hi ho) a' w' hF hR
    rw [Nat.zero_add] at this
    exact this
  · have hF' : RF ops.pop V a (fun j => j < ops.pop.size) a' w' := by
      refine ⟨fun j o hj hoj => hF.at_ j o hj (getElem?_pop _ _ _ hoj).1, fun k hk => hF.old k fun j o hoj hod => ?_, hF.size, hF.defers⟩
      by_cases hj : j < ops.pop.size
      · exact hk j o (hpop j o hj hoj) hod
      · have hjl : j < ops.size := (Array.getElem?_eq_some_iff.1 hoj).1
        have : j = ops.pop.size := by omega
        subst this
        rw [hL] at hoj
        cases hoj
        rw [hd] at hod
        cases hod
    obtain ⟨vs, hvs, rfl⟩ := hF'.frame hBi
    exact last vs w' hvs hR
  · have := List.countP_le_length (p := fun j => !(Array.replicate ops.size false).getD j false) (l := List.range ops.size)
    simpa using this
  · rw [Array.getD_eq_getD_getElem?, Array.getElem?_replicate]
    split <;> rfl
  · rw [Array.getD_eq_getD_getElem?, Array.getElem?_replicate] at hk
    split at hk <;> cases hk
  · rw [Array.getD_eq_getD_getElem?, Array.getElem?_replicate] at hj
    split at hj <;> cases hj
end
end Go.Proofs.YtnhjdinmakkknaaGreatDoor
