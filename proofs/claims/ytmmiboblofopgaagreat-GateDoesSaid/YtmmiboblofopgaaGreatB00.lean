/- Several texts of mine in one: W01, C01c, W02, W03, W04, C04a, W05, C04b. -/
import Derived.Test.YtmmiboblofopgaaGreatRows
import Derived.WalkKit
import Derived.ProofKit
import Derived.OpenShut
import Derived.WalkLawsBesides
import Derived.IntWalk
import Derived.Lib.Hide
import Derived.Below
import Derived.Carry
import Derived.ChangeSame
import Derived.ReadAgain
import Derived.OwnWalk
import Derived.Laws.AppendOwn
import Derived.Laws.OwnMore
import Derived.Test.YtmmiboblofopgaaGreatC01a
import Derived.Deep.Draws
import Derived.Lib.SmallJoins
import Derived.Deep.Slices
import Derived.Deep.Fields
import Derived.Test.YtmmiboblofopgaaGreatC01a
import Derived.Test.YtmmiboblofopgaaGreatMA
import Derived.Deep.QuietTactic
import Derived.BigQuiet
import Derived.Deep.RegionHeld3
import Derived.Deep.DrawnRows
/- Words of my own for memory, over any program: a slice of integers that reads as a list; a law's last step. -/
namespace Go.Proofs.YtmmiboblofopgaaGreat
open Go.RowKit Go.WideShapes Go.ChangeShapes

/-- The slice with address A reads, in world w, as the integers l. -/
def IntsAt (w : World) (A : Option Addr) (l : List Int) : Prop :=
  ∀ k (h : k < l.length), ∃ b off, A = some ⟨b, off, none⟩ ∧ b < w.heap.size ∧ w.cell? ⟨b, off + k, none⟩ = some (.int .i64 l[k])

theorem IntsAt.empty (w : World) (A : Option Addr) : IntsAt w A [] := fun k h => absurd h (Nat.not_lt_zero k)
theorem IntsAt.below {w w' : World} {A : Option Addr} {l : List Int} (h : IntsAt w A l) (hb : Below w.heap.size w w') : IntsAt w' A l := fun k hk => by
  obtain ⟨b, off, hA, hlt, hc⟩ := h k hk
  exact ⟨b, off, hA, Nat.lt_of_lt_of_le hlt hb.size, (hb.cell (p := ⟨b, off + k, none⟩) hlt).trans hc⟩
theorem IntsAt.of_cells {w : World} {b off : Nat} {l : List Int} (hlt : b < w.heap.size) (hc : ∀ k (h : k < l.length), w.cell? ⟨b, off + k, none⟩ = some (.int .i64 l[k])) : IntsAt w (some ⟨b, off, none⟩) l :=
  fun k hk => ⟨b, off, rfl, hlt, hc k hk⟩
/-- A slice written down at a call: a new block. -/
theorem ints_new (w : World) (l : List Int) (t : TypeId) (cs : Array Value) (h : cs.toList = l.map (Value.int .i64)) {b : Nat} (hb : b = w.heap.size) : IntsAt (w.alloc (.cells cs t)) (some ⟨b, 0, none⟩) l := by
  subst hb
  intro k hk
  refine ⟨w.heap.size, 0, rfl, by simp, ?_⟩
  have e : cs[0 + k]? = some (.int .i64 l[k]) := by
    rw [Nat.zero_add, ← Array.getElem?_toList, h, List.getElem?_map, List.getElem?_eq_getElem hk]; rfl
  have e2 : (w.alloc (.cells cs t)).heap[w.heap.size]? = some (.cells cs t) := (MapKept.heap_alloc w _).1
  simp only [World.cell?, e2]; exact e
/-- A row of the call's own reads as the list that it holds. -/
theorem IntsAt.of_own {w : World} {B : Nat} {e : TypeId} {v : Value} {l : List Int} (h : w.ownsRow B e 1 v l.length (l.map (Value.int .i64))) : ∃ A cap, v = .slice A l.length cap ∧ IntsAt w A l := by
  rcases h.2 with ⟨rfl, hx⟩ | ⟨g, cap, cur, rfl, hb, hh, r⟩
  · have : l = [] := by simpa using hx
    subst this
    exact ⟨none, 0, rfl, IntsAt.empty _ _⟩
  · refine ⟨some ⟨g, 0, none⟩, cap, rfl, IntsAt.of_cells (Array.getElem?_eq_some_iff.1 hh).1 fun k hk => ?_⟩
    have := h.cells (g := g) rfl k (.int .i64 l[k]) (by rw [List.getElem?_map, List.getElem?_eq_getElem hk]; rfl)
    rw [Go.WideShapes.add_plain] at this
    exact this
theorem below_alloc (w : World) (o : Obj) : Below w.heap.size w (w.alloc o) := (Below.refl _ _).alloc (Nat.le_refl _) _
theorem cell_lt {w : World} {b o : Nat} {v : Value} (h : w.cell? ⟨b, o, none⟩ = some v) : b < w.heap.size := by
  rcases Nat.lt_or_ge b w.heap.size with g | g
  · exact g
  · exfalso
    have : w.heap[b]? = none := Array.getElem?_eq_none_iff.2 g
    simp [World.cell?, this] at h

/-- A slice of integers that came in: its address, the integers that it holds. -/
theorem open_sliceK {H : Type} {enc : TypeId × Value → H} {P : Program} {w : World} {base : Nat} {t e : TypeId} {v : Value} {d : DataW H} {ps : List MemPlace}
    (ht : P.underlying t = some (.slice e)) (he : P.underlying e = some (.int .i64)) (hc : P.cellsOf e = 1) (hv : Value.okWide P w .any base t v) (h : DataW.Trod enc P w 0 (fun _ => true) true t v d ps) :
    ∃ (A : Option Addr) (l : List Int) (cap : Nat), v = .slice A l.length cap ∧ IntsAt w A l ∧ l.length ≤ 9223372036854775807 ∧ ∀ x ∈ l, (Lit.int .i64 x).wf = true := by
  obtain ⟨a0, len, cap, rfl⟩ := okWide_slice ht hv
  obtain ⟨fuel, hf⟩ := h
  rcases open_ints ht he hc hf with ⟨hcs, hx⟩ | ⟨a, len', cap', zs, hcs, _, hl, hm, hz, hx, hcell, hwz⟩
  · simp [Value.cells] at hcs
    obtain ⟨rfl, rfl, rfl⟩ := hcs
    exact ⟨none, [], 0, rfl, IntsAt.empty _ _, by simp, by simp⟩
  · simp [Value.cells] at hcs
    obtain ⟨rfl, rfl, rfl⟩ := hcs
    simp only [if_true] at hz
    have hlen : (zs.take len).length = len := by simp; omega
    refine ⟨some a, zs.take len, cap, by rw [hlen], fun k hk => ?_, by unfold maxLen at hm; omega, fun x hx => hwz x (List.mem_of_mem_take hx)⟩
    have hk' : k < zs.length := by omega
    obtain ⟨b, off, rfl, hc'⟩ := ints_at hcell (by omega)
    refine ⟨b, off, rfl, cell_lt (hc' 0 (by omega)), ?_⟩
    rw [hc' k hk', List.getD_eq_getElem?_getD, List.getElem?_eq_getElem hk', List.getElem_take]
    rfl
theorem params_ok {P : Program} {a : Array TypeId} (h : (a.toList.all fun t => P.readableRec t && decide (t < P.types.size)) = true) : ∀ t ∈ a.toList, P.readableRec t = true ∧ t < P.types.size := by
  intro t ht
  have := List.all_eq_true.1 h t ht
  simpa using this

/-- The list's beginning, one longer. -/
theorem take_more {α : Type} {l : List α} {k : Nat} (h : k < l.length) : l.take (k + 1) = l.take k ++ [l[k]] := by
  rw [List.take_succ_eq_append_getElem h]

section
variable {H : Type} {enc : TypeId × Value → H} {P : Program}
theorem trodAll_stays (hl : laidOutB P = true) {W W' : World} {sp : Nat → Bool} (hb : Below W.heap.size W W') :
    ∀ {ts : List TypeId} {vs : List Value} {ds : List (DataW H)} {ps : List MemPlace}, (∀ t ∈ ts, P.readableRec t = true ∧ t < P.types.size) → DataW.TrodAll enc P W 0 (fun _ => true) true ts vs ds ps →
      (∀ p ∈ ps, p.block < W.heap.size) → (∀ p ∈ ps, sp p.block = true) → DataW.TrodAll enc P W' 0 sp true ts vs ds ps
  | [], [], [], _, _, h, _, _ => h
  | _ :: _, _ :: _, _ :: _, _, ht, ⟨p, q, h1, h2, e⟩, hlt, hs => by
    subst e
    refine ⟨p, q, WideElems.Trod_stays hl (ht _ List.mem_cons_self).1 (ht _ List.mem_cons_self).2 h1 (fun x hx => hb.same (hlt x (List.mem_append_left _ hx))) (fun x hx => hs x (List.mem_append_left _ hx)),
      trodAll_stays hl hb (fun t h => ht t (List.mem_cons_of_mem _ h)) h2 (fun x hx => hlt x (List.mem_append_right _ hx)) (fun x hx => hs x (List.mem_append_right _ hx)), rfl⟩

/-- A law's last step: it answered true, and of what was there nothing has turned. -/
theorem law_post {f : Func} {s : ChangeSpec} {apart fresh handsOn again : Bool} {W W' : World} {args : Array Value} {ds gs : List (DataW H)} {before : List MemPlace} {tb : TypeId}
    (hW : DataW.Whole enc P f.params.toList s.vars apart W args.toList ds gs before) (hl : laidOutB P = true)
    (ht : ∀ t ∈ f.params.toList, P.readableRec t = true ∧ t < P.types.size) (hv : s.vars = [])
    (hr : f.resultTypes = #[tb]) (hbool : P.underlying tb = some .bool)
    (hfn : (s.fn H (ds ++ gs)).results = [.lit (.bool true)]) (hfa : (s.fn H (ds ++ gs)).args = ds) (hfv : (s.fn H (ds ++ gs)).vars = [])
    (hb : Below W.heap.size W W') : s.post enc P f apart fresh handsOn again W args (.bool true) W' := by
  have hlt : ∀ p ∈ before, p.block < W.heap.size := fun p hp => hW.lt p hp
  have hold : ∀ p ∈ before, (fun b => decide (b < W.heap.size)) p.block = true := fun p hp => by simpa using hlt p hp
  have hW' := hW
  obtain ⟨pa, pv, hA, hV, hps, hz, hn⟩ := hW
  rw [hv] at hV
  obtain ⟨rfl, rfl⟩ := trodVars_none hV
  rw [List.append_nil] at hps
  subst hps
  have hres : ∀ (b : Nat) (sp : Nat → Bool) (hd : Bool), DataW.TrodAll enc P W' b sp hd f.resultTypes.toList ((Value.bool true).resultList f.resultTypes.size) (s.fn H (ds ++ [])).results [] := by
    intro b sp hd
    rw [hfn, hr]
    exact trodAll_mk1 (shut_bool hbool true)
  have hargs : ∀ sp : Nat → Bool, (∀ p ∈ before, sp p.block = true) → DataW.TrodAll enc P W' 0 sp true f.params.toList args.toList (s.fn H (ds ++ [])).args before := by
    intro sp hs
    rw [hfa]
    exact trodAll_stays hl hb ht hA hlt hs
  have hvars : ∀ sp : Nat → Bool, DataW.TrodVars enc P W' sp s.vars (s.fn H (ds ++ [])).vars [] := by
    intro sp
    rw [hv, hfv]
    exact rfl
  refine ⟨ds, [], before, [], before, [], hW', hres _ _ _, hargs _ hold, hvars _, World.keptBut_mono (fun p hp => ⟨hp, Or.inr (Or.inl hp)⟩) (hb.frame (· ∈ before)), fun _ => ?_⟩
  refine ⟨?_, _, _, ([] ++ before) ++ [], ⟨[] ++ before, [], trodAll_append (hargs _ (fun _ _ => rfl)) (hres _ _ _), hvars _, rfl, ?_, ?_⟩, ?_⟩
  · exact ok_one hr rfl (okWide_bool_mk hbool _)
  · intro b off hp
    have hin : MemPlace.cell b off ∈ before := by simpa using hp
    rw [hb.frozen (hlt _ hin)]
    exact hz b off (by simpa using hin)
  · intro ha
    simpa using hn ha
  · intro p hp _
    simpa using hp
end
theorem and_one (q : Nat) (h : q < 9223372036854775808) : bits .and .i64 (q : Int) 1 = ((q % 2 : Nat) : Int) := by
  have hx : q &&& 1 < 2 ^ 63 := Nat.and_lt_two_pow _ (by omega)
  have e1 : (BitVec.ofInt 64 (q : Int)).toNat = q := by rw [BitVec.ofInt_natCast, BitVec.toNat_ofNat]; exact Nat.mod_eq_of_lt (by omega)
  show IntKind.i64.wrap ((BitVec.ofInt 64 (q : Int) &&& BitVec.ofInt 64 (1 : Int)).toNat : Int) = _
  rw [BitVec.toNat_and, e1, show (BitVec.ofInt 64 (1 : Int)).toNat = 1 from rfl, IntKind.wrap_i64, Nat.and_one_is_mod]
  omega
theorem ret_int {k : IntKind} {a b : Int} (h : a = b) : Ending.returned (.int k a) = .returned (.int k b) := by rw [h]
end Go.Proofs.YtmmiboblofopgaaGreat

/- Contracts of layer 1: over lists of numbers. -/
namespace Go.Proofs.YtmmiboblofopgaaGreat
open Go.RowKit Go.Lib

set_option maxHeartbeats 400000 in
theorem satAdd (A : Option Addr) (l : List Int) (cap : Nat) (w : World) (h : IntsAt w A l) (hl : l.length ≤ 9223372036854775807) :
    Calls Tryz.prog 55 #[.slice A l.length cap] w fun e w' => e = .returned (.int .i64 (Sat.sum l)) ∧ w = w' := by
  go_enter Tryz.func55, Tryz.ntmps55
  go_wp2
  go_loop [3, 8] (fun s i => ∃ k : Nat, k ≤ l.length ∧ i = .int .i64 k ∧ s = .int .i64 (Sat.sum (l.take k))) (fun _ i => l.length - (intOf i).toNat)
  case atStart => exact ⟨0, Nat.zero_le _, rfl, rfl⟩
  case round =>
    obtain ⟨k, hk, rfl, rfl⟩ := hrel
    have hb := Sat.sum_bd (l.take k)
    by_cases hlt : k < l.length
    · obtain ⟨b, off, hA, hb, hc⟩ := h k hlt
      subst hA
      have hs := Lib.hid (Sat.sum_snoc (l.take k) l[k])
      have hbk := Sat.clip_bd l[k]
      go_wp2_with (go_at_call 60; refine (satClip _ _).mono ?_; rintro e w' ⟨rfl, rfl⟩)
      go_round
      case rel => exact ⟨k + 1, by omega, by go_num, by rw [take_more hlt, hs.out]⟩
      case measure => simp [intOf]; omega
    · go_wp2
      go_ret
      exact ⟨by rw [List.take_of_length_le (by omega)]; rfl, rfl⟩
theorem satAdd1 (x : Int) (w : World) (t : TypeId) (b : Nat) (hb : b = w.heap.size) : Calls Tryz.prog 55 #[.slice (some ⟨b, 0, none⟩) 1 1] (w.alloc (.cells #[.int .i64 x] t)) fun e w' => e = .returned (.int .i64 (Sat.sum [x])) ∧ (w.alloc (.cells #[.int .i64 x] t)) = w' :=
  satAdd _ [x] 1 _ (ints_new w [x] t _ rfl hb) (by simp)
theorem satAdd2 (x y : Int) (w : World) (t : TypeId) (b : Nat) (hb : b = w.heap.size) : Calls Tryz.prog 55 #[.slice (some ⟨b, 0, none⟩) 2 2] (w.alloc (.cells #[.int .i64 x, .int .i64 y] t)) fun e w' => e = .returned (.int .i64 (Sat.sum [x, y])) ∧ (w.alloc (.cells #[.int .i64 x, .int .i64 y] t)) = w' :=
  satAdd _ [x, y] 2 _ (ints_new w [x, y] t _ rfl hb) (by simp)
theorem satAdd3 (x y z : Int) (w : World) (t : TypeId) (b : Nat) (hb : b = w.heap.size) : Calls Tryz.prog 55 #[.slice (some ⟨b, 0, none⟩) 3 3] (w.alloc (.cells #[.int .i64 x, .int .i64 y, .int .i64 z] t)) fun e w' => e = .returned (.int .i64 (Sat.sum [x, y, z])) ∧ (w.alloc (.cells #[.int .i64 x, .int .i64 y, .int .i64 z] t)) = w' :=
  satAdd _ [x, y, z] 3 _ (ints_new w [x, y, z] t _ rfl hb) (by simp)
theorem satAdd4 (x y z u : Int) (w : World) (t : TypeId) (b : Nat) (hb : b = w.heap.size) : Calls Tryz.prog 55 #[.slice (some ⟨b, 0, none⟩) 4 4] (w.alloc (.cells #[.int .i64 x, .int .i64 y, .int .i64 z, .int .i64 u] t)) fun e w' => e = .returned (.int .i64 (Sat.sum [x, y, z, u])) ∧ (w.alloc (.cells #[.int .i64 x, .int .i64 y, .int .i64 z, .int .i64 u] t)) = w' :=
  satAdd _ [x, y, z, u] 4 _ (ints_new w [x, y, z, u] t _ rfl hb) (by simp)
set_option maxHeartbeats 400000 in
theorem refAdd (A : Option Addr) (l : List Int) (cap : Nat) (w : World) (h : IntsAt w A l) (hl : l.length ≤ 9223372036854775807) :
    Calls Tryz.prog 30 #[.slice A l.length cap] w fun e w' => e = .returned (.int .i64 (Sat.sum l)) ∧ w = w' := by
  go_enter Tryz.func30, Tryz.ntmps30
  go_wp2
  go_loop [3, 8] (fun s i => ∃ k : Nat, k ≤ l.length ∧ i = .int .i64 k ∧ s = .int .i64 (Sat.sum (l.take k))) (fun _ i => l.length - (intOf i).toNat)
  case atStart => exact ⟨0, Nat.zero_le _, rfl, rfl⟩
  case round =>
    obtain ⟨k, hk, rfl, rfl⟩ := hrel
    have hb := Sat.sum_bd (l.take k)
    by_cases hlt : k < l.length
    · obtain ⟨b, off, hA, hb, hc⟩ := h k hlt
      subst hA
      have hs := Lib.hid (Sat.sum_snoc (l.take k) l[k])
      have hbk := Sat.clip_bd l[k]
      go_wp2_with (go_at_call 28; refine (refClip _ _).mono ?_; rintro e w' ⟨rfl, rfl⟩)
      go_round
      case rel => exact ⟨k + 1, by omega, by go_num, by rw [take_more hlt, hs.out]⟩
      case measure => simp [intOf]; omega
    · go_wp2
      go_ret
      exact ⟨by rw [List.take_of_length_le (by omega)]; rfl, rfl⟩
set_option maxHeartbeats 400000 in
theorem satMax (A : Option Addr) (l : List Int) (cap : Nat) (w : World) (h : IntsAt w A l) (hl : l.length ≤ 9223372036854775807) :
    Calls Tryz.prog 133 #[.slice A l.length cap] w fun e w' => e = .returned (.int .i64 (Sat.most l)) ∧ w = w' := by
  go_enter Tryz.func133, Tryz.ntmps133
  go_wp2
  go_loop [3, 8] (fun s i => ∃ k : Nat, k ≤ l.length ∧ i = .int .i64 k ∧ s = .int .i64 (Sat.most (l.take k))) (fun _ i => l.length - (intOf i).toNat)
  case atStart => exact ⟨0, Nat.zero_le _, rfl, rfl⟩
  case round =>
    obtain ⟨k, hk, rfl, rfl⟩ := hrel
    have hb := Sat.most_bd (l.take k)
    by_cases hlt : k < l.length
    · obtain ⟨b, off, hA, hb, hc⟩ := h k hlt
      subst hA
      have hs := Lib.hid (Sat.most_snoc (l.take k) l[k])
      have hbk := Sat.clip_bd l[k]
      by_cases hc : Sat.most (l.take k) < Sat.clip l[k]
      all_goals
        go_wp2_with (go_at_call 60; refine (satClip _ _).mono ?_; rintro e w' ⟨rfl, rfl⟩)
        go_round
        case rel => exact ⟨k + 1, by omega, by go_num, by rw [take_more hlt, hs.out]; first | rw [if_pos (by omega)] | rw [if_neg (by omega)]⟩
        case measure => simp [intOf]; omega
    · go_wp2
      go_ret
      exact ⟨by rw [List.take_of_length_le (by omega)]; rfl, rfl⟩
theorem satMax1 (x : Int) (w : World) (t : TypeId) (b : Nat) (hb : b = w.heap.size) : Calls Tryz.prog 133 #[.slice (some ⟨b, 0, none⟩) 1 1] (w.alloc (.cells #[.int .i64 x] t)) fun e w' => e = .returned (.int .i64 (Sat.most [x])) ∧ (w.alloc (.cells #[.int .i64 x] t)) = w' :=
  satMax _ [x] 1 _ (ints_new w [x] t _ rfl hb) (by simp)
theorem satMax2 (x y : Int) (w : World) (t : TypeId) (b : Nat) (hb : b = w.heap.size) : Calls Tryz.prog 133 #[.slice (some ⟨b, 0, none⟩) 2 2] (w.alloc (.cells #[.int .i64 x, .int .i64 y] t)) fun e w' => e = .returned (.int .i64 (Sat.most [x, y])) ∧ (w.alloc (.cells #[.int .i64 x, .int .i64 y] t)) = w' :=
  satMax _ [x, y] 2 _ (ints_new w [x, y] t _ rfl hb) (by simp)
theorem satMax3 (x y z : Int) (w : World) (t : TypeId) (b : Nat) (hb : b = w.heap.size) : Calls Tryz.prog 133 #[.slice (some ⟨b, 0, none⟩) 3 3] (w.alloc (.cells #[.int .i64 x, .int .i64 y, .int .i64 z] t)) fun e w' => e = .returned (.int .i64 (Sat.most [x, y, z])) ∧ (w.alloc (.cells #[.int .i64 x, .int .i64 y, .int .i64 z] t)) = w' :=
  satMax _ [x, y, z] 3 _ (ints_new w [x, y, z] t _ rfl hb) (by simp)
theorem satMax4 (x y z u : Int) (w : World) (t : TypeId) (b : Nat) (hb : b = w.heap.size) : Calls Tryz.prog 133 #[.slice (some ⟨b, 0, none⟩) 4 4] (w.alloc (.cells #[.int .i64 x, .int .i64 y, .int .i64 z, .int .i64 u] t)) fun e w' => e = .returned (.int .i64 (Sat.most [x, y, z, u])) ∧ (w.alloc (.cells #[.int .i64 x, .int .i64 y, .int .i64 z, .int .i64 u] t)) = w' :=
  satMax _ [x, y, z, u] 4 _ (ints_new w [x, y, z, u] t _ rfl hb) (by simp)
set_option maxHeartbeats 400000 in
theorem refMax (A : Option Addr) (l : List Int) (cap : Nat) (w : World) (h : IntsAt w A l) (hl : l.length ≤ 9223372036854775807) :
    Calls Tryz.prog 140 #[.slice A l.length cap] w fun e w' => e = .returned (.int .i64 (Sat.most l)) ∧ w = w' := by
  go_enter Tryz.func140, Tryz.ntmps140
  go_wp2
  go_loop [3, 8] (fun s i => ∃ k : Nat, k ≤ l.length ∧ i = .int .i64 k ∧ s = .int .i64 (Sat.most (l.take k))) (fun _ i => l.length - (intOf i).toNat)
  case atStart => exact ⟨0, Nat.zero_le _, rfl, rfl⟩
  case round =>
    obtain ⟨k, hk, rfl, rfl⟩ := hrel
    have hb := Sat.most_bd (l.take k)
    by_cases hlt : k < l.length
    · obtain ⟨b, off, hA, hb, hc⟩ := h k hlt
      subst hA
      have hs := Lib.hid (Sat.most_snoc (l.take k) l[k])
      have hbk := Sat.clip_bd l[k]
      by_cases hc : Sat.most (l.take k) < Sat.clip l[k]
      all_goals
        go_wp2_with (go_at_call 28; refine (refClip _ _).mono ?_; rintro e w' ⟨rfl, rfl⟩)
        go_round
        case rel => exact ⟨k + 1, by omega, by go_num, by rw [take_more hlt, hs.out]; first | rw [if_pos (by omega)] | rw [if_neg (by omega)]⟩
        case measure => simp [intOf]; omega
    · go_wp2
      go_ret
      exact ⟨by rw [List.take_of_length_le (by omega)]; rfl, rfl⟩
set_option maxHeartbeats 400000 in
theorem refMulPos (a b : Int) (w : World) (hp : 0 ≤ Sat.clip b) : Calls Tryz.prog 138 #[.int .i64 a, .int .i64 b] w fun e w' => e = .returned (.int .i64 (Sat.mul a b)) ∧ w = w' := by
  have ha := Sat.clip_bd a
  have hb := Sat.clip_bd b
  obtain ⟨m, hm⟩ := Int.eq_ofNat_of_zero_le hp
  have hmb : m ≤ 2305843009213693952 := by omega
  have HM := Lib.hid hm
  clear hm
  go_enter Tryz.func138, Tryz.ntmps138
  go_wp2_with (go_at_call 28; refine (refClip _ _).mono ?_; rintro e w' ⟨rfl, rfl⟩)
  go_loop [5, 6] (fun n i => ∃ k : Nat, k ≤ 62 ∧ i = .int .i64 ((k : Int) - 1) ∧ n = .int .i64 (Sat.clip (Sat.clip a * Sat.top m k))) (fun _ i => (intOf i + 1).toNat)
  case atStart => exact ⟨62, by omega, by go_num, by rw [Sat.top_high m 62 (by omega), Int.mul_zero]; rfl⟩
  case round =>
    obtain ⟨k, hk, rfl, rfl⟩ := hrel
    have hbn := Sat.clip_bd (Sat.clip a * Sat.top m k)
    cases k with
    | zero =>
      go_wp2
      go_ret
      exact ⟨ret_int (by rw [Sat.top_zero]; unfold Sat.mul; rw [HM.out]), rfl⟩
    | succ k =>
      have hq : m / 2 ^ k < 9223372036854775808 := Nat.lt_of_le_of_lt (Nat.div_le_self _ _) (by omega)
      have hand := and_one (m / 2 ^ k) hq
      have h62 := Sat.clip_bd (2 * Sat.clip (Sat.clip a * Sat.top m (k + 1)))
      rcases Nat.mod_two_eq_zero_or_one (m / 2 ^ k) with hm | hm
      · rw [hm] at hand
        have hr := Lib.hid (Sat.mul_round0 (Sat.clip a) m k hm)
        have hbit : (bits BinOp.and IntKind.i64 (Sat.clip b / 2 ^ k) 1 == 1) = false := by push_cast at hand; rw [HM.out]; rw [hand]; rfl
        clear hand hm
        go_wp2_with (go_at_call 28; refine (refClip _ _).mono ?_; rintro e w' ⟨rfl, rfl⟩)
        go_round
        case rel => exact ⟨k, by omega, by go_num, by rw [hr.out]⟩
        case measure => simp [intOf]
      · rw [hm] at hand
        have hr := Lib.hid (Sat.mul_round1 (Sat.clip a) m k hm)
        have hbit : (bits BinOp.and IntKind.i64 (Sat.clip b / 2 ^ k) 1 == 1) = true := by push_cast at hand; rw [HM.out]; rw [hand]; rfl
        clear hand hm
        go_wp2_with (go_at_call 28; refine (refClip _ _).mono ?_; rintro e w' ⟨rfl, rfl⟩)
        go_round
        case rel => exact ⟨k, by omega, by go_num, by rw [hr.out]⟩
        case measure => simp [intOf]
theorem refMul (a b : Int) (w : World) : Calls Tryz.prog 138 #[.int .i64 a, .int .i64 b] w fun e w' => e = .returned (.int .i64 (Sat.mul a b)) ∧ w = w' := by
  by_cases hp : 0 ≤ Sat.clip b
  · exact refMulPos a b w hp
  · have hn : Sat.clip b < 0 := by omega
    have hb := Sat.clip_bd b
    have hp' : 0 ≤ Sat.clip (-Sat.clip b) := by rw [Sat.clip_neg, Sat.clip_clip]; omega
    have e : Hid (Sat.mul a b = -Sat.mul (Sat.clip a) (-Sat.clip b)) := by
      refine Lib.hid ?_
      unfold Sat.mul; rw [Sat.clip_clip, Sat.clip_neg, Sat.clip_clip, Int.mul_neg, Sat.clip_neg, Int.neg_neg]
    have hmb := Sat.mul_bd (Sat.clip a) (-Sat.clip b)
    have hr := Lib.hid fun w => refMulPos (Sat.clip a) (-Sat.clip b) w hp'
    clear hp hp'
    go_enter Tryz.func138, Tryz.ntmps138
    go_wp2_with (first | (go_at_call 28; refine (refClip _ _).mono ?_; rintro e w' ⟨rfl, rfl⟩) | (go_at_call 138; refine (hr.out _).mono ?_; rintro e w' ⟨rfl, rfl⟩))
    go_ret
    exact ⟨ret_int e.out.symm, rfl⟩
end Go.Proofs.YtmmiboblofopgaaGreat

/- Words of my own: a world behind a call that has turned nothing that was there. -/
namespace Go.Proofs.YtmmiboblofopgaaGreat
open Go.RowKit

/-- What was there in w is in w' as it was; w' may hold more. -/
def Ok (w w' : World) : Prop := Below w.heap.size w w'
namespace Ok
theorem refl (w : World) : Ok w w := Below.refl _ _
theorem below {w w' : World} (h : Ok w w') : Below w.heap.size w w' := h
theorem size {w w' : World} (h : Ok w w') : w.heap.size ≤ w'.heap.size := Below.size h
theorem trans {a b c : World} (h : Ok a b) (k : Ok b c) : Ok a c := Below.trans h (Below.mono k h.size)
theorem alloc {a b : World} (h : Ok a b) (o : Obj) : Ok a (b.alloc o) := Below.alloc h h.size o
theorem drewN {a b : World} (h : Ok a b) (n : Nat) : Ok a (b.drewN n) := ⟨h.os, h.tape, h.output, h.size, h.block⟩
theorem drew {a b : World} (h : Ok a b) : Ok a b.drew := Below.drew h
theorem setCell {a b : World} (h : Ok a b) {p : Addr} (hp : a.heap.size ≤ p.block) (u : Value) : Ok a (b.setCell p u) := Below.setCell h hp u
theorem ints {a b : World} {A : Option Addr} {l : List Int} (h : Ok a b) (hi : IntsAt a A l) : IntsAt b A l := hi.below h
theorem cell {a b : World} (h : Ok a b) {p : Addr} (hp : p.block < a.heap.size) : b.cell? p = a.cell? p := Below.cell h hp
end Ok
end Go.Proofs.YtmmiboblofopgaaGreat

/- Words of my own: structs of integers that came in by value. -/
namespace Go.Proofs.YtmmiboblofopgaaGreat
open Go.RowKit Go.WideShapes Go.ChangeShapes Go.Joins Go.Deep
section
variable {H : Type} {enc : TypeId × Value → H} {P : Program} {w : World} {base : Nat} {spare : Nat → Bool} {held : Bool}
/-- A struct of integers that came in by value. -/
theorem open_agg_ints {r : Reach} {b0 : Nat} {t : TypeId} {fs : Array Field} {v : Value} {d : DataW H} {p : List MemPlace} (hs : P.underlying t = some (.struct fs)) (hone : oneCellFields P fs = true) (hC : P.cellsOf t = fs.size)
    (hall : ∀ (j : Nat) (f : Field), fs[j]? = some f → P.underlying f.type = some (.int .i64)) (hv : Value.okWide P w r b0 t v) (h : DataW.Trod enc P w base spare held t v d p) :
    ∃ zs : List Int, zs.length = fs.size ∧ v = .agg (zs.map (Value.int .i64)).toArray ∧ ∀ z ∈ zs, (Lit.int .i64 z).wf = true := by
  obtain ⟨cs, rfl, hsz⟩ := okWide_struct hs hv
  obtain ⟨fuel, hf⟩ := h
  obtain ⟨ys, n', hn', hy, hlen, hyl, hfl⟩ := DataW.trod_struct hs hf
  have key : ∀ j (hj : j < cs.size), ∃ n, cs[j] = .int .i64 n ∧ (Lit.int .i64 n).wf = true := by
    intro j hj
    have hjf : j < fs.size := by omega
    have e : fs[j]? = some fs[j] := Array.getElem?_eq_getElem hjf
    obtain ⟨ho, hk⟩ := hone_of hone j _ e
    have h1 := hfl j _ e
    rw [ho, hk] at h1
    have e1 : ((Value.agg cs).cells.toList.drop j).take 1 = [cs[j]] := by
      have hl : j < (Value.agg cs).cells.toList.length := by simpa [Value.cells] using hj
      rw [List.drop_eq_getElem_cons hl]
      simp [Value.cells]
    rw [e1, List.getElem?_eq_getElem (show j < ys.length by omega)] at h1
    obtain ⟨n, h2, _, h3⟩ := DataW.trod_int (hall j _ e) h1
    exact ⟨n, by simpa using h2, h3⟩
  refine ⟨cs.toList.map intOf, by simp; omega, ?_, ?_⟩
  · congr 1
    apply Array.ext
    · simp
    · intro i h1 h2
      obtain ⟨n, hn, _⟩ := key i h1
      simp [hn, intOf]
  · intro z hz
    obtain ⟨v, hv, rfl⟩ := List.mem_map.1 hz
    obtain ⟨j, hj, rfl⟩ := List.mem_iff_getElem.1 hv
    obtain ⟨n, hn, hw⟩ := key j (by simpa using hj)
    rw [Array.getElem_toList, hn]
    exact hw
theorem open_pair {r : Reach} {b0 : Nat} {t : TypeId} {f0 f1 : Field} {v : Value} {d : DataW H} {p : List MemPlace} (hs : P.underlying t = some (.struct #[f0, f1])) (hone : oneCellFields P #[f0, f1] = true) (hC : P.cellsOf t = 2)
    (h0 : P.underlying f0.type = some (.int .i64)) (h1 : P.underlying f1.type = some (.int .i64)) (hv : Value.okWide P w r b0 t v) (h : DataW.Trod enc P w base spare held t v d p) :
    ∃ a b : Int, v = .agg #[.int .i64 a, .int .i64 b] ∧ (Lit.int .i64 a).wf = true ∧ (Lit.int .i64 b).wf = true := by
  obtain ⟨zs, hl, rfl, hw⟩ := open_agg_ints hs hone hC (fun j f hj => by
    match j, hj with
    | 0, hj => simp at hj; subst hj; exact h0
    | 1, hj => simp at hj; subst hj; exact h1
    | n + 2, hj => simp at hj) hv h
  match zs, hl with
  | [a, b], _ => exact ⟨a, b, rfl, hw a (by simp), hw b (by simp)⟩
end
end Go.Proofs.YtmmiboblofopgaaGreat

/- Words of my own: a slice of structs of two integers that reads as a list of pairs. -/
namespace Go.Proofs.YtmmiboblofopgaaGreat
open Go.RowKit Go.WideShapes Go.ChangeShapes Go.Joins Go.Deep
/-- The slice with address A reads, in world w, as the pairs l. -/
def PairsAt (w : World) (A : Option Addr) (l : List (Int × Int)) : Prop :=
  ∀ k (h : k < l.length), ∃ b off, A = some ⟨b, off, none⟩ ∧ b < w.heap.size ∧ w.cell? ⟨b, off + k * 2, none⟩ = some (.int .i64 l[k].1) ∧ w.cell? ⟨b, off + k * 2 + 1, none⟩ = some (.int .i64 l[k].2)
theorem PairsAt.empty (w : World) (A : Option Addr) : PairsAt w A [] := fun k h => absurd h (Nat.not_lt_zero k)
theorem PairsAt.below {w w' : World} {A : Option Addr} {l : List (Int × Int)} (h : PairsAt w A l) (hb : Ok w w') : PairsAt w' A l := fun k hk => by
  obtain ⟨b, off, hA, hlt, hc, hd⟩ := h k hk
  exact ⟨b, off, hA, Nat.lt_of_lt_of_le hlt hb.size, (Below.cell hb (p := ⟨b, off + k * 2, none⟩) hlt).trans hc, (Below.cell hb (p := ⟨b, off + k * 2 + 1, none⟩) hlt).trans hd⟩
def cellsOfPairs (l : List (Int × Int)) : List Value := l.flatMap fun s => [.int .i64 s.1, .int .i64 s.2]
theorem cellsOfPairs_at : ∀ (l : List (Int × Int)) (k : Nat) (h : k < l.length), (cellsOfPairs l)[k * 2]? = some (.int .i64 l[k].1) ∧ (cellsOfPairs l)[k * 2 + 1]? = some (.int .i64 l[k].2)
  | [], k, h => absurd h (Nat.not_lt_zero k)
  | s :: l, 0, _ => ⟨rfl, rfl⟩
  | s :: l, k + 1, h => by
    have := cellsOfPairs_at l k (by simpa using h)
    have e : (k + 1) * 2 = k * 2 + 2 := by omega
    rw [e]
    exact this
/-- A slice of structs written down at a call: a new block. -/
theorem pairs_new (w : World) (l : List (Int × Int)) (t : TypeId) (cs : Array Value) (h : cs.toList = cellsOfPairs l) {b : Nat} (hb : b = w.heap.size) : PairsAt (w.alloc (.cells cs t)) (some ⟨b, 0, none⟩) l := by
  subst hb
  intro k hk
  have e2 : (w.alloc (.cells cs t)).heap[w.heap.size]? = some (.cells cs t) := (MapKept.heap_alloc w _).1
  have := cellsOfPairs_at l k hk
  rw [← h, Array.getElem?_toList, Array.getElem?_toList] at this
  refine ⟨w.heap.size, 0, rfl, by simp, ?_, ?_⟩
  · simp only [World.cell?, e2, Nat.zero_add]; exact this.1
  · simp only [World.cell?, e2, Nat.zero_add]; exact this.2
/-- A row of the call's own reads as the list that it holds. -/
theorem PairsAt.of_own {w : World} {B : Nat} {e : TypeId} {v : Value} {l : List (Int × Int)} (h : w.ownsRow B e 2 v l.length (cellsOfPairs l)) : ∃ A cap, v = .slice A l.length cap ∧ PairsAt w A l := by
  rcases h.2 with ⟨rfl, hx⟩ | ⟨g, cap, cur, rfl, hb, hh, r⟩
  · have : l = [] := List.length_eq_zero_iff.1 hx
    subst this
    exact ⟨none, 0, rfl, PairsAt.empty _ _⟩
  · refine ⟨some ⟨g, 0, none⟩, cap, rfl, fun k hk => ⟨g, 0, rfl, (Array.getElem?_eq_some_iff.1 hh).1, ?_, ?_⟩⟩
    · have := h.cells (g := g) rfl (k * 2) _ (cellsOfPairs_at l k hk).1
      rw [Go.WideShapes.add_plain] at this
      exact this
    · have := h.cells (g := g) rfl (k * 2 + 1) _ (cellsOfPairs_at l k hk).2
      rw [Go.WideShapes.add_plain] at this
      rw [Nat.add_assoc]
      exact this
theorem IntsAt.alloc {w : World} {A : Option Addr} {l : List Int} (h : IntsAt w A l) (o : Obj) : IntsAt (w.alloc o) A l := h.below (below_alloc w o)
theorem IntsAt.drew {w : World} {A : Option Addr} {l : List Int} (h : IntsAt w A l) : IntsAt w.drew A l := h.below (Ok.refl w).drew
theorem IntsAt.drewN {w : World} {A : Option Addr} {l : List Int} (h : IntsAt w A l) (n : Nat) : IntsAt (w.drewN n) A l := h.below ((Ok.refl w).drewN n)
theorem PairsAt.alloc {w : World} {A : Option Addr} {l : List (Int × Int)} (h : PairsAt w A l) (o : Obj) : PairsAt (w.alloc o) A l := h.below (below_alloc w o)
theorem PairsAt.drew {w : World} {A : Option Addr} {l : List (Int × Int)} (h : PairsAt w A l) : PairsAt w.drew A l := h.below (Ok.refl w).drew
theorem PairsAt.drewN {w : World} {A : Option Addr} {l : List (Int × Int)} (h : PairsAt w A l) (n : Nat) : PairsAt (w.drewN n) A l := h.below ((Ok.refl w).drewN n)
/-- A struct of two integers that lies in a block. -/
structure Box (w : World) (g : Nat) (x y : Int) : Prop where
  c0 : w.cell? ⟨g, 0, none⟩ = some (.int .i64 x)
  c1 : w.cell? ⟨g, 1, none⟩ = some (.int .i64 y)
  lt : g < w.heap.size
theorem Box.new (w : World) (x y : Int) (t : TypeId) {g : Nat} (hg : g = w.heap.size) : Box (w.alloc (.cells #[.int .i64 x, .int .i64 y] t)) g x y := by
  obtain ⟨_, _, e, _, c0⟩ := ints_new w [x, y] t #[.int .i64 x, .int .i64 y] rfl hg 0 (by simp)
  obtain ⟨_, _, e1, _, c1⟩ := ints_new w [x, y] t #[.int .i64 x, .int .i64 y] rfl hg 1 (by simp)
  cases e; cases e1
  exact ⟨c0, c1, by simp [hg]⟩
theorem Box.next {w w1 : World} {g : Nat} {x y : Int} (h : Box w g x y) (k : Ok w w1) : Box w1 g x y :=
  ⟨(k.cell (p := ⟨g, 0, none⟩) h.lt).trans h.c0, (k.cell (p := ⟨g, 1, none⟩) h.lt).trans h.c1, Nat.lt_of_lt_of_le h.lt k.size⟩
/-- A struct of two integers in a block g, and nothing turned since w: what a region of calls keeps. -/
def Box1 (g : Nat) (w : World) (x y : Int) (w' : World) : Prop := w'.cell? ⟨g, 0, none⟩ = some (.int .i64 x) ∧ w'.cell? ⟨g, 1, none⟩ = some (.int .i64 y) ∧ g < w'.heap.size ∧ Ok w w'
theorem Box1.drew {g : Nat} {w w' : World} {x y : Int} (h : Box1 g w x y w') : Box1 g w x y w'.drew := ⟨h.1, h.2.1, h.2.2.1, h.2.2.2.drew⟩
theorem Box1.next {g : Nat} {w w' w1 : World} {x y : Int} (k : Ok w' w1) (h : Box1 g w x y w') : Box1 g w x y w1 :=
  ⟨(k.cell (p := ⟨g, 0, none⟩) h.2.2.1).trans h.1, (k.cell (p := ⟨g, 1, none⟩) h.2.2.1).trans h.2.1, Nat.lt_of_lt_of_le h.2.2.1 k.size, h.2.2.2.trans k⟩
/-- A struct of two integers of one's own: a whole block, that may be written. -/
structure Slab (w : World) (g : Nat) (x y : Int) : Prop where
  blk : ∃ t, w.heap[g]? = some (.cells #[.int .i64 x, .int .i64 y] t (0, 0))
namespace Slab
theorem new (w : World) (x y : Int) (t : TypeId) {g : Nat} (hg : g = w.heap.size) : Slab (w.alloc (.cells #[.int .i64 x, .int .i64 y] t)) g x y := ⟨t, by subst hg; exact (MapKept.heap_alloc w _).1⟩
theorem lt {w : World} {g : Nat} {x y : Int} (h : Slab w g x y) : g < w.heap.size := by
  obtain ⟨t, h⟩ := h
  exact (Array.getElem?_eq_some_iff.1 h).1
theorem next {w w1 : World} {g : Nat} {x y : Int} (h : Slab w g x y) (k : Ok w w1) : Slab w1 g x y := by
  have hl := h.lt
  obtain ⟨t, h⟩ := h
  exact ⟨t, (k.block g hl).trans h⟩
theorem alloc {w : World} {g : Nat} {x y : Int} (h : Slab w g x y) (o : Obj) : Slab (w.alloc o) g x y := h.next ((Ok.refl w).alloc o)
theorem drew {w : World} {g : Nat} {x y : Int} (h : Slab w g x y) : Slab w.drew g x y := ⟨h.blk⟩
theorem drewN {w : World} {g : Nat} {x y : Int} (h : Slab w g x y) (n : Nat) : Slab (w.drewN n) g x y := h.next ((Ok.refl w).drewN n)
theorem c0 {w : World} {g : Nat} {x y : Int} (h : Slab w g x y) : w.cell? ⟨g, 0, none⟩ = some (.int .i64 x) := by
  obtain ⟨t, h⟩ := h
  simp only [World.cell?, h]; rfl
theorem c1 {w : World} {g : Nat} {x y : Int} (h : Slab w g x y) : w.cell? ⟨g, 1, none⟩ = some (.int .i64 y) := by
  obtain ⟨t, h⟩ := h
  simp only [World.cell?, h]; rfl
theorem f0 {w : World} {g : Nat} {x y : Int} (h : Slab w g x y) : w.frozen? ⟨g, 0, none⟩ = false := by
  obtain ⟨t, h⟩ := h
  simp only [World.frozen?, h]; rfl
theorem f1 {w : World} {g : Nat} {x y : Int} (h : Slab w g x y) : w.frozen? ⟨g, 1, none⟩ = false := by
  obtain ⟨t, h⟩ := h
  simp only [World.frozen?, h]; rfl
theorem set {w : World} {g : Nat} {x y : Int} (h : Slab w g x y) (u v : Int) : Slab ((w.setCell ⟨g, 0, none⟩ (.int .i64 u)).setCell ⟨g, 1, none⟩ (.int .i64 v)) g u v := by
  obtain ⟨t, h⟩ := h
  refine ⟨t, ?_⟩
  have hl : g < w.heap.size := (Array.getElem?_eq_some_iff.1 h).1
  have e : w.heap[g] = .cells #[.int .i64 x, .int .i64 y] t (0, 0) := (Array.getElem?_eq_some_iff.1 h).2
  simp only [World.setCell, Array.getElem?_modify, h, if_true, Option.map_some]
  rfl
theorem setOther {w : World} {g : Nat} {x y : Int} (h : Slab w g x y) {a : Addr} (ha : g ≠ a.block) (v : Value) : Slab (w.setCell a v) g x y := by
  obtain ⟨t, h⟩ := h
  exact ⟨t, (Below.heap_setCell w a v g ha).trans h⟩
end Slab
section
variable {H : Type} {enc : TypeId × Value → H} {P : Program} {w : World} {base : Nat}
/-- A slice of structs of two integers that came in. -/
theorem open_slice_pairs {t e : TypeId} {f0 f1 : Field} {v : Value} {d : DataW H} {ps : List MemPlace} (ht : P.underlying t = some (.slice e)) (he : P.underlying e = some (.struct #[f0, f1])) (hone : oneCellFields P #[f0, f1] = true) (hC : P.cellsOf e = 2)
    (h0 : P.underlying f0.type = some (.int .i64)) (h1 : P.underlying f1.type = some (.int .i64)) (hv : Value.okWide P w .any base t v) (h : DataW.Trod enc P w 0 (fun _ => true) true t v d ps) :
    ∃ (A : Option Addr) (l : List (Int × Int)) (cap : Nat), v = .slice A l.length cap ∧ PairsAt w A l ∧ l.length ≤ 9223372036854775807 ∧ ∀ s ∈ l, (Lit.int .i64 s.1).wf = true ∧ (Lit.int .i64 s.2).wf = true := by
  obtain ⟨a0, len, cap, rfl⟩ := okWide_slice ht hv
  obtain ⟨fuel, hf⟩ := h
  rcases open_slice ht hf with h2 | ⟨a, len', cap', m, n, D, Pl, hcs, hb, hl, hm, hmm, hx, hi⟩
  · simp [Value.cells] at h2
    obtain ⟨⟨rfl, rfl, rfl⟩, -⟩ := h2
    exact ⟨none, [], 0, rfl, PairsAt.empty _ _, by simp, by simp⟩
  · simp [Value.cells] at hcs
    obtain ⟨rfl, rfl, rfl⟩ := hcs
    simp only [if_true] at hmm
    subst hmm
    have key : ∀ i, i < len → ∃ x y : Int, w.cell? (a.add (i * 2)) = some (.int .i64 x) ∧ w.cell? (a.add (i * 2 + 1)) = some (.int .i64 y) ∧ (Lit.int .i64 x).wf = true ∧ (Lit.int .i64 y).wf = true := by
      intro i hlt
      obtain ⟨cs', hc, ht'⟩ := hi i (by omega)
      rw [hC] at hc
      obtain ⟨ys, n', hn', hy, hlen, hyl, hfl⟩ := DataW.trod_struct he ht'
      obtain ⟨_, hcl, hat⟩ := World.cells?_some hc
      have one : ∀ (j : Nat) (f : Field), #[f0, f1][j]? = some f → P.underlying f.type = some (.int .i64) → ∃ z : Int, w.cell? (a.add (i * 2 + j)) = some (.int .i64 z) ∧ (Lit.int .i64 z).wf = true := by
        intro j f hj hu
        obtain ⟨ho, hk⟩ := hone_of hone j f hj
        have hjl : j < 2 := (Array.getElem?_eq_some_iff.1 hj).1
        have hcell := hat j hjl
        have h1 := hfl j f hj
        rw [ho, hk] at h1
        have e1 : (cs'.drop j).take 1 = [cs'[j]'(by omega)] := by
          rw [List.drop_eq_getElem_cons (by omega)]
          rfl
        have hjs : j < ys.length := by rw [hyl]; exact hjl
        rw [e1, List.getElem?_eq_getElem hjs] at h1
        obtain ⟨z, h2, _, h3⟩ := DataW.trod_int hu h1
        refine ⟨z, ?_, h3⟩
        rw [← Go.Deep.add_add, hcell, List.getElem?_eq_getElem (show j < cs'.length by omega)]
        simpa using h2
      obtain ⟨x, hx, wx⟩ := one 0 f0 rfl h0
      obtain ⟨y, hy, wy⟩ := one 1 f1 rfl h1
      exact ⟨x, y, hx, hy, wx, wy⟩
    have key' : ∀ i : Fin len, ∃ s : Int × Int, w.cell? (a.add (i * 2)) = some (.int .i64 s.1) ∧ w.cell? (a.add (i * 2 + 1)) = some (.int .i64 s.2) ∧ (Lit.int .i64 s.1).wf = true ∧ (Lit.int .i64 s.2).wf = true := fun i => by
      obtain ⟨x, y, h⟩ := key i i.2
      exact ⟨(x, y), h⟩
    obtain ⟨F, hF⟩ := Classical.axiomOfChoice key'
    have hlen : (List.ofFn F).length = len := by simp
    refine ⟨some a, List.ofFn F, _, by rw [hlen], fun k hk => ?_, by unfold maxLen at hm; omega, fun s hs => ?_⟩
    · have hk' : k < len := by omega
      have h := hF ⟨k, hk'⟩
      obtain ⟨b, off, spot⟩ := a
      have hspot : spot = none := by
        have h0 := hF ⟨0, by omega⟩
        simpa [Addr.add] using World.cell?_spot h0.1
      subst hspot
      simp only [Go.WideShapes.add_plain, ← Nat.add_assoc] at h
      have e : (List.ofFn F)[k] = F ⟨k, hk'⟩ := by simp
      rw [e]
      exact ⟨b, off, rfl, cell_lt h.1, h.1, h.2.1⟩
    · obtain ⟨i, rfl⟩ := List.mem_ofFn.1 hs
      exact (hF i).2.2
end
end Go.Proofs.YtmmiboblofopgaaGreat

/- Contracts of layer 4's functions: what numbers may be. -/
namespace Go.Proofs.YtmmiboblofopgaaGreat
open Go.RowKit
set_option maxRecDepth 100000
attribute [local go_sem ↓] Go.wp_at_zero Go.wp_at_succ
/-- A fabric's numbers, as a value. -/
abbrev parV (p : Par) : Value := .agg #[.int .i64 p.n, .int .i64 p.f, .int .i64 p.d, .int .i64 p.beat, .int .i64 p.rho, .int .i64 p.delay, .int .i64 p.jit, .int .i64 p.eps, .int .i64 p.mu, .int .i64 p.hold, .int .i64 p.pulse, .int .i64 p.sec]

theorem limWithin (x lo hi : Int) (w : World) : Calls Tryz.prog 94 #[.int .i64 x, .int .i64 lo, .int .i64 hi] w fun e w' => e = .returned (.bool (Lim.win x lo hi)) ∧ w = w' := by
  by_cases h : lo ≤ x
  · by_cases h2 : x ≤ hi
    · rw [show Lim.win x lo hi = true from decide_eq_true ⟨h, h2⟩]
      go_enter Tryz.func94, Tryz.ntmps94
      go_wp2
      go_ret
      exact ⟨rfl, rfl⟩
    · rw [show Lim.win x lo hi = false from decide_eq_false fun g => h2 g.2]
      go_enter Tryz.func94, Tryz.ntmps94
      go_wp2
      go_ret
      exact ⟨rfl, rfl⟩
  · rw [show Lim.win x lo hi = false from decide_eq_false fun g => h g.1]
    go_enter Tryz.func94, Tryz.ntmps94
    go_wp2
    go_ret
    exact ⟨rfl, rfl⟩
theorem limUsers (p : Par) (w : World) : Calls Tryz.prog 54 #[parV p] w fun e w' => e = .returned (.bool (decide (Lim.Users p))) ∧ Ok w w' := by
  have hok := Ok.refl w
  by_cases h1 : 1 ≤ p.pulse ∧ p.pulse ≤ 1099511627776
  · have e1 := Lib.hid (Lim.win_true.2 h1)
    by_cases h2 : 1 ≤ p.sec ∧ p.sec ≤ 1099511627776
    · have e2 := Lib.hid (Lim.win_true.2 h2)
      rw [show decide (Lim.Users p) = true from decide_eq_true ⟨h1, h2⟩]
      go_enter Tryz.func54, Tryz.ntmps54
      go_wp2_with (go_at_call 94; refine (limWithin _ _ _ _).mono ?_; rintro e w' ⟨rfl, rfl⟩; first | rw [e1.out] | rw [e2.out])
      go_ret
      exact ⟨rfl, hok.alloc _⟩
    · have e2 := Lib.hid (Lim.win_false.2 h2)
      rw [show decide (Lim.Users p) = false from decide_eq_false fun g => h2 g.2]
      go_enter Tryz.func54, Tryz.ntmps54
      go_wp2_with (go_at_call 94; refine (limWithin _ _ _ _).mono ?_; rintro e w' ⟨rfl, rfl⟩; first | rw [e1.out] | rw [e2.out])
      go_ret
      exact ⟨rfl, hok.alloc _⟩
  · have e1 := Lib.hid (Lim.win_false.2 h1)
    rw [show decide (Lim.Users p) = false from decide_eq_false fun g => h1 g.1]
    go_enter Tryz.func54, Tryz.ntmps54
    go_wp2_with (go_at_call 94; refine (limWithin _ _ _ _).mono ?_; rintro e w' ⟨rfl, rfl⟩; rw [e1.out])
    go_ret
    exact ⟨rfl, hok.alloc _⟩
theorem limGates (p : Par) (w : World) : Calls Tryz.prog 51 #[parV p] w fun e w' => e = .returned (.bool (decide (Lim.Gates p))) ∧ Ok w w' := by
  have hok := Ok.refl w
  by_cases h1 : 1 ≤ p.n ∧ p.n ≤ 16
  · have e1 := Lib.hid (show Lim.win p.n 1 16 = true from Lim.win_true.2 (by omega))
    by_cases h2 : 0 ≤ p.f ∧ 3 * p.f + 1 ≤ p.n
    · have e2 := Lib.hid (show Lim.win p.f 0 ((p.n - 1) / 3) = true from Lim.win_true.2 (by omega))
      rw [show decide (Lim.Gates p) = true from decide_eq_true ⟨h1, h2⟩]
      go_enter Tryz.func51, Tryz.ntmps51
      go_wp2_with (go_at_call 94; refine (limWithin _ _ _ _).mono ?_; rintro e w' ⟨rfl, rfl⟩; first | rw [e1.out] | rw [e2.out])
      go_ret
      exact ⟨rfl, hok.alloc _⟩
    · have e2 := Lib.hid (show Lim.win p.f 0 ((p.n - 1) / 3) = false from Lim.win_false.2 (by omega))
      rw [show decide (Lim.Gates p) = false from decide_eq_false fun g => h2 g.2]
      go_enter Tryz.func51, Tryz.ntmps51
      go_wp2_with (go_at_call 94; refine (limWithin _ _ _ _).mono ?_; rintro e w' ⟨rfl, rfl⟩; first | rw [e1.out] | rw [e2.out])
      go_ret
      exact ⟨rfl, hok.alloc _⟩
  · have e1 := Lib.hid (show Lim.win p.n 1 16 = false from Lim.win_false.2 (by omega))
    rw [show decide (Lim.Gates p) = false from decide_eq_false fun g => h1 g.1]
    go_enter Tryz.func51, Tryz.ntmps51
    go_wp2_with (go_at_call 94; refine (limWithin _ _ _ _).mono ?_; rintro e w' ⟨rfl, rfl⟩; first | rw [e1.out])
    go_ret
    exact ⟨rfl, hok.alloc _⟩
theorem limBeats (p : Par) (w : World) : Calls Tryz.prog 53 #[parV p] w fun e w' => e = .returned (.bool (decide (Lim.Beats p))) ∧ Ok w w' := by
  have hok := Ok.refl w
  by_cases h1 : 0 ≤ p.d ∧ p.d ≤ 16
  · have e1 := Lib.hid (show Lim.win p.d 0 16 = true from Lim.win_true.2 (by omega))
    by_cases h2 : p.d + 2 ≤ p.hold ∧ p.hold ≤ 1048576
    · have e2 := Lib.hid (show Lim.win p.hold (p.d + 2) 1048576 = true from Lim.win_true.2 (by omega))
      rw [show decide (Lim.Beats p) = true from decide_eq_true ⟨h1, h2⟩]
      go_enter Tryz.func53, Tryz.ntmps53
      go_wp2_with (go_at_call 94; refine (limWithin _ _ _ _).mono ?_; rintro e w' ⟨rfl, rfl⟩; first | rw [e1.out] | rw [e2.out])
      go_ret
      exact ⟨rfl, hok.alloc _⟩
    · have e2 := Lib.hid (show Lim.win p.hold (p.d + 2) 1048576 = false from Lim.win_false.2 (by omega))
      rw [show decide (Lim.Beats p) = false from decide_eq_false fun g => h2 g.2]
      go_enter Tryz.func53, Tryz.ntmps53
      go_wp2_with (go_at_call 94; refine (limWithin _ _ _ _).mono ?_; rintro e w' ⟨rfl, rfl⟩; first | rw [e1.out] | rw [e2.out])
      go_ret
      exact ⟨rfl, hok.alloc _⟩
  · have e1 := Lib.hid (show Lim.win p.d 0 16 = false from Lim.win_false.2 (by omega))
    rw [show decide (Lim.Beats p) = false from decide_eq_false fun g => h1 g.1]
    go_enter Tryz.func53, Tryz.ntmps53
    go_wp2_with (go_at_call 94; refine (limWithin _ _ _ _).mono ?_; rintro e w' ⟨rfl, rfl⟩; first | rw [e1.out])
    go_ret
    exact ⟨rfl, hok.alloc _⟩
set_option maxHeartbeats 1600000 in
theorem limBeat (p : Par) (w : World) : Calls Tryz.prog 52 #[parV p] w fun e w' => e = .returned (.bool (decide (Lim.Beat p))) ∧ Ok w w' := by
  have hok := Ok.refl w
  by_cases h1 : 1 ≤ p.beat ∧ p.beat ≤ 1099511627776
  · have e1 := Lib.hid (show Lim.win p.beat 1 1099511627776 = true from Lim.win_true.2 (by omega))
    by_cases h2 : 0 ≤ p.rho ∧ 8 * p.rho ≤ p.beat
    · have e2 := Lib.hid (show Lim.win p.rho 0 (p.beat / 8) = true from Lim.win_true.2 (by omega))
      by_cases h3 : 0 ≤ p.delay ∧ 2 * p.delay ≤ p.beat
      · have e3 := Lib.hid (show Lim.win p.delay 0 (p.beat / 2) = true from Lim.win_true.2 (by omega))
        by_cases h4 : 0 ≤ p.jit ∧ p.jit ≤ p.delay
        · have e4 := Lib.hid (show Lim.win p.jit 0 p.delay = true from Lim.win_true.2 (by omega))
          by_cases h5 : 0 ≤ p.eps ∧ p.eps ≤ 1099511627776
          · have e5 := Lib.hid (show Lim.win p.eps 0 1099511627776 = true from Lim.win_true.2 (by omega))
            by_cases h6 : p.rho < p.mu ∧ 4 * p.mu ≤ p.beat
            · have e6 := Lib.hid (show Lim.win p.mu (p.rho + 1) (p.beat / 4) = true from Lim.win_true.2 (by omega))
              rw [show decide (Lim.Beat p) = true from decide_eq_true ⟨h1, h2, h3, h4, h5, h6⟩]
              go_enter Tryz.func52, Tryz.ntmps52
              go_wp2_with (go_at_call 94; refine (limWithin _ _ _ _).mono ?_; rintro e w' ⟨rfl, rfl⟩; first | rw [e1.out] | rw [e2.out] | rw [e3.out] | rw [e4.out] | rw [e5.out] | rw [e6.out])
              go_ret
              exact ⟨rfl, hok.alloc _⟩
            · have e6 := Lib.hid (show Lim.win p.mu (p.rho + 1) (p.beat / 4) = false from Lim.win_false.2 (by omega))
              rw [show decide (Lim.Beat p) = false from decide_eq_false fun g => h6 g.2.2.2.2.2]
              go_enter Tryz.func52, Tryz.ntmps52
              go_wp2_with (go_at_call 94; refine (limWithin _ _ _ _).mono ?_; rintro e w' ⟨rfl, rfl⟩; first | rw [e1.out] | rw [e2.out] | rw [e3.out] | rw [e4.out] | rw [e5.out] | rw [e6.out])
              go_ret
              exact ⟨rfl, hok.alloc _⟩
          · have e5 := Lib.hid (show Lim.win p.eps 0 1099511627776 = false from Lim.win_false.2 (by omega))
            rw [show decide (Lim.Beat p) = false from decide_eq_false fun g => h5 g.2.2.2.2.1]
            go_enter Tryz.func52, Tryz.ntmps52
            go_wp2_with (go_at_call 94; refine (limWithin _ _ _ _).mono ?_; rintro e w' ⟨rfl, rfl⟩; first | rw [e1.out] | rw [e2.out] | rw [e3.out] | rw [e4.out] | rw [e5.out])
            go_ret
            exact ⟨rfl, hok.alloc _⟩
        · have e4 := Lib.hid (show Lim.win p.jit 0 p.delay = false from Lim.win_false.2 (by omega))
          rw [show decide (Lim.Beat p) = false from decide_eq_false fun g => h4 g.2.2.2.1]
          go_enter Tryz.func52, Tryz.ntmps52
          go_wp2_with (go_at_call 94; refine (limWithin _ _ _ _).mono ?_; rintro e w' ⟨rfl, rfl⟩; first | rw [e1.out] | rw [e2.out] | rw [e3.out] | rw [e4.out])
          go_ret
          exact ⟨rfl, hok.alloc _⟩
      · have e3 := Lib.hid (show Lim.win p.delay 0 (p.beat / 2) = false from Lim.win_false.2 (by omega))
        rw [show decide (Lim.Beat p) = false from decide_eq_false fun g => h3 g.2.2.1]
        go_enter Tryz.func52, Tryz.ntmps52
        go_wp2_with (go_at_call 94; refine (limWithin _ _ _ _).mono ?_; rintro e w' ⟨rfl, rfl⟩; first | rw [e1.out] | rw [e2.out] | rw [e3.out])
        go_ret
        exact ⟨rfl, hok.alloc _⟩
    · have e2 := Lib.hid (show Lim.win p.rho 0 (p.beat / 8) = false from Lim.win_false.2 (by omega))
      rw [show decide (Lim.Beat p) = false from decide_eq_false fun g => h2 g.2.1]
      go_enter Tryz.func52, Tryz.ntmps52
      go_wp2_with (go_at_call 94; refine (limWithin _ _ _ _).mono ?_; rintro e w' ⟨rfl, rfl⟩; first | rw [e1.out] | rw [e2.out])
      go_ret
      exact ⟨rfl, hok.alloc _⟩
  · have e1 := Lib.hid (show Lim.win p.beat 1 1099511627776 = false from Lim.win_false.2 (by omega))
    rw [show decide (Lim.Beat p) = false from decide_eq_false fun g => h1 g.1]
    go_enter Tryz.func52, Tryz.ntmps52
    go_wp2_with (go_at_call 94; refine (limWithin _ _ _ _).mono ?_; rintro e w' ⟨rfl, rfl⟩; first | rw [e1.out])
    go_ret
    exact ⟨rfl, hok.alloc _⟩
end Go.Proofs.YtmmiboblofopgaaGreat

/- Words of my own: a block of one's own that holds a row of integers (a struct), whole: read, and kept. -/
namespace Go.Proofs.YtmmiboblofopgaaGreat
open Go.RowKit Go.WideShapes Go.ChangeShapes Go.Joins Go.Deep
/-- The block g holds the values cs, whole. -/
structure Own (w : World) (g : Nat) (cs : Array Value) : Prop where
  blk : ∃ t, w.heap[g]? = some (.cells cs t (0, 0))
namespace Own
theorem new (w : World) (cs : Array Value) (t : TypeId) {g : Nat} (hg : g = w.heap.size) : Own (w.alloc (.cells cs t)) g cs := ⟨t, by subst hg; exact (MapKept.heap_alloc w _).1⟩
theorem lt {w : World} {g : Nat} {cs : Array Value} (h : Own w g cs) : g < w.heap.size := by
  obtain ⟨t, h⟩ := h
  exact (Array.getElem?_eq_some_iff.1 h).1
theorem next {w w1 : World} {g : Nat} {cs : Array Value} (h : Own w g cs) (k : Ok w w1) : Own w1 g cs := by
  have hl := h.lt
  obtain ⟨t, h⟩ := h
  exact ⟨t, (k.block g hl).trans h⟩
theorem alloc {w : World} {g : Nat} {cs : Array Value} (h : Own w g cs) (o : Obj) : Own (w.alloc o) g cs := h.next ((Ok.refl w).alloc o)
theorem drew {w : World} {g : Nat} {cs : Array Value} (h : Own w g cs) : Own w.drew g cs := ⟨h.blk⟩
theorem drewN {w : World} {g : Nat} {cs : Array Value} (h : Own w g cs) (n : Nat) : Own (w.drewN n) g cs := h.next ((Ok.refl w).drewN n)
theorem cell {w : World} {g : Nat} {cs : Array Value} (h : Own w g cs) (k : Nat) {v : Value} (hv : cs[k]? = some v) : w.cell? ⟨g, k, none⟩ = some v := by
  obtain ⟨t, h⟩ := h
  simp only [World.cell?, h]; exact hv
theorem frozen {w : World} {g : Nat} {cs : Array Value} (h : Own w g cs) (k : Nat) : w.frozen? ⟨g, k, none⟩ = false := by
  obtain ⟨t, h⟩ := h
  simp only [World.frozen?, h]; simp
theorem setOther {w : World} {g : Nat} {cs : Array Value} (h : Own w g cs) {a : Addr} (ha : g ≠ a.block) (v : Value) : Own (w.setCell a v) g cs := by
  obtain ⟨t, h⟩ := h
  exact ⟨t, (Below.heap_setCell w a v g ha).trans h⟩
theorem set {w : World} {g : Nat} {cs : Array Value} (h : Own w g cs) (k : Nat) (v : Value) : Own (w.setCell ⟨g, k, none⟩ v) g (cs.set! k v) := by
  obtain ⟨t, h⟩ := h
  refine ⟨t, ?_⟩
  simp only [World.setCell, Array.getElem?_modify, h, if_true, Option.map_some]
  rfl
end Own
end Go.Proofs.YtmmiboblofopgaaGreat

/- Contracts of layer 4's Check, the program's and the document's. -/
namespace Go.Proofs.YtmmiboblofopgaaGreat
open Go.RowKit
set_option maxRecDepth 100000
attribute [local go_sem ↓] Go.wp_at_zero Go.wp_at_succ
/-- The block g holds a fabric's numbers. -/
abbrev parCells (p : Par) : Array Value := #[.int .i64 p.n, .int .i64 p.f, .int .i64 p.d, .int .i64 p.beat, .int .i64 p.rho, .int .i64 p.delay, .int .i64 p.jit, .int .i64 p.eps, .int .i64 p.mu, .int .i64 p.hold, .int .i64 p.pulse, .int .i64 p.sec]
theorem Own.pars {w : World} {g : Nat} {p : Par} (h : Own w g (parCells p)) :
    w.cell? ⟨g, 0, none⟩ = some (.int .i64 p.n) ∧ w.cell? ⟨g, 1, none⟩ = some (.int .i64 p.f) ∧ w.cell? ⟨g, 2, none⟩ = some (.int .i64 p.d) ∧ w.cell? ⟨g, 3, none⟩ = some (.int .i64 p.beat) ∧
    w.cell? ⟨g, 4, none⟩ = some (.int .i64 p.rho) ∧ w.cell? ⟨g, 5, none⟩ = some (.int .i64 p.delay) ∧ w.cell? ⟨g, 6, none⟩ = some (.int .i64 p.jit) ∧ w.cell? ⟨g, 7, none⟩ = some (.int .i64 p.eps) ∧
    w.cell? ⟨g, 8, none⟩ = some (.int .i64 p.mu) ∧ w.cell? ⟨g, 9, none⟩ = some (.int .i64 p.hold) ∧ w.cell? ⟨g, 10, none⟩ = some (.int .i64 p.pulse) ∧ w.cell? ⟨g, 11, none⟩ = some (.int .i64 p.sec) :=
  ⟨h.cell 0 rfl, h.cell 1 rfl, h.cell 2 rfl, h.cell 3 rfl, h.cell 4 rfl, h.cell 5 rfl, h.cell 6 rfl, h.cell 7 rfl, h.cell 8 rfl, h.cell 9 rfl, h.cell 10 rfl, h.cell 11 rfl⟩

set_option maxHeartbeats 1600000 in
theorem limCheck (p : Par) (w : World) : Calls Tryz.prog 19 #[parV p] w fun e w' => e = .returned (.int .i64 (Lim.check p)) ∧ Ok w w' := by
  have K1 := Lib.hid fun w => limGates p w
  have K2 := Lib.hid fun w => limBeat p w
  have K3 := Lib.hid fun w => limBeats p w
  have K4 := Lib.hid fun w => limUsers p w
  have key : ∀ b1 b2 b3 b4 : Bool, decide (Lim.Gates p) = b1 → decide (Lim.Beat p) = b2 → decide (Lim.Beats p) = b3 → decide (Lim.Users p) = b4 → Calls Tryz.prog 19 #[parV p] w fun e w' => e = .returned (.int .i64 (if (b1 && b2 && b3 && b4) = true then 0 else 1)) ∧ Ok w w' := by
    intro b1 b2 b3 b4 h1 h2 h3 h4
    rw [h1] at K1
    rw [h2] at K2
    rw [h3] at K3
    rw [h4] at K4
    clear h1 h2 h3 h4
    have hok := Ok.refl w
    cases b1
    case' true => cases b2
    case' true.true => cases b3
    case' true.true.true => cases b4
    all_goals
      simp only [Bool.and_true, Bool.and_false, Bool.false_and, if_true, if_false, reduceCtorEq]
      go_enter Tryz.func19, Tryz.ntmps19
      go_wp2_with (first
        | (go_at_call 51; refine (K1.out _).mono ?_; rintro e w1 ⟨rfl, hb1⟩; have hS := (Own.new _ _ _ rfl).next hb1; replace hok := (hok.alloc _).trans hb1; clear hb1; obtain ⟨c0, c1, c2, c3, c4, c5, c6, c7, c8, c9, c10, c11⟩ := hS.pars)
        | (go_at_call 52; refine (K2.out _).mono ?_; rintro e w1 ⟨rfl, hb1⟩; replace hS := hS.next hb1; replace hok := hok.trans hb1; clear hb1 c0 c1 c2 c3 c4 c5 c6 c7 c8 c9 c10 c11; obtain ⟨c0, c1, c2, c3, c4, c5, c6, c7, c8, c9, c10, c11⟩ := hS.pars)
        | (go_at_call 53; refine (K3.out _).mono ?_; rintro e w1 ⟨rfl, hb1⟩; replace hS := hS.next hb1; replace hok := hok.trans hb1; clear hb1 c0 c1 c2 c3 c4 c5 c6 c7 c8 c9 c10 c11; obtain ⟨c0, c1, c2, c3, c4, c5, c6, c7, c8, c9, c10, c11⟩ := hS.pars)
        | (go_at_call 54; refine (K4.out _).mono ?_; rintro e w1 ⟨rfl, hb1⟩; replace hS := hS.next hb1; replace hok := hok.trans hb1; clear hb1 c0 c1 c2 c3 c4 c5 c6 c7 c8 c9 c10 c11))
      go_ret
      exact ⟨rfl, hok⟩
  have hk := key _ _ _ _ rfl rfl rfl rfl
  have e : (if (decide (Lim.Gates p) && decide (Lim.Beat p) && decide (Lim.Beats p) && decide (Lim.Users p)) = true then (0 : Int) else 1) = Lim.check p := by
    unfold Lim.check Lim.May
    simp only [Bool.and_eq_true, decide_eq_true_eq, and_assoc]
  rw [e] at hk
  exact hk
end Go.Proofs.YtmmiboblofopgaaGreat
