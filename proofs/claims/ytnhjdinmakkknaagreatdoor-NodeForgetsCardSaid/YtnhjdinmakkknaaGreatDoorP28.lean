/- Several texts of mine in one: B17, B11, W19, M47. -/
import Derived.Test.YtnhjdinmakkknaaGreatDoorP33
import Derived.Test.YtnhjdinmakkknaaGreatDoorP24
import Derived.Test.YtnhjdinmakkknaaGreatDoorW16
import Derived.Test.YtnhjdinmakkknaaGreatDoorB06
import Derived.Test.YtnhjdinmakkknaaGreatDoorB03
import Derived.Test.YtnhjdinmakkknaaGreatDoorMA
import Derived.Test.YtnhjdinmakkknaaGreatDoorB09
import Derived.Test.YtnhjdinmakkknaaGreatDoorC01a
import Derived.Test.YtnhjdinmakkknaaGreatDoorB08
import Derived.Deep.CutRange
import Derived.Deep.RegionLaw
import Derived.Deep.QuietTactic
import Derived.BigQuiet
/- Contracts of layer 21: the document's Sane. -/
namespace Go.Proofs.YtnhjdinmakkknaaGreatDoor
open Go.RowKit
set_option linter.unusedVariables false
set_option maxRecDepth 100000
attribute [local go_sem ↓] Go.wp_at_zero Go.wp_at_succ
/-- A block that holds leaps. -/
def LeapBlk (w : World) (b : Nat) : Prop := ∃ cs, w.heap[b]? = some (.cells cs 81 (0, 0))
theorem LeapBlk.next {w w' : World} {b : Nat} (h : LeapBlk w b) (j : Ok w w') : LeapBlk w' b := by
  obtain ⟨cs, e⟩ := h
  exact ⟨cs, (j.block b (Array.getElem?_eq_some_iff.1 e).1).trans e⟩
theorem LeapBlk.other {w : World} {b : Nat} (h : LeapBlk w b) {p : Addr} (hp : b ≠ p.block) (v : Value) : LeapBlk (w.setCell p v) b := by
  obtain ⟨cs, e⟩ := h
  exact ⟨cs, (Below.heap_setCell w p v b hp).trans e⟩
/-- A slice that reads as pairs and lies behind the first K blocks, in a block of leaps (if it lies anywhere). -/
def PairsOf (K : Nat) (w : World) (A : Option Addr) (l : List (Int × Int)) : Prop := PairsAt w A l ∧ (∀ a, A = some a → K ≤ a.block) ∧ ∀ a, A = some a → LeapBlk w a.block
namespace PairsOf
theorem empty (K : Nat) (w : World) : PairsOf K w none [] := ⟨PairsAt.empty _ _, fun _ h => (by cases h), fun _ h => (by cases h)⟩
theorem next {K : Nat} {w w' : World} {A : Option Addr} {l : List (Int × Int)} (h : PairsOf K w A l) (j : Ok w w') : PairsOf K w' A l := ⟨h.1.below j, h.2.1, fun a ha => (h.2.2 a ha).next j⟩
/-- It stays behind a store into another block. -/
theorem other {K : Nat} {w : World} {A : Option Addr} {l : List (Int × Int)} (h : PairsOf K w A l) {p : Addr} (hp : ∀ a, A = some a → a.block ≠ p.block) (v : Value) : PairsOf K (w.setCell p v) A l := ⟨fun k hk => by
  obtain ⟨b, off, e, hlt, hc, hd⟩ := h.1 k hk
  have hx := Below.heap_setCell w p v b (hp _ e)
  refine ⟨b, off, e, by simpa using hlt, ?_, ?_⟩
  · rw [← hc]; simp only [World.cell?, hx]
  · rw [← hd]; simp only [World.cell?, hx], h.2.1, fun a ha => (h.2.2 a ha).other (hp a ha) v⟩
theorem set {K : Nat} {w : World} {A : Option Addr} {l : List (Int × Int)} (h : PairsOf K w A l) {p : Addr} (hp : p.block < K) (v : Value) : PairsOf K (w.setCell p v) A l := h.other (fun a ha => Nat.ne_of_gt (Nat.lt_of_lt_of_le hp (h.2.1 a ha))) v
theorem of_own {K : Nat} {w : World} {B : Nat} {v : Value} {l : List (Int × Int)} (h : w.ownsRow B 81 2 v l.length (cellsOfPairs l)) (hK : K ≤ B) : ∃ A cap, v = .slice A l.length cap ∧ PairsOf K w A l := by
  obtain ⟨A, cap, rfl, hA⟩ := PairsAt.of_own h
  refine ⟨A, cap, rfl, hA, fun a ha => by subst ha; exact Nat.le_trans hK (h.lt a.block rfl).1, fun a ha => ?_⟩
  rcases h.2 with ⟨e, _⟩ | ⟨g, c2, cur, e, hb, hh, _⟩
  · injection e with e1 _ _; rw [e1] at ha; cases ha
  · injection e with e1 _ _; rw [e1] at ha; cases ha; exact ⟨cur, hh⟩
theorem mono {K L : Nat} {w : World} {A : Option Addr} {l : List (Int × Int)} (h : PairsOf K w A l) (j : L ≤ K) : PairsOf L w A l := ⟨h.1, fun a ha => Nat.le_trans j (h.2.1 a ha), h.2.2⟩
end PairsOf
/-- It answers this state; its table can be read, in a block behind those of w. -/
def StaEnd (w : World) (t : Sta) (e : Ending) (w' : World) : Prop := ∃ (A : Option Addr) (cap : Nat), e = .returned (staV t A cap) ∧ PairsOf w.heap.size w' A t.table ∧ Ok w w'
end Go.Proofs.YtnhjdinmakkknaaGreatDoor
/- Contracts of layer 11: the document's calls. -/
namespace Go.Proofs.YtnhjdinmakkknaaGreatDoor
open Go.RowKit
set_option linter.unusedVariables false
set_option maxRecDepth 100000
attribute [local go_sem ↓] Go.wp_at_zero Go.wp_at_succ
end Go.Proofs.YtnhjdinmakkknaaGreatDoor

/- Contracts of layer 12: the program's Step and Off. -/
namespace Go.Proofs.YtnhjdinmakkknaaGreatDoor
open Go.RowKit
set_option maxRecDepth 100000
attribute [local go_sem ↓] Go.wp_at_zero Go.wp_at_succ
/-- A clock, as a value. -/
abbrev clockV (t : Int) (s : Bool) : Value := .agg #[.int .i64 t, .bool s]
theorem slewJump (p : Par) (t : Int) (s : Bool) (ticks dst : Int) (w : World) : Calls Tryz.prog 117 #[clockV t s, parV p, .int .i64 ticks, .int .i64 dst, .bool true] w fun e w' => e = .returned (clockV (Sat.clip dst) true) ∧ Ok w w' := by
  have hok := Ok.refl w
  go_enter Tryz.func117, Tryz.ntmps117
  go_wp2_with (go_at_call 55; refine (satClip _ _).mono ?_; rintro e w' ⟨rfl, rfl⟩)
  exact bodyPost_ret (v := clockV (Sat.clip dst) true) (by simp [results, Tryz.results117, go_sem]) rfl ⟨rfl, ((hok.alloc _).alloc _).alloc _⟩
theorem slewUnset (p : Par) (t : Int) (ticks dst : Int) (j : Bool) (w : World) : Calls Tryz.prog 117 #[clockV t false, parV p, .int .i64 ticks, .int .i64 dst, .bool j] w fun e w' => e = .returned (clockV (Sat.clip dst) true) ∧ Ok w w' := by
  cases j
  · have hok := Ok.refl w
    go_enter Tryz.func117, Tryz.ntmps117
    go_wp2_with (go_at_call 55; refine (satClip _ _).mono ?_; rintro e w' ⟨rfl, rfl⟩)
    exact bodyPost_ret (v := clockV (Sat.clip dst) true) (by simp [results, Tryz.results117, go_sem]) rfl ⟨rfl, ((hok.alloc _).alloc _).alloc _⟩
  · exact slewJump p t false ticks dst w
theorem slewStep (p : Par) (t ticks dst : Int) (w : World) : Calls Tryz.prog 117 #[clockV t true, parV p, .int .i64 ticks, .int .i64 dst, .bool false] w fun e w' => e = .returned (clockV (Slew.step p t ticks dst) true) ∧ Ok w w' := by
  have hok := Ok.refl w
  show Calls _ _ _ _ fun e w' => e = .returned (clockV (Sat.sum [Sat.sum [t, ticks], Sat.bound (Sat.sub dst (Sat.sum [t, ticks])) (Sat.neg p.mu) p.mu]) true) ∧ Ok w w'
  go_enter Tryz.func117, Tryz.ntmps117
  go_wp2_with (go_at_call 50; refine (satAdd2 _ _ _ _ _ (by simp)).mono ?_; rintro e w' ⟨rfl, rfl⟩)
  go_quiet (first | (go_at_call 149; exact Calls.quiet_of_same ((satSub _ _ _).mono fun _ _ h => ⟨h.1, h.2.symm⟩)) | (go_at_call 144; exact Calls.quiet_of_same ((satNeg _ _).mono fun _ _ h => ⟨h.1, h.2.symm⟩)) | (go_at_call 56; exact Calls.quiet_of_same ((satBound _ _ _ _).mono fun _ _ h => ⟨h.1, h.2.symm⟩)))
  go_wp2_with (go_at_call 50; refine (satAdd2 _ _ _ _ _ (by simp)).mono ?_; rintro e w' ⟨rfl, rfl⟩)
  refine bodyPost_ret (v := clockV (Sat.sum [Sat.sum [t, ticks], Sat.bound (Sat.sub dst (Sat.sum [t, ticks])) (Sat.neg p.mu) p.mu]) true) (by simp [results, Tryz.results117, go_sem]) rfl ⟨rfl, ?_⟩
  exact Ok.alloc (Ok.setCell (Ok.setCell (Ok.drewN (Ok.alloc (Ok.alloc (Ok.alloc (Ok.alloc hok _) _) _) _) _) (show w.heap.size ≤ w.heap.size + 1 + 1 by omega) _) (show w.heap.size ≤ w.heap.size + 1 + 1 by omega) _) _
theorem slewOff (t : Int) (s : Bool) (x : Int) (w : World) : Calls Tryz.prog 115 #[clockV t s, .int .i64 x] w fun e w' => e = .returned (.int .i64 (Sat.abs (Sat.sub t x))) ∧ Ok w w' := by
  have hok := Ok.refl w
  go_enter Tryz.func115, Tryz.ntmps115
  go_wp2_with (first | (go_at_call 149; refine (satSub _ _ _).mono ?_; rintro e w' ⟨rfl, rfl⟩) | (go_at_call 106; refine (satAbs _ _).mono ?_; rintro e w' ⟨rfl, rfl⟩))
  go_ret
  exact ⟨rfl, hok.alloc _⟩
end Go.Proofs.YtnhjdinmakkknaaGreatDoor

/- Contracts of layer 12: the document's Step. -/
namespace Go.Proofs.YtnhjdinmakkknaaGreatDoor
open Go.RowKit
set_option maxRecDepth 100000
attribute [local go_sem ↓] Go.wp_at_zero Go.wp_at_succ
end Go.Proofs.YtnhjdinmakkknaaGreatDoor
namespace Go.Proofs.YtnhjdinmakkknaaGreatDoor
open Go.RowKit Go.WideShapes Go.ChangeShapes Go.Joins Go.Deep
theorem IntsAt.src {w : World} {A : Option Addr} {l : List Int} (h : IntsAt w A l) (h0 : 0 < l.length) : ∃ ad, A = some ad ∧ ∀ j u, (l.map (Value.int .i64))[j]? = some u → w.cell? (ad.add j) = some u := by
  obtain ⟨b, off, hA, _⟩ := h 0 h0
  refine ⟨⟨b, off, none⟩, hA, fun j u hj => ?_⟩
  have hlt : j < l.length := by have := (List.getElem?_eq_some_iff.1 hj).1; simpa using this
  obtain ⟨b', off', e, _, hc⟩ := h j hlt
  rw [hA] at e
  cases e
  rw [Go.WideShapes.add_plain, hc]
  rw [List.getElem?_map, List.getElem?_eq_getElem hlt] at hj
  simpa using hj
/-- append of integers that came in, nil or not, to a row of one's own. -/
theorem wpList_append_ints {P : Program} {w : World} {ops : Array Oper} {rest : List Oper} {o : Oper} {a : Act} {Q : Exit → Act → World → Prop} (hgd : o.guard = none) (s x : Operand) (t : TypeId)
    (ho : o.op = .call { callee := .builtin .append, args := #[s, x], argTypes := #[t, t] })
    (base : Nat) (e : TypeId) (ht : P.underlying t = some (.slice e)) (hi : (P.info? e).map (fun i => (i.zero, i.size, i.bytes)) = some (some (.int .i64 0), 1, 8))
    (v : Value) (xs : List Int) (n : Nat) (hn : n = xs.length) (hs : a.eval s = v) (hown : w.ownsRow base e 1 v n (xs.map (Value.int .i64))) (A : Option Addr) (l : List Int) (m c : Nat) (hm : m = l.length) (hx : a.eval x = .slice A m c) (hA : IntsAt w A l)
    (h63 : xs.length + l.length ≤ 1099511627776) (hbase : base ≤ w.heap.size)
    (h : ∀ v' w', w'.ownsRow base e 1 v' (xs ++ l).length ((xs ++ l).map (Value.int .i64)) → w.grownBy w' v.ownBlock → wpList P ops Q rest (a.put o.dst v') w') : wpList P ops Q (o :: rest) a w := by
  subst hn
  subst hm
  obtain ⟨i, i0, i1, i2, i3⟩ := info_parts hi
  cases A with
  | some ad =>
    refine wpList_append_own w hgd s x t ho base e i (.int .i64 0) 1 8 ht i0 i1 i2 i3 rfl (by decide) v xs.length (xs.map (Value.int .i64)) hs hown ad l.length c (l.map (Value.int .i64)) hx (by simp) (fun j u hj => ?_) (fun u hu => by obtain ⟨y, _, rfl⟩ := List.mem_map.1 hu; rfl) (by unfold maxLen; omega) (by omega) hbase fun v' w' h1 h2 _ => h v' w' (by rw [List.length_append, List.map_append]; exact h1) h2
    have hlt : j < l.length := by have := (List.getElem?_eq_some_iff.1 hj).1; simpa using this
    obtain ⟨ad', e, hsrc⟩ := hA.src (by omega)
    cases e
    exact hsrc j u hj
  | none =>
    have hl : l = [] := by
      cases l with
      | nil => rfl
      | cons b l => obtain ⟨_, _, e, _⟩ := hA 0 (by simp); cases e
    subst hl
    refine wpList_plain hgd fun K hK => ?_
    have hrun : (Builtin.append_ #[t, t] o.type #[v, .slice none 0 c]).run P w = .ok v w := by
      rcases hown.2 with ⟨rfl, _⟩ | ⟨g, cap, cur, rfl, _, _, hnc, _⟩
      · simp [Builtin.append_, run_underlying ht, Go.sizeOf, typeInfo, i0, Builtin.lenOf, Builtin.firstCells]
      · simp [Builtin.append_, run_underlying ht, Go.sizeOf, typeInfo, i0, Builtin.lenOf, Builtin.firstCells, hnc, storeCells]
    have hk := h v w (by simpa using hown) ⟨rfl, rfl, rfl, Nat.le_refl _, fun _ _ _ => rfl⟩
    unfold Oper.wp
    simp at hx
    simp [execOp, ho, resolve, invoke, builtin, hs, hx, hrun, Result.andThen]
    exact hK _ _ hk
/-- The slice with address A reads, in world w, as the truth values l. -/
def BoolsAt (w : World) (A : Option Addr) (l : List Bool) : Prop :=
  ∀ k (h : k < l.length), ∃ b off, A = some ⟨b, off, none⟩ ∧ b < w.heap.size ∧ w.cell? ⟨b, off + k, none⟩ = some (.bool l[k])
theorem BoolsAt.below {w w' : World} {A : Option Addr} {l : List Bool} (h : BoolsAt w A l) (hb : Ok w w') : BoolsAt w' A l := fun k hk => by
  obtain ⟨b, off, hA, hlt, hc⟩ := h k hk
  exact ⟨b, off, hA, Nat.lt_of_lt_of_le hlt hb.size, (hb.cell (p := ⟨b, off + k, none⟩) hlt).trans hc⟩
section
variable {H : Type} {enc : TypeId × Value → H} {P : Program} {w : World} {base : Nat}
end
end Go.Proofs.YtnhjdinmakkknaaGreatDoor
namespace Go.Proofs.YtnhjdinmakkknaaGreatDoor
/-- What a gateway's message is like. -/
structure Tl where
  less : Int
  more : Int
  way : Int
  off : Int
  held : Int
namespace Nod
/-- As it may be. -/
def Fine (p : Par) (t : Tl) : Prop := (0 ≤ t.less ∧ t.less ≤ 562949953421312) ∧ (0 ≤ t.more ∧ t.more ≤ 562949953421312) ∧ (p.delay - p.jit ≤ t.way ∧ t.way ≤ p.delay) ∧ (-p.rho ≤ t.off ∧ t.off ≤ p.rho) ∧ 0 ≤ t.held ∧ t.held ≤ 1048576
def noTl : Tl := ⟨0, 0, 0, 0, 0⟩
/-- A message of a right one. -/
def tell (p : Par) (now : Int) (kind frm hops : Int) (good : Bool) (t : Tl) : Hd := ⟨⟨kind, frm, now - t.less, now + t.more, t.held, hops, good, false, 0, 0, 0, 0, 0, []⟩, p.beat - t.way + t.off⟩
theorem tell_right {p : Par} (h : Lim.May p) {now : Int} (hn : -1125899906842624 ≤ now ∧ now ≤ 1125899906842624) {t : Tl} (ht : Fine p t) {W : Int} (hW : t.less + t.more ≤ W) (kind frm hops : Int) (good : Bool) : Anchor.right (now + p.beat) (W + Lim.hop p) (way p (tell p now kind frm hops good t)) = true := by
  obtain ⟨b1, r1, d1, j1, e1⟩ := Lim.May.bds h
  obtain ⟨t1, t2, t3, t4, t5⟩ := ht
  unfold way tell
  simp only
  have hb := Carry.brings h (s := (now - t.less, now + t.more)) (now := now) (age := p.beat - t.way + t.off) (by omega) (by simp only; omega) (by simp only; omega) (by omega)
  have hw := Carry.way_in h (now - t.less, now + t.more) (n := p.beat - t.way + t.off) (by omega)
  rw [Sat.clip_in (x := (now - t.less, now + t.more).1) (by simp only; omega) (by simp only; omega), Sat.clip_in (x := (now - t.less, now + t.more).2) (by simp only; omega) (by simp only; omega),
    Sat.clip_in (x := (now - t.less, now + t.more).1 + _) (by simp only; omega) (by simp only; omega), Sat.clip_in (x := (now - t.less, now + t.more).2 + _) (by simp only; omega) (by simp only; omega)] at hw
  rw [hw] at hb ⊢
  rw [Lim.hop_in (Lim.May.small h)]
  simp only at hb
  exact decide_eq_true ⟨hb, by simp only; omega, by simp only; omega, by simp only; omega⟩
/-- The right gateways' messages. -/
def hon (p : Par) (now : Int) (t : Tl) (i : Nat) : Hd := tell p now 1 i 0 true t
def hons (p : Par) (now : Int) (ts : List Tl) (m : Nat) : List Hd := (List.range m).map fun i => hon p now (ts.getD i noTl) i
def heard (p : Par) (now : Int) (ts : List Tl) (lies : List Hd) : List Hd := hons p now ts ts.length ++ Gate.liars ts.length lies lies.length
theorem hons_next (p : Par) (now : Int) (ts : List Tl) (m : Nat) : hons p now ts (m + 1) = hons p now ts m ++ [hon p now (ts.getD m noTl) m] := by
  unfold hons
  rw [List.range_succ, List.map_append]
  rfl
theorem find_hons (p : Par) (now : Int) (ts : List Tl) (k : Nat) : ∀ m, (hons p now ts m).find? (Gate.has k) = if k < m then some (hon p now (ts.getD k noTl) k) else none
  | 0 => rfl
  | m + 1 => by
    rw [hons_next, List.find?_append, find_hons p now ts k m]
    by_cases h : k < m
    · rw [if_pos h, if_pos (by omega)]; rfl
    · rw [if_neg h, Option.none_or, List.find?_cons]
      by_cases e : k = m
      · subst e
        rw [show Gate.has k (hon p now (ts.getD k noTl) k) = true from decide_eq_true ⟨rfl, rfl⟩, if_pos (by omega)]
      · rw [show Gate.has k (hon p now (ts.getD m noTl) m) = false from decide_eq_false fun g => e (by have := g.2; unfold hon tell at this; simp only at this; omega), if_neg (by omega)]
        rfl
theorem sane_hops_in {p : Par} (hp : Lim.May p) {u : Sta} (h : 0 ≤ u.hops ∧ u.hops ≤ p.d + 1) : (Health.sane p u).hops = u.hops := by
  have hd := hp.2.2.1.1
  show Sat.bound u.hops 0 (Sat.sum [p.d, 1]) = _
  rw [Lim.sum2_in (by omega) (by omega) (by omega)]
  exact Health.bound_in h.1 h.2
end Nod
end Go.Proofs.YtnhjdinmakkknaaGreatDoor
