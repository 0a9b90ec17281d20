/- Several texts of mine in one: C14c, M47, B25. -/
import Derived.Test.YtmokofblmkeloaaGreatDoorC14b
import Derived.Test.YtmokofblmkeloaaGreatDoorP38
import Derived.Test.YtmokofblmkeloaaGreatDoorShelf
import Derived.Test.YtmokofblmkeloaaGreatDoorP30
import Derived.Test.YtmokofblmkeloaaGreatDoorMA
import Derived.Test.YtmokofblmkeloaaGreatDoorB23
import Derived.Test.YtmokofblmkeloaaGreatDoorC13a
import Derived.Sort.OwnSortedInts
namespace Go.Proofs.YtmokofblmkeloaaGreatDoor
open Go.RowKit Go.Maps Go.Sort
set_option maxRecDepth 100000
theorem info14 : (Tryz.prog.info? 3).map (fun i => (i.zero, i.size, i.bytes)) = some (some (.int .i64 0), 1, 8) := by kernel_rfl
/-- Numbers, in a row of one's own. -/
def RowN (B : Nat) (w : World) (v : Value) (l : List Nat) : Prop := w.ownsRow B 3 1 v l.length ((Mem.ints l).map (Value.int .i64))
namespace RowN
variable {B : Nat} {w w1 : World} {v : Value} {l : List Nat}
theorem start (B : Nat) (w : World) : RowN B w (.slice none 0 0) [] := World.ownsRow_nil _ _ _ _
theorem next (h : RowN B w v l) (j : Ok w w1) : RowN B w1 v l :=
  h.kept (w' := w1) (row := none) ⟨j.below.os, j.below.tape, j.below.output, j.size, fun i hi _ => j.below.block i hi⟩ (by cases v.ownBlock <;> simp)
theorem only {r : Nat} (h : RowN B w v l) (j : Only r w w1) (hr : r < B) : RowN B w1 v l :=
  h.kept (w' := w1) (row := some r) ⟨j.os, j.tape, j.output, j.size, fun i hi hne => j.block i hi fun e => hne (by rw [e])⟩ (by
    cases hv : v.ownBlock with
    | none => exact .inl rfl
    | some k => exact .inr fun e => by have := (h.lt k hv).1; cases e; omega)
theorem ends (h : RowN B w v l) : ∃ A c, v = .slice A l.length c ∧ IntsAt w A (Mem.ints l) ∧ ∀ a, A = some a → B ≤ a.block := by
  unfold RowN at h
  obtain ⟨A, c, e, hI⟩ := IntsAt.of_own (l := Mem.ints l) (v := v) (B := B) (e := 3) (w := w) (by rw [Mem.ints_length]; exact h)
  rw [Mem.ints_length] at e
  subst e
  exact ⟨A, c, rfl, hI, fun a ha => by subst ha; exact (h.lt a.block rfl).1⟩
theorem more {k : Nat} (h : w1.ownsRow B 3 1 v (Mem.ints l ++ [(k : Int)]).length ((Mem.ints l ++ [(k : Int)]).map (Value.int .i64))) : RowN B w1 v (l ++ [k]) := by
  unfold RowN
  rw [Mem.ints_append]
  have e : (l ++ [k]).length = (Mem.ints l ++ [(k : Int)]).length := by rw [List.length_append, List.length_append, Mem.ints_length]; rfl
  rw [e]
  exact h
end RowN
theorem ok_row {W w w1 : World} {row : Option Nat} (h : Ok W w) (hg : w.grownBy w1 row) (hB : ∀ k, row = some k → W.heap.size ≤ k) : Ok W w1 := Below.grown h hg h.size hB
/-- What Near leaves: a list of numbers in a new block, or none. -/
def NearEnd (l : List Nat) (w : World) (e : Ending) (w' : World) : Prop := ∃ A c, e = .returned (.slice A l.length c) ∧ IntsAt w' A (Mem.ints l) ∧ (∀ a, A = some a → w.heap.size ≤ a.block ∧ a.block < w'.heap.size) ∧ Ok w w'
/-- The keys met so far. -/
def Coll (f : NF) (left : Lit → Bool) (c : List Nat) : Prop := c.Nodup ∧ ∀ k : Nat, k ∈ c ↔ k ∈ Mem.nums f ∧ left (.int .i64 (k : Int)) = false
theorem coll_start {f : NF} {D : DataW Unit} (hh : ∀ x, (Lit.int .i64 x).wf = true → Holds D x (Mem.look f x)) : Coll f (Maps.has D) [] := by
  refine ⟨List.nodup_nil, fun k => ⟨fun h => (List.not_mem_nil h).elim, fun ⟨h1, h2⟩ => ?_⟩⟩
  obtain ⟨a, b⟩ := Mem.mem_nums.1 h1
  rw [(hh (k : Int) (wf_nat (by omega))).has, Mem.look_at, b] at h2
  cases h2
theorem coll_step {f : NF} {left : Lit → Bool} {c : List Nat} {k : Nat} (h : Coll f left c) (hk : k ∈ Mem.nums f) (hl : left (.int .i64 (k : Int)) = true) : Coll f (fun z => left z && !z.sameKey (.int .i64 (k : Int))) (c ++ [k]) := by
  have hnew : k ∉ c := fun hc => by
    have := ((h.2 k).1 hc).2
    rw [hl] at this
    cases this
  refine ⟨List.nodup_append.2 ⟨h.1, by simp, fun a ha b hb => by simp at hb; subst hb; exact fun e => hnew (e ▸ ha)⟩, fun j => ?_⟩
  by_cases e : j = k
  · subst e
    simp [hk, Lit.sameKey]
  · have e2 : ¬ (j : Int) = (k : Int) := by omega
    rw [List.mem_append, List.mem_singleton, h.2 j]
    simp [e, e2, Lit.sameKey]
theorem coll_key {f : NF} (hf : ∀ k, 48 ≤ k → f k = none) {D : DataW Unit} (hh : ∀ x, (Lit.int .i64 x).wf = true → Holds D x (Mem.look f x)) {x : Int} (hw : (Lit.int .i64 x).wf = true) {y : DataW Unit} (hat : ∀ z, D.atKey (.int .i64 x) z = y) : ∃ k : Nat, x = k ∧ k < 48 ∧ k ∈ Mem.nums f := by
  have h1 := (hh x hw).has
  rw [has_true_of_atKey hat] at h1
  have h0 : 0 ≤ x := by
    rcases Int.lt_or_le x 0 with g | g
    · rw [Mem.look_neg f g] at h1; cases h1
    · exact g
  rw [Mem.look_in h0] at h1
  have h48 : x.toNat < 48 := by
    rcases Nat.lt_or_ge x.toNat 48 with g | g
    · exact g
    · rw [hf _ g] at h1; cases h1
  exact ⟨x.toNat, by omega, h48, Mem.mem_nums.2 ⟨h48, h1.symm⟩⟩
theorem coll_end {f : NF} {left : Lit → Bool} {c : List Nat} (h : Coll f left c) (hl : ∀ z, left z = false) : (Mem.ints c).mergeSort (fun x y => decide (x ≤ y)) = Mem.ints (Mem.nums f) :=
  Mem.sorted_nums h.1 fun k => by rw [h.2 k, hl]; simp
/-- A row of one's own, sorted. -/
theorem sortN {w : World} {B : Nat} {v : Value} {c l : List Nat} (h : RowN B w v c) (hl : c.length ≤ 1099511627776) (hs : (Mem.ints c).mergeSort (fun x y => decide (x ≤ y)) = Mem.ints l) {w0 : World} (hok : Ok w0 w) (hB : w0.heap.size ≤ B) :
    Calls Tryz.prog 102 #[v] w fun e w' => e = .returned (.tuple #[]) ∧ NearEnd l w0 (.returned v) w' := by
  have hlen : l.length = c.length := by
    have e := congrArg List.length hs
    rw [(List.mergeSort_perm _ _).length_eq, Mem.ints_length, Mem.ints_length] at e
    exact e.symm
  rcases h.2 with ⟨rfl, h2⟩ | ⟨g, cap, cur, rfl, hb, hh, h1, h2, h3, h4⟩
  · have h0 : c.length = 0 := h2
    have hc : c = [] := List.length_eq_zero_iff.1 h0
    have hl0 : l = [] := List.length_eq_zero_iff.1 (by omega)
    subst hc
    subst hl0
    refine (Tryz.slices_Sort_int_none none 0 w).mono ?_
    rintro e w' ⟨rfl, rfl⟩
    exact ⟨rfl, none, 0, rfl, IntsAt.empty _ _, (fun a ha => by cases ha), hok⟩
  · have h4' : cur.toList.take (Mem.ints c).length = (Mem.ints c).map (Value.int .i64) := by rw [Mem.ints_length]; simpa using h4
    have K := Tryz.slices_Sort_int g 0 cap (Mem.ints c) w (holds_of_blockI hh h4') (Array.getElem?_eq_some_iff.1 hh).1 (by rw [Mem.ints_length]; omega)
    rw [Mem.ints_length, hs] at K
    refine K.mono ?_
    rintro e w' ⟨rfl, n, os, rfl⟩
    refine ⟨rfl, some ⟨g, 0, none⟩, cap, by rw [hlen], ?_, (fun a ha => by cases ha; have := (grownBy_sortedI (w := w) (g := g) (n := n) (os := os) (Mem.ints l).toArray).size; have := (Array.getElem?_eq_some_iff.1 hh).1; show w0.heap.size ≤ g ∧ g < _; omega), Below.grown hok (grownBy_sortedI _) hok.size (fun k hk => by cases hk; omega)⟩
    have hr := ownsRow_sortedI (n := n) (os := os) (ss := Mem.ints c) (ts := Mem.ints l) (cap := cap) (by rw [Mem.ints_length, Mem.ints_length, hlen]) hb hh (by rw [Mem.ints_length]; exact h1) h2 (by simpa [Mem.ints_length] using h3)
    rw [show (Mem.ints c).length = (Mem.ints l).length by rw [Mem.ints_length, Mem.ints_length, hlen]] at hr
    obtain ⟨A, c', e, hI⟩ := IntsAt.of_own hr
    cases e
    exact hI
end Go.Proofs.YtmokofblmkeloaaGreatDoor
namespace Go.Proofs.YtmokofblmkeloaaGreatDoor
/-- What a gateway's message is like. -/
structure Tl where
  less : Int
  more : Int
  way : Int
  off : Int
  held : Int
namespace Nod
/-- As it may be. -/
def Fine (p : Par) (t : Tl) : Prop := (0 ≤ t.less ∧ t.less ≤ 562949953421312) ∧ (0 ≤ t.more ∧ t.more ≤ 562949953421312) ∧ (p.delay - p.jit ≤ t.way ∧ t.way ≤ p.delay) ∧ (-p.rho ≤ t.off ∧ t.off ≤ p.rho) ∧ 0 ≤ t.held ∧ t.held ≤ 1048576
def noTl : Tl := ⟨0, 0, 0, 0, 0⟩
/-- A message of a right one. -/
def tell (p : Par) (now : Int) (kind frm hops : Int) (good : Bool) (t : Tl) : Hd := ⟨⟨kind, frm, now - t.less, now + t.more, t.held, hops, good, false, 0, 0, 0, 0, 0, []⟩, p.beat - t.way + t.off⟩
theorem tell_right {p : Par} (h : Lim.May p) {now : Int} (hn : -1125899906842624 ≤ now ∧ now ≤ 1125899906842624) {t : Tl} (ht : Fine p t) {W : Int} (hW : t.less + t.more ≤ W) (kind frm hops : Int) (good : Bool) : Anchor.right (now + p.beat) (W + Lim.hop p) (way p (tell p now kind frm hops good t)) = true := by
  obtain ⟨b1, r1, d1, j1, e1⟩ := Lim.May.bds h
  obtain ⟨t1, t2, t3, t4, t5⟩ := ht
  unfold way tell
  simp only
  have hb := Carry.brings h (s := (now - t.less, now + t.more)) (now := now) (age := p.beat - t.way + t.off) (by omega) (by simp only; omega) (by simp only; omega) (by omega)
  have hw := Carry.way_in h (now - t.less, now + t.more) (n := p.beat - t.way + t.off) (by omega)
  rw [Sat.clip_in (x := (now - t.less, now + t.more).1) (by simp only; omega) (by simp only; omega), Sat.clip_in (x := (now - t.less, now + t.more).2) (by simp only; omega) (by simp only; omega),
    Sat.clip_in (x := (now - t.less, now + t.more).1 + _) (by simp only; omega) (by simp only; omega), Sat.clip_in (x := (now - t.less, now + t.more).2 + _) (by simp only; omega) (by simp only; omega)] at hw
  rw [hw] at hb ⊢
  rw [Lim.hop_in (Lim.May.small h)]
  simp only at hb
  exact decide_eq_true ⟨hb, by simp only; omega, by simp only; omega, by simp only; omega⟩
/-- The right gateways' messages. -/
def hon (p : Par) (now : Int) (t : Tl) (i : Nat) : Hd := tell p now 1 i 0 true t
def hons (p : Par) (now : Int) (ts : List Tl) (m : Nat) : List Hd := (List.range m).map fun i => hon p now (ts.getD i noTl) i
def heard (p : Par) (now : Int) (ts : List Tl) (lies : List Hd) : List Hd := hons p now ts ts.length ++ Gate.liars ts.length lies lies.length
theorem hons_next (p : Par) (now : Int) (ts : List Tl) (m : Nat) : hons p now ts (m + 1) = hons p now ts m ++ [hon p now (ts.getD m noTl) m] := by
  unfold hons
  rw [List.range_succ, List.map_append]
  rfl
theorem hons_len (p : Par) (now : Int) (ts : List Tl) (m : Nat) : (hons p now ts m).length = m := by simp [hons]
/-- The first m gateways were heard. -/
def gatesTo (m : Nat) : NF := fun j => if j < m then some (0, 0) else none
theorem nums_gatesTo {m : Nat} (h : m ≤ 48) : Mem.nums (gatesTo m) = List.range m := by
  unfold Mem.nums gatesTo
  rw [show (48 : Nat) = m + (48 - m) by omega, List.range_eq_range', ← List.range'_append_1, List.filter_append, List.filter_eq_self.2, List.filter_eq_nil_iff.2, List.append_nil, List.range_eq_range']
  · intro k hk
    have := List.mem_range'_1.1 hk
    rw [if_neg (by omega)]
    simp
  · intro k hk
    have := List.mem_range'_1.1 hk
    rw [if_pos (by omega)]
    rfl
theorem put_gatesTo (m : Nat) : Mem.put (gatesTo m) m (0, 0) = gatesTo (m + 1) := by
  funext j
  unfold Mem.put gatesTo
  by_cases e : j = m
  · subst e; rw [if_pos rfl, if_pos (by omega)]
  · rw [if_neg e]
    by_cases h : j < m
    · rw [if_pos h, if_pos (by omega)]
    · rw [if_neg h, if_neg (by omega)]
theorem known_hons (p : Par) (now : Int) (ts : List Tl) : ∀ m, m ≤ 16 → known id 20 Mem.nobody (hons p now ts m) = (hons p now ts m, gatesTo m)
  | 0, _ => by
    show ([], Mem.nobody) = ([], gatesTo 0)
    congr 1
  | m + 1, h => by
    rw [hons_next, known_snoc, known_hons p now ts m (by omega)]
    unfold known1
    have hsd : said id (hons p now ts m) (m : Int) = false := by
      unfold said
      rw [List.any_eq_false]
      intro x hx
      obtain ⟨i, hi, rfl⟩ := List.mem_map.1 hx
      have := List.mem_range.1 hi
      intro g
      have g2 : (i : Int) = (m : Int) := of_decide_eq_true g
      omega
    have hf : (hon p now (ts.getD m noTl) m).m.frm = (m : Int) := rfl
    have hlk : Mem.look (gatesTo m) (m : Int) = none := by
      rw [Mem.look_at]
      unfold gatesTo
      rw [if_neg (by omega)]
    have hE : Mem.hearE (gatesTo m) (m : Int) = 0 := by
      unfold Mem.hearE
      rw [if_pos (by omega), if_neg]
      rw [nums_gatesTo (by omega), List.length_range]
      omega
    simp only [id, hf]
    rw [if_neg (by rw [hsd]; simp; omega)]
    congr 1
    · rw [if_pos ⟨hE, decide_eq_true (.inl ⟨by omega, rfl⟩)⟩]
    · unfold Mem.hear
      rw [if_pos hE, hlk, Int.toNat_natCast]
      exact put_gatesTo m
/-- What counts of what was heard first stands first. -/
theorem known_append {α : Type} (hd : α → Hd) (me : Int) (f : NF) (a b : List α) : ∃ L, (known hd me f (a ++ b)).1 = (known hd me f a).1 ++ L ∧ L.Sublist b := by
  induction b using snoc_ind with
  | h0 => exact ⟨[], by simp, List.Sublist.refl _⟩
  | hs l x ih =>
    obtain ⟨L, h1, h2⟩ := ih
    rw [← List.append_assoc, known_snoc]
    unfold known1
    split
    · exact ⟨L, h1, h2.trans (List.sublist_append_left _ _)⟩
    · simp only
      split
      · exact ⟨L ++ [x], by rw [h1, List.append_assoc], h2.append (List.Sublist.refl _)⟩
      · exact ⟨L, h1, h2.trans (List.sublist_append_left _ _)⟩
theorem find_hons (p : Par) (now : Int) (ts : List Tl) (k : Nat) : ∀ m, (hons p now ts m).find? (Gate.has k) = if k < m then some (hon p now (ts.getD k noTl) k) else none
  | 0 => rfl
  | m + 1 => by
    rw [hons_next, List.find?_append, find_hons p now ts k m]
    by_cases h : k < m
    · rw [if_pos h, if_pos (by omega)]; rfl
    · rw [if_neg h, Option.none_or, List.find?_cons]
      by_cases e : k = m
      · subst e
        rw [show Gate.has k (hon p now (ts.getD k noTl) k) = true from decide_eq_true ⟨rfl, rfl⟩, if_pos (by omega)]
      · rw [show Gate.has k (hon p now (ts.getD m noTl) m) = false from decide_eq_false fun g => e (by have := g.2; unfold hon tell at this; simp only at this; omega), if_neg (by omega)]
        rfl
theorem filterMap_some {f : Nat → Option Hd} {g : Nat → Hd} : ∀ l : List Nat, (∀ k ∈ l, f k = some (g k)) → l.filterMap f = l.map g
  | [], _ => rfl
  | k :: l, h => by rw [List.filterMap_cons, h k List.mem_cons_self, filterMap_some l fun j hj => h j (List.mem_cons_of_mem _ hj), List.map_cons]
theorem solid_hon {p : Par} {now : Int} {t : Tl} (h : Fine p t) (i : Nat) : solid (hon p now t i) = true := by
  unfold solid hon tell
  simp only [Bool.true_and]
  exact decide_eq_true (by have := h.1; have := h.2.1; omega)
theorem gates_heard {p : Par} (hp : Lim.May p) (now : Int) {ts : List Tl} (hts : (ts.length : Int) = p.n - p.f) (hf : ∀ t ∈ ts, Fine p t) (lies : List Hd) :
    ∃ Q : List Hd, gates p (known id 20 Mem.nobody (heard p now ts lies)).1 = hons p now ts ts.length ++ Q ∧ (Q.length : Int) ≤ p.f := by
  obtain ⟨⟨n1, n2⟩, f1, f2⟩ := hp.1
  have hc : Gate.cnt p = ts.length + p.f.toNat := by unfold Gate.cnt; omega
  obtain ⟨L, hL, -⟩ := known_append id 20 Mem.nobody (hons p now ts ts.length) (Gate.liars ts.length lies lies.length)
  rw [known_hons p now ts ts.length (by omega)] at hL
  refine ⟨((List.range' ts.length p.f.toNat).filterMap (Gate.one (-1) (hons p now ts ts.length ++ L))).filter solid, ?_, ?_⟩
  · unfold gates heard
    rw [hL]
    unfold Gate.told
    rw [hc, List.range_eq_range', ← List.range'_append_1, List.filterMap_append, List.filter_append, Nat.zero_add]
    congr 1
    have h1 : (List.range' 0 ts.length).filterMap (Gate.one (-1) (hons p now ts ts.length ++ L)) = hons p now ts ts.length := by
      rw [← List.range_eq_range']
      refine filterMap_some _ fun k hk => ?_
      have hk := List.mem_range.1 hk
      unfold Gate.one
      rw [if_neg (by omega), List.find?_append, find_hons, if_pos hk]
      rfl
    rw [h1]
    refine List.filter_eq_self.2 fun x hx => ?_
    obtain ⟨i, hi, rfl⟩ := List.mem_map.1 hx
    have hi := List.mem_range.1 hi
    refine solid_hon (hf _ ?_) i
    rw [List.getD_eq_getElem?_getD, List.getElem?_eq_getElem hi]
    exact List.getElem_mem _
  · have h1 := List.length_filterMap_le (Gate.one (-1) (hons p now ts ts.length ++ L)) (List.range' ts.length p.f.toNat)
    have h2 := List.length_filter_le solid ((List.range' ts.length p.f.toNat).filterMap (Gate.one (-1) (hons p now ts ts.length ++ L)))
    rw [List.length_range'] at h1
    omega
/-- Fused of spans, of which all but f at most are right. -/
theorem fused_ok {f : Int} {R Q : List (Int × Int)} {x W : Int} (hf : 0 ≤ f) (hR : 2 * f + 1 ≤ R.length) (hQ : (Q.length : Int) ≤ f) (hall : ∀ s ∈ R, Anchor.right x W s = true) :
    Gate.left f (R ++ Q) = true ∧ ((Gate.fused f (R ++ Q)).1 ≤ x ∧ x ≤ (Gate.fused f (R ++ Q)).2) ∧ (Gate.fused f (R ++ Q)).2 - (Gate.fused f (R ++ Q)).1 ≤ W ∧ -2305843009213693952 ≤ (Gate.fused f (R ++ Q)).1 ∧ (Gate.fused f (R ++ Q)).2 ≤ 2305843009213693952 := by
  obtain ⟨S, hS⟩ : ∃ S, R ++ Q = S := ⟨_, rfl⟩
  have hSl : S.length = R.length + Q.length := by rw [← hS, List.length_append]
  have hfS : f.toNat < S.length := by omega
  have hval := Trim.val_pick (k := f) (l := S.map (·.2)) (by simp; omega)
  have hval2 := Trim.val_pick (k := (S.length : Int) - 1 - f) (l := S.map (·.1)) (by simp; omega)
  have hmost : Trim.PickMost f.toNat (S.map (·.1)) (Trim.val ((S.length : Int) - 1 - f) (S.map (·.1))) := by
    unfold Trim.PickMost
    rw [List.length_map, show S.length - 1 - f.toNat = ((S.length : Int) - 1 - f).toNat by omega]
    exact hval2
  have hcx : S.countP (fun s => !decide (s.1 ≤ x ∧ x ≤ s.2)) ≤ f.toNat := by
    rw [← hS, List.countP_append]
    have h1 : R.countP (fun s => !decide (s.1 ≤ x ∧ x ≤ s.2)) = 0 := by
      rw [List.countP_eq_zero]
      intro s hs2
      have := of_decide_eq_true (hall s hs2)
      simp [this.1]
    have h2 := List.countP_le_length (p := fun s : Int × Int => !decide (s.1 ≤ x ∧ x ≤ s.2)) (l := Q)
    omega
  have hcr : 2 * f.toNat + 1 ≤ S.countP (Anchor.right x W) := by
    rw [← hS, List.countP_append]
    have h1 : R.countP (Anchor.right x W) = R.length := List.countP_eq_length.2 hall
    omega
  obtain ⟨g1, g2, s, hs3, hr3, g3, g4⟩ := Trim.fuse_by hfS hmost hval hcx (Anchor.right x W) hcr
  have hr4 := of_decide_eq_true hr3
  have hleft : Gate.left f S = true := by
    unfold Gate.left Trim.many
    rw [decide_eq_true (by omega), decide_eq_false (by omega)]
    rfl
  rw [hS]
  refine ⟨hleft, ?_⟩
  unfold Gate.fused
  rw [if_pos hleft, Sat.clip_in (by omega) (by omega), Sat.clip_in (by omega) (by omega)]
  exact ⟨⟨g1, g2⟩, by simp only; omega, by simp only; omega, by simp only; omega⟩
/-- The f-th of numbers, of which all but f are right, is between these. -/
theorem held_ok {f : Int} {R Q : List Int} {lo hi : Int} (hf : 0 ≤ f) (hR : 2 * f + 1 ≤ R.length) (hQ : (Q.length : Int) ≤ f) (hall : ∀ x ∈ R, lo ≤ x ∧ x ≤ hi) (h0 : 0 ≤ lo) (h1 : hi ≤ 1048576) : lo + 1 ≤ Anchor.held f (R ++ Q) ∧ Anchor.held f (R ++ Q) ≤ hi + 1 := by
  have hl : (R ++ Q).length = R.length + Q.length := List.length_append
  have hv := Trim.val_pick (k := f) (l := R ++ Q) (by omega)
  have hw : (R ++ Q).countP (fun y => !decide (lo ≤ y ∧ y ≤ hi)) ≤ f.toNat := by
    rw [List.countP_append]
    have a1 : R.countP (fun y => !decide (lo ≤ y ∧ y ≤ hi)) = 0 := by
      rw [List.countP_eq_zero]
      intro s hs2
      have := hall s hs2
      simp [this]
    have a2 := List.countP_le_length (p := fun y : Int => !decide (lo ≤ y ∧ y ≤ hi)) (l := Q)
    omega
  obtain ⟨b, hb⟩ : ∃ b, Trim.PickMost f.toNat (R ++ Q) b := Trim.Pick.exists (by omega)
  have hbt := (Trim.between (f := f.toNat) (l := R ++ Q) (lo := lo) (hi := hi) (by omega) hv hb hw).1
  unfold Anchor.held
  rw [if_pos (by unfold Trim.is; exact decide_eq_true (by omega)), Anchor.more_in (by omega)]
  omega
theorem sane_hops_in {p : Par} (hp : Lim.May p) {u : Sta} (h : 0 ≤ u.hops ∧ u.hops ≤ p.d + 1) : (Health.sane p u).hops = u.hops := by
  have hd := hp.2.2.1.1
  show Sat.bound u.hops 0 (Sat.sum [p.d, 1]) = _
  rw [Lim.sum2_in (by omega) (by omega) (by omega)]
  exact Health.bound_in h.1 h.2
/-- Behind a beat in which it hears all gateways but F. -/
theorem core_holds {p : Par} (hp : Lim.May p) {now : Int} (hn : -1125899906842624 ≤ now ∧ now ≤ 1125899906842624) {ts : List Tl} (hts : (ts.length : Int) = p.n - p.f) (hf : ∀ t ∈ ts, Fine p t) (lies : List Hd) (s : Sta) (ticks : Int) {W lo hi : Int} (hW : ∀ t ∈ ts, t.less + t.more ≤ W) (hlo : ∀ t ∈ ts, lo ≤ t.held) (hhi : ∀ t ∈ ts, t.held ≤ hi) (h0 : 0 ≤ lo) (h1 : hi ≤ 1048576) (Y : Sta)
    (hY : state p s ticks (known id 20 Mem.nobody (heard p now ts lies)).1 = Y) :
    (Y.lo ≤ now + p.beat ∧ now + p.beat ≤ Y.hi) ∧ Y.hi - Y.lo ≤ W + Lim.hop p ∧ (-2305843009213693952 ≤ Y.lo ∧ Y.hi ≤ 2305843009213693952) ∧ Y.hops = 0 ∧ Y.good = true ∧ lo + 1 ≤ Y.held ∧ Y.held ≤ hi + 1 := by
  obtain ⟨⟨n1, n2⟩, f1, f2⟩ := hp.1
  obtain ⟨Q, hQ, hQl⟩ := gates_heard hp now hts hf lies
  have hR2 : 2 * p.f + 1 ≤ (hons p now ts ts.length).length := by rw [hons_len]; omega
  have hmem : ∀ x ∈ hons p now ts ts.length, ∃ t ∈ ts, ∃ i : Nat, x = hon p now t i := fun x hx => by
    obtain ⟨i, hi, rfl⟩ := List.mem_map.1 hx
    have hi := List.mem_range.1 hi
    refine ⟨ts.getD i noTl, ?_, i, rfl⟩
    rw [List.getD_eq_getElem?_getD, List.getElem?_eq_getElem hi]
    exact List.getElem_mem _
  have hsp : spans p (known id 20 Mem.nobody (heard p now ts lies)).1 = (hons p now ts ts.length).map (way p) ++ Q.map (way p) := by unfold spans; rw [hQ, List.map_append]
  have hhe : helds p (known id 20 Mem.nobody (heard p now ts lies)).1 = (hons p now ts ts.length).map (·.m.held) ++ Q.map (·.m.held) := by unfold helds; rw [hQ, List.map_append]
  obtain ⟨hl, hx, hw, hb⟩ := fused_ok (x := now + p.beat) (W := W + Lim.hop p) f1 (R := (hons p now ts ts.length).map (way p)) (Q := Q.map (way p)) (by rw [List.length_map]; exact hR2) (by rw [List.length_map]; exact hQl) (fun s hs => by
    obtain ⟨x, hx, rfl⟩ := List.mem_map.1 hs
    obtain ⟨t, ht, i, rfl⟩ := hmem x hx
    exact tell_right hp hn (hf t ht) (hW t ht) _ _ _ _)
  have hh := held_ok (lo := lo) (hi := hi) f1 (R := (hons p now ts ts.length).map (·.m.held)) (Q := Q.map (·.m.held)) (by rw [List.length_map]; exact hR2) (by rw [List.length_map]; exact hQl) (fun s hs => by
    obtain ⟨x, hx, rfl⟩ := List.mem_map.1 hs
    obtain ⟨t, ht, i, rfl⟩ := hmem x hx
    exact ⟨hlo t ht, hhi t ht⟩) h0 h1
  rw [← hsp] at hl hx hw hb
  rw [← hhe] at hh
  generalize (known id 20 Mem.nobody (heard p now ts lies)).1 = K at hY hl hx hw hb hh
  have hu : next p s ticks K = core p s K := by unfold next; rw [if_pos hl]
  obtain ⟨k1, k2, -, -, k5, k6, k7, -, -⟩ := listens_keeps p (Health.step p s ticks (next p s ticks K)) K
  unfold state at hY
  rw [hY, hu] at k1 k2 k5 k6 k7
  rw [Gate.step_lo] at k1
  rw [Gate.step_hi] at k2
  rw [Gate.step_held, Gate.sane_held _ _ (by show 0 ≤ Anchor.held _ _ ∧ Anchor.held _ _ ≤ 1073741824; omega)] at k5
  rw [Gate.step_hops, Gate.sane_hops p hp _ rfl] at k6
  rw [Gate.step_good] at k7
  obtain ⟨e1, e2, e3⟩ := Gate.sane_span p (core p s K) hb.1 (by show (Gate.fused p.f (spans p K)).1 ≤ (Gate.fused p.f (spans p K)).2; omega) hb.2
  rw [e1] at k1
  rw [e2] at k2
  rw [e3] at k7
  rw [k1, k2, k5, k6, k7]
  exact ⟨hx, hw, hb, rfl, rfl, hh⟩
end Nod
end Go.Proofs.YtmokofblmkeloaaGreatDoor
/- Contracts of layer 21: the Front's UTC and Pulse, the document's UTC; what a nil Front tells. -/
namespace Go.Proofs.YtmokofblmkeloaaGreatDoor
open Go.RowKit
set_option linter.unusedVariables false
set_option maxRecDepth 100000
attribute [local go_sem ↓] Go.wp_at_zero Go.wp_at_succ
/-- What each operation leaves. -/
def VMPulP (G : Nat) (p : Par) (s : Sta) (m : Int) (w : World) (v : Value) : Nat → Prop
  | 0 => v = .pointer (some ⟨G, 0, none⟩)
  | 1 => v = .pointer (some ⟨G, 0, none⟩)
  | 2 => v = .pointer (some ⟨G, 0, none⟩)
  | 3 => v = parV p
  | 4 => v = .pointer (some ⟨G, 0, none⟩)
  | 5 => v = .pointer (some ⟨G, 0, none⟩)
  | 6 => v = .pointer (some ⟨G, 12, none⟩)
  | 7 => v = .pointer (some ⟨G, 14, none⟩)
  | 8 => v = .int .i64 s.time
  | 9 => v = .int .i64 m
  | 10 => v = .int .i64 m
  | 11 => v = .int .i64 0
  | _ => v = .bool true
/-- It stays so. -/
def VCPulP (G : Nat) (p : Par) (s : Sta) (m : Int) (i : Nat) (v : Value) (w : World) : Prop := ∀ w', Ok w w' → VMPulP G p s m w' v i
theorem frontPulse (R : List Value) (G : Nat) (p : Par) (s : Sta) (A : Option Addr) (cap : Nat) (w : World) (hO : Own w G (frontCellsR R p s A cap)) : Calls Tryz.prog 81 #[.pointer (some ⟨G, 0, none⟩)] w fun e w' => e = .returned (.tuple #[.int .i64 (if Health.of p s = 0 then 0 else Pulse.num p.pulse s.time), .int .i64 (if Health.of p s = 0 then 20 else 0)]) ∧ Ok w w' := by
  have hok := Ok.refl w
  have KR := Lib.hid fun w h => frontReady R G p s A cap w h
  have KN := Lib.hid fun w => pulseNumber p s.time w
  generalize Pulse.num p.pulse s.time = m at KN ⊢
  generalize Health.of p s = h at KR ⊢
  by_cases j : h = 0
  · simp only [if_pos j] at KR ⊢
    clear j
    go_enter Tryz.func81, Tryz.ntmps81
    go_wp2_with (go_at_call 130; refine (KR.out _ hO).mono ?_; rintro e w1 ⟨rfl, hb1⟩; replace hO := hO.next hb1; replace hok := hok.trans hb1; clear hb1; obtain ⟨s0, s1, s2, s3, s4, s5, s6, s7, s8, s9, s10⟩ := hO.frS; have hgl := hO.lt)
    go_ret2
    exact ⟨rfl, hok⟩
  · simp only [if_neg j] at KR ⊢
    clear j
    go_enter Tryz.func81, Tryz.ntmps81
    go_upto_region 4 with (go_at_call 130; refine (KR.out _ hO).mono ?_; rintro e w1 ⟨rfl, hb1⟩; replace hO := hO.next hb1; replace hok := hok.trans hb1; clear hb1; obtain ⟨s0, s1, s2, s3, s4, s5, s6, s7, s8, s9, s10⟩ := hO.frS; have hgl := hO.lt)
    clear s0 s1 s2 s3 s4 s5 s6 s7 s8 s9 s10 hgl
    have HOK := Lib.hid hok
    have HQ := Lib.hid fun W' (k : Ok w1.drew W') => hO.drew.next k
    clear hO hok
    refine wp_region_facts (by kernel_rfl) 20 rfl (VCPulP G p s m) Ok (by kernel_rfl) (fun i v w w' h k w'' k' => h w'' (k.trans k')) (fun a b c => Ok.trans) (Ok.refl _) [some 10, some 11, some 12, some 13, some 14, some 15, some 16, some 17, some 18, some 19, some 2, some 3] rfl 12 rfl ⟨?_, ?_, ?_, ?_, ?_, ?_, ?_, ?_, ?_, ?_, ?_, ?_, trivial⟩ ?_
    · intro a' w' hF hR
      have e0 : a'.tmps[0]? = some (.pointer (some ⟨G, 0, none⟩)) := hF.slot 0 (by kernel_rfl) rfl
      refine wpOp_run (v := .pointer (some ⟨G, 0, none⟩)) rfl rfl ?_ (fun _ _ => rfl) (Ok.refl _)
      clear hF
      go_simp
    · intro a' w' hF hR
      obtain ⟨v0, hv0, e10⟩ := hF.get 0 10 (by kernel_rfl) (by kernel_rfl)
      obtain rfl : v0 = _ := hv0 _ (Ok.refl _)
      refine wpOp_run (v := .pointer (some ⟨G, 0, none⟩)) rfl rfl ?_ (fun _ _ => rfl) (Ok.refl _)
      clear hF
      go_simp
    · intro a' w' hF hR
      obtain ⟨v1, hv1, e11⟩ := hF.get 1 11 (by kernel_rfl) (by kernel_rfl)
      obtain rfl : v1 = _ := hv1 _ (Ok.refl _)
      refine wpOp_run (v := .pointer (some ⟨G, 0, none⟩)) rfl rfl ?_ (fun _ _ => rfl) (Ok.refl _)
      clear hF
      go_simp
    · intro a' w' hF hR
      obtain ⟨v2, hv2, e12⟩ := hF.get 2 12 (by kernel_rfl) (by kernel_rfl)
      obtain rfl : v2 = _ := hv2 _ (Ok.refl _)
      obtain ⟨c0, c1, c2, c3, c4, c5, c6, c7, c8, c9, c10, c11⟩ := (HQ.out _ hR).frP
      have hgl := (HQ.out _ hR).lt
      refine wpOp_run (v := parV p) rfl rfl ?_ (fun _ _ => rfl) (Ok.refl _)
      clear hF
      go_simp
    · intro a' w' hF hR
      have e0 : a'.tmps[0]? = some (.pointer (some ⟨G, 0, none⟩)) := hF.slot 0 (by kernel_rfl) rfl
      refine wpOp_run (v := .pointer (some ⟨G, 0, none⟩)) rfl rfl ?_ (fun _ _ => rfl) (Ok.refl _)
      clear hF
      go_simp
    · intro a' w' hF hR
      obtain ⟨v4, hv4, e14⟩ := hF.get 4 14 (by kernel_rfl) (by kernel_rfl)
      obtain rfl : v4 = _ := hv4 _ (Ok.refl _)
      refine wpOp_run (v := .pointer (some ⟨G, 0, none⟩)) rfl rfl ?_ (fun _ _ => rfl) (Ok.refl _)
      clear hF
      go_simp
    · intro a' w' hF hR
      obtain ⟨v5, hv5, e15⟩ := hF.get 5 15 (by kernel_rfl) (by kernel_rfl)
      obtain rfl : v5 = _ := hv5 _ (Ok.refl _)
      refine wpOp_run (v := .pointer (some ⟨G, 12, none⟩)) rfl rfl ?_ (fun _ _ => rfl) (Ok.refl _)
      clear hF
      go_simp
    · intro a' w' hF hR
      obtain ⟨v6, hv6, e16⟩ := hF.get 6 16 (by kernel_rfl) (by kernel_rfl)
      obtain rfl : v6 = _ := hv6 _ (Ok.refl _)
      refine wpOp_run (v := .pointer (some ⟨G, 14, none⟩)) rfl rfl ?_ (fun _ _ => rfl) (Ok.refl _)
      clear hF
      go_simp
    · intro a' w' hF hR
      obtain ⟨v7, hv7, e17⟩ := hF.get 7 17 (by kernel_rfl) (by kernel_rfl)
      obtain rfl : v7 = _ := hv7 _ (Ok.refl _)
      obtain ⟨s0, s1, s2, s3, s4, s5, s6, s7, s8, s9, s10⟩ := (HQ.out _ hR).frS
      have hgl := (HQ.out _ hR).lt
      refine wpOp_run (v := .int .i64 s.time) rfl rfl ?_ (fun _ _ => rfl) (Ok.refl _)
      clear hF
      go_simp
    · intro a' w' hF hR
      obtain ⟨v3, hv3, e13⟩ := hF.get 3 13 (by kernel_rfl) (by kernel_rfl)
      obtain rfl : v3 = _ := hv3 _ (Ok.refl _)
      obtain ⟨v8, hv8, e18⟩ := hF.get 8 18 (by kernel_rfl) (by kernel_rfl)
      obtain rfl : v8 = _ := hv8 _ (Ok.refl _)
      clear hF
      refine wpOp_call (f := 131) (args := #[parV p, .int .i64 s.time]) rfl rfl ?_ ((KN.out _).mono ?_)
      · go_simp
      · rintro e w2 ⟨rfl, hb2⟩; exact ⟨_, rfl, fun _ _ => rfl, hb2⟩
    · intro a' w' hF hR
      obtain ⟨v9, hv9, e19⟩ := hF.get 9 19 (by kernel_rfl) (by kernel_rfl)
      obtain rfl : v9 = _ := hv9 _ (Ok.refl _)
      refine wpOp_run (v := .int .i64 m) rfl rfl ?_ (fun _ _ => rfl) (Ok.refl _)
      clear hF
      go_simp
    · intro a' w' hF hR
      refine wpOp_run (v := .int .i64 0) rfl rfl ?_ (fun _ _ => rfl) (Ok.refl _)
      clear hF
      go_simp
    intro vs w2 hV hR
    have e10 : vs 10 = .int .i64 m := hV 10 (by decide) _ (Ok.refl _)
    have e11 : vs 11 = .int .i64 0 := hV 11 (by decide) _ (Ok.refl _)
    have hok2 := HOK.out.trans ((Ok.refl w1).drew.trans hR)
    clear hV HQ HOK KN KR
    simp only [putFrom, e10, e11]
    simp only [Act.put, List.setIfInBounds_toArray, List.set_cons_zero, List.set_cons_succ]
    go_wp2
    go_ret2
    exact ⟨rfl, hok2⟩
end Go.Proofs.YtmokofblmkeloaaGreatDoor
