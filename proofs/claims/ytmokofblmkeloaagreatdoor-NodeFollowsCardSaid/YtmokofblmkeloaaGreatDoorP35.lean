/- Several texts of mine in one: W44, C22w, C14a, W25. -/
import Derived.Test.YtmokofblmkeloaaGreatDoorP31
import Derived.Test.YtmokofblmkeloaaGreatDoorW16
import Derived.Test.YtmokofblmkeloaaGreatDoorP38
import Derived.Test.YtmokofblmkeloaaGreatDoorB05
import Derived.Test.YtmokofblmkeloaaGreatDoorB19
import Derived.Test.YtmokofblmkeloaaGreatDoorMA
import Derived.Test.YtmokofblmkeloaaGreatDoorB00
import Derived.Maps.RangeWalk
import Derived.Sort.KeysCollected
import Derived.Laws.IdiomCopy
namespace Go.Proofs.YtmokofblmkeloaaGreatDoor
open Go.RowKit Go.WideShapes Go.ChangeShapes
set_option maxRecDepth 100000
theorem infoHeard : (Tryz.prog.info? 65).map (fun i => (i.zero, i.size, i.bytes)) = some (some (.agg #[.int .i64 0, .int .i64 0, .int .i64 0, .int .i64 0, .int .i64 0, .int .i64 0, .bool false, .bool false, .int .i64 0, .int .i64 0, .int .i64 0, .int .i64 0, .int .i64 0, .slice none 0 0, .int .i64 0]), 15, 128) := by kernel_rfl
theorem haL_one (y : HA) : ∀ u ∈ haL y, u.oneCell' = true := by
  intro u hu
  simp only [haL, msgCells, List.mem_append, List.mem_cons, List.not_mem_nil, or_false] at hu
  rcases hu with (rfl | rfl | rfl | rfl | rfl | rfl | rfl | rfl | rfl | rfl | rfl | rfl | rfl | rfl) | rfl <;> rfl
/-- A row of one's own stays where only a block ahead of it changes. -/
theorem row_only {w w1 : World} {B r : Nat} {e : TypeId} {k n : Nat} {v : Value} {xs : List Value} (h : w.ownsRow B e k v n xs) (j : Only r w w1) (hr : r < B) : w1.ownsRow B e k v n xs := by
  refine World.ownsRow.kept h (w' := w1) (row := some r) ⟨j.os, j.tape, j.output, j.size, fun i hi hn => j.block i hi fun e => hn (by rw [e])⟩ ?_
  rcases h.2 with ⟨e, _⟩ | ⟨g, c2, cur, e, hb, _⟩
  · rw [e]; exact .inl rfl
  · rw [e]
    refine .inr fun e2 => ?_
    simp only [Value.ownBlock, Option.some.injEq] at e2
    omega
/-- One that was heard is put behind a row of one's own. -/
theorem wpList_append_heard {w : World} {ops : Array Oper} {rest : List Oper} {o : Oper} {a : Act} {Q : Exit → Act → World → Prop} (hgd : o.guard = none) (s x : Operand)
    (ho : o.op = .call { callee := .builtin .append, args := #[s, x], argTypes := #[47, 47] })
    (base : Nat) (v : Value) (l : List HA) (n : Nat) (hs : a.eval s = v) (hown : w.ownsRow base 65 15 v n (l.flatMap haL)) (g : Nat) (y : HA) (hx : a.eval x = .slice (some ⟨g, 0, none⟩) 1 1) (hy : Own w g (haL y).toArray)
    (h63 : n ≤ 100000) (hbase : base ≤ w.heap.size)
    (h : ∀ v' w', w'.ownsRow base 65 15 v' (n + 1) ((l ++ [y]).flatMap haL) → w.grownBy w' v.ownBlock → wpList Tryz.prog ops Q rest (a.put o.dst v') w') : wpList Tryz.prog ops Q (o :: rest) a w := by
  obtain ⟨i, i0, i1, i2, i3⟩ := info_parts infoHeard
  refine wpList_append_own w hgd s x 47 ho base 65 i _ 15 128 Tryz.underlying47 i0 i1 i2 i3 rfl (by decide) v n (l.flatMap haL) hs hown ⟨g, 0, none⟩ 1 1 (haL y) hx rfl (fun j u hj => ?_) (haL_one y) (by unfold maxLen; omega) (by omega) hbase fun v' w' h1 h2 _ => h v' w' (by rw [List.flatMap_append]; simpa using h1) h2
  rw [Go.WideShapes.add_plain, Nat.zero_add]
  exact hy.cell j (by rw [List.getElem?_toArray]; exact hj)
/-- Such a row reads so. -/
theorem heards_of_row {w : World} {B : Nat} {v : Value} {l : List HA} {n : Nat} (hn : n = l.length) (h : w.ownsRow B 65 15 v n (l.flatMap haL)) (ht : ∀ x ∈ l, PairsAt w x.A x.m.table) : ∃ A c, v = .slice A l.length c ∧ HeardsAt w A l := by
  subst hn
  obtain ⟨A, c, e, hc⟩ := CellsAt.of_own h (by
    have : ∀ m : List HA, (m.flatMap haL).length = m.length * 15 := fun m => by
      induction m with
      | nil => rfl
      | cons a m ih => rw [List.flatMap_cons, List.length_append, ih, haL_len, List.length_cons]; omega
    exact (this l).symm) (by decide)
  exact ⟨A, c, e, hc, ht⟩
end Go.Proofs.YtmokofblmkeloaaGreatDoor
namespace Go.Proofs.YtmokofblmkeloaaGreatDoor
open Go.RowKit Go.WideShapes Go.ChangeShapes
set_option linter.unusedVariables false
set_option maxRecDepth 100000
theorem HeardsAt.nthAt {w : World} {B : Option Addr} {l : List HA} (h : HeardsAt w B l) (k : Nat) (hk : k < l.length) : ∃ b off, B = some ⟨b, off, none⟩ ∧ b < w.heap.size ∧ ∀ x, l[k] = x → w.cell? ⟨b, off + k * 15, none⟩ = some (.int .i64 x.m.kind) ∧ w.cell? ⟨b, off + k * 15 + 1, none⟩ = some (.int .i64 x.m.frm) ∧ w.cell? ⟨b, off + k * 15 + 2, none⟩ = some (.int .i64 x.m.lo) ∧ w.cell? ⟨b, off + k * 15 + 3, none⟩ = some (.int .i64 x.m.hi) ∧ w.cell? ⟨b, off + k * 15 + 4, none⟩ = some (.int .i64 x.m.held) ∧ w.cell? ⟨b, off + k * 15 + 5, none⟩ = some (.int .i64 x.m.hops) ∧ w.cell? ⟨b, off + k * 15 + 6, none⟩ = some (.bool x.m.good) ∧ w.cell? ⟨b, off + k * 15 + 7, none⟩ = some (.bool x.m.ref) ∧ w.cell? ⟨b, off + k * 15 + 8, none⟩ = some (.int .i64 x.m.slo) ∧ w.cell? ⟨b, off + k * 15 + 9, none⟩ = some (.int .i64 x.m.shi) ∧ w.cell? ⟨b, off + k * 15 + 10, none⟩ = some (.int .i64 x.m.pulse) ∧ w.cell? ⟨b, off + k * 15 + 11, none⟩ = some (.int .i64 x.m.time) ∧ w.cell? ⟨b, off + k * 15 + 12, none⟩ = some (.int .i64 x.m.num) ∧ w.cell? ⟨b, off + k * 15 + 13, none⟩ = some (.slice x.A x.m.table.length x.cap) ∧ w.cell? ⟨b, off + k * 15 + 14, none⟩ = some (.int .i64 x.age) := by
  obtain ⟨b, off, e, hlt, hc⟩ := h.cells.at haL_len (by decide) k hk
  refine ⟨b, off, e, hlt, fun x hx => ?_⟩
  subst hx
  exact ⟨hc 0 _ rfl, hc 1 _ rfl, hc 2 _ rfl, hc 3 _ rfl, hc 4 _ rfl, hc 5 _ rfl, hc 6 _ rfl, hc 7 _ rfl, hc 8 _ rfl, hc 9 _ rfl, hc 10 _ rfl, hc 11 _ rfl, hc 12 _ rfl, hc 13 _ rfl, hc 14 _ rfl⟩
theorem InsAt.nthAt {w : World} {B : Option Addr} {l : List In} (h : InsAt w B l) (k : Nat) (hk : k < l.length) : ∃ b off, B = some ⟨b, off, none⟩ ∧ b < w.heap.size ∧ ∀ x, l[k] = x → w.cell? ⟨b, off + k * 6, none⟩ = some (.int .i64 x.ticks) ∧ w.cell? ⟨b, off + k * 6 + 1, none⟩ = some (.slice x.B x.heard.length x.hcap) ∧ w.cell? ⟨b, off + k * 6 + 2, none⟩ = some (.bool x.ref) ∧ w.cell? ⟨b, off + k * 6 + 3, none⟩ = some (.int .i64 x.reading) ∧ w.cell? ⟨b, off + k * 6 + 4, none⟩ = some (.bool x.given) ∧ w.cell? ⟨b, off + k * 6 + 5, none⟩ = some (.slice x.T x.table.length x.tcap) := by
  obtain ⟨b, off, e, hlt, hc⟩ := h.cells.at inL_len (by decide) k hk
  refine ⟨b, off, e, hlt, fun x hx => ?_⟩
  subst hx
  exact ⟨hc 0 _ rfl, hc 1 _ rfl, hc 2 _ rfl, hc 3 _ rfl, hc 4 _ rfl, hc 5 _ rfl⟩
/-- Not more than is played. -/
structure Few (s : Sta) (l : List In) : Prop where
  table : s.table.length ≤ 128
  list : l.length ≤ 12
  heard : ∀ x ∈ l, x.heard.length ≤ 40
  tables : ∀ x ∈ l, x.table.length ≤ 128
  told : ∀ x ∈ l, ∀ h ∈ x.heard, h.m.table.length ≤ 128
end Go.Proofs.YtmokofblmkeloaaGreatDoor
namespace Go.Proofs.YtmokofblmkeloaaGreatDoor
open Go.RowKit Go.Maps
set_option maxRecDepth 100000
theorem keyInt : Keyed Tryz.prog 3 := int_keyed Tryz.underlying3
abbrev nbV (p : Int × Int) : Value := .agg #[.int .i64 p.1, .int .i64 p.2]
def pairD (p : Int × Int) : DataW Unit := .agg [.lit (.int .i64 p.1), .lit (.int .i64 p.2)]
theorem pairD_inj {p q : Int × Int} (h : pairD p = pairD q) : p = q := by
  unfold pairD at h
  simp at h
  exact Prod.ext h.1 h.2
/-- How a neighbour reads. -/
def nbElem : Value → Option (DataW Unit × List MemPlace)
  | .agg cs => match cs.toList with
    | [.int .i64 a, .int .i64 q] => some (pairD (a, q), [])
    | _ => none
  | _ => none
theorem nbElem_mk (p : Int × Int) : nbElem (nbV p) = some (pairD p, []) := rfl
theorem nbElem_inv {v : Value} {y : DataW Unit × List MemPlace} (h : nbElem v = some y) : ∃ p, v = nbV p ∧ y = (pairD p, []) := by
  unfold nbElem at h
  split at h
  · rename_i cs
    split at h
    · rename_i a q hcs
      cases h
      refine ⟨(a, q), ?_, rfl⟩
      show Value.agg cs = Value.agg #[.int .i64 a, .int .i64 q]
      exact congrArg Value.agg (Array.ext' hcs)
    · cases h
  · cases h
theorem zeroNb (w : World) : (zeroValue 119).run Tryz.prog w = .ok (nbV (0, 0)) w := by kernel_rfl
/-- What is in the map, at a number. -/
def Holds (D : DataW Unit) (x : Int) : Option (Int × Int) → Prop
  | none => ∀ z, D.atKey (.int .i64 x) z = z
  | some p => ∀ z, D.atKey (.int .i64 x) z = pairD p
theorem Holds.has {D : DataW Unit} {x : Int} {o : Option (Int × Int)} (h : Holds D x o) : Maps.has D (.int .i64 x) = o.isSome := by
  cases o with
  | none => exact has_false_of_atKey h
  | some p => exact has_true_of_atKey h
theorem Holds.inj {D : DataW Unit} {x : Int} {p q : Int × Int} (h : Holds D x (some p)) (k : Holds D x (some q)) : p = q := pairD_inj ((h (.lit (.bool true))).symm.trans (k (.lit (.bool true))))
/-- In block b is a map in which lies what f says. -/
def NearMap (w : World) (b : Nat) (f : NF) : Prop := ∃ D, w.ownsMap Tryz.prog 3 nbElem b 48 D ∧ ∀ x, (Lit.int .i64 x).wf = true → Holds D x (Mem.look f x)
theorem wf_nat {k : Nat} (h : k ≤ 1099511627776) : (Lit.int .i64 (k : Int)).wf = true := WalkArith.wf_i64 (by omega)
/-- How many are in it. -/
theorem size_is {w : World} {b n : Nat} {D : DataW Unit} {f : NF} (h : w.ownsMap Tryz.prog 3 nbElem b n D) (hf : ∀ k, 48 ≤ k → f k = none) (hh : ∀ x, (Lit.int .i64 x).wf = true → Holds D x (Mem.look f x)) : Maps.size D = (Mem.nums f).length := by
  obtain ⟨es, rfl, hpw, hkl⟩ := h.entries keyInt
  obtain ⟨es', hD', hko⟩ := h.keysOf
  obtain rfl : es = es' := by simpa using hD'
  have hp : (es.map (·.1)).Perm ((Mem.nums f).map fun k : Nat => Lit.int .i64 (k : Int)) := by
    refine (List.perm_ext_iff_of_nodup ?_ ?_).2 fun a => ?_
    · exact List.pairwise_map.2 (hpw.imp fun h => h)
    · refine List.pairwise_map.2 ((Mem.nums_nodup f).imp fun h e => h ?_)
      injection e with _ e
      omega
    · rw [List.mem_map, List.mem_map]
      constructor
      · rintro ⟨p, hp, rfl⟩
        obtain ⟨v, hv⟩ := hko p hp
        obtain ⟨x, -, hx, hw⟩ := Maps.keyOf_int_inv Tryz.underlying3 hv
        have h1 := (hh x hw).has
        have h2 : Maps.has (.map es) (.int .i64 x) = true := by
          rw [has_eq]
          exact List.any_eq_true.2 ⟨p, hp, by rw [hx]; exact WideAt.sameKey_self (by trivial)⟩
        rw [h2] at h1
        have h0 : 0 ≤ x := by
          rcases Int.lt_or_le x 0 with g | g
          · rw [Mem.look_neg f g] at h1; cases h1
          · exact g
        rw [Mem.look_in h0] at h1
        refine ⟨x.toNat, Mem.mem_nums.2 ⟨?_, h1.symm⟩, ?_⟩
        · rcases Nat.lt_or_ge x.toNat 48 with g | g
          · exact g
          · rw [hf _ g] at h1; cases h1
        · rw [hx]; congr 1; omega
      · rintro ⟨k, hk, rfl⟩
        obtain ⟨hk1, hk2⟩ := Mem.mem_nums.1 hk
        have h1 := (hh (k : Int) (wf_nat (by omega))).has
        rw [Mem.look_at, hk2, has_eq] at h1
        obtain ⟨p, hp, hs⟩ := List.any_eq_true.1 h1
        exact ⟨p, hp, WideAt.sameKey_eq hs⟩
  have := hp.length_eq
  rw [List.length_map, List.length_map] at this
  exact this
theorem ownsMap_tight {w : World} {b n m : Nat} {D : DataW Unit} (h : w.ownsMap Tryz.prog 3 nbElem b n D) (hm : Maps.size D ≤ m) : w.ownsMap Tryz.prog 3 nbElem b m D := by
  obtain ⟨es, clock, hb, F, _, rfl⟩ := h
  exact ⟨es, clock, hb, F, by simpa [Maps.size, length_sorted] using hm, rfl⟩
namespace NearMap
variable {w w1 : World} {b g : Nat} {f : NF}
theorem lt (h : NearMap w b f) : b < w.heap.size := by
  obtain ⟨D, h, _⟩ := h
  exact h.lt
theorem keep (h : NearMap w b f) (k : w1.heap[b]? = w.heap[b]?) : NearMap w1 b f := by
  obtain ⟨D, ⟨es, clock, hb, r⟩, h2⟩ := h
  exact ⟨D, ⟨es, clock, k.trans hb, r⟩, h2⟩
theorem next (h : NearMap w b f) (k : Ok w w1) : NearMap w1 b f := h.keep (k.below.block b h.lt)
theorem only (h : NearMap w b f) (k : Only g w w1) (hg : b ≠ g) : NearMap w1 b f := h.keep (k.block b h.lt hg)
theorem made (w : World) : NearMap (w.alloc (.map #[] 0)) w.heap.size Mem.nobody := by
  refine ⟨.map [], (World.ownsMap_made _ _ _ _).mono (by decide), fun x _ => ?_⟩
  have : Mem.look Mem.nobody x = none := by unfold Mem.look Mem.nobody; split <;> rfl
  rw [this]
  exact fun z => rfl
end NearMap
theorem only_turned {w w1 : World} {b : Nat} (h : w.mapTurned w1 b) : Only b w w1 := (Only.refl b w).grow h.grown fun k hk => .inl (by cases hk; rfl)
theorem key_int {x : Int} (h : (Lit.int .i64 x).wf = true) : keyOf Tryz.prog 3 (.int .i64 x) = some (.int .i64 x) := keyOf_int_mk Tryz.underlying3 h
section
variable {w : World} {b : Nat} {f : NF}
/-- 'v, ok := m[x]'. -/
theorem run_nb_ok (h : NearMap w b f) {x : Int} (hx : (Lit.int .i64 x).wf = true) :
    (Instr.lookup 110 (.map (some b)) (.int .i64 x) true).run Tryz.prog w = .ok (.tuple #[nbV ((Mem.look f x).getD (0, 0)), .bool (Mem.look f x).isSome]) w := by
  obtain ⟨D, hown, hh⟩ := h
  obtain ⟨v, ps, hrun, hv⟩ := hown.look_ok keyInt Tryz.underlying110 (zeroNb w) (nbElem_mk (0, 0)) (key_int hx)
  obtain ⟨p, rfl, hp⟩ := nbElem_inv hv
  rw [hrun, (hh x hx).has]
  have h2 := hh x hx
  cases e : Mem.look f x with
  | none =>
    rw [e] at h2
    rw [h2] at hp
    rw [pairD_inj (congrArg Prod.fst hp)]
    rfl
  | some q =>
    rw [e] at h2
    rw [h2] at hp
    rw [pairD_inj (congrArg Prod.fst hp)]
    rfl
/-- 'm[x]'. -/
theorem run_nb (h : NearMap w b f) {x : Int} (hx : (Lit.int .i64 x).wf = true) :
    (Instr.lookup 110 (.map (some b)) (.int .i64 x) false).run Tryz.prog w = .ok (nbV ((Mem.look f x).getD (0, 0))) w := by
  obtain ⟨D, hown, hh⟩ := h
  obtain ⟨v, ps, hrun, hv⟩ := hown.lookup keyInt Tryz.underlying110 (zeroNb w) (nbElem_mk (0, 0)) (key_int hx)
  obtain ⟨p, rfl, hp⟩ := nbElem_inv hv
  rw [hrun]
  have h2 := hh x hx
  cases e : Mem.look f x with
  | none =>
    rw [e] at h2
    rw [h2] at hp
    rw [pairD_inj (congrArg Prod.fst hp)]
    rfl
  | some q =>
    rw [e] at h2
    rw [h2] at hp
    rw [pairD_inj (congrArg Prod.fst hp)]
    rfl
theorem run_nb_len (h : NearMap w b f) (hf : ∀ k, 48 ≤ k → f k = none) (ty : TypeId) : (Builtin.len_ #[110] ty #[.map (some b)]).run Tryz.prog w = .ok (.int .i64 ((Mem.nums f).length : Nat)) w := by
  obtain ⟨D, hown, hh⟩ := h
  rw [hown.len Tryz.underlying110 ty, size_is hown hf hh]
/-- 'm[k] = p'. -/
theorem run_nb_put (h : NearMap w b f) {k : Nat} (hk : k < 48) (hf : ∀ k, 48 ≤ k → f k = none) (p : Int × Int) :
    ∃ w', (Instr.mapUpdate 110 (.map (some b)) (.int .i64 (k : Int)) (nbV p)).run Tryz.prog w = .ok () w' ∧ NearMap w' b (Mem.put f k p) ∧ Only b w w' := by
  obtain ⟨D, hown, hh⟩ := h
  obtain ⟨w', h1, h2, h3⟩ := hown.store keyInt Tryz.underlying110 (by unfold maxLen; omega) (key_int (wf_nat (k := k) (by omega))) (nbElem_mk p)
  have hh' : ∀ x, (Lit.int .i64 x).wf = true → Holds (D.put (.int .i64 (k : Int)) (pairD p)) x (Mem.look (Mem.put f k p) x) := fun x hx => by
    by_cases e : x = (k : Int)
    · subst e
      rw [Mem.look_at]
      have : Mem.put f k p k = some p := if_pos rfl
      rw [this]
      exact fun z => atKey_put_same hown.isMap (by trivial) _ _
    · have e2 : Mem.look (Mem.put f k p) x = Mem.look f x := by
        unfold Mem.look Mem.put
        split
        · rw [if_neg (by omega)]
        · rfl
      rw [e2]
      have := hh x hx
      cases ho : Mem.look f x with
      | none => rw [ho] at this; exact fun z => (atKey_put_other (by intro g; injection g with _ g; exact e g) _ _).trans (this z)
      | some q => rw [ho] at this; exact fun z => (atKey_put_other (by intro g; injection g with _ g; exact e g) _ _).trans (this z)
  have hf' : ∀ j, 48 ≤ j → Mem.put f k p j = none := fun j hj => by unfold Mem.put; rw [if_neg (by omega)]; exact hf j hj
  exact ⟨w', h1, ⟨_, ownsMap_tight h2 (by rw [size_is h2 hf' hh']; exact Mem.nums_le _), hh'⟩, only_turned h3⟩
/-- 'delete(m, x)'. -/
theorem run_nb_drop (h : NearMap w b f) {x : Int} (hx : (Lit.int .i64 x).wf = true) (ty : TypeId) :
    ∃ w', (Builtin.delete_ #[110, 3] ty #[.map (some b), .int .i64 x]).run Tryz.prog w = .ok (.tuple #[]) w' ∧ NearMap w' b (Mem.dropI f x) ∧ Only b w w' := by
  obtain ⟨D, hown, hh⟩ := h
  obtain ⟨w', h1, h2, h3⟩ := hown.drop keyInt Tryz.underlying110 (key_int hx) ty
  refine ⟨w', h1, ⟨_, h2, fun y hy => ?_⟩, only_turned h3⟩
  by_cases e : y = x
  · subst e
    have : Mem.look (Mem.dropI f y) y = none := by
      unfold Mem.look Mem.dropI
      split
      · simp [Mem.drop]
      · rfl
    rw [this]
    exact fun z => atKey_del_same z
  · have e2 : Mem.look (Mem.dropI f x) y = Mem.look f y := by
      unfold Mem.look Mem.dropI Mem.drop
      split
      · split
        · show (if y.toNat = x.toNat then none else f y.toNat) = _
          rw [if_neg (by omega)]
        · rfl
      · rfl
    rw [e2]
    have := hh y hy
    cases ho : Mem.look f y with
    | none => rw [ho] at this; exact fun z => (atKey_del_other (by intro g; injection g with _ g; exact e g) _).trans (this z)
    | some q => rw [ho] at this; exact fun z => (atKey_del_other (by intro g; injection g with _ g; exact e g) _).trans (this z)
end
/-! At the operation. -/
section
variable {w : World} {ops : Array Oper} {rest : List Oper} {o : Oper} {a : Act} {Q : Exit → Act → World → Prop} {b : Nat} {f : NF}
theorem wpList_nb_ok (hg : o.guard = none) (m x : Operand) (hop : o.op = Op.lookup 110 m x true) (hm : a.eval m = .map (some b)) (h : NearMap w b f) {k : Int} (hx : a.eval x = .int .i64 k) (hk : (Lit.int .i64 k).wf = true) (v : Value) (hv : .tuple #[nbV ((Mem.look f k).getD (0, 0)), .bool (Mem.look f k).isSome] = v)
    (hK : wpList Tryz.prog ops Q rest (a.put o.dst v) w) : wpList Tryz.prog ops Q (o :: rest) a w := by
  subst hv
  refine wpList_plain hg fun K' hK' => ?_
  unfold Oper.wp
  simp [execOp, hop, hm, hx, run_nb_ok h hk, Result.andThen]
  exact hK' _ _ hK
theorem wpList_nb (hg : o.guard = none) (m x : Operand) (hop : o.op = Op.lookup 110 m x false) (hm : a.eval m = .map (some b)) (h : NearMap w b f) {k : Int} (hx : a.eval x = .int .i64 k) (hk : (Lit.int .i64 k).wf = true) (v : Value) (hv : nbV ((Mem.look f k).getD (0, 0)) = v)
    (hK : wpList Tryz.prog ops Q rest (a.put o.dst v) w) : wpList Tryz.prog ops Q (o :: rest) a w := by
  subst hv
  refine wpList_plain hg fun K' hK' => ?_
  unfold Oper.wp
  simp [execOp, hop, hm, hx, run_nb h hk, Result.andThen]
  exact hK' _ _ hK
theorem wpList_nb_drop (hg : o.guard = none) (m x : Operand) (hop : o.op = Op.call { callee := Callee.builtin Builtin.delete, args := #[m, x], argTypes := #[110, 3] }) (hm : a.eval m = .map (some b)) (h : NearMap w b f) {k : Int} (hx : a.eval x = .int .i64 k) (hk : (Lit.int .i64 k).wf = true)
    (hK : ∀ w', NearMap w' b (Mem.dropI f k) → Only b w w' → wpList Tryz.prog ops Q rest (a.put o.dst (.tuple #[])) w') : wpList Tryz.prog ops Q (o :: rest) a w := by
  refine wpList_plain hg fun K' hK' => ?_
  obtain ⟨w', hrun, r1, r2⟩ := run_nb_drop h hk o.type
  unfold Oper.wp
  simp [execOp, hop, resolve, invoke, builtin, hm, hx, hrun, Result.andThen]
  exact hK' _ _ (hK w' r1 r2)
end
end Go.Proofs.YtmokofblmkeloaaGreatDoor
namespace Go.Proofs.YtmokofblmkeloaaGreatDoor
open Go.RowKit Go.WideShapes Go.ChangeShapes Go.Joins Go.Deep
/-- The block g holds the values cs, whole, as a row of elements of the type e. -/
structure OwnT (w : World) (g : Nat) (e : TypeId) (cs : Array Value) : Prop where
  blk : w.heap[g]? = some (.cells cs e (0, 0))
namespace OwnT
variable {w w1 : World} {g : Nat} {e : TypeId} {cs : Array Value}
theorem own (h : OwnT w g e cs) : Own w g cs := ⟨e, h.blk⟩
theorem new (w : World) (cs : Array Value) (e : TypeId) {g : Nat} (hg : g = w.heap.size) : OwnT (w.alloc (.cells cs e)) g e cs := ⟨by subst hg; exact (MapKept.heap_alloc w _).1⟩
theorem lt (h : OwnT w g e cs) : g < w.heap.size := h.own.lt
theorem same (h : OwnT w g e cs) (k : w1.heap[g]? = w.heap[g]?) : OwnT w1 g e cs := ⟨k.trans h.blk⟩
theorem next (h : OwnT w g e cs) (k : Ok w w1) : OwnT w1 g e cs := h.same (k.block g h.lt)
theorem drew (h : OwnT w g e cs) : OwnT w.drew g e cs := ⟨h.blk⟩
theorem set (h : OwnT w g e cs) (k : Nat) (v : Value) : OwnT (w.setCell ⟨g, k, none⟩ v) g e (cs.set! k v) := by
  have h := h.blk
  refine ⟨?_⟩
  simp only [World.setCell, Array.getElem?_modify, h, if_true, Option.map_some]
  rfl
theorem cell (h : OwnT w g e cs) (k : Nat) {v : Value} (hv : cs[k]? = some v) : w.cell? ⟨g, k, none⟩ = some v := h.own.cell k hv
end OwnT
theorem grown_trans {w w1 w2 : World} {row : Option Nat} (h : w.grownBy w1 row) (k : w1.grownBy w2 row) : w.grownBy w2 row :=
  ⟨k.os.trans h.os, k.tape.trans h.tape, k.output.trans h.output, Nat.le_trans h.size k.size, fun i a b => (k.block i (Nat.lt_of_lt_of_le a h.size) b).trans (h.block i a b)⟩
theorem grown_alloc (w : World) (o : Obj) (row : Option Nat) : w.grownBy (w.alloc o) row := World.grownBy_alloc w o row
theorem grown_drew (w : World) (row : Option Nat) : w.grownBy w.drew row := ⟨rfl, rfl, rfl, Nat.le_refl _, fun _ _ _ => rfl⟩
/-- A row of one's own out of what its block holds. -/
theorem row_of_own {w : World} {g : Nat} {e : TypeId} {cs : Array Value} (h : OwnT w g e cs) {B n cap k : Nat} {xs : List Value} (hb : B ≤ g) (hx : xs.length = n * k) (hn : n ≤ cap) (hc : cap ≤ maxLen) (hs : cs.size = cap * k)
    (hv : ∀ (j : Nat) (u : Value), xs[j]? = some u → cs[j]? = some u) : w.ownsRow B e k (.slice (some ⟨g, 0, none⟩) n cap) n xs := by
  refine ⟨hx, .inr ⟨g, cap, cs, rfl, hb, h.blk, hn, hc, hs, ?_⟩⟩
  have hle : n * k ≤ cs.size := by rw [hs]; exact Nat.mul_le_mul_right _ hn
  apply List.ext_getElem?
  intro j
  rw [List.getElem?_take]
  by_cases hj : j < n * k
  · rw [if_pos hj, Array.getElem?_toList]
    have := hv j _ (List.getElem?_eq_getElem (show j < xs.length by omega))
    rw [this, List.getElem?_eq_getElem (show j < xs.length by omega)]
  · rw [if_neg hj, List.getElem?_eq_none (by omega)]
section
variable {P : Program}
end
/-- Of the blocks that were there only those of which S tells may have changed. -/
structure Far (S : Nat → Prop) (w w' : World) : Prop where
  os : w'.os = w.os
  tape : w'.tape = w.tape
  output : w'.output = w.output
  size : w.heap.size ≤ w'.heap.size
  block : ∀ k, k < w.heap.size → ¬ S k → w'.heap[k]? = w.heap[k]?
namespace Far
variable {S T : Nat → Prop} {w w1 w2 : World}
theorem refl (S : Nat → Prop) (w : World) : Far S w w := ⟨rfl, rfl, rfl, Nat.le_refl _, fun _ _ _ => rfl⟩
theorem ok (h : Far S w w1) (k : Ok w1 w2) : Far S w w2 := ⟨k.below.os.trans h.os, k.below.tape.trans h.tape, k.below.output.trans h.output, Nat.le_trans h.size k.size, fun i a b => (k.below.block i (Nat.lt_of_lt_of_le a h.size)).trans (h.block i a b)⟩
theorem of_ok (k : Ok w w1) : Far S w w1 := (refl S w).ok k
/-- One change behind the other; the second one may touch what the first has made. -/
theorem trans (h : Far S w w1) (k : Far T w1 w2) (hT : ∀ i, T i → S i ∨ w.heap.size ≤ i) : Far S w w2 :=
  ⟨k.os.trans h.os, k.tape.trans h.tape, k.output.trans h.output, Nat.le_trans h.size k.size, fun i a b => (k.block i (Nat.lt_of_lt_of_le a h.size) fun c => (hT i c).elim b (by omega)).trans (h.block i a b)⟩
theorem set (h : Far S w w1) {a : Addr} (ha : S a.block ∨ w.heap.size ≤ a.block) (v : Value) : Far S w (w1.setCell a v) :=
  ⟨h.os, h.tape, h.output, by simpa using h.size, fun i h1 h2 => (Below.heap_setCell w1 a v i (fun e => ha.elim (fun c => h2 (by rw [e]; exact c)) (by omega))).trans (h.block i h1 h2)⟩
theorem alloc (h : Far S w w1) (o : Obj) : Far S w (w1.alloc o) := h.ok ((Ok.refl _).alloc o)
theorem drew (h : Far S w w1) : Far S w w1.drew := h.ok (Ok.refl _).drew
theorem grow (h : Far S w w1) {row : Option Nat} (g : w1.grownBy w2 row) (hr : ∀ k, row = some k → S k ∨ w.heap.size ≤ k) : Far S w w2 :=
  ⟨g.os.trans h.os, g.tape.trans h.tape, g.output.trans h.output, Nat.le_trans h.size g.size, fun i a b => (g.block i (Nat.lt_of_lt_of_le a h.size) (fun e => (hr i e.symm).elim b (by omega))).trans (h.block i a b)⟩
theorem own (h : Far S w w1) {g : Nat} {cs : Array Value} (hO : Own w g cs) (h1 : ¬ S g) : Own w1 g cs := by
  have hl := hO.lt
  obtain ⟨t, ht⟩ := hO
  exact ⟨t, (h.block g hl h1).trans ht⟩
theorem cell (h : Far S w w1) {b o : Nat} {v : Value} (hc : w.cell? ⟨b, o, none⟩ = some v) (h0 : b < w.heap.size) (h1 : ¬ S b) : w1.cell? ⟨b, o, none⟩ = some v := (World.cell?_of_block (a := ⟨b, o, none⟩) (h.block b h0 h1)).trans hc
theorem row (h : Far S w w1) {B : Nat} {e : TypeId} {k n : Nat} {v : Value} {xs : List Value} (hR : w.ownsRow B e k v n xs) (hv : ∀ i, v.ownBlock = some i → ¬ S i) : w1.ownsRow B e k v n xs := by
  refine ⟨hR.1, ?_⟩
  rcases hR.2 with hn | ⟨g, cap, cur, rfl, hb, hgg, rest⟩
  · exact .inl hn
  · exact .inr ⟨g, cap, cur, rfl, hb, (h.block g (Array.getElem?_eq_some_iff.1 hgg).1 (hv g rfl)).trans hgg, rest⟩
/-- What changes only blocks of one's own changes nothing that came in. -/
theorem then_ok {w0 : World} (h0 : Ok w0 w) (h : Far S w w1) (hr : ∀ k, S k → w0.heap.size ≤ k) : Ok w0 w1 :=
  ⟨h.os.trans h0.below.os, h.tape.trans h0.below.tape, h.output.trans h0.below.output, Nat.le_trans h0.size h.size, fun i hi => (h.block i (Nat.lt_of_lt_of_le hi h0.size) (fun c => by have := hr i c; omega)).trans (h0.below.block i hi)⟩
theorem mono (h : Far S w w1) (hS : ∀ k, S k → T k) : Far T w w1 := ⟨h.os, h.tape, h.output, h.size, fun k a b => h.block k a fun c => b (hS k c)⟩
end Far
end Go.Proofs.YtmokofblmkeloaaGreatDoor
