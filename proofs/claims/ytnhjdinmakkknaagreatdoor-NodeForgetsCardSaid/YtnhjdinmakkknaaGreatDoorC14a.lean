import Derived.Test.YtnhjdinmakkknaaGreatDoorMA
import Derived.Test.YtnhjdinmakkknaaGreatDoorB00
import Derived.Test.YtnhjdinmakkknaaGreatDoorB18
import Derived.Maps.RangeWalk
import Derived.Sort.KeysCollected
namespace Go.Proofs.YtnhjdinmakkknaaGreatDoor
open Go.RowKit Go.Maps
set_option maxRecDepth 100000
theorem keyInt : Keyed Tryz.prog 3 := int_keyed Tryz.underlying3
abbrev nbV (p : Int × Int) : Value := .agg #[.int .i64 p.1, .int .i64 p.2]
def pairD (p : Int × Int) : DataW Unit := .agg [.lit (.int .i64 p.1), .lit (.int .i64 p.2)]
theorem pairD_inj {p q : Int × Int} (h : pairD p = pairD q) : p = q := by
  unfold pairD at h
  simp at h
  exact Prod.ext h.1 h.2
/-- How a neighbour reads. -/
def nbElem : Value → Option (DataW Unit × List MemPlace)
  | .agg cs => match cs.toList with
    | [.int .i64 a, .int .i64 q] => some (pairD (a, q), [])
    | _ => none
  | _ => none
theorem nbElem_mk (p : Int × Int) : nbElem (nbV p) = some (pairD p, []) := rfl
theorem nbElem_inv {v : Value} {y : DataW Unit × List MemPlace} (h : nbElem v = some y) : ∃ p, v = nbV p ∧ y = (pairD p, []) := by
  unfold nbElem at h
  split at h
  · rename_i cs
    split at h
    · rename_i a q hcs
      cases h
      refine ⟨(a, q), ?_, rfl⟩
      show Value.agg cs = Value.agg #[.int .i64 a, .int .i64 q]
      exact congrArg Value.agg (Array.ext' hcs)
    · cases h
  · cases h
theorem zeroNb (w : World) : (zeroValue 120).run Tryz.prog w = .ok (nbV (0, 0)) w := by kernel_rfl
/-- What is in the map, at a number. -/
def Holds (D : DataW Unit) (x : Int) : Option (Int × Int) → Prop
  | none => ∀ z, D.atKey (.int .i64 x) z = z
  | some p => ∀ z, D.atKey (.int .i64 x) z = pairD p
theorem Holds.has {D : DataW Unit} {x : Int} {o : Option (Int × Int)} (h : Holds D x o) : Maps.has D (.int .i64 x) = o.isSome := by
  cases o with
  | none => exact has_false_of_atKey h
  | some p => exact has_true_of_atKey h
theorem Holds.inj {D : DataW Unit} {x : Int} {p q : Int × Int} (h : Holds D x (some p)) (k : Holds D x (some q)) : p = q := pairD_inj ((h (.lit (.bool true))).symm.trans (k (.lit (.bool true))))
/-- In block b is a map in which lies what f says. -/
def NearMap (w : World) (b : Nat) (f : NF) : Prop := ∃ D, w.ownsMap Tryz.prog 3 nbElem b 48 D ∧ ∀ x, (Lit.int .i64 x).wf = true → Holds D x (Mem.look f x)
theorem wf_nat {k : Nat} (h : k ≤ 1099511627776) : (Lit.int .i64 (k : Int)).wf = true := WalkArith.wf_i64 (by omega)
/-- How many are in it. -/
theorem size_is {w : World} {b n : Nat} {D : DataW Unit} {f : NF} (h : w.ownsMap Tryz.prog 3 nbElem b n D) (hf : ∀ k, 48 ≤ k → f k = none) (hh : ∀ x, (Lit.int .i64 x).wf = true → Holds D x (Mem.look f x)) : Maps.size D = (Mem.nums f).length := by
  obtain ⟨es, rfl, hpw, hkl⟩ := h.entries keyInt
  obtain ⟨es', hD', hko⟩ := h.keysOf
  obtain rfl : es = es' := by simpa using hD'
  have hp : (es.map (·.1)).Perm ((Mem.nums f).map fun k : Nat => Lit.int .i64 (k : Int)) := by
    refine (List.perm_ext_iff_of_nodup ?_ ?_).2 fun a => ?_
    · exact List.pairwise_map.2 (hpw.imp fun h => h)
    · refine List.pairwise_map.2 ((Mem.nums_nodup f).imp fun h e => h ?_)
      injection e with _ e
      omega
    · rw [List.mem_map, List.mem_map]
      constructor
      · rintro ⟨p, hp, rfl⟩
        obtain ⟨v, hv⟩ := hko p hp
        obtain ⟨x, -, hx, hw⟩ := Maps.keyOf_int_inv Tryz.underlying3 hv
        have h1 := (hh x hw).has
        have h2 : Maps.has (.map es) (.int .i64 x) = true := by
          rw [has_eq]
          exact List.any_eq_true.2 ⟨p, hp, by rw [hx]; exact WideAt.sameKey_self (by trivial)⟩
        rw [h2] at h1
        have h0 : 0 ≤ x := by
          rcases Int.lt_or_le x 0 with g | g
          · rw [Mem.look_neg f g] at h1; cases h1
          · exact g
        rw [Mem.look_in h0] at h1
        refine ⟨x.toNat, Mem.mem_nums.2 ⟨?_, h1.symm⟩, ?_⟩
        · rcases Nat.lt_or_ge x.toNat 48 with g | g
          · exact g
          · rw [hf _ g] at h1; cases h1
        · rw [hx]; congr 1; omega
      · rintro ⟨k, hk, rfl⟩
        obtain ⟨hk1, hk2⟩ := Mem.mem_nums.1 hk
        have h1 := (hh (k : Int) (wf_nat (by omega))).has
        rw [Mem.look_at, hk2, has_eq] at h1
        obtain ⟨p, hp, hs⟩ := List.any_eq_true.1 h1
        exact ⟨p, hp, WideAt.sameKey_eq hs⟩
  have := hp.length_eq
  rw [List.length_map, List.length_map] at this
  exact this
theorem ownsMap_tight {w : World} {b n m : Nat} {D : DataW Unit} (h : w.ownsMap Tryz.prog 3 nbElem b n D) (hm : Maps.size D ≤ m) : w.ownsMap Tryz.prog 3 nbElem b m D := by
  obtain ⟨es, clock, hb, F, _, rfl⟩ := h
  exact ⟨es, clock, hb, F, by simpa [Maps.size, length_sorted] using hm, rfl⟩
namespace NearMap
variable {w w1 : World} {b g : Nat} {f : NF}
theorem lt (h : NearMap w b f) : b < w.heap.size := by
  obtain ⟨D, h, _⟩ := h
  exact h.lt
theorem keep (h : NearMap w b f) (k : w1.heap[b]? = w.heap[b]?) : NearMap w1 b f := by
  obtain ⟨D, ⟨es, clock, hb, r⟩, h2⟩ := h
  exact ⟨D, ⟨es, clock, k.trans hb, r⟩, h2⟩
theorem next (h : NearMap w b f) (k : Ok w w1) : NearMap w1 b f := h.keep (k.below.block b h.lt)
theorem only (h : NearMap w b f) (k : Only g w w1) (hg : b ≠ g) : NearMap w1 b f := h.keep (k.block b h.lt hg)
theorem made (w : World) : NearMap (w.alloc (.map #[] 0)) w.heap.size Mem.nobody := by
  refine ⟨.map [], (World.ownsMap_made _ _ _ _).mono (by decide), fun x _ => ?_⟩
  have : Mem.look Mem.nobody x = none := by unfold Mem.look Mem.nobody; split <;> rfl
  rw [this]
  exact fun z => rfl
end NearMap
theorem only_turned {w w1 : World} {b : Nat} (h : w.mapTurned w1 b) : Only b w w1 := (Only.refl b w).grow h.grown fun k hk => .inl (by cases hk; rfl)
theorem key_int {x : Int} (h : (Lit.int .i64 x).wf = true) : keyOf Tryz.prog 3 (.int .i64 x) = some (.int .i64 x) := keyOf_int_mk Tryz.underlying3 h
section
variable {w : World} {b : Nat} {f : NF}
/-- 'v, ok := m[x]'. -/
theorem run_nb_ok (h : NearMap w b f) {x : Int} (hx : (Lit.int .i64 x).wf = true) :
    (Instr.lookup 111 (.map (some b)) (.int .i64 x) true).run Tryz.prog w = .ok (.tuple #[nbV ((Mem.look f x).getD (0, 0)), .bool (Mem.look f x).isSome]) w := by
  obtain ⟨D, hown, hh⟩ := h
  obtain ⟨v, ps, hrun, hv⟩ := hown.look_ok keyInt Tryz.underlying111 (zeroNb w) (nbElem_mk (0, 0)) (key_int hx)
  obtain ⟨p, rfl, hp⟩ := nbElem_inv hv
  rw [hrun, (hh x hx).has]
  have h2 := hh x hx
  cases e : Mem.look f x with
  | none =>
    rw [e] at h2
    rw [h2] at hp
    rw [pairD_inj (congrArg Prod.fst hp)]
    rfl
  | some q =>
    rw [e] at h2
    rw [h2] at hp
    rw [pairD_inj (congrArg Prod.fst hp)]
    rfl
/-- 'm[x]'. -/
theorem run_nb (h : NearMap w b f) {x : Int} (hx : (Lit.int .i64 x).wf = true) :
    (Instr.lookup 111 (.map (some b)) (.int .i64 x) false).run Tryz.prog w = .ok (nbV ((Mem.look f x).getD (0, 0))) w := by
  obtain ⟨D, hown, hh⟩ := h
  obtain ⟨v, ps, hrun, hv⟩ := hown.lookup keyInt Tryz.underlying111 (zeroNb w) (nbElem_mk (0, 0)) (key_int hx)
  obtain ⟨p, rfl, hp⟩ := nbElem_inv hv
  rw [hrun]
  have h2 := hh x hx
  cases e : Mem.look f x with
  | none =>
    rw [e] at h2
    rw [h2] at hp
    rw [pairD_inj (congrArg Prod.fst hp)]
    rfl
  | some q =>
    rw [e] at h2
    rw [h2] at hp
    rw [pairD_inj (congrArg Prod.fst hp)]
    rfl
theorem run_nb_len (h : NearMap w b f) (hf : ∀ k, 48 ≤ k → f k = none) (ty : TypeId) : (Builtin.len_ #[111] ty #[.map (some b)]).run Tryz.prog w = .ok (.int .i64 ((Mem.nums f).length : Nat)) w := by
  obtain ⟨D, hown, hh⟩ := h
  rw [hown.len Tryz.underlying111 ty, size_is hown hf hh]
/-- 'm[k] = p'. -/
theorem run_nb_put (h : NearMap w b f) {k : Nat} (hk : k < 48) (hf : ∀ k, 48 ≤ k → f k = none) (p : Int × Int) :
    ∃ w', (Instr.mapUpdate 111 (.map (some b)) (.int .i64 (k : Int)) (nbV p)).run Tryz.prog w = .ok () w' ∧ NearMap w' b (Mem.put f k p) ∧ Only b w w' := by
  obtain ⟨D, hown, hh⟩ := h
  obtain ⟨w', h1, h2, h3⟩ := hown.store keyInt Tryz.underlying111 (by unfold maxLen; omega) (key_int (wf_nat (k := k) (by omega))) (nbElem_mk p)
  have hh' : ∀ x, (Lit.int .i64 x).wf = true → Holds (D.put (.int .i64 (k : Int)) (pairD p)) x (Mem.look (Mem.put f k p) x) := fun x hx => by
    by_cases e : x = (k : Int)
    · subst e
      rw [Mem.look_at]
      have : Mem.put f k p k = some p := if_pos rfl
      rw [this]
      exact fun z => atKey_put_same hown.isMap (by trivial) _ _
    · have e2 : Mem.look (Mem.put f k p) x = Mem.look f x := by
        unfold Mem.look Mem.put
        split
        · rw [if_neg (by omega)]
        · rfl
      rw [e2]
      have := hh x hx
      cases ho : Mem.look f x with
      | none => rw [ho] at this; exact fun z => (atKey_put_other (by intro g; injection g with _ g; exact e g) _ _).trans (this z)
      | some q => rw [ho] at this; exact fun z => (atKey_put_other (by intro g; injection g with _ g; exact e g) _ _).trans (this z)
  have hf' : ∀ j, 48 ≤ j → Mem.put f k p j = none := fun j hj => by unfold Mem.put; rw [if_neg (by omega)]; exact hf j hj
  exact ⟨w', h1, ⟨_, ownsMap_tight h2 (by rw [size_is h2 hf' hh']; exact Mem.nums_le _), hh'⟩, only_turned h3⟩
/-- 'delete(m, x)'. -/
theorem run_nb_drop (h : NearMap w b f) {x : Int} (hx : (Lit.int .i64 x).wf = true) (ty : TypeId) :
    ∃ w', (Builtin.delete_ #[111, 3] ty #[.map (some b), .int .i64 x]).run Tryz.prog w = .ok (.tuple #[]) w' ∧ NearMap w' b (Mem.dropI f x) ∧ Only b w w' := by
  obtain ⟨D, hown, hh⟩ := h
  obtain ⟨w', h1, h2, h3⟩ := hown.drop keyInt Tryz.underlying111 (key_int hx) ty
  refine ⟨w', h1, ⟨_, h2, fun y hy => ?_⟩, only_turned h3⟩
  by_cases e : y = x
  · subst e
    have : Mem.look (Mem.dropI f y) y = none := by
      unfold Mem.look Mem.dropI
      split
      · simp [Mem.drop]
      · rfl
    rw [this]
    exact fun z => atKey_del_same z
  · have e2 : Mem.look (Mem.dropI f x) y = Mem.look f y := by
      unfold Mem.look Mem.dropI Mem.drop
      split
      · split
        · show (if y.toNat = x.toNat then none else f y.toNat) = _
          rw [if_neg (by omega)]
        · rfl
      · rfl
    rw [e2]
    have := hh y hy
    cases ho : Mem.look f y with
    | none => rw [ho] at this; exact fun z => (atKey_del_other (by intro g; injection g with _ g; exact e g) _).trans (this z)
    | some q => rw [ho] at this; exact fun z => (atKey_del_other (by intro g; injection g with _ g; exact e g) _).trans (this z)
end
/-! At the operation. -/
section
variable {w : World} {ops : Array Oper} {rest : List Oper} {o : Oper} {a : Act} {Q : Exit → Act → World → Prop} {b : Nat} {f : NF}
theorem wpList_nb_ok (hg : o.guard = none) (m x : Operand) (hop : o.op = Op.lookup 111 m x true) (hm : a.eval m = .map (some b)) (h : NearMap w b f) {k : Int} (hx : a.eval x = .int .i64 k) (hk : (Lit.int .i64 k).wf = true) (v : Value) (hv : .tuple #[nbV ((Mem.look f k).getD (0, 0)), .bool (Mem.look f k).isSome] = v)
    (hK : wpList Tryz.prog ops Q rest (a.put o.dst v) w) : wpList Tryz.prog ops Q (o :: rest) a w := by
  subst hv
  refine wpList_plain hg fun K' hK' => ?_
  unfold Oper.wp
  simp [execOp, hop, hm, hx, run_nb_ok h hk, Result.andThen]
  exact hK' _ _ hK
theorem wpList_nb (hg : o.guard = none) (m x : Operand) (hop : o.op = Op.lookup 111 m x false) (hm : a.eval m = .map (some b)) (h : NearMap w b f) {k : Int} (hx : a.eval x = .int .i64 k) (hk : (Lit.int .i64 k).wf = true) (v : Value) (hv : nbV ((Mem.look f k).getD (0, 0)) = v)
    (hK : wpList Tryz.prog ops Q rest (a.put o.dst v) w) : wpList Tryz.prog ops Q (o :: rest) a w := by
  subst hv
  refine wpList_plain hg fun K' hK' => ?_
  unfold Oper.wp
  simp [execOp, hop, hm, hx, run_nb h hk, Result.andThen]
  exact hK' _ _ hK
theorem wpList_nb_drop (hg : o.guard = none) (m x : Operand) (hop : o.op = Op.call { callee := Callee.builtin Builtin.delete, args := #[m, x], argTypes := #[111, 3] }) (hm : a.eval m = .map (some b)) (h : NearMap w b f) {k : Int} (hx : a.eval x = .int .i64 k) (hk : (Lit.int .i64 k).wf = true)
    (hK : ∀ w', NearMap w' b (Mem.dropI f k) → Only b w w' → wpList Tryz.prog ops Q rest (a.put o.dst (.tuple #[])) w') : wpList Tryz.prog ops Q (o :: rest) a w := by
  refine wpList_plain hg fun K' hK' => ?_
  obtain ⟨w', hrun, r1, r2⟩ := run_nb_drop h hk o.type
  unfold Oper.wp
  simp [execOp, hop, resolve, invoke, builtin, hm, hx, hrun, Result.andThen]
  exact hK' _ _ (hK w' r1 r2)
end
end Go.Proofs.YtnhjdinmakkknaaGreatDoor
