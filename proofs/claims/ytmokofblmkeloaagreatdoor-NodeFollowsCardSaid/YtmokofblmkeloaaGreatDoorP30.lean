/- Several texts of mine in one: B16, M46, W46. -/
import Derived.Test.YtmokofblmkeloaaGreatDoorB15
import Derived.Test.YtmokofblmkeloaaGreatDoorB03
import Derived.Test.YtmokofblmkeloaaGreatDoorMA
import Derived.Test.YtmokofblmkeloaaGreatDoorB12
import Derived.Test.YtmokofblmkeloaaGreatDoorP24
import Derived.Deep.RegionLaw
import Derived.Deep.CutRange
/- Contracts of layer 21: a state that is stored whole; the document's Jumps, Stamped, Listen and Same; the law's long. -/
namespace Go.Proofs.YtmokofblmkeloaaGreatDoor
open Go.RowKit
set_option linter.unusedVariables false
set_option maxRecDepth 100000
attribute [local go_sem ↓] Go.wp_at_zero Go.wp_at_succ
/-- A state is stored over another. -/
theorem own_set11 {w : World} {g : Nat} {u : Sta} {B : Option Addr} {d : Nat} (h : Own w g (staCells u B d)) (s : Sta) (A : Option Addr) (cap : Nat) : Own (((((((((((w.setCell ⟨g, 0, none⟩ (.int .i64 s.lo)).setCell ⟨g, 1, none⟩ (.int .i64 s.hi)).setCell ⟨g, 2, none⟩ (.int .i64 s.time)).setCell ⟨g, 3, none⟩ (.bool s.set)).setCell ⟨g, 4, none⟩ (.int .i64 s.held)).setCell ⟨g, 5, none⟩ (.int .i64 s.hops)).setCell ⟨g, 6, none⟩ (.bool s.good)).setCell ⟨g, 7, none⟩ (.slice A s.table.length cap)).setCell ⟨g, 8, none⟩ (.int .i64 s.st)).setCell ⟨g, 9, none⟩ (.int .i64 s.sn)).setCell ⟨g, 10, none⟩ (.int .i64 s.life)) g (staCells s A cap) := by
  have e : ((((((((((((staCells u B d).set! 0 (.int .i64 s.lo)).set! 1 (.int .i64 s.hi)).set! 2 (.int .i64 s.time)).set! 3 (.bool s.set)).set! 4 (.int .i64 s.held)).set! 5 (.int .i64 s.hops)).set! 6 (.bool s.good)).set! 7 (.slice A s.table.length cap)).set! 8 (.int .i64 s.st)).set! 9 (.int .i64 s.sn)).set! 10 (.int .i64 s.life)) = staCells s A cap := by simp [staCells]
  rw [← e]
  exact (((((((((((h.set 0 (.int .i64 s.lo)).set 1 (.int .i64 s.hi)).set 2 (.int .i64 s.time)).set 3 (.bool s.set)).set 4 (.int .i64 s.held)).set 5 (.int .i64 s.hops)).set 6 (.bool s.good)).set 7 (.slice A s.table.length cap)).set 8 (.int .i64 s.st)).set 9 (.int .i64 s.sn)).set 10 (.int .i64 s.life))
theorem ok_set11 {w0 w : World} {g : Nat} (h : Ok w0 w) (hg : w0.heap.size ≤ g) (s : Sta) (A : Option Addr) (cap : Nat) : Ok w0 (((((((((((w.setCell ⟨g, 0, none⟩ (.int .i64 s.lo)).setCell ⟨g, 1, none⟩ (.int .i64 s.hi)).setCell ⟨g, 2, none⟩ (.int .i64 s.time)).setCell ⟨g, 3, none⟩ (.bool s.set)).setCell ⟨g, 4, none⟩ (.int .i64 s.held)).setCell ⟨g, 5, none⟩ (.int .i64 s.hops)).setCell ⟨g, 6, none⟩ (.bool s.good)).setCell ⟨g, 7, none⟩ (.slice A s.table.length cap)).setCell ⟨g, 8, none⟩ (.int .i64 s.st)).setCell ⟨g, 9, none⟩ (.int .i64 s.sn)).setCell ⟨g, 10, none⟩ (.int .i64 s.life)) :=
  (((((((((((h.setCell (p := ⟨g, 0, none⟩) hg (.int .i64 s.lo)).setCell (p := ⟨g, 1, none⟩) hg (.int .i64 s.hi)).setCell (p := ⟨g, 2, none⟩) hg (.int .i64 s.time)).setCell (p := ⟨g, 3, none⟩) hg (.bool s.set)).setCell (p := ⟨g, 4, none⟩) hg (.int .i64 s.held)).setCell (p := ⟨g, 5, none⟩) hg (.int .i64 s.hops)).setCell (p := ⟨g, 6, none⟩) hg (.bool s.good)).setCell (p := ⟨g, 7, none⟩) hg (.slice A s.table.length cap)).setCell (p := ⟨g, 8, none⟩) hg (.int .i64 s.st)).setCell (p := ⟨g, 9, none⟩) hg (.int .i64 s.sn)).setCell (p := ⟨g, 10, none⟩) hg (.int .i64 s.life))
/-- No state. -/
def zeroSta : Sta := ⟨0, 0, 0, false, 0, 0, false, [], 0, 0, 0⟩
theorem frozenSta {W : World} {g : Nat} {cs : Array Value} (h : Own W g cs) : W.frozen? ⟨g, 0, none⟩ = false ∧ W.frozen? ⟨g, 1, none⟩ = false ∧ W.frozen? ⟨g, 2, none⟩ = false ∧ W.frozen? ⟨g, 3, none⟩ = false ∧ W.frozen? ⟨g, 4, none⟩ = false ∧ W.frozen? ⟨g, 5, none⟩ = false ∧ W.frozen? ⟨g, 6, none⟩ = false ∧ W.frozen? ⟨g, 7, none⟩ = false ∧ W.frozen? ⟨g, 8, none⟩ = false ∧ W.frozen? ⟨g, 9, none⟩ = false ∧ W.frozen? ⟨g, 10, none⟩ = false := ⟨h.frozen 0, h.frozen 1, h.frozen 2, h.frozen 3, h.frozen 4, h.frozen 5, h.frozen 6, h.frozen 7, h.frozen 8, h.frozen 9, h.frozen 10⟩
end Go.Proofs.YtmokofblmkeloaaGreatDoor

/- Contracts of layer 21: the document's Same. -/
namespace Go.Proofs.YtmokofblmkeloaaGreatDoor
open Go.RowKit
set_option linter.unusedVariables false
set_option maxRecDepth 100000
theorem eqSpan21 (a b c d : Int) (w : World) : (Op.equalIn 10000 25 (.agg #[.int .i64 a, .int .i64 b]) (.agg #[.int .i64 c, .int .i64 d])).run Tryz.prog w = .ok (a == c && b == d) w := by
  have u3 := Tryz.underlying3
  have ag := Tryz.isAgg3
  have z3 := Tryz.sizeOf3
  have hS : Tryz.prog.underlying 25 = some (.struct (Tryz.prog.fieldsOf 25)) := by kernel_rfl
  have hp : Tryz.prog.stoodInHeld 25 = false := by kernel_rfl
  rw [show (10000 : Nat) = 9999 + 1 from rfl, run_equalIn_struct w 9999 25 _ _ hS hp]
  simp only [Program.fieldsOf, Tryz.underlying25]
  go_simp
  by_cases h1 : a = c <;> by_cases h2 : b = d <;> simp [h1, h2]
end Go.Proofs.YtmokofblmkeloaaGreatDoor
namespace Go.Proofs.YtmokofblmkeloaaGreatDoor
namespace Nod
section
variable {α : Type} (hd : α → Hd)
/-- Whether a message of one that a neighbour's table takes counts. -/
def counts (a : Int) (m : Msg) : Bool := decide (m.frm < 16 ∧ m.kind = 1 ∨ 16 ≤ m.frm ∧ m.kind = 2 ∧ 0 < a)
/-- Whether who sent it has been heard by one that counts. -/
def said (o : List α) (x : Int) : Bool := o.any fun k => decide ((hd k).m.frm = x)
/-- One message: what counts so far, and the neighbours. -/
def known1 (me : Int) (o : List α × NF) (h : α) : List α × NF :=
  if said hd o.1 (hd h).m.frm = true ∨ (hd h).m.frm = me then o
  else (if Mem.hearE o.2 (hd h).m.frm = 0 ∧ counts (Mem.age (Mem.look o.2 (hd h).m.frm)) (hd h).m = true then o.1 ++ [h] else o.1, Mem.hear o.2 (hd h).m.frm)
/-- What counts of all that was heard, and the neighbours then. -/
def known (me : Int) (f : NF) (l : List α) : List α × NF := l.foldl (known1 hd me) ([], f)
theorem known_snoc (me : Int) (f : NF) (l : List α) (h : α) : known hd me f (l ++ [h]) = known1 hd me (known hd me f l) h := by
  unfold known
  rw [List.foldl_append]
  rfl
theorem snoc_ind {P : List α → Prop} (h0 : P []) (hs : ∀ l b, P l → P (l ++ [b])) (l : List α) : P l := by
  have : ∀ n, ∀ l : List α, l.length = n → P l := by
    intro n
    induction n with
    | zero => intro l hl; rw [List.length_eq_zero_iff.1 hl]; exact h0
    | succ n ih =>
      intro l hl
      have hne : l ≠ [] := by intro e; subst e; cases hl
      rw [← List.dropLast_concat_getLast hne]
      exact hs _ _ (ih _ (by rw [List.length_dropLast, hl]; rfl))
  exact this _ l rfl
theorem known_sub (me : Int) (f : NF) (l : List α) : ((known hd me f l).1).Sublist l := by
  induction l using snoc_ind with
  | h0 => exact List.Sublist.slnil
  | hs l b ih =>
    rw [known_snoc]
    unfold known1
    split
    · exact ih.trans (List.sublist_append_left _ _)
    · simp only
      split
      · exact ih.append (List.Sublist.refl _)
      · exact ih.trans (List.sublist_append_left _ _)
theorem known_mem {me : Int} {f : NF} {l : List α} {x : α} (h : x ∈ (known hd me f l).1) : x ∈ l := (known_sub hd me f l).subset h
theorem known_len (me : Int) (f : NF) (l : List α) : (known hd me f l).1.length ≤ l.length := (known_sub hd me f l).length_le
theorem known_good (me : Int) {f : NF} (hf : Mem.Good f) (l : List α) : Mem.Good (known hd me f l).2 := by
  induction l using snoc_ind with
  | h0 => exact hf
  | hs l b ih =>
    rw [known_snoc]
    unfold known1
    split
    · exact ih
    · exact ih.hear _
theorem said_map (o : List α) (x : Int) : said id (o.map hd) x = said hd o x := by
  unfold said
  rw [List.any_map]
  rfl
theorem known_map (me : Int) (f : NF) (l : List α) : known id me f (l.map hd) = ((known hd me f l).1.map hd, (known hd me f l).2) := by
  induction l using snoc_ind with
  | h0 => rfl
  | hs l b ih =>
    rw [List.map_append, List.map_singleton, known_snoc, known_snoc, ih]
    unfold known1
    simp only [said_map, id]
    split
    · rfl
    · simp only
      congr 1
      split <;> simp
end
/-! The state that follows. -/
/-- What counts of the gateways. -/
def solid (h : Hd) : Bool := h.m.good && decide (h.m.lo ≤ h.m.hi)
def gates (p : Par) (l : List Hd) : List Hd := (Gate.told p (-1) l).filter solid
def way (p : Par) (h : Hd) : Int × Int := Carry.way p (h.m.lo, h.m.hi) h.age
def spans (p : Par) (l : List Hd) : List (Int × Int) := (gates p l).map (way p)
def helds (p : Par) (l : List Hd) : List Int := (gates p l).map (·.m.held)
def tables (p : Par) (l : List Hd) : List (List (Int × Int)) := (gates p l).map (·.m.table)
theorem spans_len (p : Par) (l : List Hd) : (spans p l).length = (gates p l).length := List.length_map _
/-- What the core leads to. -/
def core (p : Par) (s : Sta) (l : List Hd) : Sta :=
  { s with lo := (Gate.fused p.f (spans p l)).1, hi := (Gate.fused p.f (spans p l)).2, held := Anchor.held p.f (helds p l), hops := 0, good := true, table := Vote.out p.f s.table (tables p l) }
/-- The messages that may be followed, as they are at the beat's end. -/
def moved (p : Par) (h : Hd) : Msg := { h.m with lo := (way p h).1, hi := (way p h).2 }
def msgs (p : Par) (l : List Hd) : List Msg := (l.filter fun h => decide (h.m.lo ≤ h.m.hi)).map (moved p)
def noM : Msg := ⟨0, 0, 0, 0, 0, 0, false, false, 0, 0, 0, 0, 0, []⟩
def choice (p : Par) (l : List Hd) : Option Nat := Route.pick p.d (fun i => (msgs p l).getD i noM) (msgs p l).length
/-- What a neighbour leads to. -/
def follow (s : Sta) (m : Msg) : Sta := { s with lo := m.lo, hi := m.hi, held := Anchor.more m.held, hops := m.hops + 1, good := true, table := if Leap.good m.table = true then m.table else s.table }
/-- Where nobody leads. -/
def lost (p : Par) (s : Sta) (ticks : Int) : Sta := { s with lo := (Carry.hold p (s.lo, s.hi) ticks).1, hi := (Carry.hold p (s.lo, s.hi) ticks).2, held := Anchor.more s.held, hops := p.d + 1, good := false }
def next (p : Par) (s : Sta) (ticks : Int) (l : List Hd) : Sta :=
  if Gate.left p.f (spans p l) = true then core p s l
  else match choice p l with
    | some j => follow s ((msgs p l).getD j noM)
    | none => lost p s ticks
/-- A stamp that is heard. -/
def hears1 (p : Par) (s : Sta) (h : Hd) : Sta := if h.m.kind = 2 ∧ h.m.good = true then Health.listen p s (h.m.time, h.m.num) else s
def listens (p : Par) (s : Sta) (l : List Hd) : Sta := l.foldl (hears1 p) s
theorem listens_snoc (p : Par) (s : Sta) (l : List Hd) (h : Hd) : listens p s (l ++ [h]) = hears1 p (listens p s l) h := by
  unfold listens
  rw [List.foldl_append]
  rfl
/-- The state behind a beat, ahead of what is told. -/
def state (p : Par) (s : Sta) (ticks : Int) (l : List Hd) : Sta := listens p (Health.step p s ticks (next p s ticks l)) l
/-- What is told. -/
def say (p : Par) (me : Int) (s : Sta) : Msg := Gate.say p s 2 me false (0, 0)
theorem hears1_keeps (p : Par) (s : Sta) (h : Hd) : (hears1 p s h).lo = s.lo ∧ (hears1 p s h).hi = s.hi ∧ (hears1 p s h).time = s.time ∧ (hears1 p s h).set = s.set ∧ (hears1 p s h).held = s.held ∧ (hears1 p s h).hops = s.hops ∧ (hears1 p s h).good = s.good ∧ (hears1 p s h).table = s.table ∧ (hears1 p s h).life = s.life := by
  unfold hears1
  split <;> exact ⟨rfl, rfl, rfl, rfl, rfl, rfl, rfl, rfl, rfl⟩
theorem listens_keeps (p : Par) (s : Sta) (l : List Hd) : (listens p s l).lo = s.lo ∧ (listens p s l).hi = s.hi ∧ (listens p s l).time = s.time ∧ (listens p s l).set = s.set ∧ (listens p s l).held = s.held ∧ (listens p s l).hops = s.hops ∧ (listens p s l).good = s.good ∧ (listens p s l).table = s.table ∧ (listens p s l).life = s.life := by
  induction l using snoc_ind with
  | h0 => exact ⟨rfl, rfl, rfl, rfl, rfl, rfl, rfl, rfl, rfl⟩
  | hs l b ih =>
    rw [listens_snoc]
    obtain ⟨a1, a2, a3, a4, a5, a6, a7, a8, a9⟩ := hears1_keeps p (listens p s l) b
    obtain ⟨b1, b2, b3, b4, b5, b6, b7, b8, b9⟩ := ih
    exact ⟨a1.trans b1, a2.trans b2, a3.trans b3, a4.trans b4, a5.trans b5, a6.trans b6, a7.trans b7, a8.trans b8, a9.trans b9⟩
end Nod
end Go.Proofs.YtmokofblmkeloaaGreatDoor
namespace Go.Proofs.YtmokofblmkeloaaGreatDoor
open Go
section
variable {P : Program} {md : Region.Mode} {ops : Array Oper} {Q : Exit → Act → World → Prop} {V : Nat → Value → World → Prop} {R : World → World → Prop} {a0 : Act} {w0 : World}
/-- As StepsFrom; what none of the first m operations writes is as it was. -/
def StepsFromO (P : Program) (ops : Array Oper) (Q : Exit → Act → World → Prop) (V : Nat → Value → World → Prop) (R : World → World → Prop) (a : Act) (m : Nat) (w : World) : Nat → List Oper → Prop
  | _, [] => True
  | k, o :: l => (∀ (a' : Act) (w' : World), RF ops V a (fun j => ∃ e ∈ o.after, Region.binds .any e = true ∧ e.on = j) a' w' → OldM ops m a a' → R w w' → wpOp P ops Q k (fun a'' w'' => ∃ v, a'' = a'.put o.dst v ∧ V k v w'' ∧ R w' w'') a' w') ∧ StepsFromO P ops Q V R a m w (k + 1) l
theorem StepsFromO.at_ {a : Act} {m : Nat} {w : World} : ∀ (l : List Oper) (k i : Nat) (o : Oper), StepsFromO P ops Q V R a m w k l → l[i]? = some o →
    ∀ (a' : Act) (w' : World), RF ops V a (fun j => ∃ e ∈ o.after, Region.binds .any e = true ∧ e.on = j) a' w' → OldM ops m a a' → R w w' → wpOp P ops Q (k + i) (fun a'' w'' => ∃ v, a'' = a'.put o.dst v ∧ V (k + i) v w'' ∧ R w' w'') a' w'
  | [], _, _, _, _, hi => by simp at hi
  | o' :: l, k, 0, o, h, hi => by
    simp only [List.getElem?_cons_zero, Option.some.injEq] at hi
    subst hi
    exact h.1
  | o' :: l, k, i + 1, o, h, hi => by
    rw [List.getElem?_cons_succ] at hi
    have := StepsFromO.at_ l (k + 1) i o h.2 hi
    rw [show k + 1 + i = k + (i + 1) by omega] at this
    exact this
/-- A slot of none of the first m operations. -/
theorem OldM.slot {m : Nat} {a : Act} (h : OldM ops m a0 a) (k : Tmp) (hk : (dsts (ops.extract 0 m)).all (fun d => d != some k) = true) {v : Value} (hv : a0.tmps[k]? = some v) : a.tmps[k]? = some v := by
  rw [← hv]
  refine h k fun j o hj ho hd => ?_
  have he : (ops.extract 0 m)[j]? = some o := by
    rw [Array.getElem?_extract]
    simp only [Nat.zero_add]
    have := (Array.getElem?_eq_some_iff.1 ho).1
    rw [if_pos (by omega)]
    exact ho
  have hm : some k ∈ dsts (ops.extract 0 m) := by
    simp only [dsts, List.mem_map, Array.mem_toList_iff]
    exact ⟨o, Array.mem_of_getElem? he, hd⟩
  have := (List.all_eq_true.1 hk) _ hm
  simp at this
/-- A call among the last operations, by its contract. -/
theorem wpOp_enters {i : Nat} {o : Oper} {K : Act → World → Prop} {a : Act} {w : World} {f : FuncId} {args : Array Value} (ho : ops[i]? = some o) (hg : o.guard = none) (hr : (execOp a.eval o).run P w = .ok (.enter f args) w)
    (hc : Calls P f args w fun e w' => ∃ v, e = .returned v ∧ K (a.put o.dst v) w') : wpOp P ops Q i K a w := by
  refine wpOp_step ho fun K' h => ?_
  rw [if_pos (by simp [Region.wanted, hg])]
  unfold Oper.wp
  rw [hr, Oper.upon_enter]
  refine hc.mono fun e w' h2 => ?_
  obtain ⟨v, rfl, hv⟩ := h2
  exact h _ _ hv
theorem wpAny_facts_chainO {m : Nat} (hm : m ≤ ops.size) (N : Nat) (hw0 : ∀ j, j < m → waitsN md ops N m j = true) (hw : ∀ i, m < i → ∀ o, ops[i]? = some o → ∃ e ∈ o.after, Region.binds md e = true ∧ e.on + 1 = i) (hB : regionB md ops a0.tmps.size = true) (hV : ∀ i v w w', V i v w → R w w' → V i v w') (hT : ∀ a b c, R a b → R b c → R a c)
    (step : ∀ (i : Nat) (o : Oper) (a : Act) (w : World), i < m → ops[i]? = some o → RF ops V a0 (fun j => ∃ e ∈ o.after, Region.binds md e = true ∧ e.on = j) a w → OldM ops m a0 a → R w0 w → wpOp P ops Q i (fun a' w' => ∃ v, a' = a.put o.dst v ∧ V i v w' ∧ R w w') a w)
    (tail : ∀ a w, RF ops V a0 (fun j => j < m) a w → OldM ops m a0 a → R w0 w → TailFrom P ops Q m (ops.toList.drop m) a w) :
    ∀ (fuel : Nat) (listed : Array Bool) (a : Act) (w : World), listed.size = ops.size → (List.range ops.size).countP (fun j => !listed.getD j false) ≤ fuel → (∀ j, m ≤ j → listed.getD j false = false) →
      (∀ k o, ops[k]? = some o → listed.getD k false = true → ∀ e ∈ o.after, Region.binds md e = true → listed.getD e.on false = true) →
      RF ops V a0 (fun j => listed.getD j false = true) a w → OldM ops m a0 a → R w0 w → wpAny P md ops Q fuel listed a w := by
  intro fuel
  have full : ∀ (fuel : Nat) (listed : Array Bool) (a : Act) (w : World), listed.size = ops.size → (List.range ops.size).countP (fun j => !listed.getD j false) ≤ fuel → (∀ j, m ≤ j → listed.getD j false = false) →
      RF ops V a0 (fun j => listed.getD j false = true) a w → OldM ops m a0 a → R w0 w → (∀ j, j < m → listed.getD j false = true) → wpAny P md ops Q fuel listed a w := by
    intro fuel listed a w hs hc hun hF hO hR hall
    refine wpAny_chain hB _ m rfl hw fuel listed a w hs (fun j hj _ => hall j hj) hun ?_ (tail a w (hF.mono fun j hj => hall j hj) hO hR)
    have h1 : (ops.toList.drop m).length = ops.size - m := by simp
    have h2 : ops.size - m ≤ (List.range ops.size).countP (fun j => !listed.getD j false) := by
      have e : List.range ops.size = List.range m ++ (List.range (ops.size - m)).map (m + ·) := by
        rw [← List.range_add]; congr 1; omega
      rw [e, List.countP_append]
      have : ((List.range (ops.size - m)).map (m + ·)).countP (fun j => !listed.getD j false) = ops.size - m := by
        have hh : ∀ x ∈ (List.range (ops.size - m)).map (m + ·), (fun j => !listed.getD j false) x = true := by
          intro x hx
          obtain ⟨y, _, rfl⟩ := List.mem_map.1 hx
          simp only [hun (m + y) (by omega), Bool.not_false]
        rw [List.countP_eq_length.2 hh]
        simp
      omega
    omega
  induction fuel with
  | zero =>
    intro listed a w hs hc hun hcl0 hF hO hR
    refine full 0 listed a w hs hc hun hF hO hR fun j hj => ?_
    have hz : (List.range ops.size).countP (fun j => !listed.getD j false) = 0 := by omega
    have := List.countP_eq_zero.1 hz j (List.mem_range.2 (by omega))
    simpa using this
  | succ fuel ih =>
    intro listed a w hs hc hun hcl0 hF hO hR
    by_cases hall : ∀ j, j < m → listed.getD j false = true
    · exact full (fuel + 1) listed a w hs hc hun hF hO hR hall
    refine ⟨fun hr => ?_, fun i hi => ?_⟩
    · exact absurd (fun j hj => ready_some hB hs hr j (by omega)) hall
    obtain ⟨h0, o, ho, hrd⟩ := mem_ready.1 hi
    have hlt : i < ops.size := (Array.getElem?_eq_some_iff.1 ho).1
    have hls : i < listed.size := by omega
    have huni : listed.getD i false = false := by simp [Array.getD, hls] at h0 ⊢; exact h0
    have hcl := count_less (listed := listed) (i := i) (n := ops.size) hls huni hlt
    have him : i < m := by
      rcases Nat.lt_or_ge i m with g | g
      · exact g
      · exfalso
        rcases Nat.eq_or_lt_of_le g with g | g
        · subst g
          refine hall fun j hj => ?_
          exact waitsN_listed hcl0 N m j o ho hrd (hw0 j hj)
        · obtain ⟨e, he, hb, hon⟩ := hw i g o ho
          have := hrd e he hb
          rw [hun e.on (by omega)] at this
          cases this
    have hst := step i o a w him ho (hF.mono (by rintro j ⟨e, he, hb, rfl⟩; exact hrd e he hb)) hO hR
    refine wpOp_mono (fun a' w' h' => ?_) hst
    obtain ⟨v, rfl, hv, hR'⟩ := h'
    refine ih (listed.setIfInBounds i true) _ w' (by simpa using hs) (by omega) (fun j hj => ?_) (fun k ok hok hk e he hb => ?_) ((hF.step hB hV ho hv hR').mono ?_) (fun k hk => by rw [put_other (hk i o him ho)]; exact hO k hk) (hT _ _ _ hR hR')
    · have e : j ≠ i := by omega
      simpa [Array.getD_eq_getD_getElem?, Array.getElem?_setIfInBounds, Ne.symm e] using hun j hj
    · have hset : ∀ j, (listed.setIfInBounds i true).getD j false = true ↔ listed.getD j false = true ∨ j = i := fun j => by
        by_cases e : j = i
        · subst e
          simp [Array.getD_eq_getD_getElem?, hls]
        · simp [Array.getD_eq_getD_getElem?, Ne.symm e, e]
      refine (hset _).2 (.inl ?_)
      rcases (hset k).1 hk with g | rfl
      · exact hcl0 k ok hok g e he hb
      · rw [ho] at hok
        cases hok
        exact hrd e he hb
    · intro j hj
      by_cases e : j = i
      · exact .inr e
      · left
        simpa [Array.getD_eq_getD_getElem?, Array.getElem?_setIfInBounds, Ne.symm e] using hj
/-- **A region that draws its order, by facts; its last operations, of which the first waits for all ahead of it, and each of the others for the one ahead of it, are run one behind the other on the whole frame. An operation may read a slot that one of the last ones writes.** -/
theorem wp_region_facts_chainO {id : Nat} {a : Act} {w : World} (hm : P.follows .mixedOrders = true) (N n : Nat) (hn : a.tmps.size = n) (V : Nat → Value → World → Prop) (R : World → World → Prop) (ini : Array Oper) (m : Nat) (hini : ops.extract 0 m = ini) (hmi : ini.size = m) (hsz : m ≤ ops.size)
    (hre0 : ((List.range m).all fun j => waitsN .any ops N m j) = true) (hre : ((List.range ops.size).all fun i => decide (i ≤ m) || (ops[i]?.map fun o => o.after.any fun e => Region.binds .any e && e.on + 1 == i).getD true) = true) (hB : regionB .any ops n = true) (hBi : regionB .any ini n = true)
    (hV : ∀ i v w w', V i v w → R w w' → V i v w') (hT : ∀ a b c, R a b → R b c → R a c) (h0 : R w.drew w.drew) (ds : List (Option Tmp)) (hds : dsts ini = ds) (tl : List Oper) (htl : ops.toList.drop m = tl)
    (steps : StepsFromO P ops Q V R a m w.drew 0 ini.toList)
    (last : ∀ (vs : Nat → Value) (w' : World), (∀ i, i < m → V i (vs i) w') → R w.drew w' → TailFrom P ops Q m tl (putFrom vs 0 ds a) w') : (Code.region id ops true).wp P Q a w := by
  subst hn hds htl
  refine wp_region_any hm ?_
  have hex : ∀ i o, i < m → ops[i]? = some o → ini[i]? = some o := fun i o hi ho => by
    rw [← hini, Array.getElem?_extract]
    simp only [Nat.zero_add]
    rw [if_pos (by omega)]
    exact ho
  have hex' : ∀ i o, ini[i]? = some o → ops[i]? = some o ∧ i < m := fun i o ho => by
    have hi : i < ini.size := (Array.getElem?_eq_some_iff.1 ho).1
    rw [hmi] at hi
    rw [← hini, Array.getElem?_extract] at ho
    simp only [Nat.zero_add] at ho
    rw [if_pos (by omega)] at ho
    exact ⟨ho, hi⟩
  have hw : ∀ i, m < i → ∀ o, ops[i]? = some o → ∃ e ∈ o.after, Region.binds .any e = true ∧ e.on + 1 = i := fun i hi o ho => by
    have hil : i < ops.size := (Array.getElem?_eq_some_iff.1 ho).1
    have h1 := List.all_eq_true.1 hre i (List.mem_range.2 hil)
    rw [ho] at h1
    simp only [Option.map_some, Option.getD_some, Bool.or_eq_true, decide_eq_true_eq] at h1
    rcases h1 with h1 | h1
    · omega
    · obtain ⟨e, he, hb⟩ := Array.any_eq_true'.1 h1
      simp only [Bool.and_eq_true, beq_iff_eq] at hb
      exact ⟨e, he, hb.1, hb.2⟩
  refine wpAny_facts_chainO (a0 := a) (w0 := w.drew) (m := m) hsz N (fun j hj => List.all_eq_true.1 hre0 j (List.mem_range.2 hj)) hw hB hV hT (fun i o a' w' hi ho hF hO hR => ?_) (fun a' w' hF hO hR => ?_) _ _ _ _ (by simp) ?_ (fun j _ => ?_) (fun k o _ hk => ?_) ⟨fun j o hj _ => ?_, fun _ _ => rfl, rfl, rfl⟩ (fun _ _ => rfl) h0
  · have := StepsFromO.at_ ini.toList 0 i o steps (by rw [Array.getElem?_toList]; exact hex i o hi ho) a' w' hF hO hR
    rw [Nat.zero_add] at this
    exact this
  · have hF' : RF ini V a (fun j => j < ini.size) a' w' := by
      refine ⟨fun j o hj hoj => hF.at_ j o (by omega) (hex' j o hoj).1, fun k hk => hO k fun j o hj hoj => hk j o (hex j o hj hoj), hF.size, hF.defers⟩
    obtain ⟨vs, hvs, rfl⟩ := hF'.frame hBi
    exact last vs w' (fun i hi => hvs i (by omega)) hR
  · have := List.countP_le_length (p := fun j => !(Array.replicate ops.size false).getD j false) (l := List.range ops.size)
    simpa using this
  · rw [Array.getD_eq_getD_getElem?, Array.getElem?_replicate]
    split <;> rfl
  · rw [Array.getD_eq_getD_getElem?, Array.getElem?_replicate] at hk
    split at hk <;> cases hk
  · rw [Array.getD_eq_getD_getElem?, Array.getElem?_replicate] at hj
    split at hj <;> cases hj
end
end Go.Proofs.YtmokofblmkeloaaGreatDoor
