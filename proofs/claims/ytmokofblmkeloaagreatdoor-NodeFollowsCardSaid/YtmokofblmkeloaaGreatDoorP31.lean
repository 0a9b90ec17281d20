/- Several texts of mine in one: B17, B11, B26, W47. -/
import Derived.Test.YtmokofblmkeloaaGreatDoorP30
import Derived.Test.YtmokofblmkeloaaGreatDoorB04
import Derived.Test.YtmokofblmkeloaaGreatDoorW16
import Derived.Test.YtmokofblmkeloaaGreatDoorB06
import Derived.Test.YtmokofblmkeloaaGreatDoorB03
import Derived.Test.YtmokofblmkeloaaGreatDoorMA
import Derived.Test.YtmokofblmkeloaaGreatDoorB09
import Derived.Test.YtmokofblmkeloaaGreatDoorC01a
import Derived.Test.YtmokofblmkeloaaGreatDoorB01
import Derived.Deep.CutRange
import Derived.Deep.RegionLaw
import Derived.Deep.QuietTactic
import Derived.BigQuiet
/- Contracts of layer 21: the document's Sane. -/
namespace Go.Proofs.YtmokofblmkeloaaGreatDoor
open Go.RowKit
set_option linter.unusedVariables false
set_option maxRecDepth 100000
attribute [local go_sem ↓] Go.wp_at_zero Go.wp_at_succ
/-- A block that holds leaps. -/
def LeapBlk (w : World) (b : Nat) : Prop := ∃ cs, w.heap[b]? = some (.cells cs 81 (0, 0))
theorem LeapBlk.next {w w' : World} {b : Nat} (h : LeapBlk w b) (j : Ok w w') : LeapBlk w' b := by
  obtain ⟨cs, e⟩ := h
  exact ⟨cs, (j.block b (Array.getElem?_eq_some_iff.1 e).1).trans e⟩
theorem LeapBlk.other {w : World} {b : Nat} (h : LeapBlk w b) {p : Addr} (hp : b ≠ p.block) (v : Value) : LeapBlk (w.setCell p v) b := by
  obtain ⟨cs, e⟩ := h
  exact ⟨cs, (Below.heap_setCell w p v b hp).trans e⟩
/-- A slice that reads as pairs and lies behind the first K blocks, in a block of leaps (if it lies anywhere). -/
def PairsOf (K : Nat) (w : World) (A : Option Addr) (l : List (Int × Int)) : Prop := PairsAt w A l ∧ (∀ a, A = some a → K ≤ a.block) ∧ ∀ a, A = some a → LeapBlk w a.block
namespace PairsOf
theorem empty (K : Nat) (w : World) : PairsOf K w none [] := ⟨PairsAt.empty _ _, fun _ h => (by cases h), fun _ h => (by cases h)⟩
theorem next {K : Nat} {w w' : World} {A : Option Addr} {l : List (Int × Int)} (h : PairsOf K w A l) (j : Ok w w') : PairsOf K w' A l := ⟨h.1.below j, h.2.1, fun a ha => (h.2.2 a ha).next j⟩
/-- It stays behind a store into another block. -/
theorem other {K : Nat} {w : World} {A : Option Addr} {l : List (Int × Int)} (h : PairsOf K w A l) {p : Addr} (hp : ∀ a, A = some a → a.block ≠ p.block) (v : Value) : PairsOf K (w.setCell p v) A l := ⟨fun k hk => by
  obtain ⟨b, off, e, hlt, hc, hd⟩ := h.1 k hk
  have hx := Below.heap_setCell w p v b (hp _ e)
  refine ⟨b, off, e, by simpa using hlt, ?_, ?_⟩
  · rw [← hc]; simp only [World.cell?, hx]
  · rw [← hd]; simp only [World.cell?, hx], h.2.1, fun a ha => (h.2.2 a ha).other (hp a ha) v⟩
theorem set {K : Nat} {w : World} {A : Option Addr} {l : List (Int × Int)} (h : PairsOf K w A l) {p : Addr} (hp : p.block < K) (v : Value) : PairsOf K (w.setCell p v) A l := h.other (fun a ha => Nat.ne_of_gt (Nat.lt_of_lt_of_le hp (h.2.1 a ha))) v
theorem of_own {K : Nat} {w : World} {B : Nat} {v : Value} {l : List (Int × Int)} (h : w.ownsRow B 81 2 v l.length (cellsOfPairs l)) (hK : K ≤ B) : ∃ A cap, v = .slice A l.length cap ∧ PairsOf K w A l := by
  obtain ⟨A, cap, rfl, hA⟩ := PairsAt.of_own h
  refine ⟨A, cap, rfl, hA, fun a ha => by subst ha; exact Nat.le_trans hK (h.lt a.block rfl).1, fun a ha => ?_⟩
  rcases h.2 with ⟨e, _⟩ | ⟨g, c2, cur, e, hb, hh, _⟩
  · injection e with e1 _ _; rw [e1] at ha; cases ha
  · injection e with e1 _ _; rw [e1] at ha; cases ha; exact ⟨cur, hh⟩
theorem mono {K L : Nat} {w : World} {A : Option Addr} {l : List (Int × Int)} (h : PairsOf K w A l) (j : L ≤ K) : PairsOf L w A l := ⟨h.1, fun a ha => Nat.le_trans j (h.2.1 a ha), h.2.2⟩
end PairsOf
/-- It answers this state; its table can be read, in a block behind those of w. -/
def StaEnd (w : World) (t : Sta) (e : Ending) (w' : World) : Prop := ∃ (A : Option Addr) (cap : Nat), e = .returned (staV t A cap) ∧ PairsOf w.heap.size w' A t.table ∧ Ok w w'
end Go.Proofs.YtmokofblmkeloaaGreatDoor
/- Contracts of layer 11: the document's calls. -/
namespace Go.Proofs.YtmokofblmkeloaaGreatDoor
open Go.RowKit
set_option linter.unusedVariables false
set_option maxRecDepth 100000
attribute [local go_sem ↓] Go.wp_at_zero Go.wp_at_succ
end Go.Proofs.YtmokofblmkeloaaGreatDoor

/- Contracts of layer 12: the program's Step and Off. -/
namespace Go.Proofs.YtmokofblmkeloaaGreatDoor
open Go.RowKit
set_option maxRecDepth 100000
attribute [local go_sem ↓] Go.wp_at_zero Go.wp_at_succ
/-- A clock, as a value. -/
abbrev clockV (t : Int) (s : Bool) : Value := .agg #[.int .i64 t, .bool s]
theorem slewJump (p : Par) (t : Int) (s : Bool) (ticks dst : Int) (w : World) : Calls Tryz.prog 116 #[clockV t s, parV p, .int .i64 ticks, .int .i64 dst, .bool true] w fun e w' => e = .returned (clockV (Sat.clip dst) true) ∧ Ok w w' := by
  have hok := Ok.refl w
  go_enter Tryz.func116, Tryz.ntmps116
  go_wp2_with (go_at_call 54; refine (satClip _ _).mono ?_; rintro e w' ⟨rfl, rfl⟩)
  exact bodyPost_ret (v := clockV (Sat.clip dst) true) (by simp [results, Tryz.results116, go_sem]) rfl ⟨rfl, ((hok.alloc _).alloc _).alloc _⟩
theorem slewUnset (p : Par) (t : Int) (ticks dst : Int) (j : Bool) (w : World) : Calls Tryz.prog 116 #[clockV t false, parV p, .int .i64 ticks, .int .i64 dst, .bool j] w fun e w' => e = .returned (clockV (Sat.clip dst) true) ∧ Ok w w' := by
  cases j
  · have hok := Ok.refl w
    go_enter Tryz.func116, Tryz.ntmps116
    go_wp2_with (go_at_call 54; refine (satClip _ _).mono ?_; rintro e w' ⟨rfl, rfl⟩)
    exact bodyPost_ret (v := clockV (Sat.clip dst) true) (by simp [results, Tryz.results116, go_sem]) rfl ⟨rfl, ((hok.alloc _).alloc _).alloc _⟩
  · exact slewJump p t false ticks dst w
theorem slewStep (p : Par) (t ticks dst : Int) (w : World) : Calls Tryz.prog 116 #[clockV t true, parV p, .int .i64 ticks, .int .i64 dst, .bool false] w fun e w' => e = .returned (clockV (Slew.step p t ticks dst) true) ∧ Ok w w' := by
  have hok := Ok.refl w
  show Calls _ _ _ _ fun e w' => e = .returned (clockV (Sat.sum [Sat.sum [t, ticks], Sat.bound (Sat.sub dst (Sat.sum [t, ticks])) (Sat.neg p.mu) p.mu]) true) ∧ Ok w w'
  go_enter Tryz.func116, Tryz.ntmps116
  go_wp2_with (go_at_call 49; refine (satAdd2 _ _ _ _ _ (by simp)).mono ?_; rintro e w' ⟨rfl, rfl⟩)
  go_quiet (first | (go_at_call 148; exact Calls.quiet_of_same ((satSub _ _ _).mono fun _ _ h => ⟨h.1, h.2.symm⟩)) | (go_at_call 143; exact Calls.quiet_of_same ((satNeg _ _).mono fun _ _ h => ⟨h.1, h.2.symm⟩)) | (go_at_call 55; exact Calls.quiet_of_same ((satBound _ _ _ _).mono fun _ _ h => ⟨h.1, h.2.symm⟩)))
  go_wp2_with (go_at_call 49; refine (satAdd2 _ _ _ _ _ (by simp)).mono ?_; rintro e w' ⟨rfl, rfl⟩)
  refine bodyPost_ret (v := clockV (Sat.sum [Sat.sum [t, ticks], Sat.bound (Sat.sub dst (Sat.sum [t, ticks])) (Sat.neg p.mu) p.mu]) true) (by simp [results, Tryz.results116, go_sem]) rfl ⟨rfl, ?_⟩
  exact Ok.alloc (Ok.setCell (Ok.setCell (Ok.drewN (Ok.alloc (Ok.alloc (Ok.alloc (Ok.alloc hok _) _) _) _) _) (show w.heap.size ≤ w.heap.size + 1 + 1 by omega) _) (show w.heap.size ≤ w.heap.size + 1 + 1 by omega) _) _
theorem slewOff (t : Int) (s : Bool) (x : Int) (w : World) : Calls Tryz.prog 114 #[clockV t s, .int .i64 x] w fun e w' => e = .returned (.int .i64 (Sat.abs (Sat.sub t x))) ∧ Ok w w' := by
  have hok := Ok.refl w
  go_enter Tryz.func114, Tryz.ntmps114
  go_wp2_with (first | (go_at_call 148; refine (satSub _ _ _).mono ?_; rintro e w' ⟨rfl, rfl⟩) | (go_at_call 105; refine (satAbs _ _).mono ?_; rintro e w' ⟨rfl, rfl⟩))
  go_ret
  exact ⟨rfl, hok.alloc _⟩
end Go.Proofs.YtmokofblmkeloaaGreatDoor

/- Contracts of layer 12: the document's Step. -/
namespace Go.Proofs.YtmokofblmkeloaaGreatDoor
open Go.RowKit
set_option maxRecDepth 100000
attribute [local go_sem ↓] Go.wp_at_zero Go.wp_at_succ
end Go.Proofs.YtmokofblmkeloaaGreatDoor
/- Words of my own: what was heard (slices of api.Heard), and what befalls in a beat (api.Input, by value and in slices), as they came in. -/
namespace Go.Proofs.YtmokofblmkeloaaGreatDoor
open Go.RowKit Go.WideShapes Go.ChangeShapes Go.Joins Go.Deep
set_option maxRecDepth 100000
section
variable {H : Type} {enc : TypeId × Value → H} {P : Program} {w : World}
/-- A slice of things of K cells each, read one by one. -/
theorem trod_list {X : Type} (eL : X → List Value) (K : Nat) (hK : 0 < K) (hlen : ∀ x, (eL x).length = K) (fit : X → Prop) {t e : TypeId} {fuel : Nat} {cs : List Value} {x : DataW H × List MemPlace} (ht : P.underlying t = some (.slice e)) (hC : P.cellsOf e = K)
    (one : ∀ (fuel : Nat) (l : List Value) (x : DataW H × List MemPlace), l.length = K → DataW.trod enc P w 0 (fun _ => true) true fuel e l = some x → ∃ y : X, l = eL y ∧ fit y) (hf : DataW.trod enc P w 0 (fun _ => true) true fuel t cs = some x) :
    ∃ (A : Option Addr) (l : List X) (cap : Nat), cs = [.slice A l.length cap] ∧ CellsAt w A (l.flatMap eL) ∧ l.length ≤ cap ∧ cap ≤ maxLen ∧ ∀ x ∈ l, fit x := by
  rcases open_slice ht hf with h2 | ⟨a, len, cap, m, n, D, Pl, hcs, hb, hl, hm, hmm, hx, hi⟩
  · exact ⟨none, [], 0, h2.1, CellsAt.empty _ _, by simp, by unfold maxLen; simp, by simp⟩
  · subst hcs
    simp only [if_true] at hmm
    subst hmm
    have key : ∀ i : Fin len, ∃ y : X, (∀ j u, (eL y)[j]? = some u → w.cell? (a.add (i * K + j)) = some u) ∧ fit y := by
      intro i
      obtain ⟨cs', hc, ht'⟩ := hi i (by omega)
      rw [hC] at hc
      obtain ⟨_, hcl, hat⟩ := World.cells?_some hc
      obtain ⟨y, e1, h1⟩ := one _ _ _ hcl ht'
      refine ⟨y, fun j u hj => ?_, h1⟩
      have hjl : j < K := by rw [← hlen y]; exact (List.getElem?_eq_some_iff.1 hj).1
      rw [← Go.Deep.add_add, hat j hjl, e1]
      exact hj
    obtain ⟨F, hF⟩ := Classical.axiomOfChoice key
    have hll : (List.ofFn F).length = len := by simp
    refine ⟨some a, List.ofFn F, _, by rw [hll], fun j u hj => ?_, by rw [hll]; exact hl, hm, fun x hx => ?_⟩
    · obtain ⟨k, hk, e1, e2⟩ := flatMap_inv eL K hlen hK _ j u hj
      rw [hll] at hk
      have h := (hF ⟨k, hk⟩).1 (j % K) u (by simpa using e2)
      obtain ⟨b, off, spot⟩ := a
      have hspot : spot = none := by
        have hp0 : 0 < len := by omega
        obtain ⟨u0, hu0⟩ : ∃ u0, (eL (F ⟨0, hp0⟩))[0]? = some u0 := ⟨_, List.getElem?_eq_getElem (by rw [hlen]; exact hK)⟩
        have h0 := (hF ⟨0, hp0⟩).1 0 u0 hu0
        simpa [Addr.add] using World.cell?_spot h0
      subst hspot
      simp only [Go.WideShapes.add_plain, e1, Nat.div_add_mod'] at h
      exact ⟨b, off, rfl, cell_lt h, h⟩
    · obtain ⟨i, rfl⟩ := List.mem_ofFn.1 hx
      exact (hF i).2
end
/-- What was heard, and where its message's table lies. -/
structure HA where
  m : Msg
  A : Option Addr
  cap : Nat
  age : Int
def HA.hd (x : HA) : Hd := ⟨x.m, x.age⟩
def haL (x : HA) : List Value := (msgCells x.m x.A x.cap).toList ++ [.int .i64 x.age]
theorem haL_len (x : HA) : (haL x).length = 15 := rfl
/-- What is so of all that came in. -/
structure HWf (x : HA) : Prop where
  len : x.m.table.length ≤ x.cap
  cap : x.cap ≤ maxLen
  msg : MsgWf x.m
  age : (Lit.int .i64 x.age).wf = true
/-- The slice at B reads as this. -/
structure HeardsAt (w : World) (B : Option Addr) (l : List HA) : Prop where
  cells : CellsAt w B (l.flatMap haL)
  tabs : ∀ x ∈ l, PairsAt w x.A x.m.table
namespace HeardsAt
variable {w w' : World} {B : Option Addr} {l : List HA}
theorem below (h : HeardsAt w B l) (k : Ok w w') : HeardsAt w' B l := ⟨h.cells.below k, fun x hx => (h.tabs x hx).below k⟩
theorem empty (w : World) (B : Option Addr) : HeardsAt w B [] := ⟨CellsAt.empty _ _, by simp⟩
end HeardsAt
theorem trod_heard {H : Type} {enc : TypeId × Value → H} {w : World} (fuel : Nat) (l : List Value) (x : DataW H × List MemPlace) (hcl : l.length = 15) (hf : DataW.trod enc Tryz.prog w 0 (fun _ => true) true fuel 65 l = some x) :
    ∃ y : HA, l = haL y ∧ PairsAt w y.A y.m.table ∧ HWf y := by
  obtain ⟨ys, n', hn', hy, hlen, hyl, hfl⟩ := DataW.trod_struct Tryz.underlying65 hf
  have hys : ys.length = 2 := hyl
  have cI : Tryz.prog.cellsOf 3 = 1 := by kernel_rfl
  have cM : Tryz.prog.cellsOf 51 = 14 := by kernel_rfl
  have g0 : DataW.trod enc Tryz.prog w 0 (fun _ => true) true n' 51 ((l.drop 0).take (Tryz.prog.cellsOf 51)) = ys[0]? := hfl 0 _ rfl
  rw [cM, List.drop_zero, List.getElem?_eq_getElem (by omega)] at g0
  have g1 : DataW.trod enc Tryz.prog w 0 (fun _ => true) true n' 3 ((l.drop 14).take (Tryz.prog.cellsOf 3)) = ys[1]? := hfl 1 _ rfl
  rw [cI, List.getElem?_eq_getElem (by omega)] at g1
  obtain ⟨m, A, c, e, h1, h2, h3, h4, _⟩ := trod_msg (by rw [List.length_take]; omega) g0
  obtain ⟨z, e1, _, w1⟩ := DataW.trod_int Tryz.underlying3 g1
  rw [List.take_of_length_le (by rw [List.length_drop]; omega)] at e1
  refine ⟨⟨m, A, c, z⟩, ?_, h1, h2, h3, h4, w1⟩
  rw [← List.take_append_drop 14 l, e, e1]
  rfl
/-- A slice of what was heard. -/
theorem open_heards {H : Type} {enc : TypeId × Value → H} {w : World} {base : Nat} {v : Value} {d : DataW H} {ps : List MemPlace} (hv : Value.okWide Tryz.prog w .any base 47 v) (h : DataW.Trod enc Tryz.prog w 0 (fun _ => true) true 47 v d ps) :
    ∃ (B : Option Addr) (l : List HA) (cap : Nat), v = .slice B l.length cap ∧ HeardsAt w B l ∧ l.length ≤ cap ∧ cap ≤ maxLen ∧ ∀ x ∈ l, HWf x := by
  obtain ⟨a0, len, cap, rfl⟩ := okWide_slice Tryz.underlying47 hv
  obtain ⟨fuel, hf⟩ := h
  obtain ⟨B, l, c, e, h1, h2, h3, h4⟩ := trod_list haL 15 (by decide) haL_len (fun y => PairsAt w y.A y.m.table ∧ HWf y) Tryz.underlying47 (by kernel_rfl) trod_heard hf
  simp [Value.cells] at e
  obtain ⟨rfl, rfl, rfl⟩ := e
  exact ⟨_, l, _, rfl, ⟨h1, fun x hx => (h4 x hx).1⟩, h2, h3, fun x hx => (h4 x hx).2⟩
/-- What befalls in a beat, and where it lies. -/
structure In where
  ticks : Int
  B : Option Addr
  heard : List HA
  hcap : Nat
  ref : Bool
  reading : Int
  given : Bool
  T : Option Addr
  table : List (Int × Int)
  tcap : Nat
def In.hds (x : In) : List Hd := x.heard.map HA.hd
def inL (x : In) : List Value := [.int .i64 x.ticks, .slice x.B x.heard.length x.hcap, .bool x.ref, .int .i64 x.reading, .bool x.given, .slice x.T x.table.length x.tcap]
theorem inL_len (x : In) : (inL x).length = 6 := rfl
/-- An input, as a value. -/
def inV (x : In) : Value := .agg #[.int .i64 x.ticks, .slice x.B x.heard.length x.hcap, .bool x.ref, .int .i64 x.reading, .bool x.given, .slice x.T x.table.length x.tcap]
def inCells (x : In) : Array Value := #[.int .i64 x.ticks, .slice x.B x.heard.length x.hcap, .bool x.ref, .int .i64 x.reading, .bool x.given, .slice x.T x.table.length x.tcap]
structure InWf (x : In) : Prop where
  ticks : (Lit.int .i64 x.ticks).wf = true
  reading : (Lit.int .i64 x.reading).wf = true
  hlen : x.heard.length ≤ x.hcap
  hcap : x.hcap ≤ maxLen
  heard : ∀ y ∈ x.heard, HWf y
  tlen : x.table.length ≤ x.tcap
  tcap : x.tcap ≤ maxLen
  table : ∀ e ∈ x.table, (Lit.int .i64 e.1).wf = true ∧ (Lit.int .i64 e.2).wf = true
/-- What it points to lies so. -/
structure InAt (w : World) (x : In) : Prop where
  heard : HeardsAt w x.B x.heard
  table : PairsAt w x.T x.table
theorem InAt.below {w w' : World} {x : In} (h : InAt w x) (k : Ok w w') : InAt w' x := ⟨h.heard.below k, h.table.below k⟩
/-- The slice at B reads as these inputs. -/
structure InsAt (w : World) (B : Option Addr) (l : List In) : Prop where
  cells : CellsAt w B (l.flatMap inL)
  parts : ∀ x ∈ l, InAt w x
theorem InsAt.below {w w' : World} {B : Option Addr} {l : List In} (h : InsAt w B l) (k : Ok w w') : InsAt w' B l := ⟨h.cells.below k, fun x hx => (h.parts x hx).below k⟩
end Go.Proofs.YtmokofblmkeloaaGreatDoor
namespace Go.Proofs.YtmokofblmkeloaaGreatDoor
open Go
section
variable {P : Program} {md : Region.Mode} {ops : Array Oper} {Q : Exit → Act → World → Prop} {V : Nat → Value → World → Prop} {I : Act → World → Prop} {R : World → World → Prop} {a0 : Act} {w0 : World}
/-- As StepsFrom; what none of the first m operations writes is as it was. -/
def StepsFromI (P : Program) (ops : Array Oper) (Q : Exit → Act → World → Prop) (V : Nat → Value → World → Prop) (I : Act → World → Prop) (R : World → World → Prop) (a : Act) (m : Nat) (w : World) : Nat → List Oper → Prop
  | _, [] => True
  | k, o :: l => (∀ (a' : Act) (w' : World), RF ops V a (fun j => ∃ e ∈ o.after, Region.binds .any e = true ∧ e.on = j) a' w' → OldM ops m a a' → (∀ d, o.dst = some d → a'.tmps[d]? = a.tmps[d]?) → I a' w' → R w w' → wpOp P ops Q k (fun a'' w'' => ∃ v, a'' = a'.put o.dst v ∧ V k v w'' ∧ R w' w'' ∧ I a'' w'') a' w') ∧ StepsFromI P ops Q V I R a m w (k + 1) l
theorem StepsFromI.at_ {a : Act} {m : Nat} {w : World} : ∀ (l : List Oper) (k i : Nat) (o : Oper), StepsFromI P ops Q V I R a m w k l → l[i]? = some o →
    ∀ (a' : Act) (w' : World), RF ops V a (fun j => ∃ e ∈ o.after, Region.binds .any e = true ∧ e.on = j) a' w' → OldM ops m a a' → (∀ d, o.dst = some d → a'.tmps[d]? = a.tmps[d]?) → I a' w' → R w w' → wpOp P ops Q (k + i) (fun a'' w'' => ∃ v, a'' = a'.put o.dst v ∧ V (k + i) v w'' ∧ R w' w'' ∧ I a'' w'') a' w'
  | [], _, _, _, _, hi => by simp at hi
  | o' :: l, k, 0, o, h, hi => by
    simp only [List.getElem?_cons_zero, Option.some.injEq] at hi
    subst hi
    exact h.1
  | o' :: l, k, i + 1, o, h, hi => by
    rw [List.getElem?_cons_succ] at hi
    have := StepsFromI.at_ l (k + 1) i o h.2 hi
    rw [show k + 1 + i = k + (i + 1) by omega] at this
    exact this
/-- An operation that runs to its end; a call. -/
theorem wpOp_runI {i : Nat} {o : Oper} {a : Act} {w w' : World} {v : Value} (ho : ops[i]? = some o) (hg : o.guard = none) (hr : (execOp a.eval o).run P w = .ok (.value v) w') (hv : V i v w') (hR : R w w') (hI : I (a.put o.dst v) w') :
    wpOp P ops Q i (fun a'' w'' => ∃ v, a'' = a.put o.dst v ∧ V i v w'' ∧ R w w'' ∧ I a'' w'') a w := wpOp_leaves ho hg hr ⟨v, rfl, hv, hR, hI⟩
theorem wpOp_callI {i : Nat} {o : Oper} {a : Act} {w : World} {f : FuncId} {args : Array Value} (ho : ops[i]? = some o) (hg : o.guard = none) (hr : (execOp a.eval o).run P w = .ok (.enter f args) w)
    (hc : Calls P f args w fun e w' => ∃ v, e = .returned v ∧ V i v w' ∧ R w w' ∧ I (a.put o.dst v) w') :
    wpOp P ops Q i (fun a'' w'' => ∃ v, a'' = a.put o.dst v ∧ V i v w'' ∧ R w w'' ∧ I a'' w'') a w :=
  wpOp_enters ho hg hr (hc.mono fun _ _ ⟨v, h1, h2, h3, h4⟩ => ⟨v, h1, v, rfl, h2, h3, h4⟩)
theorem wpAny_facts_chainI {m : Nat} (hm : m ≤ ops.size) (N : Nat) (hw0 : ∀ j, j < m → waitsN md ops N m j = true) (hw : ∀ i, m < i → ∀ o, ops[i]? = some o → ∃ e ∈ o.after, Region.binds md e = true ∧ e.on + 1 = i) (hB : regionB md ops a0.tmps.size = true) (hV : ∀ i v w w', V i v w → R w w' → V i v w') (hT : ∀ a b c, R a b → R b c → R a c)
    (step : ∀ (i : Nat) (o : Oper) (a : Act) (w : World), i < m → ops[i]? = some o → RF ops V a0 (fun j => ∃ e ∈ o.after, Region.binds md e = true ∧ e.on = j) a w → OldM ops m a0 a → (∀ d, o.dst = some d → a.tmps[d]? = a0.tmps[d]?) → I a w → R w0 w → wpOp P ops Q i (fun a' w' => ∃ v, a' = a.put o.dst v ∧ V i v w' ∧ R w w' ∧ I a' w') a w)
    (tail : ∀ a w, RF ops V a0 (fun j => j < m) a w → OldM ops m a0 a → I a w → R w0 w → TailFrom P ops Q m (ops.toList.drop m) a w) :
    ∀ (fuel : Nat) (listed : Array Bool) (a : Act) (w : World), listed.size = ops.size → (List.range ops.size).countP (fun j => !listed.getD j false) ≤ fuel → (∀ j, m ≤ j → listed.getD j false = false) →
      (∀ k o, ops[k]? = some o → listed.getD k false = true → ∀ e ∈ o.after, Region.binds md e = true → listed.getD e.on false = true) →
      RF ops V a0 (fun j => listed.getD j false = true) a w → OldM ops m a0 a → (∀ (j : Nat) (o : Oper), ops[j]? = some o → listed.getD j false = false → ∀ d, o.dst = some d → a.tmps[d]? = a0.tmps[d]?) → I a w → R w0 w → wpAny P md ops Q fuel listed a w := by
  intro fuel
  have full : ∀ (fuel : Nat) (listed : Array Bool) (a : Act) (w : World), listed.size = ops.size → (List.range ops.size).countP (fun j => !listed.getD j false) ≤ fuel → (∀ j, m ≤ j → listed.getD j false = false) →
      RF ops V a0 (fun j => listed.getD j false = true) a w → OldM ops m a0 a → I a w → R w0 w → (∀ j, j < m → listed.getD j false = true) → wpAny P md ops Q fuel listed a w := by
    intro fuel listed a w hs hc hun hF hO hIn hR hall
    refine wpAny_chain hB _ m rfl hw fuel listed a w hs (fun j hj _ => hall j hj) hun ?_ (tail a w (hF.mono fun j hj => hall j hj) hO hIn hR)
    have h1 : (ops.toList.drop m).length = ops.size - m := by simp
    have h2 : ops.size - m ≤ (List.range ops.size).countP (fun j => !listed.getD j false) := by
      have e : List.range ops.size = List.range m ++ (List.range (ops.size - m)).map (m + ·) := by
        rw [← List.range_add]; congr 1; omega
      rw [e, List.countP_append]
      have : ((List.range (ops.size - m)).map (m + ·)).countP (fun j => !listed.getD j false) = ops.size - m := by
        have hh : ∀ x ∈ (List.range (ops.size - m)).map (m + ·), (fun j => !listed.getD j false) x = true := by
          intro x hx
          obtain ⟨y, _, rfl⟩ := List.mem_map.1 hx
          simp only [hun (m + y) (by omega), Bool.not_false]
        rw [List.countP_eq_length.2 hh]
        simp
      omega
    omega
  induction fuel with
  | zero =>
    intro listed a w hs hc hun hcl0 hF hO hU hIn hR
    refine full 0 listed a w hs hc hun hF hO hIn hR fun j hj => ?_
    have hz : (List.range ops.size).countP (fun j => !listed.getD j false) = 0 := by omega
    have := List.countP_eq_zero.1 hz j (List.mem_range.2 (by omega))
    simpa using this
  | succ fuel ih =>
    intro listed a w hs hc hun hcl0 hF hO hU hIn hR
    by_cases hall : ∀ j, j < m → listed.getD j false = true
    · exact full (fuel + 1) listed a w hs hc hun hF hO hIn hR hall
    refine ⟨fun hr => ?_, fun i hi => ?_⟩
    · exact absurd (fun j hj => ready_some hB hs hr j (by omega)) hall
    obtain ⟨h0, o, ho, hrd⟩ := mem_ready.1 hi
    have hlt : i < ops.size := (Array.getElem?_eq_some_iff.1 ho).1
    have hls : i < listed.size := by omega
    have huni : listed.getD i false = false := by simp [Array.getD, hls] at h0 ⊢; exact h0
    have hcl := count_less (listed := listed) (i := i) (n := ops.size) hls huni hlt
    have him : i < m := by
      rcases Nat.lt_or_ge i m with g | g
      · exact g
      · exfalso
        rcases Nat.eq_or_lt_of_le g with g | g
        · subst g
          refine hall fun j hj => ?_
          exact waitsN_listed hcl0 N m j o ho hrd (hw0 j hj)
        · obtain ⟨e, he, hb, hon⟩ := hw i g o ho
          have := hrd e he hb
          rw [hun e.on (by omega)] at this
          cases this
    have hst := step i o a w him ho (hF.mono (by rintro j ⟨e, he, hb, rfl⟩; exact hrd e he hb)) hO (hU i o ho huni) hIn hR
    refine wpOp_mono (fun a' w' h' => ?_) hst
    obtain ⟨v, rfl, hv, hR', hI'⟩ := h'
    refine ih (listed.setIfInBounds i true) _ w' (by simpa using hs) (by omega) (fun j hj => ?_) (fun k ok hok hk e he hb => ?_) ((hF.step hB hV ho hv hR').mono ?_) (fun k hk => by rw [put_other (hk i o him ho)]; exact hO k hk) (fun j oj hoj hlj d hd => ?_) hI' (hT _ _ _ hR hR')
    · have e : j ≠ i := by omega
      simpa [Array.getD_eq_getD_getElem?, Array.getElem?_setIfInBounds, Ne.symm e] using hun j hj
    · have hset : ∀ j, (listed.setIfInBounds i true).getD j false = true ↔ listed.getD j false = true ∨ j = i := fun j => by
        by_cases e : j = i
        · subst e
          simp [Array.getD_eq_getD_getElem?, hls]
        · simp [Array.getD_eq_getD_getElem?, Ne.symm e, e]
      refine (hset _).2 (.inl ?_)
      rcases (hset k).1 hk with g | rfl
      · exact hcl0 k ok hok g e he hb
      · rw [ho] at hok
        cases hok
        exact hrd e he hb
    · intro j hj
      by_cases e : j = i
      · exact .inr e
      · left
        simpa [Array.getD_eq_getD_getElem?, Array.getElem?_setIfInBounds, Ne.symm e] using hj
    · have hji : j ≠ i := by
        rintro rfl
        simp [Array.getD_eq_getD_getElem?, hls] at hlj
      have hlj' : listed.getD j false = false := by
        simpa [Array.getD_eq_getD_getElem?, Array.getElem?_setIfInBounds, Ne.symm hji] using hlj
      have hdd : o.dst ≠ some d := fun h => hji ((regionB_dst hB ho h).2 j oj hoj hd)
      rw [put_other hdd]
      exact hU j oj hoj hlj' d hd
/-- **A region that draws its order, by facts; its last operations, of which the first waits for all ahead of it, and each of the others for the one ahead of it, are run one behind the other on the whole frame. An operation may read a slot that one of the last ones writes.** -/
theorem wp_region_facts_chainI {id : Nat} {a : Act} {w : World} (hm : P.follows .mixedOrders = true) (N n : Nat) (hn : a.tmps.size = n) (V : Nat → Value → World → Prop) (I : Act → World → Prop) (R : World → World → Prop) (ini : Array Oper) (m : Nat) (hini : ops.extract 0 m = ini) (hmi : ini.size = m) (hsz : m ≤ ops.size)
    (hre0 : ((List.range m).all fun j => waitsN .any ops N m j) = true) (hre : ((List.range ops.size).all fun i => decide (i ≤ m) || (ops[i]?.map fun o => o.after.any fun e => Region.binds .any e && e.on + 1 == i).getD true) = true) (hB : regionB .any ops n = true) (hBi : regionB .any ini n = true)
    (hV : ∀ i v w w', V i v w → R w w' → V i v w') (hT : ∀ a b c, R a b → R b c → R a c) (h0 : R w.drew w.drew) (ds : List (Option Tmp)) (hds : dsts ini = ds) (tl : List Oper) (htl : ops.toList.drop m = tl)
    (hI0 : I a w.drew) (steps : StepsFromI P ops Q V I R a m w.drew 0 ini.toList)
    (last : ∀ (vs : Nat → Value) (w' : World), (∀ i, i < m → V i (vs i) w') → I (putFrom vs 0 ds a) w' → R w.drew w' → TailFrom P ops Q m tl (putFrom vs 0 ds a) w') : (Code.region id ops true).wp P Q a w := by
  subst hn hds htl
  refine wp_region_any hm ?_
  have hex : ∀ i o, i < m → ops[i]? = some o → ini[i]? = some o := fun i o hi ho => by
    rw [← hini, Array.getElem?_extract]
    simp only [Nat.zero_add]
    rw [if_pos (by omega)]
    exact ho
  have hex' : ∀ i o, ini[i]? = some o → ops[i]? = some o ∧ i < m := fun i o ho => by
    have hi : i < ini.size := (Array.getElem?_eq_some_iff.1 ho).1
    rw [hmi] at hi
    rw [← hini, Array.getElem?_extract] at ho
    simp only [Nat.zero_add] at ho
    rw [if_pos (by omega)] at ho
    exact ⟨ho, hi⟩
  have hw : ∀ i, m < i → ∀ o, ops[i]? = some o → ∃ e ∈ o.after, Region.binds .any e = true ∧ e.on + 1 = i := fun i hi o ho => by
    have hil : i < ops.size := (Array.getElem?_eq_some_iff.1 ho).1
    have h1 := List.all_eq_true.1 hre i (List.mem_range.2 hil)
    rw [ho] at h1
    simp only [Option.map_some, Option.getD_some, Bool.or_eq_true, decide_eq_true_eq] at h1
    rcases h1 with h1 | h1
    · omega
    · obtain ⟨e, he, hb⟩ := Array.any_eq_true'.1 h1
      simp only [Bool.and_eq_true, beq_iff_eq] at hb
      exact ⟨e, he, hb.1, hb.2⟩
  refine wpAny_facts_chainI (a0 := a) (w0 := w.drew) (m := m) hsz N (fun j hj => List.all_eq_true.1 hre0 j (List.mem_range.2 hj)) hw hB hV hT (fun i o a' w' hi ho hF hO hU hIn hR => ?_) (fun a' w' hF hO hIn hR => ?_) _ _ _ _ (by simp) ?_ (fun j _ => ?_) (fun k o _ hk => ?_) ⟨fun j o hj _ => ?_, fun _ _ => rfl, rfl, rfl⟩ (fun _ _ => rfl) (fun _ _ _ _ _ _ => rfl) hI0 h0
  · have := StepsFromI.at_ ini.toList 0 i o steps (by rw [Array.getElem?_toList]; exact hex i o hi ho) a' w' hF hO hU hIn hR
    rw [Nat.zero_add] at this
    exact this
  · have hF' : RF ini V a (fun j => j < ini.size) a' w' := by
      refine ⟨fun j o hj hoj => hF.at_ j o (by omega) (hex' j o hoj).1, fun k hk => hO k fun j o hj hoj => hk j o (hex j o hj hoj), hF.size, hF.defers⟩
    obtain ⟨vs, hvs, rfl⟩ := hF'.frame hBi
    exact last vs w' (fun i hi => hvs i (by omega)) hIn hR
  · have := List.countP_le_length (p := fun j => !(Array.replicate ops.size false).getD j false) (l := List.range ops.size)
    simpa using this
  · rw [Array.getD_eq_getD_getElem?, Array.getElem?_replicate]
    split <;> rfl
  · rw [Array.getD_eq_getD_getElem?, Array.getElem?_replicate] at hk
    split at hk <;> cases hk
  · rw [Array.getD_eq_getD_getElem?, Array.getElem?_replicate] at hj
    split at hj <;> cases hj
end
end Go.Proofs.YtmokofblmkeloaaGreatDoor
