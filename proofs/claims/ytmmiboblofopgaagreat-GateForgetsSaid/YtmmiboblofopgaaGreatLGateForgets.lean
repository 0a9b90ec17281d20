/- GateForgets: for every fabric, two states and an input, the law answers true: where something is fused, nothing hangs on what was held. No condition. -/
import Derived.Test.YtmmiboblofopgaaGreatC22b
import Derived.Test.YtmmiboblofopgaaGreatC22h
import Derived.Test.YtmmiboblofopgaaGreatW47
import Derived.Test.YtmmiboblofopgaaGreatB00
import Derived.Test.YtmmiboblofopgaaGreatB09
import Derived.Deep.CutRange
import Derived.BigQuiet
namespace Go.Proofs.YtmmiboblofopgaaGreat.gateForgets
open Go.ChangeShapes Go.WideShapes Go.ChangeAt Go.RowKit
set_option linter.unusedVariables false
set_option maxRecDepth 100000
attribute [local go_sem ↓] Go.wp_at_zero Go.wp_at_succ
/-- Where something is fused, the state is good. -/
theorem good_of_left {p : Par} {me : Int} {s : Sta} {ticks : Int} {ref : Bool} {x : Int} {l : List Hd} {given : Bool} {tb : List (Int × Int)} {A : Sta} (hA : Gate.state p me s ticks ref x l given tb = A) (hl : Gate.left p.f (Gate.spans p me ref x l) = true) : A.good = true := by
  rw [← hA]
  unfold Gate.state
  rw [Gate.step_good]
  generalize Gate.spans p me ref x l = S at *
  have e1 : (Gate.next p s ticks S given tb).lo = (Gate.fused p.f S).1 := by unfold Gate.next; simp only; rw [if_pos hl]
  have e2 : (Gate.next p s ticks S given tb).hi = (Gate.fused p.f S).2 := by unfold Gate.next; simp only; rw [if_pos hl]
  have e3 : (Gate.next p s ticks S given tb).good = true := by unfold Gate.next; simp only; rw [if_pos hl]
  unfold Health.sane
  simp only [e1, e2, e3]
  unfold Gate.fused
  rw [if_pos hl]
  simp only
  unfold Gate.left at hl
  simp only [Bool.and_eq_true, Bool.not_eq_true', decide_eq_false_iff_not] at hl
  have := Sat.clip_mono (Int.not_lt.1 hl.2)
  rw [Sat.clip_clip, Sat.clip_clip, if_neg (by omega)]
theorem pairs_only22 {r : Nat} {w w1 : World} {A : Option Addr} {l : List (Int × Int)} (h : PairsAt w A l) (k : Only r w w1) (hA : ∀ a, A = some a → a.block ≠ r) : PairsAt w1 A l := fun j hj => by
  obtain ⟨b, off, e, hlt, hc, hd⟩ := h j hj
  exact ⟨b, off, e, Nat.lt_of_lt_of_le hlt k.size, (k.cell (p := ⟨b, off + j * 2, none⟩) hlt (show b ≠ r from hA _ e)).trans hc, (k.cell (p := ⟨b, off + j * 2 + 1, none⟩) hlt (show b ≠ r from hA _ e)).trans hd⟩
theorem pairs_later {w : World} {A : Option Addr} {l : List (Int × Int)} {H : Nat} (h : PairsAt w A l) (hH : w.heap.size ≤ H) : ∀ w1 w2, PairsAt w1 A l → Only H w1 w2 → PairsAt w2 A l := fun w1 w2 h1 k j hj => by
  obtain ⟨b, off, e, hlt, -, -⟩ := h j hj
  obtain ⟨b', off', e', hlt', hc, hd⟩ := h1 j hj
  rw [e] at e'
  cases e'
  exact ⟨b, off, e, Nat.lt_of_lt_of_le hlt' k.size, (k.cell (p := ⟨b, off + j * 2, none⟩) hlt' (show b ≠ H by omega)).trans hc, (k.cell (p := ⟨b, off + j * 2 + 1, none⟩) hlt' (show b ≠ H by omega)).trans hd⟩
/-- The boxes of the arguments. -/
structure BX (Bp Sa Sb Y : Nat) (p : Par) (sa sb : Sta) (A B : Option Addr) (ca cb : Nat) (x : In) (w : World) : Prop where
  p : Own w Bp (parCells p)
  sa : Own w Sa (staCells sa A ca)
  sb : Own w Sb (staCells sb B cb)
  y : Own w Y (inCells x)
theorem BX.next {Bp Sa Sb Y : Nat} {p : Par} {sa sb : Sta} {A B : Option Addr} {ca cb : Nat} {x : In} {w w1 : World} (h : BX Bp Sa Sb Y p sa sb A B ca cb x w) (k : Ok w w1) : BX Bp Sa Sb Y p sa sb A B ca cb x w1 := ⟨h.p.next k, h.sa.next k, h.sb.next k, h.y.next k⟩
/-- While the two gateways beat: each is as it was, or has beaten; the boxes of what they tell. -/
structure FI (w0 : World) (Y G H : Nat) (p : Par) (x : In) (ua ub ta tb : Sta) (Ag Ah : Option Addr) (cg ch : Nat) (ma mb : Msg) (a : Act) (w : World) : Prop where
  ok : Ok w0 w
  y : Own w Y (inCells x)
  g : (a.tmps[36]? = some undef ∧ Own w G (gateCells 0 p ua Ag cg) ∧ PairsAt w Ag ua.table) ∨ (∃ A3 c3 A4 c4, a.tmps[36]? = some (msgV ma A3 c3) ∧ Own w G (gateCells 0 p ta A4 c4))
  h : (a.tmps[39]? = some undef ∧ Own w H (gateCells 0 p ub Ah ch) ∧ PairsAt w Ah ub.table) ∨ (∃ A3 c3 A4 c4, a.tmps[39]? = some (msgV mb A3 c3) ∧ Own w H (gateCells 0 p tb A4 c4))
  m : ∀ M, a.tmps[11]? = some (.pointer (some ⟨M, 0, none⟩)) → Own w M #[.int .i64 0, .int .i64 0, .int .i64 0, .int .i64 0, .int .i64 0, .int .i64 0, .bool false, .bool false, .int .i64 0, .int .i64 0, .int .i64 0, .int .i64 0, .int .i64 0, .slice none 0 0] ∧ M ≠ G ∧ M ≠ H ∧ w0.heap.size ≤ M
  n : ∀ M, a.tmps[12]? = some (.pointer (some ⟨M, 0, none⟩)) → Own w M #[.int .i64 0, .int .i64 0, .int .i64 0, .int .i64 0, .int .i64 0, .int .i64 0, .bool false, .bool false, .int .i64 0, .int .i64 0, .int .i64 0, .int .i64 0, .int .i64 0, .slice none 0 0] ∧ M ≠ G ∧ M ≠ H ∧ w0.heap.size ≤ M
  mn : ∀ M N, a.tmps[11]? = some (.pointer (some ⟨M, 0, none⟩)) → a.tmps[12]? = some (.pointer (some ⟨N, 0, none⟩)) → M ≠ N
namespace FI
variable {w0 : World} {Y G H : Nat} {p : Par} {x : In} {ua ub ta tb : Sta} {Ag Ah : Option Addr} {cg ch : Nat} {ma mb : Msg} {a : Act} {w w' : World}
theorem put (h : FI w0 Y G H p x ua ub ta tb Ag Ah cg ch ma mb a w) {d : Tmp} {v : Value} (hd : d ≠ 36 ∧ d ≠ 39 ∧ d ≠ 11 ∧ d ≠ 12) : FI w0 Y G H p x ua ub ta tb Ag Ah cg ch ma mb (a.put (some d) v) w := by
  obtain ⟨h1, h2, h3, h4⟩ := hd
  have e1 : (a.put (some d) v).tmps[36]? = a.tmps[36]? := put_other (by simpa using h1)
  have e2 : (a.put (some d) v).tmps[39]? = a.tmps[39]? := put_other (by simpa using h2)
  have e3 : (a.put (some d) v).tmps[11]? = a.tmps[11]? := put_other (by simpa using h3)
  have e4 : (a.put (some d) v).tmps[12]? = a.tmps[12]? := put_other (by simpa using h4)
  exact ⟨h.ok, h.y, by rw [e1]; exact h.g, by rw [e2]; exact h.h, by rw [e3]; exact h.m, by rw [e4]; exact h.n, by rw [e3, e4]; exact h.mn⟩
theorem beatA (h : FI w0 Y G H p x ua ub ta tb Ag Ah cg ch ma mb a w) (e : a.tmps[36]? = some undef) : Own w G (gateCells 0 p ua Ag cg) ∧ PairsAt w Ag ua.table := by
  rcases h.g with ⟨_, g⟩ | ⟨A3, c3, A4, c4, g, _⟩
  · exact g
  · rw [e] at g; simp [msgV, undef] at g
theorem beatB (h : FI w0 Y G H p x ua ub ta tb Ag Ah cg ch ma mb a w) (e : a.tmps[39]? = some undef) : Own w H (gateCells 0 p ub Ah ch) ∧ PairsAt w Ah ub.table := by
  rcases h.h with ⟨_, g⟩ | ⟨A3, c3, A4, c4, g, _⟩
  · exact g
  · rw [e] at g; simp [msgV, undef] at g
theorem doneA (h : FI w0 Y G H p x ua ub ta tb Ag Ah cg ch ma mb a w) {v : Value} (e : a.tmps[36]? = some v) (hv : v ≠ undef) : ∃ A4 c4, Own w G (gateCells 0 p ta A4 c4) := by
  rcases h.g with ⟨g, _⟩ | ⟨A3, c3, A4, c4, _, g⟩
  · rw [e] at g; exact absurd (Option.some.inj g) hv
  · exact ⟨A4, c4, g⟩
theorem doneB (h : FI w0 Y G H p x ua ub ta tb Ag Ah cg ch ma mb a w) {v : Value} (e : a.tmps[39]? = some v) (hv : v ≠ undef) : ∃ A4 c4, Own w H (gateCells 0 p tb A4 c4) := by
  rcases h.h with ⟨g, _⟩ | ⟨A3, c3, A4, c4, _, g⟩
  · rw [e] at g; exact absurd (Option.some.inj g) hv
  · exact ⟨A4, c4, g⟩
theorem afterA (h : FI w0 Y G H p x ua ub ta tb Ag Ah cg ch ma mb a w) {A3 A4 : Option Addr} {c3 c4 : Nat} (e : a.tmps[36]? = some undef) (k : Only G w w') (hO : Own w' G (gateCells 0 p ta A4 c4)) (D : G ≠ H ∧ Y ≠ G ∧ Y ≠ H ∧ w0.heap.size ≤ G ∧ w0.heap.size ≤ H) (hk : ∀ b, Ah = some b → b.block ≠ G) : FI w0 Y G H p x ua ub ta tb Ag Ah cg ch ma mb (a.put (some 36) (msgV ma A3 c3)) w' := by
  have e0 : (a.put (some 36) (msgV ma A3 c3)).tmps[36]? = some (msgV ma A3 c3) := put_same (Array.getElem?_eq_some_iff.1 e).1
  have e2 : (a.put (some 36) (msgV ma A3 c3)).tmps[39]? = a.tmps[39]? := put_other (by decide)
  have e3 : (a.put (some 36) (msgV ma A3 c3)).tmps[11]? = a.tmps[11]? := put_other (by decide)
  have e4 : (a.put (some 36) (msgV ma A3 c3)).tmps[12]? = a.tmps[12]? := put_other (by decide)
  refine ⟨k.then_ok h.ok D.2.2.2.1, k.own h.y D.2.1, .inr ⟨A3, c3, A4, c4, e0, hO⟩, ?_, ?_, ?_, by rw [e3, e4]; exact h.mn⟩
  · rw [e2]
    rcases h.h with ⟨g1, g2, g3⟩ | ⟨B3, d3, B4, d4, g1, g2⟩
    · exact .inl ⟨g1, k.own g2 (Ne.symm D.1), pairs_only22 g3 k hk⟩
    · exact .inr ⟨B3, d3, B4, d4, g1, k.own g2 (Ne.symm D.1)⟩
  · rw [e3]; exact fun M hM => ⟨k.own (h.m M hM).1 (h.m M hM).2.1, (h.m M hM).2⟩
  · rw [e4]; exact fun M hM => ⟨k.own (h.n M hM).1 (h.n M hM).2.1, (h.n M hM).2⟩
theorem afterB (h : FI w0 Y G H p x ua ub ta tb Ag Ah cg ch ma mb a w) {A3 A4 : Option Addr} {c3 c4 : Nat} (e : a.tmps[39]? = some undef) (k : Only H w w') (hO : Own w' H (gateCells 0 p tb A4 c4)) (D : G ≠ H ∧ Y ≠ G ∧ Y ≠ H ∧ w0.heap.size ≤ G ∧ w0.heap.size ≤ H) (hk : ∀ w1 w2, PairsAt w1 Ag ua.table → Only H w1 w2 → PairsAt w2 Ag ua.table) : FI w0 Y G H p x ua ub ta tb Ag Ah cg ch ma mb (a.put (some 39) (msgV mb A3 c3)) w' := by
  have e0 : (a.put (some 39) (msgV mb A3 c3)).tmps[39]? = some (msgV mb A3 c3) := put_same (Array.getElem?_eq_some_iff.1 e).1
  have e2 : (a.put (some 39) (msgV mb A3 c3)).tmps[36]? = a.tmps[36]? := put_other (by decide)
  have e3 : (a.put (some 39) (msgV mb A3 c3)).tmps[11]? = a.tmps[11]? := put_other (by decide)
  have e4 : (a.put (some 39) (msgV mb A3 c3)).tmps[12]? = a.tmps[12]? := put_other (by decide)
  refine ⟨k.then_ok h.ok D.2.2.2.2, k.own h.y D.2.2.1, ?_, .inr ⟨A3, c3, A4, c4, e0, hO⟩, ?_, ?_, by rw [e3, e4]; exact h.mn⟩
  · rw [e2]
    rcases h.g with ⟨g1, g2, g3⟩ | ⟨B3, d3, B4, d4, g1, g2⟩
    · exact .inl ⟨g1, k.own g2 D.1, hk _ _ g3 k⟩
    · exact .inr ⟨B3, d3, B4, d4, g1, k.own g2 D.1⟩
  · rw [e3]; exact fun M hM => ⟨k.own (h.m M hM).1 (h.m M hM).2.2.1, (h.m M hM).2⟩
  · rw [e4]; exact fun M hM => ⟨k.own (h.n M hM).1 (h.n M hM).2.2.1, (h.n M hM).2⟩
theorem lts (h : FI w0 Y G H p x ua ub ta tb Ag Ah cg ch ma mb a w) : G < w.heap.size ∧ H < w.heap.size := by
  constructor
  · rcases h.g with ⟨_, g, _⟩ | ⟨_, _, _, _, _, g⟩ <;> exact g.lt
  · rcases h.h with ⟨_, g, _⟩ | ⟨_, _, _, _, _, g⟩ <;> exact g.lt
theorem okd (h : FI w0 Y G H p x ua ub ta tb Ag Ah cg ch ma mb a w) (o : Obj) : FI w0 Y G H p x ua ub ta tb Ag Ah cg ch ma mb a (w.alloc o) := by
  refine ⟨h.ok.alloc o, h.y.alloc o, ?_, ?_, fun M hM => ⟨(h.m M hM).1.alloc o, (h.m M hM).2⟩, fun M hM => ⟨(h.n M hM).1.alloc o, (h.n M hM).2⟩, h.mn⟩
  · rcases h.g with ⟨g1, g2, g3⟩ | ⟨B3, d3, B4, d4, g1, g2⟩
    · exact .inl ⟨g1, g2.alloc o, g3.alloc o⟩
    · exact .inr ⟨B3, d3, B4, d4, g1, g2.alloc o⟩
  · rcases h.h with ⟨g1, g2, g3⟩ | ⟨B3, d3, B4, d4, g1, g2⟩
    · exact .inl ⟨g1, g2.alloc o, g3.alloc o⟩
    · exact .inr ⟨B3, d3, B4, d4, g1, g2.alloc o⟩
theorem alloc1 (h : FI w0 Y G H p x ua ub ta tb Ag Ah cg ch ma mb a w) (e : a.tmps[11]? = some undef) : FI w0 Y G H p x ua ub ta tb Ag Ah cg ch ma mb (a.put (some 11) (.pointer (some ⟨w.heap.size, 0, none⟩))) (w.alloc (.cells #[.int .i64 0, .int .i64 0, .int .i64 0, .int .i64 0, .int .i64 0, .int .i64 0, .bool false, .bool false, .int .i64 0, .int .i64 0, .int .i64 0, .int .i64 0, .int .i64 0, .slice none 0 0] 47)) := by
  have e0 : (a.put (some 11) (.pointer (some ⟨w.heap.size, 0, none⟩))).tmps[11]? = some (.pointer (some ⟨w.heap.size, 0, none⟩)) := put_same (Array.getElem?_eq_some_iff.1 e).1
  have e1 : (a.put (some 11) (.pointer (some ⟨w.heap.size, 0, none⟩))).tmps[36]? = a.tmps[36]? := put_other (by decide)
  have e2 : (a.put (some 11) (.pointer (some ⟨w.heap.size, 0, none⟩))).tmps[39]? = a.tmps[39]? := put_other (by decide)
  have e4 : (a.put (some 11) (.pointer (some ⟨w.heap.size, 0, none⟩))).tmps[12]? = a.tmps[12]? := put_other (by decide)
  have hl := h.lts
  have k := h.okd (.cells #[.int .i64 0, .int .i64 0, .int .i64 0, .int .i64 0, .int .i64 0, .int .i64 0, .bool false, .bool false, .int .i64 0, .int .i64 0, .int .i64 0, .int .i64 0, .int .i64 0, .slice none 0 0] 47)
  refine ⟨k.ok, k.y, by rw [e1]; exact k.g, by rw [e2]; exact k.h, fun M hM => ?_, by rw [e4]; exact k.n, fun M N hM hN => ?_⟩
  · rw [e0] at hM
    cases hM
    exact ⟨Own.new _ _ _ rfl, by omega, by omega, h.ok.size⟩
  · rw [e0] at hM
    rw [e4] at hN
    cases hM
    have := (h.n N hN).1.lt
    omega
theorem alloc2 (h : FI w0 Y G H p x ua ub ta tb Ag Ah cg ch ma mb a w) (e : a.tmps[12]? = some undef) : FI w0 Y G H p x ua ub ta tb Ag Ah cg ch ma mb (a.put (some 12) (.pointer (some ⟨w.heap.size, 0, none⟩))) (w.alloc (.cells #[.int .i64 0, .int .i64 0, .int .i64 0, .int .i64 0, .int .i64 0, .int .i64 0, .bool false, .bool false, .int .i64 0, .int .i64 0, .int .i64 0, .int .i64 0, .int .i64 0, .slice none 0 0] 47)) := by
  have e0 : (a.put (some 12) (.pointer (some ⟨w.heap.size, 0, none⟩))).tmps[12]? = some (.pointer (some ⟨w.heap.size, 0, none⟩)) := put_same (Array.getElem?_eq_some_iff.1 e).1
  have e1 : (a.put (some 12) (.pointer (some ⟨w.heap.size, 0, none⟩))).tmps[36]? = a.tmps[36]? := put_other (by decide)
  have e2 : (a.put (some 12) (.pointer (some ⟨w.heap.size, 0, none⟩))).tmps[39]? = a.tmps[39]? := put_other (by decide)
  have e4 : (a.put (some 12) (.pointer (some ⟨w.heap.size, 0, none⟩))).tmps[11]? = a.tmps[11]? := put_other (by decide)
  have hl := h.lts
  have k := h.okd (.cells #[.int .i64 0, .int .i64 0, .int .i64 0, .int .i64 0, .int .i64 0, .int .i64 0, .bool false, .bool false, .int .i64 0, .int .i64 0, .int .i64 0, .int .i64 0, .int .i64 0, .slice none 0 0] 47)
  refine ⟨k.ok, k.y, by rw [e1]; exact k.g, by rw [e2]; exact k.h, by rw [e4]; exact k.m, fun M hM => ?_, fun M N hM hN => ?_⟩
  · rw [e0] at hM
    cases hM
    exact ⟨Own.new _ _ _ rfl, by omega, by omega, h.ok.size⟩
  · rw [e0] at hN
    rw [e4] at hM
    cases hN
    have := (h.m M hM).1.lt
    omega
end FI
/-- What each operation of the two beats leaves. -/
def VMF (G H : Nat) (x : In) (ma mb : Msg) (i : Nat) (v : Value) (_ : World) : Prop := match i with
  | 0 => v = .pointer (some ⟨G, 0, none⟩)
  | 1 => v = .agg #[.int .i64 x.ticks, .slice x.B x.heard.length x.hcap, .bool x.ref, .int .i64 x.reading, .bool x.given, .slice x.T x.table.length x.tcap]
  | 2 => ∃ A3 c3, v = msgV ma A3 c3
  | 3 => v = .pointer (some ⟨H, 0, none⟩)
  | 4 => v = .agg #[.int .i64 x.ticks, .slice x.B x.heard.length x.hcap, .bool x.ref, .int .i64 x.reading, .bool x.given, .slice x.T x.table.length x.tcap]
  | 5 => ∃ A3 c3, v = msgV mb A3 c3
  | 6 => ∃ M, v = .pointer (some ⟨M, 0, none⟩)
  | 7 => ∃ M, v = .pointer (some ⟨M, 0, none⟩)
  | _ => v = .bool true
/-- What each operation leaves. -/
def VMFor (B0 : Nat) (p : Par) (sa sb ua : Sta) (A B : Option Addr) (ca cb : Nat) (w : World) (v : Value) : Nat → Prop
  | 0 => v = parV p
  | 1 => v = .agg #[.int .i64 sa.lo, .int .i64 sa.hi, .int .i64 sa.time, .bool sa.set, .int .i64 sa.held, .int .i64 sa.hops, .bool sa.good, .slice A sa.table.length ca, .int .i64 sa.st, .int .i64 sa.sn, .int .i64 sa.life]
  | 2 => ∃ (G : Nat) (A2 : Option Addr) (c2 : Nat), v = .pointer (some ⟨G, 0, none⟩) ∧ Own w G (gateCells 0 p ua A2 c2) ∧ PairsAt w A2 ua.table ∧ (∀ a, A2 = some a → a.block ≠ G) ∧ B0 ≤ G
  | 3 => v = parV p
  | 4 => v = .agg #[.int .i64 sb.lo, .int .i64 sb.hi, .int .i64 sb.time, .bool sb.set, .int .i64 sb.held, .int .i64 sb.hops, .bool sb.good, .slice B sb.table.length cb, .int .i64 sb.st, .int .i64 sb.sn, .int .i64 sb.life]
  | _ => v = .bool true
/-- It stays so. -/
def VCFor (B0 : Nat) (p : Par) (sa sb ua : Sta) (A B : Option Addr) (ca cb : Nat) (i : Nat) (v : Value) (w : World) : Prop := ∀ w', Ok w w' → VMFor B0 p sa sb ua A B ca cb w' v i
set_option maxHeartbeats 25600000 in
theorem walkF (F : GateWorks) (w : World) (p : Par) (sa sb : Sta) (A B : Option Addr) (ca cb : Nat) (x : In) (hA : PairsAt w A sa.table) (hla : sa.table.length ≤ 9223372036854775807) (hB : PairsAt w B sb.table) (hlb : sb.table.length ≤ 9223372036854775807) (hx : InAt w x) (hxh : x.heard.length ≤ 9223372036854775807) (hxt : x.table.length ≤ 9223372036854775807) :
    Calls Tryz.prog 7 #[parV p, staV sa A ca, staV sb B cb, inV x] w fun e w' => e = .returned (.bool true) ∧ Ok w w' := by
  have KAL := Lib.hid fun w => law22AliveF F w
  have KCH := Lib.hid fun w => limCheck p w
  obtain ⟨lga, hlga⟩ : ∃ b, great22 sa [x] = b := ⟨_, rfl⟩
  obtain ⟨lgb, hlgb⟩ : ∃ b, great22 sb [] = b := ⟨_, rfl⟩
  have HX0 := Lib.hid fun (W' : World) (k : Ok w W') => hx.below k
  have KGA : Hid (∀ (W' : World), Ok w W' → Calls Tryz.prog 9 #[.agg #[.int .i64 sa.lo, .int .i64 sa.hi, .int .i64 sa.time, .bool sa.set, .int .i64 sa.held, .int .i64 sa.hops, .bool sa.good, .slice A sa.table.length ca, .int .i64 sa.st, .int .i64 sa.sn, .int .i64 sa.life], .slice (some ⟨W'.heap.size, 0, none⟩) 1 1] (W'.alloc (.cells #[.int .i64 x.ticks, .slice x.B x.heard.length x.hcap, .bool x.ref, .int .i64 x.reading, .bool x.given, .slice x.T x.table.length x.tcap] 44)) fun e w' => e = .returned (.bool lga) ∧ Ok (W'.alloc (.cells #[.int .i64 x.ticks, .slice x.B x.heard.length x.hcap, .bool x.ref, .int .i64 x.reading, .bool x.given, .slice x.T x.table.length x.tcap] 44)) w') := Lib.hid fun W' h0 => by
    have h : InsAt (W'.alloc (.cells (inCells x) 44)) (some ⟨W'.heap.size, 0, none⟩) [x] := InsAt.new _ _ (HX0.out _ h0) _ rfl
    have k := law22Great sa A ca (some ⟨W'.heap.size, 0, none⟩) [x] 1 _ h (by simp) (fun y hy => by rw [List.mem_singleton] at hy; subst hy; exact hxh)
    rw [hlga] at k
    exact k
  have KGB : Hid (∀ (W' : World), Calls Tryz.prog 9 #[.agg #[.int .i64 sb.lo, .int .i64 sb.hi, .int .i64 sb.time, .bool sb.set, .int .i64 sb.held, .int .i64 sb.hops, .bool sb.good, .slice B sb.table.length cb, .int .i64 sb.st, .int .i64 sb.sn, .int .i64 sb.life], .slice none 0 0] W' fun e w' => e = .returned (.bool lgb) ∧ Ok W' w') := Lib.hid fun W' => by
    have k := law22Great sb B cb none [] 0 W' ⟨CellsAt.empty _ _, fun y hy => absurd hy (by simp)⟩ (by simp) (fun y hy => absurd hy (by simp))
    rw [hlgb] at k
    exact k
  have HLA := Lib.hid fun (h : lga = false) => great_few (hlga.trans h)
  obtain ⟨ua, hua⟩ : ∃ y, Health.sane p sa = y := ⟨_, rfl⟩
  obtain ⟨ub, hub⟩ : ∃ y, Health.sane p sb = y := ⟨_, rfl⟩
  have hult : ua.table.length ≤ 9223372036854775807 ∧ ub.table.length ≤ 9223372036854775807 := by rw [← hua, ← hub]; exact ⟨Nat.le_trans (saneTable22 p sa) (by decide), Nat.le_trans (saneTable22 p sb) (by decide)⟩
  obtain ⟨Ta, hTa⟩ : ∃ y, Gate.state p 0 ua x.ticks x.ref x.reading x.hds x.given x.table = y := ⟨_, rfl⟩
  obtain ⟨Tb, hTb⟩ : ∃ y, Gate.state p 0 ub x.ticks x.ref x.reading x.hds x.given x.table = y := ⟨_, rfl⟩
  obtain ⟨ta, hta⟩ : ∃ y, Gate.after p 0 ua x = y := ⟨_, rfl⟩
  obtain ⟨tb, htb⟩ : ∃ y, Gate.after p 0 ub x = y := ⟨_, rfl⟩
  obtain ⟨ma, hma⟩ : ∃ y, Gate.tells p 0 ua x = y := ⟨_, rfl⟩
  obtain ⟨mb, hmb⟩ : ∃ y, Gate.tells p 0 ub x = y := ⟨_, rfl⟩
  have HEQ : Hid (¬ (ta.held ≠ 0 ∧ tb.held ≠ 0) → ma.lo = mb.lo ∧ ma.hi = mb.hi ∧ ma.ref = mb.ref ∧ ma.slo = mb.slo ∧ ma.shi = mb.shi ∧ ta.good = true ∧ tb.good = true ∧ ta.held = tb.held ∧ True) := Lib.hid fun h => by
    have g1 : ta.held = Ta.held := by rw [← hta]; unfold Gate.after; rw [hTa]; rfl
    have g2 : tb.held = Tb.held := by rw [← htb]; unfold Gate.after; rw [hTb]; rfl
    have g3 : ta.good = Ta.good := by rw [← hta]; unfold Gate.after; rw [hTa]; rfl
    have g4 : tb.good = Tb.good := by rw [← htb]; unfold Gate.after; rw [hTb]; rfl
    have g5 : ma = Gate.say p Ta 1 0 (Gate.reads p x.ref x.reading) (Gate.sees p x.ref x.reading) := by rw [← hma]; unfold Gate.tells; rw [hTa]
    have g6 : mb = Gate.say p Tb 1 0 (Gate.reads p x.ref x.reading) (Gate.sees p x.ref x.reading) := by rw [← hmb]; unfold Gate.tells; rw [hTb]
    have hTa' := hTa
    have hTb' := hTb
    rw [← hua] at hTa
    rw [← hub] at hTb
    obtain ⟨k1, k2, k3, k4, -, k6⟩ := Gate.forgets 0 sa sb x.ticks x.ref x.reading x.hds x.given x.table Ta Tb hTa hTb (by rw [g1, g2] at h; omega)
    refine ⟨?_, ?_, ?_, ?_, ?_, ?_, ?_, ?_, trivial⟩
    · rw [g5, g6]; exact k1
    · rw [g5, g6]; exact k2
    · rw [g5, g6]; rfl
    · rw [g5, g6]; rfl
    · rw [g5, g6]; rfl
    · rw [g3]; exact good_of_left hTa' k6
    · rw [g4]; exact good_of_left hTb' k6
    · rw [g1, g2]; exact k3
  have KNA0 := Lib.hid fun W' (k : Ok w W') => F.new p 0 sa A ca W' (hA.below k) hla
  have KNB0 := Lib.hid fun W' (k : Ok w W') => F.new p 0 sb B cb W' (hB.below k) hlb
  rw [hua] at KNA0
  rw [hub] at KNB0
  have KBE : Hid (∀ (u : Sta), u.table.length ≤ 9223372036854775807 → Lim.May p → lga = false → ∀ (t : Sta) (m : Msg), Gate.after p 0 u x = t → Gate.tells p 0 u x = m → ∀ (G : Nat) (A2 : Option Addr) (c2 : Nat) (W' : World), Ok w W' → Own W' G (gateCells 0 p u A2 c2) → PairsAt W' A2 u.table → (∀ a, A2 = some a → a.block ≠ G) → Calls Tryz.prog 16 #[.pointer (some ⟨G, 0, none⟩), .agg #[.int .i64 x.ticks, .slice x.B x.heard.length x.hcap, .bool x.ref, .int .i64 x.reading, .bool x.given, .slice x.T x.table.length x.tcap]] W' fun e w' => ∃ A3 c3 A4 c4, e = .returned (msgV m A3 c3) ∧ Own w' G (gateCells 0 p t A4 c4) ∧ Only G W' w') := Lib.hid fun u hu hm hl t m ht hmm G A2 c2 W' k h1 h2 h3 => by
    have hfew := HLA.out hl
    have hf := hm.1.2
    have hn := hm.1.1
    have hh := hfew.heard _ (List.mem_singleton.2 rfl)
    refine (F.beat G p 0 u A2 c2 x W' h1 h2 h3 hu (hx.below k) (by omega) hxt ⟨by omega, by omega⟩ (fun y hy => Nat.le_trans (hfew.told _ (List.mem_singleton.2 rfl) y hy) (by decide))).mono ?_
    rintro e w' ⟨A3, c3, A4, c4, rfl, q1, -, -, q2⟩
    rw [hmm]
    rw [ht] at q1
    exact ⟨A3, c3, A4, c4, rfl, q1, q2⟩
  have KBA1 := Lib.hid fun hm hl => KBE.out ua hult.1 hm hl ta ma hta hma
  have KBB1 := Lib.hid fun hm hl => KBE.out ub hult.2 hm hl tb mb htb hmb
  clear hlga hlgb HLA hua hub hult hTa hTb Ta Tb hta htb hma hmb hA hla hB hlb hx hxh hxt KBE
  have hX : BX w.heap.size (w.heap.size + 1) (w.heap.size + 2) (w.heap.size + 3) p sa sb A B ca cb x ((((w.alloc (.cells (parCells p) 23)).alloc (.cells (staCells sa A ca) 30)).alloc (.cells (staCells sb B cb) 30)).alloc (.cells (inCells x) 44)) :=
    ⟨(((Own.new w (parCells p) 23 rfl).alloc _).alloc _).alloc _, ((Own.new (w.alloc (.cells (parCells p) 23)) (staCells sa A ca) 30 (g := w.heap.size + 1) (by simp)).alloc _).alloc _, (Own.new ((w.alloc (.cells (parCells p) 23)).alloc (.cells (staCells sa A ca) 30)) (staCells sb B cb) 30 (g := w.heap.size + 2) (by simp)).alloc _, Own.new (((w.alloc (.cells (parCells p) 23)).alloc (.cells (staCells sa A ca) 30)).alloc (.cells (staCells sb B cb) 30)) (inCells x) 44 (g := w.heap.size + 3) (by simp)⟩
  have hok : Ok w ((((w.alloc (.cells (parCells p) 23)).alloc (.cells (staCells sa A ca) 30)).alloc (.cells (staCells sb B cb) 30)).alloc (.cells (inCells x) 44)) := ((((Ok.refl w).alloc _).alloc _).alloc _).alloc _
  unfold inV
  go_enter Tryz.func7, Tryz.ntmps7
  go_upto_region 1 with fail
  change Code.wp _ _ _ _ ((((w.alloc (.cells (parCells p) 23)).alloc (.cells (staCells sa A ca) 30)).alloc (.cells (staCells sb B cb) 30)).alloc (.cells (inCells x) 44))
  generalize ((((w.alloc (.cells (parCells p) 23)).alloc (.cells (staCells sa A ca) 30)).alloc (.cells (staCells sb B cb) 30)).alloc (.cells (inCells x) 44)) = W at hX hok ⊢
  obtain ⟨Y, hYe⟩ : ∃ y, w.heap.size + 3 = y := ⟨_, rfl⟩
  obtain ⟨Sb, hSb⟩ : ∃ y, w.heap.size + 2 = y := ⟨_, rfl⟩
  obtain ⟨Sa, hSa⟩ : ∃ y, w.heap.size + 1 = y := ⟨_, rfl⟩
  obtain ⟨Bp, hBp⟩ : ∃ y, w.heap.size = y := ⟨_, rfl⟩
  rw [hYe, hSb, hSa, hBp] at hX
  rw [hYe, hSb, hSa, hBp]
  have HYW : Hid (w.heap.size ≤ Y) := Lib.hid (by omega)
  clear hYe hSb hSa hBp
  go_upto_region 3 with (go_at_call 8; (with_reducible refine (KAL.out _).mono ?_); rintro e w1 ⟨rfl, hb1⟩; replace hX := hX.next hb1; replace hok := hok.trans hb1; clear hb1)
  go_cut [27] from 15 to 27 (fun v wx => ∃ b, v = .bool b ∧ (b = false → Lim.May p ∧ lga = false) ∧ BX Bp Sa Sb Y p sa sb A B ca cb x wx ∧ Ok w wx)
  case first =>
    obtain ⟨s0, s1, s2, s3, s4, s5, s6, s7, s8, s9, s10⟩ := hX.sa.sta; have hsl := hX.sa.lt; obtain ⟨t0, t1, t2, t3, t4, t5, t6, t7, t8, t9, t10⟩ := hX.sb.sta; have htl := hX.sb.lt; obtain ⟨c0, c1, c2, c3, c4, c5, c6, c7, c8, c9, c10, c11⟩ := hX.p.pars; have hpl := hX.p.lt; obtain ⟨i0, i1, i2, i3, i4, i5⟩ := hX.y.inp; have hyl := hX.y.lt
    by_cases h0 : Lim.May p
    · rw [show Lim.check p = 0 from if_pos h0] at KCH
      have HM := Lib.hid h0
      clear h0
      cases lga with
      | true =>
        go_wp2_with (first | (go_at_call 19; refine (KCH.out _).mono ?_; rintro e w2 ⟨rfl, hb1⟩; clear s0 s1 s2 s3 s4 s5 s6 s7 s8 s9 s10 hsl t0 t1 t2 t3 t4 t5 t6 t7 t8 t9 t10 htl c0 c1 c2 c3 c4 c5 c6 c7 c8 c9 c10 c11 hpl i0 i1 i2 i3 i4 i5 hyl; replace hX := hX.next hb1; replace hok := hok.trans hb1; clear hb1; obtain ⟨s0, s1, s2, s3, s4, s5, s6, s7, s8, s9, s10⟩ := hX.sa.sta; have hsl := hX.sa.lt; obtain ⟨t0, t1, t2, t3, t4, t5, t6, t7, t8, t9, t10⟩ := hX.sb.sta; have htl := hX.sb.lt; obtain ⟨c0, c1, c2, c3, c4, c5, c6, c7, c8, c9, c10, c11⟩ := hX.p.pars; have hpl := hX.p.lt; obtain ⟨i0, i1, i2, i3, i4, i5⟩ := hX.y.inp; have hyl := hX.y.lt) | (go_at_call 9; first | (with_reducible refine (KGA.out _ hok).mono ?_; rintro e w3 ⟨rfl, hb1⟩; clear s0 s1 s2 s3 s4 s5 s6 s7 s8 s9 s10 hsl t0 t1 t2 t3 t4 t5 t6 t7 t8 t9 t10 htl c0 c1 c2 c3 c4 c5 c6 c7 c8 c9 c10 c11 hpl i0 i1 i2 i3 i4 i5 hyl; replace hb1 := ((Ok.refl _).alloc _).trans hb1; replace hX := hX.next hb1; replace hok := hok.trans hb1; clear hb1; obtain ⟨s0, s1, s2, s3, s4, s5, s6, s7, s8, s9, s10⟩ := hX.sa.sta; have hsl := hX.sa.lt; obtain ⟨t0, t1, t2, t3, t4, t5, t6, t7, t8, t9, t10⟩ := hX.sb.sta; have htl := hX.sb.lt; obtain ⟨c0, c1, c2, c3, c4, c5, c6, c7, c8, c9, c10, c11⟩ := hX.p.pars; have hpl := hX.p.lt; obtain ⟨i0, i1, i2, i3, i4, i5⟩ := hX.y.inp; have hyl := hX.y.lt) | (with_reducible refine (KGB.out _).mono ?_; rintro e w3 ⟨rfl, hb1⟩; clear s0 s1 s2 s3 s4 s5 s6 s7 s8 s9 s10 hsl t0 t1 t2 t3 t4 t5 t6 t7 t8 t9 t10 htl c0 c1 c2 c3 c4 c5 c6 c7 c8 c9 c10 c11 hpl i0 i1 i2 i3 i4 i5 hyl; replace hX := hX.next hb1; replace hok := hok.trans hb1; clear hb1; obtain ⟨s0, s1, s2, s3, s4, s5, s6, s7, s8, s9, s10⟩ := hX.sa.sta; have hsl := hX.sa.lt; obtain ⟨t0, t1, t2, t3, t4, t5, t6, t7, t8, t9, t10⟩ := hX.sb.sta; have htl := hX.sb.lt; obtain ⟨c0, c1, c2, c3, c4, c5, c6, c7, c8, c9, c10, c11⟩ := hX.p.pars; have hpl := hX.p.lt; obtain ⟨i0, i1, i2, i3, i4, i5⟩ := hX.y.inp; have hyl := hX.y.lt)))
        go_meet
        exact ⟨true, rfl, fun h => by (cases h), hX, hok⟩
      | false =>
        cases lgb with
        | true =>
          go_wp2_with (first | (go_at_call 19; refine (KCH.out _).mono ?_; rintro e w2 ⟨rfl, hb1⟩; clear s0 s1 s2 s3 s4 s5 s6 s7 s8 s9 s10 hsl t0 t1 t2 t3 t4 t5 t6 t7 t8 t9 t10 htl c0 c1 c2 c3 c4 c5 c6 c7 c8 c9 c10 c11 hpl i0 i1 i2 i3 i4 i5 hyl; replace hX := hX.next hb1; replace hok := hok.trans hb1; clear hb1; obtain ⟨s0, s1, s2, s3, s4, s5, s6, s7, s8, s9, s10⟩ := hX.sa.sta; have hsl := hX.sa.lt; obtain ⟨t0, t1, t2, t3, t4, t5, t6, t7, t8, t9, t10⟩ := hX.sb.sta; have htl := hX.sb.lt; obtain ⟨c0, c1, c2, c3, c4, c5, c6, c7, c8, c9, c10, c11⟩ := hX.p.pars; have hpl := hX.p.lt; obtain ⟨i0, i1, i2, i3, i4, i5⟩ := hX.y.inp; have hyl := hX.y.lt) | (go_at_call 9; first | (with_reducible refine (KGA.out _ hok).mono ?_; rintro e w3 ⟨rfl, hb1⟩; clear s0 s1 s2 s3 s4 s5 s6 s7 s8 s9 s10 hsl t0 t1 t2 t3 t4 t5 t6 t7 t8 t9 t10 htl c0 c1 c2 c3 c4 c5 c6 c7 c8 c9 c10 c11 hpl i0 i1 i2 i3 i4 i5 hyl; replace hb1 := ((Ok.refl _).alloc _).trans hb1; replace hX := hX.next hb1; replace hok := hok.trans hb1; clear hb1; obtain ⟨s0, s1, s2, s3, s4, s5, s6, s7, s8, s9, s10⟩ := hX.sa.sta; have hsl := hX.sa.lt; obtain ⟨t0, t1, t2, t3, t4, t5, t6, t7, t8, t9, t10⟩ := hX.sb.sta; have htl := hX.sb.lt; obtain ⟨c0, c1, c2, c3, c4, c5, c6, c7, c8, c9, c10, c11⟩ := hX.p.pars; have hpl := hX.p.lt; obtain ⟨i0, i1, i2, i3, i4, i5⟩ := hX.y.inp; have hyl := hX.y.lt) | (with_reducible refine (KGB.out _).mono ?_; rintro e w3 ⟨rfl, hb1⟩; clear s0 s1 s2 s3 s4 s5 s6 s7 s8 s9 s10 hsl t0 t1 t2 t3 t4 t5 t6 t7 t8 t9 t10 htl c0 c1 c2 c3 c4 c5 c6 c7 c8 c9 c10 c11 hpl i0 i1 i2 i3 i4 i5 hyl; replace hX := hX.next hb1; replace hok := hok.trans hb1; clear hb1; obtain ⟨s0, s1, s2, s3, s4, s5, s6, s7, s8, s9, s10⟩ := hX.sa.sta; have hsl := hX.sa.lt; obtain ⟨t0, t1, t2, t3, t4, t5, t6, t7, t8, t9, t10⟩ := hX.sb.sta; have htl := hX.sb.lt; obtain ⟨c0, c1, c2, c3, c4, c5, c6, c7, c8, c9, c10, c11⟩ := hX.p.pars; have hpl := hX.p.lt; obtain ⟨i0, i1, i2, i3, i4, i5⟩ := hX.y.inp; have hyl := hX.y.lt)))
          go_meet
          exact ⟨true, rfl, fun h => by (cases h), hX, hok⟩
        | false =>
          go_wp2_with (first | (go_at_call 19; refine (KCH.out _).mono ?_; rintro e w2 ⟨rfl, hb1⟩; clear s0 s1 s2 s3 s4 s5 s6 s7 s8 s9 s10 hsl t0 t1 t2 t3 t4 t5 t6 t7 t8 t9 t10 htl c0 c1 c2 c3 c4 c5 c6 c7 c8 c9 c10 c11 hpl i0 i1 i2 i3 i4 i5 hyl; replace hX := hX.next hb1; replace hok := hok.trans hb1; clear hb1; obtain ⟨s0, s1, s2, s3, s4, s5, s6, s7, s8, s9, s10⟩ := hX.sa.sta; have hsl := hX.sa.lt; obtain ⟨t0, t1, t2, t3, t4, t5, t6, t7, t8, t9, t10⟩ := hX.sb.sta; have htl := hX.sb.lt; obtain ⟨c0, c1, c2, c3, c4, c5, c6, c7, c8, c9, c10, c11⟩ := hX.p.pars; have hpl := hX.p.lt; obtain ⟨i0, i1, i2, i3, i4, i5⟩ := hX.y.inp; have hyl := hX.y.lt) | (go_at_call 9; first | (with_reducible refine (KGA.out _ hok).mono ?_; rintro e w3 ⟨rfl, hb1⟩; clear s0 s1 s2 s3 s4 s5 s6 s7 s8 s9 s10 hsl t0 t1 t2 t3 t4 t5 t6 t7 t8 t9 t10 htl c0 c1 c2 c3 c4 c5 c6 c7 c8 c9 c10 c11 hpl i0 i1 i2 i3 i4 i5 hyl; replace hb1 := ((Ok.refl _).alloc _).trans hb1; replace hX := hX.next hb1; replace hok := hok.trans hb1; clear hb1; obtain ⟨s0, s1, s2, s3, s4, s5, s6, s7, s8, s9, s10⟩ := hX.sa.sta; have hsl := hX.sa.lt; obtain ⟨t0, t1, t2, t3, t4, t5, t6, t7, t8, t9, t10⟩ := hX.sb.sta; have htl := hX.sb.lt; obtain ⟨c0, c1, c2, c3, c4, c5, c6, c7, c8, c9, c10, c11⟩ := hX.p.pars; have hpl := hX.p.lt; obtain ⟨i0, i1, i2, i3, i4, i5⟩ := hX.y.inp; have hyl := hX.y.lt) | (with_reducible refine (KGB.out _).mono ?_; rintro e w3 ⟨rfl, hb1⟩; clear s0 s1 s2 s3 s4 s5 s6 s7 s8 s9 s10 hsl t0 t1 t2 t3 t4 t5 t6 t7 t8 t9 t10 htl c0 c1 c2 c3 c4 c5 c6 c7 c8 c9 c10 c11 hpl i0 i1 i2 i3 i4 i5 hyl; replace hX := hX.next hb1; replace hok := hok.trans hb1; clear hb1; obtain ⟨s0, s1, s2, s3, s4, s5, s6, s7, s8, s9, s10⟩ := hX.sa.sta; have hsl := hX.sa.lt; obtain ⟨t0, t1, t2, t3, t4, t5, t6, t7, t8, t9, t10⟩ := hX.sb.sta; have htl := hX.sb.lt; obtain ⟨c0, c1, c2, c3, c4, c5, c6, c7, c8, c9, c10, c11⟩ := hX.p.pars; have hpl := hX.p.lt; obtain ⟨i0, i1, i2, i3, i4, i5⟩ := hX.y.inp; have hyl := hX.y.lt)))
          go_meet
          exact ⟨false, rfl, fun _ => ⟨HM.out, by first | rfl | trivial⟩, hX, hok⟩
    · rw [show Lim.check p = 1 from if_neg h0] at KCH
      clear h0
      go_wp2_with (first | (go_at_call 19; refine (KCH.out _).mono ?_; rintro e w2 ⟨rfl, hb1⟩; clear s0 s1 s2 s3 s4 s5 s6 s7 s8 s9 s10 hsl t0 t1 t2 t3 t4 t5 t6 t7 t8 t9 t10 htl c0 c1 c2 c3 c4 c5 c6 c7 c8 c9 c10 c11 hpl i0 i1 i2 i3 i4 i5 hyl; replace hX := hX.next hb1; replace hok := hok.trans hb1; clear hb1; obtain ⟨s0, s1, s2, s3, s4, s5, s6, s7, s8, s9, s10⟩ := hX.sa.sta; have hsl := hX.sa.lt; obtain ⟨t0, t1, t2, t3, t4, t5, t6, t7, t8, t9, t10⟩ := hX.sb.sta; have htl := hX.sb.lt; obtain ⟨c0, c1, c2, c3, c4, c5, c6, c7, c8, c9, c10, c11⟩ := hX.p.pars; have hpl := hX.p.lt; obtain ⟨i0, i1, i2, i3, i4, i5⟩ := hX.y.inp; have hyl := hX.y.lt) | (go_at_call 9; first | (with_reducible refine (KGA.out _ hok).mono ?_; rintro e w3 ⟨rfl, hb1⟩; clear s0 s1 s2 s3 s4 s5 s6 s7 s8 s9 s10 hsl t0 t1 t2 t3 t4 t5 t6 t7 t8 t9 t10 htl c0 c1 c2 c3 c4 c5 c6 c7 c8 c9 c10 c11 hpl i0 i1 i2 i3 i4 i5 hyl; replace hb1 := ((Ok.refl _).alloc _).trans hb1; replace hX := hX.next hb1; replace hok := hok.trans hb1; clear hb1; obtain ⟨s0, s1, s2, s3, s4, s5, s6, s7, s8, s9, s10⟩ := hX.sa.sta; have hsl := hX.sa.lt; obtain ⟨t0, t1, t2, t3, t4, t5, t6, t7, t8, t9, t10⟩ := hX.sb.sta; have htl := hX.sb.lt; obtain ⟨c0, c1, c2, c3, c4, c5, c6, c7, c8, c9, c10, c11⟩ := hX.p.pars; have hpl := hX.p.lt; obtain ⟨i0, i1, i2, i3, i4, i5⟩ := hX.y.inp; have hyl := hX.y.lt) | (with_reducible refine (KGB.out _).mono ?_; rintro e w3 ⟨rfl, hb1⟩; clear s0 s1 s2 s3 s4 s5 s6 s7 s8 s9 s10 hsl t0 t1 t2 t3 t4 t5 t6 t7 t8 t9 t10 htl c0 c1 c2 c3 c4 c5 c6 c7 c8 c9 c10 c11 hpl i0 i1 i2 i3 i4 i5 hyl; replace hX := hX.next hb1; replace hok := hok.trans hb1; clear hb1; obtain ⟨s0, s1, s2, s3, s4, s5, s6, s7, s8, s9, s10⟩ := hX.sa.sta; have hsl := hX.sa.lt; obtain ⟨t0, t1, t2, t3, t4, t5, t6, t7, t8, t9, t10⟩ := hX.sb.sta; have htl := hX.sb.lt; obtain ⟨c0, c1, c2, c3, c4, c5, c6, c7, c8, c9, c10, c11⟩ := hX.p.pars; have hpl := hX.p.lt; obtain ⟨i0, i1, i2, i3, i4, i5⟩ := hX.y.inp; have hyl := hX.y.lt)))
      go_meet
      exact ⟨true, rfl, fun h => by (cases h), hX, hok⟩
  case rest =>
  clear hX hok KCH KGA KGB HX0
  obtain ⟨b, rfl, hc1, hX, hok⟩ := hcut
  cases b with
  | true =>
    go_wp2_with fail
    go_ret
    exact ⟨rfl, hok⟩
  | false =>
  have KBA0 := Lib.hid (KBA1.out (hc1 rfl).1 (hc1 rfl).2)
  have KBB0 := Lib.hid (KBB1.out (hc1 rfl).1 (hc1 rfl).2)
  clear hc1 KBA1 KBB1
  go_upto_region 5 with fail
  have KNA := Lib.hid fun W' (k : Ok wc.drew W') => KNA0.out W' ((hok.trans (Ok.refl wc).drew).trans k)
  have KNB := Lib.hid fun W' (k : Ok wc.drew W') => KNB0.out W' ((hok.trans (Ok.refl wc).drew).trans k)
  have HB := Lib.hid fun W' (k : Ok wc.drew W') => (hX.next (Ok.refl wc).drew).next k
  have HOK := Lib.hid hok
  obtain ⟨B0, hB0⟩ : ∃ y, wc.heap.size = y := ⟨_, rfl⟩
  have HB0 := Lib.hid fun W' (k : Ok wc.drew W') => show B0 ≤ W'.heap.size from hB0 ▸ k.size
  have HBW : Hid (w.heap.size ≤ B0) := Lib.hid (hB0 ▸ hok.size)
  have HYB : Hid (Y < B0) := Lib.hid (hB0 ▸ hX.y.lt)
  clear hX hok hB0 KNA0 KNB0
  refine wp_region_facts_chain (by kernel_rfl) 5 106 rfl (VCFor B0 p sa sb ua A B ca cb) Ok _ 5 rfl rfl (by decide) (by kernel_rfl) (by kernel_rfl) (by kernel_rfl) (by kernel_rfl) (fun i v w w' h k w'' k' => h w'' (k.trans k')) (fun a b c => Ok.trans) (Ok.refl _) [some 28, some 29, some 30, some 31, some 32] rfl _ rfl ⟨?_, ?_, ?_, ?_, ?_, trivial⟩ ?_
  · intro a' w' hF hR
    have e4 : a'.tmps[4]? = some (.pointer (some ⟨Bp, 0, none⟩)) := hF.slot 4 (by kernel_rfl) rfl
    obtain ⟨p0, p1, p2, p3, p4, p5, p6, p7, p8, p9, p10, p11⟩ := (HB.out _ hR).p.pars
    have hpl := (HB.out _ hR).p.lt
    refine wpOp_run (v := parV p) rfl rfl ?_ (fun _ _ => rfl) (Ok.refl _)
    clear hF
    go_simp
  · intro a' w' hF hR
    have e5 : a'.tmps[5]? = some (.pointer (some ⟨Sa, 0, none⟩)) := hF.slot 5 (by kernel_rfl) rfl
    obtain ⟨s0, s1, s2', s3', s4, s5, s6, s7, s8, s9, s10⟩ := (HB.out _ hR).sa.sta
    have hsl := (HB.out _ hR).sa.lt
    refine wpOp_run (v := .agg #[.int .i64 sa.lo, .int .i64 sa.hi, .int .i64 sa.time, .bool sa.set, .int .i64 sa.held, .int .i64 sa.hops, .bool sa.good, .slice A sa.table.length ca, .int .i64 sa.st, .int .i64 sa.sn, .int .i64 sa.life]) rfl rfl ?_ (fun _ _ => rfl) (Ok.refl _)
    clear hF
    go_simp
  · intro a' w' hF hR
    obtain ⟨v0, hv0, e28⟩ := hF.get 0 28 (by kernel_rfl) (by kernel_rfl)
    obtain rfl : v0 = _ := hv0 _ (Ok.refl _)
    obtain ⟨v1, hv1, e29⟩ := hF.get 1 29 (by kernel_rfl) (by kernel_rfl)
    obtain rfl : v1 = _ := hv1 _ (Ok.refl _)
    clear hF
    refine wpOp_call (f := 10) (args := #[parV p, .int .i64 0, .agg #[.int .i64 sa.lo, .int .i64 sa.hi, .int .i64 sa.time, .bool sa.set, .int .i64 sa.held, .int .i64 sa.hops, .bool sa.good, .slice A sa.table.length ca, .int .i64 sa.st, .int .i64 sa.sn, .int .i64 sa.life]]) rfl rfl ?_ ((KNA.out _ hR).mono ?_)
    · go_simp
    · rintro e w2 ⟨G, A2, c2, rfl, hO, hT, hG, hAG, hb2⟩; exact ⟨_, rfl, fun w3 k => ⟨G, A2, c2, rfl, hO.next k, (TabRow.pairs hT).1.below k, hAG, Nat.le_trans (HB0.out _ hR) hG⟩, hb2⟩
  · intro a' w' hF hR
    have e4 : a'.tmps[4]? = some (.pointer (some ⟨Bp, 0, none⟩)) := hF.slot 4 (by kernel_rfl) rfl
    obtain ⟨p0, p1, p2, p3, p4, p5, p6, p7, p8, p9, p10, p11⟩ := (HB.out _ hR).p.pars
    have hpl := (HB.out _ hR).p.lt
    refine wpOp_run (v := parV p) rfl rfl ?_ (fun _ _ => rfl) (Ok.refl _)
    clear hF
    go_simp
  · intro a' w' hF hR
    have e6 : a'.tmps[6]? = some (.pointer (some ⟨Sb, 0, none⟩)) := hF.slot 6 (by kernel_rfl) rfl
    obtain ⟨s0, s1, s2', s3', s4, s5, s6, s7, s8, s9, s10⟩ := (HB.out _ hR).sb.sta
    have hsl := (HB.out _ hR).sb.lt
    refine wpOp_run (v := .agg #[.int .i64 sb.lo, .int .i64 sb.hi, .int .i64 sb.time, .bool sb.set, .int .i64 sb.held, .int .i64 sb.hops, .bool sb.good, .slice B sb.table.length cb, .int .i64 sb.st, .int .i64 sb.sn, .int .i64 sb.life]) rfl rfl ?_ (fun _ _ => rfl) (Ok.refl _)
    clear hF
    go_simp
  intro vs W' hvs hR
  obtain ⟨G, Ag, cg, e2, hG, hPg, hGA, hGB⟩ := hvs 2 (by decide) _ (Ok.refl _)
  have e3 : vs 3 = parV p := hvs 3 (by decide) _ (Ok.refl _)
  have e4 : vs 4 = .agg #[.int .i64 sb.lo, .int .i64 sb.hi, .int .i64 sb.time, .bool sb.set, .int .i64 sb.held, .int .i64 sb.hops, .bool sb.good, .slice B sb.table.length cb, .int .i64 sb.st, .int .i64 sb.sn, .int .i64 sb.life] := hvs 4 (by decide) _ (Ok.refl _)
  have hX := HB.out _ hR
  have hok := (HOK.out.trans (Ok.refl wc).drew).trans hR
  have kn := KNB.out _ hR
  clear hvs HB HOK KNA KNB HB0
  simp only [putFrom, e2, e3, e4]
  simp only [Act.put, List.setIfInBounds_toArray, List.set_cons_zero, List.set_cons_succ]
  refine wpOp_enters (o := ⟨some 33, _, _, _, _, none⟩) (f := 10) (args := #[parV p, .int .i64 0, .agg #[.int .i64 sb.lo, .int .i64 sb.hi, .int .i64 sb.time, .bool sb.set, .int .i64 sb.held, .int .i64 sb.hops, .bool sb.good, .slice B sb.table.length cb, .int .i64 sb.st, .int .i64 sb.sn, .int .i64 sb.life]]) rfl rfl ?_ (kn.mono ?_)
  · go_simp
  rintro e w5 ⟨H, Ah, ch, rfl, hH, hTh, hHG, hAH, hb⟩
  refine ⟨_, rfl, ?_⟩
  simp only [Act.put, List.setIfInBounds_toArray, List.set_cons_zero, List.set_cons_succ]
  have hGl := hG.lt
  have hKG := pairs_later hPg hHG
  have hPh := (TabRow.pairs hTh).1
  have hAhG : ∀ a, Ah = some a → a.block ≠ G := fun a ha => by have := (TabRow.pairs hTh).2 a ha; omega
  have hGH : G ≠ H := by omega
  have hWH : w.heap.size ≤ H := Nat.le_trans hok.size hHG
  have hWG : w.heap.size ≤ G := Nat.le_trans HBW.out hGB
  have hYG := hX.y.lt
  replace hG := hG.next hb
  replace hPg := hPg.below hb
  replace hX := hX.next hb
  replace hok := hok.trans hb
  have hYH : Y ≠ H := by omega
  have hYG : Y ≠ G := by have := HYB.out; omega
  clear hb kn hTh hHG hGl e2 e3 e4 hGB
  refine wpOp_leaves (o := ⟨some 9, _, _, _, _, none⟩) (v := .pointer (some ⟨G, 0, none⟩)) (w' := w5) rfl rfl ?_ ?_
  · go_simp
  simp only [Act.put, List.setIfInBounds_toArray, List.set_cons_zero, List.set_cons_succ]
  refine wpOp_leaves (o := ⟨some 10, _, _, _, _, none⟩) (v := .pointer (some ⟨H, 0, none⟩)) (w' := w5) rfl rfl ?_ ?_
  · go_simp
  simp only [TailFrom, Act.put, List.setIfInBounds_toArray, List.set_cons_zero, List.set_cons_succ]
  generalize vs 0 = x20
  generalize vs 1 = x21
  clear hR vs
  go_upto_region 6 with fail
  have HI0 : ∀ a : Act, a.tmps[36]? = some undef → a.tmps[39]? = some undef → a.tmps[11]? = some undef → a.tmps[12]? = some undef → FI w Y G H p x ua ub ta tb Ag Ah cg ch ma mb a w5.drew := fun a h1 h2 h3 h4 =>
    ⟨hok.trans (Ok.refl w5).drew, hX.y.drew, .inl ⟨h1, hG.drew, hPg.drew⟩, .inl ⟨h2, hH.drew, hPh.drew⟩, (fun M h => by rw [h3] at h; cases h), (fun M h => by rw [h4] at h; cases h), (fun M N h => by rw [h3] at h; cases h)⟩
  have HD : Hid (G ≠ H ∧ Y ≠ G ∧ Y ≠ H ∧ w.heap.size ≤ G ∧ w.heap.size ≤ H) := Lib.hid ⟨hGH, hYG, hYH, hWG, hWH⟩
  have HAG := Lib.hid hAhG
  have HKG := Lib.hid hKG
  have KBA := Lib.hid fun W' (k : Ok w W') h1 h2 => KBA0.out G Ag cg W' k h1 h2 hGA
  have KBB := Lib.hid fun W' (k : Ok w W') h1 h2 => KBB0.out H Ah ch W' k h1 h2 hAH
  clear hok hX hG hPg hH hPh hGH hYG hYH hWG hWH hAhG hKG hGA hAH KBA0 KBB0
  refine wp_region_facts_chainI (by kernel_rfl) 5 106 rfl (VMF G H x ma mb) (FI w Y G H p x ua ub ta tb Ag Ah cg ch ma mb) (fun _ _ => True) _ 8 rfl rfl (by decide) (by kernel_rfl) (by kernel_rfl) (by kernel_rfl) (by kernel_rfl) (fun _ _ _ _ h _ => h) (fun _ _ _ _ _ => trivial) trivial [some 34, some 35, some 36, some 37, some 38, some 39, some 11, some 12] rfl _ rfl (HI0 _ rfl rfl rfl rfl) ⟨?_, ?_, ?_, ?_, ?_, ?_, ?_, ?_, trivial⟩ ?_
  · intro a' w' hF hO hU hIn hR
    have e9 : a'.tmps[9]? = some (.pointer (some ⟨G, 0, none⟩)) := hF.slot 9 (by kernel_rfl) rfl
    refine wpOp_runI (V := VMF G H x ma mb) (I := FI w Y G H p x ua ub ta tb Ag Ah cg ch ma mb) (R := fun _ _ => True) (v := .pointer (some ⟨G, 0, none⟩)) (w' := w') rfl rfl ?_ rfl trivial ?_
    · clear hF hO hU hIn; go_simp
    · exact hIn.put (by decide)
  · intro a' w' hF hO hU hIn hR
    have e7 : a'.tmps[7]? = some (.pointer (some ⟨Y, 0, none⟩)) := hF.slot 7 (by kernel_rfl) rfl
    obtain ⟨i0, i1, i2, i3, i4, i5⟩ := hIn.y.inp
    have hyl := hIn.y.lt
    refine wpOp_runI (V := VMF G H x ma mb) (I := FI w Y G H p x ua ub ta tb Ag Ah cg ch ma mb) (R := fun _ _ => True) (v := .agg #[.int .i64 x.ticks, .slice x.B x.heard.length x.hcap, .bool x.ref, .int .i64 x.reading, .bool x.given, .slice x.T x.table.length x.tcap]) (w' := w') rfl rfl ?_ rfl trivial ?_
    · clear hF hO hU hIn; go_simp
    · exact hIn.put (by decide)
  · intro a' w' hF hO hU hIn hR
    obtain ⟨v0, hv0, e34⟩ := hF.get 0 34 (by kernel_rfl) (by kernel_rfl)
    obtain rfl : v0 = _ := hv0
    obtain ⟨v1, hv1, e35⟩ := hF.get 1 35 (by kernel_rfl) (by kernel_rfl)
    obtain rfl : v1 = _ := hv1
    have h36 : a'.tmps[36]? = some undef := (hU 36 rfl).trans rfl
    obtain ⟨hg, hpg⟩ := hIn.beatA h36
    refine wpOp_callI (V := VMF G H x ma mb) (I := FI w Y G H p x ua ub ta tb Ag Ah cg ch ma mb) (R := fun _ _ => True) (f := 16) (args := #[.pointer (some ⟨G, 0, none⟩), .agg #[.int .i64 x.ticks, .slice x.B x.heard.length x.hcap, .bool x.ref, .int .i64 x.reading, .bool x.given, .slice x.T x.table.length x.tcap]]) rfl rfl ?_ ((KBA.out _ hIn.ok hg hpg).mono ?_)
    · clear hF hO hU hIn; go_simp
    · rintro e w2 ⟨A3, c3, A4, c4, rfl, hg2, hon⟩; exact ⟨_, rfl, ⟨A3, c3, rfl⟩, trivial, hIn.afterA h36 hon hg2 HD.out HAG.out⟩
  · intro a' w' hF hO hU hIn hR
    have e10 : a'.tmps[10]? = some (.pointer (some ⟨H, 0, none⟩)) := hF.slot 10 (by kernel_rfl) rfl
    refine wpOp_runI (V := VMF G H x ma mb) (I := FI w Y G H p x ua ub ta tb Ag Ah cg ch ma mb) (R := fun _ _ => True) (v := .pointer (some ⟨H, 0, none⟩)) (w' := w') rfl rfl ?_ rfl trivial ?_
    · clear hF hO hU hIn; go_simp
    · exact hIn.put (by decide)
  · intro a' w' hF hO hU hIn hR
    have e7 : a'.tmps[7]? = some (.pointer (some ⟨Y, 0, none⟩)) := hF.slot 7 (by kernel_rfl) rfl
    obtain ⟨i0, i1, i2, i3, i4, i5⟩ := hIn.y.inp
    have hyl := hIn.y.lt
    refine wpOp_runI (V := VMF G H x ma mb) (I := FI w Y G H p x ua ub ta tb Ag Ah cg ch ma mb) (R := fun _ _ => True) (v := .agg #[.int .i64 x.ticks, .slice x.B x.heard.length x.hcap, .bool x.ref, .int .i64 x.reading, .bool x.given, .slice x.T x.table.length x.tcap]) (w' := w') rfl rfl ?_ rfl trivial ?_
    · clear hF hO hU hIn; go_simp
    · exact hIn.put (by decide)
  · intro a' w' hF hO hU hIn hR
    obtain ⟨v3, hv3, e37⟩ := hF.get 3 37 (by kernel_rfl) (by kernel_rfl)
    obtain rfl : v3 = _ := hv3
    obtain ⟨v4, hv4, e38⟩ := hF.get 4 38 (by kernel_rfl) (by kernel_rfl)
    obtain rfl : v4 = _ := hv4
    have h39 : a'.tmps[39]? = some undef := (hU 39 rfl).trans rfl
    obtain ⟨hg, hpg⟩ := hIn.beatB h39
    refine wpOp_callI (V := VMF G H x ma mb) (I := FI w Y G H p x ua ub ta tb Ag Ah cg ch ma mb) (R := fun _ _ => True) (f := 16) (args := #[.pointer (some ⟨H, 0, none⟩), .agg #[.int .i64 x.ticks, .slice x.B x.heard.length x.hcap, .bool x.ref, .int .i64 x.reading, .bool x.given, .slice x.T x.table.length x.tcap]]) rfl rfl ?_ ((KBB.out _ hIn.ok hg hpg).mono ?_)
    · clear hF hO hU hIn; go_simp
    · rintro e w2 ⟨A3, c3, A4, c4, rfl, hg2, hon⟩; exact ⟨_, rfl, ⟨A3, c3, rfl⟩, trivial, hIn.afterB h39 hon hg2 HD.out HKG.out⟩
  · intro a' w' hF hO hU hIn hR
    have hzero : Sem.run Tryz.prog (zeroValue 47) w' = .ok (.agg #[.int .i64 0, .int .i64 0, .int .i64 0, .int .i64 0, .int .i64 0, .int .i64 0, .bool false, .bool false, .int .i64 0, .int .i64 0, .int .i64 0, .int .i64 0, .int .i64 0, .slice none 0 0]) w' := by kernel_rfl
    refine wpOp_runI (V := VMF G H x ma mb) (I := FI w Y G H p x ua ub ta tb Ag Ah cg ch ma mb) (R := fun _ _ => True) (v := .pointer (some ⟨w'.heap.size, 0, none⟩)) (w' := w'.alloc (.cells #[.int .i64 0, .int .i64 0, .int .i64 0, .int .i64 0, .int .i64 0, .int .i64 0, .bool false, .bool false, .int .i64 0, .int .i64 0, .int .i64 0, .int .i64 0, .int .i64 0, .slice none 0 0] 47)) rfl rfl ?_ ⟨_, rfl⟩ trivial ?_
    · clear hF hO hU hIn; go_simp
    · exact hIn.alloc1 ((hU 11 rfl).trans rfl)
  · intro a' w' hF hO hU hIn hR
    have hzero : Sem.run Tryz.prog (zeroValue 47) w' = .ok (.agg #[.int .i64 0, .int .i64 0, .int .i64 0, .int .i64 0, .int .i64 0, .int .i64 0, .bool false, .bool false, .int .i64 0, .int .i64 0, .int .i64 0, .int .i64 0, .int .i64 0, .slice none 0 0]) w' := by kernel_rfl
    refine wpOp_runI (V := VMF G H x ma mb) (I := FI w Y G H p x ua ub ta tb Ag Ah cg ch ma mb) (R := fun _ _ => True) (v := .pointer (some ⟨w'.heap.size, 0, none⟩)) (w' := w'.alloc (.cells #[.int .i64 0, .int .i64 0, .int .i64 0, .int .i64 0, .int .i64 0, .int .i64 0, .bool false, .bool false, .int .i64 0, .int .i64 0, .int .i64 0, .int .i64 0, .int .i64 0, .slice none 0 0] 47)) rfl rfl ?_ ⟨_, rfl⟩ trivial ?_
    · clear hF hO hU hIn; go_simp
    · exact hIn.alloc2 ((hU 12 rfl).trans rfl)
  intro vs W' hvs hIn hR
  obtain ⟨A3, c3, e2⟩ := hvs 2 (by decide)
  obtain ⟨A5, c5, e5⟩ := hvs 5 (by decide)
  obtain ⟨M, e6⟩ := hvs 6 (by decide)
  obtain ⟨N, e7⟩ := hvs 7 (by decide)
  clear hvs
  simp only [putFrom, e2, e5, e6, e7] at hIn ⊢
  simp only [Act.put, List.setIfInBounds_toArray, List.set_cons_zero, List.set_cons_succ] at hIn ⊢
  obtain ⟨A4, c4, hG⟩ := hIn.doneA (v := msgV ma A3 c3) rfl (by simp [msgV, undef])
  obtain ⟨A6, c6, hH⟩ := hIn.doneB (v := msgV mb A5 c5) rfl (by simp [msgV, undef])
  obtain ⟨hM, hMG, hMH, hMw⟩ := hIn.m M rfl
  obtain ⟨hN, hNG, hNH, hNw⟩ := hIn.n N rfl
  have hMN := hIn.mn M N rfl rfl
  have hok := hIn.ok
  clear hIn
  unfold msgV
  have m0 := hM.cell 0 rfl
  have m1 := hM.cell 1 rfl
  have m2 := hM.cell 2 rfl
  have m3 := hM.cell 3 rfl
  have m4 := hM.cell 4 rfl
  have m5 := hM.cell 5 rfl
  have m6 := hM.cell 6 rfl
  have m7 := hM.cell 7 rfl
  have m8 := hM.cell 8 rfl
  have m9 := hM.cell 9 rfl
  have m10 := hM.cell 10 rfl
  have m11 := hM.cell 11 rfl
  have m12 := hM.cell 12 rfl
  have m13 := hM.cell 13 rfl
  have f0 := hM.frozen 0
  have f1 := hM.frozen 1
  have f2 := hM.frozen 2
  have f3 := hM.frozen 3
  have f4 := hM.frozen 4
  have f5 := hM.frozen 5
  have f6 := hM.frozen 6
  have f7 := hM.frozen 7
  have f8 := hM.frozen 8
  have f9 := hM.frozen 9
  have f10 := hM.frozen 10
  have f11 := hM.frozen 11
  have f12 := hM.frozen 12
  have f13 := hM.frozen 13
  have hml := hM.lt
  refine wpOp_store (w' := ((((((((((((((W'.setCell ⟨M, 0, none⟩ (.int .i64 ma.kind)).setCell ⟨M, 1, none⟩ (.int .i64 ma.frm)).setCell ⟨M, 2, none⟩ (.int .i64 ma.lo)).setCell ⟨M, 3, none⟩ (.int .i64 ma.hi)).setCell ⟨M, 4, none⟩ (.int .i64 ma.held)).setCell ⟨M, 5, none⟩ (.int .i64 ma.hops)).setCell ⟨M, 6, none⟩ (.bool ma.good)).setCell ⟨M, 7, none⟩ (.bool ma.ref)).setCell ⟨M, 8, none⟩ (.int .i64 ma.slo)).setCell ⟨M, 9, none⟩ (.int .i64 ma.shi)).setCell ⟨M, 10, none⟩ (.int .i64 ma.pulse)).setCell ⟨M, 11, none⟩ (.int .i64 ma.time)).setCell ⟨M, 12, none⟩ (.int .i64 ma.num)).setCell ⟨M, 13, none⟩ (.slice A3 ma.table.length c3))) rfl rfl rfl ?_ ?_
  · go_simp
  clear m0 f0 m1 f1 m2 f2 m3 f3 m4 f4 m5 f5 m6 f6 m7 f7 m8 f8 m9 f9 m10 f10 m11 f11 m12 f12 m13 f13 hml
  have hon8 : Only M W' ((((((((((((((W'.setCell ⟨M, 0, none⟩ (.int .i64 ma.kind)).setCell ⟨M, 1, none⟩ (.int .i64 ma.frm)).setCell ⟨M, 2, none⟩ (.int .i64 ma.lo)).setCell ⟨M, 3, none⟩ (.int .i64 ma.hi)).setCell ⟨M, 4, none⟩ (.int .i64 ma.held)).setCell ⟨M, 5, none⟩ (.int .i64 ma.hops)).setCell ⟨M, 6, none⟩ (.bool ma.good)).setCell ⟨M, 7, none⟩ (.bool ma.ref)).setCell ⟨M, 8, none⟩ (.int .i64 ma.slo)).setCell ⟨M, 9, none⟩ (.int .i64 ma.shi)).setCell ⟨M, 10, none⟩ (.int .i64 ma.pulse)).setCell ⟨M, 11, none⟩ (.int .i64 ma.time)).setCell ⟨M, 12, none⟩ (.int .i64 ma.num)).setCell ⟨M, 13, none⟩ (.slice A3 ma.table.length c3)) := (((((((((((((((Only.refl M W').setR 0 (.int .i64 ma.kind)).setR 1 (.int .i64 ma.frm)).setR 2 (.int .i64 ma.lo)).setR 3 (.int .i64 ma.hi)).setR 4 (.int .i64 ma.held)).setR 5 (.int .i64 ma.hops)).setR 6 (.bool ma.good)).setR 7 (.bool ma.ref)).setR 8 (.int .i64 ma.slo)).setR 9 (.int .i64 ma.shi)).setR 10 (.int .i64 ma.pulse)).setR 11 (.int .i64 ma.time)).setR 12 (.int .i64 ma.num)).setR 13 (.slice A3 ma.table.length c3))
  replace hM := own_over14 hM (.int .i64 ma.kind) (.int .i64 ma.frm) (.int .i64 ma.lo) (.int .i64 ma.hi) (.int .i64 ma.held) (.int .i64 ma.hops) (.bool ma.good) (.bool ma.ref) (.int .i64 ma.slo) (.int .i64 ma.shi) (.int .i64 ma.pulse) (.int .i64 ma.time) (.int .i64 ma.num) (.slice A3 ma.table.length c3)
  replace hG := hon8.own hG (Ne.symm hMG)
  replace hH := hon8.own hH (Ne.symm hMH)
  replace hN := hon8.own hN (Ne.symm hMN)
  replace hok := Only.then_ok hok hon8 hMw
  clear hon8
  generalize ((((((((((((((W'.setCell ⟨M, 0, none⟩ (.int .i64 ma.kind)).setCell ⟨M, 1, none⟩ (.int .i64 ma.frm)).setCell ⟨M, 2, none⟩ (.int .i64 ma.lo)).setCell ⟨M, 3, none⟩ (.int .i64 ma.hi)).setCell ⟨M, 4, none⟩ (.int .i64 ma.held)).setCell ⟨M, 5, none⟩ (.int .i64 ma.hops)).setCell ⟨M, 6, none⟩ (.bool ma.good)).setCell ⟨M, 7, none⟩ (.bool ma.ref)).setCell ⟨M, 8, none⟩ (.int .i64 ma.slo)).setCell ⟨M, 9, none⟩ (.int .i64 ma.shi)).setCell ⟨M, 10, none⟩ (.int .i64 ma.pulse)).setCell ⟨M, 11, none⟩ (.int .i64 ma.time)).setCell ⟨M, 12, none⟩ (.int .i64 ma.num)).setCell ⟨M, 13, none⟩ (.slice A3 ma.table.length c3)) = W8 at hM hN hG hH hok ⊢
  have m0 := hN.cell 0 rfl
  have m1 := hN.cell 1 rfl
  have m2 := hN.cell 2 rfl
  have m3 := hN.cell 3 rfl
  have m4 := hN.cell 4 rfl
  have m5 := hN.cell 5 rfl
  have m6 := hN.cell 6 rfl
  have m7 := hN.cell 7 rfl
  have m8 := hN.cell 8 rfl
  have m9 := hN.cell 9 rfl
  have m10 := hN.cell 10 rfl
  have m11 := hN.cell 11 rfl
  have m12 := hN.cell 12 rfl
  have m13 := hN.cell 13 rfl
  have f0 := hN.frozen 0
  have f1 := hN.frozen 1
  have f2 := hN.frozen 2
  have f3 := hN.frozen 3
  have f4 := hN.frozen 4
  have f5 := hN.frozen 5
  have f6 := hN.frozen 6
  have f7 := hN.frozen 7
  have f8 := hN.frozen 8
  have f9 := hN.frozen 9
  have f10 := hN.frozen 10
  have f11 := hN.frozen 11
  have f12 := hN.frozen 12
  have f13 := hN.frozen 13
  have hml := hN.lt
  refine wpOp_store (w' := ((((((((((((((W8.setCell ⟨N, 0, none⟩ (.int .i64 mb.kind)).setCell ⟨N, 1, none⟩ (.int .i64 mb.frm)).setCell ⟨N, 2, none⟩ (.int .i64 mb.lo)).setCell ⟨N, 3, none⟩ (.int .i64 mb.hi)).setCell ⟨N, 4, none⟩ (.int .i64 mb.held)).setCell ⟨N, 5, none⟩ (.int .i64 mb.hops)).setCell ⟨N, 6, none⟩ (.bool mb.good)).setCell ⟨N, 7, none⟩ (.bool mb.ref)).setCell ⟨N, 8, none⟩ (.int .i64 mb.slo)).setCell ⟨N, 9, none⟩ (.int .i64 mb.shi)).setCell ⟨N, 10, none⟩ (.int .i64 mb.pulse)).setCell ⟨N, 11, none⟩ (.int .i64 mb.time)).setCell ⟨N, 12, none⟩ (.int .i64 mb.num)).setCell ⟨N, 13, none⟩ (.slice A5 mb.table.length c5))) rfl rfl rfl ?_ ?_
  · go_simp
  simp only [TailFrom]
  clear m0 f0 m1 f1 m2 f2 m3 f3 m4 f4 m5 f5 m6 f6 m7 f7 m8 f8 m9 f9 m10 f10 m11 f11 m12 f12 m13 f13 hml
  have hon9 : Only N W8 ((((((((((((((W8.setCell ⟨N, 0, none⟩ (.int .i64 mb.kind)).setCell ⟨N, 1, none⟩ (.int .i64 mb.frm)).setCell ⟨N, 2, none⟩ (.int .i64 mb.lo)).setCell ⟨N, 3, none⟩ (.int .i64 mb.hi)).setCell ⟨N, 4, none⟩ (.int .i64 mb.held)).setCell ⟨N, 5, none⟩ (.int .i64 mb.hops)).setCell ⟨N, 6, none⟩ (.bool mb.good)).setCell ⟨N, 7, none⟩ (.bool mb.ref)).setCell ⟨N, 8, none⟩ (.int .i64 mb.slo)).setCell ⟨N, 9, none⟩ (.int .i64 mb.shi)).setCell ⟨N, 10, none⟩ (.int .i64 mb.pulse)).setCell ⟨N, 11, none⟩ (.int .i64 mb.time)).setCell ⟨N, 12, none⟩ (.int .i64 mb.num)).setCell ⟨N, 13, none⟩ (.slice A5 mb.table.length c5)) := (((((((((((((((Only.refl N W8).setR 0 (.int .i64 mb.kind)).setR 1 (.int .i64 mb.frm)).setR 2 (.int .i64 mb.lo)).setR 3 (.int .i64 mb.hi)).setR 4 (.int .i64 mb.held)).setR 5 (.int .i64 mb.hops)).setR 6 (.bool mb.good)).setR 7 (.bool mb.ref)).setR 8 (.int .i64 mb.slo)).setR 9 (.int .i64 mb.shi)).setR 10 (.int .i64 mb.pulse)).setR 11 (.int .i64 mb.time)).setR 12 (.int .i64 mb.num)).setR 13 (.slice A5 mb.table.length c5))
  replace hN := own_over14 hN (.int .i64 mb.kind) (.int .i64 mb.frm) (.int .i64 mb.lo) (.int .i64 mb.hi) (.int .i64 mb.held) (.int .i64 mb.hops) (.bool mb.good) (.bool mb.ref) (.int .i64 mb.slo) (.int .i64 mb.shi) (.int .i64 mb.pulse) (.int .i64 mb.time) (.int .i64 mb.num) (.slice A5 mb.table.length c5)
  replace hG := hon9.own hG (Ne.symm hNG)
  replace hH := hon9.own hH (Ne.symm hNH)
  replace hM := hon9.own hM hMN
  replace hok := Only.then_ok hok hon9 hNw
  clear hon9 e2 e5 e6 e7
  generalize ((((((((((((((W8.setCell ⟨N, 0, none⟩ (.int .i64 mb.kind)).setCell ⟨N, 1, none⟩ (.int .i64 mb.frm)).setCell ⟨N, 2, none⟩ (.int .i64 mb.lo)).setCell ⟨N, 3, none⟩ (.int .i64 mb.hi)).setCell ⟨N, 4, none⟩ (.int .i64 mb.held)).setCell ⟨N, 5, none⟩ (.int .i64 mb.hops)).setCell ⟨N, 6, none⟩ (.bool mb.good)).setCell ⟨N, 7, none⟩ (.bool mb.ref)).setCell ⟨N, 8, none⟩ (.int .i64 mb.slo)).setCell ⟨N, 9, none⟩ (.int .i64 mb.shi)).setCell ⟨N, 10, none⟩ (.int .i64 mb.pulse)).setCell ⟨N, 11, none⟩ (.int .i64 mb.time)).setCell ⟨N, 12, none⟩ (.int .i64 mb.num)).setCell ⟨N, 13, none⟩ (.slice A5 mb.table.length c5)) = W9 at hM hN hG hH hok ⊢
  generalize vs 0 = x20
  generalize vs 1 = x21
  generalize vs 3 = x23
  generalize vs 4 = x24
  clear hR vs
  have q16 := hG.atL 16 (v := .int .i64 ta.held) rfl
  have r16 := hH.atL 16 (v := .int .i64 tb.held) rfl
  have q18 := hG.atL 18 (v := .bool ta.good) rfl
  have r18 := hH.atL 18 (v := .bool tb.good) rfl
  have hGl := hG.lt
  have hHl := hH.lt
  have m2 := hM.cell 2 (v := .int .i64 ma.lo) rfl
  have m3 := hM.cell 3 (v := .int .i64 ma.hi) rfl
  have m7 := hM.cell 7 (v := .bool ma.ref) rfl
  have m8 := hM.cell 8 (v := .int .i64 ma.slo) rfl
  have m9 := hM.cell 9 (v := .int .i64 ma.shi) rfl
  have hml := hM.lt
  have n2 := hN.cell 2 (v := .int .i64 mb.lo) rfl
  have n3 := hN.cell 3 (v := .int .i64 mb.hi) rfl
  have n7 := hN.cell 7 (v := .bool mb.ref) rfl
  have n8 := hN.cell 8 (v := .int .i64 mb.slo) rfl
  have n9 := hN.cell 9 (v := .int .i64 mb.shi) rfl
  have hnl := hN.lt
  clear hM hN hG hH
  have hEQ := HEQ.out
  generalize ta.held = ha at q16 hEQ ⊢
  generalize tb.held = hb at r16 hEQ ⊢
  generalize ta.good = ga at q18 hEQ ⊢
  generalize tb.good = gb at r18 hEQ ⊢
  generalize ma.lo = l1 at m2 hEQ ⊢
  generalize ma.hi = l2 at m3 hEQ ⊢
  generalize ma.ref = l3 at m7 hEQ ⊢
  generalize ma.slo = l4 at m8 hEQ ⊢
  generalize ma.shi = l5 at m9 hEQ ⊢
  generalize mb.lo = k1 at n2 hEQ ⊢
  generalize mb.hi = k2 at n3 hEQ ⊢
  generalize mb.ref = k3 at n7 hEQ ⊢
  generalize mb.slo = k4 at n8 hEQ ⊢
  generalize mb.shi = k5 at n9 hEQ ⊢
  by_cases hz : ha ≠ 0 ∧ hb ≠ 0
  · obtain ⟨h1, h2⟩ := hz
    have d1 : (ha == 0) = false := by simpa using h1
    have d2 : (hb == 0) = false := by simpa using h2
    have d3 : (ha != 0) = true := by simpa using h1
    have d4 : (hb != 0) = true := by simpa using h2
    clear hEQ
    go_wp2_with fail
    go_ret
    exact ⟨rfl, hok⟩
  obtain ⟨rfl, rfl, rfl, rfl, rfl, rfl, rfl, hz2, -⟩ := hEQ hz
  obtain rfl : ha = 0 := by omega
  obtain rfl : hb = 0 := by omega
  clear hEQ hz hz2
  have hE := eqSpan21
  go_upto_region 9 with fail
  go_quiet (fail)
  go_wp2_with fail
  go_ret
  exact ⟨rfl, hok.drewN _⟩
theorem walk (w : World) (p : Par) (wp : ParWf p) (sa : Sta) (A : Option Addr) (ca : Nat) (hA : PairsAt w A sa.table) (hca : sa.table.length ≤ ca) (hma : ca ≤ maxLen) (wsa : StaWf sa) (sb : Sta) (B : Option Addr) (cb : Nat) (hB : PairsAt w B sb.table) (hcb : sb.table.length ≤ cb) (hmb : cb ≤ maxLen) (wsb : StaWf sb) (x : In) (hx : InAt w x) (wx : InWf x) :
    Calls Tryz.prog 7 #[parV p, staV sa A ca, staV sb B cb, inV x] w fun e w' => e = .returned (.bool true) ∧ Below w.heap.size w w' :=
  walkF works22 w p sa sb A B ca cb x hA (Nat.le_trans hca (Nat.le_trans hma (by decide))) hB (Nat.le_trans hcb (Nat.le_trans hmb (by decide))) hx (Nat.le_trans wx.hlen (Nat.le_trans wx.hcap (by decide))) (Nat.le_trans wx.tlen (Nat.le_trans wx.tcap (by decide)))
theorem own : ownKnob Tryz.prog.godebug = none := by kernel_rfl
theorem laidOut : laidOutB Tryz.prog = true := by kernel_rfl
set_option maxRecDepth 100000 in
theorem lifted (os : Os) (started : os.Started) (H : Type) (enc : TypeId × Value → H) :
    ReturnsInHanded {} Tryz.checked os 7 .any (Rows.gateForgetsSpec.pre6 enc Tryz.prog Tryz.f7 Rows.gateForgetsRow.domain false) (Rows.gateForgetsSpec.post enc Tryz.prog Tryz.f7 false true false false) := by
  refine returnsInHanded_of_change (C := Tryz.checked) own started (by kernel_rfl) Tryz.func7
    (ChangeSpec.witness6 (enc := enc) (C := Tryz.checked) false ⟨#[], #[.agg #[.int .i64 0, .int .i64 0, .int .i64 0, .int .i64 0, .int .i64 0, .int .i64 0, .int .i64 0, .int .i64 0, .int .i64 0, .int .i64 0, .int .i64 0, .int .i64 0], .agg #[.int .i64 0, .int .i64 0, .int .i64 0, .bool false, .int .i64 0, .int .i64 0, .bool false, .slice none 0 0, .int .i64 0, .int .i64 0, .int .i64 0], .agg #[.int .i64 0, .int .i64 0, .int .i64 0, .bool false, .int .i64 0, .int .i64 0, .bool false, .slice none 0 0, .int .i64 0, .int .i64 0, .int .i64 0], .agg #[.int .i64 0, .slice none 0 0, .bool false, .int .i64 0, .bool false, .slice none 0 0]], []⟩ 8 (by kernel_rfl) (by kernel_rfl) (by kernel_rfl) (by kernel_rfl)) ?_
  intro W base args ds gs before hval0 hW _ _
  have hval : ∀ (j : Nat) t v, Tryz.f7.params[j]? = some t → args[j]? = some v → Value.okWide Tryz.prog W .any base t v := hval0
  have hW' := hW
  obtain ⟨p, q, hA, hV, rfl, _, _⟩ := hW
  obtain ⟨rfl, rfl⟩ := trodVars_none hV
  replace hA : DataW.TrodAll enc Tryz.prog W 0 (fun _ => true) true Tryz.f7.params.toList args.toList ds p := hA
  rw [Tryz.params7] at hA hval
  obtain ⟨v0, vs0, d0, ds0, p0, q0, hargs, rfl, rfl, h0, r0⟩ := trodAll_cons hA
  obtain ⟨v1, vs1, d1, ds1, p1, q1, rfl, rfl, rfl, h1, r1⟩ := trodAll_cons r0
  obtain ⟨v2, vs2, d2, ds2, p2, q2, rfl, rfl, rfl, h2, r2⟩ := trodAll_cons r1
  obtain ⟨v3, vs3, d3, ds3, p3, q3, rfl, rfl, rfl, h3, r3⟩ := trodAll_cons r2
  obtain ⟨rfl, rfl, rfl⟩ := trodAll_nil r3
  obtain rfl : args = #[v0, v1, v2, v3] := by cases args; simp_all
  obtain ⟨p0, rfl, wp0⟩ := open_par Tryz.underlying23 rfl (by kernel_rfl) (by kernel_rfl) (by kernel_rfl) (hval 0 23 v0 rfl rfl) h0
  obtain ⟨s1, A1, c1, rfl, hA1, hc1, hm1, w1⟩ := open_sta (hval 1 30 v1 rfl rfl) h1
  obtain ⟨s2, A2, c2, rfl, hA2, hc2, hm2, w2⟩ := open_sta (hval 2 30 v2 rfl rfl) h2
  obtain ⟨x3, rfl, hx3, w3⟩ := open_input (hval 3 44 v3 rfl rfl) h3
  refine (walk W p0 wp0 s1 A1 c1 hA1 hc1 hm1 w1 s2 A2 c2 hA2 hc2 hm2 w2 x3 hx3 w3).mono fun e W' ⟨he, hb⟩ => ?_
  subst he
  exact ⟨_, rfl, law_post hW' laidOut (by rw [Tryz.params7]; exact params_ok (by kernel_rfl)) rfl (by kernel_rfl) Tryz.underlying4 rfl rfl rfl hb⟩
theorem over : Rows.gateForgetsRow.holds Tryz.pinned (OpenSpec.ofChange Rows.gateForgetsSpec) :=
  OpenClaim.holds_of_wide 7 Tryz.f7 rfl rfl rfl rfl rfl rfl rfl ⟨rfl, rfl, rfl, rfl, rfl⟩ rfl rfl rfl rfl rfl (by kernel_rfl) Tryz.func7 (by kernel_rfl)
    (of_decide_eq_true (by kernel_rfl)) (by unfold Func.isWrapper; first | (rw [if_pos (by decide +kernel)]; kernel_rfl) | (rw [if_neg (by decide +kernel)]; exact ⟨rfl, rfl⟩))
    (fun os started H enc _ => lifted os started H enc)
theorem proved : Rows.GateForgetsSaid := over
end Go.Proofs.YtmmiboblofopgaaGreat.gateForgets
