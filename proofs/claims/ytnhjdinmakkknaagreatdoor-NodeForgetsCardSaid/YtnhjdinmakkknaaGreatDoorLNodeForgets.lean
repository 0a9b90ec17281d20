import Derived.Test.YtnhjdinmakkknaaGreatDoorC23z
import Derived.Test.YtnhjdinmakkknaaGreatDoorW47
import Derived.Deep.CutRange
import Derived.BigQuiet
namespace Go.Proofs.YtnhjdinmakkknaaGreatDoor.nodeForgets
open Go.ChangeShapes Go.WideShapes Go.ChangeAt Go.RowKit
set_option linter.unusedVariables false
set_option maxRecDepth 100000
attribute [local go_sem ↓] Go.wp_at_zero Go.wp_at_succ
/-- A slice of two inputs. -/
theorem ins_two {w : World} {y x : In} {T : TypeId} {cs : Array Value} (hy : InAt w y) (hx : InAt w x) (e : cs.toList = inL y ++ inL x) : InsAt (w.alloc (.cells cs T)) (some ⟨w.heap.size, 0, none⟩) [y, x] :=
  ⟨CellsAt.new w T cs (by rw [e]; simp) rfl, fun z hz => by
    rcases List.mem_cons.1 hz with rfl | hz
    · exact hy.below ((Ok.refl w).alloc _)
    · rw [List.mem_singleton] at hz
      subst hz
      exact hx.below ((Ok.refl w).alloc _)⟩
/-- The boxes of the arguments. -/
structure BX (Bp Sa Sb Y Z : Nat) (p : Par) (sa sb : Sta) (A B : Option Addr) (ca cb : Nat) (y x : In) (w : World) : Prop where
  p : Own w Bp (parCells p)
  sa : Own w Sa (staCells sa A ca)
  sb : Own w Sb (staCells sb B cb)
  y : Own w Y (inCells y)
  z : Own w Z (inCells x)
theorem BX.next {Bp Sa Sb Y Z : Nat} {p : Par} {sa sb : Sta} {A B : Option Addr} {ca cb : Nat} {y x : In} {w w1 : World} (h : BX Bp Sa Sb Y Z p sa sb A B ca cb y x w) (k : Ok w w1) : BX Bp Sa Sb Y Z p sa sb A B ca cb y x w1 := ⟨h.p.next k, h.sa.next k, h.sb.next k, h.y.next k, h.z.next k⟩
/-- While the two nodes beat: each is as it was, or has beaten; the boxes of what they tell. -/
structure FI (Bp : Nat) (w0 : World) (Z G t b H u c : Nat) (p : Par) (x : In) (ua ub ta tb : Sta) (fa fb ga gb : NF) (ma mb : Msg) (a : Act) (w : World) : Prop where
  bp : Own w Bp (parCells p)
  y : Own w Z (inCells x)
  two : ∃ s1 A1 c1 f1 s2 A2 c2 f2, Two w0 G t b H u c p s1 A1 c1 f1 s2 A2 c2 f2 w ∧ ((a.tmps[45]? = some undef ∧ s1 = ua ∧ f1 = fa) ∨ (∃ A3 c3, a.tmps[45]? = some (msgV ma A3 c3) ∧ s1 = ta ∧ f1 = ga)) ∧ ((a.tmps[48]? = some undef ∧ s2 = ub ∧ f2 = fb) ∨ (∃ A3 c3, a.tmps[48]? = some (msgV mb A3 c3) ∧ s2 = tb ∧ f2 = gb))
  m : ∀ M, a.tmps[13]? = some (.pointer (some ⟨M, 0, none⟩)) → Own w M #[.int .i64 0, .int .i64 0, .int .i64 0, .int .i64 0, .int .i64 0, .int .i64 0, .bool false, .bool false, .int .i64 0, .int .i64 0, .int .i64 0, .int .i64 0, .int .i64 0, .slice none 0 0] ∧ (M ≠ G ∧ M ≠ b ∧ M ≠ H ∧ M ≠ c ∧ M ≠ Bp) ∧ w0.heap.size ≤ M
  n : ∀ M, a.tmps[14]? = some (.pointer (some ⟨M, 0, none⟩)) → Own w M #[.int .i64 0, .int .i64 0, .int .i64 0, .int .i64 0, .int .i64 0, .int .i64 0, .bool false, .bool false, .int .i64 0, .int .i64 0, .int .i64 0, .int .i64 0, .int .i64 0, .slice none 0 0] ∧ (M ≠ G ∧ M ≠ b ∧ M ≠ H ∧ M ≠ c ∧ M ≠ Bp) ∧ w0.heap.size ≤ M
  mn : ∀ M N, a.tmps[13]? = some (.pointer (some ⟨M, 0, none⟩)) → a.tmps[14]? = some (.pointer (some ⟨N, 0, none⟩)) → M ≠ N
namespace FI
variable {Bp : Nat} {w0 : World} {Z G t b H u c : Nat} {p : Par} {x : In} {ua ub ta tb : Sta} {fa fb ga gb : NF} {ma mb : Msg} {a : Act} {w w' : World}
theorem put (h : FI Bp w0 Z G t b H u c p x ua ub ta tb fa fb ga gb ma mb a w) {d : Tmp} {v : Value} (hd : d ≠ 45 ∧ d ≠ 48 ∧ d ≠ 13 ∧ d ≠ 14) : FI Bp w0 Z G t b H u c p x ua ub ta tb fa fb ga gb ma mb (a.put (some d) v) w := by
  obtain ⟨h1, h2, h3, h4⟩ := hd
  have e1 : (a.put (some d) v).tmps[45]? = a.tmps[45]? := put_other (by simpa using h1)
  have e2 : (a.put (some d) v).tmps[48]? = a.tmps[48]? := put_other (by simpa using h2)
  have e3 : (a.put (some d) v).tmps[13]? = a.tmps[13]? := put_other (by simpa using h3)
  have e4 : (a.put (some d) v).tmps[14]? = a.tmps[14]? := put_other (by simpa using h4)
  exact ⟨h.bp, h.y, by rw [e1, e2]; exact h.two, by rw [e3]; exact h.m, by rw [e4]; exact h.n, by rw [e3, e4]; exact h.mn⟩
theorem beatA (h : FI Bp w0 Z G t b H u c p x ua ub ta tb fa fb ga gb ma mb a w) (e : a.tmps[45]? = some undef) : ∃ A1 c1 s2 A2 c2 f2, Two w0 G t b H u c p ua A1 c1 fa s2 A2 c2 f2 w ∧ ((a.tmps[48]? = some undef ∧ s2 = ub ∧ f2 = fb) ∨ (∃ A3 c3, a.tmps[48]? = some (msgV mb A3 c3) ∧ s2 = tb ∧ f2 = gb)) := by
  obtain ⟨s1, A1, c1, f1, s2, A2, c2, f2, hT, h1, h2⟩ := h.two
  rcases h1 with ⟨_, rfl, rfl⟩ | ⟨A3, c3, g, _⟩
  · exact ⟨A1, c1, s2, A2, c2, f2, hT, h2⟩
  · rw [e] at g; simp [msgV, undef] at g
theorem beatB (h : FI Bp w0 Z G t b H u c p x ua ub ta tb fa fb ga gb ma mb a w) (e : a.tmps[48]? = some undef) : ∃ A1 c1 s2 A2 c2 f2, Two w0 H u c G t b p ub A1 c1 fb s2 A2 c2 f2 w ∧ ((a.tmps[45]? = some undef ∧ s2 = ua ∧ f2 = fa) ∨ (∃ A3 c3, a.tmps[45]? = some (msgV ma A3 c3) ∧ s2 = ta ∧ f2 = ga)) := by
  obtain ⟨s1, A1, c1, f1, s2, A2, c2, f2, hT, h1, h2⟩ := h.two
  rcases h2 with ⟨_, rfl, rfl⟩ | ⟨A3, c3, g, _⟩
  · exact ⟨A2, c2, s1, A1, c1, f1, hT.swap, h1⟩
  · rw [e] at g; simp [msgV, undef] at g
theorem done (h : FI Bp w0 Z G t b H u c p x ua ub ta tb fa fb ga gb ma mb a w) {v v' : Value} (e : a.tmps[45]? = some v) (hv : v ≠ undef) (e' : a.tmps[48]? = some v') (hv' : v' ≠ undef) : ∃ A4 c4 A6 c6, Two w0 G t b H u c p ta A4 c4 ga tb A6 c6 gb w := by
  obtain ⟨s1, A1, c1, f1, s2, A2, c2, f2, hT, h1, h2⟩ := h.two
  rcases h1 with ⟨g, _⟩ | ⟨A3, c3, g, rfl, rfl⟩
  · rw [e] at g; exact absurd (Option.some.inj g) hv
  · rcases h2 with ⟨g2, _⟩ | ⟨A5, c5, g2, rfl, rfl⟩
    · rw [e'] at g2; exact absurd (Option.some.inj g2) hv'
    · exact ⟨_, _, _, _, hT⟩
theorem lts (h : FI Bp w0 Z G t b H u c p x ua ub ta tb fa fb ga gb ma mb a w) : (G < w.heap.size ∧ b < w.heap.size) ∧ H < w.heap.size ∧ c < w.heap.size := by
  obtain ⟨s1, A1, c1, f1, s2, A2, c2, f2, hT, h1, h2⟩ := h.two
  exact ⟨⟨hT.g.lt.1, hT.g.lt.2.2⟩, hT.h.lt.1, hT.h.lt.2.2⟩
theorem okk (h : FI Bp w0 Z G t b H u c p x ua ub ta tb fa fb ga gb ma mb a w) : Ok w0 w := by
  obtain ⟨s1, A1, c1, f1, s2, A2, c2, f2, hT, h1, h2⟩ := h.two
  exact hT.ok
theorem twoNext (h : FI Bp w0 Z G t b H u c p x ua ub ta tb fa fb ga gb ma mb a w) (k : Ok w w') : ∃ s1 A1 c1 f1 s2 A2 c2 f2, Two w0 G t b H u c p s1 A1 c1 f1 s2 A2 c2 f2 w' ∧ ((a.tmps[45]? = some undef ∧ s1 = ua ∧ f1 = fa) ∨ (∃ A3 c3, a.tmps[45]? = some (msgV ma A3 c3) ∧ s1 = ta ∧ f1 = ga)) ∧ ((a.tmps[48]? = some undef ∧ s2 = ub ∧ f2 = fb) ∨ (∃ A3 c3, a.tmps[48]? = some (msgV mb A3 c3) ∧ s2 = tb ∧ f2 = gb)) := by
  obtain ⟨s1, A1, c1, f1, s2, A2, c2, f2, hT, h1, h2⟩ := h.two
  exact ⟨s1, A1, c1, f1, s2, A2, c2, f2, hT.next k, h1, h2⟩
theorem afterA (h : FI Bp w0 Z G t b H u c p x ua ub ta tb fa fb ga gb ma mb a w) {A3 A4 A2 : Option Addr} {c3 c4 c2 : Nat} {s2 : Sta} {f2 : NF} (e : a.tmps[45]? = some undef) (hT : Two w0 G t b H u c p ta A4 c4 ga s2 A2 c2 f2 w') (k : OnlyN G b w w') (ho : ((a.tmps[48]? = some undef ∧ s2 = ub ∧ f2 = fb) ∨ (∃ A3 c3, a.tmps[48]? = some (msgV mb A3 c3) ∧ s2 = tb ∧ f2 = gb))) (D : (Z ≠ G ∧ Z ≠ b ∧ Z ≠ H ∧ Z ≠ c) ∧ (Bp ≠ G ∧ Bp ≠ b ∧ Bp ≠ H ∧ Bp ≠ c)) : FI Bp w0 Z G t b H u c p x ua ub ta tb fa fb ga gb ma mb (a.put (some 45) (msgV ma A3 c3)) w' := by
  have e0 : (a.put (some 45) (msgV ma A3 c3)).tmps[45]? = some (msgV ma A3 c3) := put_same (Array.getElem?_eq_some_iff.1 e).1
  have e2 : (a.put (some 45) (msgV ma A3 c3)).tmps[48]? = a.tmps[48]? := put_other (by decide)
  have e3 : (a.put (some 45) (msgV ma A3 c3)).tmps[13]? = a.tmps[13]? := put_other (by decide)
  have e4 : (a.put (some 45) (msgV ma A3 c3)).tmps[14]? = a.tmps[14]? := put_other (by decide)
  refine ⟨k.own h.bp D.2.1 D.2.2.1, k.own h.y D.1.1 D.1.2.1, ?_, ?_, ?_, by rw [e3, e4]; exact h.mn⟩
  · exact ⟨_, _, _, _, _, _, _, _, hT, .inr ⟨A3, c3, e0, rfl, rfl⟩, by rw [e2]; exact ho⟩
  · rw [e3]; exact fun M hM => ⟨k.own (h.m M hM).1 (h.m M hM).2.1.1 (h.m M hM).2.1.2.1, (h.m M hM).2⟩
  · rw [e4]; exact fun M hM => ⟨k.own (h.n M hM).1 (h.n M hM).2.1.1 (h.n M hM).2.1.2.1, (h.n M hM).2⟩
theorem afterB (h : FI Bp w0 Z G t b H u c p x ua ub ta tb fa fb ga gb ma mb a w) {A3 A4 A2 : Option Addr} {c3 c4 c2 : Nat} {s2 : Sta} {f2 : NF} (e : a.tmps[48]? = some undef) (hT : Two w0 H u c G t b p tb A4 c4 gb s2 A2 c2 f2 w') (k : OnlyN H c w w') (ho : ((a.tmps[45]? = some undef ∧ s2 = ua ∧ f2 = fa) ∨ (∃ A3 c3, a.tmps[45]? = some (msgV ma A3 c3) ∧ s2 = ta ∧ f2 = ga))) (D : (Z ≠ G ∧ Z ≠ b ∧ Z ≠ H ∧ Z ≠ c) ∧ (Bp ≠ G ∧ Bp ≠ b ∧ Bp ≠ H ∧ Bp ≠ c)) : FI Bp w0 Z G t b H u c p x ua ub ta tb fa fb ga gb ma mb (a.put (some 48) (msgV mb A3 c3)) w' := by
  have e0 : (a.put (some 48) (msgV mb A3 c3)).tmps[48]? = some (msgV mb A3 c3) := put_same (Array.getElem?_eq_some_iff.1 e).1
  have e2 : (a.put (some 48) (msgV mb A3 c3)).tmps[45]? = a.tmps[45]? := put_other (by decide)
  have e3 : (a.put (some 48) (msgV mb A3 c3)).tmps[13]? = a.tmps[13]? := put_other (by decide)
  have e4 : (a.put (some 48) (msgV mb A3 c3)).tmps[14]? = a.tmps[14]? := put_other (by decide)
  refine ⟨k.own h.bp D.2.2.2.1 D.2.2.2.2, k.own h.y D.1.2.2.1 D.1.2.2.2, ?_, ?_, ?_, by rw [e3, e4]; exact h.mn⟩
  · exact ⟨_, _, _, _, _, _, _, _, hT.swap, by rw [e2]; exact ho, .inr ⟨A3, c3, e0, rfl, rfl⟩⟩
  · rw [e3]; exact fun M hM => ⟨k.own (h.m M hM).1 (h.m M hM).2.1.2.2.1 (h.m M hM).2.1.2.2.2.1, (h.m M hM).2⟩
  · rw [e4]; exact fun M hM => ⟨k.own (h.n M hM).1 (h.n M hM).2.1.2.2.1 (h.n M hM).2.1.2.2.2.1, (h.n M hM).2⟩
theorem alloc1 (h : FI Bp w0 Z G t b H u c p x ua ub ta tb fa fb ga gb ma mb a w) (e : a.tmps[13]? = some undef) : FI Bp w0 Z G t b H u c p x ua ub ta tb fa fb ga gb ma mb (a.put (some 13) (.pointer (some ⟨w.heap.size, 0, none⟩))) (w.alloc (.cells #[.int .i64 0, .int .i64 0, .int .i64 0, .int .i64 0, .int .i64 0, .int .i64 0, .bool false, .bool false, .int .i64 0, .int .i64 0, .int .i64 0, .int .i64 0, .int .i64 0, .slice none 0 0] 51)) := by
  have e0 : (a.put (some 13) (.pointer (some ⟨w.heap.size, 0, none⟩))).tmps[13]? = some (.pointer (some ⟨w.heap.size, 0, none⟩)) := put_same (Array.getElem?_eq_some_iff.1 e).1
  have e1 : (a.put (some 13) (.pointer (some ⟨w.heap.size, 0, none⟩))).tmps[45]? = a.tmps[45]? := put_other (by decide)
  have e2 : (a.put (some 13) (.pointer (some ⟨w.heap.size, 0, none⟩))).tmps[48]? = a.tmps[48]? := put_other (by decide)
  have e4 : (a.put (some 13) (.pointer (some ⟨w.heap.size, 0, none⟩))).tmps[14]? = a.tmps[14]? := put_other (by decide)
  have hl := h.lts
  have hpl := h.bp.lt
  have k := (Ok.refl w).alloc (.cells #[.int .i64 0, .int .i64 0, .int .i64 0, .int .i64 0, .int .i64 0, .int .i64 0, .bool false, .bool false, .int .i64 0, .int .i64 0, .int .i64 0, .int .i64 0, .int .i64 0, .slice none 0 0] 51)
  refine ⟨h.bp.next k, h.y.next k, by rw [e1, e2]; exact h.twoNext k, fun M hM => ?_, by rw [e4]; exact fun M hM => ⟨(h.n M hM).1.next k, (h.n M hM).2⟩, fun M N hM hN => ?_⟩
  · rw [e0] at hM
    cases hM
    exact ⟨Own.new _ _ _ rfl, ⟨by omega, by omega, by omega, by omega, by omega⟩, h.okk.size⟩
  · rw [e0] at hM
    rw [e4] at hN
    cases hM
    have := (h.n N hN).1.lt
    omega
theorem alloc2 (h : FI Bp w0 Z G t b H u c p x ua ub ta tb fa fb ga gb ma mb a w) (e : a.tmps[14]? = some undef) : FI Bp w0 Z G t b H u c p x ua ub ta tb fa fb ga gb ma mb (a.put (some 14) (.pointer (some ⟨w.heap.size, 0, none⟩))) (w.alloc (.cells #[.int .i64 0, .int .i64 0, .int .i64 0, .int .i64 0, .int .i64 0, .int .i64 0, .bool false, .bool false, .int .i64 0, .int .i64 0, .int .i64 0, .int .i64 0, .int .i64 0, .slice none 0 0] 51)) := by
  have e0 : (a.put (some 14) (.pointer (some ⟨w.heap.size, 0, none⟩))).tmps[14]? = some (.pointer (some ⟨w.heap.size, 0, none⟩)) := put_same (Array.getElem?_eq_some_iff.1 e).1
  have e1 : (a.put (some 14) (.pointer (some ⟨w.heap.size, 0, none⟩))).tmps[45]? = a.tmps[45]? := put_other (by decide)
  have e2 : (a.put (some 14) (.pointer (some ⟨w.heap.size, 0, none⟩))).tmps[48]? = a.tmps[48]? := put_other (by decide)
  have e4 : (a.put (some 14) (.pointer (some ⟨w.heap.size, 0, none⟩))).tmps[13]? = a.tmps[13]? := put_other (by decide)
  have hl := h.lts
  have hpl := h.bp.lt
  have k := (Ok.refl w).alloc (.cells #[.int .i64 0, .int .i64 0, .int .i64 0, .int .i64 0, .int .i64 0, .int .i64 0, .bool false, .bool false, .int .i64 0, .int .i64 0, .int .i64 0, .int .i64 0, .int .i64 0, .slice none 0 0] 51)
  refine ⟨h.bp.next k, h.y.next k, by rw [e1, e2]; exact h.twoNext k, by rw [e4]; exact fun M hM => ⟨(h.m M hM).1.next k, (h.m M hM).2⟩, fun M hM => ?_, fun M N hM hN => ?_⟩
  · rw [e0] at hM
    cases hM
    exact ⟨Own.new _ _ _ rfl, ⟨by omega, by omega, by omega, by omega, by omega⟩, h.okk.size⟩
  · rw [e0] at hN
    rw [e4] at hM
    cases hN
    have := (h.m M hM).1.lt
    omega
end FI
/-- What each operation of the two beats leaves. -/
def VMF (G H : Nat) (x : In) (ma mb : Msg) (i : Nat) (v : Value) (_ : World) : Prop := match i with
  | 0 => v = .pointer (some ⟨G, 0, none⟩)
  | 1 => v = .agg #[.int .i64 x.ticks, .slice x.B x.heard.length x.hcap, .bool x.ref, .int .i64 x.reading, .bool x.given, .slice x.T x.table.length x.tcap]
  | 2 => ∃ A3 c3, v = msgV ma A3 c3
  | 3 => v = .pointer (some ⟨H, 0, none⟩)
  | 4 => v = .agg #[.int .i64 x.ticks, .slice x.B x.heard.length x.hcap, .bool x.ref, .int .i64 x.reading, .bool x.given, .slice x.T x.table.length x.tcap]
  | 5 => ∃ A3 c3, v = msgV mb A3 c3
  | 6 => ∃ M, v = .pointer (some ⟨M, 0, none⟩)
  | 7 => ∃ M, v = .pointer (some ⟨M, 0, none⟩)
  | _ => v = .bool true
/-- What each operation leaves. -/
def VMNor (B0 : Nat) (p : Par) (sa sb ua : Sta) (A B : Option Addr) (ca cb : Nat) (w : World) (v : Value) : Nat → Prop
  | 0 => v = parV p
  | 1 => v = .agg #[.int .i64 sa.lo, .int .i64 sa.hi, .int .i64 sa.time, .bool sa.set, .int .i64 sa.held, .int .i64 sa.hops, .bool sa.good, .slice A sa.table.length ca, .int .i64 sa.st, .int .i64 sa.sn, .int .i64 sa.life]
  | 2 => ∃ (G t b : Nat) (A2 : Option Addr) (c2 : Nat), v = .pointer (some ⟨G, 0, none⟩) ∧ NodeAt w G t b 20 p ua A2 c2 Mem.nobody ∧ PairsAt w A2 ua.table ∧ (∀ a, A2 = some a → a.block < w.heap.size) ∧ B0 ≤ G ∧ B0 ≤ b
  | 3 => v = parV p
  | 4 => v = .agg #[.int .i64 sb.lo, .int .i64 sb.hi, .int .i64 sb.time, .bool sb.set, .int .i64 sb.held, .int .i64 sb.hops, .bool sb.good, .slice B sb.table.length cb, .int .i64 sb.st, .int .i64 sb.sn, .int .i64 sb.life]
  | _ => v = .bool true
/-- It stays so. -/
def VCNor (B0 : Nat) (p : Par) (sa sb ua : Sta) (A B : Option Addr) (ca cb : Nat) (i : Nat) (v : Value) (w : World) : Prop := ∀ w', Ok w w' → VMNor B0 p sa sb ua A B ca cb w' v i
set_option maxHeartbeats 25600000 in
theorem walkF (w : World) (hpow : Pow w) (p : Par) (sa sb : Sta) (A B : Option Addr) (ca cb : Nat) (y x : In) (hA : PairsAt w A sa.table) (hla : sa.table.length ≤ 9223372036854775807) (hB : PairsAt w B sb.table) (hlb : sb.table.length ≤ 9223372036854775807) (hy : InAt w y) (hyh : y.heard.length ≤ 9223372036854775807) (hx : InAt w x) (hxh : x.heard.length ≤ 9223372036854775807) (hwy : ∀ h ∈ y.heard, (Lit.int .i64 h.m.frm).wf = true) (hwx : ∀ h ∈ x.heard, (Lit.int .i64 h.m.frm).wf = true) :
    Calls Tryz.prog 8 #[parV p, staV sa A ca, staV sb B cb, inV y, inV x] w fun e w' => e = .returned (.bool true) ∧ Ok w w' := by
  have KAL := Lib.hid fun W' (k : Ok w W') => law23Alive W' (hpow.next k)
  have KCH := Lib.hid fun w => limCheck p w
  obtain ⟨lga, hlga⟩ : ∃ b, great23 sa [y, x] = b := ⟨_, rfl⟩
  obtain ⟨lgb, hlgb⟩ : ∃ b, great23 sb [] = b := ⟨_, rfl⟩
  have HX0 := Lib.hid fun (W' : World) (k : Ok w W') => And.intro (hy.below k) (hx.below k)
  have KGA : Hid (∀ (W' : World), Ok w W' → Calls Tryz.prog 10 #[.agg #[.int .i64 sa.lo, .int .i64 sa.hi, .int .i64 sa.time, .bool sa.set, .int .i64 sa.held, .int .i64 sa.hops, .bool sa.good, .slice A sa.table.length ca, .int .i64 sa.st, .int .i64 sa.sn, .int .i64 sa.life], .slice (some ⟨W'.heap.size, 0, none⟩) 2 2] (W'.alloc (.cells #[.int .i64 y.ticks, .slice y.B y.heard.length y.hcap, .bool y.ref, .int .i64 y.reading, .bool y.given, .slice y.T y.table.length y.tcap, .int .i64 x.ticks, .slice x.B x.heard.length x.hcap, .bool x.ref, .int .i64 x.reading, .bool x.given, .slice x.T x.table.length x.tcap] 49)) fun e w' => e = .returned (.bool lga) ∧ Ok (W'.alloc (.cells #[.int .i64 y.ticks, .slice y.B y.heard.length y.hcap, .bool y.ref, .int .i64 y.reading, .bool y.given, .slice y.T y.table.length y.tcap, .int .i64 x.ticks, .slice x.B x.heard.length x.hcap, .bool x.ref, .int .i64 x.reading, .bool x.given, .slice x.T x.table.length x.tcap] 49)) w') := Lib.hid fun W' h0 => by
    have h : InsAt (W'.alloc (.cells #[.int .i64 y.ticks, .slice y.B y.heard.length y.hcap, .bool y.ref, .int .i64 y.reading, .bool y.given, .slice y.T y.table.length y.tcap, .int .i64 x.ticks, .slice x.B x.heard.length x.hcap, .bool x.ref, .int .i64 x.reading, .bool x.given, .slice x.T x.table.length x.tcap] 49)) (some ⟨W'.heap.size, 0, none⟩) [y, x] := ins_two (HX0.out _ h0).1 (HX0.out _ h0).2 rfl
    have k := law23Great sa A ca (some ⟨W'.heap.size, 0, none⟩) [y, x] 2 _ h (by simp) (fun z hz => by
      rcases List.mem_cons.1 hz with rfl | hz
      · exact hyh
      · rw [List.mem_singleton] at hz; subst hz; exact hxh)
    rw [hlga] at k
    exact k
  have KGB : Hid (∀ (W' : World), Calls Tryz.prog 10 #[.agg #[.int .i64 sb.lo, .int .i64 sb.hi, .int .i64 sb.time, .bool sb.set, .int .i64 sb.held, .int .i64 sb.hops, .bool sb.good, .slice B sb.table.length cb, .int .i64 sb.st, .int .i64 sb.sn, .int .i64 sb.life], .slice none 0 0] W' fun e w' => e = .returned (.bool lgb) ∧ Ok W' w') := Lib.hid fun W' => by
    have k := law23Great sb B cb none [] 0 W' ⟨CellsAt.empty _ _, fun y hy => absurd hy (by simp)⟩ (by simp) (fun y hy => absurd hy (by simp))
    rw [hlgb] at k
    exact k
  have HLA := Lib.hid fun (h : lga = false) => great23_few (hlga.trans h)
  obtain ⟨ua, hua⟩ : ∃ z, Health.sane p sa = z := ⟨_, rfl⟩
  obtain ⟨ub, hub⟩ : ∃ z, Health.sane p sb = z := ⟨_, rfl⟩
  have hult : ua.table.length ≤ 1000 ∧ ub.table.length ≤ 1000 := by rw [← hua, ← hub]; exact ⟨saneTable23 p sa, saneTable23 p sb⟩
  obtain ⟨va, hva⟩ : ∃ z, Nod.then p ua Mem.nobody y = z := ⟨_, rfl⟩
  obtain ⟨vb, hvb⟩ : ∃ z, Nod.then p ub Mem.nobody y = z := ⟨_, rfl⟩
  have hvlt : va.table.length ≤ 1000 ∧ vb.table.length ≤ 1000 := by rw [← hva, ← hvb]; exact ⟨Nod.then_table _ _ _ _, Nod.then_table _ _ _ _⟩
  obtain ⟨na, hna⟩ : ∃ z, Nod.told p ua Mem.nobody y = z := ⟨_, rfl⟩
  obtain ⟨nb, hnb⟩ : ∃ z, Nod.told p ub Mem.nobody y = z := ⟨_, rfl⟩
  obtain ⟨f1, hf1⟩ : ∃ z, Nod.near Mem.nobody y = z := ⟨_, rfl⟩
  obtain ⟨f2, hf2⟩ : ∃ z, Nod.near f1 x = z := ⟨_, rfl⟩
  obtain ⟨ta, hta⟩ : ∃ z, Nod.then p va f1 x = z := ⟨_, rfl⟩
  obtain ⟨tb, htb⟩ : ∃ z, Nod.then p vb f1 x = z := ⟨_, rfl⟩
  obtain ⟨ma, hma⟩ : ∃ z, Nod.told p va f1 x = z := ⟨_, rfl⟩
  obtain ⟨mb, hmb⟩ : ∃ z, Nod.told p vb f1 x = z := ⟨_, rfl⟩
  have HEQ0 : Hid (Lim.May p → ta.hops = tb.hops ∧ (ta.hops ≤ p.d → ma.lo = mb.lo ∧ ma.hi = mb.hi ∧ ma.held = mb.held ∧ ma.hops = mb.hops ∧ ma.good = true ∧ mb.good = true)) := Lib.hid fun hm => by
    have k := Nod.forgets hm va vb x.ticks ((Nod.known HA.hd 20 f1 x.heard).1.map HA.hd) _ _ rfl rfl
    rw [← hta, ← htb, ← hma, ← hmb]
    exact ⟨k.1, fun h => by obtain ⟨k1, k2, k3, k4, k5⟩ := k.2 h; exact ⟨k1, k2, k3, k.1, k4, k5⟩⟩
  have KNA0 := Lib.hid fun W' (k : Ok w W') => nodeNew p 20 sa A ca W' (hA.below k) hla
  have KNB0 := Lib.hid fun W' (k : Ok w W') => nodeNew p 20 sb B cb W' (hB.below k) hlb
  rw [hua] at KNA0
  rw [hub] at KNB0
  have KY : Hid (Lim.May p → lga = false → ∀ s : Sta, s.table.length ≤ 1000 → ∀ (m : Msg) (s' : Sta), Nod.told p s Mem.nobody y = m → Nod.then p s Mem.nobody y = s' → (∀ (G t b H u c : Nat) (A1 : Option Addr) (c1 : Nat) (s2 : Sta) (A2 : Option Addr) (c2 : Nat) (fq : NF) (W' : World), Two w G t b H u c p s A1 c1 Mem.nobody s2 A2 c2 fq W' → Calls Tryz.prog 14 #[.pointer (some ⟨G, 0, none⟩), .agg #[.int .i64 y.ticks, .slice y.B y.heard.length y.hcap, .bool y.ref, .int .i64 y.reading, .bool y.given, .slice y.T y.table.length y.tcap]] W' fun e w' => ∃ A3 c3 A4 c4, e = .returned (msgV m A3 c3) ∧ Two w G t b H u c p s' A4 c4 f1 s2 A2 c2 fq w' ∧ OnlyN G b W' w')) := Lib.hid fun hm hl s hs m s' e1 e2 => by
    have hfew := HLA.out hl
    refine ?_
    intro G t b H u c A1 c1 s2 A2 c2 f2' W' hT
    have k := beatTwo hT y hy.heard hm (hfew.heard _ (List.mem_cons_self)) hwy (hfew.told _ (List.mem_cons_self)) hpow hs
    rw [e1, e2, hf1] at k
    exact k
  have KX : Hid (Lim.May p → lga = false → ∀ s : Sta, s.table.length ≤ 1000 → ∀ (m : Msg) (s' : Sta), Nod.told p s f1 x = m → Nod.then p s f1 x = s' → (∀ (G t b H u c : Nat) (A1 : Option Addr) (c1 : Nat) (s2 : Sta) (A2 : Option Addr) (c2 : Nat) (fq : NF) (W' : World), Two w G t b H u c p s A1 c1 f1 s2 A2 c2 fq W' → Calls Tryz.prog 14 #[.pointer (some ⟨G, 0, none⟩), .agg #[.int .i64 x.ticks, .slice x.B x.heard.length x.hcap, .bool x.ref, .int .i64 x.reading, .bool x.given, .slice x.T x.table.length x.tcap]] W' fun e w' => ∃ A3 c3 A4 c4, e = .returned (msgV m A3 c3) ∧ Two w G t b H u c p s' A4 c4 f2 s2 A2 c2 fq w' ∧ OnlyN G b W' w')) := Lib.hid fun hm hl s hs m s' e1 e2 => by
    have hfew := HLA.out hl
    refine ?_
    intro G t b H u c A1 c1 s2 A2 c2 f2' W' hT
    have k := beatTwo hT x hx.heard hm (hfew.heard _ (List.mem_cons_of_mem _ List.mem_cons_self)) hwx (hfew.told _ (List.mem_cons_of_mem _ List.mem_cons_self)) hpow hs
    rw [e1, e2, hf2] at k
    exact k
  have KB1' := Lib.hid fun hm hl => KY.out hm hl ua hult.1 na va hna hva
  have KB2' := Lib.hid fun hm hl => KY.out hm hl ub hult.2 nb vb hnb hvb
  have KBA' := Lib.hid fun hm hl => KX.out hm hl va hvlt.1 ma ta hma hta
  have KBB' := Lib.hid fun hm hl => KX.out hm hl vb hvlt.2 mb tb hmb htb
  clear hlga hlgb HLA hua hub hult hva hvb hvlt hna hnb hf1 hf2 hta htb hma hmb hA hla hB hlb hx hxh hy hyh KY KX hwy hwx
  have hX : BX w.heap.size (w.heap.size + 1) (w.heap.size + 2) (w.heap.size + 3) (w.heap.size + 4) p sa sb A B ca cb y x (((((w.alloc (.cells (parCells p) 23)).alloc (.cells (staCells sa A ca) 30)).alloc (.cells (staCells sb B cb) 30)).alloc (.cells (inCells y) 49)).alloc (.cells (inCells x) 49)) :=
    ⟨((((Own.new w (parCells p) 23 rfl).alloc _).alloc _).alloc _).alloc _, (((Own.new (w.alloc (.cells (parCells p) 23)) (staCells sa A ca) 30 (g := w.heap.size + 1) (by simp)).alloc _).alloc _).alloc _, ((Own.new ((w.alloc (.cells (parCells p) 23)).alloc (.cells (staCells sa A ca) 30)) (staCells sb B cb) 30 (g := w.heap.size + 2) (by simp)).alloc _).alloc _, (Own.new (((w.alloc (.cells (parCells p) 23)).alloc (.cells (staCells sa A ca) 30)).alloc (.cells (staCells sb B cb) 30)) (inCells y) 49 (g := w.heap.size + 3) (by simp)).alloc _, Own.new ((((w.alloc (.cells (parCells p) 23)).alloc (.cells (staCells sa A ca) 30)).alloc (.cells (staCells sb B cb) 30)).alloc (.cells (inCells y) 49)) (inCells x) 49 (g := w.heap.size + 4) (by simp)⟩
  have hok : Ok w (((((w.alloc (.cells (parCells p) 23)).alloc (.cells (staCells sa A ca) 30)).alloc (.cells (staCells sb B cb) 30)).alloc (.cells (inCells y) 49)).alloc (.cells (inCells x) 49)) := (((((Ok.refl w).alloc _).alloc _).alloc _).alloc _).alloc _
  unfold inV
  go_enter Tryz.func8, Tryz.ntmps8
  go_upto_region 1 with fail
  change Code.wp _ _ _ _ (((((w.alloc (.cells (parCells p) 23)).alloc (.cells (staCells sa A ca) 30)).alloc (.cells (staCells sb B cb) 30)).alloc (.cells (inCells y) 49)).alloc (.cells (inCells x) 49))
  generalize (((((w.alloc (.cells (parCells p) 23)).alloc (.cells (staCells sa A ca) 30)).alloc (.cells (staCells sb B cb) 30)).alloc (.cells (inCells y) 49)).alloc (.cells (inCells x) 49)) = W at hX hok ⊢
  obtain ⟨Z, hZe⟩ : ∃ z, w.heap.size + 4 = z := ⟨_, rfl⟩
  obtain ⟨Y, hYe⟩ : ∃ z, w.heap.size + 3 = z := ⟨_, rfl⟩
  obtain ⟨Sb, hSb⟩ : ∃ z, w.heap.size + 2 = z := ⟨_, rfl⟩
  obtain ⟨Sa, hSa⟩ : ∃ z, w.heap.size + 1 = z := ⟨_, rfl⟩
  obtain ⟨Bp, hBp⟩ : ∃ z, w.heap.size = z := ⟨_, rfl⟩
  rw [hZe, hYe, hSb, hSa, hBp] at hX
  rw [hZe, hYe, hSb, hSa, hBp]
  clear hZe hYe hSb hSa hBp
  go_upto_region 3 with (go_at_call 9; (with_reducible refine (KAL.out _ hok).mono ?_); rintro e w1 ⟨rfl, hb1⟩; replace hX := hX.next hb1; replace hok := hok.trans hb1; clear hb1)
  go_cut [30] from 17 to 30 (fun v wx => ∃ b, v = .bool b ∧ (b = false → Lim.May p ∧ lga = false) ∧ BX Bp Sa Sb Y Z p sa sb A B ca cb y x wx ∧ Ok w wx)
  case first =>
    obtain ⟨s0, s1, s2, s3, s4, s5, s6, s7, s8, s9, s10⟩ := hX.sa.sta; have hsl := hX.sa.lt; obtain ⟨t0, t1, t2, t3, t4, t5, t6, t7, t8, t9, t10⟩ := hX.sb.sta; have htl := hX.sb.lt; obtain ⟨c0, c1, c2, c3, c4, c5, c6, c7, c8, c9, c10, c11⟩ := hX.p.pars; have hpl := hX.p.lt; obtain ⟨i0, i1, i2, i3, i4, i5⟩ := hX.y.inp; have hyl := hX.y.lt; obtain ⟨j0, j1, j2, j3, j4, j5⟩ := hX.z.inp; have hzl := hX.z.lt
    by_cases h0 : Lim.May p
    · rw [show Lim.check p = 0 from if_pos h0] at KCH
      have HM := Lib.hid h0
      clear h0
      cases lga with
      | true =>
        go_wp2_with (first | (go_at_call 20; refine (KCH.out _).mono ?_; rintro e w2 ⟨rfl, hb1⟩; clear s0 s1 s2 s3 s4 s5 s6 s7 s8 s9 s10 hsl t0 t1 t2 t3 t4 t5 t6 t7 t8 t9 t10 htl c0 c1 c2 c3 c4 c5 c6 c7 c8 c9 c10 c11 hpl i0 i1 i2 i3 i4 i5 hyl j0 j1 j2 j3 j4 j5 hzl; replace hX := hX.next hb1; replace hok := hok.trans hb1; clear hb1; obtain ⟨s0, s1, s2, s3, s4, s5, s6, s7, s8, s9, s10⟩ := hX.sa.sta; have hsl := hX.sa.lt; obtain ⟨t0, t1, t2, t3, t4, t5, t6, t7, t8, t9, t10⟩ := hX.sb.sta; have htl := hX.sb.lt; obtain ⟨c0, c1, c2, c3, c4, c5, c6, c7, c8, c9, c10, c11⟩ := hX.p.pars; have hpl := hX.p.lt; obtain ⟨i0, i1, i2, i3, i4, i5⟩ := hX.y.inp; have hyl := hX.y.lt; obtain ⟨j0, j1, j2, j3, j4, j5⟩ := hX.z.inp; have hzl := hX.z.lt) | (go_at_call 10; first | (with_reducible refine (KGA.out _ hok).mono ?_; rintro e w3 ⟨rfl, hb1⟩; clear s0 s1 s2 s3 s4 s5 s6 s7 s8 s9 s10 hsl t0 t1 t2 t3 t4 t5 t6 t7 t8 t9 t10 htl c0 c1 c2 c3 c4 c5 c6 c7 c8 c9 c10 c11 hpl i0 i1 i2 i3 i4 i5 hyl j0 j1 j2 j3 j4 j5 hzl; replace hb1 := ((Ok.refl _).alloc _).trans hb1; replace hX := hX.next hb1; replace hok := hok.trans hb1; clear hb1; obtain ⟨s0, s1, s2, s3, s4, s5, s6, s7, s8, s9, s10⟩ := hX.sa.sta; have hsl := hX.sa.lt; obtain ⟨t0, t1, t2, t3, t4, t5, t6, t7, t8, t9, t10⟩ := hX.sb.sta; have htl := hX.sb.lt; obtain ⟨c0, c1, c2, c3, c4, c5, c6, c7, c8, c9, c10, c11⟩ := hX.p.pars; have hpl := hX.p.lt; obtain ⟨i0, i1, i2, i3, i4, i5⟩ := hX.y.inp; have hyl := hX.y.lt; obtain ⟨j0, j1, j2, j3, j4, j5⟩ := hX.z.inp; have hzl := hX.z.lt) | (with_reducible refine (KGB.out _).mono ?_; rintro e w3 ⟨rfl, hb1⟩; clear s0 s1 s2 s3 s4 s5 s6 s7 s8 s9 s10 hsl t0 t1 t2 t3 t4 t5 t6 t7 t8 t9 t10 htl c0 c1 c2 c3 c4 c5 c6 c7 c8 c9 c10 c11 hpl i0 i1 i2 i3 i4 i5 hyl j0 j1 j2 j3 j4 j5 hzl; replace hX := hX.next hb1; replace hok := hok.trans hb1; clear hb1; obtain ⟨s0, s1, s2, s3, s4, s5, s6, s7, s8, s9, s10⟩ := hX.sa.sta; have hsl := hX.sa.lt; obtain ⟨t0, t1, t2, t3, t4, t5, t6, t7, t8, t9, t10⟩ := hX.sb.sta; have htl := hX.sb.lt; obtain ⟨c0, c1, c2, c3, c4, c5, c6, c7, c8, c9, c10, c11⟩ := hX.p.pars; have hpl := hX.p.lt; obtain ⟨i0, i1, i2, i3, i4, i5⟩ := hX.y.inp; have hyl := hX.y.lt; obtain ⟨j0, j1, j2, j3, j4, j5⟩ := hX.z.inp; have hzl := hX.z.lt)))
        go_meet
        exact ⟨true, rfl, fun h => by (cases h), hX, hok⟩
      | false =>
        cases lgb with
        | true =>
          go_wp2_with (first | (go_at_call 20; refine (KCH.out _).mono ?_; rintro e w2 ⟨rfl, hb1⟩; clear s0 s1 s2 s3 s4 s5 s6 s7 s8 s9 s10 hsl t0 t1 t2 t3 t4 t5 t6 t7 t8 t9 t10 htl c0 c1 c2 c3 c4 c5 c6 c7 c8 c9 c10 c11 hpl i0 i1 i2 i3 i4 i5 hyl j0 j1 j2 j3 j4 j5 hzl; replace hX := hX.next hb1; replace hok := hok.trans hb1; clear hb1; obtain ⟨s0, s1, s2, s3, s4, s5, s6, s7, s8, s9, s10⟩ := hX.sa.sta; have hsl := hX.sa.lt; obtain ⟨t0, t1, t2, t3, t4, t5, t6, t7, t8, t9, t10⟩ := hX.sb.sta; have htl := hX.sb.lt; obtain ⟨c0, c1, c2, c3, c4, c5, c6, c7, c8, c9, c10, c11⟩ := hX.p.pars; have hpl := hX.p.lt; obtain ⟨i0, i1, i2, i3, i4, i5⟩ := hX.y.inp; have hyl := hX.y.lt; obtain ⟨j0, j1, j2, j3, j4, j5⟩ := hX.z.inp; have hzl := hX.z.lt) | (go_at_call 10; first | (with_reducible refine (KGA.out _ hok).mono ?_; rintro e w3 ⟨rfl, hb1⟩; clear s0 s1 s2 s3 s4 s5 s6 s7 s8 s9 s10 hsl t0 t1 t2 t3 t4 t5 t6 t7 t8 t9 t10 htl c0 c1 c2 c3 c4 c5 c6 c7 c8 c9 c10 c11 hpl i0 i1 i2 i3 i4 i5 hyl j0 j1 j2 j3 j4 j5 hzl; replace hb1 := ((Ok.refl _).alloc _).trans hb1; replace hX := hX.next hb1; replace hok := hok.trans hb1; clear hb1; obtain ⟨s0, s1, s2, s3, s4, s5, s6, s7, s8, s9, s10⟩ := hX.sa.sta; have hsl := hX.sa.lt; obtain ⟨t0, t1, t2, t3, t4, t5, t6, t7, t8, t9, t10⟩ := hX.sb.sta; have htl := hX.sb.lt; obtain ⟨c0, c1, c2, c3, c4, c5, c6, c7, c8, c9, c10, c11⟩ := hX.p.pars; have hpl := hX.p.lt; obtain ⟨i0, i1, i2, i3, i4, i5⟩ := hX.y.inp; have hyl := hX.y.lt; obtain ⟨j0, j1, j2, j3, j4, j5⟩ := hX.z.inp; have hzl := hX.z.lt) | (with_reducible refine (KGB.out _).mono ?_; rintro e w3 ⟨rfl, hb1⟩; clear s0 s1 s2 s3 s4 s5 s6 s7 s8 s9 s10 hsl t0 t1 t2 t3 t4 t5 t6 t7 t8 t9 t10 htl c0 c1 c2 c3 c4 c5 c6 c7 c8 c9 c10 c11 hpl i0 i1 i2 i3 i4 i5 hyl j0 j1 j2 j3 j4 j5 hzl; replace hX := hX.next hb1; replace hok := hok.trans hb1; clear hb1; obtain ⟨s0, s1, s2, s3, s4, s5, s6, s7, s8, s9, s10⟩ := hX.sa.sta; have hsl := hX.sa.lt; obtain ⟨t0, t1, t2, t3, t4, t5, t6, t7, t8, t9, t10⟩ := hX.sb.sta; have htl := hX.sb.lt; obtain ⟨c0, c1, c2, c3, c4, c5, c6, c7, c8, c9, c10, c11⟩ := hX.p.pars; have hpl := hX.p.lt; obtain ⟨i0, i1, i2, i3, i4, i5⟩ := hX.y.inp; have hyl := hX.y.lt; obtain ⟨j0, j1, j2, j3, j4, j5⟩ := hX.z.inp; have hzl := hX.z.lt)))
          go_meet
          exact ⟨true, rfl, fun h => by (cases h), hX, hok⟩
        | false =>
          go_wp2_with (first | (go_at_call 20; refine (KCH.out _).mono ?_; rintro e w2 ⟨rfl, hb1⟩; clear s0 s1 s2 s3 s4 s5 s6 s7 s8 s9 s10 hsl t0 t1 t2 t3 t4 t5 t6 t7 t8 t9 t10 htl c0 c1 c2 c3 c4 c5 c6 c7 c8 c9 c10 c11 hpl i0 i1 i2 i3 i4 i5 hyl j0 j1 j2 j3 j4 j5 hzl; replace hX := hX.next hb1; replace hok := hok.trans hb1; clear hb1; obtain ⟨s0, s1, s2, s3, s4, s5, s6, s7, s8, s9, s10⟩ := hX.sa.sta; have hsl := hX.sa.lt; obtain ⟨t0, t1, t2, t3, t4, t5, t6, t7, t8, t9, t10⟩ := hX.sb.sta; have htl := hX.sb.lt; obtain ⟨c0, c1, c2, c3, c4, c5, c6, c7, c8, c9, c10, c11⟩ := hX.p.pars; have hpl := hX.p.lt; obtain ⟨i0, i1, i2, i3, i4, i5⟩ := hX.y.inp; have hyl := hX.y.lt; obtain ⟨j0, j1, j2, j3, j4, j5⟩ := hX.z.inp; have hzl := hX.z.lt) | (go_at_call 10; first | (with_reducible refine (KGA.out _ hok).mono ?_; rintro e w3 ⟨rfl, hb1⟩; clear s0 s1 s2 s3 s4 s5 s6 s7 s8 s9 s10 hsl t0 t1 t2 t3 t4 t5 t6 t7 t8 t9 t10 htl c0 c1 c2 c3 c4 c5 c6 c7 c8 c9 c10 c11 hpl i0 i1 i2 i3 i4 i5 hyl j0 j1 j2 j3 j4 j5 hzl; replace hb1 := ((Ok.refl _).alloc _).trans hb1; replace hX := hX.next hb1; replace hok := hok.trans hb1; clear hb1; obtain ⟨s0, s1, s2, s3, s4, s5, s6, s7, s8, s9, s10⟩ := hX.sa.sta; have hsl := hX.sa.lt; obtain ⟨t0, t1, t2, t3, t4, t5, t6, t7, t8, t9, t10⟩ := hX.sb.sta; have htl := hX.sb.lt; obtain ⟨c0, c1, c2, c3, c4, c5, c6, c7, c8, c9, c10, c11⟩ := hX.p.pars; have hpl := hX.p.lt; obtain ⟨i0, i1, i2, i3, i4, i5⟩ := hX.y.inp; have hyl := hX.y.lt; obtain ⟨j0, j1, j2, j3, j4, j5⟩ := hX.z.inp; have hzl := hX.z.lt) | (with_reducible refine (KGB.out _).mono ?_; rintro e w3 ⟨rfl, hb1⟩; clear s0 s1 s2 s3 s4 s5 s6 s7 s8 s9 s10 hsl t0 t1 t2 t3 t4 t5 t6 t7 t8 t9 t10 htl c0 c1 c2 c3 c4 c5 c6 c7 c8 c9 c10 c11 hpl i0 i1 i2 i3 i4 i5 hyl j0 j1 j2 j3 j4 j5 hzl; replace hX := hX.next hb1; replace hok := hok.trans hb1; clear hb1; obtain ⟨s0, s1, s2, s3, s4, s5, s6, s7, s8, s9, s10⟩ := hX.sa.sta; have hsl := hX.sa.lt; obtain ⟨t0, t1, t2, t3, t4, t5, t6, t7, t8, t9, t10⟩ := hX.sb.sta; have htl := hX.sb.lt; obtain ⟨c0, c1, c2, c3, c4, c5, c6, c7, c8, c9, c10, c11⟩ := hX.p.pars; have hpl := hX.p.lt; obtain ⟨i0, i1, i2, i3, i4, i5⟩ := hX.y.inp; have hyl := hX.y.lt; obtain ⟨j0, j1, j2, j3, j4, j5⟩ := hX.z.inp; have hzl := hX.z.lt)))
          go_meet
          exact ⟨false, rfl, fun _ => ⟨HM.out, by first | rfl | trivial⟩, hX, hok⟩
    · rw [show Lim.check p = 1 from if_neg h0] at KCH
      clear h0
      go_wp2_with (first | (go_at_call 20; refine (KCH.out _).mono ?_; rintro e w2 ⟨rfl, hb1⟩; clear s0 s1 s2 s3 s4 s5 s6 s7 s8 s9 s10 hsl t0 t1 t2 t3 t4 t5 t6 t7 t8 t9 t10 htl c0 c1 c2 c3 c4 c5 c6 c7 c8 c9 c10 c11 hpl i0 i1 i2 i3 i4 i5 hyl j0 j1 j2 j3 j4 j5 hzl; replace hX := hX.next hb1; replace hok := hok.trans hb1; clear hb1; obtain ⟨s0, s1, s2, s3, s4, s5, s6, s7, s8, s9, s10⟩ := hX.sa.sta; have hsl := hX.sa.lt; obtain ⟨t0, t1, t2, t3, t4, t5, t6, t7, t8, t9, t10⟩ := hX.sb.sta; have htl := hX.sb.lt; obtain ⟨c0, c1, c2, c3, c4, c5, c6, c7, c8, c9, c10, c11⟩ := hX.p.pars; have hpl := hX.p.lt; obtain ⟨i0, i1, i2, i3, i4, i5⟩ := hX.y.inp; have hyl := hX.y.lt; obtain ⟨j0, j1, j2, j3, j4, j5⟩ := hX.z.inp; have hzl := hX.z.lt) | (go_at_call 10; first | (with_reducible refine (KGA.out _ hok).mono ?_; rintro e w3 ⟨rfl, hb1⟩; clear s0 s1 s2 s3 s4 s5 s6 s7 s8 s9 s10 hsl t0 t1 t2 t3 t4 t5 t6 t7 t8 t9 t10 htl c0 c1 c2 c3 c4 c5 c6 c7 c8 c9 c10 c11 hpl i0 i1 i2 i3 i4 i5 hyl j0 j1 j2 j3 j4 j5 hzl; replace hb1 := ((Ok.refl _).alloc _).trans hb1; replace hX := hX.next hb1; replace hok := hok.trans hb1; clear hb1; obtain ⟨s0, s1, s2, s3, s4, s5, s6, s7, s8, s9, s10⟩ := hX.sa.sta; have hsl := hX.sa.lt; obtain ⟨t0, t1, t2, t3, t4, t5, t6, t7, t8, t9, t10⟩ := hX.sb.sta; have htl := hX.sb.lt; obtain ⟨c0, c1, c2, c3, c4, c5, c6, c7, c8, c9, c10, c11⟩ := hX.p.pars; have hpl := hX.p.lt; obtain ⟨i0, i1, i2, i3, i4, i5⟩ := hX.y.inp; have hyl := hX.y.lt; obtain ⟨j0, j1, j2, j3, j4, j5⟩ := hX.z.inp; have hzl := hX.z.lt) | (with_reducible refine (KGB.out _).mono ?_; rintro e w3 ⟨rfl, hb1⟩; clear s0 s1 s2 s3 s4 s5 s6 s7 s8 s9 s10 hsl t0 t1 t2 t3 t4 t5 t6 t7 t8 t9 t10 htl c0 c1 c2 c3 c4 c5 c6 c7 c8 c9 c10 c11 hpl i0 i1 i2 i3 i4 i5 hyl j0 j1 j2 j3 j4 j5 hzl; replace hX := hX.next hb1; replace hok := hok.trans hb1; clear hb1; obtain ⟨s0, s1, s2, s3, s4, s5, s6, s7, s8, s9, s10⟩ := hX.sa.sta; have hsl := hX.sa.lt; obtain ⟨t0, t1, t2, t3, t4, t5, t6, t7, t8, t9, t10⟩ := hX.sb.sta; have htl := hX.sb.lt; obtain ⟨c0, c1, c2, c3, c4, c5, c6, c7, c8, c9, c10, c11⟩ := hX.p.pars; have hpl := hX.p.lt; obtain ⟨i0, i1, i2, i3, i4, i5⟩ := hX.y.inp; have hyl := hX.y.lt; obtain ⟨j0, j1, j2, j3, j4, j5⟩ := hX.z.inp; have hzl := hX.z.lt)))
      go_meet
      exact ⟨true, rfl, fun h => by (cases h), hX, hok⟩
  case rest =>
  clear hX hok KCH KGA KGB HX0 KAL
  obtain ⟨b, rfl, hc1, hX, hok⟩ := hcut
  cases b with
  | true =>
    go_wp2_with fail
    go_ret
    exact ⟨rfl, hok⟩
  | false =>
  have KB1 := Lib.hid (KB1'.out (hc1 rfl).1 (hc1 rfl).2)
  have KB2 := Lib.hid (KB2'.out (hc1 rfl).1 (hc1 rfl).2)
  have KBA := Lib.hid (KBA'.out (hc1 rfl).1 (hc1 rfl).2)
  have KBB := Lib.hid (KBB'.out (hc1 rfl).1 (hc1 rfl).2)
  have HEQ := Lib.hid (HEQ0.out (hc1 rfl).1)
  clear hc1 KB1' KB2' KBA' KBB' HEQ0
  go_upto_region 5 with fail
  have KNA := Lib.hid fun W' (k : Ok wc.drew W') => KNA0.out W' ((hok.trans (Ok.refl wc).drew).trans k)
  have KNB := Lib.hid fun W' (k : Ok wc.drew W') => KNB0.out W' ((hok.trans (Ok.refl wc).drew).trans k)
  have HB := Lib.hid fun W' (k : Ok wc.drew W') => (hX.next (Ok.refl wc).drew).next k
  have HOK := Lib.hid hok
  obtain ⟨B0, hB0⟩ : ∃ y, wc.heap.size = y := ⟨_, rfl⟩
  have HB0 := Lib.hid fun W' (k : Ok wc.drew W') => show B0 ≤ W'.heap.size from hB0 ▸ k.size
  have HBW : Hid (w.heap.size ≤ B0) := Lib.hid (hB0 ▸ hok.size)
  have HYB : Hid (Y < B0 ∧ Z < B0 ∧ Bp < B0) := Lib.hid (hB0 ▸ ⟨hX.y.lt, hX.z.lt, hX.p.lt⟩)
  clear hX hok hB0 KNA0 KNB0
  refine wp_region_facts_chain (by kernel_rfl) 5 109 rfl (VCNor B0 p sa sb ua A B ca cb) Ok _ 5 rfl rfl (by decide) (by kernel_rfl) (by kernel_rfl) (by kernel_rfl) (by kernel_rfl) (fun i v w w' h k w'' k' => h w'' (k.trans k')) (fun a b c => Ok.trans) (Ok.refl _) [some 31, some 32, some 33, some 34, some 35] rfl _ rfl ⟨?_, ?_, ?_, ?_, ?_, trivial⟩ ?_
  · intro a' w' hF hR
    have e5 : a'.tmps[5]? = some (.pointer (some ⟨Bp, 0, none⟩)) := hF.slot 5 (by kernel_rfl) rfl
    obtain ⟨p0, p1, p2, p3, p4, p5, p6, p7, p8, p9, p10, p11⟩ := (HB.out _ hR).p.pars
    have hpl := (HB.out _ hR).p.lt
    refine wpOp_run (v := parV p) rfl rfl ?_ (fun _ _ => rfl) (Ok.refl _)
    clear hF
    go_simp
  · intro a' w' hF hR
    have e6 : a'.tmps[6]? = some (.pointer (some ⟨Sa, 0, none⟩)) := hF.slot 6 (by kernel_rfl) rfl
    obtain ⟨s0, s1, s2', s3', s4, s5, s6, s7, s8, s9, s10⟩ := (HB.out _ hR).sa.sta
    have hsl := (HB.out _ hR).sa.lt
    refine wpOp_run (v := .agg #[.int .i64 sa.lo, .int .i64 sa.hi, .int .i64 sa.time, .bool sa.set, .int .i64 sa.held, .int .i64 sa.hops, .bool sa.good, .slice A sa.table.length ca, .int .i64 sa.st, .int .i64 sa.sn, .int .i64 sa.life]) rfl rfl ?_ (fun _ _ => rfl) (Ok.refl _)
    clear hF
    go_simp
  · intro a' w' hF hR
    obtain ⟨v0, hv0, e31⟩ := hF.get 0 31 (by kernel_rfl) (by kernel_rfl)
    obtain rfl : v0 = _ := hv0 _ (Ok.refl _)
    obtain ⟨v1, hv1, e32⟩ := hF.get 1 32 (by kernel_rfl) (by kernel_rfl)
    obtain rfl : v1 = _ := hv1 _ (Ok.refl _)
    clear hF
    refine wpOp_call (f := 11) (args := #[parV p, .int .i64 20, .agg #[.int .i64 sa.lo, .int .i64 sa.hi, .int .i64 sa.time, .bool sa.set, .int .i64 sa.held, .int .i64 sa.hops, .bool sa.good, .slice A sa.table.length ca, .int .i64 sa.st, .int .i64 sa.sn, .int .i64 sa.life]]) rfl rfl ?_ ((KNA.out _ hR).mono ?_)
    · go_simp
    · rintro e w2 ⟨G, t, b, A2, c2, rfl, hO, hT, hG, -, hb2⟩; exact ⟨_, rfl, fun w3 k => ⟨G, t, b, A2, c2, rfl, hO.next k, (TabRow.pairs hT).1.below k, fun a ha => Nat.lt_of_lt_of_le (row_lt23 hT a ha).2 k.size, Nat.le_trans (HB0.out _ hR) hG.1, Nat.le_trans (HB0.out _ hR) hG.2.2⟩, hb2⟩
  · intro a' w' hF hR
    have e5 : a'.tmps[5]? = some (.pointer (some ⟨Bp, 0, none⟩)) := hF.slot 5 (by kernel_rfl) rfl
    obtain ⟨p0, p1, p2, p3, p4, p5, p6, p7, p8, p9, p10, p11⟩ := (HB.out _ hR).p.pars
    have hpl := (HB.out _ hR).p.lt
    refine wpOp_run (v := parV p) rfl rfl ?_ (fun _ _ => rfl) (Ok.refl _)
    clear hF
    go_simp
  · intro a' w' hF hR
    have e7 : a'.tmps[7]? = some (.pointer (some ⟨Sb, 0, none⟩)) := hF.slot 7 (by kernel_rfl) rfl
    obtain ⟨s0, s1, s2', s3', s4, s5, s6, s7, s8, s9, s10⟩ := (HB.out _ hR).sb.sta
    have hsl := (HB.out _ hR).sb.lt
    refine wpOp_run (v := .agg #[.int .i64 sb.lo, .int .i64 sb.hi, .int .i64 sb.time, .bool sb.set, .int .i64 sb.held, .int .i64 sb.hops, .bool sb.good, .slice B sb.table.length cb, .int .i64 sb.st, .int .i64 sb.sn, .int .i64 sb.life]) rfl rfl ?_ (fun _ _ => rfl) (Ok.refl _)
    clear hF
    go_simp
  intro vs W' hvs hR
  obtain ⟨G, t, b, Ag, cg, e2, hG, hPg, hGA, hGB⟩ := hvs 2 (by decide) _ (Ok.refl _)
  have e3 : vs 3 = parV p := hvs 3 (by decide) _ (Ok.refl _)
  have e4 : vs 4 = .agg #[.int .i64 sb.lo, .int .i64 sb.hi, .int .i64 sb.time, .bool sb.set, .int .i64 sb.held, .int .i64 sb.hops, .bool sb.good, .slice B sb.table.length cb, .int .i64 sb.st, .int .i64 sb.sn, .int .i64 sb.life] := hvs 4 (by decide) _ (Ok.refl _)
  have hX := HB.out _ hR
  have hok := (HOK.out.trans (Ok.refl wc).drew).trans hR
  have kn := KNB.out _ hR
  clear hvs HB HOK KNA KNB HB0
  simp only [putFrom, e2, e3, e4]
  simp only [Act.put, List.setIfInBounds_toArray, List.set_cons_zero, List.set_cons_succ]
  refine wpOp_enters (o := ⟨some 36, _, _, _, _, none⟩) (f := 11) (args := #[parV p, .int .i64 20, .agg #[.int .i64 sb.lo, .int .i64 sb.hi, .int .i64 sb.time, .bool sb.set, .int .i64 sb.held, .int .i64 sb.hops, .bool sb.good, .slice B sb.table.length cb, .int .i64 sb.st, .int .i64 sb.sn, .int .i64 sb.life]]) rfl rfl ?_ (kn.mono ?_)
  · go_simp
  rintro e w5 ⟨H, u, c, Ah, ch, rfl, hH, hTh, hHG, -, hb⟩
  refine ⟨_, rfl, ?_⟩
  simp only [Act.put, List.setIfInBounds_toArray, List.set_cons_zero, List.set_cons_succ]
  have hGl := hG.lt
  have hWH : w.heap.size ≤ H ∧ w.heap.size ≤ c := ⟨Nat.le_trans hok.size hHG.1, Nat.le_trans hok.size hHG.2.2⟩
  have hTW : Two w G t b H u c p ua Ag cg Mem.nobody ub Ah ch Mem.nobody w5 := ⟨hok.trans hb, hG.next hb, hPg.below hb, hH, hTh.pairs.1, ⟨by omega, by omega⟩, ⟨by omega, by omega⟩, fun a ha => by have := hGA a ha; omega, fun a ha => by have := (row_lt23 hTh a ha).1; omega, ⟨Nat.le_trans HBW.out hGB.1, Nat.le_trans HBW.out hGB.2⟩, hWH⟩
  have hYD : (Y ≠ G ∧ Y ≠ b ∧ Y ≠ H ∧ Y ≠ c) ∧ (Z ≠ G ∧ Z ≠ b ∧ Z ≠ H ∧ Z ≠ c) ∧ (Bp ≠ G ∧ Bp ≠ b ∧ Bp ≠ H ∧ Bp ≠ c) := by have q1 := hX.y.lt; have q2 := hX.z.lt; have q3 := hX.p.lt; have q4 := HYB.out; exact ⟨⟨by omega, by omega, by omega, by omega⟩, ⟨by omega, by omega, by omega, by omega⟩, ⟨by omega, by omega, by omega, by omega⟩⟩
  replace hX := hX.next hb
  have HD := Lib.hid hYD
  clear hb kn hTh hHG hGl e2 e3 e4 hGB hG hPg hGA hH hWH hok hYD
  refine wpOp_leaves (o := ⟨some 11, _, _, _, _, none⟩) (v := .pointer (some ⟨G, 0, none⟩)) (w' := w5) rfl rfl ?_ ?_
  · go_simp
  simp only [Act.put, List.setIfInBounds_toArray, List.set_cons_zero, List.set_cons_succ]
  refine wpOp_leaves (o := ⟨some 12, _, _, _, _, none⟩) (v := .pointer (some ⟨H, 0, none⟩)) (w' := w5) rfl rfl ?_ ?_
  · go_simp
  simp only [TailFrom, Act.put, List.setIfInBounds_toArray, List.set_cons_zero, List.set_cons_succ]
  generalize vs 0 = x20
  generalize vs 1 = x21
  clear hR vs
  have hP := hX.p
  have hY := hX.y
  have hZ := hX.z
  clear hX
  obtain ⟨i0, i1, i2, i3, i4, i5⟩ := hY.inp; have hyl := hY.lt
  go_upto_region 7 with (go_at_call 14; refine (KB1.out _ _ _ _ _ _ _ _ _ _ _ _ _ hTW).mono ?_; rintro e w6 ⟨A3, c3, A4, c4, rfl, hTW2, hon⟩; clear i0 i1 i2 i3 i4 i5 hyl; replace hY := hon.own hY HD.out.1.1 HD.out.1.2.1; replace hZ := hon.own hZ HD.out.2.1.1 HD.out.2.1.2.1; replace hP := hon.own hP HD.out.2.2.1 HD.out.2.2.2.1; clear hon hTW; obtain ⟨i0, i1, i2, i3, i4, i5⟩ := hY.inp; have hyl := hY.lt)
  go_upto_region 8 with (go_at_call 14; refine (KB2.out _ _ _ _ _ _ _ _ _ _ _ _ _ hTW2.swap).mono ?_; rintro e w7 ⟨A5, c5, A6, c6, rfl, hTW3, hon⟩; clear i0 i1 i2 i3 i4 i5 hyl; replace hZ := hon.own hZ HD.out.2.1.2.2.1 HD.out.2.1.2.2.2; replace hP := hon.own hP HD.out.2.2.2.2.1 HD.out.2.2.2.2.2; clear hon hTW2 hY)
  have hTW := hTW3.swap
  clear hTW3 KB1 KB2
  have hPl := hP.lt
  have HI0 : ∀ a : Act, a.tmps[45]? = some undef → a.tmps[48]? = some undef → a.tmps[13]? = some undef → a.tmps[14]? = some undef → FI Bp w Z G t b H u c p x va vb ta tb f1 f1 f2 f2 ma mb a w7.drew := fun a h1 h2 h3 h4 =>
    ⟨hP.drew, hZ.drew, ⟨_, _, _, _, _, _, _, _, hTW.next (Ok.refl w7).drew, .inl ⟨h1, rfl, rfl⟩, .inl ⟨h2, rfl, rfl⟩⟩, (fun M h => by rw [h3] at h; cases h), (fun M h => by rw [h4] at h; cases h), (fun M N h => by rw [h3] at h; cases h)⟩
  clear hTW hP hZ hPl
  refine wp_region_facts_chainI (by kernel_rfl) 5 109 rfl (VMF G H x ma mb) (FI Bp w Z G t b H u c p x va vb ta tb f1 f1 f2 f2 ma mb) (fun _ _ => True) _ 8 rfl rfl (by decide) (by kernel_rfl) (by kernel_rfl) (by kernel_rfl) (by kernel_rfl) (fun _ _ _ _ h _ => h) (fun _ _ _ _ _ => trivial) trivial [some 43, some 44, some 45, some 46, some 47, some 48, some 13, some 14] rfl _ rfl (HI0 _ rfl rfl rfl rfl) ⟨?_, ?_, ?_, ?_, ?_, ?_, ?_, ?_, trivial⟩ ?_
  · intro a' w' hF hO hU hIn hR
    have e11 : a'.tmps[11]? = some (.pointer (some ⟨G, 0, none⟩)) := hF.slot 11 (by kernel_rfl) rfl
    refine wpOp_runI (V := VMF G H x ma mb) (I := FI Bp w Z G t b H u c p x va vb ta tb f1 f1 f2 f2 ma mb) (R := fun _ _ => True) (v := .pointer (some ⟨G, 0, none⟩)) (w' := w') rfl rfl ?_ rfl trivial ?_
    · clear hF hO hU hIn; go_simp
    · exact hIn.put (by decide)
  · intro a' w' hF hO hU hIn hR
    have e9 : a'.tmps[9]? = some (.pointer (some ⟨Z, 0, none⟩)) := hF.slot 9 (by kernel_rfl) rfl
    obtain ⟨i0, i1, i2, i3, i4, i5⟩ := hIn.y.inp
    have hyl := hIn.y.lt
    refine wpOp_runI (V := VMF G H x ma mb) (I := FI Bp w Z G t b H u c p x va vb ta tb f1 f1 f2 f2 ma mb) (R := fun _ _ => True) (v := .agg #[.int .i64 x.ticks, .slice x.B x.heard.length x.hcap, .bool x.ref, .int .i64 x.reading, .bool x.given, .slice x.T x.table.length x.tcap]) (w' := w') rfl rfl ?_ rfl trivial ?_
    · clear hF hO hU hIn; go_simp
    · exact hIn.put (by decide)
  · intro a' w' hF hO hU hIn hR
    obtain ⟨v0, hv0, e43⟩ := hF.get 0 43 (by kernel_rfl) (by kernel_rfl)
    obtain rfl : v0 = _ := hv0
    obtain ⟨v1, hv1, e44⟩ := hF.get 1 44 (by kernel_rfl) (by kernel_rfl)
    obtain rfl : v1 = _ := hv1
    have h45 : a'.tmps[45]? = some undef := (hU 45 rfl).trans rfl
    obtain ⟨A1, c1, sq, A2, c2, fq, hT2, hrest⟩ := hIn.beatA h45
    refine wpOp_callI (V := VMF G H x ma mb) (I := FI Bp w Z G t b H u c p x va vb ta tb f1 f1 f2 f2 ma mb) (R := fun _ _ => True) (f := 14) (args := #[.pointer (some ⟨G, 0, none⟩), .agg #[.int .i64 x.ticks, .slice x.B x.heard.length x.hcap, .bool x.ref, .int .i64 x.reading, .bool x.given, .slice x.T x.table.length x.tcap]]) rfl rfl ?_ ((KBA.out _ _ _ _ _ _ _ _ _ _ _ _ _ hT2).mono ?_)
    · clear hF hO hU hIn; go_simp
    · rintro e w2 ⟨A3, c3, A4, c4, rfl, hT3, hon⟩; exact ⟨_, rfl, ⟨A3, c3, rfl⟩, trivial, hIn.afterA h45 hT3 hon hrest HD.out.2⟩
  · intro a' w' hF hO hU hIn hR
    have e12 : a'.tmps[12]? = some (.pointer (some ⟨H, 0, none⟩)) := hF.slot 12 (by kernel_rfl) rfl
    refine wpOp_runI (V := VMF G H x ma mb) (I := FI Bp w Z G t b H u c p x va vb ta tb f1 f1 f2 f2 ma mb) (R := fun _ _ => True) (v := .pointer (some ⟨H, 0, none⟩)) (w' := w') rfl rfl ?_ rfl trivial ?_
    · clear hF hO hU hIn; go_simp
    · exact hIn.put (by decide)
  · intro a' w' hF hO hU hIn hR
    have e9 : a'.tmps[9]? = some (.pointer (some ⟨Z, 0, none⟩)) := hF.slot 9 (by kernel_rfl) rfl
    obtain ⟨i0, i1, i2, i3, i4, i5⟩ := hIn.y.inp
    have hyl := hIn.y.lt
    refine wpOp_runI (V := VMF G H x ma mb) (I := FI Bp w Z G t b H u c p x va vb ta tb f1 f1 f2 f2 ma mb) (R := fun _ _ => True) (v := .agg #[.int .i64 x.ticks, .slice x.B x.heard.length x.hcap, .bool x.ref, .int .i64 x.reading, .bool x.given, .slice x.T x.table.length x.tcap]) (w' := w') rfl rfl ?_ rfl trivial ?_
    · clear hF hO hU hIn; go_simp
    · exact hIn.put (by decide)
  · intro a' w' hF hO hU hIn hR
    obtain ⟨v3, hv3, e46⟩ := hF.get 3 46 (by kernel_rfl) (by kernel_rfl)
    obtain rfl : v3 = _ := hv3
    obtain ⟨v4, hv4, e47⟩ := hF.get 4 47 (by kernel_rfl) (by kernel_rfl)
    obtain rfl : v4 = _ := hv4
    have h48 : a'.tmps[48]? = some undef := (hU 48 rfl).trans rfl
    obtain ⟨A1, c1, sq, A2, c2, fq, hT2, hrest⟩ := hIn.beatB h48
    refine wpOp_callI (V := VMF G H x ma mb) (I := FI Bp w Z G t b H u c p x va vb ta tb f1 f1 f2 f2 ma mb) (R := fun _ _ => True) (f := 14) (args := #[.pointer (some ⟨H, 0, none⟩), .agg #[.int .i64 x.ticks, .slice x.B x.heard.length x.hcap, .bool x.ref, .int .i64 x.reading, .bool x.given, .slice x.T x.table.length x.tcap]]) rfl rfl ?_ ((KBB.out _ _ _ _ _ _ _ _ _ _ _ _ _ hT2).mono ?_)
    · clear hF hO hU hIn; go_simp
    · rintro e w2 ⟨A3, c3, A4, c4, rfl, hT3, hon⟩; exact ⟨_, rfl, ⟨A3, c3, rfl⟩, trivial, hIn.afterB h48 hT3 hon hrest HD.out.2⟩
  · intro a' w' hF hO hU hIn hR
    have hzero : Sem.run Tryz.prog (zeroValue 51) w' = .ok (.agg #[.int .i64 0, .int .i64 0, .int .i64 0, .int .i64 0, .int .i64 0, .int .i64 0, .bool false, .bool false, .int .i64 0, .int .i64 0, .int .i64 0, .int .i64 0, .int .i64 0, .slice none 0 0]) w' := by kernel_rfl
    refine wpOp_runI (V := VMF G H x ma mb) (I := FI Bp w Z G t b H u c p x va vb ta tb f1 f1 f2 f2 ma mb) (R := fun _ _ => True) (v := .pointer (some ⟨w'.heap.size, 0, none⟩)) (w' := w'.alloc (.cells #[.int .i64 0, .int .i64 0, .int .i64 0, .int .i64 0, .int .i64 0, .int .i64 0, .bool false, .bool false, .int .i64 0, .int .i64 0, .int .i64 0, .int .i64 0, .int .i64 0, .slice none 0 0] 51)) rfl rfl ?_ ⟨_, rfl⟩ trivial ?_
    · clear hF hO hU hIn; go_simp
    · exact hIn.alloc1 ((hU 13 rfl).trans rfl)
  · intro a' w' hF hO hU hIn hR
    have hzero : Sem.run Tryz.prog (zeroValue 51) w' = .ok (.agg #[.int .i64 0, .int .i64 0, .int .i64 0, .int .i64 0, .int .i64 0, .int .i64 0, .bool false, .bool false, .int .i64 0, .int .i64 0, .int .i64 0, .int .i64 0, .int .i64 0, .slice none 0 0]) w' := by kernel_rfl
    refine wpOp_runI (V := VMF G H x ma mb) (I := FI Bp w Z G t b H u c p x va vb ta tb f1 f1 f2 f2 ma mb) (R := fun _ _ => True) (v := .pointer (some ⟨w'.heap.size, 0, none⟩)) (w' := w'.alloc (.cells #[.int .i64 0, .int .i64 0, .int .i64 0, .int .i64 0, .int .i64 0, .int .i64 0, .bool false, .bool false, .int .i64 0, .int .i64 0, .int .i64 0, .int .i64 0, .int .i64 0, .slice none 0 0] 51)) rfl rfl ?_ ⟨_, rfl⟩ trivial ?_
    · clear hF hO hU hIn; go_simp
    · exact hIn.alloc2 ((hU 14 rfl).trans rfl)
  intro vs W' hvs hIn hR
  obtain ⟨A3, c3, e2⟩ := hvs 2 (by decide)
  obtain ⟨A5, c5, e5⟩ := hvs 5 (by decide)
  obtain ⟨M, e6⟩ := hvs 6 (by decide)
  obtain ⟨N, e7⟩ := hvs 7 (by decide)
  clear hvs
  simp only [putFrom, e2, e5, e6, e7] at hIn ⊢
  simp only [Act.put, List.setIfInBounds_toArray, List.set_cons_zero, List.set_cons_succ] at hIn ⊢
  obtain ⟨A4, c4, A6, c6, hTW⟩ := hIn.done (v := msgV ma A3 c3) (v' := msgV mb A5 c5) rfl (by simp [msgV, undef]) rfl (by simp [msgV, undef])
  obtain ⟨hM, hMd, hMw⟩ := hIn.m M rfl
  obtain ⟨hN, hNd, hNw⟩ := hIn.n N rfl
  have hMN := hIn.mn M N rfl rfl
  have hP := hIn.bp
  have hok := hTW.ok
  have hGo := hTW.g.own
  have hHo := hTW.h.own
  clear hIn hTW
  unfold msgV
  have hPM := hP.lt
  have m0 := hM.cell 0 rfl
  have m1 := hM.cell 1 rfl
  have m2 := hM.cell 2 rfl
  have m3 := hM.cell 3 rfl
  have m4 := hM.cell 4 rfl
  have m5 := hM.cell 5 rfl
  have m6 := hM.cell 6 rfl
  have m7 := hM.cell 7 rfl
  have m8 := hM.cell 8 rfl
  have m9 := hM.cell 9 rfl
  have m10 := hM.cell 10 rfl
  have m11 := hM.cell 11 rfl
  have m12 := hM.cell 12 rfl
  have m13 := hM.cell 13 rfl
  have f0 := hM.frozen 0
  have f1 := hM.frozen 1
  have f2 := hM.frozen 2
  have f3 := hM.frozen 3
  have f4 := hM.frozen 4
  have f5 := hM.frozen 5
  have f6 := hM.frozen 6
  have f7 := hM.frozen 7
  have f8 := hM.frozen 8
  have f9 := hM.frozen 9
  have f10 := hM.frozen 10
  have f11 := hM.frozen 11
  have f12 := hM.frozen 12
  have f13 := hM.frozen 13
  have hml := hM.lt
  refine wpOp_store (w' := ((((((((((((((W'.setCell ⟨M, 0, none⟩ (.int .i64 ma.kind)).setCell ⟨M, 1, none⟩ (.int .i64 ma.frm)).setCell ⟨M, 2, none⟩ (.int .i64 ma.lo)).setCell ⟨M, 3, none⟩ (.int .i64 ma.hi)).setCell ⟨M, 4, none⟩ (.int .i64 ma.held)).setCell ⟨M, 5, none⟩ (.int .i64 ma.hops)).setCell ⟨M, 6, none⟩ (.bool ma.good)).setCell ⟨M, 7, none⟩ (.bool ma.ref)).setCell ⟨M, 8, none⟩ (.int .i64 ma.slo)).setCell ⟨M, 9, none⟩ (.int .i64 ma.shi)).setCell ⟨M, 10, none⟩ (.int .i64 ma.pulse)).setCell ⟨M, 11, none⟩ (.int .i64 ma.time)).setCell ⟨M, 12, none⟩ (.int .i64 ma.num)).setCell ⟨M, 13, none⟩ (.slice A3 ma.table.length c3))) rfl rfl rfl ?_ ?_
  · go_simp
  clear m0 f0 m1 f1 m2 f2 m3 f3 m4 f4 m5 f5 m6 f6 m7 f7 m8 f8 m9 f9 m10 f10 m11 f11 m12 f12 m13 f13 hml
  have hon8 : Only M W' ((((((((((((((W'.setCell ⟨M, 0, none⟩ (.int .i64 ma.kind)).setCell ⟨M, 1, none⟩ (.int .i64 ma.frm)).setCell ⟨M, 2, none⟩ (.int .i64 ma.lo)).setCell ⟨M, 3, none⟩ (.int .i64 ma.hi)).setCell ⟨M, 4, none⟩ (.int .i64 ma.held)).setCell ⟨M, 5, none⟩ (.int .i64 ma.hops)).setCell ⟨M, 6, none⟩ (.bool ma.good)).setCell ⟨M, 7, none⟩ (.bool ma.ref)).setCell ⟨M, 8, none⟩ (.int .i64 ma.slo)).setCell ⟨M, 9, none⟩ (.int .i64 ma.shi)).setCell ⟨M, 10, none⟩ (.int .i64 ma.pulse)).setCell ⟨M, 11, none⟩ (.int .i64 ma.time)).setCell ⟨M, 12, none⟩ (.int .i64 ma.num)).setCell ⟨M, 13, none⟩ (.slice A3 ma.table.length c3)) := (((((((((((((((Only.refl M W').setR 0 (.int .i64 ma.kind)).setR 1 (.int .i64 ma.frm)).setR 2 (.int .i64 ma.lo)).setR 3 (.int .i64 ma.hi)).setR 4 (.int .i64 ma.held)).setR 5 (.int .i64 ma.hops)).setR 6 (.bool ma.good)).setR 7 (.bool ma.ref)).setR 8 (.int .i64 ma.slo)).setR 9 (.int .i64 ma.shi)).setR 10 (.int .i64 ma.pulse)).setR 11 (.int .i64 ma.time)).setR 12 (.int .i64 ma.num)).setR 13 (.slice A3 ma.table.length c3))
  replace hM := own_over14 hM (.int .i64 ma.kind) (.int .i64 ma.frm) (.int .i64 ma.lo) (.int .i64 ma.hi) (.int .i64 ma.held) (.int .i64 ma.hops) (.bool ma.good) (.bool ma.ref) (.int .i64 ma.slo) (.int .i64 ma.shi) (.int .i64 ma.pulse) (.int .i64 ma.time) (.int .i64 ma.num) (.slice A3 ma.table.length c3)
  replace hGo := hon8.own hGo (Ne.symm hMd.1)
  replace hHo := hon8.own hHo (Ne.symm hMd.2.2.1)
  replace hN := hon8.own hN (Ne.symm hMN)
  replace hP := hon8.own hP (Ne.symm hMd.2.2.2.2)
  replace hok := Only.then_ok hok hon8 hMw
  clear hon8
  generalize ((((((((((((((W'.setCell ⟨M, 0, none⟩ (.int .i64 ma.kind)).setCell ⟨M, 1, none⟩ (.int .i64 ma.frm)).setCell ⟨M, 2, none⟩ (.int .i64 ma.lo)).setCell ⟨M, 3, none⟩ (.int .i64 ma.hi)).setCell ⟨M, 4, none⟩ (.int .i64 ma.held)).setCell ⟨M, 5, none⟩ (.int .i64 ma.hops)).setCell ⟨M, 6, none⟩ (.bool ma.good)).setCell ⟨M, 7, none⟩ (.bool ma.ref)).setCell ⟨M, 8, none⟩ (.int .i64 ma.slo)).setCell ⟨M, 9, none⟩ (.int .i64 ma.shi)).setCell ⟨M, 10, none⟩ (.int .i64 ma.pulse)).setCell ⟨M, 11, none⟩ (.int .i64 ma.time)).setCell ⟨M, 12, none⟩ (.int .i64 ma.num)).setCell ⟨M, 13, none⟩ (.slice A3 ma.table.length c3)) = W8 at hM hN hGo hHo hok hP ⊢
  have m0 := hN.cell 0 rfl
  have m1 := hN.cell 1 rfl
  have m2 := hN.cell 2 rfl
  have m3 := hN.cell 3 rfl
  have m4 := hN.cell 4 rfl
  have m5 := hN.cell 5 rfl
  have m6 := hN.cell 6 rfl
  have m7 := hN.cell 7 rfl
  have m8 := hN.cell 8 rfl
  have m9 := hN.cell 9 rfl
  have m10 := hN.cell 10 rfl
  have m11 := hN.cell 11 rfl
  have m12 := hN.cell 12 rfl
  have m13 := hN.cell 13 rfl
  have f0 := hN.frozen 0
  have f1 := hN.frozen 1
  have f2 := hN.frozen 2
  have f3 := hN.frozen 3
  have f4 := hN.frozen 4
  have f5 := hN.frozen 5
  have f6 := hN.frozen 6
  have f7 := hN.frozen 7
  have f8 := hN.frozen 8
  have f9 := hN.frozen 9
  have f10 := hN.frozen 10
  have f11 := hN.frozen 11
  have f12 := hN.frozen 12
  have f13 := hN.frozen 13
  have hml := hN.lt
  refine wpOp_store (w' := ((((((((((((((W8.setCell ⟨N, 0, none⟩ (.int .i64 mb.kind)).setCell ⟨N, 1, none⟩ (.int .i64 mb.frm)).setCell ⟨N, 2, none⟩ (.int .i64 mb.lo)).setCell ⟨N, 3, none⟩ (.int .i64 mb.hi)).setCell ⟨N, 4, none⟩ (.int .i64 mb.held)).setCell ⟨N, 5, none⟩ (.int .i64 mb.hops)).setCell ⟨N, 6, none⟩ (.bool mb.good)).setCell ⟨N, 7, none⟩ (.bool mb.ref)).setCell ⟨N, 8, none⟩ (.int .i64 mb.slo)).setCell ⟨N, 9, none⟩ (.int .i64 mb.shi)).setCell ⟨N, 10, none⟩ (.int .i64 mb.pulse)).setCell ⟨N, 11, none⟩ (.int .i64 mb.time)).setCell ⟨N, 12, none⟩ (.int .i64 mb.num)).setCell ⟨N, 13, none⟩ (.slice A5 mb.table.length c5))) rfl rfl rfl ?_ ?_
  · go_simp
  simp only [TailFrom]
  clear m0 f0 m1 f1 m2 f2 m3 f3 m4 f4 m5 f5 m6 f6 m7 f7 m8 f8 m9 f9 m10 f10 m11 f11 m12 f12 m13 f13 hml
  have hon9 : Only N W8 ((((((((((((((W8.setCell ⟨N, 0, none⟩ (.int .i64 mb.kind)).setCell ⟨N, 1, none⟩ (.int .i64 mb.frm)).setCell ⟨N, 2, none⟩ (.int .i64 mb.lo)).setCell ⟨N, 3, none⟩ (.int .i64 mb.hi)).setCell ⟨N, 4, none⟩ (.int .i64 mb.held)).setCell ⟨N, 5, none⟩ (.int .i64 mb.hops)).setCell ⟨N, 6, none⟩ (.bool mb.good)).setCell ⟨N, 7, none⟩ (.bool mb.ref)).setCell ⟨N, 8, none⟩ (.int .i64 mb.slo)).setCell ⟨N, 9, none⟩ (.int .i64 mb.shi)).setCell ⟨N, 10, none⟩ (.int .i64 mb.pulse)).setCell ⟨N, 11, none⟩ (.int .i64 mb.time)).setCell ⟨N, 12, none⟩ (.int .i64 mb.num)).setCell ⟨N, 13, none⟩ (.slice A5 mb.table.length c5)) := (((((((((((((((Only.refl N W8).setR 0 (.int .i64 mb.kind)).setR 1 (.int .i64 mb.frm)).setR 2 (.int .i64 mb.lo)).setR 3 (.int .i64 mb.hi)).setR 4 (.int .i64 mb.held)).setR 5 (.int .i64 mb.hops)).setR 6 (.bool mb.good)).setR 7 (.bool mb.ref)).setR 8 (.int .i64 mb.slo)).setR 9 (.int .i64 mb.shi)).setR 10 (.int .i64 mb.pulse)).setR 11 (.int .i64 mb.time)).setR 12 (.int .i64 mb.num)).setR 13 (.slice A5 mb.table.length c5))
  replace hN := own_over14 hN (.int .i64 mb.kind) (.int .i64 mb.frm) (.int .i64 mb.lo) (.int .i64 mb.hi) (.int .i64 mb.held) (.int .i64 mb.hops) (.bool mb.good) (.bool mb.ref) (.int .i64 mb.slo) (.int .i64 mb.shi) (.int .i64 mb.pulse) (.int .i64 mb.time) (.int .i64 mb.num) (.slice A5 mb.table.length c5)
  replace hGo := hon9.own hGo (Ne.symm hNd.1)
  replace hHo := hon9.own hHo (Ne.symm hNd.2.2.1)
  replace hM := hon9.own hM hMN
  replace hP := hon9.own hP (Ne.symm hNd.2.2.2.2)
  replace hok := Only.then_ok hok hon9 hNw
  clear hon9 e2 e5 e6 e7
  generalize ((((((((((((((W8.setCell ⟨N, 0, none⟩ (.int .i64 mb.kind)).setCell ⟨N, 1, none⟩ (.int .i64 mb.frm)).setCell ⟨N, 2, none⟩ (.int .i64 mb.lo)).setCell ⟨N, 3, none⟩ (.int .i64 mb.hi)).setCell ⟨N, 4, none⟩ (.int .i64 mb.held)).setCell ⟨N, 5, none⟩ (.int .i64 mb.hops)).setCell ⟨N, 6, none⟩ (.bool mb.good)).setCell ⟨N, 7, none⟩ (.bool mb.ref)).setCell ⟨N, 8, none⟩ (.int .i64 mb.slo)).setCell ⟨N, 9, none⟩ (.int .i64 mb.shi)).setCell ⟨N, 10, none⟩ (.int .i64 mb.pulse)).setCell ⟨N, 11, none⟩ (.int .i64 mb.time)).setCell ⟨N, 12, none⟩ (.int .i64 mb.num)).setCell ⟨N, 13, none⟩ (.slice A5 mb.table.length c5)) = W9 at hM hN hGo hHo hok hP ⊢
  generalize vs 0 = x20
  generalize vs 1 = x21
  generalize vs 3 = x23
  generalize vs 4 = x24
  clear hR vs
  have q17 := hGo.atL 17 (v := .int .i64 ta.hops) rfl
  have r17 := hHo.atL 17 (v := .int .i64 tb.hops) rfl
  have hGl := hGo.lt
  have hHl := hHo.lt
  obtain ⟨c0, c1, c2, c3', c4', c5', c6', c7, c8, c9, c10, c11⟩ := hP.pars
  have hpl := hP.lt
  have m2 := hM.cell 2 (v := .int .i64 ma.lo) rfl
  have m3 := hM.cell 3 (v := .int .i64 ma.hi) rfl
  have m4 := hM.cell 4 (v := .int .i64 ma.held) rfl
  have m5 := hM.cell 5 (v := .int .i64 ma.hops) rfl
  have m6 := hM.cell 6 (v := .bool ma.good) rfl
  have hml := hM.lt
  have n2 := hN.cell 2 (v := .int .i64 mb.lo) rfl
  have n3 := hN.cell 3 (v := .int .i64 mb.hi) rfl
  have n4 := hN.cell 4 (v := .int .i64 mb.held) rfl
  have n5 := hN.cell 5 (v := .int .i64 mb.hops) rfl
  have n6 := hN.cell 6 (v := .bool mb.good) rfl
  have hnl := hN.lt
  clear hM hN hGo hHo hP c0 c1 c3' c4' c5' c6' c7 c8 c9 c10 c11
  obtain ⟨he, hEQ⟩ := HEQ.out
  generalize ta.hops = ha at q17 he hEQ ⊢
  generalize tb.hops = hb at r17 he hEQ ⊢
  subst he
  generalize ma.lo = l1 at m2 hEQ ⊢
  generalize ma.hi = l2 at m3 hEQ ⊢
  generalize ma.held = l3 at m4 hEQ ⊢
  generalize ma.hops = l4 at m5 hEQ ⊢
  generalize ma.good = l5 at m6 hEQ ⊢
  generalize mb.lo = k1 at n2 hEQ ⊢
  generalize mb.hi = k2 at n3 hEQ ⊢
  generalize mb.held = k3 at n4 hEQ ⊢
  generalize mb.hops = k4 at n5 hEQ ⊢
  generalize mb.good = k5 at n6 hEQ ⊢
  by_cases hz : p.d < ha
  · have d1 : decide (p.d < ha) = true := decide_eq_true hz
    clear hEQ
    go_upto_region 9 with fail
    go_quiet (fail)
    go_upto_region 10 with fail
    go_quiet (fail)
    go_wp2_with fail
    go_ret
    first | exact ⟨rfl, hok⟩ | exact ⟨rfl, hok.drewN _⟩ | exact ⟨rfl, (hok.drewN _).drewN _⟩
  have d1 : decide (p.d < ha) = false := decide_eq_false hz
  obtain ⟨rfl, rfl, rfl, rfl, rfl, rfl⟩ := hEQ (by omega)
  clear hEQ hz
  have hE := eqSpan21
  go_upto_region 9 with fail
  go_quiet (fail)
  go_wp2_with fail
  go_ret
  first | exact ⟨rfl, hok⟩ | exact ⟨rfl, hok.drewN _⟩ | exact ⟨rfl, (hok.drewN _).drewN _⟩
theorem walk (w : World) (hT : Pow w) (p : Par) (wp : ParWf p) (sa : Sta) (A : Option Addr) (ca : Nat) (hA : PairsAt w A sa.table) (hca : sa.table.length ≤ ca) (hma : ca ≤ maxLen) (wsa : StaWf sa) (sb : Sta) (B : Option Addr) (cb : Nat) (hB : PairsAt w B sb.table) (hcb : sb.table.length ≤ cb) (hmb : cb ≤ maxLen) (wsb : StaWf sb) (y : In) (hy : InAt w y) (wy : InWf y) (x : In) (hx : InAt w x) (wx : InWf x) :
    Calls Tryz.prog 8 #[parV p, staV sa A ca, staV sb B cb, inV y, inV x] w fun e w' => e = .returned (.bool true) ∧ Below w.heap.size w w' :=
  walkF w hT p sa sb A B ca cb y x hA (Nat.le_trans hca (Nat.le_trans hma (by decide))) hB (Nat.le_trans hcb (Nat.le_trans hmb (by decide))) hy (Nat.le_trans wy.hlen (Nat.le_trans wy.hcap (by decide))) hx (Nat.le_trans wx.hlen (Nat.le_trans wx.hcap (by decide))) (fun h hh => (wy.heard h hh).msg.2.2.1) (fun h hh => (wx.heard h hh).msg.2.2.1)
theorem own : ownKnob Tryz.prog.godebug = none := by kernel_rfl
theorem laidOut : laidOutB Tryz.prog = true := by kernel_rfl
theorem laid_met (os : Os) : laidMet Tryz.prog Rows.nodeForgetsRow.laid ((laidWorld os).forCall (fun _ _ => 0) ⟨#[], #[.agg #[.int .i64 0, .int .i64 0, .int .i64 0, .int .i64 0, .int .i64 0, .int .i64 0, .int .i64 0, .int .i64 0, .int .i64 0, .int .i64 0, .int .i64 0, .int .i64 0], .agg #[.int .i64 0, .int .i64 0, .int .i64 0, .bool false, .int .i64 0, .int .i64 0, .bool false, .slice none 0 0, .int .i64 0, .int .i64 0, .int .i64 0], .agg #[.int .i64 0, .int .i64 0, .int .i64 0, .bool false, .int .i64 0, .int .i64 0, .bool false, .slice none 0 0, .int .i64 0, .int .i64 0, .int .i64 0], .agg #[.int .i64 0, .slice none 0 0, .bool false, .int .i64 0, .bool false, .slice none 0 0], .agg #[.int .i64 0, .slice none 0 0, .bool false, .int .i64 0, .bool false, .slice none 0 0]], []⟩).memory :=
  laidMet_of_run' 8 (by kernel_rfl) (by kernel_rfl)
theorem reads (os : Os) {H : Type} (enc : TypeId × Value → H) : ∃ places, DataW.whole enc Tryz.prog ((laidWorld os).forCall (fun _ _ => 0) ⟨#[], #[.agg #[.int .i64 0, .int .i64 0, .int .i64 0, .int .i64 0, .int .i64 0, .int .i64 0, .int .i64 0, .int .i64 0, .int .i64 0, .int .i64 0, .int .i64 0, .int .i64 0], .agg #[.int .i64 0, .int .i64 0, .int .i64 0, .bool false, .int .i64 0, .int .i64 0, .bool false, .slice none 0 0, .int .i64 0, .int .i64 0, .int .i64 0], .agg #[.int .i64 0, .int .i64 0, .int .i64 0, .bool false, .int .i64 0, .int .i64 0, .bool false, .slice none 0 0, .int .i64 0, .int .i64 0, .int .i64 0], .agg #[.int .i64 0, .slice none 0 0, .bool false, .int .i64 0, .bool false, .slice none 0 0], .agg #[.int .i64 0, .slice none 0 0, .bool false, .int .i64 0, .bool false, .slice none 0 0]], []⟩).memory Tryz.f8.params.toList Rows.nodeForgetsSpec.vars false (#[.agg #[.int .i64 0, .int .i64 0, .int .i64 0, .int .i64 0, .int .i64 0, .int .i64 0, .int .i64 0, .int .i64 0, .int .i64 0, .int .i64 0, .int .i64 0, .int .i64 0], .agg #[.int .i64 0, .int .i64 0, .int .i64 0, .bool false, .int .i64 0, .int .i64 0, .bool false, .slice none 0 0, .int .i64 0, .int .i64 0, .int .i64 0], .agg #[.int .i64 0, .int .i64 0, .int .i64 0, .bool false, .int .i64 0, .int .i64 0, .bool false, .slice none 0 0, .int .i64 0, .int .i64 0, .int .i64 0], .agg #[.int .i64 0, .slice none 0 0, .bool false, .int .i64 0, .bool false, .slice none 0 0], .agg #[.int .i64 0, .slice none 0 0, .bool false, .int .i64 0, .bool false, .slice none 0 0]] : Array Value).toList 8 = some ([.agg [.lit (.int .i64 0), .lit (.int .i64 0), .lit (.int .i64 0), .lit (.int .i64 0), .lit (.int .i64 0), .lit (.int .i64 0), .lit (.int .i64 0), .lit (.int .i64 0), .lit (.int .i64 0), .lit (.int .i64 0), .lit (.int .i64 0), .lit (.int .i64 0)], .agg [.agg [.lit (.int .i64 0), .lit (.int .i64 0)], .lit (.int .i64 0), .lit (.bool false), .lit (.int .i64 0), .lit (.int .i64 0), .lit (.bool false), .nil, .agg [.lit (.int .i64 0), .lit (.int .i64 0)], .lit (.int .i64 0)], .agg [.agg [.lit (.int .i64 0), .lit (.int .i64 0)], .lit (.int .i64 0), .lit (.bool false), .lit (.int .i64 0), .lit (.int .i64 0), .lit (.bool false), .nil, .agg [.lit (.int .i64 0), .lit (.int .i64 0)], .lit (.int .i64 0)], .agg [.lit (.int .i64 0), .nil, .lit (.bool false), .lit (.int .i64 0), .lit (.bool false), .nil], .agg [.lit (.int .i64 0), .nil, .lit (.bool false), .lit (.int .i64 0), .lit (.bool false), .nil]], [], places) :=
  ⟨[], by kernel_rfl⟩
set_option maxRecDepth 100000 in
theorem lifted (os : Os) (started : os.Started) (H : Type) (enc : TypeId × Value → H) (F : Stop.Interp) :
    ReturnsInHanded {} Tryz.checked os 8 .any ((OpenSpec.ofChange Rows.nodeForgetsSpec).preRow enc Tryz.prog Tryz.f8 Rows.nodeForgetsRow.domain false Rows.nodeForgetsRow.laid) (((OpenSpec.ofChange Rows.nodeForgetsSpec).at F).post enc Tryz.prog Tryz.f8 false true false false) := by
  obtain ⟨places, hx⟩ := reads os enc
  refine returnsInHanded_of_row (C := Tryz.checked) (s := OpenSpec.ofChange Rows.nodeForgetsSpec) own started (by kernel_rfl) Tryz.func8
    (witness_row_at (enc := enc) (C := Tryz.checked) false (laidWorld os) #[.agg #[.int .i64 0, .int .i64 0, .int .i64 0, .int .i64 0, .int .i64 0, .int .i64 0, .int .i64 0, .int .i64 0, .int .i64 0, .int .i64 0, .int .i64 0, .int .i64 0], .agg #[.int .i64 0, .int .i64 0, .int .i64 0, .bool false, .int .i64 0, .int .i64 0, .bool false, .slice none 0 0, .int .i64 0, .int .i64 0, .int .i64 0], .agg #[.int .i64 0, .int .i64 0, .int .i64 0, .bool false, .int .i64 0, .int .i64 0, .bool false, .slice none 0 0, .int .i64 0, .int .i64 0, .int .i64 0], .agg #[.int .i64 0, .slice none 0 0, .bool false, .int .i64 0, .bool false, .slice none 0 0], .agg #[.int .i64 0, .slice none 0 0, .bool false, .int .i64 0, .bool false, .slice none 0 0]] rfl (by kernel_rfl) (by kernel_rfl) (by kernel_rfl)
      (OpenSpec.preRow_of_cond 8 hx (by kernel_rfl) (fun k hk => by cases hk) (by kernel_rfl) (laid_met os))) ?_
  intro W base args ds gs before hval0 hW _ _ _ hL _ _
  have hval : ∀ (j : Nat) t v, Tryz.f8.params[j]? = some t → args[j]? = some v → Value.okWide Tryz.prog W .any base t v := hval0
  have hW' := hW
  obtain ⟨p, q, hA, hV, rfl, _, _⟩ := hW
  obtain ⟨rfl, rfl⟩ := trodVars_none hV
  replace hA : DataW.TrodAll enc Tryz.prog W 0 (fun _ => true) true Tryz.f8.params.toList args.toList ds p := hA
  rw [Tryz.params8] at hA hval
  obtain ⟨v0, vs0, d0, ds0, p0, q0, hargs, rfl, rfl, h0, r0⟩ := trodAll_cons hA
  obtain ⟨v1, vs1, d1, ds1, p1, q1, rfl, rfl, rfl, h1, r1⟩ := trodAll_cons r0
  obtain ⟨v2, vs2, d2, ds2, p2, q2, rfl, rfl, rfl, h2, r2⟩ := trodAll_cons r1
  obtain ⟨v3, vs3, d3, ds3, p3, q3, rfl, rfl, rfl, h3, r3⟩ := trodAll_cons r2
  obtain ⟨v4, vs4, d4, ds4, p4, q4, rfl, rfl, rfl, h4, r4⟩ := trodAll_cons r3
  obtain ⟨rfl, rfl, rfl⟩ := trodAll_nil r4
  obtain rfl : args = #[v0, v1, v2, v3, v4] := by cases args; simp_all
  obtain ⟨p0, rfl, wp0⟩ := open_par Tryz.underlying23 rfl (by kernel_rfl) (by kernel_rfl) (by kernel_rfl) (hval 0 23 v0 rfl rfl) h0
  obtain ⟨s1, A1, c1, rfl, hA1, hc1, hm1, w1⟩ := open_sta (hval 1 30 v1 rfl rfl) h1
  obtain ⟨s2, A2, c2, rfl, hA2, hc2, hm2, w2⟩ := open_sta (hval 2 30 v2 rfl rfl) h2
  obtain ⟨x3, rfl, hx3, w3⟩ := open_input (hval 3 49 v3 rfl rfl) h3
  obtain ⟨x4, rfl, hx4, w4⟩ := open_input (hval 4 49 v4 rfl rfl) h4
  refine (walk W (tab_of hL) p0 wp0 s1 A1 c1 hA1 hc1 hm1 w1 s2 A2 c2 hA2 hc2 hm2 w2 x3 hx3 w3 x4 hx4 w4).mono fun e W' ⟨he, hb⟩ => ?_
  subst he
  exact ⟨_, rfl, law_post hW' laidOut (by rw [Tryz.params8]; exact params_ok (by kernel_rfl)) rfl (by kernel_rfl) Tryz.underlying4 rfl rfl rfl hb⟩
theorem said : Rows.NodeForgetsSaid :=
  OpenClaim.holds_of_cond 8 Tryz.f8 rfl rfl rfl rfl rfl rfl rfl ⟨rfl, rfl, rfl, rfl, rfl⟩ rfl rfl rfl rfl rfl (by kernel_rfl) Tryz.func8 (by kernel_rfl)
    (of_decide_eq_true (by kernel_rfl)) (by unfold Func.isWrapper; first | (rw [if_pos (by decide +kernel)]; kernel_rfl) | (rw [if_neg (by decide +kernel)]; exact ⟨rfl, rfl⟩))
    (fun os started H enc _ F => by rw [OpenClaim.pre_eq_preRow]; exact lifted os started H enc F)
theorem plain (f : FuncId) (fn : Func) (hf : Tryz.pinned.checked.prog.funcNamed "clepsydra/clepsydralaw23.NodeForgets" = some f) (hfn : Tryz.pinned.checked.prog.funcs[f]? = some fn) :
    false = Tryz.pinned.checked.prog.looks [] ∧ ∀ (j : Nat) t, fn.params[j]? = some t → Tryz.pinned.checked.prog.wantsStandIn t = false := by
  obtain rfl : f = 8 := Option.some.inj ((show Tryz.prog.funcNamed "clepsydra/clepsydralaw23.NodeForgets" = some 8 by kernel_rfl).symm.trans hf) |>.symm
  obtain rfl : fn = Tryz.f8 := (Option.some.inj (Tryz.func8.symm.trans hfn)).symm
  refine ⟨by kernel_rfl, fun j t ht => ?_⟩
  have hall : (Tryz.f8.params.toList.all fun u => !Tryz.prog.wantsStandIn u) = true := by kernel_rfl
  have hm : t ∈ Tryz.f8.params.toList := Array.mem_toList_iff.2 (Array.mem_of_getElem? ht)
  exact (show Tryz.prog.wantsStandIn t = false by simpa using List.all_eq_true.1 hall t hm)
theorem proved : Rows.NodeForgetsCardSaid :=
  Claim7.holds_tied_plain_at .later [] _ _ _ _ said (fun _ h => by cases h) (by kernel_rfl) (fun _ h => by cases h) nodeForgets_row_tie rfl ⟨rfl, rfl⟩ (by kernel_rfl) rfl plain (by kernel_rfl)
end Go.Proofs.YtnhjdinmakkknaaGreatDoor.nodeForgets
