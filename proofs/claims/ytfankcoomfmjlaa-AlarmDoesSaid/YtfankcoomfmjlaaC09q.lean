/- Contracts of layer 9: two tables side by side. -/
import Derived.Test.YtfankcoomfmjlaaC09p
namespace Go.Proofs.Ytfankcoomfmjlaa
open Go.RowKit
set_option maxRecDepth 100000
/-- Two tables that were made behind w, and that share nothing. -/
structure Both (T1 T2 : TypeId) (w W : World) (g1 r1 : Nat) (L1 : List Tm) (g2 r2 : Nat) (L2 : List Tm) : Prop where
  a : Mine T1 w W g1 r1 L1
  b : Mine T2 w W g2 r2 L2
  h1 : g1 ≠ g2
  h2 : g1 ≠ r2
  h3 : r1 ≠ g2
  h4 : r1 ≠ r2
namespace Both
variable {T1 T2 : TypeId} {w W W1 : World} {g1 r1 g2 r2 : Nat} {L1 L2 L' : List Tm}
theorem swap (h : Both T1 T2 w W g1 r1 L1 g2 r2 L2) : Both T2 T1 w W g2 r2 L2 g1 r1 L1 := ⟨h.b, h.a, h.h1.symm, h.h3.symm, h.h2.symm, h.h4.symm⟩
theorem next (h : Both T1 T2 w W g1 r1 L1 g2 r2 L2) (k : Ok W W1) : Both T1 T2 w W1 g1 r1 L1 g2 r2 L2 := ⟨h.a.next k, h.b.next k, h.h1, h.h2, h.h3, h.h4⟩
theorem left (h : Both T1 T2 w W g1 r1 L1 g2 r2 L2) (k : Far (Pr g1 r1) W W1) {r' : Nat} (hr' : r' = r1 ∨ r' = g1 ∨ W.heap.size ≤ r') (hT : TabAt T1 W1 g1 r' L') : Both T1 T2 w W1 g1 r' L' g2 r2 L2 := by
  have ha := h.a.far k hr' hT
  have hlt := h.b.tab.lt
  have hb : TabAt T2 W1 g2 r2 L2 := h.b.tab.far k (fun c => c.elim (fun e => h.h1 e.symm) (fun e => h.h3 e.symm)) (fun c => c.elim (fun e => h.h2 e.symm) (fun e => h.h4 e.symm))
  refine ⟨ha, ⟨ha.ok, h.b.hg, h.b.hr, hb⟩, h.h1, h.h2, ?_, ?_⟩
  · rcases hr' with rfl | rfl | e
    · exact h.h3
    · exact h.h1
    · omega
  · rcases hr' with rfl | rfl | e
    · exact h.h4
    · exact h.h2
    · omega
theorem right (h : Both T1 T2 w W g1 r1 L1 g2 r2 L2) (k : Far (Pr g2 r2) W W1) {r' : Nat} (hr' : r' = r2 ∨ r' = g2 ∨ W.heap.size ≤ r') (hT : TabAt T2 W1 g2 r' L') : Both T1 T2 w W1 g1 r1 L1 g2 r' L' := (h.swap.left k hr' hT).swap
end Both
theorem far_apart {g r b r' : Nat} {W : World} (hr' : r' = r ∨ r' = g ∨ W.heap.size ≤ r') (hb : b < W.heap.size) (h1 : b ≠ g) (h2 : b ≠ r) : b ≠ r' := by
  rcases hr' with rfl | rfl | e
  · exact h2
  · exact h1
  · omega
theorem ints_far {S : Nat → Prop} {w w1 : World} {A : Option Addr} {l : List Int} (h : IntsAt w A l) (k : Far S w w1) (hA : ∀ a, A = some a → ¬ S a.block) : IntsAt w1 A l := fun j hj => by
  obtain ⟨b, off, e, hlt, hc⟩ := h j hj
  exact ⟨b, off, e, Nat.lt_of_lt_of_le hlt k.size, k.cell hc hlt (hA _ e)⟩
theorem row_same {T : TypeId} {w : World} {g r r' : Nat} {L : List Tm} (h : TabAt T w g r L) (k : TabAt T w g r' L) : r = r' := by
  obtain ⟨A, c, hO, -, hA⟩ := h.ex
  obtain ⟨A', c', hO', -, hA'⟩ := k.ex
  have e := (hO.cell 0 rfl).symm.trans (hO'.cell 0 rfl)
  simp at e
  obtain ⟨rfl, rfl⟩ := e
  rcases hA with ⟨rfl, rfl⟩ | ⟨rfl, _⟩
  · rcases hA' with ⟨_, h⟩ | ⟨h, _⟩
    · exact h.symm
    · cases h
  · rcases hA' with ⟨h, _⟩ | ⟨h, _⟩
    · cases h
    · cases h; rfl
/-- Two integers in the block of a call. -/
structure Cel (b : Nat) (x y : Int) (W : World) : Prop where
  c1 : W.cell? ⟨b, 1, none⟩ = some (.int .i64 x)
  c2 : W.cell? ⟨b, 2, none⟩ = some (.int .i64 y)
  lt : b < W.heap.size
theorem Cel.far {b : Nat} {x y : Int} {W W1 : World} {S : Nat → Prop} (h : Cel b x y W) (k : Far S W W1) (hb : ¬ S b) : Cel b x y W1 := ⟨k.cell h.c1 h.lt hb, k.cell h.c2 h.lt hb, Nat.lt_of_lt_of_le h.lt k.size⟩
theorem Cel.next {b : Nat} {x y : Int} {W W1 : World} (h : Cel b x y W) (k : Ok W W1) : Cel b x y W1 := h.far (S := fun _ => False) (Far.of_ok k) (fun h => h)
/-- The program's table and the document's, and a call's block. -/
structure In (b : Nat) (x y : Int) (w : World) (g1 g2 : Nat) (L M : List Tm) (W : World) : Prop where
  ex : ∃ r1 r2, Both 50 52 w W g1 r1 L g2 r2 M ∧ Cel b x y W ∧ (b ≠ g1 ∧ b ≠ r1 ∧ b ≠ g2 ∧ b ≠ r2)
namespace In
variable {b g1 g2 : Nat} {x y : Int} {w W W1 : World} {L M : List Tm}
theorem next (h : In b x y w g1 g2 L M W) (k : Ok W W1) : In b x y w g1 g2 L M W1 := by
  obtain ⟨r1, r2, h1, h2, h3⟩ := h.ex
  exact ⟨r1, r2, h1.next k, h2.next k, h3⟩
theorem cel (h : In b x y w g1 g2 L M W) : Cel b x y W := by
  obtain ⟨r1, r2, h1, h2, h3⟩ := h.ex
  exact h2
theorem left {L' : List Tm} {r1 r2 : Nat} (h1 : Both 50 52 w W g1 r1 L g2 r2 M) (h2 : Cel b x y W) (h3 : b ≠ g1 ∧ b ≠ r1 ∧ b ≠ g2 ∧ b ≠ r2) (k : Far (Pr g1 r1) W W1) {r' : Nat} (hr' : r' = r1 ∨ r' = g1 ∨ W.heap.size ≤ r') (hT : TabAt 50 W1 g1 r' L') : In b x y w g1 g2 L' M W1 :=
  ⟨r', r2, h1.left k hr' hT, h2.far k (fun c => c.elim h3.1 h3.2.1), h3.1, far_apart hr' h2.lt h3.1 h3.2.1, h3.2.2⟩
theorem right {M' : List Tm} {r1 r2 : Nat} (h1 : Both 50 52 w W g1 r1 L g2 r2 M) (h2 : Cel b x y W) (h3 : b ≠ g1 ∧ b ≠ r1 ∧ b ≠ g2 ∧ b ≠ r2) (k : Far (Pr g2 r2) W W1) {r' : Nat} (hr' : r' = r2 ∨ r' = g2 ∨ W.heap.size ≤ r') (hT : TabAt 52 W1 g2 r' M') : In b x y w g1 g2 L M' W1 :=
  ⟨r1, r', h1.right k hr' hT, h2.far k (fun c => c.elim h3.2.2.1 h3.2.2.2), h3.1, h3.2.1, h3.2.2.1, far_apart hr' h2.lt h3.2.2.1 h3.2.2.2⟩
theorem just {g r : Nat} (h : Far (Just g) W W1) : Far (Pr g r) W W1 := h.mono fun _ e => .inl e
theorem setL (h : In b x y w g1 g2 L M W) (i t : Int) (hG : Alarm.Good L) :
    Calls Try.prog 9 #[.pointer (some ⟨g1, 0, none⟩), .int .i64 i, .int .i64 t] W fun e w' => e = .returned (.int .i64 (Alarm.setE i L)) ∧ ∃ L', SetTo i t L L' ∧ In b x y w g1 g2 L' M w' := by
  obtain ⟨r1, r2, h1, h2, h3⟩ := h.ex
  refine (tabSet g1 r1 i t L W h1.a.tab hG).mono fun e w' ⟨k1, L', k2, r', k3, k4, k5⟩ => ?_
  exact ⟨k1, L', k2, left h1 h2 h3 k4 k3 k5⟩
theorem setR (h : In b x y w g1 g2 L M W) (i t : Int) (hl : M.length ≤ 100000) :
    Calls Try.prog 10 #[.pointer (some ⟨g2, 0, none⟩), .int .i64 i, .int .i64 t] W fun e w' => e = .returned (.int .i64 (Alarm.setE i M)) ∧ In b x y w g1 g2 L (setM i t M) w' := by
  obtain ⟨r1, r2, h1, h2, h3⟩ := h.ex
  refine (refSet g2 r2 i t M W h1.b.tab hl).mono fun e w' ⟨k1, k2, r', k3, k4⟩ => ?_
  exact ⟨k1, right h1 h2 h3 (just k2) (.inr k3) k4⟩
theorem dropL (h : In b x y w g1 g2 L M W) (i : Int) (hG : Alarm.Good L) :
    Calls Try.prog 11 #[.pointer (some ⟨g1, 0, none⟩), .int .i64 i] W fun e w' => e = .returned (.int .i64 (Alarm.dropE i L)) ∧ In b x y w g1 g2 (Alarm.drop i L) M w' := by
  obtain ⟨r1, r2, h1, h2, h3⟩ := h.ex
  refine (tabDrop g1 r1 i L W h1.a.tab hG).mono fun e w' ⟨k1, k2, k3⟩ => ?_
  exact ⟨k1, left h1 h2 h3 k2 (.inl rfl) k3⟩
theorem dropR (h : In b x y w g1 g2 L M W) (i : Int) (hl : M.length ≤ 100000) :
    Calls Try.prog 12 #[.pointer (some ⟨g2, 0, none⟩), .int .i64 i] W fun e w' => e = .returned (.int .i64 (Alarm.dropE i M)) ∧ In b x y w g1 g2 L (Alarm.drop i M) w' := by
  obtain ⟨r1, r2, h1, h2, h3⟩ := h.ex
  refine (refDrop g2 r2 i M W h1.b.tab hl).mono fun e w' ⟨k1, k2, r', k3, k4⟩ => ?_
  exact ⟨k1, right h1 h2 h3 (just k2) (.inr k3) k4⟩
theorem dueL (h : In b x y w g1 g2 L M W) (now : Int) (hG : Alarm.Good L) :
    Calls Try.prog 14 #[.pointer (some ⟨g1, 0, none⟩), .int .i64 now] W fun e w' => ∃ A c, e = .returned (.slice A (Alarm.cut now L) c) ∧ IntsAt w' A (ids (Alarm.cut now L) L) ∧ (∀ a r2, A = some a → TabAt 52 w' g2 r2 M → a.block ≠ g2 ∧ a.block ≠ r2) ∧ In b x y w g1 g2 (L.drop (Alarm.cut now L)) M w' := by
  obtain ⟨r1, r2, h1, h2, h3⟩ := h.ex
  refine (tabDue g1 r1 now L W h1.a.tab hG).mono fun e w' ⟨A, c, r', k1, k2, k3, k4, k5, k6⟩ => ?_
  have := h1.b.tab.lt
  have hb := (h1.left k5 k4 k6).b.tab
  exact ⟨A, c, k1, k2, fun a r2' ha hT => ⟨by have := (k3 a ha).1; omega, by have := row_same hb hT; have := (k3 a ha).1; omega⟩, left h1 h2 h3 k5 k4 k6⟩
theorem dueR (h : In b x y w g1 g2 L M W) (now : Int) {L0 : List Tm} (hp : M.Perm L0) (hG : Alarm.Good L0) {A : Option Addr} {l : List Int} (hA : IntsAt W A l) (hr : ∀ a r2, A = some a → TabAt 52 W g2 r2 M → a.block ≠ g2 ∧ a.block ≠ r2) :
    Calls Try.prog 15 #[.pointer (some ⟨g2, 0, none⟩), .int .i64 now] W fun e w' => ∃ B c M', e = .returned (.slice B (Alarm.cut now L0) c) ∧ IntsAt w' B (ids (Alarm.cut now L0) L0) ∧ IntsAt w' A l ∧ M'.Perm (L0.drop (Alarm.cut now L0)) ∧ In b x y w g1 g2 L M' w' := by
  obtain ⟨r1, r2, h1, h2, h3⟩ := h.ex
  refine (refDue g2 r2 now L0 M W h1.b.tab hp hG).mono fun e w' ⟨B, c, r', M', k1, k2, k3, k4, k5, k6, k7⟩ => ?_
  exact ⟨B, c, M', k1, k2, ints_far hA k5 (fun a ha hc => hc.elim (hr a r2 ha h1.b.tab).1 (hr a r2 ha h1.b.tab).2), k6, right h1 h2 h3 k5 k4 k7⟩
theorem nextL (h : In b x y w g1 g2 L M W) (hG : Alarm.Good L) :
    Calls Try.prog 16 #[.pointer (some ⟨g1, 0, none⟩)] W fun e w' => e = .returned (nextV L) ∧ W = w' := by
  obtain ⟨r1, r2, h1, h2, h3⟩ := h.ex
  have := hG.few
  exact tabNext g1 r1 L W h1.a.tab (by omega)
theorem nextR (h : In b x y w g1 g2 L M W) {L0 : List Tm} (hp : M.Perm L0) (hG : Alarm.Good L0) :
    Calls Try.prog 17 #[.pointer (some ⟨g2, 0, none⟩)] W fun e w' => e = .returned (nextV L0) ∧ In b x y w g1 g2 L M w' := by
  obtain ⟨r1, r2, h1, h2, h3⟩ := h.ex
  exact (refNext g2 r2 L0 M W h1.b.tab hp hG).mono fun e w' ⟨k1, k2⟩ => ⟨k1, r1, r2, h1.next k2, h2.next k2, h3⟩
theorem lenL (h : In b x y w g1 g2 L M W) : Calls Try.prog 18 #[.pointer (some ⟨g1, 0, none⟩)] W fun e w' => e = .returned (.int .i64 (L.length : Nat)) ∧ W = w' := by
  obtain ⟨r1, r2, h1, h2, h3⟩ := h.ex
  exact tabLen g1 r1 L W h1.a.tab
theorem hdr (h : In b x y w g1 g2 L M W) : ∃ A c, W.cell? ⟨g2, 0, none⟩ = some (.slice A M.length c) := by
  obtain ⟨r1, r2, h1, h2, h3⟩ := h.ex
  obtain ⟨A, c, hO, -⟩ := h1.b.tab.ex
  exact ⟨A, c, hO.cell 0 rfl⟩
end In
end Go.Proofs.Ytfankcoomfmjlaa
