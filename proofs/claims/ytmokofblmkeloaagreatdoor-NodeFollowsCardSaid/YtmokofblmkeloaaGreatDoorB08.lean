/- Contracts of layer 7: Least, Most and Middle, the program's. -/
import Derived.Test.YtmokofblmkeloaaGreatDoorC07a
import Derived.Test.YtmokofblmkeloaaGreatDoorB01
import Derived.Laws.AppendOwn
import Derived.Deep.AppendLies
import Derived.Deep.RegionHeld3
import Derived.Deep.DrawnRows
namespace Go.Proofs.YtmokofblmkeloaaGreatDoor
open Go.RowKit
set_option maxRecDepth 100000
theorem Trim.is_t {k : Int} {n : Nat} (h : 0 ≤ k ∧ k < n) : Trim.is k n = true := decide_eq_true h
theorem Trim.is_f {k : Int} {n : Nat} (h : ¬(0 ≤ k ∧ k < n)) : Trim.is k n = false := decide_eq_false h
theorem trimLeast (k : Int) (A : Option Addr) (l : List Int) (cap : Nat) (w : World) (hI : IntsAt w A l) (hl : l.length ≤ 1099511627776) :
    Calls Tryz.prog 156 #[.int .i64 k, .slice A l.length cap] w fun e w' => e = .returned (.tuple #[.int .i64 (Trim.val k l), .bool (Trim.is k l.length)]) ∧ Ok w w' := by
  by_cases h : 0 ≤ k ∧ k < l.length
  · rw [Trim.is_t h]
    obtain ⟨n, rfl⟩ : ∃ n : Nat, k = n := ⟨k.toNat, by omega⟩
    unfold Trim.val
    rw [if_pos h]
    exact trimLeastT n A l cap w hI hl (by omega)
  · rw [Trim.is_f h, Trim.val_out h]
    exact trimLeastF k A l cap w h
theorem trimMost (k : Int) (A : Option Addr) (l : List Int) (cap : Nat) (w : World) (hI : IntsAt w A l) (hl : l.length ≤ 1099511627776) :
    Calls Tryz.prog 184 #[.int .i64 k, .slice A l.length cap] w fun e w' => e = .returned (.tuple #[.int .i64 (Trim.val ((l.length : Int) - 1 - k) l), .bool (Trim.is k l.length)]) ∧ Ok w w' := by
  have hok := Ok.refl w
  by_cases h : 0 ≤ k ∧ k < l.length
  · have K := Lib.hid (trimLeast ((l.length : Int) - 1 - k) A l cap w hI hl)
    rw [Trim.is_t (show 0 ≤ (l.length : Int) - 1 - k ∧ (l.length : Int) - 1 - k < l.length by omega)] at K
    rw [Trim.is_t h]
    obtain ⟨n, rfl⟩ : ∃ n : Nat, k = n := ⟨k.toNat, by omega⟩
    have hn : n < l.length := by omega
    clear h hI
    go_enter Tryz.func184, Tryz.ntmps184
    go_wp2_with (first
      | (go_at_call 185; refine (trimHasT n _ _ _ _ hn).mono ?_; rintro e w1 ⟨rfl, rfl⟩)
      | (go_at_call 156; refine K.out.mono ?_; rintro e w2 ⟨rfl, hb⟩))
    go_ret2
    exact ⟨rfl, hb⟩
  · rw [Trim.is_f h, Trim.val_out (by omega)]
    go_enter Tryz.func184, Tryz.ntmps184
    go_wp2_with (go_at_call 185; refine (trimHasF k _ _ _ _ h).mono ?_; rintro e w1 ⟨rfl, rfl⟩)
    go_ret2
    exact ⟨rfl, hok⟩
theorem trimOutvoted (f n : Int) (w : World) (hn : 0 ≤ n ∧ n ≤ 1099511627776) (hf : -9223372036854775808 ≤ f ∧ f ≤ 9223372036854775807) : Calls Tryz.prog 183 #[.int .i64 f, .int .i64 n] w fun e w' => e = .returned (.bool (Trim.many f n.toNat)) ∧ w = w' := by
  by_cases h0 : 0 ≤ f
  · have hr : IntKind.i64.wrap (n - f) = n - f := IntWalk.i64_in _ ⟨by omega, by omega⟩
    have hm : Trim.many f n.toNat = decide (f < n - f) := by
      unfold Trim.many
      rw [show ((n.toNat : Nat) : Int) = n by omega]
      simp [h0]
    rw [hm]
    by_cases h1 : f < n - f
    · rw [decide_eq_true h1]
      have h2 : 0 ≤ n - f := by omega
      clear hm hf
      go_enter Tryz.func183, Tryz.ntmps183
      go_wp2
      go_ret
      exact ⟨rfl, rfl⟩
    · rw [decide_eq_false h1]
      clear hm hf
      go_enter Tryz.func183, Tryz.ntmps183
      go_wp2
      go_ret
      exact ⟨rfl, rfl⟩
  · have hm : Trim.many f n.toNat = false := decide_eq_false fun g => h0 g.1
    rw [hm]
    clear hm hf
    go_enter Tryz.func183, Tryz.ntmps183
    go_wp2
    go_ret
    exact ⟨rfl, rfl⟩
theorem trimOutvotedN (f : Int) (n : Nat) (w : World) (hn : n ≤ 1099511627776) (hf : -9223372036854775808 ≤ f ∧ f ≤ 9223372036854775807) : Calls Tryz.prog 183 #[.int .i64 f, .int .i64 (n : Int)] w fun e w' => e = .returned (.bool (Trim.many f n)) ∧ w = w' := by
  have := trimOutvoted f n w (by omega) hf
  rwa [Int.toNat_natCast] at this
end Go.Proofs.YtmokofblmkeloaaGreatDoor

/- Contracts of layer 7: the document's Least, Most, Few and Middle. -/
namespace Go.Proofs.YtmokofblmkeloaaGreatDoor
open Go.RowKit
set_option maxRecDepth 100000
end Go.Proofs.YtmokofblmkeloaaGreatDoor

/- Words of my own: two rows of integers of one's own that grow side by side, and a struct of two integers beside them. -/
namespace Go.Proofs.YtmokofblmkeloaaGreatDoor
open Go.RowKit Go.WideShapes Go.ChangeShapes
/-- Two rows of integers of one's own, va and vb, in blocks that differ; nothing of w has turned; the struct (x, y) lies in block c. -/
structure Duo (w W : World) (e : TypeId) (c : Nat) (x y : Int) (va vb : Value) (la lb : List Int) : Prop where
  ra : W.ownsRow w.heap.size e 1 va la.length (la.map (Value.int .i64))
  rb : W.ownsRow w.heap.size e 1 vb lb.length (lb.map (Value.int .i64))
  apart : ∀ g, va.ownBlock = some g → vb.ownBlock ≠ some g
  na : va.ownBlock ≠ some c
  nb : vb.ownBlock ≠ some c
  c0 : W.cell? ⟨c, 0, none⟩ = some (.int .i64 x)
  c1 : W.cell? ⟨c, 1, none⟩ = some (.int .i64 y)
  lt : c < W.heap.size
  ok : Ok w W
namespace Duo
variable {w W : World} {e : TypeId} {c : Nat} {x y : Int} {va vb : Value} {la lb : List Int}
theorem cells (h : Duo w W e c x y va vb la lb) : W.cell? ⟨c, 0, none⟩ = some (.int .i64 x) ∧ W.cell? ⟨c, 1, none⟩ = some (.int .i64 y) ∧ c < W.heap.size := ⟨h.c0, h.c1, h.lt⟩
theorem start (t : TypeId) (hok : Ok w W) (ra : W.ownsRow w.heap.size e 1 va la.length (la.map (Value.int .i64))) (rb : W.ownsRow w.heap.size e 1 vb lb.length (lb.map (Value.int .i64))) (ap : ∀ g, va.ownBlock = some g → vb.ownBlock ≠ some g) :
    Duo w (W.alloc (.cells #[.int .i64 x, .int .i64 y] t)) e W.heap.size x y va vb la lb :=
  ⟨ra.alloc _, rb.alloc _, ap, fun h => by have := (ra.lt _ h).2; omega, fun h => by have := (rb.lt _ h).2; omega, (Slab.new W x y t rfl).c0, (Slab.new W x y t rfl).c1, (Slab.new W x y t rfl).lt, hok.alloc _⟩
theorem alloc (h : Duo w W e c x y va vb la lb) (o : Obj) : Duo w (W.alloc o) e c x y va vb la lb :=
  ⟨h.ra.alloc o, h.rb.alloc o, h.apart, h.na, h.nb, ((below_alloc W o).cell (p := ⟨c, 0, none⟩) h.lt).trans h.c0, ((below_alloc W o).cell (p := ⟨c, 1, none⟩) h.lt).trans h.c1, Nat.lt_of_lt_of_le h.lt (below_alloc W o).size, h.ok.alloc o⟩
theorem drew (h : Duo w W e c x y va vb la lb) : Duo w W.drew e c x y va vb la lb :=
  ⟨h.ra, h.rb, h.apart, h.na, h.nb, h.c0, h.c1, h.lt, h.ok.drew⟩
theorem swap (h : Duo w W e c x y va vb la lb) : Duo w W e c x y vb va lb la :=
  ⟨h.rb, h.ra, fun g hg hg' => h.apart g hg' hg, h.nb, h.na, h.c0, h.c1, h.lt, h.ok⟩
/-- Behind an append to the first. -/
theorem grown {W' : World} {g cap : Nat} {z : Int} {H : Nat} (h : Duo w W e c x y va vb la lb) (hH : W.heap.size = H) (hr : W'.ownsRow w.heap.size e 1 (.slice (some ⟨g, 0, none⟩) (la.length + 1) cap) (la.length + 1) (la.map (Value.int .i64) ++ [.int .i64 z])) (hg : W.grownBy W' va.ownBlock) (hl : va.ownBlock = some g ∨ g = H) :
    Duo w W' e c x y (.slice (some ⟨g, 0, none⟩) (la.length + 1) cap) vb (la ++ [z]) lb := by
  have hgB : w.heap.size ≤ g := (hr.lt g rfl).1
  have hrow : ∀ k, va.ownBlock = some k → w.heap.size ≤ k := fun k hk => (h.ra.lt k hk).1
  refine ⟨by simpa using hr, h.rb.kept hg ?_, ?_, ?_, h.nb, hg.cell h.c0 fun e => h.na e.symm, hg.cell h.c1 fun e => h.na e.symm, Nat.lt_of_lt_of_le h.lt hg.size, Below.grown h.ok hg h.ok.size hrow⟩
  · cases hb : vb.ownBlock with
    | none => exact .inl rfl
    | some k => exact .inr fun e => h.apart k e.symm hb
  · intro k hk hk'
    simp [Value.ownBlock] at hk
    subst hk
    rcases hl with hl | hl
    · exact h.apart _ hl hk'
    · have := (h.rb.lt _ hk').2; omega
  · intro hk
    simp [Value.ownBlock] at hk
    rcases hl with hl | hl
    · exact h.na (hk ▸ hl)
    · have := h.lt; omega
theorem stepA {P : Program} {ops : Array Oper} {o : Oper} {a : Act} {K : Act → World → Prop} {Q : Exit → Act → World → Prop} {E : Prop} (h : Duo w W e c x y va vb la lb) (hgd : o.guard = none) (s q : Operand) (t : TypeId)
    (ho : o.op = .call { callee := .builtin .append, args := #[s, q], argTypes := #[t, t] }) (ht : P.underlying t = some (.slice e)) (hi : (P.info? e).map (fun i => (i.zero, i.size, i.bytes)) = some (some (.int .i64 0), 1, 8))
    (hs : a.eval s = va) (b m : Nat) (hq : a.eval q = .slice (some ⟨b, 0, none⟩) 1 m) (z : Int) (hb : W.cell? ⟨b, 0, none⟩ = some (.int .i64 z)) (hl : la.length ≤ 1099511627776)
    (hK : ∀ g cap W', Duo w W' e c x y (.slice (some ⟨g, 0, none⟩) (la.length + 1) cap) vb (la ++ [z]) lb → (∀ k v, W.cell? ⟨k, 0, none⟩ = some v → some k ≠ va.ownBlock → W'.cell? ⟨k, 0, none⟩ = some v) → K (a.put o.dst (.slice (some ⟨g, 0, none⟩) (la.length + 1) cap)) W') :
    if Region.wanted o (yielded ops a.tmps) = true then Oper.wp P o a W K Q else E := by
  obtain ⟨i, i0, i1, i2, i3⟩ := info_parts hi
  refine step_append_lies W hgd s q t ho w.heap.size e i (.int .i64 0) 1 8 ht i0 i1 i2 i3 rfl (by decide) va la.length _ hs h.ra ⟨b, 0, none⟩ 1 m [.int .i64 z] hq rfl (fun j u hj => ?_) (fun u hu => by simp at hu; subst hu; rfl) (by decide) (by unfold maxLen; omega) (by omega) h.ok.size W.heap.size rfl fun g cap W' h1 h2 h3 _ => hK g cap W' (h.grown rfl h1 h2 h3) fun k v hk hne => h2.cell hk hne
  cases j with
  | zero => simp at hj; subst hj; rw [Go.WideShapes.add_plain]; exact hb
  | succ j => simp at hj
theorem stepB {P : Program} {ops : Array Oper} {o : Oper} {a : Act} {K : Act → World → Prop} {Q : Exit → Act → World → Prop} {E : Prop} (h : Duo w W e c x y va vb la lb) (hgd : o.guard = none) (s q : Operand) (t : TypeId)
    (ho : o.op = .call { callee := .builtin .append, args := #[s, q], argTypes := #[t, t] }) (ht : P.underlying t = some (.slice e)) (hi : (P.info? e).map (fun i => (i.zero, i.size, i.bytes)) = some (some (.int .i64 0), 1, 8))
    (hs : a.eval s = vb) (b m : Nat) (hq : a.eval q = .slice (some ⟨b, 0, none⟩) 1 m) (z : Int) (hb : W.cell? ⟨b, 0, none⟩ = some (.int .i64 z)) (hl : lb.length ≤ 1099511627776)
    (hK : ∀ g cap W', Duo w W' e c x y va (.slice (some ⟨g, 0, none⟩) (lb.length + 1) cap) la (lb ++ [z]) → (∀ k v, W.cell? ⟨k, 0, none⟩ = some v → some k ≠ vb.ownBlock → W'.cell? ⟨k, 0, none⟩ = some v) → K (a.put o.dst (.slice (some ⟨g, 0, none⟩) (lb.length + 1) cap)) W') :
    if Region.wanted o (yielded ops a.tmps) = true then Oper.wp P o a W K Q else E :=
  h.swap.stepA hgd s q t ho ht hi hs b m hq z hb hl fun g cap W' h1 h2 => hK g cap W' h1.swap h2
/-- A block behind all that was there is none of theirs. -/
theorem farA (h : Duo w W e c x y va vb la lb) {k : Nat} (hk : W.heap.size ≤ k) : some k ≠ va.ownBlock := fun e => by have := (h.ra.lt k e.symm).2; omega
theorem farB (h : Duo w W e c x y va vb la lb) {k : Nat} (hk : W.heap.size ≤ k) : some k ≠ vb.ownBlock := h.swap.farA hk
end Duo
end Go.Proofs.YtmokofblmkeloaaGreatDoor

/- Contracts of layer 7: Fuse, the program's and the document's. -/
namespace Go.Proofs.YtmokofblmkeloaaGreatDoor
open Go.RowKit
set_option maxRecDepth 100000
attribute [local go_sem ↓] Go.wp_at_zero Go.wp_at_succ
theorem infoInt : (Tryz.prog.info? 3).map (fun i => (i.zero, i.size, i.bytes)) = some (some (.int .i64 0), 1, 8) := by kernel_rfl
theorem lows_snoc {l : List (Int × Int)} {k : Nat} (h : k < l.length) : (l.take (k + 1)).map (·.1) = (l.take k).map (·.1) ++ [l[k].1] ∧ (l.take (k + 1)).map (·.2) = (l.take k).map (·.2) ++ [l[k].2] := by
  rw [take_more h, List.map_append, List.map_append]; exact ⟨rfl, rfl⟩
/-- The two rows, told by the beginning of the list. -/
def Lows (w W : World) (va vb : Value) (l : List (Int × Int)) : Prop :=
  W.ownsRow w.heap.size 3 1 va l.length ((l.map (·.1)).map (Value.int .i64)) ∧ W.ownsRow w.heap.size 3 1 vb l.length ((l.map (·.2)).map (Value.int .i64)) ∧ (∀ g, va.ownBlock = some g → vb.ownBlock ≠ some g) ∧ Ok w W
theorem Lows.start {w W : World} (h : Ok w W) : Lows w W (.slice none 0 0) (.slice none 0 0) [] := ⟨World.ownsRow_nil _ _ _ _, World.ownsRow_nil _ _ _ _, fun g hg => by simp [Value.ownBlock] at hg, h⟩
theorem Lows.duo {w W : World} {va vb : Value} {l : List (Int × Int)} (h : Lows w W va vb l) (x y : Int) (t : TypeId) : Duo w (W.alloc (.cells #[.int .i64 x, .int .i64 y] t)) 3 W.heap.size x y va vb (l.map (·.1)) (l.map (·.2)) :=
  Duo.start t h.2.2.2 (by rw [List.length_map]; exact h.1) (by rw [List.length_map]; exact h.2.1) h.2.2.1
theorem Lows.of_duo {w W : World} {c : Nat} {x y : Int} {va vb : Value} {l : List (Int × Int)} {k : Nat} (hk : k < l.length) (h : Duo w W 3 c x y va vb ((l.take k).map (·.1) ++ [l[k].1]) ((l.take k).map (·.2) ++ [l[k].2])) : Lows w W va vb (l.take (k + 1)) := by
  have ha := h.ra
  have hb := h.rb
  rw [← (lows_snoc hk).1] at ha
  rw [← (lows_snoc hk).2] at hb
  rw [List.length_map] at ha hb
  exact ⟨ha, hb, h.apart, h.ok⟩
/-- Fuse's two ends, of the spans as they are told. -/
def fLo (f : Int) (l : List (Int × Int)) : Int := Trim.val ((l.length : Int) - 1 - f) (l.map (·.1))
def fHi (f : Int) (l : List (Int × Int)) : Int := Trim.val f (l.map (·.2))
theorem ints_of_row {W : World} {B n : Nat} {v : Value} {l : List Int} (hn : l.length = n) (h : W.ownsRow B 3 1 v n (l.map (Value.int .i64))) : ∃ A cap, v = .slice A n cap ∧ IntsAt W A l := by
  subst hn
  exact IntsAt.of_own h
theorem spanEmptyT (lo hi : Int) (h : hi < lo) (w : World) : Calls Tryz.prog 52 #[spanV lo hi] w fun e w' => e = .returned (.bool true) ∧ Ok w w' := by
  have := spanEmpty lo hi w
  rwa [decide_eq_true h] at this
theorem spanEmptyF (lo hi : Int) (h : lo ≤ hi) (w : World) : Calls Tryz.prog 52 #[spanV lo hi] w fun e w' => e = .returned (.bool false) ∧ Ok w w' := by
  have := spanEmpty lo hi w
  rwa [decide_eq_false (by omega)] at this
theorem trimFuseFew (f : Int) (A : Option Addr) (l : List (Int × Int)) (cap : Nat) (w : World) (hl : l.length ≤ 1099511627776) (hf : -9223372036854775808 ≤ f ∧ f ≤ 9223372036854775807) (hm : Trim.many f l.length = false) :
    Calls Tryz.prog 155 #[.int .i64 f, .slice A l.length cap] w fun e w' => e = .returned (.tuple #[spanV 0 0, .bool false]) ∧ Ok w w' := by
  have hok := Ok.refl w
  have KO := Lib.hid fun w => trimOutvotedN f l.length w hl hf
  rw [hm] at KO
  clear hm hf
  go_enter Tryz.func155, Tryz.ntmps155
  go_wp2_with (go_at_call 183; refine (KO.out _).mono ?_; rintro e w1 ⟨rfl, rfl⟩)
  exact bodyPost_ret (v := .tuple #[spanV 0 0, .bool false]) (by simp [results, Tryz.results155, go_sem]) rfl ⟨rfl, hok.alloc _⟩
set_option maxHeartbeats 3200000 in
theorem trimFuseMany (f : Int) (A : Option Addr) (l : List (Int × Int)) (cap : Nat) (w : World) (hA : PairsAt w A l) (hl : l.length ≤ 1099511627776) (hf : -9223372036854775808 ≤ f ∧ f ≤ 9223372036854775807) (hm : Trim.many f l.length = true) :
    Calls Tryz.prog 155 #[.int .i64 f, .slice A l.length cap] w fun e w' => e = .returned (.tuple #[if fHi f l < fLo f l then spanV 0 0 else spanV (Sat.clip (fLo f l)) (Sat.clip (fHi f l)), .bool (!decide (fHi f l < fLo f l))]) ∧ Ok w w' := by
  have hok := Ok.refl w
  have KO := Lib.hid fun w => trimOutvotedN f l.length w hl hf
  rw [hm] at KO
  obtain ⟨Z, hZ⟩ : ∃ Z : Value, (if fHi f l < fLo f l then spanV 0 0 else spanV (Sat.clip (fLo f l)) (Sat.clip (fHi f l))) = Z := ⟨_, rfl⟩
  obtain ⟨q, hq⟩ : ∃ q : Bool, (!decide (fHi f l < fLo f l)) = q := ⟨_, rfl⟩
  rw [hZ, hq]
  have HZ := Lib.hid (And.intro hZ hq)
  clear hm hf hZ hq
  go_enter Tryz.func155, Tryz.ntmps155
  go_wp2_with (go_at_call 183; refine (KO.out _).mono ?_; rintro e w1 ⟨rfl, rfl⟩)
  have hR := Slab.new w 0 0 25 rfl
  replace hok := hok.alloc (.cells #[.int .i64 0, .int .i64 0] 25)
  obtain ⟨r, hr⟩ : ∃ r, w.heap.size = r := ⟨_, rfl⟩
  have hrl := Nat.le_of_eq hr
  rw [hr] at hR ⊢
  replace hA := hA.below hok
  generalize w.alloc (.cells #[.int .i64 0, .int .i64 0] 25) = w0 at hR hok hA ⊢
  go_loopw [6, 7, 22] (fun va vb i wr => ∃ k : Nat, k ≤ l.length ∧ i = .int .i64 k ∧ Lows w0 wr va vb (l.take k)) (fun _ _ i _ => l.length - (intOf i).toNat)
  case atStart => exact ⟨0, Nat.zero_le _, rfl, by rw [List.take_zero]; exact Lows.start (Ok.refl _)⟩
  case round =>
    obtain ⟨k, hk, rfl, hL⟩ := hrel
    by_cases hlt : k < l.length
    · obtain ⟨b, off, hA2, hb, p0, p1⟩ := hA.below hL.2.2.2 k hlt
      subst hA2
      have HD := Lib.hid (hL.duo l[k].1 l[k].2 25)
      have HE := Lib.hid fun W va vb c x y h => Lows.of_duo (w := w0) (W := W) (c := c) (x := x) (y := y) (va := va) (vb := vb) hlt h
      have hlen : (l.take k).length = k := by simp; omega
      have LA := Lib.hid (show ((l.take k).map (·.1)).length = k by simpa using hlen)
      have LB := Lib.hid (show ((l.take k).map (·.2)).length = k by simpa using hlen)
      generalize l[k].1 = x at p0 HD HE
      generalize l[k].2 = y at p1 HD HE
      generalize (l.take k).map (·.1) = la at HD HE LA
      generalize (l.take k).map (·.2) = lb at HD HE LB
      clear hlen hL
      go_upto_region 7 with (fail)
      obtain ⟨c, hc⟩ : ∃ c, wr.heap.size = c := ⟨_, rfl⟩
      rw [hc] at HD ⊢
      have hD := HD.out
      generalize wr.alloc (.cells #[.int .i64 x, .int .i64 y] 25) = W at hD ⊢
      clear HD p0 p1 hc hb
      go_region_held3 (fun w' => w'.cell? ⟨c, 0, none⟩ = some (.int .i64 x) ∧ w'.cell? ⟨c, 1, none⟩ = some (.int .i64 y) ∧ c < w'.heap.size)
        (first | assumption | exact hD.drew.cells | exact (hD.drew.alloc _).cells | exact ((hD.drew.alloc _).alloc _).cells | exact DA.cells | exact (DA.alloc _).cells | exact DB.cells | exact (DB.alloc _).cells)
        (first
          | (refine Duo.stepA (by first | exact DB.alloc _ | exact DB | exact (hD.drew.alloc _).alloc _ | exact hD.drew.alloc _) rfl (.tmp 26) (.tmp 29) 56 rfl Tryz.underlying56 infoInt rfl _ 1 rfl x ?_ (by rw [LA.out]; omega) ?_; (focus (first | (simp; done) | (refine kB _ _ ?_ ?_ <;> (first | (simp; done) | exact hD.drew.farB (by simp)); done))); intro ga ca WA DA kA)
          | (refine Duo.stepB (by first | exact DA.alloc _ | exact DA | exact (hD.drew.alloc _).alloc _ | exact hD.drew.alloc _) rfl (.tmp 31) (.tmp 34) 56 rfl Tryz.underlying56 infoInt rfl _ 1 rfl y ?_ (by rw [LB.out]; omega) ?_; (focus (first | (simp; done) | (refine kA _ _ ?_ ?_ <;> (first | (simp; done) | exact hD.drew.farA (by simp)); done))); intro gb cb WB DB kB))
      all_goals
        go_wp2_with fail
        go_roundw
        case rel => exact ⟨k + 1, by omega, by go_num, HE.out _ _ _ _ _ _ (by first | exact DB | exact DA)⟩
        case measure => simp [intOf]; omega
    · obtain ⟨q1, q2, -, hok2⟩ := hL
      rw [List.take_of_length_le (show l.length ≤ k by omega)] at q1 q2
      obtain ⟨A1, c1, rfl, I1⟩ := ints_of_row (l := l.map (·.1)) (by simp) q1
      obtain ⟨A2, c2, rfl, I2⟩ := ints_of_row (l := l.map (·.2)) (by simp) q2
      have KM := Lib.hid fun w h => trimMost f A1 (l.map (·.1)) c1 w h (by simpa using hl)
      have KL := Lib.hid fun w h => trimLeast f A2 (l.map (·.2)) c2 w h (by simpa using hl)
      rw [List.length_map] at KM KL
      replace hR := hR.next hok2
      replace hok2 := hok.trans hok2
      clear q1 q2 hA hok
      rw [show Trim.val ((l.length : Int) - 1 - f) (l.map (·.1)) = fLo f l from rfl] at KM
      rw [show Trim.val f (l.map (·.2)) = fHi f l from rfl] at KL
      generalize Trim.is f l.length = qb at KM KL
      generalize fLo f l = lo at KM HZ
      generalize fHi f l = hi at KL HZ
      by_cases hlh : hi < lo
      · have hz : Z = spanV 0 0 ∧ q = false := ⟨by rw [← HZ.out.1, if_pos hlh], by rw [← HZ.out.2, decide_eq_true hlh]; rfl⟩
        go_wp2_with (first
          | (go_at_call 184; refine (KM.out _ I1).mono ?_; rintro e w2 ⟨rfl, hb1⟩; replace hR := hR.next hb1; have J2 := I2.below hb1; replace hok2 := hok2.trans hb1; clear hb1)
          | (go_at_call 156; refine (KL.out _ J2).mono ?_; rintro e w3 ⟨rfl, hb1⟩; replace hR := hR.next hb1; replace hok2 := hok2.trans hb1; clear hb1)
          | (go_at_call 52; refine (spanEmptyT _ _ hlh _).mono ?_; rintro e w5 ⟨rfl, hb1⟩; replace hR := hR.next hb1; have hok3 := hok2.trans hb1; clear hb1; have c0 := hR.c0; have c1 := hR.c1; have f0 := hR.f0; have f1 := hR.f1; have hrl2 := hR.lt))
        have hF := hR.set 0 0
        have hok4 := (hok3.setCell (p := ⟨r, 0, none⟩) hrl (.int .i64 0)).setCell (p := ⟨r, 1, none⟩) hrl (.int .i64 0)
        generalize (w5.setCell ⟨r, 0, none⟩ (.int .i64 0)).setCell ⟨r, 1, none⟩ (.int .i64 0) = W at hF hok4 ⊢
        have e0 := hF.c0
        have e1 := hF.c1
        exact bodyPost_ret (v := .tuple #[spanV 0 0, .bool false]) (by simp [results, Tryz.results155, go_sem, e0, e1]) rfl ⟨by rw [hz.1, hz.2], hok4⟩
      · have hz : Z = spanV (Sat.clip lo) (Sat.clip hi) ∧ q = true := ⟨by rw [← HZ.out.1, if_neg hlh], by rw [← HZ.out.2, decide_eq_false hlh]; rfl⟩
        have hlh' : lo ≤ hi := Int.not_lt.1 hlh
        go_wp2_with (first
          | (go_at_call 184; refine (KM.out _ I1).mono ?_; rintro e w2 ⟨rfl, hb1⟩; replace hR := hR.next hb1; have J2 := I2.below hb1; replace hok2 := hok2.trans hb1; clear hb1)
          | (go_at_call 156; refine (KL.out _ J2).mono ?_; rintro e w3 ⟨rfl, hb1⟩; replace hR := hR.next hb1; replace hok2 := hok2.trans hb1; clear hb1)
          | (go_at_call 52; refine (spanEmptyF _ _ hlh' _).mono ?_; rintro e w5 ⟨rfl, hb1⟩; replace hR := hR.next hb1; replace hok2 := hok2.trans hb1; clear hb1)
          | (go_at_call 51; refine (spanOf _ _ _).mono ?_; rintro e w4 ⟨rfl, hb1⟩; replace hR := hR.next hb1; have hok3 := hok2.trans hb1; clear hb1; have c0 := hR.c0; have c1 := hR.c1; have f0 := hR.f0; have f1 := hR.f1; have hrl2 := hR.lt))
        have hF := hR.set (Sat.clip lo) (Sat.clip hi)
        have hok4 := (hok3.setCell (p := ⟨r, 0, none⟩) hrl (.int .i64 (Sat.clip lo))).setCell (p := ⟨r, 1, none⟩) hrl (.int .i64 (Sat.clip hi))
        generalize (w4.setCell ⟨r, 0, none⟩ (.int .i64 (Sat.clip lo))).setCell ⟨r, 1, none⟩ (.int .i64 (Sat.clip hi)) = W at hF hok4 ⊢
        have e0 := hF.c0
        have e1 := hF.c1
        exact bodyPost_ret (v := .tuple #[spanV (Sat.clip lo) (Sat.clip hi), .bool true]) (by simp [results, Tryz.results155, go_sem, e0, e1]) rfl ⟨by rw [hz.1, hz.2], hok4⟩

end Go.Proofs.YtmokofblmkeloaaGreatDoor

/- Contracts of layer 7: Fuse, the document's. -/
namespace Go.Proofs.YtmokofblmkeloaaGreatDoor
open Go.RowKit
set_option maxRecDepth 100000
end Go.Proofs.YtmokofblmkeloaaGreatDoor

/- Contracts of layer 7: Fuse in one sentence; what every law asks first. -/
namespace Go.Proofs.YtmokofblmkeloaaGreatDoor
open Go.RowKit
set_option maxRecDepth 100000
/-- Whether something is left, as the program finds it. -/
def fLeft (f : Int) (l : List (Int × Int)) : Bool := Trim.many f l.length && !decide (fHi f l < fLo f l)
/-- What the program's Fuse answers. -/
def fz (f : Int) (l : List (Int × Int)) : Int × Int := if fLeft f l = true then (Sat.clip (fLo f l), Sat.clip (fHi f l)) else (0, 0)
theorem trimFuse (f : Int) (A : Option Addr) (l : List (Int × Int)) (cap : Nat) (w : World) (hA : PairsAt w A l) (hl : l.length ≤ 1099511627776) (hf : -9223372036854775808 ≤ f ∧ f ≤ 9223372036854775807) :
    Calls Tryz.prog 155 #[.int .i64 f, .slice A l.length cap] w fun e w' => e = .returned (.tuple #[spanV (fz f l).1 (fz f l).2, .bool (fLeft f l)]) ∧ Ok w w' := by
  cases hm : Trim.many f l.length
  · have h1 : fLeft f l = false := by unfold fLeft; rw [hm]; rfl
    have h2 : fz f l = (0, 0) := by unfold fz; rw [h1]; rfl
    rw [h1, h2]
    exact trimFuseFew f A l cap w hl hf hm
  · by_cases h : fHi f l < fLo f l
    · have h1 : fLeft f l = false := by unfold fLeft; rw [hm, decide_eq_true h]; rfl
      have h2 : fz f l = (0, 0) := by unfold fz; rw [h1]; rfl
      rw [h1, h2]
      refine (trimFuseMany f A l cap w hA hl hf hm).mono fun e w' ⟨h3, h4⟩ => ⟨?_, h4⟩
      rw [h3, if_pos h, decide_eq_true h]
      rfl
    · have h1 : fLeft f l = true := by unfold fLeft; rw [hm, decide_eq_false h]; rfl
      have h2 : fz f l = (Sat.clip (fLo f l), Sat.clip (fHi f l)) := by unfold fz; rw [h1]; rfl
      rw [h1, h2]
      refine (trimFuseMany f A l cap w hA hl hf hm).mono fun e w' ⟨h3, h4⟩ => ⟨?_, h4⟩
      rw [h3, if_neg h, decide_eq_false h]
      rfl
end Go.Proofs.YtmokofblmkeloaaGreatDoor
