/- Contracts of layer 8: the program's Lanes and the document's, side by side. -/
import Derived.Test.YtnjlamnpiafpdaaC08f
import Derived.Test.YtnjlamnpiafpdaaC08j
import Derived.Test.YtnjlamnpiafpdaaM19
namespace Go.Proofs.Ytnjlamnpiafpdaa
open Go.RowKit
set_option maxRecDepth 100000
/-- In block g are the program's lanes, in which waits La, in block r the document's, in which waits Lb. -/
structure PairAt (g r : Nat) (La Lb : List It) (w W : World) : Prop where
  ok : Ok w W
  hg : w.heap.size ≤ g
  hr : w.heap.size ≤ r
  ne : g ≠ r
  la : LaneL W g La
  lb : RefAt W g r Lb
/-- Of the blocks that were there only g and r may have changed. -/
structure Only2 (g r : Nat) (w w' : World) : Prop where
  size : w.heap.size ≤ w'.heap.size
  block : ∀ k, k < w.heap.size → k ≠ g → k ≠ r → w'.heap[k]? = w.heap[k]?
namespace Only2
variable {g r : Nat} {w w1 w2 : World}
theorem of_g (h : Only g w w1) : Only2 g r w w1 := ⟨h.size, fun k a b _ => h.block k a b⟩
theorem of_r (h : Only r w w1) : Only2 g r w w1 := ⟨h.size, fun k a _ b => h.block k a b⟩
theorem of_ok (h : Ok w w1) : Only2 g r w w1 := ⟨h.size, fun k a _ _ => h.below.block k a⟩
theorem cell (h : Only2 g r w w1) {b o : Nat} {v : Value} (hc : w.cell? ⟨b, o, none⟩ = some v) (h0 : b < w.heap.size) (h1 : b ≠ g) (h2 : b ≠ r) : w1.cell? ⟨b, o, none⟩ = some v := (World.cell?_of_block (a := ⟨b, o, none⟩) (h.block b h0 h1 h2)).trans hc
end Only2
namespace PairAt
variable {g r : Nat} {La Lb : List It} {w W W1 : World}
theorem next (h : PairAt g r La Lb w W) (k : Ok W W1) : PairAt g r La Lb w W1 := ⟨h.ok.trans k, h.hg, h.hr, h.ne, h.la.next k, h.lb.next k⟩
theorem left {La' : List It} (h : PairAt g r La Lb w W) (k : Only g W W1) (hL : LaneL W1 g La') : PairAt g r La' Lb w W1 := ⟨Only.then_ok h.ok k h.hg, h.hg, h.hr, h.ne, hL, h.lb.only k (Ne.symm h.ne)⟩
theorem right {Lb' : List It} (h : PairAt g r La Lb w W) (k : Only r W W1) (hR : RefAt W1 g r Lb') : PairAt g r La Lb' w W1 := ⟨Only.then_ok h.ok k h.hr, h.hg, h.hr, h.ne, h.la.only k h.ne, hR⟩
theorem pushL (h : PairAt g r La Lb w W) (who : Int) (s : ByteArray) (hs : s.size ≤ 9223372036854775807) :
    Calls Try.prog 10 #[.pointer (some ⟨g, 0, none⟩), .int .i64 who, .string s] W fun _e _w' => _e = .returned (.int .i64 (Lane.pushE La who s)) ∧ Only2 g r W _w' ∧ PairAt g r (Lane.pushL La who s) Lb w _w' :=
  (lanesPush g La who s W h.la hs).mono fun _e _w' ⟨h1, h2, h3⟩ => ⟨h1, Only2.of_g h2, h.left h2 h3⟩
theorem pushR (h : PairAt g r La Lb w W) (who : Int) (s : ByteArray) (hs : s.size ≤ 9223372036854775807) {N : Int} (hG : Lane.Good N Lb) :
    Calls Try.prog 11 #[.pointer (some ⟨r, 0, none⟩), .int .i64 who, .string s] W fun e w' => e = .returned (.int .i64 (Lane.pushE Lb who s)) ∧ Only2 g r W w' ∧ PairAt g r La (Lane.pushL Lb who s) w w' :=
  (refPush g r Lb who s W h.lb (by have := hG.small; omega) h.la.lt h.ne hs).mono fun e w' ⟨h1, h2, h3⟩ => ⟨h1, Only2.of_r h2, h.right h2 h3⟩
theorem tickL (h : PairAt g r La Lb w W) (most : Int) {N : Int} (hG : Lane.Good N La) (hN : N < 4611686018427387904) :
    Calls Try.prog 14 #[.pointer (some ⟨g, 0, none⟩), .int .i64 most] W fun _e _w' => _e = .returned (.int .i64 ((La.length - (Lane.tick most La).length : Nat) : Int)) ∧ Only2 g r W _w' ∧ PairAt g r (Lane.tick most La) Lb w _w' :=
  (lanesTick g La most N W h.la hG hN).mono fun _e _w' ⟨h1, h2, h3⟩ => ⟨h1, Only2.of_g h2, h.left h2 h3⟩
theorem tickR (h : PairAt g r La Lb w W) (most : Int) {N : Int} (hG : Lane.Good N Lb) (hN : N < 4611686018427387904) :
    Calls Try.prog 15 #[.pointer (some ⟨r, 0, none⟩), .int .i64 most] W fun e w' => e = .returned (.int .i64 ((Lb.length - (Lane.tick most Lb).length : Nat) : Int)) ∧ Only2 g r W w' ∧ PairAt g r La (Lane.tick most Lb) w w' :=
  (refTick g r Lb most N W h.lb hG hN (by have := hG.small; omega) h.la.lt h.ne).mono fun e w' ⟨h1, h2, h3⟩ => ⟨h1, Only2.of_r h2, h.right h2 h3⟩
theorem clearL (h : PairAt g r La Lb w W) (who : Int) {N : Int} (hG : Lane.Good N La) :
    Calls Try.prog 16 #[.pointer (some ⟨g, 0, none⟩), .int .i64 who] W fun _e _w' => _e = .returned (.tuple #[]) ∧ Only2 g r W _w' ∧ PairAt g r (Lane.clear who La) Lb w _w' :=
  (lanesClear g La who N W h.la hG).mono fun _e _w' ⟨h1, h2, h3⟩ => ⟨h1, Only2.of_g h2, h.left h2 h3⟩
theorem clearR (h : PairAt g r La Lb w W) (who : Int) {N : Int} (hG : Lane.Good N Lb) :
    Calls Try.prog 17 #[.pointer (some ⟨r, 0, none⟩), .int .i64 who] W fun e w' => e = .returned (.tuple #[]) ∧ Only2 g r W w' ∧ PairAt g r La (Lane.clear who Lb) w w' :=
  (refClear g r Lb who W h.lb (by have := hG.small; omega) h.la.lt h.ne).mono fun e w' ⟨h1, h2, h3⟩ => ⟨h1, Only2.of_r h2, h.right h2 h3⟩
theorem popSomeL (h : PairAt g r La Lb w W) (who : Int) {N : Int} (hG : Lane.Good N La) {xs : ByteArray} {xa : Int} {t : List (ByteArray × Int)} (hr : Lane.row La who = (xs, xa) :: t) :
    Calls Try.prog 12 #[.pointer (some ⟨g, 0, none⟩), .int .i64 who] W fun _e _w' => _e = .returned (.tuple #[.agg #[.string xs, .int .i64 xa], .bool true]) ∧ Only2 g r W _w' ∧ PairAt g r (Lane.drop who La) Lb w _w' :=
  (lanesPopSome g La who N (xs, xa) t W h.la hG hr).mono fun _e _w' ⟨h1, h2, h3⟩ => ⟨h1, Only2.of_g h2, h.left h2 h3⟩
theorem popSomeR (h : PairAt g r La Lb w W) (who : Int) {N : Int} (hG : Lane.Good N Lb) {xs : ByteArray} {xa : Int} {t : List (ByteArray × Int)} (hr : Lane.row Lb who = (xs, xa) :: t) :
    Calls Try.prog 13 #[.pointer (some ⟨r, 0, none⟩), .int .i64 who] W fun e w' => e = .returned (.tuple #[.agg #[.int .i64 who, .string xs, .int .i64 xa], .bool true]) ∧ Only2 g r W w' ∧ PairAt g r La (Lane.drop who Lb) w w' :=
  (refPopSome g r Lb who (xs, xa) t W h.lb (by have := hG.small; omega) h.la.lt h.ne hr).mono fun e w' ⟨h1, h2, h3⟩ => ⟨h1, Only2.of_r h2, h.right h2 h3⟩
theorem popNoneL (h : PairAt g r La Lb w W) (who : Int) {N : Int} (hG : Lane.Good N La) (hr : Lane.row La who = []) :
    Calls Try.prog 12 #[.pointer (some ⟨g, 0, none⟩), .int .i64 who] W fun _e _w' => _e = .returned (.tuple #[.agg #[.string ⟨#[]⟩, .int .i64 0], .bool false]) ∧ Only2 g r W _w' ∧ PairAt g r (Lane.drop who La) Lb w _w' :=
  (lanesPopNone g La who N W h.la hG hr).mono fun _e _w' ⟨h1, h2, h3⟩ => ⟨h1, Only2.of_g h2, h.left h2 h3⟩
theorem popNoneR (h : PairAt g r La Lb w W) (who : Int) {N : Int} (hG : Lane.Good N Lb) (hr : Lane.row Lb who = []) :
    Calls Try.prog 13 #[.pointer (some ⟨r, 0, none⟩), .int .i64 who] W fun e w' => e = .returned (.tuple #[.agg #[.int .i64 0, .string ⟨#[]⟩, .int .i64 0], .bool false]) ∧ Only2 g r W w' ∧ PairAt g r La (Lane.drop who Lb) w w' :=
  (refPopNone g r Lb who W h.lb (by have := hG.small; omega) h.la.lt h.ne hr).mono fun e w' ⟨h1, h2, h3⟩ => ⟨h1, Only2.of_r h2, h.right h2 h3⟩
theorem lenL (h : PairAt g r La Lb w W) (who : Int) {N : Int} (hG : Lane.Good N La) :
    Calls Try.prog 18 #[.pointer (some ⟨g, 0, none⟩), .int .i64 who] W fun e w' => e = .returned (.int .i64 ((Lane.row La who).length : Nat)) ∧ Only2 g r W w' ∧ PairAt g r La Lb w w' :=
  (lanesLen g La who N W h.la hG).mono fun e w' ⟨h1, h2⟩ => by subst h2; exact ⟨h1, Only2.of_ok (Ok.refl _), h⟩
theorem lenR (h : PairAt g r La Lb w W) (who : Int) :
    Calls Try.prog 19 #[.pointer (some ⟨r, 0, none⟩), .int .i64 who] W fun _e _w' => _e = .returned (.int .i64 ((Lane.row Lb who).length : Nat)) ∧ Only2 g r W _w' ∧ PairAt g r La Lb w _w' :=
  (refLen g r Lb who W h.lb).mono fun _e _w' ⟨h1, h2⟩ => ⟨h1, Only2.of_ok h2, h.next h2⟩
end PairAt
end Go.Proofs.Ytnjlamnpiafpdaa
