/- Contracts of layer 14: the program's table and the document's, side by side. -/
import Derived.Test.YtcoeiedaopmpcaaC14i
import Derived.Test.YtcoeiedaopmpcaaC14j
namespace Go.Proofs.Ytcoeiedaopmpcaa
open Go.RowKit
set_option maxRecDepth 100000
def zeroNear : List Value := [.bool false, .int .i64 0, .int .i64 0]
def zeroT : Array Value := (List.replicate 48 zeroNear).flatten.toArray
theorem zeroRef : (Sem.run Try.prog (zeroValue 31)) = (fun w => .ok (.agg zeroT) w) := by
  funext w
  kernel_rfl
theorem flatten_at3 {α : Type} (r : List α) (n : Nat) (hr : r.length = n) : ∀ (m k j : Nat), k < m → j < n → (List.replicate m r).flatten[k * n + j]? = r[j]?
  | 0, _, _, h, _ => absurd h (Nat.not_lt_zero _)
  | m + 1, 0, j, _, hj => by
    rw [List.replicate_succ, List.flatten_cons, Nat.zero_mul, Nat.zero_add, List.getElem?_append_left (by omega)]
  | m + 1, k + 1, j, h, hj => by
    rw [List.replicate_succ, List.flatten_cons, List.getElem?_append_right (by rw [hr, Nat.add_mul]; omega), hr, show (k + 1) * n + j - n = k * n + j by rw [Nat.add_mul]; omega]
    exact flatten_at3 r n hr m k j (by omega) hj
theorem zeroT_at (k j : Nat) (hk : k < 48) (hj : j < 3) : zeroT[k * 3 + j]? = zeroNear[j]? := by
  unfold zeroT
  rw [List.getElem?_toArray]
  exact flatten_at3 zeroNear 3 rfl 48 k j hk hj
theorem zeroT_cells : Cells3 zeroT Mem.nobody := ⟨by decide +kernel, fun k hk => ⟨zeroT_at k 0 hk (by decide), zeroT_at k 1 hk (by decide), zeroT_at k 2 hk (by decide)⟩⟩
/-- The program's table in g (its map in b), the document's in r, made behind w. -/
structure PairM (w W : World) (g b r : Nat) (f f' : NF) : Prop where
  tab : MineM w W g b f
  ref : RefT W r f'
  hr : w.heap.size ≤ r ∧ r ≠ g ∧ r ≠ b
namespace PairM
variable {w W W1 : World} {g b r : Nat} {f f' F : NF}
theorem next (h : PairM w W g b r f f') (k : Ok W W1) : PairM w W1 g b r f f' := ⟨h.tab.next k, h.ref.next k, h.hr⟩
theorem left (h : PairM w W g b r f f') (hT : MineM w W1 g b F) (k : Only b W W1) : PairM w W1 g b r F f' := ⟨hT, h.ref.only k h.hr.2.2, h.hr⟩
theorem right (h : PairM w W g b r f f') (hT : RefT W1 r F) (k : Only r W W1) : PairM w W1 g b r f F := ⟨⟨Only.then_ok h.tab.ok k h.hr.1, h.tab.hg, h.tab.hb, h.tab.tab.only k (fun e => h.hr.2.1 e.symm) (fun e => h.hr.2.2 e.symm), h.tab.good⟩, hT, h.hr⟩
end PairM
theorem pair_start {w W W1 : World} (hok : Ok w W) (hk : Ok W W1) (hT : TabM W1 (W.heap.size + 1) W.heap.size Mem.nobody) : PairM w (W1.alloc (.cells zeroT 31)) (W.heap.size + 1) W.heap.size W1.heap.size Mem.nobody Mem.nobody := by
  have hM := MineM.made hok hk hT
  have h1 := hM.tab.lt
  have h2 := hok.size
  exact ⟨hM.next ((Ok.refl _).alloc _), ⟨zeroT, Own.new _ _ _ rfl, zeroT_cells⟩, by omega, by omega, by omega⟩
/-- Both, and a call's block B, in which its number lies. -/
structure In (B : Nat) (x : Int) (w W : World) (g b r : Nat) (f f' : NF) : Prop where
  pair : PairM w W g b r f f'
  cell : W.cell? ⟨B, 1, none⟩ = some (.int .i64 x)
  lt : B < W.heap.size
  ne : B ≠ b ∧ B ≠ r
namespace In
variable {B : Nat} {x : Int} {w W W1 : World} {g b r : Nat} {f f' F : NF}
theorem next (h : In B x w W g b r f f') (k : Ok W W1) : In B x w W1 g b r f f' := ⟨h.pair.next k, (k.cell (p := ⟨B, 1, none⟩) h.lt).trans h.cell, Nat.lt_of_lt_of_le h.lt k.size, h.ne⟩
theorem left (h : In B x w W g b r f f') (hT : MineM w W1 g b F) (k : Only b W W1) : In B x w W1 g b r F f' := ⟨h.pair.left hT k, (k.cell (p := ⟨B, 1, none⟩) h.lt h.ne.1).trans h.cell, Nat.lt_of_lt_of_le h.lt k.size, h.ne⟩
theorem right (h : In B x w W g b r f f') (hT : RefT W1 r F) (k : Only r W W1) : In B x w W1 g b r f F := ⟨h.pair.right hT k, (k.cell (p := ⟨B, 1, none⟩) h.lt h.ne.2).trans h.cell, Nat.lt_of_lt_of_le h.lt k.size, h.ne⟩
theorem cel (h : In B x w W g b r f f') : W.cell? ⟨B, 1, none⟩ = some (.int .i64 x) ∧ B < W.heap.size := ⟨h.cell, h.lt⟩
theorem hearL (h : In B x w W g b r f f') (hx : (Lit.int .i64 x).wf = true) : Calls Try.prog 9 #[.pointer (some ⟨g, 0, none⟩), .int .i64 x] W fun e w' => e = .returned (.int .i64 (Mem.hearE f x)) ∧ In B x w w' g b r (Mem.hear f x) f' :=
  (h.pair.tab.hear hx).mono fun _ _ ⟨h1, h2, h3⟩ => ⟨h1, h.left h2 h3⟩
theorem hearR (h : In B x w W g b r f f') : Calls Try.prog 10 #[.pointer (some ⟨r, 0, none⟩), .int .i64 x] W fun e w' => e = .returned (.int .i64 (Mem.hearE f' x)) ∧ In B x w w' g b r f (Mem.hear f' x) :=
  (refHear r f' x W h.pair.ref).mono fun _ _ ⟨h1, h2, h3⟩ => ⟨h1, h.right h3 h2⟩
theorem tickL (h : In B x w W g b r f f') (hx : (Lit.int .i64 x).wf = true) : Calls Try.prog 12 #[.pointer (some ⟨g, 0, none⟩), .int .i64 x] W fun e w' => ∃ A c, e = .returned (.slice A (Mem.gone x f).length c) ∧ IntsAt w' A (Mem.ints (Mem.gone x f)) ∧ (∀ a, A = some a → a.block ≠ r) ∧ In B x w w' g b r (Mem.tick x f) f' :=
  (h.pair.tab.tick hx).mono fun _ _ ⟨A, c, h1, h2, h3, h4, h5⟩ => ⟨A, c, h1, h2, fun a ha e => by have := h3 a ha; have := h.pair.ref.lt; omega, h.left h4 h5⟩
theorem tickR (h : In B x w W g b r f f') (hG : Mem.Good f') {A : Option Addr} {l : List Int} (hA : IntsAt W A l) (hr : ∀ a, A = some a → a.block ≠ r) : Calls Try.prog 13 #[.pointer (some ⟨r, 0, none⟩), .int .i64 x] W fun e w' => ∃ A2 c, e = .returned (.slice A2 (Mem.gone x f').length c) ∧ IntsAt w' A2 (Mem.ints (Mem.gone x f')) ∧ IntsAt w' A l ∧ In B x w w' g b r f (Mem.tick x f') :=
  (refTick r x f' W h.pair.ref hG).mono fun _ _ ⟨A2, c, h1, h2, _, h4, h5⟩ => ⟨A2, c, h1, h2, ints_only hA h4 hr, h.right h5 h4⟩
theorem dropL (h : In B x w W g b r f f') (hx : (Lit.int .i64 x).wf = true) : Calls Try.prog 14 #[.pointer (some ⟨g, 0, none⟩), .int .i64 x] W fun e w' => e = .returned (.tuple #[]) ∧ In B x w w' g b r (Mem.dropI f x) f' :=
  (h.pair.tab.drop hx).mono fun _ _ ⟨h1, h2, h3⟩ => ⟨h1, h.left h2 h3⟩
end In
theorem pair_put {w W : World} {g b r k : Nat} {f f' : NF} (h : PairM w W g b r f f') (hk : k < 48) {cs : Array Value} (hO : Own W r cs) (hC : Cells3 cs f') :
    PairM w (((W.setCell ⟨r, k * 3, none⟩ (.bool false)).setCell ⟨r, k * 3 + 1, none⟩ (.int .i64 0)).setCell ⟨r, k * 3 + 2, none⟩ (.int .i64 0)) g b r f (Mem.drop f' k) :=
  h.right ⟨_, own_set3 hO _ _ _, hC.put hk none⟩ (only_set3 (Only.refl r W) _ _ _)
end Go.Proofs.Ytcoeiedaopmpcaa
