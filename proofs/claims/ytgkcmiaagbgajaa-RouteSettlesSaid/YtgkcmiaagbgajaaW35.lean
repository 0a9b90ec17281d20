/- Words of my own: slices of messages that came in; a message's fourteen cells, stored. -/
import Derived.Test.YtgkcmiaagbgajaaW13
import Derived.Test.YtgkcmiaagbgajaaW20
import Derived.Test.YtgkcmiaagbgajaaW22
import Derived.SizedLaws
namespace Go.Proofs.Ytgkcmiaagbgajaa
open Go.RowKit Go.WideShapes Go.ChangeShapes Go.Joins Go.Deep
set_option maxRecDepth 100000
/-- A message, and where its table lies. -/
structure MA where
  m : Msg
  A : Option Addr
  cap : Nat
/-- No message. -/
def noMA : MA := ⟨zeroMsg, none, 0⟩
def nth (l : List MA) (k : Nat) : MA := l.getD k noMA
theorem nth_eq {l : List MA} {k : Nat} (h : k < l.length) : nth l k = l[k] := by
  unfold nth
  rw [List.getD_eq_getElem?_getD, List.getElem?_eq_getElem h]
  rfl
theorem nth_mem {l : List MA} {k : Nat} (h : k < l.length) : nth l k ∈ l := by rw [nth_eq h]; exact List.getElem_mem h
def maL (x : MA) : List Value := (msgCells x.m x.A x.cap).toList
theorem maL_len (x : MA) : (maL x).length = 14 := rfl
/-- What is so of each message that came in. -/
def Mfit (x : MA) : Prop := x.m.table.length ≤ x.cap ∧ x.cap ≤ maxLen ∧ MsgWf x.m ∧ x.m.table.length ≤ 8796093022208
/-- The slice at B reads as these messages. -/
structure MsgsAt (w : World) (B : Option Addr) (l : List MA) : Prop where
  cells : CellsAt w B (l.flatMap maL)
  tabs : ∀ x ∈ l, PairsAt w x.A x.m.table
namespace MsgsAt
variable {w w' : World} {B : Option Addr} {l : List MA}
theorem below (h : MsgsAt w B l) (k : Ok w w') : MsgsAt w' B l := ⟨h.cells.below k, fun x hx => (h.tabs x hx).below k⟩
theorem empty (w : World) (B : Option Addr) : MsgsAt w B [] := ⟨CellsAt.empty _ _, by simp⟩
theorem nthAt (h : MsgsAt w B l) (k : Nat) (hk : k < l.length) : ∃ b off, B = some ⟨b, off, none⟩ ∧ b < w.heap.size ∧ w.cell? ⟨b, off + k * 14, none⟩ = some (.int .i64 (nth l k).m.kind) ∧ w.cell? ⟨b, off + k * 14 + 1, none⟩ = some (.int .i64 (nth l k).m.frm) ∧ w.cell? ⟨b, off + k * 14 + 2, none⟩ = some (.int .i64 (nth l k).m.lo) ∧ w.cell? ⟨b, off + k * 14 + 3, none⟩ = some (.int .i64 (nth l k).m.hi) ∧ w.cell? ⟨b, off + k * 14 + 4, none⟩ = some (.int .i64 (nth l k).m.held) ∧ w.cell? ⟨b, off + k * 14 + 5, none⟩ = some (.int .i64 (nth l k).m.hops) ∧ w.cell? ⟨b, off + k * 14 + 6, none⟩ = some (.bool (nth l k).m.good) ∧ w.cell? ⟨b, off + k * 14 + 7, none⟩ = some (.bool (nth l k).m.ref) ∧ w.cell? ⟨b, off + k * 14 + 8, none⟩ = some (.int .i64 (nth l k).m.slo) ∧ w.cell? ⟨b, off + k * 14 + 9, none⟩ = some (.int .i64 (nth l k).m.shi) ∧ w.cell? ⟨b, off + k * 14 + 10, none⟩ = some (.int .i64 (nth l k).m.pulse) ∧ w.cell? ⟨b, off + k * 14 + 11, none⟩ = some (.int .i64 (nth l k).m.time) ∧ w.cell? ⟨b, off + k * 14 + 12, none⟩ = some (.int .i64 (nth l k).m.num) ∧ w.cell? ⟨b, off + k * 14 + 13, none⟩ = some (.slice (nth l k).A (nth l k).m.table.length (nth l k).cap) := by
  obtain ⟨b, off, e, hlt, hc⟩ := h.cells.at maL_len (by decide) k hk
  rw [nth_eq hk]
  exact ⟨b, off, e, hlt, hc 0 _ rfl, hc 1 _ rfl, hc 2 _ rfl, hc 3 _ rfl, hc 4 _ rfl, hc 5 _ rfl, hc 6 _ rfl, hc 7 _ rfl, hc 8 _ rfl, hc 9 _ rfl, hc 10 _ rfl, hc 11 _ rfl, hc 12 _ rfl, hc 13 _ rfl⟩
end MsgsAt
theorem Own.msg {w : World} {g : Nat} {m : Msg} {A : Option Addr} {c : Nat} (h : Own w g (msgCells m A c)) : w.cell? ⟨g, 0, none⟩ = some (.int .i64 m.kind) ∧ w.cell? ⟨g, 1, none⟩ = some (.int .i64 m.frm) ∧ w.cell? ⟨g, 2, none⟩ = some (.int .i64 m.lo) ∧ w.cell? ⟨g, 3, none⟩ = some (.int .i64 m.hi) ∧ w.cell? ⟨g, 4, none⟩ = some (.int .i64 m.held) ∧ w.cell? ⟨g, 5, none⟩ = some (.int .i64 m.hops) ∧ w.cell? ⟨g, 6, none⟩ = some (.bool m.good) ∧ w.cell? ⟨g, 7, none⟩ = some (.bool m.ref) ∧ w.cell? ⟨g, 8, none⟩ = some (.int .i64 m.slo) ∧ w.cell? ⟨g, 9, none⟩ = some (.int .i64 m.shi) ∧ w.cell? ⟨g, 10, none⟩ = some (.int .i64 m.pulse) ∧ w.cell? ⟨g, 11, none⟩ = some (.int .i64 m.time) ∧ w.cell? ⟨g, 12, none⟩ = some (.int .i64 m.num) ∧ w.cell? ⟨g, 13, none⟩ = some (.slice A m.table.length c) :=
  ⟨h.cell 0 rfl, h.cell 1 rfl, h.cell 2 rfl, h.cell 3 rfl, h.cell 4 rfl, h.cell 5 rfl, h.cell 6 rfl, h.cell 7 rfl, h.cell 8 rfl, h.cell 9 rfl, h.cell 10 rfl, h.cell 11 rfl, h.cell 12 rfl, h.cell 13 rfl⟩
theorem Own.frozen14 {w : World} {g : Nat} {cs : Array Value} (h : Own w g cs) : w.frozen? ⟨g, 0, none⟩ = false ∧ w.frozen? ⟨g, 1, none⟩ = false ∧ w.frozen? ⟨g, 2, none⟩ = false ∧ w.frozen? ⟨g, 3, none⟩ = false ∧ w.frozen? ⟨g, 4, none⟩ = false ∧ w.frozen? ⟨g, 5, none⟩ = false ∧ w.frozen? ⟨g, 6, none⟩ = false ∧ w.frozen? ⟨g, 7, none⟩ = false ∧ w.frozen? ⟨g, 8, none⟩ = false ∧ w.frozen? ⟨g, 9, none⟩ = false ∧ w.frozen? ⟨g, 10, none⟩ = false ∧ w.frozen? ⟨g, 11, none⟩ = false ∧ w.frozen? ⟨g, 12, none⟩ = false ∧ w.frozen? ⟨g, 13, none⟩ = false :=
  ⟨h.frozen 0, h.frozen 1, h.frozen 2, h.frozen 3, h.frozen 4, h.frozen 5, h.frozen 6, h.frozen 7, h.frozen 8, h.frozen 9, h.frozen 10, h.frozen 11, h.frozen 12, h.frozen 13⟩
/-- A message is stored over another. -/
theorem own_set14 {w : World} {g : Nat} {n : Msg} {B : Option Addr} {d : Nat} (h : Own w g (msgCells n B d)) (m : Msg) (A : Option Addr) (c : Nat) : Own ((((((((((((((w.setCell ⟨g, 0, none⟩ (.int .i64 m.kind)).setCell ⟨g, 1, none⟩ (.int .i64 m.frm)).setCell ⟨g, 2, none⟩ (.int .i64 m.lo)).setCell ⟨g, 3, none⟩ (.int .i64 m.hi)).setCell ⟨g, 4, none⟩ (.int .i64 m.held)).setCell ⟨g, 5, none⟩ (.int .i64 m.hops)).setCell ⟨g, 6, none⟩ (.bool m.good)).setCell ⟨g, 7, none⟩ (.bool m.ref)).setCell ⟨g, 8, none⟩ (.int .i64 m.slo)).setCell ⟨g, 9, none⟩ (.int .i64 m.shi)).setCell ⟨g, 10, none⟩ (.int .i64 m.pulse)).setCell ⟨g, 11, none⟩ (.int .i64 m.time)).setCell ⟨g, 12, none⟩ (.int .i64 m.num)).setCell ⟨g, 13, none⟩ (.slice A m.table.length c)) g (msgCells m A c) := by
  have e : (((((((((((((((msgCells n B d)).set! 0 (.int .i64 m.kind)).set! 1 (.int .i64 m.frm)).set! 2 (.int .i64 m.lo)).set! 3 (.int .i64 m.hi)).set! 4 (.int .i64 m.held)).set! 5 (.int .i64 m.hops)).set! 6 (.bool m.good)).set! 7 (.bool m.ref)).set! 8 (.int .i64 m.slo)).set! 9 (.int .i64 m.shi)).set! 10 (.int .i64 m.pulse)).set! 11 (.int .i64 m.time)).set! 12 (.int .i64 m.num)).set! 13 (.slice A m.table.length c) = msgCells m A c := by simp [msgCells]
  rw [← e]
  exact (((((((((((((h.set 0 (.int .i64 m.kind)).set 1 (.int .i64 m.frm)).set 2 (.int .i64 m.lo)).set 3 (.int .i64 m.hi)).set 4 (.int .i64 m.held)).set 5 (.int .i64 m.hops)).set 6 (.bool m.good)).set 7 (.bool m.ref)).set 8 (.int .i64 m.slo)).set 9 (.int .i64 m.shi)).set 10 (.int .i64 m.pulse)).set 11 (.int .i64 m.time)).set 12 (.int .i64 m.num)).set 13 (.slice A m.table.length c)
theorem only_set14 {w W : World} {g : Nat} (h : Only g w W) (m : Msg) (A : Option Addr) (c : Nat) : Only g w ((((((((((((((W.setCell ⟨g, 0, none⟩ (.int .i64 m.kind)).setCell ⟨g, 1, none⟩ (.int .i64 m.frm)).setCell ⟨g, 2, none⟩ (.int .i64 m.lo)).setCell ⟨g, 3, none⟩ (.int .i64 m.hi)).setCell ⟨g, 4, none⟩ (.int .i64 m.held)).setCell ⟨g, 5, none⟩ (.int .i64 m.hops)).setCell ⟨g, 6, none⟩ (.bool m.good)).setCell ⟨g, 7, none⟩ (.bool m.ref)).setCell ⟨g, 8, none⟩ (.int .i64 m.slo)).setCell ⟨g, 9, none⟩ (.int .i64 m.shi)).setCell ⟨g, 10, none⟩ (.int .i64 m.pulse)).setCell ⟨g, 11, none⟩ (.int .i64 m.time)).setCell ⟨g, 12, none⟩ (.int .i64 m.num)).setCell ⟨g, 13, none⟩ (.slice A m.table.length c)) :=
  (((((((((((((h.setR 0 (.int .i64 m.kind)).setR 1 (.int .i64 m.frm)).setR 2 (.int .i64 m.lo)).setR 3 (.int .i64 m.hi)).setR 4 (.int .i64 m.held)).setR 5 (.int .i64 m.hops)).setR 6 (.bool m.good)).setR 7 (.bool m.ref)).setR 8 (.int .i64 m.slo)).setR 9 (.int .i64 m.shi)).setR 10 (.int .i64 m.pulse)).setR 11 (.int .i64 m.time)).setR 12 (.int .i64 m.num)).setR 13 (.slice A m.table.length c)
theorem pairs_only {r : Nat} {w w1 : World} {A : Option Addr} {l : List (Int × Int)} (h : PairsAt w A l) (k : Only r w w1) (hA : ∀ a, A = some a → a.block ≠ r) : PairsAt w1 A l := fun j hj => by
  obtain ⟨b, off, e, hlt, hc, hd⟩ := h j hj
  exact ⟨b, off, e, Nat.lt_of_lt_of_le hlt k.size, (k.cell (p := ⟨b, off + j * 2, none⟩) hlt (show b ≠ r from hA _ e)).trans hc, (k.cell (p := ⟨b, off + j * 2 + 1, none⟩) hlt (show b ≠ r from hA _ e)).trans hd⟩
section
variable {H : Type} {enc : TypeId × Value → H} {P : Program} {w : World} {base : Nat}
theorem weights_all {e : TypeId} : ∀ {l : List (DataW H)} {d : DataW H}, d ∈ l → ∀ n ∈ d.weights P e, n ∈ DataW.weightsAll P e l
  | [], _, h, _, _ => by simp at h
  | x :: l, d, h, n, hn => by
    simp only [DataW.weightsAll, List.mem_append]
    rcases List.mem_cons.1 h with rfl | h
    · exact Or.inl hn
    · exact Or.inr (weights_all h n hn)
theorem sized_any {ts : List TypeId} {ds : List (DataW H)} (h : (DataW.weightsEach P ts ds).all (· ≤ reachBytes) = true) {j : Nat} {t : TypeId} {d : DataW H} (ht : ts[j]? = some t) (hd : ds[j]? = some d) : ∀ n ∈ d.weights P t, n ≤ reachBytes := fun n hn => by
  simpa using List.all_eq_true.1 h _ (DataW.weights_mem_each ht hd n hn)
/-- A slice of messages that came in. -/
theorem open_msgs {v : Value} {d : DataW H} {ps : List MemPlace} (hsz : ∀ n ∈ d.weights Try.prog 31, n ≤ reachBytes) (hv : Value.okWide Try.prog w .any base 31 v) (h : DataW.Trod enc Try.prog w 0 (fun _ => true) true 31 v d ps) :
    ∃ (A : Option Addr) (l : List MA) (cap : Nat), v = .slice A l.length cap ∧ MsgsAt w A l ∧ l.length ≤ 9223372036854775807 ∧ ∀ x ∈ l, Mfit x := by
  have ht := Try.underlying31
  obtain ⟨a0, len, cap, rfl⟩ := okWide_slice ht hv
  obtain ⟨fuel, hf⟩ := h
  rcases open_slice ht hf with h2 | ⟨a, len', cap', m, n, D, Pl, hcs, hb, hl, hm, hmm, hx, hi⟩
  · simp [Value.cells] at h2
    obtain ⟨⟨rfl, rfl, rfl⟩, -⟩ := h2
    exact ⟨none, [], 0, rfl, MsgsAt.empty _ _, by simp, by simp⟩
  · simp [Value.cells] at hcs
    obtain ⟨rfl, rfl, rfl⟩ := hcs
    simp only [if_true] at hmm
    subst hmm
    have hC : Try.prog.cellsOf 38 = 14 := by kernel_rfl
    have key : ∀ i : Fin len, ∃ x : MA, (∀ j u, (maL x)[j]? = some u → w.cell? (a.add (i * 14 + j)) = some u) ∧ PairsAt w x.A x.m.table ∧ Mfit x := by
      intro i
      obtain ⟨cs', hc, ht'⟩ := hi i (by omega)
      rw [hC] at hc
      obtain ⟨_, hcl, hat⟩ := World.cells?_some hc
      obtain ⟨mm, A, c, e, h1, h2, h3, h4, h5⟩ := trod_msg hcl ht'
      refine ⟨⟨mm, A, c⟩, fun j u hj => ?_, h1, h2, h3, h4, h5 fun n hn => hsz n ?_⟩
      · have hjl : j < 14 := (List.getElem?_eq_some_iff.1 hj).1
        rw [← Go.Deep.add_add, hat j hjl, e]
        exact hj
      · have hd : d = .slice ((List.range len).map D) ((List.range (m - len)).map fun j => D (len + j)) := congrArg Prod.fst hx
        rw [hd]
        simp only [DataW.weights, ht, List.mem_cons, List.mem_append]
        exact Or.inr (Or.inl (weights_all (d := D i.1) (List.mem_map.2 ⟨i.1, List.mem_range.2 i.2, rfl⟩) n hn))
    obtain ⟨F, hF⟩ := Classical.axiomOfChoice key
    have hlen : (List.ofFn F).length = len := by simp
    refine ⟨some a, List.ofFn F, _, by rw [hlen], ⟨fun j u hj => ?_, fun x hx => ?_⟩, by unfold maxLen at hm; omega, fun x hx => ?_⟩
    · obtain ⟨k, hk, e1, e2⟩ := flatMap_inv maL 14 maL_len (by decide) _ j u hj
      rw [hlen] at hk
      have h := (hF ⟨k, hk⟩).1 (j % 14) u (by simpa using e2)
      obtain ⟨b, off, spot⟩ := a
      have hspot : spot = none := by
        have hp0 : 0 < len := by omega
        have h0 := (hF ⟨0, hp0⟩).1 0 _ rfl
        simpa [Addr.add] using World.cell?_spot h0
      subst hspot
      simp only [Go.WideShapes.add_plain, e1, Nat.div_add_mod'] at h
      exact ⟨b, off, rfl, cell_lt h, h⟩
    · obtain ⟨i, rfl⟩ := List.mem_ofFn.1 hx
      exact (hF i).2.1
    · obtain ⟨i, rfl⟩ := List.mem_ofFn.1 hx
      exact (hF i).2.2
end
end Go.Proofs.Ytgkcmiaagbgajaa
