/- Contracts of layer 6: the program's writer. -/
import Derived.Test.YtacnoakbcilmfaaC06i
import Derived.Test.YtacnoakbcilmfaaC06c
import Derived.Test.YtacnoakbcilmfaaC05e
import Derived.Test.YtacnoakbcilmfaaW05
import Derived.Test.YtacnoakbcilmfaaW09
import Derived.Deep.AppendLies
import Derived.Deep.RegionLaw
import Derived.Deep.DrawnRows
namespace Go.Proofs.Ytacnoakbcilmfaa
open Go.RowKit
set_option maxRecDepth 100000
/-- A pen: the block g holds a slice of one's own that reads as l; the blocks Pr are as they were in w0. -/
structure Pen (Pr : Nat → Prop) (g : Nat) (l : List Nat) (w0 w : World) : Prop where
  os : w.os = w0.os
  tape : w.tape = w0.tape
  output : w.output = w0.output
  size : w0.heap.size ≤ w.heap.size
  block : ∀ k, Pr k → k < w0.heap.size ∧ k ≠ g ∧ w.heap[k]? = w0.heap[k]?
  row : ∃ h cap, Own w g #[.slice (some ⟨h, 0, none⟩) l.length cap] ∧ w.ownsRow 0 5 1 (.slice (some ⟨h, 0, none⟩) l.length cap) l.length (u8s l) ∧ h ≠ g ∧ ¬ Pr h
namespace Pen
variable {Pr Pr' : Nat → Prop} {g : Nat} {l : List Nat} {w0 w w1 : World}
theorem cell (h : Pen Pr g l w0 w) {a : Addr} (ha : Pr a.block) : w.cell? a = w0.cell? a := World.cell?_of_block (h.block _ ha).2.2
theorem lt (h : Pen Pr g l w0 w) : g < w.heap.size := by
  obtain ⟨_, _, hO, _⟩ := h.row
  exact hO.lt
/-- The pen is put down, others write in new memory, and it is taken again: with other blocks to be kept. -/
theorem again (h : Pen Pr g l w0 w) (k : Ok w w1) (hp : ∀ q, Pr' q → q < w1.heap.size ∧ (Pr q ∨ w.heap.size ≤ q)) : Pen Pr' g l w1 w1 := by
  have hg := h.lt
  obtain ⟨c, cap, hO, hr, hne, hnp⟩ := h.row
  have hcl : c < w.heap.size := (hr.lt c rfl).2
  refine ⟨rfl, rfl, rfl, Nat.le_refl _, fun q hq => ?_, c, cap, hO.next k, ?_, hne, fun hq => ?_⟩
  · obtain ⟨h1, h2⟩ := hp q hq
    refine ⟨h1, ?_, rfl⟩
    rcases h2 with h2 | h2
    · exact (h.block q h2).2.1
    · omega
  · exact hr.kept (w' := w1) (row := none) ⟨k.below.os, k.below.tape, k.below.output, k.size, fun i hi _ => k.below.block i hi⟩ (.inr (by simp [Value.ownBlock]))
  · obtain ⟨_, h2⟩ := hp c hq
    rcases h2 with h2 | h2
    · exact hnp h2
    · omega
/-- What is kept of a pen's writing. -/
theorem trans (h : Pen Pr g l w0 w) (k : Ok w w1) {l' : List Nat} {w2 : World} (h2 : Pen Pr' g l' w1 w2) (hp : ∀ q, Pr q → Pr' q) : Pen Pr g l' w0 w2 := by
  obtain ⟨c, cap, hO, hr, hne, hnp⟩ := h2.row
  refine ⟨(h2.os.trans k.below.os).trans h.os, (h2.tape.trans k.below.tape).trans h.tape, (h2.output.trans k.below.output).trans h.output, Nat.le_trans h.size (Nat.le_trans k.size h2.size), fun q hq => ?_, c, cap, hO, hr, hne, fun hc => hnp (hp _ hc)⟩
  obtain ⟨a1, a2, a3⟩ := h.block q hq
  exact ⟨a1, a2, ((h2.block q (hp q hq)).2.2.trans (k.below.block q (Nat.lt_of_lt_of_le a1 h.size))).trans a3⟩
/-- One byte more. -/
theorem push {n c cap cap2 h2 H : Nat} {W : World} {b : Nat} {v : Value} (h : Pen Pr g l w0 w) (hn : n = l.length) (hO : Own w g #[.slice (some ⟨c, 0, none⟩) n cap]) (hc : c ≠ g) (hcp : ¬ Pr c) (k : Ok w W) (hH : W.heap.size = H)
    (hg : W.grownBy w1 (some c)) (hown : w1.ownsRow 0 5 1 (.slice (some ⟨h2, 0, none⟩) (n + 1) cap2) (n + 1) (u8s l ++ [.int .u8 (b : Int)])) (hat : some c = some h2 ∨ h2 = H) (hv : v = .slice (some ⟨h2, 0, none⟩) (n + 1) cap2) :
    Pen Pr g (l ++ [b]) w0 (w1.setCell ⟨g, 0, none⟩ v) := by
  subst hv
  subst hn
  have hgl := hO.lt
  have hgW : g < W.heap.size := Nat.lt_of_lt_of_le hgl k.size
  have h2g : h2 ≠ g := by
    rcases hat with e | e
    · cases e; exact hc
    · omega
  have h2p : ¬ Pr h2 := by
    rcases hat with e | e
    · cases e; exact hcp
    · intro hq
      have := (h.block _ hq).1
      have := h.size
      have := k.size
      omega
  have hO1 : Own w1 g #[.slice (some ⟨c, 0, none⟩) l.length cap] := by
    obtain ⟨t, ht⟩ := hO.next k
    exact ⟨t, (hg.block g hgW (by simp; exact fun e => hc e.symm)).trans ht⟩
  refine ⟨hg.os.trans (k.below.os.trans h.os), hg.tape.trans (k.below.tape.trans h.tape), hg.output.trans (k.below.output.trans h.output), Nat.le_trans h.size (Nat.le_trans k.size (by simpa using hg.size)), fun q hq => ?_, h2, cap2, ?_, ?_, h2g, h2p⟩
  · obtain ⟨a1, a2, a3⟩ := h.block q hq
    refine ⟨a1, a2, ?_⟩
    have hql : q < w.heap.size := Nat.lt_of_lt_of_le a1 h.size
    rw [Below.heap_setCell w1 ⟨g, 0, none⟩ _ q a2, hg.block q (Nat.lt_of_lt_of_le hql k.size) (by simp; rintro rfl; exact hcp hq), k.below.block q hql, a3]
  · have := hO1.set 0 (.slice (some ⟨h2, 0, none⟩) (l.length + 1) cap2)
    simpa using this
  · have e : u8s l ++ [.int .u8 (b : Int)] = u8s (l ++ [b]) := by simp [u8s]
    rw [e] at hown
    have hlen : (l ++ [b]).length = l.length + 1 := by simp
    rw [hlen]
    obtain ⟨x1, x2⟩ := hown
    refine ⟨x1, ?_⟩
    rcases x2 with ⟨x2, _⟩ | ⟨g', cp, cur, e1, e2, e3, e4⟩
    · cases x2
    · cases e1
      exact .inr ⟨h2, _, cur, rfl, e2, (Below.heap_setCell w1 ⟨g, 0, none⟩ _ h2 h2g).trans e3, e4⟩
/-- append of one byte to what the pen has laid, as a step of a region that draws. -/
theorem step {ops : Array Oper} {o : Oper} {a : Act} {K : Act → World → Prop} {Q : Exit → Act → World → Prop} {E : Prop} {n c cap B b : Nat} {W : World} {t : TypeId} (h : Pen Pr g l w0 w) (hn : n = l.length) (hO : Own w g #[.slice (some ⟨c, 0, none⟩) n cap])
    (hr : w.ownsRow 0 5 1 (.slice (some ⟨c, 0, none⟩) n cap) n (u8s l)) (hc : c ≠ g) (hcp : ¬ Pr c) (hlen : n ≤ 1000000) (s x : Operand) (hgd : o.guard = none) (ho : o.op = .call { callee := .builtin .append, args := #[s, x], argTypes := #[41, 41] })
    (hs : a.eval s = .slice (some ⟨c, 0, none⟩) n cap) (hx : a.eval x = .slice (some ⟨B, 0, none⟩) 1 1) (k : Ok w W) (hB : W.heap[B]? = some (.cells #[.int .u8 (b : Int)] t (0, 0)))
    (hK : ∀ h2 cap2 w1, w1.cell? ⟨g, 0, none⟩ = some (.slice (some ⟨c, 0, none⟩) n cap) → w1.frozen? ⟨g, 0, none⟩ = false → Pen Pr g (l ++ [b]) w0 (w1.setCell ⟨g, 0, none⟩ (.slice (some ⟨h2, 0, none⟩) (n + 1) cap2)) → K (a.put o.dst (.slice (some ⟨h2, 0, none⟩) (n + 1) cap2)) w1) :
    if Region.wanted o (yielded ops a.tmps) = true then Oper.wp Try.prog o a W K Q else E := by
  obtain ⟨i, i0, i1, i2, i3⟩ := info_parts uint8Info
  have hrW : W.ownsRow 0 5 1 (.slice (some ⟨c, 0, none⟩) n cap) n (u8s l) := hr.kept (w' := W) (row := none) ⟨k.below.os, k.below.tape, k.below.output, k.size, fun i hi _ => k.below.block i hi⟩ (.inr (by simp [Value.ownBlock]))
  refine step_append_lies W hgd s x 41 ho 0 5 i (.int .u8 0) 1 1 Try.underlying41 i0 i1 i2 i3 rfl (by decide) _ n (u8s l) hs hrW ⟨B, 0, none⟩ 1 1 [.int .u8 (b : Int)] hx rfl (World.news_of_block hB) (fun u hu => by rw [List.mem_singleton.1 hu]; rfl) (by decide) (by unfold maxLen; omega) (by omega) (Nat.zero_le _) _ rfl ?_
  intro g2 cap2 w1 hown hgrow hat hlt
  have hOW := hO.next k
  have hgW := hOW.lt
  have hne : some g ≠ some c := by intro e; cases e; exact hc rfl
  refine hK g2 cap2 w1 ?_ ?_ (h.push hn hO hc hcp k rfl hgrow hown hat rfl)
  · exact (hgrow.cell_far ⟨g, 0, none⟩ hgW hne).trans (hOW.cell 0 rfl)
  · exact (hgrow.frozen_far ⟨g, 0, none⟩ hgW hne).trans (hOW.frozen 0)
end Pen
theorem eight_at (x : Int) (k : Nat) (hk : k < 8) : (Wire.eight x)[k]? = some (x / 2 ^ (8 * (7 - k)) % 256).toNat := by
  have key : ∀ (n : Nat) (k : Nat), k < n → (Wire.bytesBE n x)[k]? = some (x / 2 ^ (8 * (n - 1 - k)) % 256).toNat := by
    intro n
    induction n with
    | zero => intro k h; omega
    | succ n ih =>
      intro k h
      rw [bytes_cons]
      cases k with
      | zero =>
        rw [List.getElem?_cons_zero, Nat.add_sub_cancel, Nat.sub_zero, Int.pow_mul]
        rfl
      | succ k =>
        rw [List.getElem?_cons_succ, ih k (by omega)]
        congr 5
        omega
  exact key 8 k hk
theorem eight_take (x : Int) (k : Nat) (hk : k < 8) : (Wire.eight x).take (k + 1) = (Wire.eight x).take k ++ [(x / 2 ^ (8 * (7 - k)) % 256).toNat] := by
  rw [List.take_add_one, eight_at x k hk]
  rfl
set_option maxHeartbeats 1600000 in
theorem wireNumber {Pr : Nat → Prop} {g : Nat} {l : List Nat} {w0 : World} (x : Int) (w : World) (h : Pen Pr g l w0 w) (hl : l.length ≤ 100000) :
    Calls Try.prog 26 #[.pointer (some ⟨g, 0, none⟩), .int .i64 x] w fun e w' => e = .returned (.tuple #[]) ∧ Pen Pr g (l ++ Wire.eight x) w0 w' := by
  go_enter Try.func26, Try.ntmps26
  go_wp2
  go_loopw [5] (fun i wx => ∃ k : Nat, k ≤ 8 ∧ i = .int .i64 k ∧ Pen Pr g (l ++ (Wire.eight x).take k) w0 wx) (fun i _ => 8 - (intOf i).toNat)
  case atStart => exact ⟨0, by omega, rfl, by simpa using h⟩
  case round =>
    clear h
    obtain ⟨k, hk, rfl, hP⟩ := hrel
    by_cases hlt : k < 8
    · have HT := Lib.hid (eight_take x k hlt)
      obtain ⟨p, hp⟩ : ∃ p, l ++ (Wire.eight x).take k = p := ⟨_, rfl⟩
      have hpl : p.length ≤ 100008 := by
        rw [← hp, List.length_append, List.length_take, Wire.eight_length]; omega
      have HP2 := Lib.hid hp
      rw [hp] at hP
      clear hp
      obtain ⟨c, cap, hO, hr, hcg, hcp⟩ := hP.row
      have c0 := hO.cell 0 (v := .slice (some ⟨c, 0, none⟩) p.length cap) rfl
      have f0 := hO.frozen 0
      have hgl := hO.lt
      have HP := Lib.hid hP
      have HO := Lib.hid hO
      have HR := Lib.hid hr
      have HCP := Lib.hid hcp
      have j1 : IntKind.i64.wrap (7 - (k : Int)) = 7 - (k : Int) := IntWalk.i64_in _ ⟨by omega, by omega⟩
      have j2 : IntKind.i64.wrap (8 * (7 - (k : Int))) = 8 * (7 - (k : Int)) := IntWalk.i64_in _ ⟨by omega, by omega⟩
      have j3 : (0 : Int) ≤ 8 * (7 - (k : Int)) := by omega
      have j4 : (8 * (7 - (k : Int))).toNat = 8 * (7 - k) := by omega
      have j5 : ¬ (8 * (7 - (k : Int)) < 0) := by omega
      obtain ⟨b, hb⟩ : ∃ b, (x / 2 ^ (8 * (7 - k)) % 256).toNat = b := ⟨_, rfl⟩
      have j6 : IntKind.u8.wrap (x / 2 ^ (8 * (7 - k))) = (b : Int) := by rw [← hb]; exact (Int.toNat_of_nonneg (Int.emod_nonneg _ (by decide))).symm
      rw [hb] at HT
      have HPL := Lib.hid (show p.length ≤ 1000000 by omega)
      clear hP hO hr hcp hb hpl
      go_wp2_with fail
      go_region_law (refine Pen.step HP.out rfl HO.out HR.out hcg HCP.out HPL.out (.tmp 12) (.tmp 19) rfl rfl rfl rfl (by first | exact ((Ok.refl wr).alloc _).drew | exact (Ok.refl wr).drew.alloc _) (by exact heap_alloc_new _ _) ?_; intro h2 cap2 w1 cg fg hpen)
      all_goals
        clear HP HO HR c0 f0 cg fg
        go_wp2
        go_roundw
        case rel => exact ⟨k + 1, by omega, by go_num, by rw [HT.out, ← List.append_assoc, HP2.out]; exact hpen⟩
        case measure => simp [intOf]; omega
    · obtain rfl : k = 8 := by omega
      have e8 : (Wire.eight x).take 8 = Wire.eight x := List.take_of_length_le (by rw [Wire.eight_length]; omega)
      rw [e8] at hP
      clear hlt e8
      go_wp2
      first | go_end0 | exact bodyPost_ret (results_none rfl _ _ _) rfl ⟨rfl, hP⟩
      exact ⟨rfl, hP⟩
end Go.Proofs.Ytacnoakbcilmfaa
