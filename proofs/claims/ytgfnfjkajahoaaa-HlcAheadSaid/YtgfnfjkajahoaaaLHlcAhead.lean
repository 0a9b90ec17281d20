/- HlcAhead: for every slice of things that happen and every start the law answers true: along any chain of things that happen at a node one behind the other, and of messages that are sent and heard, stamps rise. No condition. -/
import Derived.Test.YtgfnfjkajahoaaaC20f
import Derived.Test.YtgfnfjkajahoaaaW18
import Derived.Test.YtgfnfjkajahoaaaW38
import Derived.Deep.CutRange
import Derived.Deep.RegionLaw
import Derived.Deep.RegionHeld3
import Derived.Deep.DrawnRows
namespace Go.Proofs.Ytgfnfjkajahoaaa.hlcAhead
open Go.ChangeShapes Go.WideShapes Go.ChangeAt Go.RowKit
set_option linter.unusedVariables false
set_option maxRecDepth 100000
attribute [local go_sem ↓] Go.wp_at_zero Go.wp_at_succ
/-- The first m clocks are begun. -/
def st0 (x : Int) (m j : Nat) : Int × Int := if j < m then (x, 0) else (0, 0)
theorem pc_st0 (x : Int) (m j : Nat) : pc (st0 x (m + 1)) j = if j = m * 2 then .int .i64 x else pc (st0 x m) j := by
  have h2 : ∀ m j, (st0 x m j).2 = 0 := fun m j => by unfold st0; split <;> rfl
  unfold pc
  by_cases p : j % 2 = 0
  · rw [if_pos p, if_pos p]
    by_cases e : j = m * 2
    · rw [if_pos e, show j / 2 = m by omega]
      unfold st0
      rw [if_pos (by omega)]
    · rw [if_neg e]
      unfold st0
      by_cases q : j / 2 < m
      · rw [if_pos q, if_pos (by omega)]
      · rw [if_neg q, if_neg (by omega)]
  · rw [if_neg p, if_neg p, if_neg (by omega), h2, h2]
theorem pc_full (x : Int) (j : Nat) (h : j < 16) : pc (fun _ => (x, 0)) j = pc (st0 x 8) j := by
  have h8 : j / 2 < 8 := by omega
  unfold pc st0
  simp only [h8, if_true]
theorem infoInt : (Try.prog.info? 3).map (fun i => (i.zero, i.size, i.bytes)) = some (some (.int .i64 0), 1, 8) := by kernel_rfl
theorem infoStamp : (Try.prog.info? 23).map (fun i => (i.zero, i.size, i.bytes)) = some (some (.agg #[.int .i64 0, .int .i64 0]), 2, 16) := by kernel_rfl
theorem told_at (S : Nat → Int × Int) (k m : Nat) (h : m < (told S k).length) : (told S k)[m] = S m := by simp [told]
theorem told_last (S : Nat → Int × Int) (k : Nat) (v : Int × Int) : told (upd S k v) (k + 1) = told (upd S k v) k ++ [v] := by
  unfold told
  rw [List.range_succ, List.map_append, List.map_singleton, upd_same]
theorem at_of (x : Int) : ∃ p : Nat, p < 8 ∧ wrap64 ((IntKind.u64.wrap x).tmod 8) = (p : Int) := by
  have h0 : 0 ≤ IntKind.u64.wrap x := by unfold IntKind.wrap IntKind.signed IntKind.bits; simp; omega
  refine ⟨(IntKind.u64.wrap x % 8).toNat, by omega, ?_⟩
  rw [Int.tmod_eq_emod_of_nonneg h0, IntWalk.wrap64_in _ (by omega)]
  omega
/-- What holds of the clocks, of what was said, and of who was last, behind k things. -/
structure Good (k : Nat) (C S : Nat → Int × Int) (L : Nat → Int) : Prop where
  c : ∀ j, j < 8 → Hlc.Wf k (C j)
  s : ∀ j, j < k → Hlc.Wf k (S j)
  l : ∀ j, j < 8 → L j = -1 ∨ ∃ m, m < k ∧ L j = (m : Int) ∧ S m = C j
theorem Good.start {x : Int} (h : -1152921504606846976 ≤ x ∧ x ≤ 1152921504606846976) (S : Nat → Int × Int) : Good 0 (fun _ => (x, 0)) S (fun _ => -1) :=
  ⟨fun _ _ => Hlc.wf_start h, fun j hj => absurd hj (Nat.not_lt_zero j), fun _ _ => .inl rfl⟩
theorem Good.step {k : Nat} {C S : Nat → Int × Int} {L : Nat → Int} (h : Good k C S L) {a : Nat} (ha : a < 8) {x : Int × Int} (hx : Hlc.Wf (k + 1) x) : Good (k + 1) (upd C a x) (upd S k x) (upd L a k) := by
  refine ⟨fun j hj => ?_, fun j hj => ?_, fun j hj => ?_⟩
  · by_cases e : j = a
    · subst e; rw [upd_same]; exact hx
    · rw [upd_else _ _ e]; exact (h.c j hj).mono (Nat.le_succ k)
  · by_cases e : j = k
    · subst e; rw [upd_same]; exact hx
    · rw [upd_else _ _ e]; exact (h.s j (by omega)).mono (Nat.le_succ k)
  · by_cases e : j = a
    · subst e
      rw [upd_same, upd_same]
      exact .inr ⟨k, by omega, rfl, upd_same _ _ _⟩
    · rw [upd_else _ _ e, upd_else _ _ e]
      rcases h.l j hj with g | ⟨m, h1, h2, h3⟩
      · exact .inl g
      · exact .inr ⟨m, by omega, h2, by rw [upd_else _ _ (by omega)]; exact h3⟩
theorem big (w : World) (A : Option Addr) (l : List Cal3) (cap : Nat) (hA : CellsAt w A (l.flatMap cal3cells)) (start : Int) (h : 40 < l.length) : Calls Try.prog 7 #[.slice A l.length cap, .int .i64 start] w fun e w' => e = .returned (.bool true) ∧ Ok w w' := by
  have hok := Ok.refl w
  go_enter Try.func7, Try.ntmps7
  go_wp2_with (go_at_call 9; refine (law20Alive _).mono ?_; rintro e w1 ⟨rfl, hb1⟩; replace hok := hok.trans hb1; replace hA := hA.below hb1; clear hb1)
  go_ret
  exact ⟨rfl, hok⟩
theorem far (w : World) (A : Option Addr) (l : List Cal3) (cap : Nat) (hA : CellsAt w A (l.flatMap cal3cells)) (start : Int) (h : l.length ≤ 40) (h2 : 1152921504606846976 < start) : Calls Try.prog 7 #[.slice A l.length cap, .int .i64 start] w fun e w' => e = .returned (.bool true) ∧ Ok w w' := by
  have hok := Ok.refl w
  go_enter Try.func7, Try.ntmps7
  go_wp2_with (go_at_call 9; refine (law20Alive _).mono ?_; rintro e w1 ⟨rfl, hb1⟩; replace hok := hok.trans hb1; replace hA := hA.below hb1; clear hb1)
  go_ret
  exact ⟨rfl, hok⟩
theorem low (w : World) (A : Option Addr) (l : List Cal3) (cap : Nat) (hA : CellsAt w A (l.flatMap cal3cells)) (start : Int) (h : l.length ≤ 40) (h2 : start < -1152921504606846976) : Calls Try.prog 7 #[.slice A l.length cap, .int .i64 start] w fun e w' => e = .returned (.bool true) ∧ Ok w w' := by
  have hok := Ok.refl w
  go_enter Try.func7, Try.ntmps7
  go_wp2_with (go_at_call 9; refine (law20Alive _).mono ?_; rintro e w1 ⟨rfl, hb1⟩; replace hok := hok.trans hb1; replace hA := hA.below hb1; clear hb1)
  go_ret
  exact ⟨rfl, hok⟩
/-- What each operation leaves. -/
def VMZ (b3 off3 k c3 m : Nat) (x y x1 y1 : Int) (w : World) (v : Value) : Nat → Prop
  | 0 => v = .slice (some ⟨b3, off3, none⟩) (k + 1) c3
  | 1 => v = .int .i64 m
  | 2 => v = .pointer (some ⟨b3, off3 + m * 2, none⟩)
  | 3 => v = .agg #[.int .i64 x1, .int .i64 y1]
  | 4 => v = .slice (some ⟨b3, off3, none⟩) (k + 1) c3
  | 5 => v = .int .i64 k
  | 6 => v = .pointer (some ⟨b3, off3 + k * 2, none⟩)
  | 7 => v = .agg #[.int .i64 x, .int .i64 y]
  | 8 => v = .bool true
  | 9 => v = .bool false
  | _ => v = .bool true
/-- It stays so. -/
def VCZ (b3 off3 k c3 m : Nat) (x y x1 y1 : Int) (i : Nat) (v : Value) (w : World) : Prop := ∀ w', Ok w w' → VMZ b3 off3 k c3 m x y x1 y1 w' v i
set_option maxHeartbeats 6400000 in
theorem main (w : World) (A : Option Addr) (l : List Cal3) (cap : Nat) (hA : CellsAt w A (l.flatMap cal3cells)) (start : Int) (hn : l.length ≤ 40) (h1 : start ≤ 1152921504606846976) (h2 : -1152921504606846976 ≤ start) : Calls Try.prog 7 #[.slice A l.length cap, .int .i64 start] w fun e w' => e = .returned (.bool true) ∧ Ok w w' := by
  have hok := Ok.refl w
  have hmk : ∀ W : World, Sem.run Try.prog (Instr.makeSlice 42 (.int .i64 (l.length : Int)) (.int .i64 (l.length : Int))) W = .ok (.slice (some ⟨W.heap.size, 0, none⟩) l.length l.length) (W.alloc (.cells (Array.replicate (2 * l.length) (.int .i64 0)) 23)) := fun W =>
    run_make_pairs Try.underlying42 infoStamp (by decide) l.length (by omega) W
  have HS := Lib.hid (And.intro h2 h1)
  have HA := Lib.hid hA
  clear hA
  go_enter Try.func7, Try.ntmps7
  go_upto_region 6 with (go_at_call 9; refine (law20Alive _).mono ?_; rintro e w1 ⟨rfl, hb1⟩; replace hok := hok.trans hb1; clear hb1)
  have hC0 : CellsF (w1.alloc (.cells #[.int .i64 0, .int .i64 0, .int .i64 0, .int .i64 0, .int .i64 0, .int .i64 0, .int .i64 0, .int .i64 0, .int .i64 0, .int .i64 0, .int .i64 0, .int .i64 0, .int .i64 0, .int .i64 0, .int .i64 0, .int .i64 0] 41)) w1.heap.size 16 (pc (st0 start 0)) := (CellsF.new w1 41 16 (.int .i64 0) rfl).mono fun j _ => by unfold pc st0; split <;> rfl
  have hok0 := hok.alloc (.cells #[.int .i64 0, .int .i64 0, .int .i64 0, .int .i64 0, .int .i64 0, .int .i64 0, .int .i64 0, .int .i64 0, .int .i64 0, .int .i64 0, .int .i64 0, .int .i64 0, .int .i64 0, .int .i64 0, .int .i64 0, .int .i64 0] 41)
  have HWC := Lib.hid hok.size
  generalize w1.alloc (.cells #[.int .i64 0, .int .i64 0, .int .i64 0, .int .i64 0, .int .i64 0, .int .i64 0, .int .i64 0, .int .i64 0, .int .i64 0, .int .i64 0, .int .i64 0, .int .i64 0, .int .i64 0, .int .i64 0, .int .i64 0, .int .i64 0] 41) = W1 at hC0 hok0 ⊢
  obtain ⟨c, hc⟩ : ∃ r, w1.heap.size = r := ⟨_, rfl⟩
  rw [hc] at hC0 HWC ⊢
  clear hc hok
  go_wp2
  go_loopw [30] (fun i wr => ∃ m : Nat, m ≤ 8 ∧ i = .int .i64 m ∧ CellsF wr c 16 (pc (st0 start m)) ∧ Only c W1 wr) (fun i _ => 8 - (intOf i).toNat)
  case atStart => exact ⟨0, by omega, rfl, hC0, Only.refl _ _⟩
  case round =>
    obtain ⟨m, hm, rfl, hC, hO⟩ := hrel
    clear hC0
    by_cases hlt : m < 8
    · have c0 := (hC.pairAt (i := m) (by omega)).1
      have f0 := hC.frozen (m * 2)
      have hcl := hC.lt
      have hC1 := (hC.set (i := m * 2) (by omega) (.int .i64 start)).mono (ψ := pc (st0 start (m + 1))) fun j _ => pc_st0 start m j
      have HC1 := Lib.hid hC1
      clear hC1 hC
      go_wp2_with fail
      go_roundw
      case rel => exact ⟨m + 1, by omega, by go_num, HC1.out, hO.setR _ _⟩
      case measure => simp [intOf]; omega
    · obtain rfl : m = 8 := by omega
      have hC1 := hC.mono (ψ := pc fun _ => (start, 0)) fun j hj => pc_full start j hj
      replace hok0 := hO.then_ok hok0 HWC.out
      clear hC hO
      have hcl := hC1.lt
      go_upto_region 14 with fail
      have hS0 : CellsF (wr.alloc (.cells (Array.replicate (2 * l.length) (.int .i64 0)) 23)) wr.heap.size (2 * l.length) (pc fun _ => (0, 0)) := (CellsF.new wr 23 (2 * l.length) (.int .i64 0) rfl).mono fun j _ => by unfold pc; split <;> rfl
      have hA0 : CellsF ((wr.alloc (.cells (Array.replicate (2 * l.length) (.int .i64 0)) 23)).alloc (.cells #[.slice none 0 0, .slice none 0 0, .slice none 0 0, .slice none 0 0, .slice none 0 0, .slice none 0 0, .slice none 0 0, .slice none 0 0, .slice none 0 0, .slice none 0 0, .slice none 0 0, .slice none 0 0, .slice none 0 0, .slice none 0 0, .slice none 0 0, .slice none 0 0, .slice none 0 0, .slice none 0 0, .slice none 0 0, .slice none 0 0, .slice none 0 0, .slice none 0 0, .slice none 0 0, .slice none 0 0, .slice none 0 0, .slice none 0 0, .slice none 0 0, .slice none 0 0, .slice none 0 0, .slice none 0 0, .slice none 0 0, .slice none 0 0, .slice none 0 0, .slice none 0 0, .slice none 0 0, .slice none 0 0, .slice none 0 0, .slice none 0 0, .slice none 0 0, .slice none 0 0] 44)) (wr.heap.size + 1) 40 (fun _ => .slice none 0 0) := CellsF.new (wr.alloc (.cells (Array.replicate (2 * l.length) (.int .i64 0)) 23)) 44 40 (.slice none 0 0) (by simp)
      have hL0 : CellsF (((wr.alloc (.cells (Array.replicate (2 * l.length) (.int .i64 0)) 23)).alloc (.cells #[.slice none 0 0, .slice none 0 0, .slice none 0 0, .slice none 0 0, .slice none 0 0, .slice none 0 0, .slice none 0 0, .slice none 0 0, .slice none 0 0, .slice none 0 0, .slice none 0 0, .slice none 0 0, .slice none 0 0, .slice none 0 0, .slice none 0 0, .slice none 0 0, .slice none 0 0, .slice none 0 0, .slice none 0 0, .slice none 0 0, .slice none 0 0, .slice none 0 0, .slice none 0 0, .slice none 0 0, .slice none 0 0, .slice none 0 0, .slice none 0 0, .slice none 0 0, .slice none 0 0, .slice none 0 0, .slice none 0 0, .slice none 0 0, .slice none 0 0, .slice none 0 0, .slice none 0 0, .slice none 0 0, .slice none 0 0, .slice none 0 0, .slice none 0 0, .slice none 0 0] 44)).alloc (.cells #[.int .i64 0, .int .i64 0, .int .i64 0, .int .i64 0, .int .i64 0, .int .i64 0, .int .i64 0, .int .i64 0] 45)) (wr.heap.size + 1 + 1) 8 (fun _ => .int .i64 0) := CellsF.new ((wr.alloc (.cells (Array.replicate (2 * l.length) (.int .i64 0)) 23)).alloc (.cells #[.slice none 0 0, .slice none 0 0, .slice none 0 0, .slice none 0 0, .slice none 0 0, .slice none 0 0, .slice none 0 0, .slice none 0 0, .slice none 0 0, .slice none 0 0, .slice none 0 0, .slice none 0 0, .slice none 0 0, .slice none 0 0, .slice none 0 0, .slice none 0 0, .slice none 0 0, .slice none 0 0, .slice none 0 0, .slice none 0 0, .slice none 0 0, .slice none 0 0, .slice none 0 0, .slice none 0 0, .slice none 0 0, .slice none 0 0, .slice none 0 0, .slice none 0 0, .slice none 0 0, .slice none 0 0, .slice none 0 0, .slice none 0 0, .slice none 0 0, .slice none 0 0, .slice none 0 0, .slice none 0 0, .slice none 0 0, .slice none 0 0, .slice none 0 0, .slice none 0 0] 44)) 45 8 (.int .i64 0) (by simp)
      have hC2 := hC1.next ((((Ok.refl wr).alloc (.cells (Array.replicate (2 * l.length) (.int .i64 0)) 23)).alloc (.cells #[.slice none 0 0, .slice none 0 0, .slice none 0 0, .slice none 0 0, .slice none 0 0, .slice none 0 0, .slice none 0 0, .slice none 0 0, .slice none 0 0, .slice none 0 0, .slice none 0 0, .slice none 0 0, .slice none 0 0, .slice none 0 0, .slice none 0 0, .slice none 0 0, .slice none 0 0, .slice none 0 0, .slice none 0 0, .slice none 0 0, .slice none 0 0, .slice none 0 0, .slice none 0 0, .slice none 0 0, .slice none 0 0, .slice none 0 0, .slice none 0 0, .slice none 0 0, .slice none 0 0, .slice none 0 0, .slice none 0 0, .slice none 0 0, .slice none 0 0, .slice none 0 0, .slice none 0 0, .slice none 0 0, .slice none 0 0, .slice none 0 0, .slice none 0 0, .slice none 0 0] 44)).alloc (.cells #[.int .i64 0, .int .i64 0, .int .i64 0, .int .i64 0, .int .i64 0, .int .i64 0, .int .i64 0, .int .i64 0] 45))
      have hS2 := hS0.next (((Ok.refl _).alloc (.cells #[.slice none 0 0, .slice none 0 0, .slice none 0 0, .slice none 0 0, .slice none 0 0, .slice none 0 0, .slice none 0 0, .slice none 0 0, .slice none 0 0, .slice none 0 0, .slice none 0 0, .slice none 0 0, .slice none 0 0, .slice none 0 0, .slice none 0 0, .slice none 0 0, .slice none 0 0, .slice none 0 0, .slice none 0 0, .slice none 0 0, .slice none 0 0, .slice none 0 0, .slice none 0 0, .slice none 0 0, .slice none 0 0, .slice none 0 0, .slice none 0 0, .slice none 0 0, .slice none 0 0, .slice none 0 0, .slice none 0 0, .slice none 0 0, .slice none 0 0, .slice none 0 0, .slice none 0 0, .slice none 0 0, .slice none 0 0, .slice none 0 0, .slice none 0 0, .slice none 0 0] 44)).alloc (.cells #[.int .i64 0, .int .i64 0, .int .i64 0, .int .i64 0, .int .i64 0, .int .i64 0, .int .i64 0, .int .i64 0] 45))
      have hA2 := hA0.next ((Ok.refl _).alloc (.cells #[.int .i64 0, .int .i64 0, .int .i64 0, .int .i64 0, .int .i64 0, .int .i64 0, .int .i64 0, .int .i64 0] 45))
      have hok2 := ((hok0.alloc (.cells (Array.replicate (2 * l.length) (.int .i64 0)) 23)).alloc (.cells #[.slice none 0 0, .slice none 0 0, .slice none 0 0, .slice none 0 0, .slice none 0 0, .slice none 0 0, .slice none 0 0, .slice none 0 0, .slice none 0 0, .slice none 0 0, .slice none 0 0, .slice none 0 0, .slice none 0 0, .slice none 0 0, .slice none 0 0, .slice none 0 0, .slice none 0 0, .slice none 0 0, .slice none 0 0, .slice none 0 0, .slice none 0 0, .slice none 0 0, .slice none 0 0, .slice none 0 0, .slice none 0 0, .slice none 0 0, .slice none 0 0, .slice none 0 0, .slice none 0 0, .slice none 0 0, .slice none 0 0, .slice none 0 0, .slice none 0 0, .slice none 0 0, .slice none 0 0, .slice none 0 0, .slice none 0 0, .slice none 0 0, .slice none 0 0, .slice none 0 0] 44)).alloc (.cells #[.int .i64 0, .int .i64 0, .int .i64 0, .int .i64 0, .int .i64 0, .int .i64 0, .int .i64 0, .int .i64 0] 45)
      clear hC1 hS0 hA0 hok0
      generalize ((wr.alloc (.cells (Array.replicate (2 * l.length) (.int .i64 0)) 23)).alloc (.cells #[.slice none 0 0, .slice none 0 0, .slice none 0 0, .slice none 0 0, .slice none 0 0, .slice none 0 0, .slice none 0 0, .slice none 0 0, .slice none 0 0, .slice none 0 0, .slice none 0 0, .slice none 0 0, .slice none 0 0, .slice none 0 0, .slice none 0 0, .slice none 0 0, .slice none 0 0, .slice none 0 0, .slice none 0 0, .slice none 0 0, .slice none 0 0, .slice none 0 0, .slice none 0 0, .slice none 0 0, .slice none 0 0, .slice none 0 0, .slice none 0 0, .slice none 0 0, .slice none 0 0, .slice none 0 0, .slice none 0 0, .slice none 0 0, .slice none 0 0, .slice none 0 0, .slice none 0 0, .slice none 0 0, .slice none 0 0, .slice none 0 0, .slice none 0 0, .slice none 0 0] 44)).alloc (.cells #[.int .i64 0, .int .i64 0, .int .i64 0, .int .i64 0, .int .i64 0, .int .i64 0, .int .i64 0, .int .i64 0] 45) = W2 at hC2 hS2 hA2 hL0 hok2 ⊢
      obtain ⟨z, hz⟩ : ∃ r, wr.heap.size + 1 + 1 = r := ⟨_, rfl⟩
      obtain ⟨a, ha⟩ : ∃ r, wr.heap.size + 1 = r := ⟨_, rfl⟩
      obtain ⟨s, hs⟩ : ∃ r, wr.heap.size = r := ⟨_, rfl⟩
      have HD : Hid (w.heap.size ≤ c ∧ c < s ∧ s < a ∧ a < z) := Lib.hid ⟨HWC.out, by omega, by omega, by omega⟩
      rw [hz] at hL0
      rw [hz]
      rw [ha] at hA2
      rw [ha]
      rw [hs] at hS2
      rw [hs]
      clear hz ha hs hmk HWC hcl
      go_wp2
      go_loopw [42] (fun i wx => ∃ m : Nat, m ≤ 8 ∧ i = .int .i64 m ∧ CellsF wx z 8 (fun j => .int .i64 (if j < m then -1 else 0)) ∧ Only z W2 wx) (fun i _ => 8 - (intOf i).toNat)
      case atStart => exact ⟨0, by omega, rfl, hL0, Only.refl _ _⟩
      case round =>

        obtain ⟨m, hm, rfl, hL, hO⟩ := hrel
        clear hL0
        by_cases hlt : m < 8
        · have c0 := hL.cell hlt
          have f0 := hL.frozen m
          have hcl := hL.lt
          have hL1 := (hL.set hlt (.int .i64 (-1))).mono (ψ := fun j => .int .i64 (if j < m + 1 then -1 else 0)) fun j hj => by
            by_cases e : j = m
            · subst e; rw [if_pos (by omega), if_pos rfl]
            · rw [if_neg e]
              by_cases e2 : j < m
              · rw [if_pos e2, if_pos (by omega)]
              · rw [if_neg e2, if_neg (by omega)]
          have HL1 := Lib.hid hL1
          clear hL1 hL
          go_wp2_with fail
          go_roundw
          case rel => exact ⟨m + 1, by omega, by go_num, HL1.out, hO.setR _ _⟩
          case measure => simp [intOf]; omega
        · obtain rfl : m = 8 := by omega
          have hL1 := hL.mono (ψ := fun _ => .int .i64 (-1)) fun j hj => by rw [if_pos hj]
          have hok3 := hO.then_ok hok2 (show w.heap.size ≤ z by have := HD.out; omega)
          have hC3 := hC2.only hO (show c ≠ z by have := HD.out; omega)
          have hS3 := hS2.only hO (show s ≠ z by have := HD.out; omega)
          have hA3 := hA2.only hO (show a ≠ z by have := HD.out; omega)
          clear hL hO hC2 hS2 hA2 hok2
          obtain ⟨W3, hW3⟩ : ∃ r, wr = r := ⟨_, rfl⟩
          rw [hW3] at hL1 hok3 hC3 hS3 hA3 ⊢
          clear hW3
          obtain ⟨B, hB⟩ : ∃ r, W3.heap.size = r := ⟨_, rfl⟩
          have hLies : Lies w B c s a z l.length 0 (fun _ => (start, 0)) (fun _ => (0, 0)) (fun _ => -1) (fun _ => .slice none 0 0) none 0 W3 := by
            obtain ⟨d1, d2, d3, d4⟩ := HD.out
            exact ⟨⟨d1, d2, d3, d4, by have := hL1.lt; omega⟩, hok3, hC3, hS3, hA3, hL1, row_nilF _ _ _ _, Nat.le_of_eq hB.symm⟩
          have hG : Hid (Good 0 (fun _ => (start, 0)) (fun _ => (0, 0)) (fun _ => -1)) := Lib.hid (Good.start HS.out _)
          clear hL1 hok3 hC3 hS3 hA3 HD HS hB
          go_wp2
          go_loopw [11, 50] (fun st i wy => ∃ (k : Nat) (C S : Nat → Int × Int) (L : Nat → Int) (φ : Nat → Value) (T : Option Addr) (cT : Nat), k ≤ l.length ∧ st = .slice T k cT ∧ i = .int .i64 k ∧ Lies w B c s a z l.length k C S L φ T cT wy ∧ Hid (Good k C S L) ∧ Hid (∀ j, k ≤ j → j < 40 → φ j = .slice none 0 0)) (fun _ i _ => l.length - (intOf i).toNat)
          case atStart => exact ⟨0, _, _, _, _, none, 0, Nat.zero_le _, rfl, rfl, hLies, hG, Lib.hid fun _ _ _ => rfl⟩
          case round =>
            clear hLies hG
            obtain ⟨k, C, S, L, φ, T, cT, hk, rfl, rfl, hL, hG, hφ⟩ := hrel
            by_cases hlt : k < l.length
            · obtain ⟨b, off, hAe, hbl, hev⟩ := (HA.out.below hL.ok).at cal3len (by decide) k hlt
              subst hAe
              obtain ⟨⟨eAt, eNow, eTo⟩, he⟩ : ∃ e, l[k] = e := ⟨_, rfl⟩
              rw [he] at hev
              have c0 := hev 0 _ rfl
              have c1 := hev 1 _ rfl
              have c2 := hev 2 _ rfl
              simp only [Nat.add_zero, cal3kinds, List.length_cons, List.length_nil, Nat.zero_add, Nat.reduceAdd] at c0 c1 c2
              clear hev he
              have hHN := Lib.hid (hL.hB)
              by_cases q1 : 1152921504606846976 < eNow
              · go_wp2_with fail
                go_ret
                exact ⟨rfl, hL.ok.alloc _⟩
              by_cases q2 : eNow < -1152921504606846976
              · go_wp2_with fail
                go_ret
                exact ⟨rfl, hL.ok.alloc _⟩
              go_upto_region 26 with fail
              clear c0 c1 c2 hbl
              obtain ⟨p, hp8, hp⟩ := at_of eAt
              rw [hp]
              clear hp
              have hL1 := hL.next ((Ok.refl wr).alloc (.cells #[.int .i64 eAt, .int .i64 eNow, .int .i64 eTo] 47))
              have hD1 : Doing B (wr.heap.size + 1) a k wr.heap.size ⟨eAt, eNow, eTo⟩ φ (Value.slice T k cT).ownBlock none 0 [] (wr.alloc (.cells #[.int .i64 eAt, .int .i64 eNow, .int .i64 eTo] 47)) :=
                ⟨⟨hL.hB, by omega, by have := hL.dis; omega, fun r e => (hL.row r e).2⟩, Own.new _ _ _ rfl, row_nilF _ _ _ _, hφ.out k (Nat.le_refl _) (by omega), by simp⟩
              clear hL
              generalize wr.alloc (.cells #[.int .i64 eAt, .int .i64 eNow, .int .i64 eTo] 47) = W4 at hL1 hD1 ⊢
              obtain ⟨N, hN⟩ : ∃ r, wr.heap.size + 1 = r := ⟨_, rfl⟩
              rw [hN] at hD1
              obtain ⟨v, hv⟩ : ∃ r, wr.heap.size = r := ⟨_, rfl⟩
              rw [hv] at hD1
              rw [hv]
              clear hN hv hHN
              have i1 : (k : Int) < 40 := by omega
              have i2 : (p : Int) < 8 := by omega
              have z0 := hL1.hl.cell hp8
              have hzl := hL1.hl.lt
              go_upto_if 71 with fail
              go_cut [] from 68 to 81 (fun wx => ∃ (φ' : Nat → Value) (A1 : Option Addr) (n1 : Nat) (l1 : List Int), Lies w B c s a z l.length k C S L φ' T cT wx ∧ Doing B N a k v ⟨eAt, eNow, eTo⟩ φ' (Value.slice T k cT).ownBlock A1 n1 l1 wx ∧ Hid ((∀ j, j ≠ k → φ' j = φ j) ∧ l1.length ≤ 1 ∧ ∀ y ∈ l1, ∃ m : Nat, y = (m : Int) ∧ m < k ∧ S m = C p))
              case first =>
                by_cases g : 0 ≤ L p
                · have hGx : ∀ y ∈ [L p], ∃ m : Nat, y = (m : Int) ∧ m < k ∧ S m = C p := fun y hy => by
                    have e := List.mem_singleton.1 hy
                    rcases hG.out.l p hp8 with h | ⟨m, h1, h2, h3⟩
                    · omega
                    · exact ⟨m, by omega, h1, h3⟩
                  have HGX := Lib.hid hGx
                  clear hGx
                  go_upto_region 27 with fail
                  have a0 : W4.cell? ⟨a, k, none⟩ = some (.slice none 0 0) := by rw [hL1.ha.cell (show k < 40 by omega), hφ.out k (Nat.le_refl _) (by omega)]
                  have hal := hL1.ha.lt
                  have OKX : Hid (Ok W4 ((W4.alloc (.cells #[.int .i64 (L p)] 3)).drew)) := Lib.hid ((Ok.refl W4).alloc _).drew
                  have CX : Hid (CellsAt ((W4.alloc (.cells #[.int .i64 (L p)] 3)).drew) (some ⟨W4.heap.size, 0, none⟩) [.int .i64 (L p)]) := Lib.hid (CellsAt.new W4 3 #[.int .i64 (L p)] rfl rfl).drew
                  have HL1 := Lib.hid hL1
                  have HD1 := Lib.hid hD1
                  clear hL1 hD1
                  go_region_law (refine step_append_cells rfl (.tmp 75) (.tmp 79) 43 rfl N 3 Try.underlying43 _ 1 8 (by decide) (by decide) rfl infoInt _ 0 [] rfl (row_nilF _ _ _ _) _ 1 1 [.int .i64 (L p)] rfl rfl CX.out (by intro u hu; simp at hu; subst hu; rfl) (by omega) (Nat.le_trans HD1.out.hN OKX.out.size) ?_; intro A1 c1 W5 hr hg; have HG := Lib.hid (ahead_grown HL1.out HD1.out OKX.out hg hr); have s0 : W5.cell? ⟨a, k, none⟩ = some (φ k) := HG.out.1.ha.cell (show k < 40 by omega); have s1 := HG.out.1.ha.frozen k; have s2 := HG.out.1.ha.lt; clear hr hg)
                  all_goals
                    go_wp2_with fail
                    go_meet
                    exact ⟨_, _, _, _, (HG.out.2 k (by omega) rfl).1, (HG.out.2 k (by omega) rfl).2, Lib.hid ⟨fun j hj => upd_else _ _ hj, by simp, HGX.out⟩⟩
                · go_wp2_with fail
                  go_meet
                  exact ⟨φ, none, 0, [], hL1, hD1, Lib.hid ⟨fun _ _ => rfl, by simp, fun y hy => by cases hy⟩⟩
              case rest =>
                obtain ⟨φ', A1, n1, l1, hL, hD, hX⟩ := hcut
                clear hL1 hD1 z0 hzl
                have d1 := hD.own.cell 1 (v := .int .i64 eNow) rfl
                have d2 := hD.own.cell 2 (v := .int .i64 eTo) rfl
                have hvl := hD.own.lt
                go_upto_region 28 with fail
                go_cut [90] from 82 to 90 (fun s wx => s = .bool (decide (0 ≤ eTo ∧ eTo < (k : Int))) ∧ wc = wx)
                case first =>
                  by_cases r1 : 0 ≤ eTo
                  · go_wp2_with fail
                    go_meet
                    exact ⟨by simp [r1], rfl⟩
                  · go_wp2_with fail
                    go_meet
                    exact ⟨by simp; omega, rfl⟩
                case rest =>
                obtain ⟨rfl, rfl⟩ := hcut
                go_upto_if 90 with fail
                go_cut [] from 82 to 123 (fun wx => ∃ (φ2 : Nat → Value) (A2 : Option Addr) (n2 : Nat) (l2 : List Int) (x : Int × Int), Lies w B c s a z l.length k (upd C p x) S L φ2 T cT wx ∧ Doing B N a k v ⟨eAt, eNow, eTo⟩ φ2 (Value.slice T k cT).ownBlock A2 n2 l2 wx ∧ Hid (Hlc.Wf (k + 1) x ∧ (∀ j, j ≠ k → φ2 j = φ j) ∧ l2.length ≤ 2 ∧ ∀ y ∈ l2, ∃ m : Nat, y = (m : Int) ∧ m < k ∧ Hlc.less (S m) x = true))
                case first =>
                  obtain ⟨c0, c1⟩ := hL.hc.pairAt (i := p) (by omega)
                  have hcl := hL.hc.lt
                  have HL := Lib.hid hL
                  have HD := Lib.hid hD
                  clear hL hD
                  by_cases r1 : 0 ≤ eTo ∧ eTo < (k : Int)
                  · rw [decide_eq_true r1]
                    obtain ⟨r1, r2⟩ := r1
                    have gg : True := trivial
                    · obtain ⟨m, rfl⟩ : ∃ m : Nat, eTo = (m : Int) := ⟨eTo.toNat, by omega⟩
                      have hmk : m < k := by omega
                      have KH := Lib.hid fun w => hlcHear (C p) eNow (S m) 1152921504606846976 w
                      obtain ⟨w1, w2, w3⟩ := Hlc.hear_wf (k := k) (now := eNow) (by omega) (hG.out.c p hp8) (hG.out.s m hmk) ⟨by omega, by omega⟩
                      obtain ⟨⟨⟨x, y⟩, q⟩, hz⟩ : ∃ r, Hlc.hear (C p) eNow (S m) 1152921504606846976 = r := ⟨_, rfl⟩
                      rw [hz] at KH w1 w2 w3
                      have HW := Lib.hid (And.intro w1 (And.intro w2 w3))
                      clear hz w1 w2 w3
                      obtain ⟨s0, s1⟩ := HL.out.hs.pairAt (i := m) (by omega)
                      have hsl := HL.out.hs.lt
                      have i3 : (m : Int) < (l.length : Int) := by omega
                      go_upto_region 29 with fail
                      go_cut [] from 91 to 106 (fun wx => Lies w B c s a z l.length k (upd C p (x, y)) S L φ' T cT wx ∧ Doing B N a k v ⟨eAt, eNow, m⟩ φ' (Value.slice T k cT).ownBlock A1 n1 l1 wx)
                      case first =>
                        go_region_law (go_simp; go_at_call 17; refine (KH.out _).mono ?_; rintro e w5 ⟨rfl, hb1⟩; have HL5 := Lib.hid (HL.out.next ((Ok.refl wc).drew.trans hb1)); have HD5 := Lib.hid (HD.out.next ((Ok.refl wc).drew.trans hb1)); obtain ⟨t0, t1⟩ := HL5.out.hc.pairAt (i := p) (by omega); have f0 := HL5.out.hc.frozen (p * 2); have f1 := HL5.out.hc.frozen (p * 2 + 1); have htl := HL5.out.hc.lt; clear hb1)
                        all_goals
                          go_wp2_with fail
                          go_meet
                          exact ⟨HL5.out.setC hp8 x y, (HD5.out.set (by have := HL.out.dis; show c < B; omega) _).set (by have := HL.out.dis; show c < B; omega) _⟩
                      case rest =>
                        obtain ⟨hL6, hD6⟩ := hcut
                        have d1 := hD6.own.cell 2 (v := .int .i64 (m : Int)) rfl
                        have hvl := hD6.own.lt
                        have a0 : wc.cell? ⟨a, k, none⟩ = some (.slice A1 l1.length n1) := by rw [hL6.ha.cell (show k < 40 by omega), hD6.eq]
                        have hal := hL6.ha.lt
                        have OKX : Hid (Ok wc ((wc.alloc (.cells #[.int .i64 (m : Int)] 3)).drew)) := Lib.hid ((Ok.refl wc).alloc _).drew
                        have CX : Hid (CellsAt ((wc.alloc (.cells #[.int .i64 (m : Int)] 3)).drew) (some ⟨wc.heap.size, 0, none⟩) [.int .i64 (m : Int)]) := Lib.hid (CellsAt.new wc 3 #[.int .i64 (m : Int)] rfl rfl).drew
                        have HL6 := Lib.hid hL6
                        have HD6 := Lib.hid hD6
                        clear hL6 hD6 c0 c1 hcl s0 s1 hsl
                        go_upto_region 30 with fail
                        go_region_law (refine step_append_cells rfl (.tmp 110) (.tmp 113) 43 rfl N 3 Try.underlying43 _ 1 8 (by decide) (by decide) rfl infoInt _ l1.length (l1.map (Value.int .i64)) rfl (row_nextF HD6.out.row OKX.out) _ 1 1 [.int .i64 (m : Int)] rfl rfl CX.out (by intro u hu; simp at hu; subst hu; rfl) (by have := hX.out.2.1; omega) (Nat.le_trans HD6.out.hN OKX.out.size) ?_; intro A3 c3 W7 hr hg; have HG := Lib.hid (ahead_grown HL6.out HD6.out OKX.out hg hr); have s0 : W7.cell? ⟨a, k, none⟩ = some (φ' k) := HG.out.1.ha.cell (show k < 40 by omega); have s1 := HG.out.1.ha.frozen k; have s2 := HG.out.1.ha.lt; clear hr hg)
                        all_goals
                          go_wp2_with fail
                          go_meet
                          refine ⟨_, _, _, _, (x, y), (HG.out.2 k (by omega) rfl).1, (HG.out.2 k (by omega) rfl).2, Lib.hid ⟨HW.out.1, fun j hj => by rw [upd_else _ _ hj]; exact hX.out.1 j hj, by have := hX.out.2.1; simp; omega, fun y2 hy2 => ?_⟩⟩
                          rcases List.mem_append.1 hy2 with h | h
                          · obtain ⟨m2, e1, e2, e3⟩ := hX.out.2.2 y2 h
                            exact ⟨m2, e1, e2, by rw [e3]; exact HW.out.2.1⟩
                          · exact ⟨m, List.mem_singleton.1 h, hmk, HW.out.2.2⟩
                  · rw [decide_eq_false r1]
                    have KT := Lib.hid fun w => hlcTick (C p) eNow w
                    obtain ⟨w1, w2⟩ := Hlc.tick_wf (k := k) (now := eNow) (by omega) (hG.out.c p hp8) ⟨by omega, by omega⟩
                    obtain ⟨⟨x, y⟩, hz⟩ : ∃ r, Hlc.tick (C p) eNow = r := ⟨_, rfl⟩
                    rw [hz] at KT w1 w2
                    have HW := Lib.hid (And.intro w1 w2)
                    clear hz w1 w2 r1
                    go_upto_region 31 with fail
                    go_region_law (go_simp; go_at_call 21; refine (KT.out _).mono ?_; rintro e w5 ⟨rfl, hb1⟩; have HL5 := Lib.hid (HL.out.next ((Ok.refl wc).drew.trans hb1)); have HD5 := Lib.hid (HD.out.next ((Ok.refl wc).drew.trans hb1)); obtain ⟨t0, t1⟩ := HL5.out.hc.pairAt (i := p) (by omega); have f0 := HL5.out.hc.frozen (p * 2); have f1 := HL5.out.hc.frozen (p * 2 + 1); have htl := HL5.out.hc.lt; clear hb1)
                    all_goals
                      go_wp2_with fail
                      go_meet
                      exact ⟨_, _, _, _, (x, y), HL5.out.setC hp8 x y, (HD5.out.set (by have := HL.out.dis; show c < B; omega) _).set (by have := HL.out.dis; show c < B; omega) _, Lib.hid ⟨HW.out.1, hX.out.1, Nat.le_trans hX.out.2.1 (by decide), fun y2 hy2 => by
                        obtain ⟨m2, e1, e2, e3⟩ := hX.out.2.2 y2 hy2
                        exact ⟨m2, e1, e2, by rw [e3]; exact HW.out.2⟩⟩⟩
                case rest =>
                  obtain ⟨φ2, A2, n2, l2, ⟨x, y⟩, hL, hD, hY⟩ := hcut
                  clear hX d1 d2 hvl
                  obtain ⟨c0, c1⟩ := hL.hc.pairAt (i := p) (by omega)
                  rw [upd_same] at c0 c1
                  have hcl := hL.hc.lt
                  obtain ⟨s0, s1⟩ := hL.hs.pairAt (i := k) (by omega)
                  have f0 := hL.hs.frozen (k * 2)
                  have f1 := hL.hs.frozen (k * 2 + 1)
                  have hsl := hL.hs.lt
                  have i3 : (k : Int) < (l.length : Int) := by omega
                  have HL1 := Lib.hid (hL.setS hlt x y)
                  have HD1 := Lib.hid ((hD.set (p := ⟨s, k * 2, none⟩) (by have := hL.dis; show s < B; omega) (.int .i64 x)).set (p := ⟨s, k * 2 + 1, none⟩) (by have := hL.dis; show s < B; omega) (.int .i64 y))
                  clear hL hD
                  go_upto_region 33 with fail
                  clear c0 c1 hcl s0 s1 f0 f1 hsl
                  generalize (wc.setCell ⟨s, k * 2, none⟩ (.int .i64 x)).setCell ⟨s, k * 2 + 1, none⟩ (.int .i64 y) = W6 at HL1 HD1 ⊢
                  obtain ⟨s0, s1⟩ := HL1.out.hs.pairAt (i := k) (by omega)
                  rw [upd_same] at s0 s1
                  have hsl := HL1.out.hs.lt
                  have CX : Hid (CellsAt (W6.alloc (.cells #[.int .i64 x, .int .i64 y] 23)) (some ⟨W6.heap.size, 0, none⟩) [.int .i64 x, .int .i64 y]) := Lib.hid (CellsAt.new W6 23 #[.int .i64 x, .int .i64 y] rfl rfl)
                  have HL2 := Lib.hid (HL1.out.next ((Ok.refl W6).alloc (.cells #[.int .i64 x, .int .i64 y] 23)))
                  have HD2 := Lib.hid (HD1.out.next ((Ok.refl W6).alloc (.cells #[.int .i64 x, .int .i64 y] 23)))
                  go_upto_region 34 with (refine wpList_append_cells2 rfl (.tmp 131) (.tmp 136) 42 rfl B 23 Try.underlying42 _ 2 16 (by decide) (by decide) rfl infoStamp _ k (cellsOfPairs (told (upd S k (x, y)) k)) rfl HL2.out.hr _ 1 1 [.int .i64 x, .int .i64 y] rfl rfl CX.out (by intro u hu; simp at hu; rcases hu with rfl | rfl <;> rfl) (by omega) HL2.out.hB ?_; intro A3 c3 W7 hr hg; have HL3 := Lib.hid (HL2.out.push (by rw [told_last, cells_pairs_append]; exact hr) hg); have HD3 := Lib.hid (HD2.out.other hg); clear hr hg)
                  clear CX HL1 HL2 HD1 HD2 s0 s1 hsl
                  have z0 := HL3.out.hl.cell hp8
                  have z1 := HL3.out.hl.frozen p
                  have hzl := HL3.out.hl.lt
                  have HL4 := Lib.hid (HL3.out.setL hp8 (k : Int))
                  have HD4 := Lib.hid (HD3.out.set (p := ⟨z, p, none⟩) (by have := HL3.out.dis; show z < B; omega) (.int .i64 (k : Int)))
                  clear HL3 HD3
                  go_upto_region 35 with fail
                  clear z0 z1 hzl
                  generalize W7.setCell ⟨z, p, none⟩ (.int .i64 (k : Int)) = W8 at HL4 HD4 ⊢
                  have a0 : W8.cell? ⟨a, k, none⟩ = some (.slice A2 l2.length n2) := by rw [HL4.out.ha.cell (show k < 40 by omega), HD4.out.eq]
                  have hal := HL4.out.ha.lt
                  have HI := Lib.hid HD4.out.ints
                  have HP := Lib.hid HL4.out.pairs
                  have HGN := Lib.hid (hG.out.step hp8 hY.out.1)
                  go_wp2
                  go_loopw [145] (fun i wz => ∃ j : Nat, j ≤ l2.length ∧ i = .int .i64 j ∧ Ok W8 wz) (fun i _ => l2.length - (intOf i).toNat)
                  case atStart => exact ⟨0, Nat.zero_le _, rfl, Ok.refl _⟩
                  case round =>
                    obtain ⟨j, hj, rfl, hok8⟩ := hrel
                    by_cases hjl : j < l2.length
                    · have hl2 := hY.out.2.2.1
                      obtain ⟨m, hm0, hmk, hls⟩ := hY.out.2.2.2 l2[j] (List.getElem_mem hjl)
                      obtain ⟨b2, off2, hA2, hb2, hc2⟩ := HI.out.below hok8 j hjl
                      subst hA2
                      rw [hm0] at hc2
                      obtain ⟨b3, off3, hA3, hb3, p0, p1⟩ := HP.out.below hok8 m (by rw [told_length]; omega)
                      subst hA3
                      obtain ⟨b4, off4, e4, hb4, p2, p3⟩ := HP.out.below hok8 k (by rw [told_length]; omega)
                      cases e4
                      rw [told_at, upd_else _ _ (by omega)] at p0 p1
                      rw [told_at, upd_same] at p2 p3
                      have KL := Lib.hid fun w => hlcLess (S m) (x, y) w
                      rw [hls] at KL
                      obtain ⟨⟨x1, y1⟩, hS⟩ : ∃ q, S m = q := ⟨_, rfl⟩
                      rw [hS] at p0 p1 KL
                      clear hS hls hm0
                      have HPP := Lib.hid fun W' (kk : Ok wr.drew W') => And.intro ((kk.cell (p := ⟨b3, off3 + m * 2, none⟩) hb3).trans p0) (And.intro ((kk.cell (p := ⟨b3, off3 + m * 2 + 1, none⟩) hb3).trans p1) (And.intro ((kk.cell (p := ⟨b3, off3 + k * 2, none⟩) hb3).trans p2) (And.intro ((kk.cell (p := ⟨b3, off3 + k * 2 + 1, none⟩) hb3).trans p3) (Nat.lt_of_lt_of_le hb3 kk.size))))
                      have HI5 := Lib.hid (show (m : Int) < (k : Int) + 1 by omega)
                      have HI6 := Lib.hid (show (k : Int) < (k : Int) + 1 by omega)
                      have HOK8 := Lib.hid hok8
                      clear p0 p1 p2 p3 hb3 hb4 hok8
                      go_upto_region 38 with fail
                      refine wp_region_facts (by kernel_rfl) 161 rfl (VCZ b3 off3 k c3 m x y x1 y1) Ok (by kernel_rfl) (fun i v w w' h k w'' k' => h w'' (k.trans k')) (fun a b c => Ok.trans) (Ok.refl _) [some 149, some 150, some 151, some 152, some 153, some 154, some 155, some 156, some 157, some 158] rfl 10 rfl ⟨?_, ?_, ?_, ?_, ?_, ?_, ?_, ?_, ?_, ?_, trivial⟩ ?_
                      · intro a' w' hF hR
                        have e11 : a'.tmps[11]? = some (.slice (some ⟨b3, off3, none⟩) (k + 1) c3) := hF.slot 11 (by kernel_rfl) rfl
                        refine wpOp_run (v := .slice (some ⟨b3, off3, none⟩) (k + 1) c3) rfl rfl ?_ (fun _ _ => rfl) (Ok.refl _)
                        clear hF
                        go_simp
                      · intro a' w' hF hR
                        have e16 : a'.tmps[16]? = some (.int .i64 m) := hF.slot 16 (by kernel_rfl) rfl
                        refine wpOp_run (v := .int .i64 m) rfl rfl ?_ (fun _ _ => rfl) (Ok.refl _)
                        clear hF
                        go_simp
                      · intro a' w' hF hR
                        obtain ⟨v0, hv0, e149⟩ := hF.get 0 149 (by kernel_rfl) (by kernel_rfl)
                        obtain rfl : v0 = _ := hv0 _ (Ok.refl _)
                        obtain ⟨v1, hv1, e150⟩ := hF.get 1 150 (by kernel_rfl) (by kernel_rfl)
                        obtain rfl : v1 = _ := hv1 _ (Ok.refl _)
                        have i5 := HI5.out
                        refine wpOp_run (v := .pointer (some ⟨b3, off3 + m * 2, none⟩)) rfl rfl ?_ (fun _ _ => rfl) (Ok.refl _)
                        clear hF
                        go_simp
                      · intro a' w' hF hR
                        obtain ⟨v2, hv2, e151⟩ := hF.get 2 151 (by kernel_rfl) (by kernel_rfl)
                        obtain rfl : v2 = _ := hv2 _ (Ok.refl _)
                        obtain ⟨t0, t1, t2, t3, t4⟩ := HPP.out _ hR
                        refine wpOp_run (v := .agg #[.int .i64 x1, .int .i64 y1]) rfl rfl ?_ (fun _ _ => rfl) (Ok.refl _)
                        clear hF
                        go_simp
                      · intro a' w' hF hR
                        have e11 : a'.tmps[11]? = some (.slice (some ⟨b3, off3, none⟩) (k + 1) c3) := hF.slot 11 (by kernel_rfl) rfl
                        refine wpOp_run (v := .slice (some ⟨b3, off3, none⟩) (k + 1) c3) rfl rfl ?_ (fun _ _ => rfl) (Ok.refl _)
                        clear hF
                        go_simp
                      · intro a' w' hF hR
                        have e12 : a'.tmps[12]? = some (.int .i64 k) := hF.slot 12 (by kernel_rfl) rfl
                        refine wpOp_run (v := .int .i64 k) rfl rfl ?_ (fun _ _ => rfl) (Ok.refl _)
                        clear hF
                        go_simp
                      · intro a' w' hF hR
                        obtain ⟨v4, hv4, e153⟩ := hF.get 4 153 (by kernel_rfl) (by kernel_rfl)
                        obtain rfl : v4 = _ := hv4 _ (Ok.refl _)
                        obtain ⟨v5, hv5, e154⟩ := hF.get 5 154 (by kernel_rfl) (by kernel_rfl)
                        obtain rfl : v5 = _ := hv5 _ (Ok.refl _)
                        have i6 := HI6.out
                        refine wpOp_run (v := .pointer (some ⟨b3, off3 + k * 2, none⟩)) rfl rfl ?_ (fun _ _ => rfl) (Ok.refl _)
                        clear hF
                        go_simp
                      · intro a' w' hF hR
                        obtain ⟨v6, hv6, e155⟩ := hF.get 6 155 (by kernel_rfl) (by kernel_rfl)
                        obtain rfl : v6 = _ := hv6 _ (Ok.refl _)
                        obtain ⟨t0, t1, t2, t3, t4⟩ := HPP.out _ hR
                        refine wpOp_run (v := .agg #[.int .i64 x, .int .i64 y]) rfl rfl ?_ (fun _ _ => rfl) (Ok.refl _)
                        clear hF
                        go_simp
                      · intro a' w' hF hR
                        obtain ⟨v3, hv3, e152⟩ := hF.get 3 152 (by kernel_rfl) (by kernel_rfl)
                        obtain rfl : v3 = _ := hv3 _ (Ok.refl _)
                        obtain ⟨v7, hv7, e156⟩ := hF.get 7 156 (by kernel_rfl) (by kernel_rfl)
                        obtain rfl : v7 = _ := hv7 _ (Ok.refl _)
                        clear hF
                        refine wpOp_call (f := 10) (args := #[.agg #[.int .i64 x1, .int .i64 y1], .agg #[.int .i64 x, .int .i64 y]]) rfl rfl ?_ ((KL.out _).mono ?_)
                        · go_simp
                        · rintro e w2 ⟨rfl, hb2⟩; exact ⟨_, rfl, fun _ _ => rfl, hb2⟩
                      · intro a' w' hF hR
                        obtain ⟨v8, hv8, e157⟩ := hF.get 8 157 (by kernel_rfl) (by kernel_rfl)
                        obtain rfl : v8 = _ := hv8 _ (Ok.refl _)
                        refine wpOp_run (v := .bool false) rfl rfl ?_ (fun _ _ => rfl) (Ok.refl _)
                        clear hF
                        go_simp
                      intro vs w9 hV hR
                      have e9 : vs 9 = .bool false := hV 9 (by decide) _ (Ok.refl _)
                      have hok9 := (HOK8.out.trans (Ok.refl wr).drew).trans hR
                      clear hV HPP KL HOK8
                      simp only [putFrom, e9]
                      simp only [Act.put, List.setIfInBounds_toArray, List.set_cons_zero, List.set_cons_succ]
                      go_wp2_with fail
                      go_roundw
                      case rel => exact ⟨j + 1, by omega, by go_num, hok9⟩
                      case measure => simp [intOf]; omega
                    · go_wp2_with fail
                      go_roundw
                      case rel =>
                        repeat apply Exists.intro
                        refine ⟨?_, rfl⟩
                        exact ⟨k + 1, upd C p (x, y), upd S k (x, y), upd L p k, φ2, A3, c3, by omega, rfl, by go_num, HL4.out.next hok8, HGN, Lib.hid fun j2 h1 h2 => by rw [hY.out.2.1 j2 (by omega)]; exact hφ.out j2 (by omega) h2⟩
                      case measure => simp [intOf]; omega
            · go_wp2_with fail
              go_ret
              exact ⟨rfl, hL.ok⟩
theorem walk (w : World) (A : Option Addr) (l : List Cal3) (cap : Nat) (hA : CellsAt w A (l.flatMap cal3cells)) (hl : l.length ≤ 9223372036854775807) (hw : ∀ x ∈ l, cal3ok x) (start : Int) (ws : (Lit.int .i64 start).wf = true) : Calls Try.prog 7 #[.slice A l.length cap, .int .i64 start] w fun e w' => e = .returned (.bool true) ∧ Below w.heap.size w w' := by
  show Calls Try.prog 7 #[.slice A l.length cap, .int .i64 start] w fun e w' => e = .returned (.bool true) ∧ Ok w w'
  by_cases h : 40 < l.length
  · exact big w A l cap hA start h
  by_cases h2 : 1152921504606846976 < start
  · exact far w A l cap hA start (by omega) h2
  by_cases h3 : start < -1152921504606846976
  · exact low w A l cap hA start (by omega) h3
  exact main w A l cap hA start (by omega) (by omega) (by omega)
theorem own : ownKnob Try.prog.godebug = none := by kernel_rfl
theorem laidOut : laidOutB Try.prog = true := by kernel_rfl
set_option maxRecDepth 100000 in
theorem lifted (os : Os) (started : os.Started) (H : Type) (enc : TypeId × Value → H) :
    ReturnsInHanded {} Try.checked os 7 .any (Rows.hlcAheadSpec.pre6 enc Try.prog Try.f7 Rows.hlcAheadRow.domain false) (Rows.hlcAheadSpec.post enc Try.prog Try.f7 false true false false) := by
  refine returnsInHanded_of_change (C := Try.checked) own started (by kernel_rfl) Try.func7
    (ChangeSpec.witness6 (enc := enc) (C := Try.checked) false ⟨#[], #[.slice none 0 0, .int .i64 0], []⟩ 8 (by kernel_rfl) (by kernel_rfl) (by kernel_rfl) (by kernel_rfl)) ?_
  intro W base args ds gs before hval0 hW _ _
  have hval : ∀ (j : Nat) t v, Try.f7.params[j]? = some t → args[j]? = some v → Value.okWide Try.prog W .any base t v := hval0
  have hW' := hW
  obtain ⟨p, q, hA, hV, rfl, _, _⟩ := hW
  obtain ⟨rfl, rfl⟩ := trodVars_none hV
  replace hA : DataW.TrodAll enc Try.prog W 0 (fun _ => true) true Try.f7.params.toList args.toList ds p := hA
  rw [Try.params7] at hA hval
  obtain ⟨v0, vs0, d0, ds0, p0, q0, hargs, rfl, rfl, h0, r0⟩ := trodAll_cons hA
  obtain ⟨v1, vs1, d1, ds1, p1, q1, rfl, rfl, rfl, h1, r1⟩ := trodAll_cons r0
  obtain ⟨rfl, rfl, rfl⟩ := trodAll_nil r1
  obtain rfl : args = #[v0, v1] := by cases args; simp_all
  obtain ⟨A0, l0, c0, rfl, hA0, hl0, hw0⟩ := open_slice_rows cal3cells cal3ok cal3kinds cal3len cal3of (by decide) Try.underlying40 Try.underlying47 (by kernel_rfl) (by kernel_rfl) (by kernel_rfl) (hval 0 40 v0 rfl rfl) h0
  obtain ⟨a1, rfl, rfl, rfl, w1⟩ := open_int Try.underlying3 (hval 1 3 v1 rfl rfl) h1
  refine (walk W A0 l0 c0 hA0 hl0 hw0 a1 w1).mono fun e W' ⟨he, hb⟩ => ?_
  subst he
  exact ⟨_, rfl, law_post hW' laidOut (by rw [Try.params7]; exact params_ok (by kernel_rfl)) rfl (by kernel_rfl) Try.underlying4 rfl rfl rfl hb⟩
theorem over : Rows.hlcAheadRow.holds Try.pinned (OpenSpec.ofChange Rows.hlcAheadSpec) :=
  OpenClaim.holds_of_wide 7 Try.f7 rfl rfl rfl rfl rfl rfl rfl ⟨rfl, rfl, rfl, rfl, rfl⟩ rfl rfl rfl rfl rfl (by kernel_rfl) Try.func7 (by kernel_rfl)
    (of_decide_eq_true (by kernel_rfl)) (by unfold Func.isWrapper; first | (rw [if_pos (by decide +kernel)]; kernel_rfl) | (rw [if_neg (by decide +kernel)]; exact ⟨rfl, rfl⟩))
    (fun os started H enc _ => lifted os started H enc)
theorem proved : Rows.HlcAheadSaid := over
end Go.Proofs.Ytgfnfjkajahoaaa.hlcAhead
