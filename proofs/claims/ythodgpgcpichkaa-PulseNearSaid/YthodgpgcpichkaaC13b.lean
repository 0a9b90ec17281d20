/- Contracts of layer 13: the program's Fired, and the document's. -/
import Derived.Test.YthodgpgcpichkaaC13a
import Derived.Test.YthodgpgcpichkaaW06
import Derived.Test.YthodgpgcpichkaaC04b
import Derived.Test.YthodgpgcpichkaaW19
namespace Go.Proofs.Ythodgpgcpichkaa
open Go.RowKit
set_option maxRecDepth 100000
attribute [local go_sem ↓] Go.wp_at_zero Go.wp_at_succ
theorem info13 : (Try.prog.info? 3).map (fun i => (i.zero, i.size, i.bytes)) = some (some (.int .i64 0), 1, 8) := by kernel_rfl
/-- The first k numbers above x, in a row of one's own. -/
def RowTo (B : Nat) (x : Int) (k : Nat) (v : Value) (w : World) : Prop := w.ownsRow B 3 1 v k ((Pulse.above x k).map (Value.int .i64))
theorem RowTo.start (B : Nat) (x : Int) (w : World) : RowTo B x 0 (.slice none 0 0) w := World.ownsRow_nil _ _ _ _
theorem RowTo.next {B k : Nat} {x : Int} {v : Value} {w w1 : World} (h : RowTo B x k v w) (j : Ok w w1) : RowTo B x k v w1 :=
  h.kept (w' := w1) (row := none) ⟨j.below.os, j.below.tape, j.below.output, j.size, fun i hi _ => j.below.block i hi⟩ (by cases v.ownBlock <;> simp)
theorem RowTo.ends {B k : Nat} {x : Int} {v : Value} {w : World} (h : RowTo B x k v w) : ∃ A c, v = .slice A k c ∧ IntsAt w A (Pulse.above x k) := by
  unfold RowTo at h
  obtain ⟨A, c, e, hI⟩ := IntsAt.of_own (l := Pulse.above x k) (v := v) (B := B) (e := 3) (w := w) (by rw [Pulse.above_length]; exact h)
  rw [Pulse.above_length] at e
  exact ⟨A, c, e, hI⟩
/-- What Fired leaves. -/
def FiredEnd (p : Par) (a b m : Int) (w : World) (e : Ending) (w' : World) : Prop := ∃ A c, e = .returned (.slice A (Pulse.count p.pulse a b m) c) ∧ IntsAt w' A (Pulse.fired p.pulse a b m) ∧ Ok w w'
set_option maxHeartbeats 1600000 in
theorem pulseFired (p : Par) (a b m : Int) (hm : -9223372036854775808 ≤ m ∧ m ≤ 1048576) (w : World) : Calls Try.prog 9 #[parV p, .int .i64 a, .int .i64 b, .int .i64 m] w (FiredEnd p a b m w) := by
  have KA := Lib.hid fun w => pulseNumber p a w
  have KB := Lib.hid fun w => pulseNumber p b w
  have hx := Pulse.num_bd p.pulse a
  have hy := Pulse.num_bd p.pulse b
  have HE : ∀ (W' : World) (v : Value), RowTo w.heap.size (Pulse.num p.pulse a) (Pulse.count p.pulse a b m) v W' → Ok w W' → FiredEnd p a b m w (.returned v) W' := fun W' v h k => by
    obtain ⟨A, c, rfl, hI⟩ := h.ends
    exact ⟨A, c, rfl, hI, k⟩
  unfold Pulse.count at HE
  generalize FiredEnd p a b m w = Q at HE ⊢
  generalize Pulse.num p.pulse a = x at *
  generalize Pulse.num p.pulse b = y at *
  have hwr : IntKind.i64.wrap (y - x) = y - x := IntWalk.i64_in _ ⟨by omega, by omega⟩
  have hok := Ok.refl w
  have HP := Lib.hid (Own.new w (parCells p) 23 rfl)
  by_cases hcase : y - x < m
  · rw [show min m (y - x) = y - x by omega] at HE
    have hcase2 : ¬ m ≤ y - x := by omega
    go_enter Try.func9, Try.ntmps9
    go_wp2_with (go_at_call 11; first | ((with_reducible refine (KA.out _).mono ?_); rintro e w1 ⟨rfl, hb1⟩; have hP := HP.out.next hb1; replace hok := (hok.alloc _).trans hb1; clear hb1; obtain ⟨c0, c1, c2, c3, c4, c5, c6, c7, c8, c9, c10, c11⟩ := hP.pars; have hPl := hP.lt) | ((with_reducible refine (KB.out _).mono ?_); rintro e w2 ⟨rfl, hb1⟩; clear c0 c1 c2 c3 c4 c5 c6 c7 c8 c9 c10 c11 hPl hP; replace hok := hok.trans hb1; clear hb1))
    go_loopw [10, 22] (fun v i wr => ∃ k : Nat, k ≤ (y - x).toNat ∧ i = .int .i64 k ∧ RowTo w.heap.size x k v wr ∧ Ok w wr) (fun _ i _ => (y - x).toNat - (intOf i).toNat)
    case atStart => exact ⟨0, Nat.zero_le _, rfl, RowTo.start _ _ _, hok⟩
    case round =>
      obtain ⟨k, hk, rfl, hR, hok1⟩ := hrel
      clear hok HP
      have HR := Lib.hid hR
      have HK := Lib.hid hok1
      by_cases hlt : (k : Int) < y - x
      · have w1 : IntKind.i64.wrap (x + 1) = x + 1 := IntWalk.i64_in _ ⟨by omega, by omega⟩
        have w2 : IntKind.i64.wrap (x + 1 + (k : Int)) = x + 1 + k := IntWalk.i64_in _ ⟨by omega, by omega⟩
        clear hR hok1
        go_wp2_with (at_builtin; refine wpList_append_ints rfl (.tmp 25) (.tmp 30) 26 rfl w.heap.size 3 Try.underlying26 info13 _ (Pulse.above x k) k (Pulse.above_length x k).symm rfl (HR.out.alloc _) _ [x + 1 + (k : Int)] 1 _ rfl rfl (ints_new _ _ _ _ rfl rfl) (by rw [Pulse.above_length]; simp; omega) (by have := HK.out.size; simp; omega) ?_; intro v' w' hr2 hg2; have HR2 := Lib.hid (And.intro hr2 hg2); clear hr2 hg2)
        go_roundw
        case rel =>
          refine ⟨k + 1, by omega, by go_num, ?_, ?_⟩
          · unfold RowTo
            rw [Pulse.above_succ]
            have := HR2.out.1
            rw [List.length_append, Pulse.above_length] at this
            exact this
          · exact Below.grown (HK.out.alloc _) HR2.out.2 (HK.out.alloc _).size fun j hj => (HR.out.lt j hj).1
        case measure => simp [intOf]; omega
      · obtain ⟨A, c, rfl, -⟩ := hR.ends
        go_wp2_with fail
        exact HE _ _ (by rw [show (y - x).toNat = k by omega]; exact HR.out) HK.out
  · rw [show min m (y - x) = m by omega] at HE
    have hcase2 : m ≤ y - x := by omega
    go_enter Try.func9, Try.ntmps9
    go_wp2_with (go_at_call 11; first | ((with_reducible refine (KA.out _).mono ?_); rintro e w1 ⟨rfl, hb1⟩; have hP := HP.out.next hb1; replace hok := (hok.alloc _).trans hb1; clear hb1; obtain ⟨c0, c1, c2, c3, c4, c5, c6, c7, c8, c9, c10, c11⟩ := hP.pars; have hPl := hP.lt) | ((with_reducible refine (KB.out _).mono ?_); rintro e w2 ⟨rfl, hb1⟩; clear c0 c1 c2 c3 c4 c5 c6 c7 c8 c9 c10 c11 hPl hP; replace hok := hok.trans hb1; clear hb1))
    go_loopw [10, 22] (fun v i wr => ∃ k : Nat, k ≤ m.toNat ∧ i = .int .i64 k ∧ RowTo w.heap.size x k v wr ∧ Ok w wr) (fun _ i _ => m.toNat - (intOf i).toNat)
    case atStart => exact ⟨0, Nat.zero_le _, rfl, RowTo.start _ _ _, hok⟩
    case round =>
      obtain ⟨k, hk, rfl, hR, hok1⟩ := hrel
      clear hok HP
      have HR := Lib.hid hR
      have HK := Lib.hid hok1
      by_cases hlt : (k : Int) < m
      · have w1 : IntKind.i64.wrap (x + 1) = x + 1 := IntWalk.i64_in _ ⟨by omega, by omega⟩
        have w2 : IntKind.i64.wrap (x + 1 + (k : Int)) = x + 1 + k := IntWalk.i64_in _ ⟨by omega, by omega⟩
        clear hR hok1
        go_wp2_with (at_builtin; refine wpList_append_ints rfl (.tmp 25) (.tmp 30) 26 rfl w.heap.size 3 Try.underlying26 info13 _ (Pulse.above x k) k (Pulse.above_length x k).symm rfl (HR.out.alloc _) _ [x + 1 + (k : Int)] 1 _ rfl rfl (ints_new _ _ _ _ rfl rfl) (by rw [Pulse.above_length]; simp; omega) (by have := HK.out.size; simp; omega) ?_; intro v' w' hr2 hg2; have HR2 := Lib.hid (And.intro hr2 hg2); clear hr2 hg2)
        go_roundw
        case rel =>
          refine ⟨k + 1, by omega, by go_num, ?_, ?_⟩
          · unfold RowTo
            rw [Pulse.above_succ]
            have := HR2.out.1
            rw [List.length_append, Pulse.above_length] at this
            exact this
          · exact Below.grown (HK.out.alloc _) HR2.out.2 (HK.out.alloc _).size fun j hj => (HR.out.lt j hj).1
        case measure => simp [intOf]; omega
      · obtain ⟨A, c, rfl, -⟩ := hR.ends
        go_wp2_with fail
        exact HE _ _ (by rw [show m.toNat = k by omega]; exact HR.out) HK.out
end Go.Proofs.Ythodgpgcpichkaa
