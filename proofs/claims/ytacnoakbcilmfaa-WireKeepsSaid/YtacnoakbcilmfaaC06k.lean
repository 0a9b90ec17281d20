/- Contracts of layer 6: the program's each, fields, entry, flags. -/
import Derived.Test.YtacnoakbcilmfaaC06j
import Derived.BigRegion
namespace Go.Proofs.Ytacnoakbcilmfaa
open Go.RowKit
set_option maxRecDepth 100000
/-- The slice A holds pointers to the numbers xs; all of these blocks are kept. -/
def PtrsAt (w : World) (Pr : Nat → Prop) (A : Option Addr) (xs : List Int) : Prop :=
  ∀ k (h : k < xs.length), ∃ p off b o, A = some ⟨p, off, none⟩ ∧ Pr p ∧ Pr b ∧ w.cell? ⟨p, off + k, none⟩ = some (.pointer (some ⟨b, o, none⟩)) ∧ w.cell? ⟨b, o, none⟩ = some (.int .i64 xs[k])
set_option maxHeartbeats 800000 in
theorem wireEach {Pr : Nat → Prop} {g : Nat} {l : List Nat} {w0 : World} (xs : List Int) (A : Option Addr) (cap : Nat) (w : World) (h : Pen Pr g l w0 w) (hA : PtrsAt w0 Pr A xs) (hl : l.length + 8 * xs.length ≤ 100000) :
    Calls Try.prog 25 #[.func (.func 26) #[.pointer (some ⟨g, 0, none⟩)] #[], .slice A xs.length cap] w fun e w' => e = .returned (.tuple #[]) ∧ Pen Pr g (l ++ Wire.eights xs) w0 w' := by
  go_enter Try.func25, Try.ntmps25
  go_wp2
  go_loopw [8] (fun i wx => ∃ k : Nat, k ≤ xs.length ∧ i = .int .i64 k ∧ Pen Pr g (l ++ Wire.eights (xs.take k)) w0 wx) (fun i _ => xs.length - (intOf i).toNat)
  case atStart => exact ⟨0, by omega, rfl, by simpa [Wire.eights] using h⟩
  case round =>
    clear h
    obtain ⟨k, hk, rfl, hP⟩ := hrel
    by_cases hlt : k < xs.length
    · obtain ⟨p, off, b, o, hAe, hp, hb, c1, c2⟩ := hA k hlt
      subst hAe
      have d1 := (hP.cell (a := ⟨p, off + k, none⟩) hp).trans c1
      have d2 := (hP.cell (a := ⟨b, o, none⟩) hb).trans c2
      have HE := Lib.hid (show l ++ Wire.eights (xs.take (k + 1)) = l ++ Wire.eights (xs.take k) ++ Wire.eight xs[k] by
        rw [List.take_succ_eq_append_getElem hlt, Wire.eights, List.flatMap_append]
        simp [Wire.eights])
      have KN := Lib.hid (wireNumber xs[k] wr hP (by rw [List.length_append, Wire.eights_length, List.length_take]; omega))
      rw [← HE.out] at KN
      obtain ⟨x, hx⟩ : ∃ x, xs[k] = x := ⟨_, rfl⟩
      rw [hx] at KN d2
      clear hx c1 c2 hP HE hA
      go_wp2_with ((go_at_call 26; (with_reducible refine KN.out.mono ?_); rintro e w1 ⟨rfl, hP1⟩))
      go_roundw
      case rel => exact ⟨k + 1, by omega, by go_num, hP1⟩
      case measure => simp [intOf]; omega
    · obtain rfl : k = xs.length := by omega
      rw [List.take_length] at hP
      clear hlt
      go_wp2
      first | go_end0 | exact bodyPost_ret (results_none rfl _ _ _) rfl ⟨rfl, hP⟩
      exact ⟨rfl, hP⟩
set_option maxHeartbeats 800000 in
theorem wireEntry (b : Nat) (w : World) :
    Calls Try.prog 28 #[.pointer (some ⟨b, 0, none⟩)] w fun e w' => ∃ g, e = .returned (.slice (some ⟨g, 0, none⟩) 2 2) ∧ w.heap.size ≤ g ∧ Own w' g #[.pointer (some ⟨b, 0, none⟩), .pointer (some ⟨b, 1, none⟩)] ∧ Ok w w' := by
  go_enter Try.func28, Try.ntmps28
  go_wp2
  go_region
  all_goals
    go_wp2
    go_ret
    exact ⟨_, rfl, Nat.le_refl _, (Own.new w _ _ rfl).drew, ((Ok.refl w).alloc _).drew⟩
set_option maxHeartbeats 1600000 in
theorem wireFields (b : Nat) (w : World) :
    Calls Try.prog 27 #[.pointer (some ⟨b, 0, none⟩)] w fun e w' => ∃ g, e = .returned (.slice (some ⟨g, 0, none⟩) 9 9) ∧ w.heap.size ≤ g ∧ Own w' g #[.pointer (some ⟨b, 2, none⟩), .pointer (some ⟨b, 3, none⟩), .pointer (some ⟨b, 4, none⟩), .pointer (some ⟨b, 5, none⟩), .pointer (some ⟨b, 8, none⟩), .pointer (some ⟨b, 9, none⟩), .pointer (some ⟨b, 10, none⟩), .pointer (some ⟨b, 11, none⟩), .pointer (some ⟨b, 12, none⟩)] ∧ Ok w w' := by
  go_enter Try.func27, Try.ntmps27
  go_wp2
  go_region
  all_goals
    go_wp2
    go_ret
    exact ⟨_, rfl, Nat.le_refl _, (Own.new w _ _ rfl).drew, ((Ok.refl w).alloc _).drew⟩
set_option maxHeartbeats 800000 in
theorem wireFlags (m : Msg) (A : Option Addr) (cap : Nat) (w : World) :
    Calls Try.prog 24 #[msgV m A cap] w fun e w' => e = .returned (.int .u8 (Wire.flags m : Nat)) ∧ Ok w w' := by
  have hok := Ok.refl w
  unfold msgV Wire.flags
  cases m with
  | mk kind frm lo hi held hops good ref slo shi pulse time num table =>
  simp only
  cases good <;> cases ref
  all_goals
    go_enter Try.func24, Try.ntmps24
    go_wp2
    go_ret
    exact ⟨rfl, hok.alloc _⟩
end Go.Proofs.Ytacnoakbcilmfaa
