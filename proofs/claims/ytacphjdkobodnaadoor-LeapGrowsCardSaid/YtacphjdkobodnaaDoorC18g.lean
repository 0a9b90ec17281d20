/- Contracts of layer 18: the offsets that a loop goes over: the iterator. -/
import Derived.RangeFuncNested
import Derived.RangeFuncBound
import Derived.RangeFuncCalls
import Derived.RangeFuncLeaves
import Derived.Shelf.Abstract
import Derived.Shelf.RegionOpen
import Derived.WalkKit
import Derived.OwnWalkIn
import Derived.TacticsInMore
import Derived.LoopNIn
import Derived.LoopIn
import Derived.RangeFuncBox
import Derived.Test.YtacphjdkobodnaaDoorC18a
namespace Go.Proofs.YtacphjdkobodnaaDoor
open Go.RowKit Go.Shelf
set_option maxRecDepth 100000
attribute [local go_sem] Oper.semAt_some
/-- An offset of a table's. -/
abbrev Leap.Of (t : List (Int × Int)) := { x : Int // x ∈ Leap.offs t }
/-- What has come ahead of round k. -/
def Leap.come (t : List (Int × Int)) (k : Nat) : List (Leap.Of t) := (Leap.offs t).attach.take k
theorem Leap.offs_length (t : List (Int × Int)) : (Leap.offs t).length = t.length + 1 := by simp [Leap.offs]
theorem Leap.come_length (t : List (Int × Int)) {k : Nat} (hk : k ≤ t.length + 1) : (Leap.come t k).length = k := by
  unfold Leap.come
  rw [List.length_take, List.length_attach, Leap.offs_length]
  omega
theorem Leap.come_all (t : List (Int × Int)) : (Leap.come t (t.length + 1)).map (·.1) = Leap.offs t := by
  unfold Leap.come
  rw [List.take_of_length_le (by rw [List.length_attach, Leap.offs_length]; exact Nat.le_refl _), List.attach_map_subtype_val]
theorem Leap.come_pre (t : List (Int × Int)) (k : Nat) : (Leap.come t k).map (·.1) <+: Leap.offs t := by
  unfold Leap.come
  rw [List.map_take, List.attach_map_subtype_val]
  exact List.take_prefix _ _
theorem Leap.offs_at (t : List (Int × Int)) (k : Nat) (hk : k < t.length) : t[k].2 ∈ Leap.offs t := List.mem_cons_of_mem _ (List.mem_map.2 ⟨t[k], List.getElem_mem hk, rfl⟩)
theorem Leap.come_next (t : List (Int × Int)) (k : Nat) (hk : k < t.length) : Leap.come t (k + 1 + 1) = Leap.come t (k + 1) ++ [⟨t[k].2, Leap.offs_at t k hk⟩] := by
  unfold Leap.come
  rw [List.take_succ_eq_append_getElem (by rw [List.length_attach, Leap.offs_length]; omega)]
  congr 1
  rw [List.getElem_attach]
  simp [Leap.offs]
theorem Leap.come_one (t : List (Int × Int)) : Leap.come t 1 = [⟨0, List.mem_cons_self⟩] := by
  unfold Leap.come
  rw [show (1 : Nat) = 0 + 1 from rfl, List.take_succ_eq_append_getElem (by rw [List.length_attach, Leap.offs_length]; omega)]
  simp [Leap.offs]
  rfl
set_option maxHeartbeats 2000000 in
theorem offs1 (l Bs n₀ : Nat) (A : Option Addr) (t : List (Int × Int)) (cap : Nat) (J Jx : List (Leap.Of t) → World → Prop) (hn : t.length ≤ 32)
    (hA : ∀ pre W o, J pre W → J pre (W.alloc o))
    (hY : ∀ pre (x : Leap.Of t) W, J pre W → pre.length < t.length + 1 → YieldAt Fence.wide (5 - 1) Tryd.prog l #[.int .i64 x.1] W fun e W' =>
      (e = .returned (.bool true) ∧ J (pre ++ [x]) W' ∧ Below n₀ W W') ∨ (e = .returned (.bool false) ∧ Jx (pre ++ [x]) W'))
    (W : World) (hH : n₀ ≤ W.heap.size) (hP : ∀ W', Below n₀ W W' → PairsAt W' A t ∧ W'.cell? ⟨Bs, 0, none⟩ = some (.slice A t.length cap)) (h0 : J [] W) :
    CallsIn Fence.wide 5 Tryd.prog 51 #[.func (.yield l) #[] #[], .pointer (some ⟨Bs, 0, none⟩)] W fun e W' => (∃ v, e = .returned v) ∧
      ((∃ ys : List (Leap.Of t), ys.map (·.1) = Leap.offs t ∧ J ys W') ∨ (∃ pre : List (Leap.Of t), pre.map (·.1) <+: Leap.offs t ∧ Jx pre W')) := by
  have HP := Lib.hid hP
  have HA := Lib.hid hA
  have HY := Lib.hid hY
  clear hP hA hY
  refine callsIn_of_wp Tryd.func51 rfl trivial ?_ rfl
  simp only [Tryd.ntmps51, List.size_toArray, List.length_cons, List.length_nil, Nat.reduceAdd, Nat.reduceSub, Array.replicate_succ, Array.replicate_zero, List.push_toArray, List.append_toArray, List.nil_append, List.cons_append]
  obtain ⟨fn, tmps, assign, body, hy, hR⟩ := HY.out [] ⟨0, List.mem_cons_self⟩ W h0 (by simp)
  dsimp only at hy
  gi_wp2
  refine hR.mono ?_
  rintro e W3 (⟨rfl, hJ3, hk3⟩ | ⟨rfl, hJx3⟩)
  rotate_left
  · gi_wp2
    refine bodyPost_ret (results_none rfl _ _ _) rfl ?_
    exact ⟨⟨_, rfl⟩, .inr ⟨[⟨0, List.mem_cons_self⟩], by rw [← Leap.come_one]; exact Leap.come_pre t 1, hJx3⟩⟩
  clear hR hy
  have hBs := (HP.out W3 hk3).2
  have hJ4 : J (Leap.come t 1) W3 := by rw [Leap.come_one]; exact hJ3
  clear hJ3 h0
  gi_wp2
  gi_loopw [10] (fun i wr => ∃ k : Nat, k ≤ t.length ∧ i = .int .i64 k ∧ J (Leap.come t (k + 1)) wr ∧ Below n₀ W wr)
    (fun i _ => t.length - (intOf i).toNat)
  case atStart => exact ⟨0, Nat.zero_le _, rfl, hJ4, hk3⟩
  case round =>
    obtain ⟨k, hk, rfl, hJs, hnx⟩ := hrel
    clear hJ4 hk3 hBs
    have hsz : n₀ ≤ wr.heap.size := Nat.le_trans hH hnx.size
    by_cases hlt : k < t.length
    · obtain ⟨b, off, eA, hbs, c1, c2⟩ := (HP.out wr hnx).1 k hlt
      have HN := Lib.hid (Leap.come_next t k hlt)
      have hJ5 := HA.out _ wr (.cells #[.int .i64 t[k].1, .int .i64 t[k].2] 40) hJs
      have hnx5 := hnx.alloc hsz (.cells #[.int .i64 t[k].1, .int .i64 t[k].2] 40)
      obtain ⟨fn, tmps, assign, body, hy, hR⟩ := HY.out _ ⟨t[k].2, Leap.offs_at t k hlt⟩ _ hJ5 (by rw [Leap.come_length t (by omega)]; omega)
      dsimp only at hy hR
      rw [← HN.out] at hR
      subst eA
      clear hJ5 hJs
      obtain ⟨a, ea⟩ : ∃ x, t[k].1 = x := ⟨_, rfl⟩
      obtain ⟨o, eo⟩ : ∃ x, t[k].2 = x := ⟨_, rfl⟩
      rw [ea] at c1
      rw [eo] at c2
      rw [ea, eo] at hnx5
      rw [ea, eo] at hy
      rw [ea, eo] at hR
      clear ea eo HN
      gi_wp2
      refine hR.mono ?_
      rintro e W5 (⟨rfl, hJ3, hk3⟩ | ⟨rfl, hJx3⟩)
      · gi_wp2
        go_roundw
        case rel => exact ⟨k + 1, by omega, by go_num, hJ3, hnx5.trans hk3⟩
        case measure => simp [intOf]; omega
      · gi_wp2
        refine bodyPost_ret (results_none rfl _ _ _) rfl ?_
        exact ⟨⟨_, rfl⟩, .inr ⟨_, Leap.come_pre t _, hJx3⟩⟩
    · have e : k = t.length := by omega
      subst e
      gi_wp2
      go_end0
      exact ⟨⟨_, rfl⟩, .inl ⟨_, Leap.come_all t, hJs⟩⟩
end Go.Proofs.YtacphjdkobodnaaDoor
