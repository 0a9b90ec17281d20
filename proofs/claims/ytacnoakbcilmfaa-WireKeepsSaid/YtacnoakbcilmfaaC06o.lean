/- Contracts of layer 6: the program's Decode. -/
import Derived.Test.YtacnoakbcilmfaaC06n
import Derived.Test.YtacnoakbcilmfaaC06g
import Derived.Test.YtacnoakbcilmfaaC05h
namespace Go.Proofs.Ytacnoakbcilmfaa
open Go.RowKit
set_option maxRecDepth 100000
attribute [local go_sem ↓] Go.wp_at_zero Go.wp_at_succ
theorem wireIdle (M E : Nat) (w : World) : CallsD Try.prog 32 #[.pointer (some ⟨M, 0, none⟩), .pointer (some ⟨E, 0, none⟩)] .returning w fun e u' w' => e = .returned (.tuple #[]) ∧ u' = .returning ∧ w' = w := by
  refine callsD_of_wpS Try.func32 rfl fun c₀ cs hu => ?_
  apply wpS_seq
  apply wpS_region
  simp [wpOpsS, go_sem, recoverD, hu, Try.ntmps32, Exit.thenS]
  apply wpS_seq
  apply wpS_region
  simp [wpOpsS, go_sem, recoverD, hu, Exit.thenS]
  refine wpS_cond (t := false) (by simp [Act.eval, Array.replicate]) ?_
  simp only [Bool.false_eq_true, if_false]
  refine wpS_of_wp (wp_skip ?_)
  cases c₀
  simp_all [bodyPostS, results, Try.results32]
theorem zero_over {w1 : World} {G : Nat} (a0 a1 a2 a3 a4 a5 a6 a7 a8 a9 a10 a11 a12 a13 : Value) (hO : Own w1 G #[a0, a1, a2, a3, a4, a5, a6, a7, a8, a9, a10, a11, a12, a13]) : Own ((((((((((((((w1.setCell ⟨G, 0, none⟩ (.int .i64 0)).setCell ⟨G, 1, none⟩ (.int .i64 0)).setCell ⟨G, 2, none⟩ (.int .i64 0)).setCell ⟨G, 3, none⟩ (.int .i64 0)).setCell ⟨G, 4, none⟩ (.int .i64 0)).setCell ⟨G, 5, none⟩ (.int .i64 0)).setCell ⟨G, 6, none⟩ (.bool false)).setCell ⟨G, 7, none⟩ (.bool false)).setCell ⟨G, 8, none⟩ (.int .i64 0)).setCell ⟨G, 9, none⟩ (.int .i64 0)).setCell ⟨G, 10, none⟩ (.int .i64 0)).setCell ⟨G, 11, none⟩ (.int .i64 0)).setCell ⟨G, 12, none⟩ (.int .i64 0)).setCell ⟨G, 13, none⟩ (.slice none 0 0)) G zeroCells0 ∧ Two G G w1 ((((((((((((((w1.setCell ⟨G, 0, none⟩ (.int .i64 0)).setCell ⟨G, 1, none⟩ (.int .i64 0)).setCell ⟨G, 2, none⟩ (.int .i64 0)).setCell ⟨G, 3, none⟩ (.int .i64 0)).setCell ⟨G, 4, none⟩ (.int .i64 0)).setCell ⟨G, 5, none⟩ (.int .i64 0)).setCell ⟨G, 6, none⟩ (.bool false)).setCell ⟨G, 7, none⟩ (.bool false)).setCell ⟨G, 8, none⟩ (.int .i64 0)).setCell ⟨G, 9, none⟩ (.int .i64 0)).setCell ⟨G, 10, none⟩ (.int .i64 0)).setCell ⟨G, 11, none⟩ (.int .i64 0)).setCell ⟨G, 12, none⟩ (.int .i64 0)).setCell ⟨G, 13, none⟩ (.slice none 0 0)) := by
  refine ⟨?_, (((((((((((((((Two.refl G G w1).set (a := ⟨G, 0, none⟩) (.inl rfl) (.int .i64 0)).set (a := ⟨G, 1, none⟩) (.inl rfl) (.int .i64 0)).set (a := ⟨G, 2, none⟩) (.inl rfl) (.int .i64 0)).set (a := ⟨G, 3, none⟩) (.inl rfl) (.int .i64 0)).set (a := ⟨G, 4, none⟩) (.inl rfl) (.int .i64 0)).set (a := ⟨G, 5, none⟩) (.inl rfl) (.int .i64 0)).set (a := ⟨G, 6, none⟩) (.inl rfl) (.bool false)).set (a := ⟨G, 7, none⟩) (.inl rfl) (.bool false)).set (a := ⟨G, 8, none⟩) (.inl rfl) (.int .i64 0)).set (a := ⟨G, 9, none⟩) (.inl rfl) (.int .i64 0)).set (a := ⟨G, 10, none⟩) (.inl rfl) (.int .i64 0)).set (a := ⟨G, 11, none⟩) (.inl rfl) (.int .i64 0)).set (a := ⟨G, 12, none⟩) (.inl rfl) (.int .i64 0)).set (a := ⟨G, 13, none⟩) (.inl rfl) (.slice none 0 0))⟩
  have h := ((((((((((((((hO.set 0 (.int .i64 0)).set 1 (.int .i64 0)).set 2 (.int .i64 0)).set 3 (.int .i64 0)).set 4 (.int .i64 0)).set 5 (.int .i64 0)).set 6 (.bool false)).set 7 (.bool false)).set 8 (.int .i64 0)).set 9 (.int .i64 0)).set 10 (.int .i64 0)).set 11 (.int .i64 0)).set 12 (.int .i64 0)).set 13 (.slice none 0 0))
  simp only [Array.set!_eq_setIfInBounds, List.setIfInBounds_toArray, List.set_cons_zero, List.set_cons_succ] at h
  exact h
set_option maxHeartbeats 1600000 in
theorem wireCatch (M E : Nat) (n : Int) (a0 a1 a2 a3 a4 a5 a6 a7 a8 a9 a10 a11 a12 a13 b0 : Value) (w : World) (hM : Own w M #[a0, a1, a2, a3, a4, a5, a6, a7, a8, a9, a10, a11, a12, a13]) (hE : Own w E #[b0]) (hME : M ≠ E) :
    CallsD Try.prog 32 #[.pointer (some ⟨M, 0, none⟩), .pointer (some ⟨E, 0, none⟩)] (.panicking (why n)) w fun e u' w' => e = .returned (.tuple #[]) ∧ u' = .panicking [{ v := .iface 32 (.int .i64 n), recovered := true }] ∧ Own w' M zeroCells0 ∧ Own w' E #[.int .i64 n] ∧ Two M E w w' := by
  have hz : ∀ w, Sem.run Try.prog (zeroValue 28) w = .ok (.agg #[.int .i64 0, .int .i64 0, .int .i64 0, .int .i64 0, .int .i64 0, .int .i64 0, .bool false, .bool false, .int .i64 0, .int .i64 0, .int .i64 0, .int .i64 0, .int .i64 0, .slice none 0 0]) w := fun w => by kernel_rfl
  have p0 := hM.cell 0 (v := a0) rfl
  have q0 := hM.frozen 0
  have p1 := hM.cell 1 (v := a1) rfl
  have q1 := hM.frozen 1
  have p2 := hM.cell 2 (v := a2) rfl
  have q2 := hM.frozen 2
  have p3 := hM.cell 3 (v := a3) rfl
  have q3 := hM.frozen 3
  have p4 := hM.cell 4 (v := a4) rfl
  have q4 := hM.frozen 4
  have p5 := hM.cell 5 (v := a5) rfl
  have q5 := hM.frozen 5
  have p6 := hM.cell 6 (v := a6) rfl
  have q6 := hM.frozen 6
  have p7 := hM.cell 7 (v := a7) rfl
  have q7 := hM.frozen 7
  have p8 := hM.cell 8 (v := a8) rfl
  have q8 := hM.frozen 8
  have p9 := hM.cell 9 (v := a9) rfl
  have q9 := hM.frozen 9
  have p10 := hM.cell 10 (v := a10) rfl
  have q10 := hM.frozen 10
  have p11 := hM.cell 11 (v := a11) rfl
  have q11 := hM.frozen 11
  have p12 := hM.cell 12 (v := a12) rfl
  have q12 := hM.frozen 12
  have p13 := hM.cell 13 (v := a13) rfl
  have q13 := hM.frozen 13
  have pE := hE.cell 0 (v := b0) rfl
  have qE := hE.frozen 0
  have hEM : E ≠ M := fun e => hME e.symm
  have HM := Lib.hid hM
  have HE := Lib.hid hE
  clear hM hE
  refine callsD_of_wpS Try.func32 rfl fun c₀ cs hu => ?_
  unfold why at hu
  apply wpS_seq
  apply wpS_region
  simp [wpOpsS, go_sem, recoverD, hu, Try.ntmps32, Exit.thenS]
  apply wpS_seq
  apply wpS_region
  simp [wpOpsS, go_sem, recoverD, Exit.thenS]
  refine wpS_cond (t := true) (by simp [Act.eval, Array.replicate]) ?_
  simp only [if_true]
  refine wpS_of_wp ?_
  have ht : ∀ w, Sem.run Try.prog (Instr.typeAssert (.iface 32 (.int .i64 n)) 20 32 false) w = .ok (.int .i64 n) w := fun w => by kernel_rfl
  change Code.wp _ _ _ { tmps := #[.pointer (some ⟨M, 0, none⟩), .pointer (some ⟨E, 0, none⟩), .iface 32 (.int .i64 n), .iface 32 (.int .i64 n), .iface 32 (.int .i64 n), .bool true, undef, undef, undef], defers := [] } w
  go_region
  obtain ⟨hO5, T5⟩ := zero_over a0 a1 a2 a3 a4 a5 a6 a7 a8 a9 a10 a11 a12 a13 HM.out
  generalize ((((((((((((((w.setCell ⟨M, 0, none⟩ (.int .i64 0)).setCell ⟨M, 1, none⟩ (.int .i64 0)).setCell ⟨M, 2, none⟩ (.int .i64 0)).setCell ⟨M, 3, none⟩ (.int .i64 0)).setCell ⟨M, 4, none⟩ (.int .i64 0)).setCell ⟨M, 5, none⟩ (.int .i64 0)).setCell ⟨M, 6, none⟩ (.bool false)).setCell ⟨M, 7, none⟩ (.bool false)).setCell ⟨M, 8, none⟩ (.int .i64 0)).setCell ⟨M, 9, none⟩ (.int .i64 0)).setCell ⟨M, 10, none⟩ (.int .i64 0)).setCell ⟨M, 11, none⟩ (.int .i64 0)).setCell ⟨M, 12, none⟩ (.int .i64 0)).setCell ⟨M, 13, none⟩ (.slice none 0 0)) = W5 at hO5 T5 ⊢
  have hE5 := T5.own HE.out hEM hEM
  refine ⟨rfl, _, rfl, .tuple #[], (by simp [results, Try.results32]), rfl, rfl, (hO5.setOther (a := ⟨E, 0, none⟩) hME _).drew, (hE5.set 0 (.int .i64 n)).drew, ?_⟩
  exact ⟨T5.os, T5.tape, T5.output, by have := T5.size; simpa using this, fun k h1 h2 => (Below.heap_setCell W5 ⟨E, 0, none⟩ _ k h2).trans (T5.block k h1 h1)⟩
end Go.Proofs.Ytacnoakbcilmfaa
