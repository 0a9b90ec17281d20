/- Several texts of mine in one: C20b, C20c, C20d. -/
import Derived.Test.YtmmiboblofopgaaGreatC20a
import Derived.Deep.CutRange
import Derived.Laws.StructEq
import Derived.Laws.Tables
/- Contracts of layer 20: Tick, Hear and Mend, the program's and the document's. -/
namespace Go.Proofs.YtmmiboblofopgaaGreat
open Go.RowKit
set_option maxRecDepth 100000
attribute [local go_sem ↓] Go.wp_at_zero Go.wp_at_succ
theorem hlcBegin (x : Int) (w : World) : Calls Tryz.prog 116 #[.int .i64 x] w fun e w' => e = .returned (stV (Sat.clip x, 0)) ∧ Ok w w' := by
  have hok := Ok.refl w
  go_enter Tryz.func116, Tryz.ntmps116
  go_wp2_with (go_at_call 60; refine (satClip _ _).mono ?_; rintro e w' ⟨rfl, rfl⟩)
  exact bodyPost_ret (v := stV (Sat.clip x, 0)) (by simp [results, Tryz.results116, go_sem]) rfl ⟨rfl, hok.alloc _⟩
theorem hlcMay (s : Int × Int) (most : Int) (w : World) : Calls Tryz.prog 115 #[stV s, .int .i64 most] w fun e w' => e = .returned (.bool (Hlc.right s && decide (s.1 ≤ most))) ∧ Ok w w' := by
  have hok := Ok.refl w
  obtain ⟨t, n⟩ := s
  have KR := Lib.hid fun w => hlcRight (t, n) w
  have HB := Lib.hid (Box.new w t n 28 rfl)
  generalize Hlc.right (t, n) = r at KR ⊢
  show Calls _ _ _ _ fun e w' => e = .returned (.bool (r && decide (t ≤ most))) ∧ Ok w w'
  cases r
  · rw [Bool.false_and]
    go_enter Tryz.func115, Tryz.ntmps115
    go_wp2_with (go_at_call 63; refine (KR.out _).mono ?_; rintro e w1 ⟨rfl, hb1⟩; have hB := HB.out.next hb1; have c0 := hB.c0; have hBl := hB.lt; replace hok := (hok.alloc _).trans hb1; clear hb1)
    go_ret
    exact ⟨rfl, hok⟩
  · rw [Bool.true_and]
    obtain ⟨d, hd⟩ : ∃ d, decide (t ≤ most) = d := ⟨_, rfl⟩
    rw [hd]
    go_enter Tryz.func115, Tryz.ntmps115
    go_wp2_with (go_at_call 63; refine (KR.out _).mono ?_; rintro e w1 ⟨rfl, hb1⟩; have hB := HB.out.next hb1; have c0 := hB.c0; have hBl := hB.lt; replace hok := (hok.alloc _).trans hb1; clear hb1)
    go_ret
    exact ⟨rfl, hok⟩
theorem hlcTick (c0 : Int × Int) (now : Int) (w : World) : Calls Tryz.prog 76 #[stV c0, .int .i64 now] w fun e w' => e = .returned (stV (Hlc.tick c0 now)) ∧ Ok w w' := by
  have hok := Ok.refl w
  obtain ⟨t, n⟩ := c0
  have KB := Lib.hid fun w => hlcBegin now w
  have KN := Lib.hid fun w => hlcNext (t, n) w
  rw [show Hlc.tick (t, n) now = if t < Sat.clip now then (Sat.clip now, 0) else Hlc.next (t, n) from rfl]
  generalize Sat.clip now = c at KB ⊢
  have HS := Lib.hid ((Box.new w t n 114 rfl).next ((Ok.refl _).alloc (.cells #[.int .i64 0, .int .i64 0] 114)))
  have HR := Lib.hid (Slab.new (w.alloc (.cells #[.int .i64 t, .int .i64 n] 114)) 0 0 114 (g := w.heap.size + 1) (by simp))
  have hrw : w.heap.size ≤ w.heap.size + 1 := by omega
  by_cases h : t < c
  · rw [if_pos h]
    go_enter Tryz.func76, Tryz.ntmps76
    go_wp2_with (go_at_call 116; refine (KB.out _).mono ?_; rintro e w1 ⟨rfl, hb1⟩; replace hb1 := hb1.alloc (.cells #[.int .i64 c, .int .i64 0] 114); have hS := HS.out.next hb1; have hR := HR.out.next hb1; replace hok := ((hok.alloc _).alloc _).trans hb1; clear hb1 HS HR; obtain ⟨s0, s1, hSl⟩ := hS; have r0 := hR.c0; have r1 := hR.c1; have f0 := hR.f0; have f1 := hR.f1; have hRl := hR.lt; have hb1 := True.intro)
    have hX := hR.set c 0
    have hok3 := (hok.setCell (p := ⟨w.heap.size + 1, 0, none⟩) hrw (.int .i64 c)).setCell (p := ⟨w.heap.size + 1, 1, none⟩) hrw (.int .i64 0)
    generalize ((w1.alloc (.cells #[.int .i64 c, .int .i64 0] 114)).setCell ⟨w.heap.size + 1, 0, none⟩ (.int .i64 c)).setCell ⟨w.heap.size + 1, 1, none⟩ (.int .i64 0) = W4 at hX hok3 ⊢
    have x0 := hX.c0
    have x1 := hX.c1
    exact bodyPost_ret (v := stV (c, 0)) (by simp [results, Tryz.results76, go_sem, x0, x1]) rfl ⟨rfl, hok3⟩
  · rw [if_neg h]
    generalize Hlc.next (t, n) = z at KN ⊢
    obtain ⟨u, v⟩ := z
    go_enter Tryz.func76, Tryz.ntmps76
    go_wp2_with (first | (go_at_call 116; refine (KB.out _).mono ?_; rintro e w1 ⟨rfl, hb1⟩; replace hb1 := hb1.alloc (.cells #[.int .i64 c, .int .i64 0] 114); have hS := HS.out.next hb1; have hR := HR.out.next hb1; replace hok := ((hok.alloc _).alloc _).trans hb1; clear hb1 HS HR; obtain ⟨s0, s1, hSl⟩ := hS; have r0 := hR.c0; have r1 := hR.c1; have f0 := hR.f0; have f1 := hR.f1; have hRl := hR.lt; have hb1 := True.intro) | (go_at_call 117; refine (KN.out _).mono ?_; rintro e w2 ⟨rfl, hb1⟩; replace hok := hok.trans hb1; replace hR := hR.next hb1; clear hb1 r0 r1 f0 f1 hRl; have r0 := hR.c0; have r1 := hR.c1; have f0 := hR.f0; have f1 := hR.f1; have hRl := hR.lt))
    have hX := hR.set u v
    have hok3 := (hok.setCell (p := ⟨w.heap.size + 1, 0, none⟩) hrw (.int .i64 u)).setCell (p := ⟨w.heap.size + 1, 1, none⟩) hrw (.int .i64 v)
    generalize (w2.setCell ⟨w.heap.size + 1, 0, none⟩ (.int .i64 u)).setCell ⟨w.heap.size + 1, 1, none⟩ (.int .i64 v) = W4 at hX hok3 ⊢
    have x0 := hX.c0
    have x1 := hX.c1
    exact bodyPost_ret (v := stV (u, v)) (by simp [results, Tryz.results76, go_sem, x0, x1]) rfl ⟨rfl, hok3⟩
end Go.Proofs.YtmmiboblofopgaaGreat

/- Contracts of layer 20: Hear and Mend, the program's and the document's. -/
namespace Go.Proofs.YtmmiboblofopgaaGreat
open Go.RowKit
set_option maxRecDepth 100000
attribute [local go_sem ↓] Go.wp_at_zero Go.wp_at_succ
theorem hlcMend (c0 : Int × Int) (now most : Int) (w : World) : Calls Tryz.prog 74 #[stV c0, .int .i64 now, .int .i64 most] w fun e w' => e = .returned (.tuple #[stV (if Hlc.right c0 = true ∧ c0.1 ≤ most then c0 else (Sat.clip now, 0)), .bool (decide (¬ (Hlc.right c0 = true ∧ c0.1 ≤ most)))]) ∧ Ok w w' := by
  obtain ⟨t, n⟩ := c0
  have KM := Lib.hid fun w => hlcMay (t, n) most w
  have HC := Lib.hid ((Box.new w t n 114 rfl).next ((Ok.refl _).alloc (.cells #[.int .i64 0, .int .i64 0] 114)))
  have HR := Lib.hid (Slab.new (w.alloc (.cells #[.int .i64 t, .int .i64 n] 114)) 0 0 114 (g := w.heap.size + 1) (by simp))
  have HK := Lib.hid (((Ok.refl w).alloc (.cells #[.int .i64 t, .int .i64 n] 114)).alloc (.cells #[.int .i64 0, .int .i64 0] 114))
  have hrw : w.heap.size ≤ w.heap.size + 1 := by omega
  by_cases h : Hlc.right (t, n) = true ∧ t ≤ most
  · rw [show (Hlc.right (t, n) && decide ((t, n).1 ≤ most)) = true by rw [h.1, decide_eq_true h.2]; rfl] at KM
    rw [if_pos h, decide_eq_false (not_not_intro h)]
    clear h
    go_enter Tryz.func74, Tryz.ntmps74
    go_wp2_with (go_at_call 115; refine (KM.out _).mono ?_; rintro e w1 ⟨rfl, hb1⟩; obtain ⟨c0, c1, hcl⟩ := HC.out.next hb1; have hR := HR.out.next hb1; have hok := HK.out.trans hb1; clear hb1 HC HR HK; have r0 := hR.c0; have r1 := hR.c1; have f0 := hR.f0; have f1 := hR.f1; have hRl := hR.lt)
    have hX := hR.set t n
    have hok3 := (hok.setCell (p := ⟨w.heap.size + 1, 0, none⟩) hrw (.int .i64 t)).setCell (p := ⟨w.heap.size + 1, 1, none⟩) hrw (.int .i64 n)
    generalize (w1.setCell ⟨w.heap.size + 1, 0, none⟩ (.int .i64 t)).setCell ⟨w.heap.size + 1, 1, none⟩ (.int .i64 n) = W4 at hX hok3 ⊢
    have x0 := hX.c0
    have x1 := hX.c1
    exact bodyPost_ret (v := .tuple #[stV (t, n), .bool false]) (by simp [results, Tryz.results74, go_sem, x0, x1]) rfl ⟨rfl, hok3⟩
  · have KB := Lib.hid fun w => hlcBegin now w
    rw [show (Hlc.right (t, n) && decide ((t, n).1 ≤ most)) = false by rw [Bool.and_eq_false_iff]; by_cases g : Hlc.right (t, n) = true; (exact Or.inr (decide_eq_false fun k => h ⟨g, k⟩)); exact Or.inl (by simpa using g)] at KM
    rw [if_neg h, decide_eq_true h]
    generalize Sat.clip now = c at KB ⊢
    clear h
    go_enter Tryz.func74, Tryz.ntmps74
    go_wp2_with (first | (go_at_call 115; refine (KM.out _).mono ?_; rintro e w1 ⟨rfl, hb1⟩; obtain ⟨c0, c1, hcl⟩ := HC.out.next hb1; have hR := HR.out.next hb1; have hok := HK.out.trans hb1; clear hb1 HC HR HK; have r0 := hR.c0; have r1 := hR.c1; have f0 := hR.f0; have f1 := hR.f1; have hRl := hR.lt) | (go_at_call 116; refine (KB.out _).mono ?_; rintro e w4 ⟨rfl, hb1⟩; replace hR := hR.next hb1; replace hok := hok.trans hb1; clear hb1 r0 r1 f0 f1 hRl; have r0 := hR.c0; have r1 := hR.c1; have f0 := hR.f0; have f1 := hR.f1; have hRl := hR.lt))
    have hX := hR.set c 0
    have hok3 := (hok.setCell (p := ⟨w.heap.size + 1, 0, none⟩) hrw (.int .i64 c)).setCell (p := ⟨w.heap.size + 1, 1, none⟩) hrw (.int .i64 0)
    generalize (w4.setCell ⟨w.heap.size + 1, 0, none⟩ (.int .i64 c)).setCell ⟨w.heap.size + 1, 1, none⟩ (.int .i64 0) = W4 at hX hok3 ⊢
    have x0 := hX.c0
    have x1 := hX.c1
    exact bodyPost_ret (v := .tuple #[stV (c, 0), .bool true]) (by simp [results, Tryz.results74, go_sem, x0, x1]) rfl ⟨rfl, hok3⟩
end Go.Proofs.YtmmiboblofopgaaGreat

/- Contracts of layer 20: Tick and Hear, the document's; the law's clock, and what every law asks first, the program's and the document's. -/
namespace Go.Proofs.YtmmiboblofopgaaGreat
open Go.RowKit
set_option maxRecDepth 100000
attribute [local go_sem ↓] Go.wp_at_zero Go.wp_at_succ
theorem ref20Tick (c0 : Int × Int) (now : Int) (w : World) : Calls Tryz.prog 92 #[stV c0, .int .i64 now] w fun e w' => e = .returned (stV (Hlc.tick c0 now)) ∧ Ok w w' := by
  have hok := ((Ok.refl w).alloc (.cells #[.int .i64 c0.1, .int .i64 c0.2] 28)).alloc (.cells #[.int .i64 0, .int .i64 0] 28)
  obtain ⟨t, n⟩ := c0
  have KC := Lib.hid fun w => refClip now w
  have KN := Lib.hid fun w => ref20Next (t, n) w
  rw [show Hlc.tick (t, n) now = if t < Sat.clip now then (Sat.clip now, 0) else Hlc.next (t, n) from rfl]
  generalize Sat.clip now = c at KC ⊢
  have hS := (Box.new w t n 28 rfl).next ((Ok.refl _).alloc (.cells #[.int .i64 0, .int .i64 0] 28))
  have hR := Slab.new (w.alloc (.cells #[.int .i64 t, .int .i64 n] 28)) 0 0 28 (g := w.heap.size + 1) (by simp)
  have hrw : w.heap.size ≤ w.heap.size + 1 := by omega
  by_cases h : t < c
  · rw [if_pos h]
    go_enter Tryz.func92, Tryz.ntmps92
    go_upto_region 1 with fail
    generalize (w.alloc (.cells #[.int .i64 t, .int .i64 n] 28)).alloc (.cells #[.int .i64 0, .int .i64 0] 28) = W at hS hR hok ⊢
    obtain ⟨s0, s1, hsl⟩ := hS
    go_quiet ((go_at_call 28; exact Calls.quiet_of_same ((KC.out _).mono fun _ _ h => ⟨h.1, h.2.symm⟩)))
    replace hR := hR.drewN nq
    replace hok := hok.drewN nq
    have r0 := hR.c0; have r1 := hR.c1; have f0 := hR.f0; have f1 := hR.f1; have hRl := hR.lt
    go_wp2_with (go_at_call 28; refine (KC.out _).mono ?_; rintro e w2 ⟨rfl, rfl⟩)
    have hX := hR.set c 0
    have hok3 := (hok.setCell (p := ⟨w.heap.size + 1, 0, none⟩) hrw (.int .i64 c)).setCell (p := ⟨w.heap.size + 1, 1, none⟩) hrw (.int .i64 0)
    generalize ((W.drewN nq).setCell ⟨w.heap.size + 1, 0, none⟩ (.int .i64 c)).setCell ⟨w.heap.size + 1, 1, none⟩ (.int .i64 0) = W4 at hX hok3 ⊢
    have x0 := hX.c0
    have x1 := hX.c1
    exact bodyPost_ret (v := stV (c, 0)) (by simp [results, Tryz.results92, go_sem, x0, x1]) rfl ⟨rfl, hok3⟩
  · rw [if_neg h]
    generalize Hlc.next (t, n) = z at KN ⊢
    obtain ⟨u, v⟩ := z
    go_enter Tryz.func92, Tryz.ntmps92
    go_upto_region 1 with fail
    generalize (w.alloc (.cells #[.int .i64 t, .int .i64 n] 28)).alloc (.cells #[.int .i64 0, .int .i64 0] 28) = W at hS hR hok ⊢
    obtain ⟨s0, s1, hsl⟩ := hS
    go_quiet ((go_at_call 28; exact Calls.quiet_of_same ((KC.out _).mono fun _ _ h => ⟨h.1, h.2.symm⟩)))
    go_wp2_with (go_at_call 121; refine (KN.out _).mono ?_; rintro e w2 ⟨rfl, hb1⟩; replace hok := (hok.drewN _).trans hb1; replace hR := (hR.drewN _).next hb1; clear hb1; have r0 := hR.c0; have r1 := hR.c1; have f0 := hR.f0; have f1 := hR.f1; have hRl := hR.lt)
    have hX := hR.set u v
    have hok3 := (hok.setCell (p := ⟨w.heap.size + 1, 0, none⟩) hrw (.int .i64 u)).setCell (p := ⟨w.heap.size + 1, 1, none⟩) hrw (.int .i64 v)
    generalize (w2.setCell ⟨w.heap.size + 1, 0, none⟩ (.int .i64 u)).setCell ⟨w.heap.size + 1, 1, none⟩ (.int .i64 v) = W4 at hX hok3 ⊢
    have x0 := hX.c0
    have x1 := hX.c1
    exact bodyPost_ret (v := stV (u, v)) (by simp [results, Tryz.results92, go_sem, x0, x1]) rfl ⟨rfl, hok3⟩
theorem eqStamp20 (a b c d : Int) (w : World) : (Op.equalIn 10000 28 (.agg #[.int .i64 a, .int .i64 b]) (.agg #[.int .i64 c, .int .i64 d])).run Tryz.prog w = .ok (a == c && b == d) w := by
  have u3 := Tryz.underlying3
  have ag := Tryz.isAgg3
  have z3 := Tryz.sizeOf3
  have hS : Tryz.prog.underlying 28 = some (.struct (Tryz.prog.fieldsOf 28)) := by kernel_rfl
  have hp : Tryz.prog.stoodInHeld 28 = false := by kernel_rfl
  rw [show (10000 : Nat) = 9999 + 1 from rfl, run_equalIn_struct w 9999 28 _ _ hS hp]
  simp only [Program.fieldsOf, Tryz.underlying28]
  go_simp
  by_cases h1 : a = c <;> by_cases h2 : b = d <;> simp [h1, h2]
theorem eqStamp20' (a b c d : Int) (w : World) : (Op.equalIn 9999 28 (.agg #[.int .i64 a, .int .i64 b]) (.agg #[.int .i64 c, .int .i64 d])).run Tryz.prog w = .ok (a == c && b == d) w := by
  have u3 := Tryz.underlying3
  have ag := Tryz.isAgg3
  have z3 := Tryz.sizeOf3
  have hS : Tryz.prog.underlying 28 = some (.struct (Tryz.prog.fieldsOf 28)) := by kernel_rfl
  have hp : Tryz.prog.stoodInHeld 28 = false := by kernel_rfl
  rw [show (9999 : Nat) = 9998 + 1 from rfl, run_equalIn_struct w 9998 28 _ _ hS hp]
  simp only [Program.fieldsOf, Tryz.underlying28]
  go_simp
  by_cases h1 : a = c <;> by_cases h2 : b = d <;> simp [h1, h2]
theorem eqClock20 (a b c d : Int) (w : World) : (Op.equalIn 10000 114 (.agg #[.int .i64 a, .int .i64 b]) (.agg #[.int .i64 c, .int .i64 d])).run Tryz.prog w = .ok (a == c && b == d) w := by
  have u3 := Tryz.underlying28
  have ag := Tryz.isAgg28
  have z3 := Tryz.sizeOf28
  have hE := eqStamp20' a b c d
  have hS : Tryz.prog.underlying 114 = some (.struct (Tryz.prog.fieldsOf 114)) := by kernel_rfl
  have hp : Tryz.prog.stoodInHeld 114 = false := by kernel_rfl
  rw [show (10000 : Nat) = 9999 + 1 from rfl, run_equalIn_struct w 9999 114 _ _ hS hp]
  simp only [Program.fieldsOf, Tryz.underlying114]
  go_simp
  by_cases h1 : a = c <;> by_cases h2 : b = d <;> simp [h1, h2]
/-- A clock's stamp. -/
theorem clockField (s : Int × Int) (w : World) : Sem.run Tryz.prog (Instr.field 114 (stV s) 0) w = .ok (stV s) w := by kernel_rfl
end Go.Proofs.YtmmiboblofopgaaGreat
