/- VoteHolds: for every fabric's numbers, all tables, all numbers and every slice of lies the law answers true: what more than F tell is adopted, if at most F tell something else. The row lists the library's tables that strconv and math/bits read, tied to the program's text. No other condition. -/
import Derived.Test.YtbbkohpaebeidaaDoorC19g
import Derived.Test.YtbbkohpaebeidaaDoorW06
namespace Go.Proofs.YtbbkohpaebeidaaDoor.voteHolds
open Go.ChangeShapes Go.WideShapes Go.ChangeAt Go.RowKit
set_option linter.unusedVariables false
set_option maxRecDepth 100000
attribute [local go_sem ↓] Go.wp_at_zero Go.wp_at_succ
set_option maxHeartbeats 1600000 in
theorem way0 (w : World) (hT : Pow w) (p : Par) (A : Option Addr) (own : List (Int × Int)) (ca : Nat) (hA : PairsAt w A own) (hlo : own.length ≤ 9223372036854775807) (A2 : Option Addr) (rt : List (Int × Int)) (cr : Nat) (hR : PairsAt w A2 rt) (hlr : rt.length ≤ 9223372036854775807) (n : Int) (B : Option Addr) (ts : List TA) (cb : Nat) (hB : TabsAt w B ts) (hlt : ts.length ≤ 9223372036854775807) (hf2 : ∀ x ∈ ts, x.l.length ≤ 9223372036854775807) (hcb : ts.length ≤ cb) (m : Int)  (h0 : Vote.great own ts = true) : Calls Tryd.prog 5 #[parV p, .slice A own.length ca, .slice A2 rt.length cr, .int .i64 n, .slice B ts.length cb, .int .i64 m] w fun e w' => e = .returned (.bool true) ∧ Ok w w' := by
  have hok := (Ok.refl w).alloc (.cells (parCells p) 29)
  have hP := Own.new w (parCells p) 29 rfl
  have HT := Lib.hid fun W' (q : Ok w W') => hT.next q
  have HA := Lib.hid fun W' (q : Ok w W') => hA.below q
  have HR := Lib.hid fun W' (q : Ok w W') => hR.below q
  have HB := Lib.hid fun W' (q : Ok w W') => hB.below q
  have KA := Lib.hid fun W' (q : Ok w W') => law19Alive W' (HT.out _ q)
  have KG := Lib.hid fun W' (q : Ok w W') => voteGreat A B own ts ca cb W' (HB.out _ q) hlo hlt hf2
  have KG2 := Lib.hid fun W' => voteGreat A2 none rt [] cr 0 W' (TabsAt.empty _ _) hlr (by simp) (by simp)
  have KV := Lib.hid fun W' (q : Ok w W') => ref18Good A2 rt cr W' (HR.out _ q) hlr
  simp only [List.length_nil] at KG2
  rw [h0] at KG
  clear hT hA hR hB hf2 hcb
  go_enter Tryd.func5, Tryd.ntmps5
  go_upto_region 1 with fail
  generalize w.alloc (.cells (parCells p) 29) = W at hP hok ⊢
  generalize w.heap.size = g at hP ⊢
  go_wp2_with (first
    | (go_at_call 8; refine (KA.out _ hok).mono ?_; rintro e w1 ⟨rfl, hb1⟩; replace hok := hok.trans hb1; replace hP := hP.next hb1; clear hb1; obtain ⟨c0, c1, c2, c3, c4, c5, c6, c7, c8, c9, c10, c11⟩ := hP.pars; have hPl := hP.lt)
    | (go_at_call 9; (with_reducible refine (KG.out _ hok).mono ?_); rintro e w2 ⟨rfl, rfl⟩)
    | (go_at_call 9; (with_reducible refine (KG2.out _).mono ?_); rintro e w2 ⟨rfl, rfl⟩)
    | (go_at_call 15; refine (KV.out _ hok).mono ?_; rintro e w2 ⟨rfl, hb1⟩; replace hok := hok.trans hb1; replace hP := hP.next hb1; clear hb1 c0 c1 c2 c3 c4 c5 c6 c7 c8 c9 c10 c11 hPl))
  go_ret
  exact ⟨rfl, hok⟩
set_option maxHeartbeats 1600000 in
theorem way1 (w : World) (hT : Pow w) (p : Par) (A : Option Addr) (own : List (Int × Int)) (ca : Nat) (hA : PairsAt w A own) (hlo : own.length ≤ 9223372036854775807) (A2 : Option Addr) (rt : List (Int × Int)) (cr : Nat) (hR : PairsAt w A2 rt) (hlr : rt.length ≤ 9223372036854775807) (n : Int) (B : Option Addr) (ts : List TA) (cb : Nat) (hB : TabsAt w B ts) (hlt : ts.length ≤ 9223372036854775807) (hf2 : ∀ x ∈ ts, x.l.length ≤ 9223372036854775807) (hcb : ts.length ≤ cb) (m : Int) (h0 : Vote.great own ts = false) (h1 : Vote.great rt [] = true) : Calls Tryd.prog 5 #[parV p, .slice A own.length ca, .slice A2 rt.length cr, .int .i64 n, .slice B ts.length cb, .int .i64 m] w fun e w' => e = .returned (.bool true) ∧ Ok w w' := by
  have hok := (Ok.refl w).alloc (.cells (parCells p) 29)
  have hP := Own.new w (parCells p) 29 rfl
  have HT := Lib.hid fun W' (q : Ok w W') => hT.next q
  have HA := Lib.hid fun W' (q : Ok w W') => hA.below q
  have HR := Lib.hid fun W' (q : Ok w W') => hR.below q
  have HB := Lib.hid fun W' (q : Ok w W') => hB.below q
  have KA := Lib.hid fun W' (q : Ok w W') => law19Alive W' (HT.out _ q)
  have KG := Lib.hid fun W' (q : Ok w W') => voteGreat A B own ts ca cb W' (HB.out _ q) hlo hlt hf2
  have KG2 := Lib.hid fun W' => voteGreat A2 none rt [] cr 0 W' (TabsAt.empty _ _) hlr (by simp) (by simp)
  have KV := Lib.hid fun W' (q : Ok w W') => ref18Good A2 rt cr W' (HR.out _ q) hlr
  simp only [List.length_nil] at KG2
  rw [h0] at KG
  rw [h1] at KG2
  clear hT hA hR hB hf2 hcb
  go_enter Tryd.func5, Tryd.ntmps5
  go_upto_region 1 with fail
  generalize w.alloc (.cells (parCells p) 29) = W at hP hok ⊢
  generalize w.heap.size = g at hP ⊢
  go_wp2_with (first
    | (go_at_call 8; refine (KA.out _ hok).mono ?_; rintro e w1 ⟨rfl, hb1⟩; replace hok := hok.trans hb1; replace hP := hP.next hb1; clear hb1; obtain ⟨c0, c1, c2, c3, c4, c5, c6, c7, c8, c9, c10, c11⟩ := hP.pars; have hPl := hP.lt)
    | (go_at_call 9; (with_reducible refine (KG.out _ hok).mono ?_); rintro e w2 ⟨rfl, rfl⟩)
    | (go_at_call 9; (with_reducible refine (KG2.out _).mono ?_); rintro e w2 ⟨rfl, rfl⟩)
    | (go_at_call 15; refine (KV.out _ hok).mono ?_; rintro e w2 ⟨rfl, hb1⟩; replace hok := hok.trans hb1; replace hP := hP.next hb1; clear hb1 c0 c1 c2 c3 c4 c5 c6 c7 c8 c9 c10 c11 hPl))
  go_ret
  exact ⟨rfl, hok⟩
set_option maxHeartbeats 1600000 in
theorem way2 (w : World) (hT : Pow w) (p : Par) (A : Option Addr) (own : List (Int × Int)) (ca : Nat) (hA : PairsAt w A own) (hlo : own.length ≤ 9223372036854775807) (A2 : Option Addr) (rt : List (Int × Int)) (cr : Nat) (hR : PairsAt w A2 rt) (hlr : rt.length ≤ 9223372036854775807) (n : Int) (B : Option Addr) (ts : List TA) (cb : Nat) (hB : TabsAt w B ts) (hlt : ts.length ≤ 9223372036854775807) (hf2 : ∀ x ∈ ts, x.l.length ≤ 9223372036854775807) (hcb : ts.length ≤ cb) (m : Int) (h0 : Vote.great own ts = false) (h1 : Vote.great rt [] = false) (h2 : p.f < 0) : Calls Tryd.prog 5 #[parV p, .slice A own.length ca, .slice A2 rt.length cr, .int .i64 n, .slice B ts.length cb, .int .i64 m] w fun e w' => e = .returned (.bool true) ∧ Ok w w' := by
  have hok := (Ok.refl w).alloc (.cells (parCells p) 29)
  have hP := Own.new w (parCells p) 29 rfl
  have HT := Lib.hid fun W' (q : Ok w W') => hT.next q
  have HA := Lib.hid fun W' (q : Ok w W') => hA.below q
  have HR := Lib.hid fun W' (q : Ok w W') => hR.below q
  have HB := Lib.hid fun W' (q : Ok w W') => hB.below q
  have KA := Lib.hid fun W' (q : Ok w W') => law19Alive W' (HT.out _ q)
  have KG := Lib.hid fun W' (q : Ok w W') => voteGreat A B own ts ca cb W' (HB.out _ q) hlo hlt hf2
  have KG2 := Lib.hid fun W' => voteGreat A2 none rt [] cr 0 W' (TabsAt.empty _ _) hlr (by simp) (by simp)
  have KV := Lib.hid fun W' (q : Ok w W') => ref18Good A2 rt cr W' (HR.out _ q) hlr
  simp only [List.length_nil] at KG2
  rw [h0] at KG
  rw [h1] at KG2
  clear hT hA hR hB hf2 hcb
  go_enter Tryd.func5, Tryd.ntmps5
  go_upto_region 1 with fail
  generalize w.alloc (.cells (parCells p) 29) = W at hP hok ⊢
  generalize w.heap.size = g at hP ⊢
  go_wp2_with (first
    | (go_at_call 8; refine (KA.out _ hok).mono ?_; rintro e w1 ⟨rfl, hb1⟩; replace hok := hok.trans hb1; replace hP := hP.next hb1; clear hb1; obtain ⟨c0, c1, c2, c3, c4, c5, c6, c7, c8, c9, c10, c11⟩ := hP.pars; have hPl := hP.lt)
    | (go_at_call 9; (with_reducible refine (KG.out _ hok).mono ?_); rintro e w2 ⟨rfl, rfl⟩)
    | (go_at_call 9; (with_reducible refine (KG2.out _).mono ?_); rintro e w2 ⟨rfl, rfl⟩)
    | (go_at_call 15; refine (KV.out _ hok).mono ?_; rintro e w2 ⟨rfl, hb1⟩; replace hok := hok.trans hb1; replace hP := hP.next hb1; clear hb1 c0 c1 c2 c3 c4 c5 c6 c7 c8 c9 c10 c11 hPl))
  go_ret
  exact ⟨rfl, hok⟩
set_option maxHeartbeats 1600000 in
theorem way3 (w : World) (hT : Pow w) (p : Par) (A : Option Addr) (own : List (Int × Int)) (ca : Nat) (hA : PairsAt w A own) (hlo : own.length ≤ 9223372036854775807) (A2 : Option Addr) (rt : List (Int × Int)) (cr : Nat) (hR : PairsAt w A2 rt) (hlr : rt.length ≤ 9223372036854775807) (n : Int) (B : Option Addr) (ts : List TA) (cb : Nat) (hB : TabsAt w B ts) (hlt : ts.length ≤ 9223372036854775807) (hf2 : ∀ x ∈ ts, x.l.length ≤ 9223372036854775807) (hcb : ts.length ≤ cb) (m : Int) (h0 : Vote.great own ts = false) (h1 : Vote.great rt [] = false) (h2 : 0 ≤ p.f) (h3 : n ≤ p.f) : Calls Tryd.prog 5 #[parV p, .slice A own.length ca, .slice A2 rt.length cr, .int .i64 n, .slice B ts.length cb, .int .i64 m] w fun e w' => e = .returned (.bool true) ∧ Ok w w' := by
  have hok := (Ok.refl w).alloc (.cells (parCells p) 29)
  have hP := Own.new w (parCells p) 29 rfl
  have HT := Lib.hid fun W' (q : Ok w W') => hT.next q
  have HA := Lib.hid fun W' (q : Ok w W') => hA.below q
  have HR := Lib.hid fun W' (q : Ok w W') => hR.below q
  have HB := Lib.hid fun W' (q : Ok w W') => hB.below q
  have KA := Lib.hid fun W' (q : Ok w W') => law19Alive W' (HT.out _ q)
  have KG := Lib.hid fun W' (q : Ok w W') => voteGreat A B own ts ca cb W' (HB.out _ q) hlo hlt hf2
  have KG2 := Lib.hid fun W' => voteGreat A2 none rt [] cr 0 W' (TabsAt.empty _ _) hlr (by simp) (by simp)
  have KV := Lib.hid fun W' (q : Ok w W') => ref18Good A2 rt cr W' (HR.out _ q) hlr
  simp only [List.length_nil] at KG2
  rw [h0] at KG
  rw [h1] at KG2
  clear hT hA hR hB hf2 hcb
  go_enter Tryd.func5, Tryd.ntmps5
  go_upto_region 1 with fail
  generalize w.alloc (.cells (parCells p) 29) = W at hP hok ⊢
  generalize w.heap.size = g at hP ⊢
  go_wp2_with (first
    | (go_at_call 8; refine (KA.out _ hok).mono ?_; rintro e w1 ⟨rfl, hb1⟩; replace hok := hok.trans hb1; replace hP := hP.next hb1; clear hb1; obtain ⟨c0, c1, c2, c3, c4, c5, c6, c7, c8, c9, c10, c11⟩ := hP.pars; have hPl := hP.lt)
    | (go_at_call 9; (with_reducible refine (KG.out _ hok).mono ?_); rintro e w2 ⟨rfl, rfl⟩)
    | (go_at_call 9; (with_reducible refine (KG2.out _).mono ?_); rintro e w2 ⟨rfl, rfl⟩)
    | (go_at_call 15; refine (KV.out _ hok).mono ?_; rintro e w2 ⟨rfl, hb1⟩; replace hok := hok.trans hb1; replace hP := hP.next hb1; clear hb1 c0 c1 c2 c3 c4 c5 c6 c7 c8 c9 c10 c11 hPl))
  go_ret
  exact ⟨rfl, hok⟩
set_option maxHeartbeats 1600000 in
theorem way4 (w : World) (hT : Pow w) (p : Par) (A : Option Addr) (own : List (Int × Int)) (ca : Nat) (hA : PairsAt w A own) (hlo : own.length ≤ 9223372036854775807) (A2 : Option Addr) (rt : List (Int × Int)) (cr : Nat) (hR : PairsAt w A2 rt) (hlr : rt.length ≤ 9223372036854775807) (n : Int) (B : Option Addr) (ts : List TA) (cb : Nat) (hB : TabsAt w B ts) (hlt : ts.length ≤ 9223372036854775807) (hf2 : ∀ x ∈ ts, x.l.length ≤ 9223372036854775807) (hcb : ts.length ≤ cb) (m : Int) (h0 : Vote.great own ts = false) (h1 : Vote.great rt [] = false) (h2 : 0 ≤ p.f) (h3 : p.f < n) (h4 : 20 < n) : Calls Tryd.prog 5 #[parV p, .slice A own.length ca, .slice A2 rt.length cr, .int .i64 n, .slice B ts.length cb, .int .i64 m] w fun e w' => e = .returned (.bool true) ∧ Ok w w' := by
  have hok := (Ok.refl w).alloc (.cells (parCells p) 29)
  have hP := Own.new w (parCells p) 29 rfl
  have HT := Lib.hid fun W' (q : Ok w W') => hT.next q
  have HA := Lib.hid fun W' (q : Ok w W') => hA.below q
  have HR := Lib.hid fun W' (q : Ok w W') => hR.below q
  have HB := Lib.hid fun W' (q : Ok w W') => hB.below q
  have KA := Lib.hid fun W' (q : Ok w W') => law19Alive W' (HT.out _ q)
  have KG := Lib.hid fun W' (q : Ok w W') => voteGreat A B own ts ca cb W' (HB.out _ q) hlo hlt hf2
  have KG2 := Lib.hid fun W' => voteGreat A2 none rt [] cr 0 W' (TabsAt.empty _ _) hlr (by simp) (by simp)
  have KV := Lib.hid fun W' (q : Ok w W') => ref18Good A2 rt cr W' (HR.out _ q) hlr
  simp only [List.length_nil] at KG2
  rw [h0] at KG
  rw [h1] at KG2
  clear hT hA hR hB hf2 hcb
  go_enter Tryd.func5, Tryd.ntmps5
  go_upto_region 1 with fail
  generalize w.alloc (.cells (parCells p) 29) = W at hP hok ⊢
  generalize w.heap.size = g at hP ⊢
  go_wp2_with (first
    | (go_at_call 8; refine (KA.out _ hok).mono ?_; rintro e w1 ⟨rfl, hb1⟩; replace hok := hok.trans hb1; replace hP := hP.next hb1; clear hb1; obtain ⟨c0, c1, c2, c3, c4, c5, c6, c7, c8, c9, c10, c11⟩ := hP.pars; have hPl := hP.lt)
    | (go_at_call 9; (with_reducible refine (KG.out _ hok).mono ?_); rintro e w2 ⟨rfl, rfl⟩)
    | (go_at_call 9; (with_reducible refine (KG2.out _).mono ?_); rintro e w2 ⟨rfl, rfl⟩)
    | (go_at_call 15; refine (KV.out _ hok).mono ?_; rintro e w2 ⟨rfl, hb1⟩; replace hok := hok.trans hb1; replace hP := hP.next hb1; clear hb1 c0 c1 c2 c3 c4 c5 c6 c7 c8 c9 c10 c11 hPl))
  go_ret
  exact ⟨rfl, hok⟩
set_option maxHeartbeats 1600000 in
theorem way5 (w : World) (hT : Pow w) (p : Par) (A : Option Addr) (own : List (Int × Int)) (ca : Nat) (hA : PairsAt w A own) (hlo : own.length ≤ 9223372036854775807) (A2 : Option Addr) (rt : List (Int × Int)) (cr : Nat) (hR : PairsAt w A2 rt) (hlr : rt.length ≤ 9223372036854775807) (n : Int) (B : Option Addr) (ts : List TA) (cb : Nat) (hB : TabsAt w B ts) (hlt : ts.length ≤ 9223372036854775807) (hf2 : ∀ x ∈ ts, x.l.length ≤ 9223372036854775807) (hcb : ts.length ≤ cb) (m : Int) (h0 : Vote.great own ts = false) (h1 : Vote.great rt [] = false) (h2 : 0 ≤ p.f) (h3 : p.f < n) (h4 : n ≤ 20) (h5 : p.f < (ts.length : Int)) : Calls Tryd.prog 5 #[parV p, .slice A own.length ca, .slice A2 rt.length cr, .int .i64 n, .slice B ts.length cb, .int .i64 m] w fun e w' => e = .returned (.bool true) ∧ Ok w w' := by
  have hok := (Ok.refl w).alloc (.cells (parCells p) 29)
  have hP := Own.new w (parCells p) 29 rfl
  have HT := Lib.hid fun W' (q : Ok w W') => hT.next q
  have HA := Lib.hid fun W' (q : Ok w W') => hA.below q
  have HR := Lib.hid fun W' (q : Ok w W') => hR.below q
  have HB := Lib.hid fun W' (q : Ok w W') => hB.below q
  have KA := Lib.hid fun W' (q : Ok w W') => law19Alive W' (HT.out _ q)
  have KG := Lib.hid fun W' (q : Ok w W') => voteGreat A B own ts ca cb W' (HB.out _ q) hlo hlt hf2
  have KG2 := Lib.hid fun W' => voteGreat A2 none rt [] cr 0 W' (TabsAt.empty _ _) hlr (by simp) (by simp)
  have KV := Lib.hid fun W' (q : Ok w W') => ref18Good A2 rt cr W' (HR.out _ q) hlr
  simp only [List.length_nil] at KG2
  rw [h0] at KG
  rw [h1] at KG2
  clear hT hA hR hB hf2 hcb
  go_enter Tryd.func5, Tryd.ntmps5
  go_upto_region 1 with fail
  generalize w.alloc (.cells (parCells p) 29) = W at hP hok ⊢
  generalize w.heap.size = g at hP ⊢
  go_wp2_with (first
    | (go_at_call 8; refine (KA.out _ hok).mono ?_; rintro e w1 ⟨rfl, hb1⟩; replace hok := hok.trans hb1; replace hP := hP.next hb1; clear hb1; obtain ⟨c0, c1, c2, c3, c4, c5, c6, c7, c8, c9, c10, c11⟩ := hP.pars; have hPl := hP.lt)
    | (go_at_call 9; (with_reducible refine (KG.out _ hok).mono ?_); rintro e w2 ⟨rfl, rfl⟩)
    | (go_at_call 9; (with_reducible refine (KG2.out _).mono ?_); rintro e w2 ⟨rfl, rfl⟩)
    | (go_at_call 15; refine (KV.out _ hok).mono ?_; rintro e w2 ⟨rfl, hb1⟩; replace hok := hok.trans hb1; replace hP := hP.next hb1; clear hb1 c0 c1 c2 c3 c4 c5 c6 c7 c8 c9 c10 c11 hPl))
  go_ret
  exact ⟨rfl, hok⟩
set_option maxHeartbeats 1600000 in
theorem way7 (w : World) (hT : Pow w) (p : Par) (A : Option Addr) (own : List (Int × Int)) (ca : Nat) (hA : PairsAt w A own) (hlo : own.length ≤ 9223372036854775807) (A2 : Option Addr) (rt : List (Int × Int)) (cr : Nat) (hR : PairsAt w A2 rt) (hlr : rt.length ≤ 9223372036854775807) (n : Int) (B : Option Addr) (ts : List TA) (cb : Nat) (hB : TabsAt w B ts) (hlt : ts.length ≤ 9223372036854775807) (hf2 : ∀ x ∈ ts, x.l.length ≤ 9223372036854775807) (hcb : ts.length ≤ cb) (m : Int) (h0 : Vote.great own ts = false) (h1 : Vote.great rt [] = false) (h2 : 0 ≤ p.f) (h3 : p.f < n) (h4 : n ≤ 20) (h5 : (ts.length : Int) ≤ p.f) (h6 : ts.length ≤ 20) (h7 : m < 0) : Calls Tryd.prog 5 #[parV p, .slice A own.length ca, .slice A2 rt.length cr, .int .i64 n, .slice B ts.length cb, .int .i64 m] w fun e w' => e = .returned (.bool true) ∧ Ok w w' := by
  have hok := (Ok.refl w).alloc (.cells (parCells p) 29)
  have hP := Own.new w (parCells p) 29 rfl
  have HT := Lib.hid fun W' (q : Ok w W') => hT.next q
  have HA := Lib.hid fun W' (q : Ok w W') => hA.below q
  have HR := Lib.hid fun W' (q : Ok w W') => hR.below q
  have HB := Lib.hid fun W' (q : Ok w W') => hB.below q
  have KA := Lib.hid fun W' (q : Ok w W') => law19Alive W' (HT.out _ q)
  have KG := Lib.hid fun W' (q : Ok w W') => voteGreat A B own ts ca cb W' (HB.out _ q) hlo hlt hf2
  have KG2 := Lib.hid fun W' => voteGreat A2 none rt [] cr 0 W' (TabsAt.empty _ _) hlr (by simp) (by simp)
  have KV := Lib.hid fun W' (q : Ok w W') => ref18Good A2 rt cr W' (HR.out _ q) hlr
  simp only [List.length_nil] at KG2
  rw [h0] at KG
  rw [h1] at KG2
  clear hT hA hR hB hf2 hcb
  go_enter Tryd.func5, Tryd.ntmps5
  go_upto_region 1 with fail
  generalize w.alloc (.cells (parCells p) 29) = W at hP hok ⊢
  generalize w.heap.size = g at hP ⊢
  go_wp2_with (first
    | (go_at_call 8; refine (KA.out _ hok).mono ?_; rintro e w1 ⟨rfl, hb1⟩; replace hok := hok.trans hb1; replace hP := hP.next hb1; clear hb1; obtain ⟨c0, c1, c2, c3, c4, c5, c6, c7, c8, c9, c10, c11⟩ := hP.pars; have hPl := hP.lt)
    | (go_at_call 9; (with_reducible refine (KG.out _ hok).mono ?_); rintro e w2 ⟨rfl, rfl⟩)
    | (go_at_call 9; (with_reducible refine (KG2.out _).mono ?_); rintro e w2 ⟨rfl, rfl⟩)
    | (go_at_call 15; refine (KV.out _ hok).mono ?_; rintro e w2 ⟨rfl, hb1⟩; replace hok := hok.trans hb1; replace hP := hP.next hb1; clear hb1 c0 c1 c2 c3 c4 c5 c6 c7 c8 c9 c10 c11 hPl))
  go_ret
  exact ⟨rfl, hok⟩
set_option maxHeartbeats 1600000 in
theorem way8 (w : World) (hT : Pow w) (p : Par) (A : Option Addr) (own : List (Int × Int)) (ca : Nat) (hA : PairsAt w A own) (hlo : own.length ≤ 9223372036854775807) (A2 : Option Addr) (rt : List (Int × Int)) (cr : Nat) (hR : PairsAt w A2 rt) (hlr : rt.length ≤ 9223372036854775807) (n : Int) (B : Option Addr) (ts : List TA) (cb : Nat) (hB : TabsAt w B ts) (hlt : ts.length ≤ 9223372036854775807) (hf2 : ∀ x ∈ ts, x.l.length ≤ 9223372036854775807) (hcb : ts.length ≤ cb) (m : Int) (h0 : Vote.great own ts = false) (h1 : Vote.great rt [] = false) (h2 : 0 ≤ p.f) (h3 : p.f < n) (h4 : n ≤ 20) (h5 : (ts.length : Int) ≤ p.f) (h6 : ts.length ≤ 20) (h7 : 0 ≤ m) (h8 : (ts.length : Int) < m) : Calls Tryd.prog 5 #[parV p, .slice A own.length ca, .slice A2 rt.length cr, .int .i64 n, .slice B ts.length cb, .int .i64 m] w fun e w' => e = .returned (.bool true) ∧ Ok w w' := by
  have hok := (Ok.refl w).alloc (.cells (parCells p) 29)
  have hP := Own.new w (parCells p) 29 rfl
  have HT := Lib.hid fun W' (q : Ok w W') => hT.next q
  have HA := Lib.hid fun W' (q : Ok w W') => hA.below q
  have HR := Lib.hid fun W' (q : Ok w W') => hR.below q
  have HB := Lib.hid fun W' (q : Ok w W') => hB.below q
  have KA := Lib.hid fun W' (q : Ok w W') => law19Alive W' (HT.out _ q)
  have KG := Lib.hid fun W' (q : Ok w W') => voteGreat A B own ts ca cb W' (HB.out _ q) hlo hlt hf2
  have KG2 := Lib.hid fun W' => voteGreat A2 none rt [] cr 0 W' (TabsAt.empty _ _) hlr (by simp) (by simp)
  have KV := Lib.hid fun W' (q : Ok w W') => ref18Good A2 rt cr W' (HR.out _ q) hlr
  simp only [List.length_nil] at KG2
  rw [h0] at KG
  rw [h1] at KG2
  clear hT hA hR hB hf2 hcb
  go_enter Tryd.func5, Tryd.ntmps5
  go_upto_region 1 with fail
  generalize w.alloc (.cells (parCells p) 29) = W at hP hok ⊢
  generalize w.heap.size = g at hP ⊢
  go_wp2_with (first
    | (go_at_call 8; refine (KA.out _ hok).mono ?_; rintro e w1 ⟨rfl, hb1⟩; replace hok := hok.trans hb1; replace hP := hP.next hb1; clear hb1; obtain ⟨c0, c1, c2, c3, c4, c5, c6, c7, c8, c9, c10, c11⟩ := hP.pars; have hPl := hP.lt)
    | (go_at_call 9; (with_reducible refine (KG.out _ hok).mono ?_); rintro e w2 ⟨rfl, rfl⟩)
    | (go_at_call 9; (with_reducible refine (KG2.out _).mono ?_); rintro e w2 ⟨rfl, rfl⟩)
    | (go_at_call 15; refine (KV.out _ hok).mono ?_; rintro e w2 ⟨rfl, hb1⟩; replace hok := hok.trans hb1; replace hP := hP.next hb1; clear hb1 c0 c1 c2 c3 c4 c5 c6 c7 c8 c9 c10 c11 hPl))
  go_ret
  exact ⟨rfl, hok⟩
set_option maxHeartbeats 1600000 in
theorem way9 (w : World) (hT : Pow w) (p : Par) (A : Option Addr) (own : List (Int × Int)) (ca : Nat) (hA : PairsAt w A own) (hlo : own.length ≤ 9223372036854775807) (A2 : Option Addr) (rt : List (Int × Int)) (cr : Nat) (hR : PairsAt w A2 rt) (hlr : rt.length ≤ 9223372036854775807) (n : Int) (B : Option Addr) (ts : List TA) (cb : Nat) (hB : TabsAt w B ts) (hlt : ts.length ≤ 9223372036854775807) (hf2 : ∀ x ∈ ts, x.l.length ≤ 9223372036854775807) (hcb : ts.length ≤ cb) (m : Int) (h0 : Vote.great own ts = false) (h1 : Vote.great rt [] = false) (h2 : 0 ≤ p.f) (h3 : p.f < n) (h4 : n ≤ 20) (h5 : (ts.length : Int) ≤ p.f) (h6 : ts.length ≤ 20) (h7 : 0 ≤ m) (h8 : m ≤ (ts.length : Int)) (h9 : Leap.good rt = false) : Calls Tryd.prog 5 #[parV p, .slice A own.length ca, .slice A2 rt.length cr, .int .i64 n, .slice B ts.length cb, .int .i64 m] w fun e w' => e = .returned (.bool true) ∧ Ok w w' := by
  have hok := (Ok.refl w).alloc (.cells (parCells p) 29)
  have hP := Own.new w (parCells p) 29 rfl
  have HT := Lib.hid fun W' (q : Ok w W') => hT.next q
  have HA := Lib.hid fun W' (q : Ok w W') => hA.below q
  have HR := Lib.hid fun W' (q : Ok w W') => hR.below q
  have HB := Lib.hid fun W' (q : Ok w W') => hB.below q
  have KA := Lib.hid fun W' (q : Ok w W') => law19Alive W' (HT.out _ q)
  have KG := Lib.hid fun W' (q : Ok w W') => voteGreat A B own ts ca cb W' (HB.out _ q) hlo hlt hf2
  have KG2 := Lib.hid fun W' => voteGreat A2 none rt [] cr 0 W' (TabsAt.empty _ _) hlr (by simp) (by simp)
  have KV := Lib.hid fun W' (q : Ok w W') => ref18Good A2 rt cr W' (HR.out _ q) hlr
  simp only [List.length_nil] at KG2
  rw [h0] at KG
  rw [h1] at KG2
  rw [h9] at KV
  clear hT hA hR hB hf2 hcb
  go_enter Tryd.func5, Tryd.ntmps5
  go_upto_region 1 with fail
  generalize w.alloc (.cells (parCells p) 29) = W at hP hok ⊢
  generalize w.heap.size = g at hP ⊢
  go_wp2_with (first
    | (go_at_call 8; refine (KA.out _ hok).mono ?_; rintro e w1 ⟨rfl, hb1⟩; replace hok := hok.trans hb1; replace hP := hP.next hb1; clear hb1; obtain ⟨c0, c1, c2, c3, c4, c5, c6, c7, c8, c9, c10, c11⟩ := hP.pars; have hPl := hP.lt)
    | (go_at_call 9; (with_reducible refine (KG.out _ hok).mono ?_); rintro e w2 ⟨rfl, rfl⟩)
    | (go_at_call 9; (with_reducible refine (KG2.out _).mono ?_); rintro e w2 ⟨rfl, rfl⟩)
    | (go_at_call 15; refine (KV.out _ hok).mono ?_; rintro e w2 ⟨rfl, hb1⟩; replace hok := hok.trans hb1; replace hP := hP.next hb1; clear hb1 c0 c1 c2 c3 c4 c5 c6 c7 c8 c9 c10 c11 hPl))
  go_ret
  exact ⟨rfl, hok⟩
/-- The lies ahead of a place, and from it on. -/
theorem sliceTo (w : World) (B : Option Addr) (ts : List TA) (cb : Nat) (hB : TabsAt w B ts) (hcb : ts.length ≤ cb) (k : Nat) (hk : k ≤ ts.length) : ∃ B1 c1, (∀ W, (Instr.slice 25 (.slice B ts.length cb) none (some (.int .i64 (k : Int))) none).run Tryd.prog W = .ok (.slice B1 k c1) W) ∧ ∀ W, Ok w W → CellsAt W B1 ((ts.take k).map taV) := by
  have ht : Tryd.prog.underlying 25 = some (.slice (Tryd.prog.elem 25)) := by kernel_rfl
  have hs : ∀ W, (sizeOf (Tryd.prog.elem 25)).run Tryd.prog W = .ok 1 W := fun W => by kernel_rfl
  refine ⟨if cb = 0 then B else B.map (·.add 0), cb, fun W => ?_, fun W q j u hj => ?_⟩
  · rw [run_slice_h W 25 B ts.length cb ht .i64 k (by omega) (by omega), hs]
    simp [Result.andThen, sliced]
  · have hjk : j < k := by have := (List.getElem?_eq_some_iff.1 hj).1; simp at this; omega
    obtain ⟨b, off, e, hb, hc⟩ := (hB.below q).cells j (by omega)
    subst e
    have hu : taV ts[j] = u := by
      rw [List.getElem?_map, List.getElem?_take_of_lt hjk, List.getElem?_eq_getElem (by omega)] at hj
      exact Option.some.inj hj
    refine ⟨b, off, ?_, hb, by rw [← hu]; exact hc⟩
    split
    · rfl
    · simp [Addr.add]
theorem sliceFrom (w : World) (B : Option Addr) (ts : List TA) (cb : Nat) (hB : TabsAt w B ts) (hcb : ts.length ≤ cb) (k : Nat) (hk : k ≤ ts.length) : ∃ B2 c2, (∀ W, (Instr.slice 25 (.slice B ts.length cb) (some (.int .i64 (k : Int))) none none).run Tryd.prog W = .ok (.slice B2 (ts.length - k) c2) W) ∧ ∀ W, Ok w W → CellsAt W B2 ((ts.drop k).map taV) := by
  have ht : Tryd.prog.underlying 25 = some (.slice (Tryd.prog.elem 25)) := by kernel_rfl
  have hs : ∀ W, (sizeOf (Tryd.prog.elem 25)).run Tryd.prog W = .ok 1 W := fun W => by kernel_rfl
  refine ⟨if cb = k then B else B.map (·.add (k * 1)), cb - k, fun W => ?_, fun W q j u hj => ?_⟩
  · rw [run_slice_l W 25 B ts.length cb ht .i64 k (by omega) (by omega), hs]
    simp [Result.andThen, sliced]
  · have hjk : k + j < ts.length := by have := (List.getElem?_eq_some_iff.1 hj).1; simp at this; omega
    obtain ⟨b, off, e, hb, hc⟩ := (hB.below q).cells (k + j) hjk
    subst e
    have hu : taV ts[k + j] = u := by
      rw [List.getElem?_map, List.getElem?_drop, List.getElem?_eq_getElem hjk] at hj
      exact Option.some.inj hj
    refine ⟨b, off + k, ?_, hb, by rw [← hu, Nat.add_assoc]; exact hc⟩
    rw [if_neg (by omega)]
    simp [Addr.add]
/-- The lies ahead of a place, what is right N times, the lies from the place on. -/
def mix (ts : List TA) (k N : Nat) (u : TA) : List TA := ts.take k ++ List.replicate N u ++ ts.drop k
theorem mix_length {ts : List TA} {k N : Nat} {u : TA} (hk : k ≤ ts.length) : (mix ts k N u).length = ts.length + N := by
  simp only [mix, List.length_append, List.length_take, List.length_drop, List.length_replicate]; omega
theorem mix_map (ts : List TA) (k N : Nat) (u : TA) : (mix ts k N u).map taV = (ts.take k ++ List.replicate N u).map taV ++ (ts.drop k).map taV := by
  unfold mix; rw [List.map_append]
theorem tells_all (t : List (Int × Int)) (u : TA) (hu : u.l = t) (k : Nat) (ts us : List TA) : k ≤ Vote.tells t (lists (ts ++ List.replicate k u ++ us)) := by
  unfold Vote.tells lists
  rw [List.map_append, List.map_append, List.countP_append, List.countP_append, List.map_replicate, List.countP_replicate, if_pos (by simp [hu])]
  omega
set_option maxHeartbeats 3200000 in
theorem main (w : World) (hT : Pow w) (p : Par) (A : Option Addr) (own : List (Int × Int)) (ca : Nat) (hA : PairsAt w A own) (hlo : own.length ≤ 9223372036854775807) (A2 : Option Addr) (rt : List (Int × Int)) (cr : Nat) (hR : PairsAt w A2 rt) (hlr : rt.length ≤ 9223372036854775807) (n : Int) (B : Option Addr) (ts : List TA) (cb : Nat) (hB : TabsAt w B ts) (hlt : ts.length ≤ 9223372036854775807) (hf2 : ∀ x ∈ ts, x.l.length ≤ 9223372036854775807) (hcb : ts.length ≤ cb) (m : Int) (h0 : Vote.great own ts = false) (h1 : Vote.great rt [] = false) (h2 : 0 ≤ p.f) (h3 : p.f < n) (h4 : n ≤ 20) (h5 : (ts.length : Int) ≤ p.f) (h6 : ts.length ≤ 20) (h7 : 0 ≤ m) (h8 : m ≤ (ts.length : Int)) (h9 : Leap.good rt = true) : Calls Tryd.prog 5 #[parV p, .slice A own.length ca, .slice A2 rt.length cr, .int .i64 n, .slice B ts.length cb, .int .i64 m] w fun e w' => e = .returned (.bool true) ∧ Ok w w' := by
  have hok := (Ok.refl w).alloc (.cells (parCells p) 29)
  have hP := Own.new w (parCells p) 29 rfl
  have HT := Lib.hid fun W' (q : Ok w W') => hT.next q
  have HA := Lib.hid fun W' (q : Ok w W') => hA.below q
  have HR := Lib.hid fun W' (q : Ok w W') => hR.below q
  have HB := Lib.hid fun W' (q : Ok w W') => hB.below q
  have KA := Lib.hid fun W' (q : Ok w W') => law19Alive W' (HT.out _ q)
  have KG := Lib.hid fun W' (q : Ok w W') => voteGreat A B own ts ca cb W' (HB.out _ q) hlo hlt hf2
  have KG2 := Lib.hid fun W' => voteGreat A2 none rt [] cr 0 W' (TabsAt.empty _ _) hlr (by simp) (by simp)
  have KV := Lib.hid fun W' (q : Ok w W') => ref18Good A2 rt cr W' (HR.out _ q) hlr
  simp only [List.length_nil] at KG2
  rw [h0] at KG
  rw [h1] at KG2
  rw [h9] at KV
  obtain ⟨g1, -, -⟩ := Vote.great_not h0
  obtain ⟨g2, -, -⟩ := Vote.great_not h1
  obtain ⟨k, rfl⟩ : ∃ k : Nat, m = k := ⟨m.toNat, by omega⟩
  obtain ⟨N, rfl⟩ : ∃ N : Nat, n = N := ⟨n.toNat, by omega⟩
  have hk : k ≤ ts.length := by omega
  obtain ⟨B1, c1', hs1, HS1⟩ := sliceTo w B ts cb hB hcb k hk
  obtain ⟨B2, c2', hs2, HS2⟩ := sliceFrom w B ts cb hB hcb k hk
  replace HS1 := Lib.hid HS1
  replace HS2 := Lib.hid HS2
  have L1 : ((ts.take k).map taV).length = k * 1 := by rw [List.length_map, List.length_take]; omega
  have L2 : ((ts.drop k).map taV).length = (ts.length - k) * 1 := by rw [List.length_map, List.length_drop]; omega
  have O1 : ∀ (l : List TA), ∀ u ∈ l.map taV, u.oneCell' = true := fun l u hu => by
    obtain ⟨x, _, rfl⟩ := List.mem_map.1 hu; rfl
  have HL1 := Lib.hid L1
  have HL2 := Lib.hid L2
  have HO1 := Lib.hid O1
  have HP2 := Lib.hid fun x (hx : x ∈ mix ts k N ⟨rt, A2, cr⟩) W (q : Ok w W) => (by
    rcases List.mem_append.1 hx with h | h
    · rcases List.mem_append.1 h with h | h
      · exact (HB.out _ q).tabs x (List.mem_of_mem_take h)
      · obtain rfl := List.eq_of_mem_replicate h
        exact HR.out _ q
    · exact (HB.out _ q).tabs x (List.mem_of_mem_drop h) : PairsAt W x.A x.l)
  have HF2 := Lib.hid fun x (hx : x ∈ mix ts k N ⟨rt, A2, cr⟩) => (by
    rcases List.mem_append.1 hx with h | h
    · rcases List.mem_append.1 h with h | h
      · exact hf2 x (List.mem_of_mem_take h)
      · obtain rfl := List.eq_of_mem_replicate h
        exact hlr
    · exact hf2 x (List.mem_of_mem_drop h) : x.l.length ≤ 9223372036854775807)
  have HTL := tells_all rt ⟨rt, A2, cr⟩ rfl N (ts.take k) (ts.drop k)
  rw [show ts.take k ++ List.replicate N (⟨rt, A2, cr⟩ : TA) ++ ts.drop k = mix ts k N ⟨rt, A2, cr⟩ from rfl] at HTL
  have HLn := mix_length (u := (⟨rt, A2, cr⟩ : TA)) (N := N) hk
  obtain ⟨v1, v2⟩ := Vote.holds (F := p.f) (own := own) (T := lists (mix ts k N ⟨rt, A2, cr⟩)) h9 (by omega) (by rw [lists_length, HLn]; omega)
  have K1 := Lib.hid fun A' c' W' h (q : Ok w W') => voteAdopts2 p A A' own (mix ts k N ⟨rt, A2, cr⟩) ca c' W' (HT.out _ q) (HA.out _ q) h (by omega) (by omega) HF2.out
  rw [v1, v2] at K1
  have KE := Lib.hid fun A' c' W' h (q : Ok w W') => ref6Tables A' A2 rt rt c' cr W' h (HR.out _ q) hlr hlr
  rw [decide_eq_true rfl] at KE
  have HLn2 := Lib.hid HLn
  have hts := h6
  have H5 := Lib.hid h5
  clear hT hA hR hB hf2 HTL HLn v1 v2 L1 L2 O1 g1 g2 h9
  go_enter Tryd.func5, Tryd.ntmps5
  go_upto_region 1 with fail
  generalize w.alloc (.cells (parCells p) 29) = W at hP hok ⊢
  generalize w.heap.size = g at hP ⊢
  go_upto_region 5 with (first
    | (go_at_call 8; refine (KA.out _ hok).mono ?_; rintro e w1 ⟨rfl, hb1⟩; replace hok := hok.trans hb1; replace hP := hP.next hb1; clear hb1; obtain ⟨c0, c1, c2, c3, c4, c5, c6, c7, c8, c9, c10, c11⟩ := hP.pars; have hPl := hP.lt)
    | (go_at_call 9; (with_reducible refine (KG.out _ hok).mono ?_); rintro e w2 ⟨rfl, rfl⟩)
    | (go_at_call 9; (with_reducible refine (KG2.out _).mono ?_); rintro e w2 ⟨rfl, rfl⟩)
    | (go_at_call 15; refine (KV.out _ hok).mono ?_; rintro e w2 ⟨rfl, hb1⟩; replace hok := hok.trans hb1; replace hP := hP.next hb1; clear hb1 c0 c1 c2 c3 c4 c5 c6 c7 c8 c9 c10 c11 hPl))
  clear KG KG2 KV KA
  have hrow0 := row_zero w2 22 22 1 rfl
  have hok2 := Ok.refl w2
  go_wp2_with (at_builtin; refine wpList_append_cells rfl (.tmp 68) (.tmp 71) 25 rfl w2.heap.size 22 Tryd.underlying25 (.slice none 0 0) 1 24 (by decide) (by decide) rfl infoTab _ 0 [] rfl hrow0 B1 k c1' ((ts.take k).map taV) HL1.out rfl (HS1.out _ (hok.alloc _)) (HO1.out _) (by omega) (by simp) ?_; intro v3 w3 hr3 hg3; simp only [Nat.zero_add, List.nil_append] at hr3; replace hok2 := ok_grow19 (hok2.alloc _) hg3 (row_from hrow0); clear hg3 hrow0)
  go_loopw [13, 14] (fun v i wr => ∃ j : Nat, j ≤ N ∧ i = .int .i64 j ∧ wr.ownsRow w2.heap.size 22 1 v (k + j) ((ts.take k ++ List.replicate j (⟨rt, A2, cr⟩ : TA)).map taV) ∧ Ok w2 wr) (fun _ i _ => N - (intOf i).toNat)
  case atStart => exact ⟨0, Nat.zero_le _, rfl, by simpa using hr3, hok2⟩
  case round =>
    clear hr3 hok2
    obtain ⟨j, hj, rfl, hr3, hok2⟩ := hrel
    by_cases hjl : j < N
    · have HRp := Lib.hid (List.replicate_succ' (n := j) (a := (⟨rt, A2, cr⟩ : TA)))
      go_wp2_with (at_builtin; refine wpList_append_value rfl (.tmp 78) (.tmp 80) 25 rfl w2.heap.size 22 Tryd.underlying25 _ 24 (by decide) rfl infoTab _ _ _ rfl (hr3.alloc _) wr.heap.size (.slice A2 rt.length cr) rfl rfl (by simp) (by omega) (hok2.alloc _).size ?_; intro v4 w4 hr4 hg4; replace hok2 := ok_grow19 (hok2.alloc _) hg4 (row_from hr3); clear hg4 hr3)
      go_roundw
      case rel => exact ⟨j + 1, by omega, by go_num, by rw [HRp.out, ← List.append_assoc, List.map_append, ← Nat.add_assoc]; exact hr4, hok2⟩
      case measure => simp [intOf]; omega
    · obtain rfl : N = j := by omega
      go_upto_region 11 with (at_builtin; refine wpList_append_cells rfl (.tmp 82) (.tmp 85) 25 rfl w2.heap.size 22 Tryd.underlying25 (.slice none 0 0) 1 24 (by decide) (by decide) rfl infoTab _ _ _ rfl hr3 B2 (ts.length - k) c2' ((ts.drop k).map taV) HL2.out rfl (HS2.out _ (hok.trans hok2)) (HO1.out _) (by omega) hok2.size ?_; intro v6 w6 hr6 hg6; replace hok2 := ok_grow19 hok2 hg6 (row_from hr3); clear hg6 hr3)
      have hr7 : w6.ownsRow w2.heap.size 22 1 v6 (mix ts k N ⟨rt, A2, cr⟩).length ((mix ts k N ⟨rt, A2, cr⟩).map taV) := by
        rw [HLn2.out, mix_map, show ts.length + N = k + N + (ts.length - k) by omega]; exact hr6
      obtain ⟨A6, c6, rfl, hTab⟩ := tabs_of_row hr7 fun x hx => HP2.out x hx _ (hok.trans hok2)
      clear hr6 hr7
      replace hok := hok.trans hok2
      replace hP := hP.next hok2
      clear hok2
      obtain ⟨c0, c1, c2, c3, c4, c5, c6', c7, c8, c9, c10, c11⟩ := hP.pars
      have hPl := hP.lt
      go_wp2_with (first
        | (go_at_call 13; refine (K1.out _ _ _ hTab hok).mono ?_; rintro e w7 ⟨A7, c7', rfl, -, hX, hb1⟩; replace hok := hok.trans hb1; clear hb1 hTab c0 c1 c2 c3 c4 c5 c6' c7 c8 c9 c10 c11 hPl hP)
        | (go_at_call 12; refine (KE.out _ _ _ hX hok).mono ?_; rintro e w8 ⟨rfl, hb1⟩; replace hok := hok.trans hb1; clear hb1))
      go_ret
      exact ⟨rfl, hok⟩

theorem walk (w : World) (hT : Pow w) (p : Par) (wp : ParWf p) (A : Option Addr) (own : List (Int × Int)) (ca : Nat) (hA : PairsAt w A own) (hlo : own.length ≤ 9223372036854775807) (hwo : ∀ s ∈ own, (Lit.int .i64 s.1).wf = true ∧ (Lit.int .i64 s.2).wf = true) (A2 : Option Addr) (rt : List (Int × Int)) (cr : Nat) (hR : PairsAt w A2 rt) (hlr : rt.length ≤ 9223372036854775807) (hwr : ∀ s ∈ rt, (Lit.int .i64 s.1).wf = true ∧ (Lit.int .i64 s.2).wf = true) (n : Int) (wn : (Lit.int .i64 n).wf = true) (B : Option Addr) (ts : List TA) (cb : Nat) (hB : TabsAt w B ts) (hlt : ts.length ≤ 9223372036854775807) (hf : ∀ x ∈ ts, TFit x) (hcb : ts.length ≤ cb) (m : Int) (wm : (Lit.int .i64 m).wf = true) :
    Calls Tryd.prog 5 #[parV p, .slice A own.length ca, .slice A2 rt.length cr, .int .i64 n, .slice B ts.length cb, .int .i64 m] w fun e w' => e = .returned (.bool true) ∧ Below w.heap.size w w' := by
  show Calls Tryd.prog 5 #[parV p, .slice A own.length ca, .slice A2 rt.length cr, .int .i64 n, .slice B ts.length cb, .int .i64 m] w fun e w' => e = .returned (.bool true) ∧ Ok w w'
  have hf2 : ∀ x ∈ ts, x.l.length ≤ 9223372036854775807 := fun x hx => (hf x hx).1
  cases h0 : Vote.great own ts
  case true => exact way0 w hT p A own ca hA hlo A2 rt cr hR hlr n B ts cb hB hlt hf2 hcb m  h0
  cases h1 : Vote.great rt []
  case true => exact way1 w hT p A own ca hA hlo A2 rt cr hR hlr n B ts cb hB hlt hf2 hcb m h0 h1
  by_cases g2 : p.f < 0
  · exact way2 w hT p A own ca hA hlo A2 rt cr hR hlr n B ts cb hB hlt hf2 hcb m h0 h1 g2
  have h2 : 0 ≤ p.f := by omega
  by_cases g3 : n ≤ p.f
  · exact way3 w hT p A own ca hA hlo A2 rt cr hR hlr n B ts cb hB hlt hf2 hcb m h0 h1 h2 g3
  have h3 : p.f < n := by omega
  by_cases g4 : 20 < n
  · exact way4 w hT p A own ca hA hlo A2 rt cr hR hlr n B ts cb hB hlt hf2 hcb m h0 h1 h2 h3 g4
  have h4 : n ≤ 20 := by omega
  by_cases g5 : p.f < (ts.length : Int)
  · exact way5 w hT p A own ca hA hlo A2 rt cr hR hlr n B ts cb hB hlt hf2 hcb m h0 h1 h2 h3 h4 g5
  have h5 : (ts.length : Int) ≤ p.f := by omega
  have h6 : ts.length ≤ 20 := by omega
  by_cases g7 : m < 0
  · exact way7 w hT p A own ca hA hlo A2 rt cr hR hlr n B ts cb hB hlt hf2 hcb m h0 h1 h2 h3 h4 h5 h6 g7
  have h7 : 0 ≤ m := by omega
  by_cases g8 : (ts.length : Int) < m
  · exact way8 w hT p A own ca hA hlo A2 rt cr hR hlr n B ts cb hB hlt hf2 hcb m h0 h1 h2 h3 h4 h5 h6 h7 g8
  have h8 : m ≤ (ts.length : Int) := by omega
  cases h9 : Leap.good rt
  case false => exact way9 w hT p A own ca hA hlo A2 rt cr hR hlr n B ts cb hB hlt hf2 hcb m h0 h1 h2 h3 h4 h5 h6 h7 h8 h9
  exact main w hT p A own ca hA hlo A2 rt cr hR hlr n B ts cb hB hlt hf2 hcb m h0 h1 h2 h3 h4 h5 h6 h7 h8 h9
theorem own : ownKnob Tryd.prog.godebug = none := by kernel_rfl
theorem laidOut : laidOutB Tryd.prog = true := by kernel_rfl
theorem laid_met (os : Os) : laidMet Tryd.prog Rows.voteHoldsRow.laid ((laidWorld os).forCall (fun _ _ => 0) ⟨#[], #[.agg #[.int .i64 0, .int .i64 0, .int .i64 0, .int .i64 0, .int .i64 0, .int .i64 0, .int .i64 0, .int .i64 0, .int .i64 0, .int .i64 0, .int .i64 0, .int .i64 0], .slice none 0 0, .slice none 0 0, .int .i64 0, .slice none 0 0, .int .i64 0], []⟩).memory :=
  laidMet_of_run' 8 (by kernel_rfl) (by kernel_rfl)
theorem reads (os : Os) {H : Type} (enc : TypeId × Value → H) : ∃ places, DataW.whole enc Tryd.prog ((laidWorld os).forCall (fun _ _ => 0) ⟨#[], #[.agg #[.int .i64 0, .int .i64 0, .int .i64 0, .int .i64 0, .int .i64 0, .int .i64 0, .int .i64 0, .int .i64 0, .int .i64 0, .int .i64 0, .int .i64 0, .int .i64 0], .slice none 0 0, .slice none 0 0, .int .i64 0, .slice none 0 0, .int .i64 0], []⟩).memory Tryd.f5.params.toList Rows.voteHoldsSpec.vars false (#[.agg #[.int .i64 0, .int .i64 0, .int .i64 0, .int .i64 0, .int .i64 0, .int .i64 0, .int .i64 0, .int .i64 0, .int .i64 0, .int .i64 0, .int .i64 0, .int .i64 0], .slice none 0 0, .slice none 0 0, .int .i64 0, .slice none 0 0, .int .i64 0] : Array Value).toList 8 = some ([.agg [.lit (.int .i64 0), .lit (.int .i64 0), .lit (.int .i64 0), .lit (.int .i64 0), .lit (.int .i64 0), .lit (.int .i64 0), .lit (.int .i64 0), .lit (.int .i64 0), .lit (.int .i64 0), .lit (.int .i64 0), .lit (.int .i64 0), .lit (.int .i64 0)], .nil, .nil, .lit (.int .i64 0), .nil, .lit (.int .i64 0)], [], places) :=
  ⟨[], by kernel_rfl⟩
set_option maxRecDepth 100000 in
theorem lifted (os : Os) (started : os.Started) (H : Type) (enc : TypeId × Value → H) (F : Stop.Interp) :
    ReturnsInHanded {} Tryd.checked os 5 .any ((OpenSpec.ofChange Rows.voteHoldsSpec).preRow enc Tryd.prog Tryd.f5 Rows.voteHoldsRow.domain false Rows.voteHoldsRow.laid) (((OpenSpec.ofChange Rows.voteHoldsSpec).at F).post enc Tryd.prog Tryd.f5 false true false false) := by
  obtain ⟨places, hx⟩ := reads os enc
  refine returnsInHanded_of_row (C := Tryd.checked) (s := OpenSpec.ofChange Rows.voteHoldsSpec) own started (by kernel_rfl) Tryd.func5
    (witness_row_at (enc := enc) (C := Tryd.checked) false (laidWorld os) #[.agg #[.int .i64 0, .int .i64 0, .int .i64 0, .int .i64 0, .int .i64 0, .int .i64 0, .int .i64 0, .int .i64 0, .int .i64 0, .int .i64 0, .int .i64 0, .int .i64 0], .slice none 0 0, .slice none 0 0, .int .i64 0, .slice none 0 0, .int .i64 0] rfl (by kernel_rfl) (by kernel_rfl) (by kernel_rfl)
      (OpenSpec.preRow_of_cond 8 hx (by kernel_rfl) (fun k hk => by cases hk) (by kernel_rfl) (laid_met os))) ?_
  intro W base args ds gs before hval0 hW _ _ _ hL _ _
  have hval : ∀ (j : Nat) t v, Tryd.f5.params[j]? = some t → args[j]? = some v → Value.okWide Tryd.prog W .any base t v := hval0
  have hW' := hW
  obtain ⟨p, q, hA, hV, rfl, _, _⟩ := hW
  obtain ⟨rfl, rfl⟩ := trodVars_none hV
  replace hA : DataW.TrodAll enc Tryd.prog W 0 (fun _ => true) true Tryd.f5.params.toList args.toList ds p := hA
  rw [Tryd.params5] at hA hval
  obtain ⟨v0, vs0, d0, ds0, p0, q0, hargs, rfl, rfl, h0, r0⟩ := trodAll_cons hA
  obtain ⟨v1, vs1, d1, ds1, p1, q1, rfl, rfl, rfl, h1, r1⟩ := trodAll_cons r0
  obtain ⟨v2, vs2, d2, ds2, p2, q2, rfl, rfl, rfl, h2, r2⟩ := trodAll_cons r1
  obtain ⟨v3, vs3, d3, ds3, p3, q3, rfl, rfl, rfl, h3, r3⟩ := trodAll_cons r2
  obtain ⟨v4, vs4, d4, ds4, p4, q4, rfl, rfl, rfl, h4, r4⟩ := trodAll_cons r3
  obtain ⟨v5, vs5, d5, ds5, p5, q5, rfl, rfl, rfl, h5, r5⟩ := trodAll_cons r4
  obtain ⟨rfl, rfl, rfl⟩ := trodAll_nil r5
  obtain rfl : args = #[v0, v1, v2, v3, v4, v5] := by cases args; simp_all
  obtain ⟨p0, rfl, wp0⟩ := open_par Tryd.underlying29 rfl (by kernel_rfl) (by kernel_rfl) (by kernel_rfl) (hval 0 29 v0 rfl rfl) h0
  obtain ⟨A1, l1, c1, rfl, hA1, hl1, hw1⟩ := open_slice_pairs Tryd.underlying22 Tryd.underlying37 (by kernel_rfl) (by kernel_rfl) (by kernel_rfl) (by kernel_rfl) (hval 1 22 v1 rfl rfl) h1
  obtain ⟨A2, l2, c2, rfl, hA2, hl2, hw2⟩ := open_slice_pairs Tryd.underlying22 Tryd.underlying37 (by kernel_rfl) (by kernel_rfl) (by kernel_rfl) (by kernel_rfl) (hval 2 22 v2 rfl rfl) h2
  obtain ⟨a3, rfl, rfl, rfl, w3⟩ := open_int Tryd.underlying3 (hval 3 3 v3 rfl rfl) h3
  obtain ⟨A4, l4, c4, rfl, hA4, hl4, hw4, hc4⟩ := open_tabsC Tryd.underlying25 (by kernel_rfl) Tryd.underlying22 Tryd.underlying37 (by kernel_rfl) (by kernel_rfl) (by kernel_rfl) (by kernel_rfl) (hval 4 25 v4 rfl rfl) h4
  obtain ⟨a5, rfl, rfl, rfl, w5⟩ := open_int Tryd.underlying3 (hval 5 3 v5 rfl rfl) h5
  refine (walk W (tab_of hL) p0 wp0 A1 l1 c1 hA1 hl1 hw1 A2 l2 c2 hA2 hl2 hw2 a3 w3 A4 l4 c4 hA4 hl4 hw4 hc4 a5 w5).mono fun e W' ⟨he, hb⟩ => ?_
  subst he
  exact ⟨_, rfl, law_post hW' laidOut (by rw [Tryd.params5]; exact params_ok (by kernel_rfl)) rfl (by kernel_rfl) Tryd.underlying4 rfl rfl rfl hb⟩
theorem said : Rows.VoteHoldsSaid :=
  OpenClaim.holds_of_cond 5 Tryd.f5 rfl rfl rfl rfl rfl rfl rfl ⟨rfl, rfl, rfl, rfl, rfl⟩ rfl rfl rfl rfl rfl (by kernel_rfl) Tryd.func5 (by kernel_rfl)
    (of_decide_eq_true (by kernel_rfl)) (by unfold Func.isWrapper; first | (rw [if_pos (by decide +kernel)]; kernel_rfl) | (rw [if_neg (by decide +kernel)]; exact ⟨rfl, rfl⟩))
    (fun os started H enc _ F => by rw [OpenClaim.pre_eq_preRow]; exact lifted os started H enc F)
theorem plain (f : FuncId) (fn : Func) (hf : Tryd.pinned.checked.prog.funcNamed "clepsydra/clepsydralaw19.VoteHolds" = some f) (hfn : Tryd.pinned.checked.prog.funcs[f]? = some fn) :
    false = Tryd.pinned.checked.prog.looks [] ∧ ∀ (j : Nat) t, fn.params[j]? = some t → Tryd.pinned.checked.prog.wantsStandIn t = false := by
  obtain rfl : f = 5 := Option.some.inj ((show Tryd.prog.funcNamed "clepsydra/clepsydralaw19.VoteHolds" = some 5 by kernel_rfl).symm.trans hf) |>.symm
  obtain rfl : fn = Tryd.f5 := (Option.some.inj (Tryd.func5.symm.trans hfn)).symm
  refine ⟨by kernel_rfl, fun j t ht => ?_⟩
  have hall : (Tryd.f5.params.toList.all fun u => !Tryd.prog.wantsStandIn u) = true := by kernel_rfl
  have hm : t ∈ Tryd.f5.params.toList := Array.mem_toList_iff.2 (Array.mem_of_getElem? ht)
  exact (show Tryd.prog.wantsStandIn t = false by simpa using List.all_eq_true.1 hall t hm)
theorem proved : Rows.VoteHoldsCardSaid :=
  Claim7.holds_tied_plain_at .later [] _ _ _ _ said (fun _ h => by cases h) (by kernel_rfl) (fun _ h => by cases h) voteHolds_row_tie rfl ⟨rfl, rfl⟩ (by kernel_rfl) rfl plain (by kernel_rfl)
end Go.Proofs.YtbbkohpaebeidaaDoor.voteHolds
