/- RouteSettles: for every fabric's numbers, all steps, cores and links the law answers true: behind D + 1 beats nodes have the steps of the shortest ways, and who has no way of at most D is lost. No condition. -/
import Derived.Test.YtgkcmiaagbgajaaC15f
import Derived.Test.YtgkcmiaagbgajaaC15h
import Derived.Test.YtgkcmiaagbgajaaW34
import Derived.Test.YtgkcmiaagbgajaaW27
import Derived.Test.YtgkcmiaagbgajaaW06
namespace Go.Proofs.Ytgkcmiaagbgajaa.routeSettles
open Go.ChangeShapes Go.WideShapes Go.ChangeAt Go.RowKit
set_option linter.unusedVariables false
set_option maxRecDepth 100000
attribute [local go_sem ↓] Go.wp_at_zero Go.wp_at_succ
/-- What each operation leaves. -/
def VMSE (hb rr b0 off iX k nn c3 : Nat) (x : Int) (w : World) (v : Value) : Nat → Prop
  | 0 => v = .slice (some ⟨hb, 0, none⟩) nn nn
  | 1 => v = .int .i64 (iX : Int)
  | 2 => v = .pointer (some ⟨hb, iX, none⟩)
  | 3 => v = .slice (some ⟨rr, 0, none⟩) nn nn
  | 4 => v = .int .i64 (k : Int)
  | 5 => v = .int .i64 (iX : Int)
  | 6 => v = .int .i64 (k : Int)
  | 7 => v = .bool false
  | 8 => v = .bool false
  | 9 => v = undef
  | 10 => v = undef
  | 11 => v = undef
  | 12 => v = undef
  | 13 => v = undef
  | 14 => v = undef
  | 15 => v = undef
  | 16 => v = undef
  | 17 => v = undef
  | 18 => v = .bool false
  | 19 => v = .pointer (some ⟨rr, k, none⟩)
  | _ => v = .bool true
/-- It stays so. -/
def VCSE (hb rr b0 off iX k nn c3 : Nat) (x : Int) (i : Nat) (v : Value) (w : World) : Prop := ∀ w', Ok w w' → VMSE hb rr b0 off iX k nn c3 x w' v i
/-- What each operation leaves. -/
def VMSN (hb rr b0 off iX k nn c3 : Nat) (x : Int) (w : World) (v : Value) : Nat → Prop
  | 0 => v = .slice (some ⟨hb, 0, none⟩) nn nn
  | 1 => v = .int .i64 (iX : Int)
  | 2 => v = .pointer (some ⟨hb, iX, none⟩)
  | 3 => v = .slice (some ⟨rr, 0, none⟩) nn nn
  | 4 => v = .int .i64 (k : Int)
  | 5 => v = .int .i64 (iX : Int)
  | 6 => v = .int .i64 (k : Int)
  | 7 => v = .bool true
  | 8 => v = .bool true
  | 9 => v = .slice (some ⟨b0, off, none⟩) nn c3
  | 10 => v = .int .i64 (iX : Int)
  | 11 => v = .pointer (some ⟨b0, off + iX, none⟩)
  | 12 => v = .int .i64 x
  | 13 => v = .int .i64 (k : Int)
  | 14 => v = .int .u64 (k : Int)
  | 15 => v = .int .i64 (x / 2 ^ k)
  | 16 => v = .int .i64 (bits .and .i64 (x / 2 ^ k) 1)
  | 17 => v = .bool (bits .and .i64 (x / 2 ^ k) 1 == 1)
  | 18 => v = .bool (bits .and .i64 (x / 2 ^ k) 1 == 1)
  | 19 => v = .pointer (some ⟨rr, k, none⟩)
  | _ => v = .bool true
/-- It stays so. -/
def VCSN (hb rr b0 off iX k nn c3 : Nat) (x : Int) (i : Nat) (v : Value) (w : World) : Prop := ∀ w', Ok w w' → VMSN hb rr b0 off iX k nn c3 x w' v i
set_option maxHeartbeats 1600000 in
theorem no1 (w : World) (p : Par) (S : Option Addr) (sl : List Int) (c1 : Nat) (C : Option Addr) (cl : List Bool) (c2 : Nat) (L : Option Addr) (ll : List Int) (c3 : Nat) (h0 : p.d < 0 ∨ 16 < p.d) : Calls Try.prog 6 #[parV p, .slice S sl.length c1, .slice C cl.length c2, .slice L ll.length c3] w fun e w' => e = .returned (.bool true) ∧ Below w.heap.size w w' := by
  have HP := Lib.hid (Own.new w (parCells p) 23 rfl)
  have KO := Lib.hid fun w => route15odd p w
  rw [decide_eq_true h0] at KO
  clear h0
  go_enter Try.func6, Try.ntmps6
  go_wp2_with (first | (go_at_call 8; (with_reducible refine (law15Alive _).mono ?_); rintro e w1 ⟨rfl, hb1⟩; have hP := HP.out.next hb1; have hok := ((Ok.refl w).alloc (.cells (parCells p) 23)).trans hb1; clear hb1; obtain ⟨p0, p1, p2, p3, p4, p5, p6, p7, p8, p9, p10, p11⟩ := hP.pars; have hpl := hP.lt) | (go_at_call 9; (with_reducible refine (KO.out _).mono ?_); rintro e w2 ⟨rfl, hb2⟩; replace hP := hP.next hb2; replace hok := hok.trans hb2; clear hb2 p0 p1 p2 p3 p4 p5 p6 p7 p8 p9 p10 p11 hpl; obtain ⟨p0, p1, p2, p3, p4, p5, p6, p7, p8, p9, p10, p11⟩ := hP.pars; have hpl := hP.lt))
  go_ret
  exact ⟨rfl, hok⟩
set_option maxHeartbeats 1600000 in
theorem no2 (w : World) (p : Par) (S : Option Addr) (sl : List Int) (c1 : Nat) (C : Option Addr) (cl : List Bool) (c2 : Nat) (L : Option Addr) (ll : List Int) (c3 : Nat) (h0 : ¬(p.d < 0 ∨ 16 < p.d)) (h1 : 12 < sl.length) : Calls Try.prog 6 #[parV p, .slice S sl.length c1, .slice C cl.length c2, .slice L ll.length c3] w fun e w' => e = .returned (.bool true) ∧ Below w.heap.size w w' := by
  have HP := Lib.hid (Own.new w (parCells p) 23 rfl)
  have KO := Lib.hid fun w => route15odd p w
  rw [decide_eq_false h0] at KO
  have h2 : (12 : Int) < (sl.length : Int) := by omega
  clear h0
  go_enter Try.func6, Try.ntmps6
  go_wp2_with (first | (go_at_call 8; (with_reducible refine (law15Alive _).mono ?_); rintro e w1 ⟨rfl, hb1⟩; have hP := HP.out.next hb1; have hok := ((Ok.refl w).alloc (.cells (parCells p) 23)).trans hb1; clear hb1; obtain ⟨p0, p1, p2, p3, p4, p5, p6, p7, p8, p9, p10, p11⟩ := hP.pars; have hpl := hP.lt) | (go_at_call 9; (with_reducible refine (KO.out _).mono ?_); rintro e w2 ⟨rfl, hb2⟩; replace hP := hP.next hb2; replace hok := hok.trans hb2; clear hb2 p0 p1 p2 p3 p4 p5 p6 p7 p8 p9 p10 p11 hpl; obtain ⟨p0, p1, p2, p3, p4, p5, p6, p7, p8, p9, p10, p11⟩ := hP.pars; have hpl := hP.lt))
  go_ret
  exact ⟨rfl, hok⟩
set_option maxHeartbeats 1600000 in
theorem no3 (w : World) (p : Par) (S : Option Addr) (sl : List Int) (c1 : Nat) (C : Option Addr) (cl : List Bool) (c2 : Nat) (L : Option Addr) (ll : List Int) (c3 : Nat) (h0 : ¬(p.d < 0 ∨ 16 < p.d)) (h1 : ¬ 12 < sl.length) (h4 : cl.length ≠ sl.length) : Calls Try.prog 6 #[parV p, .slice S sl.length c1, .slice C cl.length c2, .slice L ll.length c3] w fun e w' => e = .returned (.bool true) ∧ Below w.heap.size w w' := by
  have HP := Lib.hid (Own.new w (parCells p) 23 rfl)
  have KO := Lib.hid fun w => route15odd p w
  rw [decide_eq_false h0] at KO
  have h2 : ¬ (12 : Int) < (sl.length : Int) := by omega
  have h5 : ((cl.length : Int) != (sl.length : Int)) = true := by rw [bne_iff_ne]; omega
  clear h0 h1 h4
  go_enter Try.func6, Try.ntmps6
  go_wp2_with (first | (go_at_call 8; (with_reducible refine (law15Alive _).mono ?_); rintro e w1 ⟨rfl, hb1⟩; have hP := HP.out.next hb1; have hok := ((Ok.refl w).alloc (.cells (parCells p) 23)).trans hb1; clear hb1; obtain ⟨p0, p1, p2, p3, p4, p5, p6, p7, p8, p9, p10, p11⟩ := hP.pars; have hpl := hP.lt) | (go_at_call 9; (with_reducible refine (KO.out _).mono ?_); rintro e w2 ⟨rfl, hb2⟩; replace hP := hP.next hb2; replace hok := hok.trans hb2; clear hb2 p0 p1 p2 p3 p4 p5 p6 p7 p8 p9 p10 p11 hpl; obtain ⟨p0, p1, p2, p3, p4, p5, p6, p7, p8, p9, p10, p11⟩ := hP.pars; have hpl := hP.lt))
  go_ret
  exact ⟨rfl, hok⟩
set_option maxHeartbeats 1600000 in
theorem no4 (w : World) (p : Par) (S : Option Addr) (sl : List Int) (c1 : Nat) (C : Option Addr) (cl : List Bool) (c2 : Nat) (L : Option Addr) (ll : List Int) (c3 : Nat) (h0 : ¬(p.d < 0 ∨ 16 < p.d)) (h1 : ¬ 12 < sl.length) (h4 : cl.length = sl.length) (h6 : ll.length ≠ sl.length) : Calls Try.prog 6 #[parV p, .slice S sl.length c1, .slice C cl.length c2, .slice L ll.length c3] w fun e w' => e = .returned (.bool true) ∧ Below w.heap.size w w' := by
  have HP := Lib.hid (Own.new w (parCells p) 23 rfl)
  have KO := Lib.hid fun w => route15odd p w
  rw [decide_eq_false h0] at KO
  have h2 : ¬ (12 : Int) < (sl.length : Int) := by omega
  have h5 : ((cl.length : Int) != (sl.length : Int)) = false := by rw [h4]; simp
  have h7 : ((ll.length : Int) != (sl.length : Int)) = true := by rw [bne_iff_ne]; omega
  clear h0 h1 h4 h6
  go_enter Try.func6, Try.ntmps6
  go_wp2_with (first | (go_at_call 8; (with_reducible refine (law15Alive _).mono ?_); rintro e w1 ⟨rfl, hb1⟩; have hP := HP.out.next hb1; have hok := ((Ok.refl w).alloc (.cells (parCells p) 23)).trans hb1; clear hb1; obtain ⟨p0, p1, p2, p3, p4, p5, p6, p7, p8, p9, p10, p11⟩ := hP.pars; have hpl := hP.lt) | (go_at_call 9; (with_reducible refine (KO.out _).mono ?_); rintro e w2 ⟨rfl, hb2⟩; replace hP := hP.next hb2; replace hok := hok.trans hb2; clear hb2 p0 p1 p2 p3 p4 p5 p6 p7 p8 p9 p10 p11 hpl; obtain ⟨p0, p1, p2, p3, p4, p5, p6, p7, p8, p9, p10, p11⟩ := hP.pars; have hpl := hP.lt))
  go_ret
  exact ⟨rfl, hok⟩
set_option maxHeartbeats 16000000 in
theorem main (w : World) (p : Par) (S : Option Addr) (sl : List Int) (c1 n : Nat) (C : Option Addr) (cl : List Bool) (c2 : Nat) (L : Option Addr) (ll : List Int) (c3 : Nat) (hS : IntsAt w S sl) (hC : BoolsAt w C cl) (hL : IntsAt w L ll) (h3 : 0 ≤ p.d ∧ p.d ≤ 16) (hn12 : n ≤ 12) (hn : sl.length = n) (h4 : cl.length = n) (h6 : ll.length = n) :
    Calls Try.prog 6 #[parV p, .slice S n c1, .slice C n c2, .slice L n c3] w fun e w' => e = .returned (.bool true) ∧ Below w.heap.size w w' := by
  have HP := Lib.hid (Own.new w (parCells p) 23 rfl)
  have KO := Lib.hid fun w => route15odd p w
  rw [decide_eq_false (show ¬(p.d < 0 ∨ 16 < p.d) by omega)] at KO
  have hm12 : ¬ (12 : Int) < (n : Int) := by omega
  have hm13 : (n : Int) ≤ 12 := by omega
  have hnn : ((n : Int) != (n : Int)) = false := by simp
  have hmk1 : ∀ W : World, Sem.run Try.prog (Instr.makeSlice 46 (.int .i64 (n : Int)) (.int .i64 (n : Int))) W = .ok (.slice (some ⟨W.heap.size, 0, none⟩) n n) (W.alloc (.cells (Array.replicate n (.slice none 0 0)) 45)) := fun W =>
    run_make_cells Try.underlying46 infoBools15 rfl (by decide) n (by omega) W
  have hmk2 : ∀ W : World, Sem.run Try.prog (Instr.makeSlice 45 (.int .i64 (n : Int)) (.int .i64 (n : Int))) W = .ok (.slice (some ⟨W.heap.size, 0, none⟩) n n) (W.alloc (.cells (Array.replicate n (.bool false)) 4)) := fun W =>
    run_make_cells Try.underlying45 infoBool15 rfl (by decide) n (by omega) W
  have hmk3 : ∀ W : World, Sem.run Try.prog (Instr.makeSlice 24 (.int .i64 (n : Int)) (.int .i64 (n : Int))) W = .ok (.slice (some ⟨W.heap.size, 0, none⟩) n n) (W.alloc (.cells (Array.replicate n (.int .i64 0)) 3)) := fun W =>
    run_make_cells Try.underlying24 infoInt15 rfl (by decide) n (by omega) W
  have HS := Lib.hid fun W' (k : Ok w W') => hS.below k
  have HSn := Lib.hid hn
  have HC := Lib.hid fun W' (k : Ok w W') => hC.below k
  have HCn := Lib.hid h4
  have HLL : Hid (∀ W', Ok w W' → NowAt W' L n (fun j => ll.getD j 0)) := Lib.hid fun W' k => NowAt.of_ints (hL.below k) h6
  clear hS hC hL h4 h6 hn
  go_enter Try.func6, Try.ntmps6
  go_upto_region 7 with (first | (go_at_call 8; (with_reducible refine (law15Alive _).mono ?_); rintro e w1 ⟨rfl, hb1⟩; have hP := HP.out.next hb1; have hok := ((Ok.refl w).alloc (.cells (parCells p) 23)).trans hb1; clear hb1; obtain ⟨p0, p1, p2, p3, p4, p5, p6, p7, p8, p9, p10, p11⟩ := hP.pars; have hpl := hP.lt) | (go_at_call 9; (with_reducible refine (KO.out _).mono ?_); rintro e w2 ⟨rfl, hb2⟩; replace hP := hP.next hb2; replace hok := hok.trans hb2; clear hb2 p0 p1 p2 p3 p4 p5 p6 p7 p8 p9 p10 p11 hpl; obtain ⟨p0, p1, p2, p3, p4, p5, p6, p7, p8, p9, p10, p11⟩ := hP.pars; have hpl := hP.lt))
  have hQ0 : HearsP (w2.alloc (.cells (Array.replicate n (.slice none 0 0)) 45)) w2.heap.size w2.heap.size n (linked ll) 0 := ⟨fun _ => 0, (RowOf.new w2 _ n _ rfl).mono (fun j _ => by simp), fun j hj => absurd hj (Nat.not_lt_zero j)⟩
  have hwB := hok.size
  replace hP := hP.alloc (.cells (Array.replicate n (.slice none 0 0)) 45)
  replace hok := hok.alloc (.cells (Array.replicate n (.slice none 0 0)) 45)
  generalize w2.alloc (.cells (Array.replicate n (.slice none 0 0)) 45) = W at hQ0 hP hok ⊢
  obtain ⟨hb, hhb⟩ : ∃ hb, w2.heap.size = hb := ⟨_, rfl⟩
  rw [hhb] at hQ0 hwB ⊢
  obtain ⟨P, hPe⟩ : ∃ P, w.heap.size = P := ⟨_, rfl⟩
  have hPB : P < hb := by
    rw [← hhb, ← hPe]
    exact hpl
  rw [hPe] at hP ⊢
  have HB := Lib.hid (And.intro hPB (And.intro hPe hwB))
  clear p0 p1 p2 p3 p4 p5 p6 p7 p8 p9 p10 p11 hpl hhb hPe hwB HP KO hmk1 hPB
  go_wp2
  go_loopw [47] (fun q wr => ∃ i : Nat, i ≤ n ∧ q = .int .i64 i ∧ HearsP wr hb hb n (linked ll) i ∧ Own wr P (parCells p) ∧ Ok w wr) (fun q _ => n - (intOf q).toNat)
  case atStart => exact ⟨0, Nat.zero_le _, rfl, hQ0, hP, hok⟩
  case round =>
    clear hQ0 hP hok
    obtain ⟨i, hi, rfl, hQ, hP, hok⟩ := hrel
    by_cases hlt : i < n
    · have hni : ¬ (n : Int) ≤ (i : Int) := by omega
      obtain ⟨hc0, hcf, hcl⟩ := hQ.slot hlt
      have hHs : hb ≤ wr.heap.size := Nat.le_of_lt hcl
      have HQ1 := Lib.hid (hQ.row hlt 4 hHs)
      have HP1 := Lib.hid ((hP.setOther (a := ⟨hb, i, none⟩) (by have := HB.out.1; show P ≠ hb; omega) (.slice (some ⟨wr.heap.size, 0, none⟩) n n)).alloc (.cells (Array.replicate n (.bool false)) 4))
      have HK1 := Lib.hid ((hok.setCell (p := ⟨hb, i, none⟩) HB.out.2.2 (.slice (some ⟨wr.heap.size, 0, none⟩) n n)).alloc (.cells (Array.replicate n (.bool false)) 4))
      clear hQ hP hok
      go_upto_region 11 with (fail)
      clear hc0 hcf
      generalize (wr.setCell ⟨hb, i, none⟩ (.slice (some ⟨wr.heap.size, 0, none⟩) n n)).alloc (.cells (Array.replicate n (.bool false)) 4) = W1 at HQ1 HP1 HK1 ⊢
      obtain ⟨rr, hrr⟩ : ∃ rr, wr.heap.size = rr := ⟨_, rfl⟩
      rw [hrr] at HQ1 hHs
      have HPr := Lib.hid (show P ≠ rr by have := HB.out.1; omega)
      clear hrr hcl hHs
      obtain ⟨y1, y2, y3, y4, y5⟩ := HQ1.out.cells hlt (show 0 < n by omega)
      go_wp2_with fail
      clear y1 y2 y3 y4 y5
      go_loopw [60] (fun q wr => ∃ k : Nat, k ≤ n ∧ q = .int .i64 k ∧ HearsQ wr hb hb n (linked ll) i rr k ∧ Own wr P (parCells p) ∧ Ok w wr) (fun q _ => n - (intOf q).toNat)
      case atStart => exact ⟨0, Nat.zero_le _, rfl, HQ1.out, HP1.out, HK1.out⟩
      case round =>
        clear HQ1 HP1 HK1
        obtain ⟨k, hk, rfl, hQ, hP, hok⟩ := hrel
        by_cases hlt2 : k < n
        · have hnk : ¬ (n : Int) ≤ (k : Int) := by omega
          have HQ := Lib.hid fun W' (q : Ok wr.drew W') => ((hQ.next (Ok.refl wr).drew).next q).cells hlt hlt2
          obtain ⟨b0, off, hLe, _, _⟩ := HLL.out wr hok i hlt
          subst hLe
          have HL : Hid (∀ W', Ok wr.drew W' → W'.cell? ⟨b0, off + i, none⟩ = some (.int .i64 (ll.getD i 0))) := Lib.hid fun W' q => by
            obtain ⟨b2, off2, e, _, h⟩ := HLL.out W' (hok.drew.trans q) i hlt
            cases e
            exact h
          have HFIN : Hid (∀ W', Ok wr.drew W' → HearsQ (W'.setCell ⟨rr, k, none⟩ (.bool (linked ll i k))) hb hb n (linked ll) i rr (k + 1) ∧ Own (W'.setCell ⟨rr, k, none⟩ (.bool (linked ll i k))) P (parCells p) ∧ Ok w (W'.setCell ⟨rr, k, none⟩ (.bool (linked ll i k)))) := Lib.hid fun W' q =>
            ⟨((hQ.next (Ok.refl wr).drew).next q).put hlt2, (hP.drew.next q).setOther (a := ⟨rr, k, none⟩) HPr.out _, ((hQ.next (Ok.refl wr).drew).next q).ok HB.out.2.2 (hok.drew.trans q) _⟩
          clear hQ hP hok
          go_upto_region 14 with (fail)
          by_cases hik : i = k
          · have HI := Lib.hid (show ((i : Int) != (k : Int)) = false by rw [hik]; simp)
            have hv : linked ll i k = false := if_pos hik
            rw [hv] at HFIN
            clear hik hv
            generalize ll.getD i 0 = x at HL
            refine wp_region_facts_end (by kernel_rfl) 8 184 rfl (VCSE hb rr b0 off i k n c3 x) Ok _ rfl _ 20 rfl rfl rfl rfl (by kernel_rfl) (by kernel_rfl) (by kernel_rfl) (fun i v w w' h k w'' k' => h w'' (k.trans k')) (fun a b c => Ok.trans) (Ok.refl _) [some 63, some 64, some 65, some 66, some 67, some 68, some 69, some 70, some 71, some 72, some 73, some 74, some 75, some 76, some 77, some 78, some 79, some 80, some 81, some 82] rfl ⟨?_, ?_, ?_, ?_, ?_, ?_, ?_, ?_, ?_, ?_, ?_, ?_, ?_, ?_, ?_, ?_, ?_, ?_, ?_, ?_, trivial⟩ ?_
            · intro a' w' hF hR
              have e10 : a'.tmps[10]? = some (.slice (some ⟨hb, 0, none⟩) n n) := hF.slot 10 (by kernel_rfl) rfl
              refine wpOp_run (v := .slice (some ⟨hb, 0, none⟩) n n) rfl rfl ?_ (fun _ _ => rfl) (Ok.refl _)
              clear hF
              go_simp
            · intro a' w' hF hR
              have e11 : a'.tmps[11]? = some (.int .i64 (i : Int)) := hF.slot 11 (by kernel_rfl) rfl
              refine wpOp_run (v := .int .i64 (i : Int)) rfl rfl ?_ (fun _ _ => rfl) (Ok.refl _)
              clear hF
              go_simp
            · intro a' w' hF hR
              obtain ⟨v0, hv0, e63⟩ := hF.get 0 63 (by kernel_rfl) (by kernel_rfl)
              obtain rfl : v0 = _ := hv0 _ (Ok.refl _)
              obtain ⟨v1, hv1, e64⟩ := hF.get 1 64 (by kernel_rfl) (by kernel_rfl)
              obtain rfl : v1 = _ := hv1 _ (Ok.refl _)
              have hq1 : (i : Int) < (n : Int) := by omega
              have hq2 : ¬ (n : Int) ≤ (i : Int) := by omega
              refine wpOp_run (v := .pointer (some ⟨hb, i, none⟩)) rfl rfl ?_ (fun _ _ => rfl) (Ok.refl _)
              clear hF
              go_simp
            · intro a' w' hF hR
              obtain ⟨v2, hv2, e65⟩ := hF.get 2 65 (by kernel_rfl) (by kernel_rfl)
              obtain rfl : v2 = _ := hv2 _ (Ok.refl _)
              obtain ⟨y1, y2, y3, y4, y5⟩ := HQ.out _ hR
              refine wpOp_run (v := .slice (some ⟨rr, 0, none⟩) n n) rfl rfl ?_ (fun _ _ => rfl) (Ok.refl _)
              clear hF
              go_simp
            · intro a' w' hF hR
              have e12 : a'.tmps[12]? = some (.int .i64 (k : Int)) := hF.slot 12 (by kernel_rfl) rfl
              refine wpOp_run (v := .int .i64 (k : Int)) rfl rfl ?_ (fun _ _ => rfl) (Ok.refl _)
              clear hF
              go_simp
            · intro a' w' hF hR
              have e11 : a'.tmps[11]? = some (.int .i64 (i : Int)) := hF.slot 11 (by kernel_rfl) rfl
              refine wpOp_run (v := .int .i64 (i : Int)) rfl rfl ?_ (fun _ _ => rfl) (Ok.refl _)
              clear hF
              go_simp
            · intro a' w' hF hR
              have e12 : a'.tmps[12]? = some (.int .i64 (k : Int)) := hF.slot 12 (by kernel_rfl) rfl
              refine wpOp_run (v := .int .i64 (k : Int)) rfl rfl ?_ (fun _ _ => rfl) (Ok.refl _)
              clear hF
              go_simp
            · intro a' w' hF hR
              obtain ⟨v5, hv5, e68⟩ := hF.get 5 68 (by kernel_rfl) (by kernel_rfl)
              obtain rfl : v5 = _ := hv5 _ (Ok.refl _)
              obtain ⟨v6, hv6, e69⟩ := hF.get 6 69 (by kernel_rfl) (by kernel_rfl)
              obtain rfl : v6 = _ := hv6 _ (Ok.refl _)
              have hik := HI.out
              refine wpOp_run (v := .bool false) rfl rfl ?_ (fun _ _ => rfl) (Ok.refl _)
              clear hF
              go_simp
            · intro a' w' hF hR
              obtain ⟨v7, hv7, e70⟩ := hF.get 7 70 (by kernel_rfl) (by kernel_rfl)
              obtain rfl : v7 = _ := hv7 _ (Ok.refl _)
              refine wpOp_run (v := .bool false) rfl rfl ?_ (fun _ _ => rfl) (Ok.refl _)
              clear hF
              go_simp
            · intro a' w' hF hR
              obtain ⟨vg, hvg, eg⟩ := hF.get 8 71 (by kernel_rfl) (by kernel_rfl)
              obtain rfl : vg = _ := hvg _ (Ok.refl _)
              exact wpOp_skip rfl (wanted_not rfl (by kernel_rfl) eg (by simp)) (fun _ _ => rfl) (Ok.refl _)
            · intro a' w' hF hR
              obtain ⟨vg, hvg, eg⟩ := hF.get 8 71 (by kernel_rfl) (by kernel_rfl)
              obtain rfl : vg = _ := hvg _ (Ok.refl _)
              exact wpOp_skip rfl (wanted_not rfl (by kernel_rfl) eg (by simp)) (fun _ _ => rfl) (Ok.refl _)
            · intro a' w' hF hR
              obtain ⟨vg, hvg, eg⟩ := hF.get 8 71 (by kernel_rfl) (by kernel_rfl)
              obtain rfl : vg = _ := hvg _ (Ok.refl _)
              exact wpOp_skip rfl (wanted_not rfl (by kernel_rfl) eg (by simp)) (fun _ _ => rfl) (Ok.refl _)
            · intro a' w' hF hR
              obtain ⟨vg, hvg, eg⟩ := hF.get 8 71 (by kernel_rfl) (by kernel_rfl)
              obtain rfl : vg = _ := hvg _ (Ok.refl _)
              exact wpOp_skip rfl (wanted_not rfl (by kernel_rfl) eg (by simp)) (fun _ _ => rfl) (Ok.refl _)
            · intro a' w' hF hR
              obtain ⟨vg, hvg, eg⟩ := hF.get 8 71 (by kernel_rfl) (by kernel_rfl)
              obtain rfl : vg = _ := hvg _ (Ok.refl _)
              exact wpOp_skip rfl (wanted_not rfl (by kernel_rfl) eg (by simp)) (fun _ _ => rfl) (Ok.refl _)
            · intro a' w' hF hR
              obtain ⟨vg, hvg, eg⟩ := hF.get 8 71 (by kernel_rfl) (by kernel_rfl)
              obtain rfl : vg = _ := hvg _ (Ok.refl _)
              exact wpOp_skip rfl (wanted_not rfl (by kernel_rfl) eg (by simp)) (fun _ _ => rfl) (Ok.refl _)
            · intro a' w' hF hR
              obtain ⟨vg, hvg, eg⟩ := hF.get 8 71 (by kernel_rfl) (by kernel_rfl)
              obtain rfl : vg = _ := hvg _ (Ok.refl _)
              exact wpOp_skip rfl (wanted_not rfl (by kernel_rfl) eg (by simp)) (fun _ _ => rfl) (Ok.refl _)
            · intro a' w' hF hR
              obtain ⟨vg, hvg, eg⟩ := hF.get 8 71 (by kernel_rfl) (by kernel_rfl)
              obtain rfl : vg = _ := hvg _ (Ok.refl _)
              exact wpOp_skip rfl (wanted_not rfl (by kernel_rfl) eg (by simp)) (fun _ _ => rfl) (Ok.refl _)
            · intro a' w' hF hR
              obtain ⟨vg, hvg, eg⟩ := hF.get 8 71 (by kernel_rfl) (by kernel_rfl)
              obtain rfl : vg = _ := hvg _ (Ok.refl _)
              exact wpOp_skip rfl (wanted_not rfl (by kernel_rfl) eg (by simp)) (fun _ _ => rfl) (Ok.refl _)
            · intro a' w' hF hR
              obtain ⟨v8, hv8, e71⟩ := hF.get 8 71 (by kernel_rfl) (by kernel_rfl)
              obtain rfl : v8 = _ := hv8 _ (Ok.refl _)
              obtain ⟨v17, hv17, e80⟩ := hF.get 17 80 (by kernel_rfl) (by kernel_rfl)
              obtain rfl : v17 = _ := hv17 _ (Ok.refl _)
              refine wpOp_run (v := .bool false) rfl rfl ?_ (fun _ _ => rfl) (Ok.refl _)
              clear hF
              go_simp
            · intro a' w' hF hR
              obtain ⟨v3, hv3, e66⟩ := hF.get 3 66 (by kernel_rfl) (by kernel_rfl)
              obtain rfl : v3 = _ := hv3 _ (Ok.refl _)
              obtain ⟨v4, hv4, e67⟩ := hF.get 4 67 (by kernel_rfl) (by kernel_rfl)
              obtain rfl : v4 = _ := hv4 _ (Ok.refl _)
              have hq1 : (k : Int) < (n : Int) := by omega
              have hq2 : ¬ (n : Int) ≤ (k : Int) := by omega
              refine wpOp_run (v := .pointer (some ⟨rr, k, none⟩)) rfl rfl ?_ (fun _ _ => rfl) (Ok.refl _)
              clear hF
              go_simp
            intro vs W' hvs hR
            have e18 : vs 18 = .bool false := hvs 18 (by decide) _ (Ok.refl _)
            have e19 : vs 19 = .pointer (some ⟨rr, k, none⟩) := hvs 19 (by decide) _ (Ok.refl _)
            obtain ⟨y1, y2, y3, y4, y5⟩ := HQ.out _ hR
            have HF0 := HFIN.out W' hR
            clear hvs HQ HFIN
            simp only [putFrom, e18, e19]
            simp only [Act.put, List.setIfInBounds_toArray, List.set_cons_zero, List.set_cons_succ]
            refine wpOp_store (w' := W'.setCell ⟨rr, k, none⟩ (.bool false)) rfl rfl rfl ?_ ?_
            · go_simp
            clear y1 y2 y3 y4 y5 hR e18 e19
            generalize W'.setCell ⟨rr, k, none⟩ (.bool false) = W6 at HF0 ⊢
            have HF1 := Lib.hid HF0
            clear HF0
            go_wp2_with fail
            go_roundw
            case rel => exact ⟨k + 1, by omega, by go_num, HF1.out.1, HF1.out.2.1, HF1.out.2.2⟩
            case measure => simp [intOf]; omega
          · have HI := Lib.hid (show ((i : Int) != (k : Int)) = true by rw [bne_iff_ne]; omega)
            have hv : linked ll i k = (bits .and .i64 (ll.getD i 0 / 2 ^ k) 1 == 1) := if_neg hik
            rw [hv] at HFIN
            clear hik hv
            generalize ll.getD i 0 = x at HL HFIN
            refine wp_region_facts_end (by kernel_rfl) 8 184 rfl (VCSN hb rr b0 off i k n c3 x) Ok _ rfl _ 20 rfl rfl rfl rfl (by kernel_rfl) (by kernel_rfl) (by kernel_rfl) (fun i v w w' h k w'' k' => h w'' (k.trans k')) (fun a b c => Ok.trans) (Ok.refl _) [some 63, some 64, some 65, some 66, some 67, some 68, some 69, some 70, some 71, some 72, some 73, some 74, some 75, some 76, some 77, some 78, some 79, some 80, some 81, some 82] rfl ⟨?_, ?_, ?_, ?_, ?_, ?_, ?_, ?_, ?_, ?_, ?_, ?_, ?_, ?_, ?_, ?_, ?_, ?_, ?_, ?_, trivial⟩ ?_
            · intro a' w' hF hR
              have e10 : a'.tmps[10]? = some (.slice (some ⟨hb, 0, none⟩) n n) := hF.slot 10 (by kernel_rfl) rfl
              refine wpOp_run (v := .slice (some ⟨hb, 0, none⟩) n n) rfl rfl ?_ (fun _ _ => rfl) (Ok.refl _)
              clear hF
              go_simp
            · intro a' w' hF hR
              have e11 : a'.tmps[11]? = some (.int .i64 (i : Int)) := hF.slot 11 (by kernel_rfl) rfl
              refine wpOp_run (v := .int .i64 (i : Int)) rfl rfl ?_ (fun _ _ => rfl) (Ok.refl _)
              clear hF
              go_simp
            · intro a' w' hF hR
              obtain ⟨v0, hv0, e63⟩ := hF.get 0 63 (by kernel_rfl) (by kernel_rfl)
              obtain rfl : v0 = _ := hv0 _ (Ok.refl _)
              obtain ⟨v1, hv1, e64⟩ := hF.get 1 64 (by kernel_rfl) (by kernel_rfl)
              obtain rfl : v1 = _ := hv1 _ (Ok.refl _)
              have hq1 : (i : Int) < (n : Int) := by omega
              have hq2 : ¬ (n : Int) ≤ (i : Int) := by omega
              refine wpOp_run (v := .pointer (some ⟨hb, i, none⟩)) rfl rfl ?_ (fun _ _ => rfl) (Ok.refl _)
              clear hF
              go_simp
            · intro a' w' hF hR
              obtain ⟨v2, hv2, e65⟩ := hF.get 2 65 (by kernel_rfl) (by kernel_rfl)
              obtain rfl : v2 = _ := hv2 _ (Ok.refl _)
              obtain ⟨y1, y2, y3, y4, y5⟩ := HQ.out _ hR
              refine wpOp_run (v := .slice (some ⟨rr, 0, none⟩) n n) rfl rfl ?_ (fun _ _ => rfl) (Ok.refl _)
              clear hF
              go_simp
            · intro a' w' hF hR
              have e12 : a'.tmps[12]? = some (.int .i64 (k : Int)) := hF.slot 12 (by kernel_rfl) rfl
              refine wpOp_run (v := .int .i64 (k : Int)) rfl rfl ?_ (fun _ _ => rfl) (Ok.refl _)
              clear hF
              go_simp
            · intro a' w' hF hR
              have e11 : a'.tmps[11]? = some (.int .i64 (i : Int)) := hF.slot 11 (by kernel_rfl) rfl
              refine wpOp_run (v := .int .i64 (i : Int)) rfl rfl ?_ (fun _ _ => rfl) (Ok.refl _)
              clear hF
              go_simp
            · intro a' w' hF hR
              have e12 : a'.tmps[12]? = some (.int .i64 (k : Int)) := hF.slot 12 (by kernel_rfl) rfl
              refine wpOp_run (v := .int .i64 (k : Int)) rfl rfl ?_ (fun _ _ => rfl) (Ok.refl _)
              clear hF
              go_simp
            · intro a' w' hF hR
              obtain ⟨v5, hv5, e68⟩ := hF.get 5 68 (by kernel_rfl) (by kernel_rfl)
              obtain rfl : v5 = _ := hv5 _ (Ok.refl _)
              obtain ⟨v6, hv6, e69⟩ := hF.get 6 69 (by kernel_rfl) (by kernel_rfl)
              obtain rfl : v6 = _ := hv6 _ (Ok.refl _)
              have hik := HI.out
              refine wpOp_run (v := .bool true) rfl rfl ?_ (fun _ _ => rfl) (Ok.refl _)
              clear hF
              go_simp
            · intro a' w' hF hR
              obtain ⟨v7, hv7, e70⟩ := hF.get 7 70 (by kernel_rfl) (by kernel_rfl)
              obtain rfl : v7 = _ := hv7 _ (Ok.refl _)
              refine wpOp_run (v := .bool true) rfl rfl ?_ (fun _ _ => rfl) (Ok.refl _)
              clear hF
              go_simp
            · intro a' w' hF hR
              have e3 : a'.tmps[3]? = some (.slice (some ⟨b0, off, none⟩) n c3) := hF.slot 3 (by kernel_rfl) rfl
              obtain ⟨vg, hvg, eg⟩ := hF.get 8 71 (by kernel_rfl) (by kernel_rfl)
              obtain rfl : vg = _ := hvg _ (Ok.refl _)
              refine wpOp_runG (v := .slice (some ⟨b0, off, none⟩) n c3) rfl (wanted_yes rfl (by kernel_rfl) eg) ?_ (fun _ _ => rfl) (Ok.refl _)
              clear hF
              go_simp
            · intro a' w' hF hR
              have e11 : a'.tmps[11]? = some (.int .i64 (i : Int)) := hF.slot 11 (by kernel_rfl) rfl
              obtain ⟨vg, hvg, eg⟩ := hF.get 8 71 (by kernel_rfl) (by kernel_rfl)
              obtain rfl : vg = _ := hvg _ (Ok.refl _)
              refine wpOp_runG (v := .int .i64 (i : Int)) rfl (wanted_yes rfl (by kernel_rfl) eg) ?_ (fun _ _ => rfl) (Ok.refl _)
              clear hF
              go_simp
            · intro a' w' hF hR
              obtain ⟨v9, hv9, e72⟩ := hF.get 9 72 (by kernel_rfl) (by kernel_rfl)
              obtain rfl : v9 = _ := hv9 _ (Ok.refl _)
              obtain ⟨v10, hv10, e73⟩ := hF.get 10 73 (by kernel_rfl) (by kernel_rfl)
              obtain rfl : v10 = _ := hv10 _ (Ok.refl _)
              obtain ⟨vg, hvg, eg⟩ := hF.get 8 71 (by kernel_rfl) (by kernel_rfl)
              obtain rfl : vg = _ := hvg _ (Ok.refl _)
              have hq1 : (i : Int) < (n : Int) := by omega
              have hq2 : ¬ (n : Int) ≤ (i : Int) := by omega
              refine wpOp_runG (v := .pointer (some ⟨b0, off + i, none⟩)) rfl (wanted_yes rfl (by kernel_rfl) eg) ?_ (fun _ _ => rfl) (Ok.refl _)
              clear hF
              go_simp
            · intro a' w' hF hR
              obtain ⟨v11, hv11, e74⟩ := hF.get 11 74 (by kernel_rfl) (by kernel_rfl)
              obtain rfl : v11 = _ := hv11 _ (Ok.refl _)
              obtain ⟨vg, hvg, eg⟩ := hF.get 8 71 (by kernel_rfl) (by kernel_rfl)
              obtain rfl : vg = _ := hvg _ (Ok.refl _)
              have z := HL.out _ hR
              refine wpOp_runG (v := .int .i64 x) rfl (wanted_yes rfl (by kernel_rfl) eg) ?_ (fun _ _ => rfl) (Ok.refl _)
              clear hF
              go_simp
            · intro a' w' hF hR
              have e12 : a'.tmps[12]? = some (.int .i64 (k : Int)) := hF.slot 12 (by kernel_rfl) rfl
              obtain ⟨vg, hvg, eg⟩ := hF.get 8 71 (by kernel_rfl) (by kernel_rfl)
              obtain rfl : vg = _ := hvg _ (Ok.refl _)
              refine wpOp_runG (v := .int .i64 (k : Int)) rfl (wanted_yes rfl (by kernel_rfl) eg) ?_ (fun _ _ => rfl) (Ok.refl _)
              clear hF
              go_simp
            · intro a' w' hF hR
              obtain ⟨v13, hv13, e76⟩ := hF.get 13 76 (by kernel_rfl) (by kernel_rfl)
              obtain rfl : v13 = _ := hv13 _ (Ok.refl _)
              obtain ⟨vg, hvg, eg⟩ := hF.get 8 71 (by kernel_rfl) (by kernel_rfl)
              obtain rfl : vg = _ := hvg _ (Ok.refl _)
              have hku : IntKind.u64.wrap (k : Int) = (k : Int) := IntWalk.u64_in _ ⟨by omega, by omega⟩
              refine wpOp_runG (v := .int .u64 (k : Int)) rfl (wanted_yes rfl (by kernel_rfl) eg) ?_ (fun _ _ => rfl) (Ok.refl _)
              clear hF
              go_simp
            · intro a' w' hF hR
              obtain ⟨v12, hv12, e75⟩ := hF.get 12 75 (by kernel_rfl) (by kernel_rfl)
              obtain rfl : v12 = _ := hv12 _ (Ok.refl _)
              obtain ⟨v14, hv14, e77⟩ := hF.get 14 77 (by kernel_rfl) (by kernel_rfl)
              obtain rfl : v14 = _ := hv14 _ (Ok.refl _)
              obtain ⟨vg, hvg, eg⟩ := hF.get 8 71 (by kernel_rfl) (by kernel_rfl)
              obtain rfl : vg = _ := hvg _ (Ok.refl _)
              have hk64 : ¬ 64 ≤ (k : Int) := by omega
              refine wpOp_runG (v := .int .i64 (x / 2 ^ k)) rfl (wanted_yes rfl (by kernel_rfl) eg) ?_ (fun _ _ => rfl) (Ok.refl _)
              clear hF
              go_simp
            · intro a' w' hF hR
              obtain ⟨v15, hv15, e78⟩ := hF.get 15 78 (by kernel_rfl) (by kernel_rfl)
              obtain rfl : v15 = _ := hv15 _ (Ok.refl _)
              obtain ⟨vg, hvg, eg⟩ := hF.get 8 71 (by kernel_rfl) (by kernel_rfl)
              obtain rfl : vg = _ := hvg _ (Ok.refl _)
              refine wpOp_runG (v := .int .i64 (bits .and .i64 (x / 2 ^ k) 1)) rfl (wanted_yes rfl (by kernel_rfl) eg) ?_ (fun _ _ => rfl) (Ok.refl _)
              clear hF
              go_simp
            · intro a' w' hF hR
              obtain ⟨v16, hv16, e79⟩ := hF.get 16 79 (by kernel_rfl) (by kernel_rfl)
              obtain rfl : v16 = _ := hv16 _ (Ok.refl _)
              obtain ⟨vg, hvg, eg⟩ := hF.get 8 71 (by kernel_rfl) (by kernel_rfl)
              obtain rfl : vg = _ := hvg _ (Ok.refl _)
              refine wpOp_runG (v := .bool (bits .and .i64 (x / 2 ^ k) 1 == 1)) rfl (wanted_yes rfl (by kernel_rfl) eg) ?_ (fun _ _ => rfl) (Ok.refl _)
              clear hF
              go_simp
            · intro a' w' hF hR
              obtain ⟨v8, hv8, e71⟩ := hF.get 8 71 (by kernel_rfl) (by kernel_rfl)
              obtain rfl : v8 = _ := hv8 _ (Ok.refl _)
              obtain ⟨v17, hv17, e80⟩ := hF.get 17 80 (by kernel_rfl) (by kernel_rfl)
              obtain rfl : v17 = _ := hv17 _ (Ok.refl _)
              refine wpOp_run (v := .bool (bits .and .i64 (x / 2 ^ k) 1 == 1)) rfl rfl ?_ (fun _ _ => rfl) (Ok.refl _)
              clear hF
              go_simp
            · intro a' w' hF hR
              obtain ⟨v3, hv3, e66⟩ := hF.get 3 66 (by kernel_rfl) (by kernel_rfl)
              obtain rfl : v3 = _ := hv3 _ (Ok.refl _)
              obtain ⟨v4, hv4, e67⟩ := hF.get 4 67 (by kernel_rfl) (by kernel_rfl)
              obtain rfl : v4 = _ := hv4 _ (Ok.refl _)
              have hq1 : (k : Int) < (n : Int) := by omega
              have hq2 : ¬ (n : Int) ≤ (k : Int) := by omega
              refine wpOp_run (v := .pointer (some ⟨rr, k, none⟩)) rfl rfl ?_ (fun _ _ => rfl) (Ok.refl _)
              clear hF
              go_simp
            intro vs W' hvs hR
            have e18 : vs 18 = .bool (bits .and .i64 (x / 2 ^ k) 1 == 1) := hvs 18 (by decide) _ (Ok.refl _)
            have e19 : vs 19 = .pointer (some ⟨rr, k, none⟩) := hvs 19 (by decide) _ (Ok.refl _)
            obtain ⟨y1, y2, y3, y4, y5⟩ := HQ.out _ hR
            have HF0 := HFIN.out W' hR
            clear hvs HQ HFIN
            simp only [putFrom, e18, e19]
            simp only [Act.put, List.setIfInBounds_toArray, List.set_cons_zero, List.set_cons_succ]
            refine wpOp_store (w' := W'.setCell ⟨rr, k, none⟩ (.bool (bits .and .i64 (x / 2 ^ k) 1 == 1))) rfl rfl rfl ?_ ?_
            · go_simp
            clear y1 y2 y3 y4 y5 hR e18 e19
            generalize W'.setCell ⟨rr, k, none⟩ (.bool (bits .and .i64 (x / 2 ^ k) 1 == 1)) = W6 at HF0 ⊢
            have HF1 := Lib.hid HF0
            clear HF0
            go_wp2_with fail
            go_roundw
            case rel => exact ⟨k + 1, by omega, by go_num, HF1.out.1, HF1.out.2.1, HF1.out.2.2⟩
            case measure => simp [intOf]; omega
        · obtain rfl : n = k := by omega
          have HQ := Lib.hid hQ.done
          have HP := Lib.hid hP
          have HK := Lib.hid hok
          clear hQ hP hok hlt2
          go_wp2_with fail
          go_roundw
          case rel => first | exact ⟨i + 1, by omega, by go_num, HQ.out, HP.out, HK.out⟩ | exact ⟨_, _, _, _, ⟨i + 1, by omega, by go_num, HQ.out, HP.out, HK.out⟩, rfl, rfl, rfl, rfl⟩
          case measure => simp [intOf]; omega
    · obtain rfl : n = i := by omega
      clear hlt hi
      have hH := hQ.all
      have hd0 := h3
      have KS : Hid (∀ W', Ok w W' → HearsAt W' hb n (linked ll) → Calls Try.prog 18 #[.slice C n c2, .slice (some ⟨hb, 0, none⟩) n n] W' fun e w' => ∃ (g : Nat) (o : Nat → Int), e = .returned (.slice (some ⟨g, 0, none⟩) n n) ∧ (∀ i, i < n → Route.Lev n (coreOf cl) (linked ll) n i (o i)) ∧ OutAt w' g n o ∧ Ok W' w') := Lib.hid fun W' k h => ref15Shortest C cl c2 n hb (linked ll) W' (HC.out W' k) HCn.out hn12 h
      have KN : Hid (∀ w1 A l c m, IntsAt w1 A l → l.length = m → m ≤ n → Calls Try.prog 10 #[parV p, .slice A m c] w1 fun e w' => e = .returned (.int .i64 (Route.next p.d l)) ∧ Ok w1 w') := Lib.hid fun w1 A l c m h h2 h5 => routeNext p A l m c w1 h h2 (by omega) h3
      have HCC : Hid (∀ W', Ok w W' → ∀ i, i < n → ∃ b off, C = some ⟨b, off, none⟩ ∧ b < W'.heap.size ∧ W'.cell? ⟨b, off + i, none⟩ = some (.bool (coreOf cl i))) := Lib.hid fun W' k i hi => coreOf_at (HC.out W' k) (by rw [HCn.out]; exact hi)
      have HWP : Hid (w.heap.size = P) := Lib.hid HB.out.2.1
      clear hQ HC HCn HLL HB hmk2
      generalize linked ll = f at hH KS
      generalize coreOf cl = core at KS HCC
      go_upto_region 18 with (at_builtin; refine wpList_append_ints rfl (.tmp 85) (.tmp 86) 24 rfl wr.heap.size 3 Try.underlying24 infoInt15 _ [] 0 rfl rfl (row_zero wr 3 3 1 rfl) S sl n c1 HSn.out.symm rfl (HS.out _ (hok.alloc _)) (by have := HSn.out; simp; omega) (by simp) ?_; intro v' w3 hr2 hg2; simp only [List.nil_append] at hr2; obtain ⟨A0, c4, rfl, hI0⟩ := IntsAt.of_own hr2; have hk3 : Ok wr w3 := Below.grown ((Ok.refl wr).alloc _) hg2 ((Ok.refl wr).alloc _).size (fun k hk => by cases hk; exact Nat.le_refl _); rw [HSn.out]; clear hr2 hg2)
      replace hP := hP.next hk3
      replace hH := hH.below hk3
      replace hok := hok.trans hk3
      have hN := NowAt.of_ints hI0 HSn.out
      clear hk3 hI0 HS HSn
      generalize (fun j => sl.getD j 0) = v0 at hN
      have hD : ((p.d.toNat : Nat) : Int) = p.d := Int.toNat_of_nonneg h3.1
      have HD := Lib.hid hD
      clear hD
      go_wp2
      go_loopw [13, 14] (fun now q wr => ∃ (b : Nat) (A : Option Addr) (c : Nat) (v : Nat → Int), (b : Int) ≤ p.d + 1 ∧ q = .int .i64 b ∧ now = .slice A n c ∧ NowAt wr A n v ∧ Hid (b ≠ 0 → Route.Told n core f p.d.toNat b v) ∧ HearsAt wr hb n f ∧ Own wr P (parCells p) ∧ Ok w wr) (fun _ q _ => (p.d + 1 - intOf q).toNat)
      case atStart => exact ⟨0, A0, c4, v0, by omega, rfl, rfl, hN, Lib.hid (fun h => absurd rfl h), hH, hP, hok⟩
      case round =>
        clear hP hH hok hN
        obtain ⟨b, A, c, v, hb1, rfl, rfl, hN, HT, hH, hP, hok⟩ := hrel
        obtain ⟨p0, p1, p2, p3, p4, p5, p6, p7, p8, p9, p10, p11⟩ := hP.pars
        have hpl := hP.lt
        have hwd : IntKind.i64.wrap (p.d + 1) = p.d + 1 := IntWalk.i64_in _ ⟨by omega, by omega⟩
        by_cases hlt : (b : Int) < p.d + 1
        · obtain ⟨W2, rfl⟩ : ∃ W2, W2 = wr := ⟨_, rfl⟩
          have HN := Lib.hid fun W' (k : Ok W2 W') => hN.below k
          have HH := Lib.hid fun W' (k : Ok W2 W') => hH.below k
          have HCW : Hid (∀ W', Ok W2 W' → ∀ i, i < n → ∃ b off, C = some ⟨b, off, none⟩ ∧ b < W2.heap.size ∧ W'.cell? ⟨b, off + i, none⟩ = some (.bool (core i))) := Lib.hid fun W' k i hi => by
            obtain ⟨b1, off1, e1, g1, _⟩ := HCC.out W2 hok i hi
            obtain ⟨b2, off2, e2, g2, g3⟩ := HCC.out W' (hok.trans k) i hi
            rw [e1] at e2
            cases e2
            exact ⟨b1, off1, e1, g1, g3⟩
          have HK := Lib.hid hok
          have hO : OutAt (W2.alloc (.cells (Array.replicate n (.int .i64 0)) 3)) W2.heap.size n (fun _ => 0) := RowOf.new W2 _ n _ rfl
          have hP1 := hP.alloc (.cells (Array.replicate n (.int .i64 0)) 3)
          have hk1 := (Ok.refl W2).alloc (.cells (Array.replicate n (.int .i64 0)) 3)
          clear hN hH hP hok HCC KS
          go_upto_region 22 with (fail)
          clear p0 p1 p2 p3 p4 p5 p6 p7 p8 p9 p10 p11
          generalize W2.alloc (.cells (Array.replicate n (.int .i64 0)) 3) = W4 at hO hP1 hk1 ⊢
          obtain ⟨g, hg⟩ : ∃ g, W2.heap.size = g := ⟨_, rfl⟩
          have HG := Lib.hid (And.intro hg hpl)
          rw [hg] at hO ⊢
          clear hg hpl
          go_wp2
          go_loopw [99] (fun q wr => ∃ i : Nat, i ≤ n ∧ q = .int .i64 i ∧ (∃ o, OutAt wr g n o ∧ Hid (∀ j, j < i → o j = Route.step p.d.toNat b n core f v j)) ∧ Own wr P (parCells p) ∧ Ok W2 wr) (fun q _ => n - (intOf q).toNat)
          case atStart => exact ⟨0, Nat.zero_le _, rfl, ⟨_, hO, Lib.hid fun j hj => absurd hj (Nat.not_lt_zero j)⟩, hP1, hk1⟩
          case round =>
            clear hO hP1 hk1
            obtain ⟨i, hi, rfl, ⟨o, hO, HU⟩, hP, hk⟩ := hrel
            by_cases hlt2 : i < n
            · obtain ⟨W5, rfl⟩ : ∃ W5, W5 = wr := ⟨_, rfl⟩
              obtain ⟨K, hKe⟩ : ∃ K, W5.heap.size = K := ⟨_, rfl⟩
              have HKK : Hid (g < K ∧ P < K ∧ W2.heap.size ≤ K) := Lib.hid (by rw [← hKe]; exact ⟨hO.lt, hP.lt, hk.size⟩)
              have HKe := Lib.hid (Nat.le_of_eq hKe.symm)
              clear hKe
              go_wp2
              go_loopw [17, 104] (fun vl q wr => ∃ k : Nat, k ≤ n ∧ q = .int .i64 k ∧ wr.ownsRow K 3 1 vl (Route.tell b core f v i k).length ((Route.tell b core f v i k).map (Value.int .i64)) ∧ OutAt wr g n o ∧ Own wr P (parCells p) ∧ Ok W2 wr ∧ K ≤ wr.heap.size) (fun _ q _ => n - (intOf q).toNat)
              case atStart => exact ⟨0, Nat.zero_le _, rfl, World.ownsRow_nil _ _ _ _, hO, hP, hk, HKe.out⟩
              case round =>
                clear hO hP hk HKe
                obtain ⟨k, hk, rfl, hR, hO, hP, hok, hKw⟩ := hrel
                by_cases hlt3 : k < n
                · have hni : ¬ (n : Int) ≤ (i : Int) := by omega
                  have hnk : ¬ (n : Int) ≤ (k : Int) := by omega
                  have hhl := (HH.out wr hok).1
                  obtain ⟨r, h1, h2, h5⟩ := (HH.out wr hok).2 i hlt2
                  have h6 := h5 k hlt3
                  obtain ⟨bc, offc, hCe, hcl, hcc⟩ := HCW.out wr hok k hlt3
                  subst hCe
                  obtain ⟨bn, offn, hAe, hnl, hnc⟩ := HN.out wr hok k hlt3
                  subst hAe
                  have HR := Lib.hid hR
                  have HO := Lib.hid hO
                  have HP := Lib.hid hP
                  have HOK := Lib.hid hok
                  have HKw := Lib.hid hKw
                  have HLn := Lib.hid (Route.tell_len (b := b) (core := core) (hears := f) (v := v) (i := i) k)
                  have hcl2 := cell_lt hcc
                  clear hR hO hP hok hKw h5 hcl
                  cases hf : f i k
                  · rw [hf] at h6
                    have HT1 : Hid (Route.tell b core f v i (k + 1) = Route.tell b core f v i k) := Lib.hid (by
                      conv => lhs; unfold Route.tell
                      rw [hf]; simp)
                    clear hf
                    go_wp2_with fail
                    go_roundw
                    case rel => exact ⟨k + 1, by omega, by go_num, by rw [HT1.out]; exact HR.out, HO.out, HP.out, HOK.out, HKw.out⟩
                    case measure => simp [intOf]; omega
                  · rw [hf] at h6
                    have HT0 : Hid (Route.tell b core f v i (k + 1) = Route.tell b core f v i k ++ [if b ≠ 0 ∧ core k = true then 0 else v k]) := Lib.hid (by
                      conv => lhs; unfold Route.tell
                      rw [hf, if_pos rfl])
                    clear hf
                    by_cases hb0 : (0 : Int) < (b : Int)
                    · cases hc : core k
                      · rw [hc] at hcc
                        have HT1 := HT0
                        rw [hc, if_neg (by simp)] at HT1
                        clear hc HT0
                        go_wp2_with (at_builtin; refine wpList_append_ints rfl (.tmp 134) (.tmp 139) 24 rfl K 3 Try.underlying24 infoInt15 _ (Route.tell b core f v i k) _ rfl rfl (HR.out.alloc _) _ [v k] 1 _ rfl rfl (ints_new _ _ _ _ rfl rfl) (by have := HLn.out; simp; omega) (by have := HKw.out; simp; omega) ?_; intro v' w' hr2 hg2; have HR2 := Lib.hid hr2; have HO2 := Lib.hid ((HO.out.next ((Ok.refl wr).alloc _)).grown hg2 (fun j hj e => by have := (HR.out.lt j hj).1; have := HKK.out.1; omega)); have HP2 := Lib.hid ((HP.out.alloc _).grownBy hg2 (fun j hj e => by have := (HR.out.lt j hj).1; have := HKK.out.2.1; omega)); have HK2 := Lib.hid (Below.grown (HOK.out.alloc _) hg2 (HOK.out.alloc _).size fun j hj => Nat.le_trans HKK.out.2.2 (HR.out.lt j hj).1); have HW2 := Lib.hid (Nat.le_trans HKw.out (Nat.le_trans (below_alloc wr _).size hg2.size)); clear hr2 hg2)
                        go_roundw
                        case rel => exact ⟨k + 1, by omega, by go_num, by rw [HT1.out]; exact HR2.out, HO2.out, HP2.out, HK2.out, HW2.out⟩
                        case measure => simp [intOf]; omega
                      · rw [hc] at hcc
                        have HT1 := HT0
                        rw [hc, if_pos ⟨by omega, rfl⟩] at HT1
                        clear hc HT0
                        go_wp2_with (at_builtin; refine wpList_append_ints rfl (.tmp 124) (.tmp 125) 24 rfl K 3 Try.underlying24 infoInt15 _ (Route.tell b core f v i k) _ rfl rfl (HR.out.alloc _) _ [0] 1 _ rfl rfl (ints_new _ _ _ _ rfl rfl) (by have := HLn.out; simp; omega) (by have := HKw.out; simp; omega) ?_; intro v' w' hr2 hg2; have HR2 := Lib.hid hr2; have HO2 := Lib.hid ((HO.out.next ((Ok.refl wr).alloc _)).grown hg2 (fun j hj e => by have := (HR.out.lt j hj).1; have := HKK.out.1; omega)); have HP2 := Lib.hid ((HP.out.alloc _).grownBy hg2 (fun j hj e => by have := (HR.out.lt j hj).1; have := HKK.out.2.1; omega)); have HK2 := Lib.hid (Below.grown (HOK.out.alloc _) hg2 (HOK.out.alloc _).size fun j hj => Nat.le_trans HKK.out.2.2 (HR.out.lt j hj).1); have HW2 := Lib.hid (Nat.le_trans HKw.out (Nat.le_trans (below_alloc wr _).size hg2.size)); clear hr2 hg2)
                        go_roundw
                        case rel => exact ⟨k + 1, by omega, by go_num, by rw [HT1.out]; exact HR2.out, HO2.out, HP2.out, HK2.out, HW2.out⟩
                        case measure => simp [intOf]; omega
                    · have HT1 := HT0
                      rw [if_neg (fun h => h.1 (by omega))] at HT1
                      clear HT0
                      go_wp2_with (at_builtin; refine wpList_append_ints rfl (.tmp 134) (.tmp 139) 24 rfl K 3 Try.underlying24 infoInt15 _ (Route.tell b core f v i k) _ rfl rfl (HR.out.alloc _) _ [v k] 1 _ rfl rfl (ints_new _ _ _ _ rfl rfl) (by have := HLn.out; simp; omega) (by have := HKw.out; simp; omega) ?_; intro v' w' hr2 hg2; have HR2 := Lib.hid hr2; have HO2 := Lib.hid ((HO.out.next ((Ok.refl wr).alloc _)).grown hg2 (fun j hj e => by have := (HR.out.lt j hj).1; have := HKK.out.1; omega)); have HP2 := Lib.hid ((HP.out.alloc _).grownBy hg2 (fun j hj e => by have := (HR.out.lt j hj).1; have := HKK.out.2.1; omega)); have HK2 := Lib.hid (Below.grown (HOK.out.alloc _) hg2 (HOK.out.alloc _).size fun j hj => Nat.le_trans HKK.out.2.2 (HR.out.lt j hj).1); have HW2 := Lib.hid (Nat.le_trans HKw.out (Nat.le_trans (below_alloc wr _).size hg2.size)); clear hr2 hg2)
                      go_roundw
                      case rel => exact ⟨k + 1, by omega, by go_num, by rw [HT1.out]; exact HR2.out, HO2.out, HP2.out, HK2.out, HW2.out⟩
                      case measure => simp [intOf]; omega
                · obtain rfl : n = k := by omega
                  clear hlt3 hk
                  obtain ⟨A5, c5, rfl, hI5⟩ := IntsAt.of_own hR
                  have hle : (Route.tell b core f v i n).length ≤ n := Route.tell_len n
                  have HSt : Hid (Route.step p.d.toNat b n core f v i = if core i = true then 0 else Route.next p.d (Route.tell b core f v i n)) := Lib.hid (by unfold Route.step; rw [HD.out])
                  generalize Route.tell b core f v i n = tl at hI5 hle HSt
                  have KN2 := Lib.hid fun w1 (h : IntsAt w1 A5 tl) => KN.out w1 A5 tl c5 _ h rfl hle
                  obtain ⟨q, hq⟩ : ∃ q, Route.next p.d tl = q := ⟨_, rfl⟩
                  rw [hq] at KN2 HSt
                  clear hq hR
                  obtain ⟨p0, p1, p2, p3, p4, p5, p6, p7, p8, p9, p10, p11⟩ := hP.pars
                  have hpl := hP.lt
                  have hni : ¬ (n : Int) ≤ (i : Int) := by omega
                  go_upto_region 35 with (go_at_call 10; (with_reducible refine (KN2.out _ hI5).mono ?_); rintro e w6 ⟨rfl, hb6⟩; have hO6 := hO.next hb6; have hP6 := hP.next hb6; have hok6 := hok.trans hb6; clear hb6 p0 p1 p2 p3 p4 p5 p6 p7 p8 p9 p10 p11 hpl; have o0 := hO6.cell hlt2; have f0 := hO6.frozen i; have hgl := hO6.lt)
                  have HO7 : Hid (OutAt (w6.setCell ⟨g, i, none⟩ (.int .i64 q)) g n (fun j => if j = i then q else o j)) := Lib.hid (hO6.set hlt2 _ (fun j _ => by by_cases e : j = i <;> simp [e]))
                  have hPg : P ≠ g := by have := HG.out; omega
                  have HP7 := Lib.hid (hP6.setOther (a := ⟨g, i, none⟩) hPg (.int .i64 q))
                  have HK7 := Lib.hid (hok6.setCell (p := ⟨g, i, none⟩) (Nat.le_of_eq HG.out.1) (.int .i64 q))
                  have HPg := Lib.hid hPg
                  clear hO6 hP6 hok6 o0 f0 hgl hO hP hok hI5 KN2 hPg
                  generalize w6.setCell ⟨g, i, none⟩ (.int .i64 q) = W7 at HO7 HP7 HK7 ⊢
                  obtain ⟨bc, offc, hCe, hcl, hcc⟩ := HCW.out W7 HK7.out i hlt2
                  subst hCe
                  have hcl2 := cell_lt hcc
                  clear hcl
                  cases hc : core i
                  · rw [hc] at hcc
                    have HU2 : Hid (∀ j, j < i + 1 → (if j = i then q else o j) = Route.step p.d.toNat b n core f v j) := Lib.hid fun j hj => by
                      by_cases e : j = i
                      · subst e; rw [if_pos rfl, HSt.out, hc, if_neg (by simp)]
                      · rw [if_neg e]; exact HU.out j (by omega)
                    clear hc HSt
                    go_wp2_with fail
                    go_roundw
                    case rel => first | exact ⟨i + 1, by omega, by go_num, ⟨_, HO7.out, HU2⟩, HP7.out, HK7.out⟩ | exact ⟨_, _, _, _, ⟨i + 1, by omega, by go_num, ⟨_, HO7.out, HU2⟩, HP7.out, HK7.out⟩, rfl, rfl, rfl, rfl⟩
                    case measure => simp [intOf]; omega
                  · rw [hc] at hcc
                    have HU2 : Hid (∀ j, j < i + 1 → (if j = i then 0 else o j) = Route.step p.d.toNat b n core f v j) := Lib.hid fun j hj => by
                      by_cases e : j = i
                      · subst e; rw [if_pos rfl, HSt.out, hc, if_pos rfl]
                      · rw [if_neg e]; exact HU.out j (by omega)
                    have HO8 : Hid (OutAt (W7.setCell ⟨g, i, none⟩ (.int .i64 0)) g n (fun j => if j = i then 0 else o j)) := Lib.hid (HO7.out.set hlt2 _ (fun j _ => by by_cases e : j = i <;> simp [e]))
                    have HP8 := Lib.hid (HP7.out.setOther (a := ⟨g, i, none⟩) HPg.out (.int .i64 0))
                    have HK8 := Lib.hid (HK7.out.setCell (p := ⟨g, i, none⟩) (Nat.le_of_eq HG.out.1) (.int .i64 0))
                    have o0 := HO7.out.cell hlt2
                    have f0 := HO7.out.frozen i
                    have hgl := HO7.out.lt
                    clear hc HSt
                    go_wp2_with fail
                    go_roundw
                    case rel => first | exact ⟨i + 1, by omega, by go_num, ⟨_, HO8.out, HU2⟩, HP8.out, HK8.out⟩ | exact ⟨_, _, _, _, ⟨i + 1, by omega, by go_num, ⟨_, HO8.out, HU2⟩, HP8.out, HK8.out⟩, rfl, rfl, rfl, rfl⟩
                    case measure => simp [intOf]; omega
            · obtain rfl : n = i := by omega
              have HN2 := Lib.hid (NowAt.of_row (hO.mono (ψ := fun j => .int .i64 (Route.step p.d.toNat b n core f v j)) (fun j hj => by rw [HU.out j hj])))
              have HT2 : Hid (b + 1 ≠ 0 → Route.Told n core f p.d.toNat (b + 1) (fun j => Route.step p.d.toNat b n core f v j)) := Lib.hid fun _ => Route.Told.step HT.out
              have HH2 := Lib.hid (HH.out wr hk)
              have HP2 := Lib.hid hP
              have HK2 := Lib.hid (HK.out.trans hk)
              clear hO hP hk HU HT HN HH
              go_wp2_with fail
              go_roundw
              case rel => first | exact ⟨b + 1, some ⟨g, 0, none⟩, n, _, by omega, by go_num, rfl, HN2.out, HT2, HH2.out, HP2.out, HK2.out⟩ | exact ⟨_, _, _, _, ⟨b + 1, some ⟨g, 0, none⟩, n, _, by omega, by go_num, rfl, HN2.out, HT2, HH2.out, HP2.out, HK2.out⟩, rfl, rfl, rfl, rfl⟩
              case measure => simp [intOf]; omega
        · have hbD : b = p.d.toNat + 1 := by have := HD.out; omega
          have HTT : Hid (∀ i, i < n → ∀ dd : Int, Route.Lev n core f n i dd → v i = if dd > p.d ∨ dd < 0 then p.d + 1 else dd) := Lib.hid fun i hi dd hl => by
            have h := HT.out (by omega)
            rw [hbD] at h
            have := h.same hi hl
            rw [HD.out] at this
            exact this
          clear hbD HT HCC KN HWP
          go_wp2_with (go_at_call 18; (with_reducible refine (KS.out _ hok hH).mono ?_); rintro e w6 ⟨g, o, rfl, hLv, hO, hb6⟩; have hP6 := hP.next hb6; have hok6 := hok.trans hb6; have hN6 := hN.below hb6; clear hb6 p0 p1 p2 p3 p4 p5 p6 p7 p8 p9 p10 p11 hpl)
          have HOK := Lib.hid hok6
          obtain ⟨p0, p1, p2, p3, p4, p5, p6, p7, p8, p9, p10, p11⟩ := hP6.pars
          have hpl := hP6.lt
          clear hP hok hN hH hok6 hP6 KS p0 p1 p3 p4 p5 p6 p7 p8 p9 p10 p11
          have hne : (p.d + 1 != p.d + 1) = false := by simp
          have HLv := Lib.hid hLv
          clear hLv
          go_loop [161] (fun q => ∃ i : Nat, i ≤ n ∧ q = .int .i64 i) (fun q => n - (intOf q).toNat)
          case atStart => exact ⟨0, Nat.zero_le _, rfl⟩
          case round =>
            obtain ⟨i, hi, rfl⟩ := hrel
            by_cases hlt2 : i < n
            · have hni : ¬ (n : Int) ≤ (i : Int) := by omega
              obtain ⟨bn, offn, hAe, hnl, hnc⟩ := hN6 i hlt2
              subst hAe
              have o1 := hO.cell hlt2
              have hgl := hO.lt
              have hbd := (HLv.out i hlt2).bd
              have hv := HTT.out i hlt2 _ (HLv.out i hlt2)
              generalize o i = dd at o1 hbd hv
              generalize v i = vv at hnc hv
              by_cases c1 : p.d < dd
              · rw [if_pos (Or.inl c1)] at hv
                subst hv
                go_wp2_with fail
                go_round
                case rel => exact ⟨i + 1, by omega, by go_num⟩
                case measure => simp [intOf]; omega
              · by_cases c2 : dd < 0
                · rw [if_pos (Or.inr c2)] at hv
                  subst hv
                  go_wp2_with fail
                  go_round
                  case rel => exact ⟨i + 1, by omega, by go_num⟩
                  case measure => simp [intOf]; omega
                · rw [if_neg (by omega)] at hv
                  subst hv
                  have hne2 : (vv != vv) = false := by simp
                  go_wp2_with fail
                  go_round
                  case rel => exact ⟨i + 1, by omega, by go_num⟩
                  case measure => simp [intOf]; omega
            · go_wp2_with fail
              go_ret
              exact ⟨rfl, HOK.out⟩
theorem walk (w : World) (p : Par) (wp : ParWf p) (S : Option Addr) (sl : List Int) (c1 : Nat) (hS : IntsAt w S sl) (hl1 : sl.length ≤ 9223372036854775807) (hw1 : ∀ x ∈ sl, (Lit.int .i64 x).wf = true)
    (C : Option Addr) (cl : List Bool) (c2 : Nat) (hC : BoolsAt w C cl) (hl2 : cl.length ≤ 9223372036854775807) (L : Option Addr) (ll : List Int) (c3 : Nat) (hL : IntsAt w L ll) (hl3 : ll.length ≤ 9223372036854775807) (hw3 : ∀ x ∈ ll, (Lit.int .i64 x).wf = true) :
    Calls Try.prog 6 #[parV p, .slice S sl.length c1, .slice C cl.length c2, .slice L ll.length c3] w fun e w' => e = .returned (.bool true) ∧ Below w.heap.size w w' := by
  by_cases h0 : p.d < 0 ∨ 16 < p.d
  · exact no1 w p S sl c1 C cl c2 L ll c3 h0
  by_cases h1 : 12 < sl.length
  · exact no2 w p S sl c1 C cl c2 L ll c3 h0 h1
  by_cases h4 : cl.length = sl.length
  · by_cases h6 : ll.length = sl.length
    · have := main w p S sl c1 sl.length C cl c2 L ll c3 hS hC hL (by omega) (by omega) rfl h4 h6
      rw [h4, h6]
      exact this
    · exact no4 w p S sl c1 C cl c2 L ll c3 h0 h1 h4 h6
  · exact no3 w p S sl c1 C cl c2 L ll c3 h0 h1 h4
theorem own : ownKnob Try.prog.godebug = none := by kernel_rfl
theorem laidOut : laidOutB Try.prog = true := by kernel_rfl
set_option maxRecDepth 100000 in
theorem lifted (os : Os) (started : os.Started) (H : Type) (enc : TypeId × Value → H) :
    ReturnsInHanded {} Try.checked os 6 .any (Rows.routeSettlesSpec.pre6 enc Try.prog Try.f6 Rows.routeSettlesRow.domain false) (Rows.routeSettlesSpec.post enc Try.prog Try.f6 false true false false) := by
  refine returnsInHanded_of_change (C := Try.checked) own started (by kernel_rfl) Try.func6
    (ChangeSpec.witness6 (enc := enc) (C := Try.checked) false ⟨#[], #[.agg #[.int .i64 0, .int .i64 0, .int .i64 0, .int .i64 0, .int .i64 0, .int .i64 0, .int .i64 0, .int .i64 0, .int .i64 0, .int .i64 0, .int .i64 0, .int .i64 0], .slice none 0 0, .slice none 0 0, .slice none 0 0], []⟩ 8 (by kernel_rfl) (by kernel_rfl) (by kernel_rfl) (by kernel_rfl)) ?_
  intro W base args ds gs before hval0 hW _ _
  have hval : ∀ (j : Nat) t v, Try.f6.params[j]? = some t → args[j]? = some v → Value.okWide Try.prog W .any base t v := hval0
  have hW' := hW
  obtain ⟨p, q, hA, hV, rfl, _, _⟩ := hW
  obtain ⟨rfl, rfl⟩ := trodVars_none hV
  replace hA : DataW.TrodAll enc Try.prog W 0 (fun _ => true) true Try.f6.params.toList args.toList ds p := hA
  rw [Try.params6] at hA hval
  obtain ⟨v0, vs0, d0, ds0, p0, q0, hargs, rfl, rfl, h0, r0⟩ := trodAll_cons hA
  obtain ⟨v1, vs1, d1, ds1, p1, q1, rfl, rfl, rfl, h1, r1⟩ := trodAll_cons r0
  obtain ⟨v2, vs2, d2, ds2, p2, q2, rfl, rfl, rfl, h2, r2⟩ := trodAll_cons r1
  obtain ⟨v3, vs3, d3, ds3, p3, q3, rfl, rfl, rfl, h3, r3⟩ := trodAll_cons r2
  obtain ⟨rfl, rfl, rfl⟩ := trodAll_nil r3
  obtain rfl : args = #[v0, v1, v2, v3] := by cases args; simp_all
  obtain ⟨p0, rfl, wp0⟩ := open_par Try.underlying23 rfl (by kernel_rfl) (by kernel_rfl) (by kernel_rfl) (hval 0 23 v0 rfl rfl) h0
  obtain ⟨A1, l1, c1, rfl, hA1, hl1, hw1⟩ := open_sliceK Try.underlying24 Try.underlying3 (by kernel_rfl) (hval 1 24 v1 rfl rfl) h1
  obtain ⟨A2, l2, c2, rfl, hA2, hl2⟩ := open_bools Try.underlying45 Try.underlying4 (by kernel_rfl) (hval 2 45 v2 rfl rfl) h2
  obtain ⟨A3, l3, c3, rfl, hA3, hl3, hw3⟩ := open_sliceK Try.underlying24 Try.underlying3 (by kernel_rfl) (hval 3 24 v3 rfl rfl) h3
  refine (walk W p0 wp0 A1 l1 c1 hA1 hl1 hw1 A2 l2 c2 hA2 hl2 A3 l3 c3 hA3 hl3 hw3).mono fun e W' ⟨he, hb⟩ => ?_
  subst he
  exact ⟨_, rfl, law_post hW' laidOut (by rw [Try.params6]; exact params_ok (by kernel_rfl)) rfl (by kernel_rfl) Try.underlying4 rfl rfl rfl hb⟩
theorem over : Rows.routeSettlesRow.holds Try.pinned (OpenSpec.ofChange Rows.routeSettlesSpec) :=
  OpenClaim.holds_of_wide 6 Try.f6 rfl rfl rfl rfl rfl rfl rfl ⟨rfl, rfl, rfl, rfl, rfl⟩ rfl rfl rfl rfl rfl (by kernel_rfl) Try.func6 (by kernel_rfl)
    (of_decide_eq_true (by kernel_rfl)) (by unfold Func.isWrapper; first | (rw [if_pos (by decide +kernel)]; kernel_rfl) | (rw [if_neg (by decide +kernel)]; exact ⟨rfl, rfl⟩))
    (fun os started H enc _ => lifted os started H enc)
theorem proved : Rows.RouteSettlesSaid := over
end Go.Proofs.Ytgkcmiaagbgajaa.routeSettles
