/- Contracts of layer 16: Held and Fuse, the program's and the document's. -/
import Derived.Test.YtlbijepejihjgaaC16a
import Derived.Test.YtlbijepejihjgaaC07h
import Derived.Deep.CutRange
namespace Go.Proofs.Ytlbijepejihjgaa
open Go.RowKit
set_option linter.unusedVariables false
set_option maxRecDepth 100000
attribute [local go_sem ↓] Go.wp_at_zero Go.wp_at_succ
theorem anchorHeld (p : Par) (A : Option Addr) (l : List Int) (cap : Nat) (w : World) (hI : IntsAt w A l) (hl : l.length ≤ 1099511627776) :
    Calls Try.prog 10 #[parV p, .slice A l.length cap] w fun e w' => e = .returned (.tuple #[.int .i64 (Anchor.held p.f l), .bool (Trim.is p.f l.length)]) ∧ Ok w w' := by
  have KL := Lib.hid fun w h => trimLeast p.f A l cap w h hl
  have KM := Lib.hid fun w => anchorMore (Trim.val p.f l) w
  have HE := Lib.hid (show Anchor.held p.f l = if Trim.is p.f l.length = true then Anchor.more (Trim.val p.f l) else 1073741824 from rfl)
  have hI2 := hI.alloc (.cells (parCells p) 23)
  have hok := (Ok.refl w).alloc (.cells (parCells p) 23)
  have hP := Own.new w (parCells p) 23 rfl
  generalize Anchor.held p.f l = z at HE ⊢
  generalize Anchor.more (Trim.val p.f l) = m at HE KM
  generalize Trim.val p.f l = v at KL KM
  generalize Trim.is p.f l.length = q at KL HE ⊢
  cases q
  · have hz : z = 1073741824 := HE.out
    subst hz
    clear HE KM
    go_enter Try.func10, Try.ntmps10
    go_upto_region 1 with fail
    generalize w.alloc (.cells (parCells p) 23) = W at hP hok hI2 ⊢
    obtain ⟨B, hB⟩ : ∃ r, w.heap.size = r := ⟨_, rfl⟩
    rw [hB] at hP ⊢
    clear hB
    obtain ⟨c0, c1, c2, c3, c4, c5, c6, c7, c8, c9, c10, c11⟩ := hP.pars
    have hPl := hP.lt
    go_wp2_with (go_at_call 25; refine (KL.out _ hI2).mono ?_; rintro e w1 ⟨rfl, hb1⟩; replace hok := hok.trans hb1; clear hb1)
    go_ret2
    exact ⟨rfl, hok⟩
  · have hz : z = m := HE.out
    subst hz
    clear HE
    go_enter Try.func10, Try.ntmps10
    go_upto_region 1 with fail
    generalize w.alloc (.cells (parCells p) 23) = W at hP hok hI2 ⊢
    obtain ⟨B, hB⟩ : ∃ r, w.heap.size = r := ⟨_, rfl⟩
    rw [hB] at hP ⊢
    clear hB
    obtain ⟨c0, c1, c2, c3, c4, c5, c6, c7, c8, c9, c10, c11⟩ := hP.pars
    have hPl := hP.lt
    go_wp2_with (first | (go_at_call 25; refine (KL.out _ hI2).mono ?_; rintro e w1 ⟨rfl, hb1⟩; replace hok := hok.trans hb1; clear hb1) | (go_at_call 14; refine (KM.out _).mono ?_; rintro e w2 ⟨rfl, hb1⟩; replace hok := hok.trans hb1; clear hb1))
    go_ret2
    exact ⟨rfl, hok⟩
theorem ref16Held (p : Par) (A : Option Addr) (l : List Int) (cap : Nat) (w : World) (hI : IntsAt w A l) (hl : l.length ≤ 1099511627776) :
    Calls Try.prog 11 #[parV p, .slice A l.length cap] w fun e w' => e = .returned (.tuple #[.int .i64 (Anchor.held p.f l), .bool (Trim.is p.f l.length)]) ∧ Ok w w' := by
  have KL := Lib.hid fun w h => ref7Least p.f A l cap w h hl
  have KM := Lib.hid fun w => ref16More (Trim.val p.f l) w
  have HE := Lib.hid (show Anchor.held p.f l = if Trim.is p.f l.length = true then Anchor.more (Trim.val p.f l) else 1073741824 from rfl)
  have hI2 := hI.alloc (.cells (parCells p) 23)
  have hok := (Ok.refl w).alloc (.cells (parCells p) 23)
  have hP := Own.new w (parCells p) 23 rfl
  generalize Anchor.held p.f l = z at HE ⊢
  generalize Anchor.more (Trim.val p.f l) = m at HE KM
  generalize Trim.val p.f l = v at KL KM
  generalize Trim.is p.f l.length = q at KL HE ⊢
  cases q
  · have hz : z = 1073741824 := HE.out
    subst hz
    clear HE KM
    go_enter Try.func11, Try.ntmps11
    go_upto_region 1 with fail
    generalize w.alloc (.cells (parCells p) 23) = W at hP hok hI2 ⊢
    obtain ⟨B, hB⟩ : ∃ r, w.heap.size = r := ⟨_, rfl⟩
    rw [hB] at hP ⊢
    clear hB
    obtain ⟨c0, c1, c2, c3, c4, c5, c6, c7, c8, c9, c10, c11⟩ := hP.pars
    have hPl := hP.lt
    go_wp2_with (go_at_call 26; refine (KL.out _ hI2).mono ?_; rintro e w1 ⟨rfl, rfl⟩)
    go_ret2
    exact ⟨rfl, hok⟩
  · have hz : z = m := HE.out
    subst hz
    clear HE
    go_enter Try.func11, Try.ntmps11
    go_upto_region 1 with fail
    generalize w.alloc (.cells (parCells p) 23) = W at hP hok hI2 ⊢
    obtain ⟨B, hB⟩ : ∃ r, w.heap.size = r := ⟨_, rfl⟩
    rw [hB] at hP ⊢
    clear hB
    obtain ⟨c0, c1, c2, c3, c4, c5, c6, c7, c8, c9, c10, c11⟩ := hP.pars
    have hPl := hP.lt
    go_wp2_with (first | (go_at_call 26; refine (KL.out _ hI2).mono ?_; rintro e w1 ⟨rfl, rfl⟩) | (go_at_call 15; refine (KM.out _).mono ?_; rintro e w2 ⟨rfl, hb1⟩; replace hok := hok.trans hb1; clear hb1))
    go_ret2
    exact ⟨rfl, hok⟩
theorem anchorFuse (p : Par) (A : Option Addr) (l : List (Int × Int)) (cap : Nat) (w : World) (hA : PairsAt w A l) (hl : l.length ≤ 1099511627776) (hf : -9223372036854775808 ≤ p.f ∧ p.f ≤ 9223372036854775807) :
    Calls Try.prog 12 #[parV p, .slice A l.length cap] w fun e w' => e = .returned (.tuple #[spanV (fz p.f l).1 (fz p.f l).2, .bool (fLeft p.f l)]) ∧ Ok w w' := by
  have KF := Lib.hid fun w h => trimFuse p.f A l cap w h hl hf
  generalize (fz p.f l).1 = x at KF ⊢
  generalize (fz p.f l).2 = y at KF ⊢
  generalize fLeft p.f l = q at KF ⊢
  have hP := (Own.new w (parCells p) 23 rfl).alloc (.cells #[.int .i64 0, .int .i64 0] 28)
  have hZ := Slab.new (w.alloc (.cells (parCells p) 23)) 0 0 28 (g := w.heap.size + 1) (by simp)
  have hok := ((Ok.refl w).alloc (.cells (parCells p) 23)).alloc (.cells #[.int .i64 0, .int .i64 0] 28)
  replace hA := hA.below hok
  have hrw : w.heap.size ≤ w.heap.size + 1 := by omega
  clear hf
  go_enter Try.func12, Try.ntmps12
  go_upto_region 1 with fail
  generalize (w.alloc (.cells (parCells p) 23)).alloc (.cells #[.int .i64 0, .int .i64 0] 28) = W at hP hZ hok hA ⊢
  obtain ⟨r, hr⟩ : ∃ r, w.heap.size + 1 = r := ⟨_, rfl⟩
  rw [hr] at hZ hrw ⊢
  clear hr
  obtain ⟨B, hB⟩ : ∃ r, w.heap.size = r := ⟨_, rfl⟩
  rw [hB] at hP hrw ⊢
  obtain ⟨c0, c1, c2, c3, c4, c5, c6, c7, c8, c9, c10, c11⟩ := hP.pars
  have hPl := hP.lt
  go_wp2_with (go_at_call 27; refine (KF.out _ hA).mono ?_; rintro e w1 ⟨rfl, hb1⟩; replace hok := hok.trans hb1; have hR := hZ.next hb1; clear hb1; have r0 := hR.c0; have r1 := hR.c1; have f0 := hR.f0; have f1 := hR.f1; have hrl := hR.lt)
  have hX := hR.set x y
  have hok3 := (hok.setCell (p := ⟨r, 0, none⟩) (hB ▸ hrw) (.int .i64 x)).setCell (p := ⟨r, 1, none⟩) (hB ▸ hrw) (.int .i64 y)
  generalize (w1.setCell ⟨r, 0, none⟩ (.int .i64 x)).setCell ⟨r, 1, none⟩ (.int .i64 y) = W4 at hX hok3 ⊢
  have s0 := hX.c0
  have s1 := hX.c1
  exact bodyPost_ret (v := .tuple #[spanV x y, .bool q]) (by simp [results, Try.results12, go_sem, s0, s1]) rfl ⟨rfl, hok3⟩
end Go.Proofs.Ytlbijepejihjgaa
