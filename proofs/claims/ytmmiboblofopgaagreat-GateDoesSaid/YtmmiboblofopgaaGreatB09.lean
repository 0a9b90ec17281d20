/- Several texts of mine in one: C16a, C16b, W06, C16c. -/
import Derived.Test.YtmmiboblofopgaaGreatB00
import Derived.Test.YtmmiboblofopgaaGreatB02
import Derived.Test.YtmmiboblofopgaaGreatB08
import Derived.Test.YtmmiboblofopgaaGreatMA
import Derived.Deep.CutRange
import Derived.Test.YtmmiboblofopgaaGreatB04
import Derived.Test.YtmmiboblofopgaaGreatB04
/- Contracts of layer 16: More and Seen, the program's and the document's. -/
namespace Go.Proofs.YtmmiboblofopgaaGreat
open Go.RowKit
set_option linter.unusedVariables false
set_option maxRecDepth 100000
attribute [local go_sem ↓] Go.wp_at_zero Go.wp_at_succ
theorem anchorMore (h : Int) (w : World) : Calls Tryz.prog 79 #[.int .i64 h] w fun e w' => e = .returned (.int .i64 (Anchor.more h)) ∧ Ok w w' := by
  have hok := Ok.refl w
  have KB := Lib.hid fun w => satBound (Sat.sum [h, 1]) 0 1073741824 w
  rw [show Sat.bound (Sat.sum [h, 1]) 0 1073741824 = Anchor.more h from rfl] at KB
  go_enter Tryz.func79, Tryz.ntmps79
  go_wp2_with (first | (go_at_call 55; refine (satAdd _ [h, 1] 2 _ (ints_new _ [h, 1] _ _ rfl (by simp)) (by simp)).mono ?_; rintro e w1 ⟨rfl, rfl⟩) | (go_at_call 61; refine (KB.out _).mono ?_; rintro e w1 ⟨rfl, rfl⟩))
  go_ret
  exact ⟨rfl, hok.alloc _⟩
theorem ref16More (h : Int) (w : World) : Calls Tryz.prog 46 #[.int .i64 h] w fun e w' => e = .returned (.int .i64 (Anchor.more h)) ∧ Ok w w' := by
  have hok := Ok.refl w
  have KB := Lib.hid fun w => refBound (Sat.sum [h, 1]) 0 1073741824 w
  rw [show Sat.bound (Sat.sum [h, 1]) 0 1073741824 = Anchor.more h from rfl] at KB
  go_enter Tryz.func46, Tryz.ntmps46
  go_wp2_with (first | (go_at_call 30; refine (refAdd _ [h, 1] 2 _ (ints_new _ [h, 1] _ _ rfl (by simp)) (by simp)).mono ?_; rintro e w1 ⟨rfl, rfl⟩) | (go_at_call 29; refine (KB.out _).mono ?_; rintro e w1 ⟨rfl, rfl⟩))
  go_ret
  exact ⟨rfl, hok.alloc _⟩
/-- What each operation leaves. -/
def VMSc (B : Nat) (p : Par) (x u s : Int) (w : World) (v : Value) : Nat → Prop
  | 0 => v = .int .i64 x
  | 1 => v = .pointer (some ⟨B, 7, none⟩)
  | 2 => v = .int .i64 p.eps
  | 3 => v = .int .i64 u
  | 4 => v = .int .i64 x
  | 5 => v = .pointer (some ⟨B, 7, none⟩)
  | 6 => v = .int .i64 p.eps
  | 7 => ∃ n : Addr, v = .slice (some n) 2 2 ∧ IntsAt w (some n) [x, p.eps]
  | 8 => v = .int .i64 s
  | 9 => v = spanV u s
  | _ => v = .bool true
/-- It stays so. -/
def VCSc (B : Nat) (p : Par) (x u s : Int) (i : Nat) (v : Value) (w : World) : Prop := ∀ w', Ok w w' → VMSc B p x u s w' v i
set_option maxHeartbeats 1600000 in
theorem anchorSeen (p : Par) (x : Int) (w : World) : Calls Tryz.prog 70 #[parV p, .int .i64 x] w fun e w' => e = .returned (.tuple #[spanV (Anchor.seen p x).1 (Anchor.seen p x).2, .bool (Anchor.is p x)]) ∧ Ok w w' := by
  have KA := Lib.hid fun w => satAbs x w
  have ha := Anchor.abs_le x
  generalize Sat.abs x = a at KA ha
  have KU := Lib.hid fun w => satSub x p.eps w
  have KS := Lib.hid fun w A h => satAdd A [x, p.eps] 2 w h (by simp)
  have KO := Lib.hid fun w => spanOf (Sat.sub x p.eps) (Sat.sum [x, p.eps]) w
  rw [show Sat.clip (Sat.sub x p.eps) = Sat.sub x p.eps from Sat.clip_clip _, Sat.clip_in (x := Sat.sum [x, p.eps]) (Sat.sum_bd _).1 (Sat.sum_bd _).2] at KO
  have hP := (Own.new w (parCells p) 23 rfl).alloc (.cells #[.int .i64 0, .int .i64 0] 25)
  have hZ := Slab.new (w.alloc (.cells (parCells p) 23)) 0 0 25 (g := w.heap.size + 1) (by simp)
  have hok := ((Ok.refl w).alloc (.cells (parCells p) 23)).alloc (.cells #[.int .i64 0, .int .i64 0] 25)
  have hrw : w.heap.size ≤ w.heap.size + 1 := by omega
  by_cases h1 : 1152921504606846976 < a
  · have hi : Anchor.is p x = false := decide_eq_false (by omega)
    have hs : Anchor.seen p x = (0, 0) := by unfold Anchor.seen; rw [hi]; rfl
    rw [hi, hs]
    clear hi hs KU KS KO ha
    go_enter Tryz.func70, Tryz.ntmps70
    go_upto_region 1 with fail
    generalize (w.alloc (.cells (parCells p) 23)).alloc (.cells #[.int .i64 0, .int .i64 0] 25) = W at hP hZ hok ⊢
    obtain ⟨r, hr⟩ : ∃ r, w.heap.size + 1 = r := ⟨_, rfl⟩
    rw [hr] at hZ hrw ⊢
    clear hr
    obtain ⟨B, hB⟩ : ∃ r, w.heap.size = r := ⟨_, rfl⟩
    have HBw := Lib.hid hB
    rw [hB] at hP ⊢
    clear hB
    obtain ⟨c0, c1, c2, c3, c4, c5, c6, c7, c8, c9, c10, c11⟩ := hP.pars
    have hPl := hP.lt
    have r0 := hZ.c0
    have r1 := hZ.c1
    have f0 := hZ.f0
    have f1 := hZ.f1
    have hrl := hZ.lt
    go_wp2_with (go_at_call 96; refine (KA.out _).mono ?_; rintro e w1 ⟨rfl, rfl⟩)
    have hX := hZ.set 0 0
    have hok3 := (hok.setCell (p := ⟨r, 0, none⟩) hrw (.int .i64 0)).setCell (p := ⟨r, 1, none⟩) hrw (.int .i64 0)
    generalize (W.setCell ⟨r, 0, none⟩ (.int .i64 0)).setCell ⟨r, 1, none⟩ (.int .i64 0) = W4 at hX hok3 ⊢
    have s0 := hX.c0
    have s1 := hX.c1
    exact bodyPost_ret (v := .tuple #[spanV 0 0, .bool false]) (by simp [results, Tryz.results70, go_sem, s0, s1]) rfl ⟨rfl, hok3⟩
  by_cases h2 : p.eps < 0
  · have hi : Anchor.is p x = false := decide_eq_false (by omega)
    have hs : Anchor.seen p x = (0, 0) := by unfold Anchor.seen; rw [hi]; rfl
    rw [hi, hs]
    clear hi hs KU KS KO ha
    go_enter Tryz.func70, Tryz.ntmps70
    go_upto_region 1 with fail
    generalize (w.alloc (.cells (parCells p) 23)).alloc (.cells #[.int .i64 0, .int .i64 0] 25) = W at hP hZ hok ⊢
    obtain ⟨r, hr⟩ : ∃ r, w.heap.size + 1 = r := ⟨_, rfl⟩
    rw [hr] at hZ hrw ⊢
    clear hr
    obtain ⟨B, hB⟩ : ∃ r, w.heap.size = r := ⟨_, rfl⟩
    have HBw := Lib.hid hB
    rw [hB] at hP ⊢
    clear hB
    obtain ⟨c0, c1, c2, c3, c4, c5, c6, c7, c8, c9, c10, c11⟩ := hP.pars
    have hPl := hP.lt
    have r0 := hZ.c0
    have r1 := hZ.c1
    have f0 := hZ.f0
    have f1 := hZ.f1
    have hrl := hZ.lt
    go_wp2_with (go_at_call 96; refine (KA.out _).mono ?_; rintro e w1 ⟨rfl, rfl⟩)
    have hX := hZ.set 0 0
    have hok3 := (hok.setCell (p := ⟨r, 0, none⟩) hrw (.int .i64 0)).setCell (p := ⟨r, 1, none⟩) hrw (.int .i64 0)
    generalize (W.setCell ⟨r, 0, none⟩ (.int .i64 0)).setCell ⟨r, 1, none⟩ (.int .i64 0) = W4 at hX hok3 ⊢
    have s0 := hX.c0
    have s1 := hX.c1
    exact bodyPost_ret (v := .tuple #[spanV 0 0, .bool false]) (by simp [results, Tryz.results70, go_sem, s0, s1]) rfl ⟨rfl, hok3⟩
  · have hi : Anchor.is p x = true := decide_eq_true (by omega)
    have hs : Anchor.seen p x = (Sat.sub x p.eps, Sat.sum [x, p.eps]) := by unfold Anchor.seen; rw [hi]; rfl
    rw [hi, hs]
    clear hi hs ha
    show Calls _ _ _ _ fun e w' => e = .returned (.tuple #[spanV (Sat.sub x p.eps) (Sat.sum [x, p.eps]), .bool true]) ∧ Ok w w'
    generalize Sat.sub x p.eps = u at KU KO ⊢
    generalize Sat.sum [x, p.eps] = s at KS KO ⊢
    go_enter Tryz.func70, Tryz.ntmps70
    go_upto_region 1 with fail
    generalize (w.alloc (.cells (parCells p) 23)).alloc (.cells #[.int .i64 0, .int .i64 0] 25) = W at hP hZ hok ⊢
    obtain ⟨r, hr⟩ : ∃ r, w.heap.size + 1 = r := ⟨_, rfl⟩
    rw [hr] at hZ hrw ⊢
    clear hr
    obtain ⟨B, hB⟩ : ∃ r, w.heap.size = r := ⟨_, rfl⟩
    have HBw := Lib.hid hB
    rw [hB] at hP ⊢
    clear hB
    obtain ⟨c0, c1, c2, c3, c4, c5, c6, c7, c8, c9, c10, c11⟩ := hP.pars
    have hPl := hP.lt
    go_upto_region 3 with (go_at_call 96; refine (KA.out _).mono ?_; rintro e w1 ⟨rfl, rfl⟩)
    clear c0 c1 c2 c3 c4 c5 c6 c7 c8 c9 c10 c11 hPl
    have HP := Lib.hid fun W' (k : Ok W.drew W') => hP.drew.next k
    have HR := Lib.hid fun W' (k : Ok W.drew W') => hZ.drew.next k
    clear hP hZ
    refine wp_region_facts_tail (by kernel_rfl) 25 rfl (VCSc B p x u s) Ok _ 10 rfl rfl (by decide) (by kernel_rfl) (by kernel_rfl) (by kernel_rfl) (fun i v w w' h k w'' k' => h w'' (k.trans k')) (fun a b c => Ok.trans) (Ok.refl _) [some 15, some 16, some 17, some 18, some 19, some 20, some 21, some 22, some 23, some 24] rfl _ rfl ⟨?_, ?_, ?_, ?_, ?_, ?_, ?_, ?_, ?_, ?_, trivial⟩ ?_
    · intro a' w' hF hR
      have e1 : a'.tmps[1]? = some (.int .i64 x) := hF.slot 1 (by kernel_rfl) rfl
      refine wpOp_run (v := .int .i64 x) rfl rfl ?_ (fun _ _ => rfl) (Ok.refl _)
      clear hF
      go_simp
    · intro a' w' hF hR
      have e2 : a'.tmps[2]? = some (.pointer (some ⟨B, 0, none⟩)) := hF.slot 2 (by kernel_rfl) rfl
      refine wpOp_run (v := .pointer (some ⟨B, 7, none⟩)) rfl rfl ?_ (fun _ _ => rfl) (Ok.refl _)
      clear hF
      go_simp
    · intro a' w' hF hR
      obtain ⟨v1, hv1, e16⟩ := hF.get 1 16 (by kernel_rfl) (by kernel_rfl)
      obtain rfl : v1 = _ := hv1 _ (Ok.refl _)
      obtain ⟨c0, c1, c2, c3, c4, c5, c6, c7, c8, c9, c10, c11⟩ := (HP.out _ hR).pars
      refine wpOp_run (v := .int .i64 p.eps) rfl rfl ?_ (fun _ _ => rfl) (Ok.refl _)
      clear hF
      go_simp
    · intro a' w' hF hR
      obtain ⟨v0, hv0, e15⟩ := hF.get 0 15 (by kernel_rfl) (by kernel_rfl)
      obtain rfl : v0 = _ := hv0 _ (Ok.refl _)
      obtain ⟨v2, hv2, e17⟩ := hF.get 2 17 (by kernel_rfl) (by kernel_rfl)
      obtain rfl : v2 = _ := hv2 _ (Ok.refl _)
      clear hF
      refine wpOp_call (f := 108) (args := #[.int .i64 x, .int .i64 p.eps]) rfl rfl ?_ ((KU.out _).mono ?_)
      · go_simp
      · rintro e w2 ⟨rfl, rfl⟩; exact ⟨_, rfl, fun _ _ => rfl, Ok.refl _⟩
    · intro a' w' hF hR
      have e1 : a'.tmps[1]? = some (.int .i64 x) := hF.slot 1 (by kernel_rfl) rfl
      refine wpOp_run (v := .int .i64 x) rfl rfl ?_ (fun _ _ => rfl) (Ok.refl _)
      clear hF
      go_simp
    · intro a' w' hF hR
      have e2 : a'.tmps[2]? = some (.pointer (some ⟨B, 0, none⟩)) := hF.slot 2 (by kernel_rfl) rfl
      refine wpOp_run (v := .pointer (some ⟨B, 7, none⟩)) rfl rfl ?_ (fun _ _ => rfl) (Ok.refl _)
      clear hF
      go_simp
    · intro a' w' hF hR
      obtain ⟨v5, hv5, e20⟩ := hF.get 5 20 (by kernel_rfl) (by kernel_rfl)
      obtain rfl : v5 = _ := hv5 _ (Ok.refl _)
      obtain ⟨c0, c1, c2, c3, c4, c5, c6, c7, c8, c9, c10, c11⟩ := (HP.out _ hR).pars
      refine wpOp_run (v := .int .i64 p.eps) rfl rfl ?_ (fun _ _ => rfl) (Ok.refl _)
      clear hF
      go_simp
    · intro a' w' hF hR
      obtain ⟨v4, hv4, e19⟩ := hF.get 4 19 (by kernel_rfl) (by kernel_rfl)
      obtain rfl : v4 = _ := hv4 _ (Ok.refl _)
      obtain ⟨v6, hv6, e21⟩ := hF.get 6 21 (by kernel_rfl) (by kernel_rfl)
      obtain rfl : v6 = _ := hv6 _ (Ok.refl _)
      refine wpOp_run (v := .slice (some ⟨w'.heap.size, 0, none⟩) 2 2) (w' := w'.alloc (.cells #[.int .i64 x, .int .i64 p.eps] 3)) rfl rfl ?_ (fun w'' k => ⟨_, rfl, (ints_new _ [x, p.eps] _ _ rfl rfl).below k⟩) ((Ok.refl _).alloc _)
      clear hF
      go_simp
    · intro a' w' hF hR
      obtain ⟨v7, hv7, e22⟩ := hF.get 7 22 (by kernel_rfl) (by kernel_rfl)
      obtain ⟨n7, rfl, hp7⟩ := hv7 _ (Ok.refl _)
      clear hF
      refine wpOp_call (f := 55) (args := #[.slice (some n7) 2 2]) rfl rfl ?_ ((KS.out _ _ hp7).mono ?_)
      · go_simp
      · rintro e w2 ⟨rfl, rfl⟩; exact ⟨_, rfl, fun _ _ => rfl, Ok.refl _⟩
    · intro a' w' hF hR
      obtain ⟨v3, hv3, e18⟩ := hF.get 3 18 (by kernel_rfl) (by kernel_rfl)
      obtain rfl : v3 = _ := hv3 _ (Ok.refl _)
      obtain ⟨v8, hv8, e23⟩ := hF.get 8 23 (by kernel_rfl) (by kernel_rfl)
      obtain rfl : v8 = _ := hv8 _ (Ok.refl _)
      clear hF
      refine wpOp_call (f := 57) (args := #[.int .i64 u, .int .i64 s]) rfl rfl ?_ ((KO.out _).mono ?_)
      · go_simp
      · rintro e w2 ⟨rfl, hb2⟩; exact ⟨_, rfl, fun _ _ => rfl, hb2⟩
    intro vs W' hvs hR
    have e4 : vs 9 = spanV u s := hvs 9 (by decide) _ (Ok.refl _)
    have hSl := HR.out _ hR
    have f0 := hSl.f0
    have f1 := hSl.f1
    have c0 := hSl.c0
    have c1 := hSl.c1
    clear hvs HR HP KU KS KO
    simp only [putFrom, e4]
    simp only [Act.put, List.setIfInBounds_toArray, List.set_cons_zero, List.set_cons_succ]
    refine wpOp_store (w' := (W'.setCell ⟨r, 0, none⟩ (.int .i64 u)).setCell ⟨r, 1, none⟩ (.int .i64 s)) rfl rfl rfl ?_ ?_
    · go_simp
    have hF := hSl.set u s
    have hok2 := ((hok.trans ((Ok.refl W).drew.trans hR)).setCell (p := ⟨r, 0, none⟩) hrw (.int .i64 u)).setCell (p := ⟨r, 1, none⟩) hrw (.int .i64 s)
    clear c0 c1 f0 f1 hSl
    generalize (W'.setCell ⟨r, 0, none⟩ (.int .i64 u)).setCell ⟨r, 1, none⟩ (.int .i64 s) = W2 at hF hok2 ⊢
    have q0 := hF.c0
    have q1 := hF.c1
    refine wpOp_leaves (o := ⟨some 5, _, _, _, _, none⟩) (v := .bool true) (w' := W2) rfl rfl (by go_simp) ?_
    simp only [TailFrom, Act.put, List.setIfInBounds_toArray, List.set_cons_zero, List.set_cons_succ]
    go_wp2
    exact bodyPost_ret (v := .tuple #[spanV u s, .bool true]) (by simp [results, Tryz.results70, go_sem, q0, q1]) rfl ⟨rfl, hok2⟩
/-- What each operation leaves. -/
def VMSr (B : Nat) (p : Par) (x u s : Int) (w : World) (v : Value) : Nat → Prop
  | 0 => v = .int .i64 x
  | 1 => v = .pointer (some ⟨B, 7, none⟩)
  | 2 => v = .int .i64 p.eps
  | 3 => v = .int .i64 u
  | 4 => v = .int .i64 x
  | 5 => v = .pointer (some ⟨B, 7, none⟩)
  | 6 => v = .int .i64 p.eps
  | 7 => ∃ n : Addr, v = .slice (some n) 2 2 ∧ IntsAt w (some n) [x, p.eps]
  | 8 => v = .int .i64 s
  | 9 => v = spanV u s
  | _ => v = .bool true
/-- It stays so. -/
def VCSr (B : Nat) (p : Par) (x u s : Int) (i : Nat) (v : Value) (w : World) : Prop := ∀ w', Ok w w' → VMSr B p x u s w' v i
set_option maxHeartbeats 1600000 in
theorem ref16Seen (p : Par) (x : Int) (w : World) : Calls Tryz.prog 42 #[parV p, .int .i64 x] w fun e w' => e = .returned (.tuple #[spanV (Anchor.seen p x).1 (Anchor.seen p x).2, .bool (Anchor.is p x)]) ∧ Ok w w' := by
  have KU := Lib.hid fun w => refSub x p.eps w
  have KS := Lib.hid fun w A h => refAdd A [x, p.eps] 2 w h (by simp)
  have hP := (Own.new w (parCells p) 23 rfl).alloc (.cells #[.int .i64 0, .int .i64 0] 25)
  have hZ := Slab.new (w.alloc (.cells (parCells p) 23)) 0 0 25 (g := w.heap.size + 1) (by simp)
  have hok := ((Ok.refl w).alloc (.cells (parCells p) 23)).alloc (.cells #[.int .i64 0, .int .i64 0] 25)
  have hrw : w.heap.size ≤ w.heap.size + 1 := by omega
  by_cases h2 : p.eps < 0
  · have hi : Anchor.is p x = false := decide_eq_false (by omega)
    have hs : Anchor.seen p x = (0, 0) := by unfold Anchor.seen; rw [hi]; rfl
    rw [hi, hs]
    clear hi hs KU KS 
    go_enter Tryz.func42, Tryz.ntmps42
    go_upto_region 1 with fail
    generalize (w.alloc (.cells (parCells p) 23)).alloc (.cells #[.int .i64 0, .int .i64 0] 25) = W at hP hZ hok ⊢
    obtain ⟨r, hr⟩ : ∃ r, w.heap.size + 1 = r := ⟨_, rfl⟩
    rw [hr] at hZ hrw ⊢
    clear hr
    obtain ⟨B, hB⟩ : ∃ r, w.heap.size = r := ⟨_, rfl⟩
    have HBw := Lib.hid hB
    rw [hB] at hP ⊢
    clear hB
    obtain ⟨c0, c1, c2, c3, c4, c5, c6, c7, c8, c9, c10, c11⟩ := hP.pars
    have hPl := hP.lt
    have r0 := hZ.c0
    have r1 := hZ.c1
    have f0 := hZ.f0
    have f1 := hZ.f1
    have hrl := hZ.lt
    go_wp2_with (fail)
    have hX := hZ.set 0 0
    have hok3 := (hok.setCell (p := ⟨r, 0, none⟩) hrw (.int .i64 0)).setCell (p := ⟨r, 1, none⟩) hrw (.int .i64 0)
    generalize (W.setCell ⟨r, 0, none⟩ (.int .i64 0)).setCell ⟨r, 1, none⟩ (.int .i64 0) = W4 at hX hok3 ⊢
    have s0 := hX.c0
    have s1 := hX.c1
    exact bodyPost_ret (v := .tuple #[spanV 0 0, .bool false]) (by simp [results, Tryz.results42, go_sem, s0, s1]) rfl ⟨rfl, hok3⟩
  by_cases h1 : 1152921504606846976 < x
  · have hi : Anchor.is p x = false := decide_eq_false (by omega)
    have hs : Anchor.seen p x = (0, 0) := by unfold Anchor.seen; rw [hi]; rfl
    rw [hi, hs]
    clear hi hs KU KS 
    go_enter Tryz.func42, Tryz.ntmps42
    go_upto_region 1 with fail
    generalize (w.alloc (.cells (parCells p) 23)).alloc (.cells #[.int .i64 0, .int .i64 0] 25) = W at hP hZ hok ⊢
    obtain ⟨r, hr⟩ : ∃ r, w.heap.size + 1 = r := ⟨_, rfl⟩
    rw [hr] at hZ hrw ⊢
    clear hr
    obtain ⟨B, hB⟩ : ∃ r, w.heap.size = r := ⟨_, rfl⟩
    have HBw := Lib.hid hB
    rw [hB] at hP ⊢
    clear hB
    obtain ⟨c0, c1, c2, c3, c4, c5, c6, c7, c8, c9, c10, c11⟩ := hP.pars
    have hPl := hP.lt
    have r0 := hZ.c0
    have r1 := hZ.c1
    have f0 := hZ.f0
    have f1 := hZ.f1
    have hrl := hZ.lt
    go_wp2_with (fail)
    have hX := hZ.set 0 0
    have hok3 := (hok.setCell (p := ⟨r, 0, none⟩) hrw (.int .i64 0)).setCell (p := ⟨r, 1, none⟩) hrw (.int .i64 0)
    generalize (W.setCell ⟨r, 0, none⟩ (.int .i64 0)).setCell ⟨r, 1, none⟩ (.int .i64 0) = W4 at hX hok3 ⊢
    have s0 := hX.c0
    have s1 := hX.c1
    exact bodyPost_ret (v := .tuple #[spanV 0 0, .bool false]) (by simp [results, Tryz.results42, go_sem, s0, s1]) rfl ⟨rfl, hok3⟩
  by_cases h3 : x < -1152921504606846976
  · have hi : Anchor.is p x = false := decide_eq_false (by omega)
    have hs : Anchor.seen p x = (0, 0) := by unfold Anchor.seen; rw [hi]; rfl
    rw [hi, hs]
    clear hi hs KU KS 
    go_enter Tryz.func42, Tryz.ntmps42
    go_upto_region 1 with fail
    generalize (w.alloc (.cells (parCells p) 23)).alloc (.cells #[.int .i64 0, .int .i64 0] 25) = W at hP hZ hok ⊢
    obtain ⟨r, hr⟩ : ∃ r, w.heap.size + 1 = r := ⟨_, rfl⟩
    rw [hr] at hZ hrw ⊢
    clear hr
    obtain ⟨B, hB⟩ : ∃ r, w.heap.size = r := ⟨_, rfl⟩
    have HBw := Lib.hid hB
    rw [hB] at hP ⊢
    clear hB
    obtain ⟨c0, c1, c2, c3, c4, c5, c6, c7, c8, c9, c10, c11⟩ := hP.pars
    have hPl := hP.lt
    have r0 := hZ.c0
    have r1 := hZ.c1
    have f0 := hZ.f0
    have f1 := hZ.f1
    have hrl := hZ.lt
    go_wp2_with (fail)
    have hX := hZ.set 0 0
    have hok3 := (hok.setCell (p := ⟨r, 0, none⟩) hrw (.int .i64 0)).setCell (p := ⟨r, 1, none⟩) hrw (.int .i64 0)
    generalize (W.setCell ⟨r, 0, none⟩ (.int .i64 0)).setCell ⟨r, 1, none⟩ (.int .i64 0) = W4 at hX hok3 ⊢
    have s0 := hX.c0
    have s1 := hX.c1
    exact bodyPost_ret (v := .tuple #[spanV 0 0, .bool false]) (by simp [results, Tryz.results42, go_sem, s0, s1]) rfl ⟨rfl, hok3⟩
  · have hi : Anchor.is p x = true := decide_eq_true (by omega)
    have hs : Anchor.seen p x = (Sat.sub x p.eps, Sat.sum [x, p.eps]) := by unfold Anchor.seen; rw [hi]; rfl
    rw [hi, hs]
    clear hi hs 
    show Calls _ _ _ _ fun e w' => e = .returned (.tuple #[spanV (Sat.sub x p.eps) (Sat.sum [x, p.eps]), .bool true]) ∧ Ok w w'
    generalize Sat.sub x p.eps = u at KU  ⊢
    generalize Sat.sum [x, p.eps] = s at KS  ⊢
    go_enter Tryz.func42, Tryz.ntmps42
    go_upto_region 1 with fail
    generalize (w.alloc (.cells (parCells p) 23)).alloc (.cells #[.int .i64 0, .int .i64 0] 25) = W at hP hZ hok ⊢
    obtain ⟨r, hr⟩ : ∃ r, w.heap.size + 1 = r := ⟨_, rfl⟩
    rw [hr] at hZ hrw ⊢
    clear hr
    obtain ⟨B, hB⟩ : ∃ r, w.heap.size = r := ⟨_, rfl⟩
    have HBw := Lib.hid hB
    rw [hB] at hP ⊢
    clear hB
    obtain ⟨c0, c1, c2, c3, c4, c5, c6, c7, c8, c9, c10, c11⟩ := hP.pars
    have hPl := hP.lt
    go_upto_region 3 with (fail)
    clear c0 c1 c2 c3 c4 c5 c6 c7 c8 c9 c10 c11 hPl
    have HP := Lib.hid fun W' (k : Ok W.drew W') => hP.drew.next k
    have HR := Lib.hid fun W' (k : Ok W.drew W') => hZ.drew.next k
    clear hP hZ
    refine wp_region_facts_tail (by kernel_rfl) 28 rfl (VCSr B p x u s) Ok _ 10 rfl rfl (by decide) (by kernel_rfl) (by kernel_rfl) (by kernel_rfl) (fun i v w w' h k w'' k' => h w'' (k.trans k')) (fun a b c => Ok.trans) (Ok.refl _) [some 18, some 19, some 20, some 21, some 22, some 23, some 24, some 25, some 26, some 27] rfl _ rfl ⟨?_, ?_, ?_, ?_, ?_, ?_, ?_, ?_, ?_, ?_, trivial⟩ ?_
    · intro a' w' hF hR
      have e1 : a'.tmps[1]? = some (.int .i64 x) := hF.slot 1 (by kernel_rfl) rfl
      refine wpOp_run (v := .int .i64 x) rfl rfl ?_ (fun _ _ => rfl) (Ok.refl _)
      clear hF
      go_simp
    · intro a' w' hF hR
      have e2 : a'.tmps[2]? = some (.pointer (some ⟨B, 0, none⟩)) := hF.slot 2 (by kernel_rfl) rfl
      refine wpOp_run (v := .pointer (some ⟨B, 7, none⟩)) rfl rfl ?_ (fun _ _ => rfl) (Ok.refl _)
      clear hF
      go_simp
    · intro a' w' hF hR
      obtain ⟨v1, hv1, e19⟩ := hF.get 1 19 (by kernel_rfl) (by kernel_rfl)
      obtain rfl : v1 = _ := hv1 _ (Ok.refl _)
      obtain ⟨c0, c1, c2, c3, c4, c5, c6, c7, c8, c9, c10, c11⟩ := (HP.out _ hR).pars
      refine wpOp_run (v := .int .i64 p.eps) rfl rfl ?_ (fun _ _ => rfl) (Ok.refl _)
      clear hF
      go_simp
    · intro a' w' hF hR
      obtain ⟨v0, hv0, e18⟩ := hF.get 0 18 (by kernel_rfl) (by kernel_rfl)
      obtain rfl : v0 = _ := hv0 _ (Ok.refl _)
      obtain ⟨v2, hv2, e20⟩ := hF.get 2 20 (by kernel_rfl) (by kernel_rfl)
      obtain rfl : v2 = _ := hv2 _ (Ok.refl _)
      clear hF
      refine wpOp_call (f := 80) (args := #[.int .i64 x, .int .i64 p.eps]) rfl rfl ?_ ((KU.out _).mono ?_)
      · go_simp
      · rintro e w2 ⟨rfl, rfl⟩; exact ⟨_, rfl, fun _ _ => rfl, Ok.refl _⟩
    · intro a' w' hF hR
      have e1 : a'.tmps[1]? = some (.int .i64 x) := hF.slot 1 (by kernel_rfl) rfl
      refine wpOp_run (v := .int .i64 x) rfl rfl ?_ (fun _ _ => rfl) (Ok.refl _)
      clear hF
      go_simp
    · intro a' w' hF hR
      have e2 : a'.tmps[2]? = some (.pointer (some ⟨B, 0, none⟩)) := hF.slot 2 (by kernel_rfl) rfl
      refine wpOp_run (v := .pointer (some ⟨B, 7, none⟩)) rfl rfl ?_ (fun _ _ => rfl) (Ok.refl _)
      clear hF
      go_simp
    · intro a' w' hF hR
      obtain ⟨v5, hv5, e23⟩ := hF.get 5 23 (by kernel_rfl) (by kernel_rfl)
      obtain rfl : v5 = _ := hv5 _ (Ok.refl _)
      obtain ⟨c0, c1, c2, c3, c4, c5, c6, c7, c8, c9, c10, c11⟩ := (HP.out _ hR).pars
      refine wpOp_run (v := .int .i64 p.eps) rfl rfl ?_ (fun _ _ => rfl) (Ok.refl _)
      clear hF
      go_simp
    · intro a' w' hF hR
      obtain ⟨v4, hv4, e22⟩ := hF.get 4 22 (by kernel_rfl) (by kernel_rfl)
      obtain rfl : v4 = _ := hv4 _ (Ok.refl _)
      obtain ⟨v6, hv6, e24⟩ := hF.get 6 24 (by kernel_rfl) (by kernel_rfl)
      obtain rfl : v6 = _ := hv6 _ (Ok.refl _)
      refine wpOp_run (v := .slice (some ⟨w'.heap.size, 0, none⟩) 2 2) (w' := w'.alloc (.cells #[.int .i64 x, .int .i64 p.eps] 3)) rfl rfl ?_ (fun w'' k => ⟨_, rfl, (ints_new _ [x, p.eps] _ _ rfl rfl).below k⟩) ((Ok.refl _).alloc _)
      clear hF
      go_simp
    · intro a' w' hF hR
      obtain ⟨v7, hv7, e25⟩ := hF.get 7 25 (by kernel_rfl) (by kernel_rfl)
      obtain ⟨n7, rfl, hp7⟩ := hv7 _ (Ok.refl _)
      clear hF
      refine wpOp_call (f := 30) (args := #[.slice (some n7) 2 2]) rfl rfl ?_ ((KS.out _ _ hp7).mono ?_)
      · go_simp
      · rintro e w2 ⟨rfl, rfl⟩; exact ⟨_, rfl, fun _ _ => rfl, Ok.refl _⟩
    · intro a' w' hF hR
      obtain ⟨v3, hv3, e21⟩ := hF.get 3 21 (by kernel_rfl) (by kernel_rfl)
      obtain rfl : v3 = _ := hv3 _ (Ok.refl _)
      obtain ⟨v8, hv8, e26⟩ := hF.get 8 26 (by kernel_rfl) (by kernel_rfl)
      obtain rfl : v8 = _ := hv8 _ (Ok.refl _)
      refine wpOp_run (v := spanV u s) rfl rfl ?_ (fun _ _ => rfl) (Ok.refl _)
      clear hF
      go_simp
    intro vs W' hvs hR
    have e4 : vs 9 = spanV u s := hvs 9 (by decide) _ (Ok.refl _)
    have hSl := HR.out _ hR
    have f0 := hSl.f0
    have f1 := hSl.f1
    have c0 := hSl.c0
    have c1 := hSl.c1
    clear hvs HR HP KU KS 
    simp only [putFrom, e4]
    simp only [Act.put, List.setIfInBounds_toArray, List.set_cons_zero, List.set_cons_succ]
    refine wpOp_store (w' := (W'.setCell ⟨r, 0, none⟩ (.int .i64 u)).setCell ⟨r, 1, none⟩ (.int .i64 s)) rfl rfl rfl ?_ ?_
    · go_simp
    have hF := hSl.set u s
    have hok2 := ((hok.trans ((Ok.refl W).drew.trans hR)).setCell (p := ⟨r, 0, none⟩) hrw (.int .i64 u)).setCell (p := ⟨r, 1, none⟩) hrw (.int .i64 s)
    clear c0 c1 f0 f1 hSl
    generalize (W'.setCell ⟨r, 0, none⟩ (.int .i64 u)).setCell ⟨r, 1, none⟩ (.int .i64 s) = W2 at hF hok2 ⊢
    have q0 := hF.c0
    have q1 := hF.c1
    refine wpOp_leaves (o := ⟨some 5, _, _, _, _, none⟩) (v := .bool true) (w' := W2) rfl rfl (by go_simp) ?_
    simp only [TailFrom, Act.put, List.setIfInBounds_toArray, List.set_cons_zero, List.set_cons_succ]
    go_wp2
    exact bodyPost_ret (v := .tuple #[spanV u s, .bool true]) (by simp [results, Tryz.results42, go_sem, q0, q1]) rfl ⟨rfl, hok2⟩
end Go.Proofs.YtmmiboblofopgaaGreat

/- Contracts of layer 16: Held and Fuse, the program's and the document's. -/
namespace Go.Proofs.YtmmiboblofopgaaGreat
open Go.RowKit
set_option linter.unusedVariables false
set_option maxRecDepth 100000
attribute [local go_sem ↓] Go.wp_at_zero Go.wp_at_succ
theorem anchorFuse (p : Par) (A : Option Addr) (l : List (Int × Int)) (cap : Nat) (w : World) (hA : PairsAt w A l) (hl : l.length ≤ 1099511627776) (hf : -9223372036854775808 ≤ p.f ∧ p.f ≤ 9223372036854775807) :
    Calls Tryz.prog 77 #[parV p, .slice A l.length cap] w fun e w' => e = .returned (.tuple #[spanV (fz p.f l).1 (fz p.f l).2, .bool (fLeft p.f l)]) ∧ Ok w w' := by
  have KF := Lib.hid fun w h => trimFuse p.f A l cap w h hl hf
  generalize (fz p.f l).1 = x at KF ⊢
  generalize (fz p.f l).2 = y at KF ⊢
  generalize fLeft p.f l = q at KF ⊢
  have hP := (Own.new w (parCells p) 23 rfl).alloc (.cells #[.int .i64 0, .int .i64 0] 25)
  have hZ := Slab.new (w.alloc (.cells (parCells p) 23)) 0 0 25 (g := w.heap.size + 1) (by simp)
  have hok := ((Ok.refl w).alloc (.cells (parCells p) 23)).alloc (.cells #[.int .i64 0, .int .i64 0] 25)
  replace hA := hA.below hok
  have hrw : w.heap.size ≤ w.heap.size + 1 := by omega
  clear hf
  go_enter Tryz.func77, Tryz.ntmps77
  go_upto_region 1 with fail
  generalize (w.alloc (.cells (parCells p) 23)).alloc (.cells #[.int .i64 0, .int .i64 0] 25) = W at hP hZ hok hA ⊢
  obtain ⟨r, hr⟩ : ∃ r, w.heap.size + 1 = r := ⟨_, rfl⟩
  rw [hr] at hZ hrw ⊢
  clear hr
  obtain ⟨B, hB⟩ : ∃ r, w.heap.size = r := ⟨_, rfl⟩
  rw [hB] at hP hrw ⊢
  obtain ⟨c0, c1, c2, c3, c4, c5, c6, c7, c8, c9, c10, c11⟩ := hP.pars
  have hPl := hP.lt
  go_wp2_with (go_at_call 118; refine (KF.out _ hA).mono ?_; rintro e w1 ⟨rfl, hb1⟩; replace hok := hok.trans hb1; have hR := hZ.next hb1; clear hb1; have r0 := hR.c0; have r1 := hR.c1; have f0 := hR.f0; have f1 := hR.f1; have hrl := hR.lt)
  have hX := hR.set x y
  have hok3 := (hok.setCell (p := ⟨r, 0, none⟩) (hB ▸ hrw) (.int .i64 x)).setCell (p := ⟨r, 1, none⟩) (hB ▸ hrw) (.int .i64 y)
  generalize (w1.setCell ⟨r, 0, none⟩ (.int .i64 x)).setCell ⟨r, 1, none⟩ (.int .i64 y) = W4 at hX hok3 ⊢
  have s0 := hX.c0
  have s1 := hX.c1
  exact bodyPost_ret (v := .tuple #[spanV x y, .bool q]) (by simp [results, Tryz.results77, go_sem, s0, s1]) rfl ⟨rfl, hok3⟩
end Go.Proofs.YtmmiboblofopgaaGreat

/- Words of my own: a fabric's numbers that came in by value. -/
namespace Go.Proofs.YtmmiboblofopgaaGreat
open Go.RowKit Go.WideShapes Go.ChangeShapes Go.Joins Go.Deep
/-- All of a fabric's numbers are numbers of 64 bits. -/
def ParWf (p : Par) : Prop := (Lit.int .i64 p.n).wf = true ∧ (Lit.int .i64 p.f).wf = true ∧ (Lit.int .i64 p.d).wf = true ∧ (Lit.int .i64 p.beat).wf = true ∧ (Lit.int .i64 p.rho).wf = true ∧ (Lit.int .i64 p.delay).wf = true ∧
  (Lit.int .i64 p.jit).wf = true ∧ (Lit.int .i64 p.eps).wf = true ∧ (Lit.int .i64 p.mu).wf = true ∧ (Lit.int .i64 p.hold).wf = true ∧ (Lit.int .i64 p.pulse).wf = true ∧ (Lit.int .i64 p.sec).wf = true
section
variable {H : Type} {enc : TypeId × Value → H} {P : Program} {w : World} {base : Nat} {spare : Nat → Bool} {held : Bool}
theorem open_par {r : Reach} {b0 : Nat} {t : TypeId} {fs : Array Field} {v : Value} {d : DataW H} {p : List MemPlace} (hs : P.underlying t = some (.struct fs)) (hn : fs.size = 12) (hone : oneCellFields P fs = true) (hC : P.cellsOf t = fs.size)
    (hall : (fs.all fun f => match P.underlying f.type with | some (.int .i64) => true | _ => false) = true) (hv : Value.okWide P w r b0 t v) (h : DataW.Trod enc P w base spare held t v d p) :
    ∃ q : Par, v = parV q ∧ ParWf q := by
  obtain ⟨zs, hl, rfl, hw⟩ := open_agg_ints hs hone hC (fun j f hj => by
    have := Array.all_eq_true.1 hall j (Array.getElem?_eq_some_iff.1 hj).1
    rw [(Array.getElem?_eq_some_iff.1 hj).2] at this
    split at this
    · assumption
    · exact absurd this (by simp)) hv h
  rw [hn] at hl
  match zs, hl with
  | [a, b, c, d, e, f, g, h, i, j, k, l], _ => exact ⟨⟨a, b, c, d, e, f, g, h, i, j, k, l⟩, rfl, hw a (by simp), hw b (by simp), hw c (by simp), hw d (by simp), hw e (by simp), hw f (by simp), hw g (by simp), hw h (by simp), hw i (by simp), hw j (by simp), hw k (by simp), hw l (by simp)⟩
end
end Go.Proofs.YtmmiboblofopgaaGreat

/- Contracts of layer 16: the document's Fuse in one sentence; what every law asks first. -/
namespace Go.Proofs.YtmmiboblofopgaaGreat
open Go.RowKit
set_option maxRecDepth 100000
/-- The document's Fuse, in one sentence. -/
theorem ref7Fuse (f : Int) (A : Option Addr) (l : List (Int × Int)) (cap : Nat) (w : World) (hA : PairsAt w A l) (hl : l.length ≤ 1099511627776) :
    Calls Tryz.prog 44 #[.int .i64 f, .slice A l.length cap] w fun e w' => e = .returned (.tuple #[spanV (fz f l).1 (fz f l).2, .bool (fLeft f l)]) ∧ Ok w w' := by
  cases hm : Trim.many f l.length
  · have h1 : fLeft f l = false := by unfold fLeft; rw [hm]; rfl
    have h2 : fz f l = (0, 0) := by unfold fz; rw [h1]; rfl
    rw [h1, h2]
    exact ref7FuseFew f A l cap w hl hm
  · by_cases h : fHi f l < fLo f l
    · have h1 : fLeft f l = false := by unfold fLeft; rw [hm, decide_eq_true h]; rfl
      have h2 : fz f l = (0, 0) := by unfold fz; rw [h1]; rfl
      rw [h1, h2]
      refine (ref7FuseMany f A l cap w hA hl hm).mono fun e w' ⟨h3, h4⟩ => ⟨?_, h4⟩
      rw [h3, if_pos h, decide_eq_true h]
      rfl
    · have h1 : fLeft f l = true := by unfold fLeft; rw [hm, decide_eq_false h]; rfl
      have h2 : fz f l = (Sat.clip (fLo f l), Sat.clip (fHi f l)) := by unfold fz; rw [h1]; rfl
      rw [h1, h2]
      refine (ref7FuseMany f A l cap w hA hl hm).mono fun e w' ⟨h3, h4⟩ => ⟨?_, h4⟩
      rw [h3, if_neg h, decide_eq_false h]
      rfl
def parEps (x : Int) : Par := ⟨0, 0, 0, 0, 0, 0, 0, x, 0, 0, 0, 0⟩
def parF (x : Int) : Par := ⟨0, x, 0, 0, 0, 0, 0, 0, 0, 0, 0, 0⟩
theorem aliveHeld : Anchor.held 1 [7, 3, 9] = 8 := by
  have h : Trim.val 1 [7, 3, 9] = 7 := Trim.val_of_pick (by decide) (by refine ⟨by decide, by decide, by decide⟩)
  unfold Anchor.held
  rw [h]
  decide
end Go.Proofs.YtmmiboblofopgaaGreat
