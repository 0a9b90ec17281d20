/- Contracts of layer 18: ToCount: the program's. -/
import Derived.Test.YtacphjdkobodnaaDoorC18e
import Derived.Test.YtacphjdkobodnaaDoorC18g
import Derived.Test.YtacphjdkobodnaaDoorC17e
import Derived.Test.YtacphjdkobodnaaDoorC01b
import Derived.Test.YtacphjdkobodnaaDoorC01c
import Derived.Test.YtacphjdkobodnaaDoorW15
import Derived.Test.YtacphjdkobodnaaDoorW27
import Derived.RangeFuncFrom
namespace Go.Proofs.YtacphjdkobodnaaDoor
open Go.RowKit Go.Shelf
set_option maxRecDepth 100000
attribute [local go_sem] Oper.semAt_some
/-- The seconds that a label's numbers make. -/
def Leap.secs (L : Leap.Lb) : Int := Sat.sum [Sat.mul (Civil.nr L.y L.m L.d) 86400, Sat.mul L.h 3600, Sat.mul L.i 60, L.s]
/-- Is it the count, by that offset? -/
noncomputable def Leap.hit (t : List (Int × Int)) (L : Leap.Lb) (x : Int) : Bool := decide (Leap.cnt (Leap.secs L + x)) && decide (Leap.lbl t (Leap.secs L + x) = L)
theorem Leap.offs_bd {t : List (Int × Int)} (h : Leap.good t = true) (x : Leap.Of t) : -32 ≤ x.1 ∧ x.1 ≤ 32 := by
  obtain ⟨x, hx⟩ := x
  rcases List.mem_cons.1 hx with rfl | g
  · show -32 ≤ (0 : Int) ∧ (0 : Int) ≤ 32; decide
  · obtain ⟨e, he, rfl⟩ := List.mem_map.1 g
    exact ((Leap.tab_bd (Leap.good_tab h)).2 e he).2
/-- What ToCount answers, where there is such a day. -/
def CountEnd (t : List (Int × Int)) (L : Leap.Lb) (e : Ending) : Prop :=
  (∃ x ∈ Leap.offs t, Leap.hit t L x = true ∧ e = .returned (.tuple #[.int .i64 (Leap.secs L + x), .int .i64 0])) ∨ ((∀ x ∈ Leap.offs t, Leap.hit t L x = false) ∧ e = .returned (.tuple #[.int .i64 0, .int .i64 30]))
theorem okKeeps {W W' : World} (h : Ok W W') : KeepsOthers W W' := ⟨h.size, fun k _ hk _ => (Below.block h k (Array.getElem?_eq_some_iff.1 hk).1).trans hk⟩
theorem leapOffsets (A : Option Addr) (m cap : Nat) (w : World) : Calls Tryd.prog 34 #[.slice A m cap] w fun e w' => e = .returned (.func (.func 51) #[] #[.pointer (some ⟨w.heap.size, 0, none⟩)]) ∧ w' = w.alloc (.cells #[.slice A m cap] 22) := by
  have q1 := makeFn
  go_enter Tryd.func34, Tryd.ntmps34
  go_wp2_with fail
  go_ret
  exact ⟨rfl, rfl⟩
/-- What each operation leaves. -/
def VM18c (K g3 : Nat) (nd m1 m2 m3 S hh mi se : Int) (w : World) (v : Value) : Nat → Prop
  | 0 => v = .int .i64 nd
  | 1 => v = .int .i64 m1
  | 2 => v = .pointer (some ⟨g3, 3, none⟩)
  | 3 => v = .int .i64 hh
  | 4 => v = .int .i64 m2
  | 5 => v = .pointer (some ⟨g3, 4, none⟩)
  | 6 => v = .int .i64 mi
  | 7 => v = .int .i64 m3
  | 8 => v = .pointer (some ⟨g3, 5, none⟩)
  | 9 => v = .int .i64 se
  | 10 => ∃ n : Addr, v = .slice (some n) 4 4 ∧ IntsAt w (some n) [m1, m2, m3, se]
  | 11 => v = .int .i64 S
  | 12 => ∃ g : Nat, v = .pointer (some ⟨g, 0, none⟩) ∧ Own w g #[.int .i64 0] ∧ K ≤ g
  | _ => v = .bool true
/-- It stays so. -/
def VC18c (K g3 : Nat) (nd m1 m2 m3 S hh mi se : Int) (i : Nat) (v : Value) (w : World) : Prop := ∀ w', Ok w w' → VM18c K g3 nd m1 m2 m3 S hh mi se w' v i
set_option maxHeartbeats 3200000 in
theorem leapToCountDay (A : Option Addr) (t : List (Int × Int)) (cap : Nat) (L : Leap.Lb) (w : World) (hT : Tab w) (h : PairsAt w A t) (hg : Leap.good t = true) (hday : Civil.may L.y L.m L.d) :
    Calls Tryd.prog 15 #[.slice A t.length cap, lbV L] w fun e w' => CountEnd t L e ∧ Ok w w' := by
  have hl : t.length ≤ 32 := (Leap.tab_bd (Leap.good_tab hg)).1
  have KG := Lib.hid fun w h => leapGood A t cap w h (by omega)
  rw [hg] at KG
  have KD := Lib.hid (civilDay L.y L.m L.d)
  rw [decide_eq_true hday] at KD
  have HIT := Lib.hid fun x => show Leap.hit t L x = (decide (Leap.cnt (Leap.secs L + x)) && decide (Leap.lbl t (Leap.secs L + x) = L)) from rfl
  have KL := Lib.hid fun c w hT h hc => leapLabel A t cap c w hT h hg hc
  have KE := Lib.hid fun a w => eqLabel a L w
  have HOF := Lib.hid fun (x : Leap.Of t) => show -32 ≤ x.1 ∧ x.1 ≤ 32 from Leap.offs_bd hg x
  have K1 := Lib.hid fun w => satMul (Civil.nr L.y L.m L.d) 86400 w
  have K2 := Lib.hid fun w => satMul L.h 3600 w
  have K3 := Lib.hid fun w => satMul L.i 60 w
  have KA := Lib.hid fun n w h => satAdd (some n) [Sat.mul (Civil.nr L.y L.m L.d) 86400, Sat.mul L.h 3600, Sat.mul L.i 60, L.s] 4 w h (by simp)
  have hSb : -2305843009213693952 ≤ Leap.secs L ∧ Leap.secs L ≤ 2305843009213693952 := Sat.sum_bd _
  have eS : Leap.secs L = Sat.sum [Sat.mul (Civil.nr L.y L.m L.d) 86400, Sat.mul L.h 3600, Sat.mul L.i 60, L.s] := rfl
  rw [← eS] at KA
  clear eS
  unfold CountEnd
  generalize Civil.nr L.y L.m L.d = nd at *
  generalize Sat.mul nd 86400 = m1 at *
  generalize Sat.mul L.h 3600 = m2 at *
  generalize Sat.mul L.i 60 = m3 at *
  generalize Leap.secs L = S at *
  obtain ⟨hit, hh0⟩ : ∃ f, Leap.hit t L = f := ⟨_, rfl⟩
  rw [hh0] at HIT ⊢
  clear hh0 hday hg
  obtain ⟨y, mo, d, hh, mi, se⟩ := L
  simp only [lbV] at KE KD K2 K3 KA HIT ⊢
  obtain ⟨g2, hg2⟩ : ∃ r, w.heap.size = r := ⟨_, rfl⟩
  have hO2 := (((Own.new w #[.slice A t.length cap] 22 rfl).alloc (.cells #[.int .i64 y, .int .i64 mo, .int .i64 d, .int .i64 hh, .int .i64 mi, .int .i64 se] 26)).alloc (.cells #[.int .i64 0] 3)).alloc (.cells #[.int .i64 0] 27)
  have hO3 := ((Own.new (w.alloc (.cells #[.slice A t.length cap] 22)) #[.int .i64 y, .int .i64 mo, .int .i64 d, .int .i64 hh, .int .i64 mi, .int .i64 se] 26 (g := w.heap.size + 1) (by simp)).alloc (.cells #[.int .i64 0] 3)).alloc (.cells #[.int .i64 0] 27)
  have hO4 := (Own.new ((w.alloc (.cells #[.slice A t.length cap] 22)).alloc (.cells #[.int .i64 y, .int .i64 mo, .int .i64 d, .int .i64 hh, .int .i64 mi, .int .i64 se] 26)) #[.int .i64 0] 3 (g := w.heap.size + 1 + 1) (by simp)).alloc (.cells #[.int .i64 0] 27)
  have hO5 := Own.new (((w.alloc (.cells #[.slice A t.length cap] 22)).alloc (.cells #[.int .i64 y, .int .i64 mo, .int .i64 d, .int .i64 hh, .int .i64 mi, .int .i64 se] 26)).alloc (.cells #[.int .i64 0] 3)) #[.int .i64 0] 27 (g := w.heap.size + 1 + 1 + 1) (by simp)
  have hok := ((((Ok.refl w).alloc (.cells #[.slice A t.length cap] 22)).alloc (.cells #[.int .i64 y, .int .i64 mo, .int .i64 d, .int .i64 hh, .int .i64 mi, .int .i64 se] 26)).alloc (.cells #[.int .i64 0] 3)).alloc (.cells #[.int .i64 0] 27)
  replace hT := hT.next hok
  replace h := h.below hok
  refine (callsIn_wide (n := 6)).1 ?_
  refine callsIn_of_wp_marks Tryd.func15 rfl trivial ?_ rfl
  simp only [Tryd.ntmps15, List.size_toArray, List.length_cons, List.length_nil, Nat.reduceAdd, Nat.reduceSub, Array.replicate_succ, Array.replicate_zero, List.push_toArray, List.append_toArray, List.nil_append, List.cons_append]
  refine (wpIn_wide (n := 6)).2 ?_
  go_upto_region 1 with fail
  generalize (((w.alloc (.cells #[.slice A t.length cap] 22)).alloc (.cells #[.int .i64 y, .int .i64 mo, .int .i64 d, .int .i64 hh, .int .i64 mi, .int .i64 se] 26)).alloc (.cells #[.int .i64 0] 3)).alloc (.cells #[.int .i64 0] 27) = W0 at *
  rw [hg2] at hO2 hO3 hO4 hO5
  have hK4 : w.heap.size ≤ g2 + 1 + 1 := by omega
  have hK5 : w.heap.size ≤ g2 + 1 + 1 + 1 := by omega
  have hne : g2 + 1 + 1 ≠ g2 + 1 + 1 + 1 := by omega
  generalize g2 + 1 + 1 + 1 = g5 at *
  generalize g2 + 1 + 1 = g4 at *
  generalize g2 + 1 = g3 at *
  have b2 := hO2.cell 0 rfl
  have hbl := hO2.lt
  clear hg2
  go_upto_region 6 with (first
    | (go_at_call 13; (with_reducible refine (KG.out _ h).mono ?_); rintro e w1 ⟨rfl, hb1⟩; replace hO2 := hO2.next hb1; replace hO3 := hO3.next hb1; replace hO4 := hO4.next hb1; replace hO5 := hO5.next hb1; replace hT := hT.next hb1; replace h := h.below hb1; replace hok := hok.trans hb1; clear hb1 b2 hbl; have l0 := hO3.cell 0 rfl; have l1 := hO3.cell 1 rfl; have l2 := hO3.cell 2 rfl; have hll := hO3.lt)
    | (go_at_call 31; (with_reducible refine (KD.out _ hT).mono ?_); rintro e W ⟨rfl, hb1⟩; replace hO2 := hO2.next hb1; replace hO3 := hO3.next hb1; replace hO4 := hO4.next hb1; replace hO5 := hO5.next hb1; replace hT := hT.next hb1; replace h := h.below hb1; replace hok := hok.trans hb1; clear hb1 l0 l1 l2 hll))
  obtain ⟨K, hKe⟩ : ∃ K, K = W.heap.size := ⟨_, rfl⟩
  have hK : K ≤ W.drew.heap.size := Nat.le_of_eq hKe
  have HKE := Lib.hid hKe
  clear hKe
  have HL := Lib.hid fun W' (k : Ok W.drew W') => hO3.drew.next k
  refine wp_region_facts_last (by kernel_rfl) 54 rfl (VC18c K g3 nd m1 m2 m3 S hh mi se) Ok _ rfl _ 13 rfl rfl rfl rfl (by kernel_rfl) (by kernel_rfl) (by kernel_rfl) (fun i v w w' h k w'' k' => h w'' (k.trans k')) (fun a b c => Ok.trans) (Ok.refl _) [some 26, some 27, some 28, some 29, some 30, some 31, some 32, some 33, some 34, some 35, some 36, some 37, some 8] rfl ⟨?_, ?_, ?_, ?_, ?_, ?_, ?_, ?_, ?_, ?_, ?_, ?_, ?_, trivial⟩ ?_
  · intro a' w' hF hR
    have e6 : a'.tmps[6]? = some (.int .i64 nd) := hF.slot 6 (by kernel_rfl) rfl
    refine wpOp_run (v := .int .i64 nd) rfl rfl ?_ (fun _ _ => rfl) (Ok.refl _)
    clear hF
    go_simp
  · intro a' w' hF hR
    obtain ⟨v0, hv0, e26⟩ := hF.get 0 26 (by kernel_rfl) (by kernel_rfl)
    obtain rfl : v0 = _ := hv0 _ (Ok.refl _)
    clear hF
    refine wpOp_call (f := 33) (args := #[.int .i64 nd, .int .i64 86400]) rfl rfl ?_ ((K1.out _).mono ?_)
    · go_simp
    · rintro e w2 ⟨rfl, rfl⟩; exact ⟨_, rfl, fun _ _ => rfl, Ok.refl _⟩
  · intro a' w' hF hR
    have e3 : a'.tmps[3]? = some (.pointer (some ⟨g3, 0, none⟩)) := hF.slot 3 (by kernel_rfl) rfl
    refine wpOp_run (v := .pointer (some ⟨g3, 3, none⟩)) rfl rfl ?_ (fun _ _ => rfl) (Ok.refl _)
    clear hF
    go_simp
  · intro a' w' hF hR
    obtain ⟨v2, hv2, e28⟩ := hF.get 2 28 (by kernel_rfl) (by kernel_rfl)
    obtain rfl : v2 = _ := hv2 _ (Ok.refl _)
    have c3 := (HL.out _ hR).cell 3 rfl
    have hll := (HL.out _ hR).lt
    refine wpOp_run (v := .int .i64 hh) rfl rfl ?_ (fun _ _ => rfl) (Ok.refl _)
    clear hF
    go_simp
  · intro a' w' hF hR
    obtain ⟨v3, hv3, e29⟩ := hF.get 3 29 (by kernel_rfl) (by kernel_rfl)
    obtain rfl : v3 = _ := hv3 _ (Ok.refl _)
    clear hF
    refine wpOp_call (f := 33) (args := #[.int .i64 hh, .int .i64 3600]) rfl rfl ?_ ((K2.out _).mono ?_)
    · go_simp
    · rintro e w2 ⟨rfl, rfl⟩; exact ⟨_, rfl, fun _ _ => rfl, Ok.refl _⟩
  · intro a' w' hF hR
    have e3 : a'.tmps[3]? = some (.pointer (some ⟨g3, 0, none⟩)) := hF.slot 3 (by kernel_rfl) rfl
    refine wpOp_run (v := .pointer (some ⟨g3, 4, none⟩)) rfl rfl ?_ (fun _ _ => rfl) (Ok.refl _)
    clear hF
    go_simp
  · intro a' w' hF hR
    obtain ⟨v5, hv5, e31⟩ := hF.get 5 31 (by kernel_rfl) (by kernel_rfl)
    obtain rfl : v5 = _ := hv5 _ (Ok.refl _)
    have c4 := (HL.out _ hR).cell 4 rfl
    have hll := (HL.out _ hR).lt
    refine wpOp_run (v := .int .i64 mi) rfl rfl ?_ (fun _ _ => rfl) (Ok.refl _)
    clear hF
    go_simp
  · intro a' w' hF hR
    obtain ⟨v6, hv6, e32⟩ := hF.get 6 32 (by kernel_rfl) (by kernel_rfl)
    obtain rfl : v6 = _ := hv6 _ (Ok.refl _)
    clear hF
    refine wpOp_call (f := 33) (args := #[.int .i64 mi, .int .i64 60]) rfl rfl ?_ ((K3.out _).mono ?_)
    · go_simp
    · rintro e w2 ⟨rfl, rfl⟩; exact ⟨_, rfl, fun _ _ => rfl, Ok.refl _⟩
  · intro a' w' hF hR
    have e3 : a'.tmps[3]? = some (.pointer (some ⟨g3, 0, none⟩)) := hF.slot 3 (by kernel_rfl) rfl
    refine wpOp_run (v := .pointer (some ⟨g3, 5, none⟩)) rfl rfl ?_ (fun _ _ => rfl) (Ok.refl _)
    clear hF
    go_simp
  · intro a' w' hF hR
    obtain ⟨v8, hv8, e34⟩ := hF.get 8 34 (by kernel_rfl) (by kernel_rfl)
    obtain rfl : v8 = _ := hv8 _ (Ok.refl _)
    have c5 := (HL.out _ hR).cell 5 rfl
    have hll := (HL.out _ hR).lt
    refine wpOp_run (v := .int .i64 se) rfl rfl ?_ (fun _ _ => rfl) (Ok.refl _)
    clear hF
    go_simp
  · intro a' w' hF hR
    obtain ⟨v1, hv1, e27⟩ := hF.get 1 27 (by kernel_rfl) (by kernel_rfl)
    obtain rfl : v1 = _ := hv1 _ (Ok.refl _)
    obtain ⟨v4, hv4, e30⟩ := hF.get 4 30 (by kernel_rfl) (by kernel_rfl)
    obtain rfl : v4 = _ := hv4 _ (Ok.refl _)
    obtain ⟨v7, hv7, e33⟩ := hF.get 7 33 (by kernel_rfl) (by kernel_rfl)
    obtain rfl : v7 = _ := hv7 _ (Ok.refl _)
    obtain ⟨v9, hv9, e35⟩ := hF.get 9 35 (by kernel_rfl) (by kernel_rfl)
    obtain rfl : v9 = _ := hv9 _ (Ok.refl _)
    refine wpOp_run (v := .slice (some ⟨w'.heap.size, 0, none⟩) 4 4) (w' := w'.alloc (.cells #[.int .i64 m1, .int .i64 m2, .int .i64 m3, .int .i64 se] 3)) rfl rfl ?_ (fun w'' k => ⟨_, rfl, (ints_new _ [m1, m2, m3, se] _ _ rfl rfl).below k⟩) ((Ok.refl _).alloc _)
    clear hF
    go_simp
  · intro a' w' hF hR
    obtain ⟨v10, hv10, e36⟩ := hF.get 10 36 (by kernel_rfl) (by kernel_rfl)
    obtain ⟨n10, rfl, hp10⟩ := hv10 _ (Ok.refl _)
    clear hF
    refine wpOp_call (f := 32) (args := #[.slice (some n10) 4 4]) rfl rfl ?_ ((KA.out n10 _ hp10).mono ?_)
    · go_simp
    · rintro e w2 ⟨rfl, rfl⟩; exact ⟨_, rfl, fun _ _ => rfl, Ok.refl _⟩
  · intro a' w' hF hR
    have hzero : Sem.run Tryd.prog (zeroValue 3) w' = .ok (.int .i64 0) w' := by kernel_rfl
    refine wpOp_run (v := .pointer (some ⟨w'.heap.size, 0, none⟩)) (w' := w'.alloc (.cells #[.int .i64 0] 3)) rfl rfl ?_ (fun w'' k => ⟨_, rfl, (Own.new _ _ _ rfl).next k, (show K ≤ w'.heap.size from Nat.le_trans hK hR.size)⟩) ((Ok.refl _).alloc _)
    clear hF
    go_simp
  intro vs W' hvs hR
  have e11 : vs 11 = .int .i64 S := hvs 11 (by decide) _ (Ok.refl _)
  obtain ⟨g8, e12, hOh, hKh⟩ := hvs 12 (by decide) _ (Ok.refl _)
  have f0 := hOh.frozen 0
  have c0 := hOh.cell 0 rfl
  have hokW := (Ok.refl W).drew.trans hR
  clear hvs K1 K2 K3 KA HL hR
  simp only [putFrom, e11, e12]
  simp only [Act.put, List.setIfInBounds_toArray, List.set_cons_zero, List.set_cons_succ]
  refine wpOp_store (w' := W'.setCell ⟨g8, 0, none⟩ (.int .i64 S)) rfl rfl rfl ?_ ?_
  · go_simp
  replace hokW := hokW.setCell (p := ⟨g8, 0, none⟩) (by show _ ≤ g8; rw [← HKE.out]; exact hKh) (.int .i64 S)
  replace hOh : Own (W'.setCell ⟨g8, 0, none⟩ (.int .i64 S)) g8 #[.int .i64 S] := by simpa using hOh.set 0 (.int .i64 S)
  clear c0 f0
  generalize W'.setCell ⟨g8, 0, none⟩ (.int .i64 S) = W2 at hOh hokW ⊢
  replace hO2 := hO2.next hokW
  replace hO3 := hO3.next hokW
  replace hO4 := hO4.next hokW
  replace hO5 := hO5.next hokW
  replace hT := hT.next hokW
  replace h := h.below hokW
  replace hok := hok.trans hokW
  clear hokW HKE hKh hK e11 e12
  generalize vs 10 = z10
  generalize vs (0 + 1 + 1 + 1 + 1 + 1 + 1 + 1 + 1 + 1) = z9
  generalize vs (0 + 1 + 1 + 1 + 1 + 1 + 1 + 1 + 1) = z8
  generalize vs (0 + 1 + 1 + 1 + 1 + 1 + 1 + 1) = z7
  generalize vs (0 + 1 + 1 + 1 + 1 + 1 + 1) = z6
  generalize vs (0 + 1 + 1 + 1 + 1 + 1) = z5
  generalize vs (0 + 1 + 1 + 1 + 1) = z4
  generalize vs (0 + 1 + 1 + 1) = z3
  generalize vs (0 + 1 + 1) = z2
  generalize vs (0 + 1) = z1
  generalize vs 0 = z0
  have b2 := hO2.cell 0 rfl
  have hbl := hO2.lt
  go_wp2_with (go_at_call 34; refine (leapOffsets _ _ _ _).mono ?_; rintro e w5 ⟨rfl, rfl⟩)
  have hO9 := Own.new W2 #[.slice A t.length cap] 22 rfl
  have hok9 := (Ok.refl W2).alloc (.cells #[.slice A t.length cap] 22)
  replace hO2 := hO2.next hok9
  replace hO3 := hO3.next hok9
  replace hO4 := hO4.next hok9
  replace hO5 := hO5.next hok9
  replace hOh := hOh.next hok9
  replace hT := hT.next hok9
  replace h := h.below hok9
  replace hok := hok.trans hok9
  clear hok9 b2 hbl
  generalize W2.alloc (.cells #[.slice A t.length cap] 22) = W3 at hO2 hO3 hO4 hO5 hO9 hOh hT h hok ⊢
  generalize W2.heap.size = B at hO9 ⊢
  have HS : SeqStopsK Fence.wide (6 - 1) Tryd.prog 51 #[.pointer (some ⟨B, 0, none⟩)] (fun x : Leap.Of t => #[.int .i64 x.1]) (Below W3.heap.size) (fun ys => ys.map (·.1) = Leap.offs t) (fun pre => pre.map (·.1) <+: Leap.offs t) (t.length + 1) W3 := fun l J Jx Wa hW hJ hJx hY h0 =>
    offs1 l B W3.heap.size A t cap J Jx hl (fun pre Wb o hj => hJ pre Wb _ none hj (World.grownBy_alloc Wb o none) (fun r e => by cases e)) hY Wa hW.size (fun W' hb => ⟨h.below (show Ok W3 W' from hW.trans hb), (hO9.next (show Ok W3 W' from hW.trans hb)).cell 0 rfl⟩) h0
  have HSz : w.heap.size ≤ W3.heap.size := hok.size
  refine (wpIn_wide (n := 6)).1 ?_
  refine wpIn_rangeFunc_ownF (F := Fence.wide) (n := 6) rfl (by omega) (gf := 51) (lb := #[.pointer (some ⟨B, 0, none⟩)]) rfl trivial (enters_of Tryd.func51 (by kernel_rfl) rfl) HS (fun h k => belowK_t h k) (belowK_b (Nat.le_refl _)) (Below.refl _ _) (fun _ => rfl)
    (fun pre W => (∀ x ∈ pre, hit x.1 = false) ∧ Below W3.heap.size W3 W)
    (fun c pre W => (c = .ret ∧ ∃ x ∈ pre, hit x.1 = true ∧ W.cell? ⟨g4, 0, none⟩ = some (.int .i64 (S + x.1)) ∧ W.cell? ⟨g5, 0, none⟩ = some (.int .i64 0)) ∧ Below w.heap.size w W)
    (OwnFrom.and (fun s A B row hs hg hr => hs) (ownFrom_below (Nat.le_refl _) (Nat.le_refl _)))
    (fun c => OwnFrom.and (Own.from (fun s A B row hs hg hr => by obtain ⟨e, x, hx, h1, h2, h3⟩ := hs; exact ⟨e, x, hx, h1, cell_kept h2 hg hr, cell_kept h3 hg hr⟩) _) (ownFrom_below (Nat.le_refl _) HSz))
    ⟨by simp, Below.refl _ _⟩
    (fun x => { tmps := #[.slice A t.length cap, .agg #[.int .i64 y, .int .i64 mo, .int .i64 d, .int .i64 hh, .int .i64 mi, .int .i64 se], .pointer (some ⟨g2, 0, none⟩), .pointer (some ⟨g3, 0, none⟩), .pointer (some ⟨g4, 0, none⟩), .pointer (some ⟨g5, 0, none⟩), .int .i64 nd, .bool true, .pointer (some ⟨g8, 0, none⟩), .int .i64 x.1, undef, .slice A t.length cap, .bool true, .bool false, .tuple #[.int .i64 nd, .bool true], .pointer (some ⟨g3, 0, none⟩), .int .i64 y, .pointer (some ⟨g3, 1, none⟩), .int .i64 mo, .pointer (some ⟨g3, 2, none⟩), .int .i64 d, .tuple #[.int .i64 nd, .bool true], .int .i64 nd, .bool true, .bool true, .bool false, z0, z1, z2, z3, z4, z5, z6, z7, z8, z9, z10, .int .i64 S, .slice A t.length cap, .func (.func 51) #[] #[.pointer (some ⟨B, 0, none⟩)], .int .i64 x.1, undef, undef, undef, undef, undef, undef, undef, undef, undef, undef, undef, undef, undef], defers := [] }) ?assign ?body ?done ?stop
  case assign =>
    intro l x W K hK
    gi_wp2
    exact hK
  case body =>
    rintro l pre x W4 ⟨hp, hB⟩ -
    have hok4 : Ok W3 W4 := hB
    replace hO2 := hO2.next hok4
    replace hO3 := hO3.next hok4
    replace hO4 := hO4.next hok4
    replace hO5 := hO5.next hok4
    replace hOh := hOh.next hok4
    replace hT := hT.next hok4
    replace h := h.below hok4
    have hx := HOF.out x
    have hh0 := HIT.out x.1
    have hmx : Tryd.prog.follows .mixedOrders = true := by kernel_rfl
    have hf1 : Fence.wide.fn 23 := trivial
    have hf2 : Fence.wide.fn 22 := trivial
    have KI := Lib.hid fun w => leapIsCount (S + x.1) w
    have c8 := hOh.cell 0 rfl
    have h8 := hOh.lt
    have c2 := hO2.cell 0 rfl
    have h2 := hO2.lt
    have l0 := hO3.cell 0 rfl
    have l1 := hO3.cell 1 rfl
    have l2 := hO3.cell 2 rfl
    have l3 := hO3.cell 3 rfl
    have l4 := hO3.cell 4 rfl
    have l5 := hO3.cell 5 rfl
    have h3 := hO3.lt
    have hsv : -4611686018427387904 ≤ S + x.1 ∧ S + x.1 ≤ 4611686018427387904 := by omega
    have GO : hit x.1 = false → ∀ W', Ok W4 W' → KeepsOthers W4 W' ∧ Below W3.heap.size W4 W' ∧ ((∀ z ∈ pre ++ [x], hit z.1 = false) ∧ Below W3.heap.size W3 W') := fun hf W' k =>
      ⟨okKeeps k, Below.mono k hB.size, fun z hz => by
        rcases List.mem_append.1 hz with g | g
        · exact hp z g
        · obtain rfl := List.mem_singleton.1 g
          exact hf, hB.trans (Below.mono k hB.size)⟩
    have GO2 : hit x.1 = true → ∀ W', Ok W4 W' → KeepsOthers W4 ((W'.setCell ⟨g4, 0, none⟩ (.int .i64 (S + x.1))).setCell ⟨g5, 0, none⟩ (.int .i64 0)) ∧ (∃ z ∈ pre ++ [x], hit z.1 = true ∧ ((W'.setCell ⟨g4, 0, none⟩ (.int .i64 (S + x.1))).setCell ⟨g5, 0, none⟩ (.int .i64 0)).cell? ⟨g4, 0, none⟩ = some (.int .i64 (S + z.1)) ∧ ((W'.setCell ⟨g4, 0, none⟩ (.int .i64 (S + x.1))).setCell ⟨g5, 0, none⟩ (.int .i64 0)).cell? ⟨g5, 0, none⟩ = some (.int .i64 0)) ∧ Below w.heap.size w ((W'.setCell ⟨g4, 0, none⟩ (.int .i64 (S + x.1))).setCell ⟨g5, 0, none⟩ (.int .i64 0)) := fun hf W' k =>
      ⟨(okKeeps k).trans ((KeepsOthers.setCell _ _ _).trans (KeepsOthers.setCell _ _ _)), ⟨x, List.mem_append.2 (.inr (List.mem_singleton.2 rfl)), hf,
        (((hO4.next k).set 0 (.int .i64 (S + x.1))).setOther (a := ⟨g5, 0, none⟩) hne (.int .i64 0)).cell 0 rfl,
        (((hO5.next k).setOther (a := ⟨g4, 0, none⟩) (fun e => hne e.symm) (.int .i64 (S + x.1))).set 0 (.int .i64 0)).cell 0 rfl⟩,
        (((hok.trans hok4).trans k).setCell (p := ⟨g4, 0, none⟩) hK4 (.int .i64 (S + x.1))).setCell (p := ⟨g5, 0, none⟩) hK5 (.int .i64 0)⟩
    replace GO := Lib.hid GO
    replace GO2 := Lib.hid GO2
    by_cases hc : Leap.cnt (S + x.1)
    · have KL2 := Lib.hid fun w' (k : Ok W4 w') => (KL.out (S + x.1) w' (hT.next k) (h.below k) hc).mono (R' := fun e w'' => e = .returned (lbV (Leap.lbl t (S + x.1))) ∧ Ok W4 w'') fun e w'' h => ⟨h.1, k.trans h.2⟩
      rw [decide_eq_true hc] at hh0 KI
      rw [Bool.true_and] at hh0
      generalize Leap.lbl t (S + x.1) = M at hh0 KL2
      obtain ⟨m0, m1, m2, m3, m4, m5⟩ := M
      have hE := fun w => KE.out ⟨m0, m1, m2, m3, m4, m5⟩ w
      simp only [lbV] at KL2 hE
      rw [← hh0] at hE
      have h4 := hO4
      have h5 := hO5
      obtain ⟨P, hP⟩ : ∃ P, hit x.1 = P := ⟨_, rfl⟩
      rw [hP] at hE
      have HP := Lib.hid hP
      have HOK := Lib.hid ((hok.trans hok4))
      clear hh0 hP hc KL KE HIT
      cases P
      · gi_wp2
        gi_region_with_o (first | ((refine ⟨trivial, ?_⟩); gi_at_call 22; refine (CallsIn.inRound l (callsIn_wide.2 (KI.out _))).mono ?_; rintro e w6 ⟨rfl, rfl⟩) | (gi_at_call 22; refine (CallsIn.inRound l (callsIn_wide.2 (KI.out _))).mono ?_; rintro e w6 ⟨rfl, rfl⟩) | ((refine ⟨trivial, ?_⟩); gi_at_call 23; refine (CallsIn.inRound l (callsIn_wide.2 (KL2.out _ ?_))).mono ?_; (focus (first | exact Ok.refl _ | exact (Ok.refl _).drew | exact (Ok.refl _).drew.drew)); rintro e w7 ⟨rfl, hb1⟩; have q0 := (hO3.next hb1).cell 0 rfl; have q1 := (hO3.next hb1).cell 1 rfl; have q2 := (hO3.next hb1).cell 2 rfl; have q3 := (hO3.next hb1).cell 3 rfl; have q4 := (hO3.next hb1).cell 4 rfl; have q5 := (hO3.next hb1).cell 5 rfl; have ql := (hO3.next hb1).lt; have r4 := (hO4.next hb1).cell 0 rfl; have r4f := (hO4.next hb1).frozen 0; have r4l := (hO4.next hb1).lt; have r5 := (hO5.next hb1).cell 0 rfl; have r5f := (hO5.next hb1).frozen 0; have r5l := (hO5.next hb1).lt) | (gi_at_call 23; refine (CallsIn.inRound l (callsIn_wide.2 (KL2.out _ ?_))).mono ?_; (focus (first | exact Ok.refl _ | exact (Ok.refl _).drew | exact (Ok.refl _).drew.drew)); rintro e w7 ⟨rfl, hb1⟩; have q0 := (hO3.next hb1).cell 0 rfl; have q1 := (hO3.next hb1).cell 1 rfl; have q2 := (hO3.next hb1).cell 2 rfl; have q3 := (hO3.next hb1).cell 3 rfl; have q4 := (hO3.next hb1).cell 4 rfl; have q5 := (hO3.next hb1).cell 5 rfl; have ql := (hO3.next hb1).lt; have r4 := (hO4.next hb1).cell 0 rfl; have r4f := (hO4.next hb1).frozen 0; have r4l := (hO4.next hb1).lt; have r5 := (hO5.next hb1).cell 0 rfl; have r5f := (hO5.next hb1).frozen 0; have r5l := (hO5.next hb1).lt))
        all_goals gi_wp2
        all_goals first | exact GO.out HP.out _ hb1 | exact GO.out HP.out _ hb1.drew | exact GO.out HP.out _ hb1.drew.drew
      · gi_wp2
        gi_region_with_o (first | ((refine ⟨trivial, ?_⟩); gi_at_call 22; refine (CallsIn.inRound l (callsIn_wide.2 (KI.out _))).mono ?_; rintro e w6 ⟨rfl, rfl⟩) | (gi_at_call 22; refine (CallsIn.inRound l (callsIn_wide.2 (KI.out _))).mono ?_; rintro e w6 ⟨rfl, rfl⟩) | ((refine ⟨trivial, ?_⟩); gi_at_call 23; refine (CallsIn.inRound l (callsIn_wide.2 (KL2.out _ ?_))).mono ?_; (focus (first | exact Ok.refl _ | exact (Ok.refl _).drew | exact (Ok.refl _).drew.drew)); rintro e w7 ⟨rfl, hb1⟩; have q0 := (hO3.next hb1).cell 0 rfl; have q1 := (hO3.next hb1).cell 1 rfl; have q2 := (hO3.next hb1).cell 2 rfl; have q3 := (hO3.next hb1).cell 3 rfl; have q4 := (hO3.next hb1).cell 4 rfl; have q5 := (hO3.next hb1).cell 5 rfl; have ql := (hO3.next hb1).lt; have r4 := (hO4.next hb1).cell 0 rfl; have r4f := (hO4.next hb1).frozen 0; have r4l := (hO4.next hb1).lt; have r5 := (hO5.next hb1).cell 0 rfl; have r5f := (hO5.next hb1).frozen 0; have r5l := (hO5.next hb1).lt) | (gi_at_call 23; refine (CallsIn.inRound l (callsIn_wide.2 (KL2.out _ ?_))).mono ?_; (focus (first | exact Ok.refl _ | exact (Ok.refl _).drew | exact (Ok.refl _).drew.drew)); rintro e w7 ⟨rfl, hb1⟩; have q0 := (hO3.next hb1).cell 0 rfl; have q1 := (hO3.next hb1).cell 1 rfl; have q2 := (hO3.next hb1).cell 2 rfl; have q3 := (hO3.next hb1).cell 3 rfl; have q4 := (hO3.next hb1).cell 4 rfl; have q5 := (hO3.next hb1).cell 5 rfl; have ql := (hO3.next hb1).lt; have r4 := (hO4.next hb1).cell 0 rfl; have r4f := (hO4.next hb1).frozen 0; have r4l := (hO4.next hb1).lt; have r5 := (hO5.next hb1).cell 0 rfl; have r5f := (hO5.next hb1).frozen 0; have r5l := (hO5.next hb1).lt))
        all_goals gi_wp2
        all_goals first | exact ⟨(GO2.out HP.out _ hb1).1, ⟨rfl, (GO2.out HP.out _ hb1).2.1⟩, (GO2.out HP.out _ hb1).2.2⟩ | exact ⟨(GO2.out HP.out _ hb1.drew).1, ⟨rfl, (GO2.out HP.out _ hb1.drew).2.1⟩, (GO2.out HP.out _ hb1.drew).2.2⟩ | exact ⟨(GO2.out HP.out _ hb1.drew.drew).1, ⟨rfl, (GO2.out HP.out _ hb1.drew.drew).2.1⟩, (GO2.out HP.out _ hb1.drew.drew).2.2⟩
    · rw [decide_eq_false hc] at hh0 KI
      rw [Bool.false_and] at hh0
      have HH := Lib.hid hh0
      clear hh0 hc
      gi_wp2
      gi_region_with_o (first | ((refine ⟨trivial, ?_⟩); gi_at_call 22; refine (CallsIn.inRound l (callsIn_wide.2 (KI.out _))).mono ?_; rintro e w6 ⟨rfl, rfl⟩) | (gi_at_call 22; refine (CallsIn.inRound l (callsIn_wide.2 (KI.out _))).mono ?_; rintro e w6 ⟨rfl, rfl⟩))
      all_goals gi_wp2
      all_goals exact GO.out HH.out _ (Ok.refl _).drew
  case done =>
    have hneg := hne
    rintro D ys W5 hD hS ⟨hne, hB⟩ hK
    have hok5 : Ok W3 W5 := hB
    have hN : ∀ x ∈ Leap.offs t, hit x = false := fun x hx => by
      rw [← hS] at hx
      obtain ⟨z, hz, rfl⟩ := List.mem_map.1 hx
      exact hne z hz
    have HN := Lib.hid hN
    replace hO4 := hO4.next hok5
    replace hO5 := hO5.next hok5
    replace hok := hok.trans hok5
    have r4 := hO4.cell 0 rfl
    have r4f := hO4.frozen 0
    have r4l := hO4.lt
    have r5 := hO5.cell 0 rfl
    have r5f := hO5.frozen 0
    have r5l := hO5.lt
    clear hN hne hS
    go_wp2_with fail
    have hK' := ((KeepsOthers.setCell W5 ⟨g4, 0, none⟩ (.int .i64 0)).trans (KeepsOthers.setCell _ ⟨g5, 0, none⟩ (.int .i64 30))).same D _ hK rfl
    replace hok := (hok.setCell (p := ⟨g4, 0, none⟩) hK4 (.int .i64 0)).setCell (p := ⟨g5, 0, none⟩) hK5 (.int .i64 30)
    have c4 := ((hO4.set 0 (.int .i64 0)).setOther (a := ⟨g5, 0, none⟩) hneg (.int .i64 30)).cell 0 rfl
    have c5 := ((hO5.setOther (a := ⟨g4, 0, none⟩) (fun e => hneg e.symm) (.int .i64 0)).set 0 (.int .i64 30)).cell 0 rfl
    clear hO4 hO5 r4 r4f r4l r5 r5f r5l
    generalize (W5.setCell ⟨g4, 0, none⟩ (.int .i64 0)).setCell ⟨g5, 0, none⟩ (.int .i64 30) = W6 at *
    refine ⟨by simp, .inl ⟨_, _, rfl, run_takeDeferred hK', ?_⟩⟩
    have d4 := cell_kept c4 (grownBy_putObj' _ D (.deferred none)) (fun r e => by cases e; exact ⟨_, hK', rfl⟩)
    have d5 := cell_kept c5 (grownBy_putObj' _ D (.deferred none)) (fun r e => by cases e; exact ⟨_, hK', rfl⟩)
    refine ⟨.tuple #[.int .i64 0, .int .i64 30], ?_, .inr ⟨HN.out, rfl⟩, Below.trans hok.below (belowK_b (w := w) (Nat.le_refl _) W6 D _ _ (by omega) hK' rfl rfl)⟩
    simp [results, Tryd.results15, go_sem, d4, d5]
  case stop =>
    rintro D c pre W5 hD hpre ⟨⟨rfl, z, hz, hit1, c4, c5⟩, hB⟩ hK
    have hok5 : Ok w W5 := hB
    have HM : Hid (z.1 ∈ Leap.offs t) := Lib.hid z.2
    have HI := Lib.hid hit1
    obtain ⟨v, hv⟩ : ∃ v, z.1 = v := ⟨_, rfl⟩
    rw [hv] at HM HI c4
    clear hit1 hv hz hpre
    refine (wpIn_wide (n := 6)).2 ?_
    go_wp2_with fail
    refine ⟨by simp, .inl ⟨_, _, rfl, run_takeDeferred hK, ?_⟩⟩
    have d4 := cell_kept c4 (grownBy_putObj' _ D (.deferred none)) (fun r e => by cases e; exact ⟨_, hK, rfl⟩)
    have d5 := cell_kept c5 (grownBy_putObj' _ D (.deferred none)) (fun r e => by cases e; exact ⟨_, hK, rfl⟩)
    refine ⟨.tuple #[.int .i64 (S + v), .int .i64 0], ?_, .inl ⟨v, HM.out, HI.out, rfl⟩, Below.trans hok5.below (belowK_b (w := w) (Nat.le_refl _) W5 D _ _ (by omega) hK rfl rfl)⟩
    simp [results, Tryd.results15, go_sem, d4, d5]
end Go.Proofs.YtacphjdkobodnaaDoor
