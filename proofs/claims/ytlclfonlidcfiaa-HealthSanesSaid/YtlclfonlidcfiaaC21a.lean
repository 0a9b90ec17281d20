/- Contracts of layer 21: a state in a block; the document's Of, Far and Jumps. -/
import Derived.Test.YtlclfonlidcfiaaC04e
import Derived.Test.YtlclfonlidcfiaaC03a
import Derived.Test.YtlclfonlidcfiaaWB
import Derived.Test.YtlclfonlidcfiaaW40
import Derived.Test.YtlclfonlidcfiaaC20d
namespace Go.Proofs.Ytlclfonlidcfiaa
open Go.RowKit
set_option linter.unusedVariables false
set_option maxRecDepth 100000
attribute [local go_sem ↓] Go.wp_at_zero Go.wp_at_succ
/-- The cells of a state in a block. -/
theorem Own.sta {W : World} {g : Nat} {s : Sta} {A : Option Addr} {cap : Nat} (h : Own W g (staCells s A cap)) :
    W.cell? ⟨g, 0, none⟩ = some (.int .i64 s.lo) ∧ W.cell? ⟨g, 1, none⟩ = some (.int .i64 s.hi) ∧ W.cell? ⟨g, 2, none⟩ = some (.int .i64 s.time) ∧ W.cell? ⟨g, 3, none⟩ = some (.bool s.set) ∧ W.cell? ⟨g, 4, none⟩ = some (.int .i64 s.held) ∧ W.cell? ⟨g, 5, none⟩ = some (.int .i64 s.hops) ∧ W.cell? ⟨g, 6, none⟩ = some (.bool s.good) ∧ W.cell? ⟨g, 7, none⟩ = some (.slice A s.table.length cap) ∧ W.cell? ⟨g, 8, none⟩ = some (.int .i64 s.st) ∧ W.cell? ⟨g, 9, none⟩ = some (.int .i64 s.sn) ∧ W.cell? ⟨g, 10, none⟩ = some (.int .i64 s.life) :=
  ⟨h.cell 0 rfl, h.cell 1 rfl, h.cell 2 rfl, h.cell 3 rfl, h.cell 4 rfl, h.cell 5 rfl, h.cell 6 rfl, h.cell 7 rfl, h.cell 8 rfl, h.cell 9 rfl, h.cell 10 rfl⟩
theorem Own.as {W : World} {g : Nat} {cs ds : Array Value} (h : Own W g cs) (e : cs = ds) : Own W g ds := e ▸ h
theorem ref21Of (p : Par) (s : Sta) (A : Option Addr) (cap : Nat) (w : World) : Calls Try.prog 15 #[parV p, staV s A cap] w fun e w' => e = .returned (.int .i64 (Health.of p s)) ∧ Ok w w' := by
  have hok := Ok.refl w
  obtain ⟨lo, hi, time, set, held, hops, good, table, st, sn, lf⟩ := s
  unfold staV Health.of
  simp only
  cases good
  · rw [if_pos (Or.inl rfl)]
    go_enter Try.func15, Try.ntmps15
    go_wp2
    go_ret
    exact ⟨rfl, (hok.alloc _).alloc _⟩
  cases set
  · rw [if_pos (Or.inr (Or.inl rfl))]
    go_enter Try.func15, Try.ntmps15
    go_wp2
    go_ret
    exact ⟨rfl, (hok.alloc _).alloc _⟩
  by_cases h : p.d < hops
  · rw [if_pos (Or.inr (Or.inr h))]
    go_enter Try.func15, Try.ntmps15
    go_wp2
    go_ret
    exact ⟨rfl, (hok.alloc _).alloc _⟩
  rw [if_neg (by simp only [reduceCtorEq, false_or]; exact h)]
  by_cases h2 : p.hold < held
  · rw [if_pos h2]
    go_enter Try.func15, Try.ntmps15
    go_wp2
    go_ret
    exact ⟨rfl, (hok.alloc _).alloc _⟩
  · rw [if_neg h2]
    go_enter Try.func15, Try.ntmps15
    go_wp2
    go_ret
    exact ⟨rfl, (hok.alloc _).alloc _⟩
/-- What each operation leaves. -/
def VMF21 (B : Nat) (p : Par) (held m wd z : Int) (w : World) (v : Value) : Nat → Prop
  | 0 => v = parV p
  | 1 => v = .int .i64 held
  | 2 => v = .pointer (some ⟨B, 9, none⟩)
  | 3 => v = .int .i64 p.hold
  | 4 => ∃ n : Addr, v = .slice (some n) 2 2 ∧ IntsAt w (some n) [held, p.hold]
  | 5 => v = .int .i64 m
  | 6 => v = .pointer (some ⟨B, 2, none⟩)
  | 7 => v = .int .i64 p.d
  | 8 => v = .int .i64 wd
  | 9 => v = .int .i64 z
  | 10 => v = .int .i64 z
  | _ => v = .bool true
/-- It stays so. -/
def VCF21 (B : Nat) (p : Par) (held m wd z : Int) (i : Nat) (v : Value) (w : World) : Prop := ∀ w', Ok w w' → VMF21 B p held m wd z w' v i
theorem ref21Far (p : Par) (held : Int) (w : World) : Calls Try.prog 17 #[parV p, .int .i64 held] w fun e w' => e = .returned (.int .i64 (Health.far p held)) ∧ Ok w w' := by
  have KM := Lib.hid fun w A h => refMax A [held, p.hold] 2 w h (by simp)
  have KW := Lib.hid fun w => ref4Width p (Sat.most [held, p.hold]) p.d w
  have KX := Lib.hid fun w => refMul 2 (Lim.width p (Sat.most [held, p.hold]) p.d) w
  rw [show Sat.mul 2 (Lim.width p (Sat.most [held, p.hold]) p.d) = Health.far p held from rfl] at KX
  generalize Health.far p held = z at KX ⊢
  generalize Lim.width p (Sat.most [held, p.hold]) p.d = wd at KW KX
  generalize Sat.most [held, p.hold] = m at KM KW
  have hP := Own.new w (parCells p) 23 rfl
  have hok := (Ok.refl w).alloc (.cells (parCells p) 23)
  go_enter Try.func17, Try.ntmps17
  go_upto_region 1 with fail
  generalize w.alloc (.cells (parCells p) 23) = W at hP hok ⊢
  obtain ⟨B, hB⟩ : ∃ r, w.heap.size = r := ⟨_, rfl⟩
  rw [hB] at hP ⊢
  clear hB
  have HOK := Lib.hid hok
  have HP := Lib.hid fun W' (k : Ok W.drew W') => hP.drew.next k
  clear hP hok
  refine wp_region_facts (by kernel_rfl) 15 rfl (VCF21 B p held m wd z) Ok (by kernel_rfl) (fun i v w w' h k w'' k' => h w'' (k.trans k')) (fun a b c => Ok.trans) (Ok.refl _) [some 5, some 6, some 7, some 8, some 9, some 10, some 11, some 12, some 13, some 14, some 4] rfl 11 rfl ⟨?_, ?_, ?_, ?_, ?_, ?_, ?_, ?_, ?_, ?_, ?_, trivial⟩ ?_
  · intro a' w' hF hR
    have e2 : a'.tmps[2]? = some (.pointer (some ⟨B, 0, none⟩)) := hF.slot 2 (by kernel_rfl) rfl
    obtain ⟨c0, c1, c2, c3, c4, c5, c6, c7, c8, c9, c10, c11⟩ := (HP.out _ hR).pars
    refine wpOp_run (v := parV p) rfl rfl ?_ (fun _ _ => rfl) (Ok.refl _)
    clear hF
    go_simp
  · intro a' w' hF hR
    have e1 : a'.tmps[1]? = some (.int .i64 held) := hF.slot 1 (by kernel_rfl) rfl
    refine wpOp_run (v := .int .i64 held) rfl rfl ?_ (fun _ _ => rfl) (Ok.refl _)
    clear hF
    go_simp
  · intro a' w' hF hR
    have e2 : a'.tmps[2]? = some (.pointer (some ⟨B, 0, none⟩)) := hF.slot 2 (by kernel_rfl) rfl
    refine wpOp_run (v := .pointer (some ⟨B, 9, none⟩)) rfl rfl ?_ (fun _ _ => rfl) (Ok.refl _)
    clear hF
    go_simp
  · intro a' w' hF hR
    obtain ⟨v2, hv2, e7⟩ := hF.get 2 7 (by kernel_rfl) (by kernel_rfl)
    obtain rfl : v2 = _ := hv2 _ (Ok.refl _)
    obtain ⟨c0, c1, c2, c3, c4, c5, c6, c7, c8, c9, c10, c11⟩ := (HP.out _ hR).pars
    refine wpOp_run (v := .int .i64 p.hold) rfl rfl ?_ (fun _ _ => rfl) (Ok.refl _)
    clear hF
    go_simp
  · intro a' w' hF hR
    obtain ⟨v1, hv1, e6⟩ := hF.get 1 6 (by kernel_rfl) (by kernel_rfl)
    obtain rfl : v1 = _ := hv1 _ (Ok.refl _)
    obtain ⟨v3, hv3, e8⟩ := hF.get 3 8 (by kernel_rfl) (by kernel_rfl)
    obtain rfl : v3 = _ := hv3 _ (Ok.refl _)
    refine wpOp_run (v := .slice (some ⟨w'.heap.size, 0, none⟩) 2 2) (w' := w'.alloc (.cells #[.int .i64 held, .int .i64 p.hold] 3)) rfl rfl ?_ (fun w'' k => ⟨_, rfl, (ints_new _ [held, p.hold] _ _ rfl rfl).below k⟩) ((Ok.refl _).alloc _)
    clear hF
    go_simp
  · intro a' w' hF hR
    obtain ⟨v4, hv4, e9⟩ := hF.get 4 9 (by kernel_rfl) (by kernel_rfl)
    obtain ⟨n4, rfl, hp4⟩ := hv4 _ (Ok.refl _)
    clear hF
    refine wpOp_call (f := 51) (args := #[.slice (some n4) 2 2]) rfl rfl ?_ ((KM.out _ _ hp4).mono ?_)
    · go_simp
    · rintro e w2 ⟨rfl, rfl⟩; exact ⟨_, rfl, fun _ _ => rfl, Ok.refl _⟩
  · intro a' w' hF hR
    have e2 : a'.tmps[2]? = some (.pointer (some ⟨B, 0, none⟩)) := hF.slot 2 (by kernel_rfl) rfl
    refine wpOp_run (v := .pointer (some ⟨B, 2, none⟩)) rfl rfl ?_ (fun _ _ => rfl) (Ok.refl _)
    clear hF
    go_simp
  · intro a' w' hF hR
    obtain ⟨v6, hv6, e11⟩ := hF.get 6 11 (by kernel_rfl) (by kernel_rfl)
    obtain rfl : v6 = _ := hv6 _ (Ok.refl _)
    obtain ⟨c0, c1, c2, c3, c4, c5, c6, c7, c8, c9, c10, c11⟩ := (HP.out _ hR).pars
    refine wpOp_run (v := .int .i64 p.d) rfl rfl ?_ (fun _ _ => rfl) (Ok.refl _)
    clear hF
    go_simp
  · intro a' w' hF hR
    obtain ⟨v0, hv0, e5⟩ := hF.get 0 5 (by kernel_rfl) (by kernel_rfl)
    obtain rfl : v0 = _ := hv0 _ (Ok.refl _)
    obtain ⟨v5, hv5, e10⟩ := hF.get 5 10 (by kernel_rfl) (by kernel_rfl)
    obtain rfl : v5 = _ := hv5 _ (Ok.refl _)
    obtain ⟨v7, hv7, e12⟩ := hF.get 7 12 (by kernel_rfl) (by kernel_rfl)
    obtain rfl : v7 = _ := hv7 _ (Ok.refl _)
    clear hF
    refine wpOp_call (f := 50) (args := #[parV p, .int .i64 m, .int .i64 p.d]) rfl rfl ?_ ((KW.out _).mono ?_)
    · go_simp
    · rintro e w2 ⟨rfl, hb2⟩; exact ⟨_, rfl, fun _ _ => rfl, hb2⟩
  · intro a' w' hF hR
    obtain ⟨v8, hv8, e13⟩ := hF.get 8 13 (by kernel_rfl) (by kernel_rfl)
    obtain rfl : v8 = _ := hv8 _ (Ok.refl _)
    clear hF
    refine wpOp_call (f := 49) (args := #[.int .i64 2, .int .i64 wd]) rfl rfl ?_ ((KX.out _).mono ?_)
    · go_simp
    · rintro e w2 ⟨rfl, rfl⟩; exact ⟨_, rfl, fun _ _ => rfl, Ok.refl _⟩
  · intro a' w' hF hR
    obtain ⟨v9, hv9, e14⟩ := hF.get 9 14 (by kernel_rfl) (by kernel_rfl)
    obtain rfl : v9 = _ := hv9 _ (Ok.refl _)
    refine wpOp_run (v := .int .i64 z) rfl rfl ?_ (fun _ _ => rfl) (Ok.refl _)
    clear hF
    go_simp
  intro vs w2 hV hR
  have e10 : vs 10 = .int .i64 z := hV 10 (by decide) _ (Ok.refl _)
  have hok2 := HOK.out.trans ((Ok.refl W).drew.trans hR)
  clear hV HP HOK KM KW KX
  simp only [putFrom, e10]
  simp only [Act.put, List.setIfInBounds_toArray, List.set_cons_zero, List.set_cons_succ]
  go_wp2
  go_ret
  exact ⟨rfl, hok2⟩
/-- What each operation leaves. -/
def VMM21 (B G : Nat) (p : Par) (s : Sta) (f z : Int) (w : World) (v : Value) : Nat → Prop
  | 0 => v = .pointer (some ⟨G, 0, none⟩)
  | 1 => v = .pointer (some ⟨G, 1, none⟩)
  | 2 => v = .int .i64 s.hi
  | 3 => v = parV p
  | 4 => v = .pointer (some ⟨G, 4, none⟩)
  | 5 => v = .int .i64 s.held
  | 6 => v = .int .i64 f
  | 7 => ∃ n : Addr, v = .slice (some n) 2 2 ∧ IntsAt w (some n) [s.hi, f]
  | 8 => v = .int .i64 z
  | 9 => v = .int .i64 z
  | _ => v = .bool true
/-- It stays so. -/
def VCM21 (B G : Nat) (p : Par) (s : Sta) (f z : Int) (i : Nat) (v : Value) (w : World) : Prop := ∀ w', Ok w w' → VMM21 B G p s f z w' v i
theorem ref21most (p : Par) (s : Sta) (A : Option Addr) (cap : Nat) (w : World) : Calls Try.prog 60 #[parV p, staV s A cap] w fun e w' => e = .returned (.int .i64 (Health.most p s)) ∧ Ok w w' := by
  have KF := Lib.hid fun w => ref21Far p s.held w
  have KA := Lib.hid fun w A h => refAdd A [s.hi, Health.far p s.held] 2 w h (by simp)
  rw [show Sat.sum [s.hi, Health.far p s.held] = Health.most p s from rfl] at KA
  generalize Health.most p s = z at KA ⊢
  generalize Health.far p s.held = f at KA KF
  have hP := (Own.new w (parCells p) 23 rfl).alloc (.cells (staCells s A cap) 30)
  have hS := Own.new (w.alloc (.cells (parCells p) 23)) (staCells s A cap) 30 (g := w.heap.size + 1) (by simp)
  have hok := ((Ok.refl w).alloc (.cells (parCells p) 23)).alloc (.cells (staCells s A cap) 30)
  go_enter Try.func60, Try.ntmps60
  go_upto_region 1 with fail
  change Code.wp _ _ _ _ ((w.alloc (.cells (parCells p) 23)).alloc (.cells (staCells s A cap) 30))
  generalize (w.alloc (.cells (parCells p) 23)).alloc (.cells (staCells s A cap) 30) = W at hP hS hok ⊢
  obtain ⟨G, hG⟩ : ∃ r, w.heap.size + 1 = r := ⟨_, rfl⟩
  rw [hG] at hS ⊢
  clear hG
  obtain ⟨B, hB⟩ : ∃ r, w.heap.size = r := ⟨_, rfl⟩
  rw [hB] at hP ⊢
  clear hB
  have HOK := Lib.hid hok
  have HP := Lib.hid fun W' (k : Ok W.drew W') => hP.drew.next k
  have HS := Lib.hid fun W' (k : Ok W.drew W') => hS.drew.next k
  clear hP hS hok
  refine wp_region_facts (by kernel_rfl) 14 rfl (VCM21 B G p s f z) Ok (by kernel_rfl) (fun i v w w' h k w'' k' => h w'' (k.trans k')) (fun a b c => Ok.trans) (Ok.refl _) [some 5, some 6, some 7, some 8, some 9, some 10, some 11, some 12, some 13, some 4] rfl 10 rfl ⟨?_, ?_, ?_, ?_, ?_, ?_, ?_, ?_, ?_, ?_, trivial⟩ ?_
  · intro a' w' hF hR
    have e3 : a'.tmps[3]? = some (.pointer (some ⟨G, 0, none⟩)) := hF.slot 3 (by kernel_rfl) rfl
    refine wpOp_run (v := .pointer (some ⟨G, 0, none⟩)) rfl rfl ?_ (fun _ _ => rfl) (Ok.refl _)
    clear hF
    go_simp
  · intro a' w' hF hR
    obtain ⟨v0, hv0, e5⟩ := hF.get 0 5 (by kernel_rfl) (by kernel_rfl)
    obtain rfl : v0 = _ := hv0 _ (Ok.refl _)
    refine wpOp_run (v := .pointer (some ⟨G, 1, none⟩)) rfl rfl ?_ (fun _ _ => rfl) (Ok.refl _)
    clear hF
    go_simp
  · intro a' w' hF hR
    obtain ⟨v1, hv1, e6⟩ := hF.get 1 6 (by kernel_rfl) (by kernel_rfl)
    obtain rfl : v1 = _ := hv1 _ (Ok.refl _)
    obtain ⟨s0, s1, s2, s3, s4, s5, s6, s7, s8, s9, s10⟩ := (HS.out _ hR).sta
    refine wpOp_run (v := .int .i64 s.hi) rfl rfl ?_ (fun _ _ => rfl) (Ok.refl _)
    clear hF
    go_simp
  · intro a' w' hF hR
    have e2 : a'.tmps[2]? = some (.pointer (some ⟨B, 0, none⟩)) := hF.slot 2 (by kernel_rfl) rfl
    obtain ⟨c0, c1, c2, c3, c4, c5, c6, c7, c8, c9, c10, c11⟩ := (HP.out _ hR).pars
    refine wpOp_run (v := parV p) rfl rfl ?_ (fun _ _ => rfl) (Ok.refl _)
    clear hF
    go_simp
  · intro a' w' hF hR
    have e3 : a'.tmps[3]? = some (.pointer (some ⟨G, 0, none⟩)) := hF.slot 3 (by kernel_rfl) rfl
    refine wpOp_run (v := .pointer (some ⟨G, 4, none⟩)) rfl rfl ?_ (fun _ _ => rfl) (Ok.refl _)
    clear hF
    go_simp
  · intro a' w' hF hR
    obtain ⟨v4, hv4, e9⟩ := hF.get 4 9 (by kernel_rfl) (by kernel_rfl)
    obtain rfl : v4 = _ := hv4 _ (Ok.refl _)
    obtain ⟨s0, s1, s2, s3, s4, s5, s6, s7, s8, s9, s10⟩ := (HS.out _ hR).sta
    refine wpOp_run (v := .int .i64 s.held) rfl rfl ?_ (fun _ _ => rfl) (Ok.refl _)
    clear hF
    go_simp
  · intro a' w' hF hR
    obtain ⟨v3, hv3, e8⟩ := hF.get 3 8 (by kernel_rfl) (by kernel_rfl)
    obtain rfl : v3 = _ := hv3 _ (Ok.refl _)
    obtain ⟨v5, hv5, e10⟩ := hF.get 5 10 (by kernel_rfl) (by kernel_rfl)
    obtain rfl : v5 = _ := hv5 _ (Ok.refl _)
    clear hF
    refine wpOp_call (f := 17) (args := #[parV p, .int .i64 s.held]) rfl rfl ?_ ((KF.out _).mono ?_)
    · go_simp
    · rintro e w2 ⟨rfl, hb2⟩; exact ⟨_, rfl, fun _ _ => rfl, hb2⟩
  · intro a' w' hF hR
    obtain ⟨v2, hv2, e7⟩ := hF.get 2 7 (by kernel_rfl) (by kernel_rfl)
    obtain rfl : v2 = _ := hv2 _ (Ok.refl _)
    obtain ⟨v6, hv6, e11⟩ := hF.get 6 11 (by kernel_rfl) (by kernel_rfl)
    obtain rfl : v6 = _ := hv6 _ (Ok.refl _)
    refine wpOp_run (v := .slice (some ⟨w'.heap.size, 0, none⟩) 2 2) (w' := w'.alloc (.cells #[.int .i64 s.hi, .int .i64 f] 3)) rfl rfl ?_ (fun w'' k => ⟨_, rfl, (ints_new _ [s.hi, f] _ _ rfl rfl).below k⟩) ((Ok.refl _).alloc _)
    clear hF
    go_simp
  · intro a' w' hF hR
    obtain ⟨v7, hv7, e12⟩ := hF.get 7 12 (by kernel_rfl) (by kernel_rfl)
    obtain ⟨n7, rfl, hp7⟩ := hv7 _ (Ok.refl _)
    clear hF
    refine wpOp_call (f := 44) (args := #[.slice (some n7) 2 2]) rfl rfl ?_ ((KA.out _ _ hp7).mono ?_)
    · go_simp
    · rintro e w2 ⟨rfl, rfl⟩; exact ⟨_, rfl, fun _ _ => rfl, Ok.refl _⟩
  · intro a' w' hF hR
    obtain ⟨v8, hv8, e13⟩ := hF.get 8 13 (by kernel_rfl) (by kernel_rfl)
    obtain rfl : v8 = _ := hv8 _ (Ok.refl _)
    refine wpOp_run (v := .int .i64 z) rfl rfl ?_ (fun _ _ => rfl) (Ok.refl _)
    clear hF
    go_simp
  intro vs w2 hV hR
  have e9 : vs 9 = .int .i64 z := hV 9 (by decide) _ (Ok.refl _)
  have hok2 := HOK.out.trans ((Ok.refl W).drew.trans hR)
  clear hV HP HS HOK KF KA
  simp only [putFrom, e9]
  simp only [Act.put, List.setIfInBounds_toArray, List.set_cons_zero, List.set_cons_succ]
  go_wp2
  go_ret
  exact ⟨rfl, hok2⟩
end Go.Proofs.Ytlclfonlidcfiaa
