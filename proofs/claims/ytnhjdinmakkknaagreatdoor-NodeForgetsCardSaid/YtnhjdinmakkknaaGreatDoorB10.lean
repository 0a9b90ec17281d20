/- Contracts of layer 11: the program's calls. -/
import Derived.Test.YtnhjdinmakkknaaGreatDoorP24
import Derived.Test.YtnhjdinmakkknaaGreatDoorB06
import Derived.Test.YtnhjdinmakkknaaGreatDoorB03
import Derived.Test.YtnhjdinmakkknaaGreatDoorMA
import Derived.Test.YtnhjdinmakkknaaGreatDoorB09
import Derived.Deep.CutRange
namespace Go.Proofs.YtnhjdinmakkknaaGreatDoor
open Go.RowKit
set_option linter.unusedVariables false
set_option maxRecDepth 100000
attribute [local go_sem ↓] Go.wp_at_zero Go.wp_at_succ
/-- What each operation leaves. -/
def VMcH (B S : Nat) (p : Par) (a b m u x y : Int) (w : World) (v : Value) : Nat → Prop
  | 0 => v = spanV a b
  | 1 => v = .int .i64 m
  | 2 => v = .pointer (some ⟨B, 4, none⟩)
  | 3 => v = .int .i64 p.rho
  | 4 => v = .int .i64 u
  | 5 => v = .int .i64 m
  | 6 => v = .pointer (some ⟨B, 4, none⟩)
  | 7 => v = .int .i64 p.rho
  | 8 => ∃ n : Addr, v = .slice (some n) 2 2 ∧ IntsAt w (some n) [m, p.rho]
  | 9 => v = .int .i64 (Sat.sum [m, p.rho])
  | 10 => v = spanV x y
  | _ => v = .bool true
/-- It stays so. -/
def VCcH (B S : Nat) (p : Par) (a b m u x y : Int) (i : Nat) (v : Value) (w : World) : Prop := ∀ w', Ok w w' → VMcH B S p a b m u x y w' v i
set_option maxHeartbeats 1600000 in
theorem carryHold (p : Par) (a b m : Int) (w : World) : Calls Tryz.prog 128 #[parV p, spanV a b, .int .i64 m] w fun e w' => e = .returned (spanV (Carry.hold p (a, b) m).1 (Carry.hold p (a, b) m).2) ∧ Ok w w' := by
  have KU := Lib.hid fun w => satSub m p.rho w
  have KS := Lib.hid fun w => spanShift a b (Sat.sub m p.rho) (Sat.sum [m, p.rho]) w
  show Calls _ _ _ _ fun e w' => e = .returned (spanV (Sat.sum [a, Sat.sub m p.rho]) (Sat.sum [b, Sat.sum [m, p.rho]])) ∧ Ok w w'
  obtain ⟨x, hx⟩ : ∃ x, Sat.sum [a, Sat.sub m p.rho] = x := ⟨_, rfl⟩
  obtain ⟨y, hy⟩ : ∃ x, Sat.sum [b, Sat.sum [m, p.rho]] = x := ⟨_, rfl⟩
  rw [hx, hy] at KS ⊢
  clear hx hy
  obtain ⟨u, hu⟩ : ∃ x, Sat.sub m p.rho = x := ⟨_, rfl⟩
  rw [hu] at KU KS
  clear hu
  have hP := ((Own.new w (parCells p) 23 rfl).alloc (.cells #[.int .i64 a, .int .i64 b] 25)).alloc (.cells #[.int .i64 0, .int .i64 0] 25)
  have hS := (Slab.new (w.alloc (.cells (parCells p) 23)) a b 25 (g := w.heap.size + 1) (by simp)).alloc (.cells #[.int .i64 0, .int .i64 0] 25)
  have hZ := Slab.new ((w.alloc (.cells (parCells p) 23)).alloc (.cells #[.int .i64 a, .int .i64 b] 25)) 0 0 25 (g := w.heap.size + 1 + 1) (by simp)
  have hok := (((Ok.refl w).alloc (.cells (parCells p) 23)).alloc (.cells #[.int .i64 a, .int .i64 b] 25)).alloc (.cells #[.int .i64 0, .int .i64 0] 25)
  have hrw : w.heap.size ≤ w.heap.size + 1 + 1 := by omega
  go_enter Tryz.func128, Tryz.ntmps128
  go_upto_region 1 with fail
  generalize ((w.alloc (.cells (parCells p) 23)).alloc (.cells #[.int .i64 a, .int .i64 b] 25)).alloc (.cells #[.int .i64 0, .int .i64 0] 25) = W at hP hS hZ hok ⊢
  obtain ⟨r, hr⟩ : ∃ r, w.heap.size + 1 + 1 = r := ⟨_, rfl⟩
  rw [hr] at hZ hrw ⊢
  clear hr
  obtain ⟨S, hSe⟩ : ∃ r, w.heap.size + 1 = r := ⟨_, rfl⟩
  rw [hSe] at hS ⊢
  clear hSe
  obtain ⟨B, hB⟩ : ∃ r, w.heap.size = r := ⟨_, rfl⟩
  have HBw := Lib.hid hB
  rw [hB] at hP ⊢
  clear hB
  have HP := Lib.hid fun W' (k : Ok W.drew W') => hP.drew.next k
  have HS := Lib.hid fun W' (k : Ok W.drew W') => hS.drew.next k
  have HR := Lib.hid fun W' (k : Ok W.drew W') => hZ.drew.next k
  clear hP hS hZ
  refine wp_region_facts_last (by kernel_rfl) 18 rfl (VCcH B S p a b m u x y) Ok _ rfl _ 11 rfl rfl rfl rfl (by kernel_rfl) (by kernel_rfl) (by kernel_rfl) (fun i v w w' h k w'' k' => h w'' (k.trans k')) (fun a b c => Ok.trans) (Ok.refl _) [some 7, some 8, some 9, some 10, some 11, some 12, some 13, some 14, some 15, some 16, some 17] rfl ⟨?_, ?_, ?_, ?_, ?_, ?_, ?_, ?_, ?_, ?_, ?_, trivial⟩ ?_
  · intro a' w' hF hR
    have e4 : a'.tmps[4]? = some (.pointer (some ⟨S, 0, none⟩)) := hF.slot 4 (by kernel_rfl) rfl
    have c0 := (HS.out _ hR).c0
    have c1 := (HS.out _ hR).c1
    refine wpOp_run (v := spanV a b) rfl rfl ?_ (fun _ _ => rfl) (Ok.refl _)
    clear hF
    go_simp
  · intro a' w' hF hR
    have e2 : a'.tmps[2]? = some (.int .i64 m) := hF.slot 2 (by kernel_rfl) rfl
    refine wpOp_run (v := .int .i64 m) rfl rfl ?_ (fun _ _ => rfl) (Ok.refl _)
    clear hF
    go_simp
  · intro a' w' hF hR
    have e3 : a'.tmps[3]? = some (.pointer (some ⟨B, 0, none⟩)) := hF.slot 3 (by kernel_rfl) rfl
    refine wpOp_run (v := .pointer (some ⟨B, 4, none⟩)) rfl rfl ?_ (fun _ _ => rfl) (Ok.refl _)
    clear hF
    go_simp
  · intro a' w' hF hR
    obtain ⟨v2, hv2, e9⟩ := hF.get 2 9 (by kernel_rfl) (by kernel_rfl)
    obtain rfl : v2 = _ := hv2 _ (Ok.refl _)
    obtain ⟨c0, c1, c2, c3, c4, c5, c6, c7, c8, c9, c10, c11⟩ := (HP.out _ hR).pars
    refine wpOp_run (v := .int .i64 p.rho) rfl rfl ?_ (fun _ _ => rfl) (Ok.refl _)
    clear hF
    go_simp
  · intro a' w' hF hR
    obtain ⟨v1, hv1, e8⟩ := hF.get 1 8 (by kernel_rfl) (by kernel_rfl)
    obtain rfl : v1 = _ := hv1 _ (Ok.refl _)
    obtain ⟨v3, hv3, e10⟩ := hF.get 3 10 (by kernel_rfl) (by kernel_rfl)
    obtain rfl : v3 = _ := hv3 _ (Ok.refl _)
    clear hF
    refine wpOp_call (f := 149) (args := #[.int .i64 m, .int .i64 p.rho]) rfl rfl ?_ ((KU.out _).mono ?_)
    · go_simp
    · rintro e w2 ⟨rfl, rfl⟩; exact ⟨_, rfl, fun _ _ => rfl, Ok.refl _⟩
  · intro a' w' hF hR
    have e2 : a'.tmps[2]? = some (.int .i64 m) := hF.slot 2 (by kernel_rfl) rfl
    refine wpOp_run (v := .int .i64 m) rfl rfl ?_ (fun _ _ => rfl) (Ok.refl _)
    clear hF
    go_simp
  · intro a' w' hF hR
    have e3 : a'.tmps[3]? = some (.pointer (some ⟨B, 0, none⟩)) := hF.slot 3 (by kernel_rfl) rfl
    refine wpOp_run (v := .pointer (some ⟨B, 4, none⟩)) rfl rfl ?_ (fun _ _ => rfl) (Ok.refl _)
    clear hF
    go_simp
  · intro a' w' hF hR
    obtain ⟨v6, hv6, e13⟩ := hF.get 6 13 (by kernel_rfl) (by kernel_rfl)
    obtain rfl : v6 = _ := hv6 _ (Ok.refl _)
    obtain ⟨c0, c1, c2, c3, c4, c5, c6, c7, c8, c9, c10, c11⟩ := (HP.out _ hR).pars
    refine wpOp_run (v := .int .i64 p.rho) rfl rfl ?_ (fun _ _ => rfl) (Ok.refl _)
    clear hF
    go_simp
  · intro a' w' hF hR
    obtain ⟨v5, hv5, e12⟩ := hF.get 5 12 (by kernel_rfl) (by kernel_rfl)
    obtain rfl : v5 = _ := hv5 _ (Ok.refl _)
    obtain ⟨v7, hv7, e14⟩ := hF.get 7 14 (by kernel_rfl) (by kernel_rfl)
    obtain rfl : v7 = _ := hv7 _ (Ok.refl _)
    refine wpOp_run (v := .slice (some ⟨w'.heap.size, 0, none⟩) 2 2) (w' := w'.alloc (.cells #[.int .i64 m, .int .i64 p.rho] 3)) rfl rfl ?_ (fun w'' k => ⟨_, rfl, (ints_new _ [m, p.rho] _ _ rfl rfl).below k⟩) ((Ok.refl _).alloc _)
    clear hF
    go_simp
  · intro a' w' hF hR
    obtain ⟨v8, hv8, e15⟩ := hF.get 8 15 (by kernel_rfl) (by kernel_rfl)
    obtain ⟨n8, rfl, hp8⟩ := hv8 _ (Ok.refl _)
    clear hF
    refine wpOp_call (f := 50) (args := #[.slice (some n8) 2 2]) rfl rfl ?_ ((satAdd (some n8) [m, p.rho] 2 _ hp8 (by simp)).mono ?_)
    · go_simp
    · rintro e w2 ⟨rfl, rfl⟩; exact ⟨_, rfl, fun _ _ => rfl, Ok.refl _⟩
  · intro a' w' hF hR
    obtain ⟨v0, hv0, e7⟩ := hF.get 0 7 (by kernel_rfl) (by kernel_rfl)
    obtain rfl : v0 = _ := hv0 _ (Ok.refl _)
    obtain ⟨v4, hv4, e11⟩ := hF.get 4 11 (by kernel_rfl) (by kernel_rfl)
    obtain rfl : v4 = _ := hv4 _ (Ok.refl _)
    obtain ⟨v9, hv9, e16⟩ := hF.get 9 16 (by kernel_rfl) (by kernel_rfl)
    obtain rfl : v9 = _ := hv9 _ (Ok.refl _)
    clear hF
    refine wpOp_call (f := 155) (args := #[spanV a b, .int .i64 u, .int .i64 (Sat.sum [m, p.rho])]) rfl rfl ?_ ((KS.out _).mono ?_)
    · go_simp
    · rintro e w2 ⟨rfl, hb2⟩; exact ⟨_, rfl, fun _ _ => rfl, hb2⟩
  intro vs W' hvs hR
  have e4 : vs 10 = spanV x y := hvs 10 (by decide) _ (Ok.refl _)
  have hSl := HR.out _ hR
  have f0 := hSl.f0
  have f1 := hSl.f1
  have c0 := hSl.c0
  have c1 := hSl.c1
  clear hvs HR HP HS KS KU
  simp only [putFrom, e4]
  simp only [Act.put, List.setIfInBounds_toArray, List.set_cons_zero, List.set_cons_succ]
  refine wpOp_store (w' := (W'.setCell ⟨r, 0, none⟩ (.int .i64 x)).setCell ⟨r, 1, none⟩ (.int .i64 y)) rfl rfl rfl ?_ ?_
  · go_simp
  have hF := hSl.set x y
  have hok2 := ((hok.trans ((Ok.refl W).drew.trans hR)).setCell (p := ⟨r, 0, none⟩) hrw (.int .i64 x)).setCell (p := ⟨r, 1, none⟩) hrw (.int .i64 y)
  clear c0 c1 f0 f1 hSl
  generalize (W'.setCell ⟨r, 0, none⟩ (.int .i64 x)).setCell ⟨r, 1, none⟩ (.int .i64 y) = W2 at hF hok2 ⊢
  have q0 := hF.c0
  have q1 := hF.c1
  go_wp2
  exact bodyPost_ret (v := spanV x y) (by simp [results, Tryz.results128, go_sem, q0, q1]) rfl ⟨rfl, hok2⟩
/-- What each operation leaves. -/
def VMcW (B S : Nat) (p : Par) (a b m u q x y : Int) (w : World) (v : Value) : Nat → Prop
  | 0 => v = spanV a b
  | 1 => v = .int .i64 u
  | 2 => v = .int .i64 m
  | 3 => v = .pointer (some ⟨B, 4, none⟩)
  | 4 => v = .int .i64 p.rho
  | 5 => v = .int .i64 q
  | 6 => ∃ n : Addr, v = .slice (some n) 3 3 ∧ IntsAt w (some n) [u, m, q]
  | 7 => v = .int .i64 (Sat.sum [u, m, q])
  | 8 => v = .pointer (some ⟨B, 5, none⟩)
  | 9 => v = .int .i64 p.delay
  | 10 => v = .int .i64 m
  | 11 => v = .pointer (some ⟨B, 4, none⟩)
  | 12 => v = .int .i64 p.rho
  | 13 => ∃ n : Addr, v = .slice (some n) 3 3 ∧ IntsAt w (some n) [p.delay, m, p.rho]
  | 14 => v = .int .i64 (Sat.sum [p.delay, m, p.rho])
  | 15 => v = spanV x y
  | _ => v = .bool true
/-- It stays so. -/
def VCcW (B S : Nat) (p : Par) (a b m u q x y : Int) (i : Nat) (v : Value) (w : World) : Prop := ∀ w', Ok w w' → VMcW B S p a b m u q x y w' v i
set_option maxHeartbeats 1600000 in
theorem carryWay (p : Par) (a b m : Int) (w : World) : Calls Tryz.prog 122 #[parV p, spanV a b, .int .i64 m] w fun e w' => e = .returned (spanV (Carry.way p (a, b) m).1 (Carry.way p (a, b) m).2) ∧ Ok w w' := by
  have KU := Lib.hid fun w => satSub p.delay p.jit w
  have KS := Lib.hid fun w => spanShift a b (Sat.sum [Sat.sub p.delay p.jit, m, -Sat.clip p.rho]) (Sat.sum [p.delay, m, p.rho]) w
  have KN := Lib.hid fun w => satNeg p.rho w
  rw [show Sat.neg p.rho = -Sat.clip p.rho from rfl] at KN
  show Calls _ _ _ _ fun e w' => e = .returned (spanV (Sat.sum [a, Sat.sum [Sat.sub p.delay p.jit, m, -Sat.clip p.rho]]) (Sat.sum [b, Sat.sum [p.delay, m, p.rho]])) ∧ Ok w w'
  obtain ⟨x, hx⟩ : ∃ x, Sat.sum [a, Sat.sum [Sat.sub p.delay p.jit, m, -Sat.clip p.rho]] = x := ⟨_, rfl⟩
  obtain ⟨y, hy⟩ : ∃ x, Sat.sum [b, Sat.sum [p.delay, m, p.rho]] = x := ⟨_, rfl⟩
  rw [hx, hy] at KS ⊢
  clear hx hy
  obtain ⟨u, hu⟩ : ∃ x, Sat.sub p.delay p.jit = x := ⟨_, rfl⟩
  rw [hu] at KU KS
  clear hu
  obtain ⟨q, hv⟩ : ∃ x, -Sat.clip p.rho = x := ⟨_, rfl⟩
  rw [hv] at KN KS
  clear hv
  have hP := ((Own.new w (parCells p) 23 rfl).alloc (.cells #[.int .i64 a, .int .i64 b] 25)).alloc (.cells #[.int .i64 0, .int .i64 0] 25)
  have hS := (Slab.new (w.alloc (.cells (parCells p) 23)) a b 25 (g := w.heap.size + 1) (by simp)).alloc (.cells #[.int .i64 0, .int .i64 0] 25)
  have hZ := Slab.new ((w.alloc (.cells (parCells p) 23)).alloc (.cells #[.int .i64 a, .int .i64 b] 25)) 0 0 25 (g := w.heap.size + 1 + 1) (by simp)
  have hok := (((Ok.refl w).alloc (.cells (parCells p) 23)).alloc (.cells #[.int .i64 a, .int .i64 b] 25)).alloc (.cells #[.int .i64 0, .int .i64 0] 25)
  have hrw : w.heap.size ≤ w.heap.size + 1 + 1 := by omega
  go_enter Tryz.func122, Tryz.ntmps122
  go_upto_region 2 with (go_at_call 149; first | ((with_reducible refine (KU.out _).mono ?_); rintro e w' ⟨rfl, rfl⟩))
  clear KU
  generalize ((w.alloc (.cells (parCells p) 23)).alloc (.cells #[.int .i64 a, .int .i64 b] 25)).alloc (.cells #[.int .i64 0, .int .i64 0] 25) = W at hP hS hZ hok ⊢
  obtain ⟨r, hr⟩ : ∃ r, w.heap.size + 1 + 1 = r := ⟨_, rfl⟩
  rw [hr] at hZ hrw ⊢
  clear hr
  obtain ⟨S, hSe⟩ : ∃ r, w.heap.size + 1 = r := ⟨_, rfl⟩
  rw [hSe] at hS ⊢
  clear hSe
  obtain ⟨B, hB⟩ : ∃ r, w.heap.size = r := ⟨_, rfl⟩
  have HBw := Lib.hid hB
  rw [hB] at hP ⊢
  clear hB
  have HP := Lib.hid fun W' (k : Ok W.drew W') => hP.drew.next k
  have HS := Lib.hid fun W' (k : Ok W.drew W') => hS.drew.next k
  have HR := Lib.hid fun W' (k : Ok W.drew W') => hZ.drew.next k
  clear hP hS hZ
  refine wp_region_facts_last (by kernel_rfl) 29 rfl (VCcW B S p a b m u q x y) Ok _ rfl _ 16 rfl rfl rfl rfl (by kernel_rfl) (by kernel_rfl) (by kernel_rfl) (fun i v w w' h k w'' k' => h w'' (k.trans k')) (fun a b c => Ok.trans) (Ok.refl _) [some 13, some 14, some 15, some 16, some 17, some 18, some 19, some 20, some 21, some 22, some 23, some 24, some 25, some 26, some 27, some 28] rfl ⟨?_, ?_, ?_, ?_, ?_, ?_, ?_, ?_, ?_, ?_, ?_, ?_, ?_, ?_, ?_, ?_, trivial⟩ ?_
  · intro a' w' hF hR
    have e4 : a'.tmps[4]? = some (.pointer (some ⟨S, 0, none⟩)) := hF.slot 4 (by kernel_rfl) rfl
    have c0 := (HS.out _ hR).c0
    have c1 := (HS.out _ hR).c1
    refine wpOp_run (v := spanV a b) rfl rfl ?_ (fun _ _ => rfl) (Ok.refl _)
    clear hF
    go_simp
  · intro a' w' hF hR
    have e7 : a'.tmps[7]? = some (.int .i64 u) := hF.slot 7 (by kernel_rfl) rfl
    refine wpOp_run (v := .int .i64 u) rfl rfl ?_ (fun _ _ => rfl) (Ok.refl _)
    clear hF
    go_simp
  · intro a' w' hF hR
    have e2 : a'.tmps[2]? = some (.int .i64 m) := hF.slot 2 (by kernel_rfl) rfl
    refine wpOp_run (v := .int .i64 m) rfl rfl ?_ (fun _ _ => rfl) (Ok.refl _)
    clear hF
    go_simp
  · intro a' w' hF hR
    have e3 : a'.tmps[3]? = some (.pointer (some ⟨B, 0, none⟩)) := hF.slot 3 (by kernel_rfl) rfl
    refine wpOp_run (v := .pointer (some ⟨B, 4, none⟩)) rfl rfl ?_ (fun _ _ => rfl) (Ok.refl _)
    clear hF
    go_simp
  · intro a' w' hF hR
    obtain ⟨v3, hv3, e16⟩ := hF.get 3 16 (by kernel_rfl) (by kernel_rfl)
    obtain rfl : v3 = _ := hv3 _ (Ok.refl _)
    obtain ⟨c0, c1, c2, c3, c4, c5, c6, c7, c8, c9, c10, c11⟩ := (HP.out _ hR).pars
    refine wpOp_run (v := .int .i64 p.rho) rfl rfl ?_ (fun _ _ => rfl) (Ok.refl _)
    clear hF
    go_simp
  · intro a' w' hF hR
    obtain ⟨v4, hv4, e17⟩ := hF.get 4 17 (by kernel_rfl) (by kernel_rfl)
    obtain rfl : v4 = _ := hv4 _ (Ok.refl _)
    clear hF
    refine wpOp_call (f := 144) (args := #[.int .i64 p.rho]) rfl rfl ?_ ((KN.out _).mono ?_)
    · go_simp
    · rintro e w2 ⟨rfl, rfl⟩; exact ⟨_, rfl, fun _ _ => rfl, Ok.refl _⟩
  · intro a' w' hF hR
    obtain ⟨v1, hv1, e14⟩ := hF.get 1 14 (by kernel_rfl) (by kernel_rfl)
    obtain rfl : v1 = _ := hv1 _ (Ok.refl _)
    obtain ⟨v2, hv2, e15⟩ := hF.get 2 15 (by kernel_rfl) (by kernel_rfl)
    obtain rfl : v2 = _ := hv2 _ (Ok.refl _)
    obtain ⟨v5, hv5, e18⟩ := hF.get 5 18 (by kernel_rfl) (by kernel_rfl)
    obtain rfl : v5 = _ := hv5 _ (Ok.refl _)
    refine wpOp_run (v := .slice (some ⟨w'.heap.size, 0, none⟩) 3 3) (w' := w'.alloc (.cells #[.int .i64 u, .int .i64 m, .int .i64 q] 3)) rfl rfl ?_ (fun w'' k => ⟨_, rfl, (ints_new _ [u, m, q] _ _ rfl rfl).below k⟩) ((Ok.refl _).alloc _)
    clear hF
    go_simp
  · intro a' w' hF hR
    obtain ⟨v6, hv6, e19⟩ := hF.get 6 19 (by kernel_rfl) (by kernel_rfl)
    obtain ⟨n6, rfl, hp6⟩ := hv6 _ (Ok.refl _)
    clear hF
    refine wpOp_call (f := 50) (args := #[.slice (some n6) 3 3]) rfl rfl ?_ ((satAdd (some n6) [u, m, q] 3 _ hp6 (by simp)).mono ?_)
    · go_simp
    · rintro e w2 ⟨rfl, rfl⟩; exact ⟨_, rfl, fun _ _ => rfl, Ok.refl _⟩
  · intro a' w' hF hR
    have e3 : a'.tmps[3]? = some (.pointer (some ⟨B, 0, none⟩)) := hF.slot 3 (by kernel_rfl) rfl
    refine wpOp_run (v := .pointer (some ⟨B, 5, none⟩)) rfl rfl ?_ (fun _ _ => rfl) (Ok.refl _)
    clear hF
    go_simp
  · intro a' w' hF hR
    obtain ⟨v8, hv8, e21⟩ := hF.get 8 21 (by kernel_rfl) (by kernel_rfl)
    obtain rfl : v8 = _ := hv8 _ (Ok.refl _)
    obtain ⟨c0, c1, c2, c3, c4, c5, c6, c7, c8, c9, c10, c11⟩ := (HP.out _ hR).pars
    refine wpOp_run (v := .int .i64 p.delay) rfl rfl ?_ (fun _ _ => rfl) (Ok.refl _)
    clear hF
    go_simp
  · intro a' w' hF hR
    have e2 : a'.tmps[2]? = some (.int .i64 m) := hF.slot 2 (by kernel_rfl) rfl
    refine wpOp_run (v := .int .i64 m) rfl rfl ?_ (fun _ _ => rfl) (Ok.refl _)
    clear hF
    go_simp
  · intro a' w' hF hR
    have e3 : a'.tmps[3]? = some (.pointer (some ⟨B, 0, none⟩)) := hF.slot 3 (by kernel_rfl) rfl
    refine wpOp_run (v := .pointer (some ⟨B, 4, none⟩)) rfl rfl ?_ (fun _ _ => rfl) (Ok.refl _)
    clear hF
    go_simp
  · intro a' w' hF hR
    obtain ⟨v11, hv11, e24⟩ := hF.get 11 24 (by kernel_rfl) (by kernel_rfl)
    obtain rfl : v11 = _ := hv11 _ (Ok.refl _)
    obtain ⟨c0, c1, c2, c3, c4, c5, c6, c7, c8, c9, c10, c11⟩ := (HP.out _ hR).pars
    refine wpOp_run (v := .int .i64 p.rho) rfl rfl ?_ (fun _ _ => rfl) (Ok.refl _)
    clear hF
    go_simp
  · intro a' w' hF hR
    obtain ⟨v9, hv9, e22⟩ := hF.get 9 22 (by kernel_rfl) (by kernel_rfl)
    obtain rfl : v9 = _ := hv9 _ (Ok.refl _)
    obtain ⟨v10, hv10, e23⟩ := hF.get 10 23 (by kernel_rfl) (by kernel_rfl)
    obtain rfl : v10 = _ := hv10 _ (Ok.refl _)
    obtain ⟨v12, hv12, e25⟩ := hF.get 12 25 (by kernel_rfl) (by kernel_rfl)
    obtain rfl : v12 = _ := hv12 _ (Ok.refl _)
    refine wpOp_run (v := .slice (some ⟨w'.heap.size, 0, none⟩) 3 3) (w' := w'.alloc (.cells #[.int .i64 p.delay, .int .i64 m, .int .i64 p.rho] 3)) rfl rfl ?_ (fun w'' k => ⟨_, rfl, (ints_new _ [p.delay, m, p.rho] _ _ rfl rfl).below k⟩) ((Ok.refl _).alloc _)
    clear hF
    go_simp
  · intro a' w' hF hR
    obtain ⟨v13, hv13, e26⟩ := hF.get 13 26 (by kernel_rfl) (by kernel_rfl)
    obtain ⟨n13, rfl, hp13⟩ := hv13 _ (Ok.refl _)
    clear hF
    refine wpOp_call (f := 50) (args := #[.slice (some n13) 3 3]) rfl rfl ?_ ((satAdd (some n13) [p.delay, m, p.rho] 3 _ hp13 (by simp)).mono ?_)
    · go_simp
    · rintro e w2 ⟨rfl, rfl⟩; exact ⟨_, rfl, fun _ _ => rfl, Ok.refl _⟩
  · intro a' w' hF hR
    obtain ⟨v0, hv0, e13⟩ := hF.get 0 13 (by kernel_rfl) (by kernel_rfl)
    obtain rfl : v0 = _ := hv0 _ (Ok.refl _)
    obtain ⟨v7, hv7, e20⟩ := hF.get 7 20 (by kernel_rfl) (by kernel_rfl)
    obtain rfl : v7 = _ := hv7 _ (Ok.refl _)
    obtain ⟨v14, hv14, e27⟩ := hF.get 14 27 (by kernel_rfl) (by kernel_rfl)
    obtain rfl : v14 = _ := hv14 _ (Ok.refl _)
    clear hF
    refine wpOp_call (f := 155) (args := #[spanV a b, .int .i64 (Sat.sum [u, m, q]), .int .i64 (Sat.sum [p.delay, m, p.rho])]) rfl rfl ?_ ((KS.out _).mono ?_)
    · go_simp
    · rintro e w2 ⟨rfl, hb2⟩; exact ⟨_, rfl, fun _ _ => rfl, hb2⟩
  intro vs W' hvs hR
  have e4 : vs 15 = spanV x y := hvs 15 (by decide) _ (Ok.refl _)
  have hSl := HR.out _ hR
  have f0 := hSl.f0
  have f1 := hSl.f1
  have c0 := hSl.c0
  have c1 := hSl.c1
  clear hvs HR HP HS KS KN
  simp only [putFrom, e4]
  simp only [Act.put, List.setIfInBounds_toArray, List.set_cons_zero, List.set_cons_succ]
  refine wpOp_store (w' := (W'.setCell ⟨r, 0, none⟩ (.int .i64 x)).setCell ⟨r, 1, none⟩ (.int .i64 y)) rfl rfl rfl ?_ ?_
  · go_simp
  have hF := hSl.set x y
  have hok2 := ((hok.trans ((Ok.refl W).drew.trans hR)).setCell (p := ⟨r, 0, none⟩) hrw (.int .i64 x)).setCell (p := ⟨r, 1, none⟩) hrw (.int .i64 y)
  clear c0 c1 f0 f1 hSl
  generalize (W'.setCell ⟨r, 0, none⟩ (.int .i64 x)).setCell ⟨r, 1, none⟩ (.int .i64 y) = W2 at hF hok2 ⊢
  have q0 := hF.c0
  have q1 := hF.c1
  go_wp2
  exact bodyPost_ret (v := spanV x y) (by simp [results, Tryz.results122, go_sem, q0, q1]) rfl ⟨rfl, hok2⟩
end Go.Proofs.YtnhjdinmakkknaaGreatDoor
