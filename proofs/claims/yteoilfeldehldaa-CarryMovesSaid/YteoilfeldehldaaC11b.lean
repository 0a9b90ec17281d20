/- Contracts of layer 11: the document's calls. -/
import Derived.Test.YteoilfeldehldaaC01c
import Derived.Test.YteoilfeldehldaaC03a
import Derived.Test.YteoilfeldehldaaC04b
import Derived.Test.YteoilfeldehldaaM14
import Derived.Test.YteoilfeldehldaaW27
import Derived.Deep.CutRange
namespace Go.Proofs.Yteoilfeldehldaa
open Go.RowKit
set_option linter.unusedVariables false
set_option maxRecDepth 100000
attribute [local go_sem ↓] Go.wp_at_zero Go.wp_at_succ
/-- What each operation leaves. -/
def VMrH (B S : Nat) (p : Par) (a b m u x y : Int) (w : World) (v : Value) : Nat → Prop
  | 0 => v = spanV a b
  | 1 => v = .int .i64 m
  | 2 => v = .pointer (some ⟨B, 4, none⟩)
  | 3 => v = .int .i64 p.rho
  | 4 => v = .int .i64 u
  | 5 => v = .int .i64 m
  | 6 => v = .pointer (some ⟨B, 4, none⟩)
  | 7 => v = .int .i64 p.rho
  | 8 => ∃ n : Addr, v = .slice (some n) 2 2 ∧ IntsAt w (some n) [m, p.rho]
  | 9 => v = .int .i64 (Sat.sum [m, p.rho])
  | 10 => v = spanV x y
  | _ => v = .bool true
/-- It stays so. -/
def VCrH (B S : Nat) (p : Par) (a b m u x y : Int) (i : Nat) (v : Value) (w : World) : Prop := ∀ w', Ok w w' → VMrH B S p a b m u x y w' v i
set_option maxHeartbeats 1600000 in
theorem ref11Hold (p : Par) (a b m : Int) (w : World) : Calls Try.prog 11 #[parV p, spanV a b, .int .i64 m] w fun e w' => e = .returned (spanV (Carry.hold p (a, b) m).1 (Carry.hold p (a, b) m).2) ∧ Ok w w' := by
  have KU := Lib.hid fun w => refSub m p.rho w
  have KS := Lib.hid fun w => ref3Shift a b (Sat.sub m p.rho) (Sat.sum [m, p.rho]) w
  show Calls _ _ _ _ fun e w' => e = .returned (spanV (Sat.sum [a, Sat.sub m p.rho]) (Sat.sum [b, Sat.sum [m, p.rho]])) ∧ Ok w w'
  obtain ⟨x, hx⟩ : ∃ x, Sat.sum [a, Sat.sub m p.rho] = x := ⟨_, rfl⟩
  obtain ⟨y, hy⟩ : ∃ x, Sat.sum [b, Sat.sum [m, p.rho]] = x := ⟨_, rfl⟩
  rw [hx, hy] at KS ⊢
  clear hx hy
  obtain ⟨u, hu⟩ : ∃ x, Sat.sub m p.rho = x := ⟨_, rfl⟩
  rw [hu] at KU KS
  clear hu
  have hP := ((Own.new w (parCells p) 23 rfl).alloc (.cells #[.int .i64 a, .int .i64 b] 25)).alloc (.cells #[.int .i64 0, .int .i64 0] 25)
  have hS := (Slab.new (w.alloc (.cells (parCells p) 23)) a b 25 (g := w.heap.size + 1) (by simp)).alloc (.cells #[.int .i64 0, .int .i64 0] 25)
  have hZ := Slab.new ((w.alloc (.cells (parCells p) 23)).alloc (.cells #[.int .i64 a, .int .i64 b] 25)) 0 0 25 (g := w.heap.size + 1 + 1) (by simp)
  have hok := (((Ok.refl w).alloc (.cells (parCells p) 23)).alloc (.cells #[.int .i64 a, .int .i64 b] 25)).alloc (.cells #[.int .i64 0, .int .i64 0] 25)
  have hrw : w.heap.size ≤ w.heap.size + 1 + 1 := by omega
  go_enter Try.func11, Try.ntmps11
  go_upto_region 1 with fail
  generalize ((w.alloc (.cells (parCells p) 23)).alloc (.cells #[.int .i64 a, .int .i64 b] 25)).alloc (.cells #[.int .i64 0, .int .i64 0] 25) = W at hP hS hZ hok ⊢
  obtain ⟨r, hr⟩ : ∃ r, w.heap.size + 1 + 1 = r := ⟨_, rfl⟩
  rw [hr] at hZ hrw ⊢
  clear hr
  obtain ⟨S, hSe⟩ : ∃ r, w.heap.size + 1 = r := ⟨_, rfl⟩
  rw [hSe] at hS ⊢
  clear hSe
  obtain ⟨B, hB⟩ : ∃ r, w.heap.size = r := ⟨_, rfl⟩
  have HBw := Lib.hid hB
  rw [hB] at hP ⊢
  clear hB
  have HP := Lib.hid fun W' (k : Ok W.drew W') => hP.drew.next k
  have HS := Lib.hid fun W' (k : Ok W.drew W') => hS.drew.next k
  have HR := Lib.hid fun W' (k : Ok W.drew W') => hZ.drew.next k
  clear hP hS hZ
  refine wp_region_facts_last (by kernel_rfl) 18 rfl (VCrH B S p a b m u x y) Ok _ rfl _ 11 rfl rfl rfl rfl (by kernel_rfl) (by kernel_rfl) (by kernel_rfl) (fun i v w w' h k w'' k' => h w'' (k.trans k')) (fun a b c => Ok.trans) (Ok.refl _) [some 7, some 8, some 9, some 10, some 11, some 12, some 13, some 14, some 15, some 16, some 17] rfl ⟨?_, ?_, ?_, ?_, ?_, ?_, ?_, ?_, ?_, ?_, ?_, trivial⟩ ?_
  · intro a' w' hF hR
    have e4 : a'.tmps[4]? = some (.pointer (some ⟨S, 0, none⟩)) := hF.slot 4 (by kernel_rfl) rfl
    have c0 := (HS.out _ hR).c0
    have c1 := (HS.out _ hR).c1
    refine wpOp_run (v := spanV a b) rfl rfl ?_ (fun _ _ => rfl) (Ok.refl _)
    clear hF
    go_simp
  · intro a' w' hF hR
    have e2 : a'.tmps[2]? = some (.int .i64 m) := hF.slot 2 (by kernel_rfl) rfl
    refine wpOp_run (v := .int .i64 m) rfl rfl ?_ (fun _ _ => rfl) (Ok.refl _)
    clear hF
    go_simp
  · intro a' w' hF hR
    have e3 : a'.tmps[3]? = some (.pointer (some ⟨B, 0, none⟩)) := hF.slot 3 (by kernel_rfl) rfl
    refine wpOp_run (v := .pointer (some ⟨B, 4, none⟩)) rfl rfl ?_ (fun _ _ => rfl) (Ok.refl _)
    clear hF
    go_simp
  · intro a' w' hF hR
    obtain ⟨v2, hv2, e9⟩ := hF.get 2 9 (by kernel_rfl) (by kernel_rfl)
    obtain rfl : v2 = _ := hv2 _ (Ok.refl _)
    obtain ⟨c0, c1, c2, c3, c4, c5, c6, c7, c8, c9, c10, c11⟩ := (HP.out _ hR).pars
    refine wpOp_run (v := .int .i64 p.rho) rfl rfl ?_ (fun _ _ => rfl) (Ok.refl _)
    clear hF
    go_simp
  · intro a' w' hF hR
    obtain ⟨v1, hv1, e8⟩ := hF.get 1 8 (by kernel_rfl) (by kernel_rfl)
    obtain rfl : v1 = _ := hv1 _ (Ok.refl _)
    obtain ⟨v3, hv3, e10⟩ := hF.get 3 10 (by kernel_rfl) (by kernel_rfl)
    obtain rfl : v3 = _ := hv3 _ (Ok.refl _)
    clear hF
    refine wpOp_call (f := 25) (args := #[.int .i64 m, .int .i64 p.rho]) rfl rfl ?_ ((KU.out _).mono ?_)
    · go_simp
    · rintro e w2 ⟨rfl, rfl⟩; exact ⟨_, rfl, fun _ _ => rfl, Ok.refl _⟩
  · intro a' w' hF hR
    have e2 : a'.tmps[2]? = some (.int .i64 m) := hF.slot 2 (by kernel_rfl) rfl
    refine wpOp_run (v := .int .i64 m) rfl rfl ?_ (fun _ _ => rfl) (Ok.refl _)
    clear hF
    go_simp
  · intro a' w' hF hR
    have e3 : a'.tmps[3]? = some (.pointer (some ⟨B, 0, none⟩)) := hF.slot 3 (by kernel_rfl) rfl
    refine wpOp_run (v := .pointer (some ⟨B, 4, none⟩)) rfl rfl ?_ (fun _ _ => rfl) (Ok.refl _)
    clear hF
    go_simp
  · intro a' w' hF hR
    obtain ⟨v6, hv6, e13⟩ := hF.get 6 13 (by kernel_rfl) (by kernel_rfl)
    obtain rfl : v6 = _ := hv6 _ (Ok.refl _)
    obtain ⟨c0, c1, c2, c3, c4, c5, c6, c7, c8, c9, c10, c11⟩ := (HP.out _ hR).pars
    refine wpOp_run (v := .int .i64 p.rho) rfl rfl ?_ (fun _ _ => rfl) (Ok.refl _)
    clear hF
    go_simp
  · intro a' w' hF hR
    obtain ⟨v5, hv5, e12⟩ := hF.get 5 12 (by kernel_rfl) (by kernel_rfl)
    obtain rfl : v5 = _ := hv5 _ (Ok.refl _)
    obtain ⟨v7, hv7, e14⟩ := hF.get 7 14 (by kernel_rfl) (by kernel_rfl)
    obtain rfl : v7 = _ := hv7 _ (Ok.refl _)
    refine wpOp_run (v := .slice (some ⟨w'.heap.size, 0, none⟩) 2 2) (w' := w'.alloc (.cells #[.int .i64 m, .int .i64 p.rho] 3)) rfl rfl ?_ (fun w'' k => ⟨_, rfl, (ints_new _ [m, p.rho] _ _ rfl rfl).below k⟩) ((Ok.refl _).alloc _)
    clear hF
    go_simp
  · intro a' w' hF hR
    obtain ⟨v8, hv8, e15⟩ := hF.get 8 15 (by kernel_rfl) (by kernel_rfl)
    obtain ⟨n8, rfl, hp8⟩ := hv8 _ (Ok.refl _)
    clear hF
    refine wpOp_call (f := 26) (args := #[.slice (some n8) 2 2]) rfl rfl ?_ ((refAdd (some n8) [m, p.rho] 2 _ hp8 (by simp)).mono ?_)
    · go_simp
    · rintro e w2 ⟨rfl, rfl⟩; exact ⟨_, rfl, fun _ _ => rfl, Ok.refl _⟩
  · intro a' w' hF hR
    obtain ⟨v0, hv0, e7⟩ := hF.get 0 7 (by kernel_rfl) (by kernel_rfl)
    obtain rfl : v0 = _ := hv0 _ (Ok.refl _)
    obtain ⟨v4, hv4, e11⟩ := hF.get 4 11 (by kernel_rfl) (by kernel_rfl)
    obtain rfl : v4 = _ := hv4 _ (Ok.refl _)
    obtain ⟨v9, hv9, e16⟩ := hF.get 9 16 (by kernel_rfl) (by kernel_rfl)
    obtain rfl : v9 = _ := hv9 _ (Ok.refl _)
    clear hF
    refine wpOp_call (f := 24) (args := #[spanV a b, .int .i64 u, .int .i64 (Sat.sum [m, p.rho])]) rfl rfl ?_ ((KS.out _).mono ?_)
    · go_simp
    · rintro e w2 ⟨rfl, hb2⟩; exact ⟨_, rfl, fun _ _ => rfl, hb2⟩
  intro vs W' hvs hR
  have e4 : vs 10 = spanV x y := hvs 10 (by decide) _ (Ok.refl _)
  have hSl := HR.out _ hR
  have f0 := hSl.f0
  have f1 := hSl.f1
  have c0 := hSl.c0
  have c1 := hSl.c1
  clear hvs HR HP HS KS KU
  simp only [putFrom, e4]
  simp only [Act.put, List.setIfInBounds_toArray, List.set_cons_zero, List.set_cons_succ]
  refine wpOp_store (w' := (W'.setCell ⟨r, 0, none⟩ (.int .i64 x)).setCell ⟨r, 1, none⟩ (.int .i64 y)) rfl rfl rfl ?_ ?_
  · go_simp
  have hF := hSl.set x y
  have hok2 := ((hok.trans ((Ok.refl W).drew.trans hR)).setCell (p := ⟨r, 0, none⟩) hrw (.int .i64 x)).setCell (p := ⟨r, 1, none⟩) hrw (.int .i64 y)
  clear c0 c1 f0 f1 hSl
  generalize (W'.setCell ⟨r, 0, none⟩ (.int .i64 x)).setCell ⟨r, 1, none⟩ (.int .i64 y) = W2 at hF hok2 ⊢
  have q0 := hF.c0
  have q1 := hF.c1
  go_wp2
  exact bodyPost_ret (v := spanV x y) (by simp [results, Try.results11, go_sem, q0, q1]) rfl ⟨rfl, hok2⟩
/-- What each operation leaves. -/
def VMrW1 (B : Nat) (p : Par) (m u q : Int) (w : World) (v : Value) : Nat → Prop
  | 0 => v = .pointer (some ⟨B, 5, none⟩)
  | 1 => v = .int .i64 p.delay
  | 2 => v = .pointer (some ⟨B, 6, none⟩)
  | 3 => v = .int .i64 p.jit
  | 4 => v = .int .i64 u
  | 5 => v = .int .i64 m
  | 6 => v = .pointer (some ⟨B, 4, none⟩)
  | 7 => v = .int .i64 p.rho
  | 8 => v = .int .i64 q
  | 9 => v = .int .i64 (-q)
  | 10 => ∃ n : Addr, v = .slice (some n) 3 3 ∧ IntsAt w (some n) [u, m, -q]
  | 11 => v = .int .i64 (Sat.sum [u, m, -q])
  | 12 => v = .int .i64 (Sat.sum [u, m, -q])
  | _ => v = .bool true
/-- It stays so. -/
def VCrW1 (B : Nat) (p : Par) (m u q : Int) (i : Nat) (v : Value) (w : World) : Prop := ∀ w', Ok w w' → VMrW1 B p m u q w' v i
/-- What each operation leaves. -/
def VMrW2 (B S : Nat) (p : Par) (a b m z x y : Int) (w : World) (v : Value) : Nat → Prop
  | 0 => v = spanV a b
  | 1 => v = .int .i64 z
  | 2 => v = .pointer (some ⟨B, 5, none⟩)
  | 3 => v = .int .i64 p.delay
  | 4 => v = .int .i64 m
  | 5 => v = .pointer (some ⟨B, 4, none⟩)
  | 6 => v = .int .i64 p.rho
  | 7 => ∃ n : Addr, v = .slice (some n) 3 3 ∧ IntsAt w (some n) [p.delay, m, p.rho]
  | 8 => v = .int .i64 (Sat.sum [p.delay, m, p.rho])
  | 9 => v = spanV x y
  | _ => v = .bool true
/-- It stays so. -/
def VCrW2 (B S : Nat) (p : Par) (a b m z x y : Int) (i : Nat) (v : Value) (w : World) : Prop := ∀ w', Ok w w' → VMrW2 B S p a b m z x y w' v i
set_option maxHeartbeats 1600000 in
theorem ref11Way (p : Par) (a b m : Int) (w : World) : Calls Try.prog 13 #[parV p, spanV a b, .int .i64 m] w fun e w' => e = .returned (spanV (Carry.way p (a, b) m).1 (Carry.way p (a, b) m).2) ∧ Ok w w' := by
  have KU := Lib.hid fun w => refSub p.delay p.jit w
  have KS := Lib.hid fun w => ref3Shift a b (Sat.sum [Sat.sub p.delay p.jit, m, -Sat.clip p.rho]) (Sat.sum [p.delay, m, p.rho]) w
  have KN := Lib.hid fun w => refClip p.rho w
  have hvb := Sat.clip_bd p.rho
  show Calls _ _ _ _ fun e w' => e = .returned (spanV (Sat.sum [a, Sat.sum [Sat.sub p.delay p.jit, m, -Sat.clip p.rho]]) (Sat.sum [b, Sat.sum [p.delay, m, p.rho]])) ∧ Ok w w'
  obtain ⟨x, hx⟩ : ∃ x, Sat.sum [a, Sat.sum [Sat.sub p.delay p.jit, m, -Sat.clip p.rho]] = x := ⟨_, rfl⟩
  obtain ⟨y, hy⟩ : ∃ x, Sat.sum [b, Sat.sum [p.delay, m, p.rho]] = x := ⟨_, rfl⟩
  rw [hx, hy] at KS ⊢
  clear hx hy
  obtain ⟨u, hu⟩ : ∃ x, Sat.sub p.delay p.jit = x := ⟨_, rfl⟩
  rw [hu] at KU KS
  clear hu
  obtain ⟨q, hv⟩ : ∃ x, Sat.clip p.rho = x := ⟨_, rfl⟩
  rw [hv] at KN KS hvb
  clear hv
  have hP := ((Own.new w (parCells p) 23 rfl).alloc (.cells #[.int .i64 a, .int .i64 b] 25)).alloc (.cells #[.int .i64 0, .int .i64 0] 25)
  have hS := (Slab.new (w.alloc (.cells (parCells p) 23)) a b 25 (g := w.heap.size + 1) (by simp)).alloc (.cells #[.int .i64 0, .int .i64 0] 25)
  have hZ := Slab.new ((w.alloc (.cells (parCells p) 23)).alloc (.cells #[.int .i64 a, .int .i64 b] 25)) 0 0 25 (g := w.heap.size + 1 + 1) (by simp)
  have hok := (((Ok.refl w).alloc (.cells (parCells p) 23)).alloc (.cells #[.int .i64 a, .int .i64 b] 25)).alloc (.cells #[.int .i64 0, .int .i64 0] 25)
  have hrw : w.heap.size ≤ w.heap.size + 1 + 1 := by omega
  go_enter Try.func13, Try.ntmps13
  go_upto_region 1 with fail
  generalize ((w.alloc (.cells (parCells p) 23)).alloc (.cells #[.int .i64 a, .int .i64 b] 25)).alloc (.cells #[.int .i64 0, .int .i64 0] 25) = W at hP hS hZ hok ⊢
  obtain ⟨r, hr⟩ : ∃ r, w.heap.size + 1 + 1 = r := ⟨_, rfl⟩
  rw [hr] at hZ hrw ⊢
  clear hr
  obtain ⟨S, hSe⟩ : ∃ r, w.heap.size + 1 = r := ⟨_, rfl⟩
  rw [hSe] at hS ⊢
  clear hSe
  obtain ⟨B, hB⟩ : ∃ r, w.heap.size = r := ⟨_, rfl⟩
  have HBw := Lib.hid hB
  rw [hB] at hP ⊢
  clear hB
  have HP := Lib.hid fun W' (k : Ok W.drew W') => hP.drew.next k
  have HS := Lib.hid fun W' (k : Ok W.drew W') => hS.drew.next k
  have HR := Lib.hid fun W' (k : Ok W.drew W') => hZ.drew.next k
  refine wp_region_facts (by kernel_rfl) 30 rfl (VCrW1 B p m u q) Ok (by kernel_rfl) (fun i v w w' h k w'' k' => h w'' (k.trans k')) (fun a b c => Ok.trans) (Ok.refl _) [some 8, some 9, some 10, some 11, some 12, some 13, some 14, some 15, some 16, some 17, some 18, some 19, some 7] rfl 13 rfl ⟨?_, ?_, ?_, ?_, ?_, ?_, ?_, ?_, ?_, ?_, ?_, ?_, ?_, trivial⟩ ?_
  · intro a' w' hF hR
    have e3 : a'.tmps[3]? = some (.pointer (some ⟨B, 0, none⟩)) := hF.slot 3 (by kernel_rfl) rfl
    refine wpOp_run (v := .pointer (some ⟨B, 5, none⟩)) rfl rfl ?_ (fun _ _ => rfl) (Ok.refl _)
    clear hF
    go_simp
  · intro a' w' hF hR
    obtain ⟨v0, hv0, e8⟩ := hF.get 0 8 (by kernel_rfl) (by kernel_rfl)
    obtain rfl : v0 = _ := hv0 _ (Ok.refl _)
    obtain ⟨c0, c1, c2, c3, c4, c5, c6, c7, c8, c9, c10, c11⟩ := (HP.out _ hR).pars
    refine wpOp_run (v := .int .i64 p.delay) rfl rfl ?_ (fun _ _ => rfl) (Ok.refl _)
    clear hF
    go_simp
  · intro a' w' hF hR
    have e3 : a'.tmps[3]? = some (.pointer (some ⟨B, 0, none⟩)) := hF.slot 3 (by kernel_rfl) rfl
    refine wpOp_run (v := .pointer (some ⟨B, 6, none⟩)) rfl rfl ?_ (fun _ _ => rfl) (Ok.refl _)
    clear hF
    go_simp
  · intro a' w' hF hR
    obtain ⟨v2, hv2, e10⟩ := hF.get 2 10 (by kernel_rfl) (by kernel_rfl)
    obtain rfl : v2 = _ := hv2 _ (Ok.refl _)
    obtain ⟨c0, c1, c2, c3, c4, c5, c6, c7, c8, c9, c10, c11⟩ := (HP.out _ hR).pars
    refine wpOp_run (v := .int .i64 p.jit) rfl rfl ?_ (fun _ _ => rfl) (Ok.refl _)
    clear hF
    go_simp
  · intro a' w' hF hR
    obtain ⟨v1, hv1, e9⟩ := hF.get 1 9 (by kernel_rfl) (by kernel_rfl)
    obtain rfl : v1 = _ := hv1 _ (Ok.refl _)
    obtain ⟨v3, hv3, e11⟩ := hF.get 3 11 (by kernel_rfl) (by kernel_rfl)
    obtain rfl : v3 = _ := hv3 _ (Ok.refl _)
    clear hF
    refine wpOp_call (f := 25) (args := #[.int .i64 p.delay, .int .i64 p.jit]) rfl rfl ?_ ((KU.out _).mono ?_)
    · go_simp
    · rintro e w2 ⟨rfl, rfl⟩; exact ⟨_, rfl, fun _ _ => rfl, Ok.refl _⟩
  · intro a' w' hF hR
    have e2 : a'.tmps[2]? = some (.int .i64 m) := hF.slot 2 (by kernel_rfl) rfl
    refine wpOp_run (v := .int .i64 m) rfl rfl ?_ (fun _ _ => rfl) (Ok.refl _)
    clear hF
    go_simp
  · intro a' w' hF hR
    have e3 : a'.tmps[3]? = some (.pointer (some ⟨B, 0, none⟩)) := hF.slot 3 (by kernel_rfl) rfl
    refine wpOp_run (v := .pointer (some ⟨B, 4, none⟩)) rfl rfl ?_ (fun _ _ => rfl) (Ok.refl _)
    clear hF
    go_simp
  · intro a' w' hF hR
    obtain ⟨v6, hv6, e14⟩ := hF.get 6 14 (by kernel_rfl) (by kernel_rfl)
    obtain rfl : v6 = _ := hv6 _ (Ok.refl _)
    obtain ⟨c0, c1, c2, c3, c4, c5, c6, c7, c8, c9, c10, c11⟩ := (HP.out _ hR).pars
    refine wpOp_run (v := .int .i64 p.rho) rfl rfl ?_ (fun _ _ => rfl) (Ok.refl _)
    clear hF
    go_simp
  · intro a' w' hF hR
    obtain ⟨v7, hv7, e15⟩ := hF.get 7 15 (by kernel_rfl) (by kernel_rfl)
    obtain rfl : v7 = _ := hv7 _ (Ok.refl _)
    clear hF
    refine wpOp_call (f := 28) (args := #[.int .i64 p.rho]) rfl rfl ?_ ((KN.out _).mono ?_)
    · go_simp
    · rintro e w2 ⟨rfl, rfl⟩; exact ⟨_, rfl, fun _ _ => rfl, Ok.refl _⟩
  · intro a' w' hF hR
    obtain ⟨v8, hv8, e16⟩ := hF.get 8 16 (by kernel_rfl) (by kernel_rfl)
    obtain rfl : v8 = _ := hv8 _ (Ok.refl _)
    refine wpOp_run (v := .int .i64 (-q)) rfl rfl ?_ (fun _ _ => rfl) (Ok.refl _)
    clear hF
    go_simp; exact IntWalk.i64_in _ ⟨by omega, by omega⟩
  · intro a' w' hF hR
    obtain ⟨v4, hv4, e12⟩ := hF.get 4 12 (by kernel_rfl) (by kernel_rfl)
    obtain rfl : v4 = _ := hv4 _ (Ok.refl _)
    obtain ⟨v5, hv5, e13⟩ := hF.get 5 13 (by kernel_rfl) (by kernel_rfl)
    obtain rfl : v5 = _ := hv5 _ (Ok.refl _)
    obtain ⟨v9, hv9, e17⟩ := hF.get 9 17 (by kernel_rfl) (by kernel_rfl)
    obtain rfl : v9 = _ := hv9 _ (Ok.refl _)
    refine wpOp_run (v := .slice (some ⟨w'.heap.size, 0, none⟩) 3 3) (w' := w'.alloc (.cells #[.int .i64 u, .int .i64 m, .int .i64 (-q)] 3)) rfl rfl ?_ (fun w'' k => ⟨_, rfl, (ints_new _ [u, m, -q] _ _ rfl rfl).below k⟩) ((Ok.refl _).alloc _)
    clear hF
    go_simp
  · intro a' w' hF hR
    obtain ⟨v10, hv10, e18⟩ := hF.get 10 18 (by kernel_rfl) (by kernel_rfl)
    obtain ⟨n10, rfl, hp10⟩ := hv10 _ (Ok.refl _)
    clear hF
    refine wpOp_call (f := 26) (args := #[.slice (some n10) 3 3]) rfl rfl ?_ ((refAdd (some n10) [u, m, -q] 3 _ hp10 (by simp)).mono ?_)
    · go_simp
    · rintro e w2 ⟨rfl, rfl⟩; exact ⟨_, rfl, fun _ _ => rfl, Ok.refl _⟩
  · intro a' w' hF hR
    obtain ⟨v11, hv11, e19⟩ := hF.get 11 19 (by kernel_rfl) (by kernel_rfl)
    obtain rfl : v11 = _ := hv11 _ (Ok.refl _)
    refine wpOp_run (v := .int .i64 (Sat.sum [u, m, -q])) rfl rfl ?_ (fun _ _ => rfl) (Ok.refl _)
    clear hF
    go_simp
  intro vs W1 hV hR
  have e12 : vs 12 = .int .i64 (Sat.sum [u, m, -q]) := hV 12 (by decide) _ (Ok.refl _)
  replace hok := hok.trans ((Ok.refl W).drew.trans hR)
  replace hP := HP.out _ hR
  replace hS := HS.out _ hR
  replace hZ := HR.out _ hR
  clear hV HP HS HR KU KN hR hvb
  simp only [putFrom, e12]
  simp only [Act.put, List.setIfInBounds_toArray, List.set_cons_zero, List.set_cons_succ]
  clear e12
  obtain ⟨z, hz⟩ : ∃ z, Sat.sum [u, m, -q] = z := ⟨_, rfl⟩
  rw [hz] at KS ⊢
  clear hz
  go_upto_region 2 with fail
  generalize vs (0 + 1 + 1 + 1 + 1 + 1 + 1 + 1 + 1 + 1 + 1 + 1) = z11
  generalize vs (0 + 1 + 1 + 1 + 1 + 1 + 1 + 1 + 1 + 1 + 1) = z10
  generalize vs (0 + 1 + 1 + 1 + 1 + 1 + 1 + 1 + 1 + 1) = z9
  generalize vs (0 + 1 + 1 + 1 + 1 + 1 + 1 + 1 + 1) = z8
  generalize vs (0 + 1 + 1 + 1 + 1 + 1 + 1 + 1) = z7
  generalize vs (0 + 1 + 1 + 1 + 1 + 1 + 1) = z6
  generalize vs (0 + 1 + 1 + 1 + 1 + 1) = z5
  generalize vs (0 + 1 + 1 + 1 + 1) = z4
  generalize vs (0 + 1 + 1 + 1) = z3
  generalize vs (0 + 1 + 1) = z2
  generalize vs (0 + 1) = z1
  generalize vs 0 = z0
  have HP := Lib.hid fun W' (k : Ok W1.drew W') => hP.drew.next k
  have HS := Lib.hid fun W' (k : Ok W1.drew W') => hS.drew.next k
  have HR := Lib.hid fun W' (k : Ok W1.drew W') => hZ.drew.next k
  clear hP hS hZ
  refine wp_region_facts_last (by kernel_rfl) 30 rfl (VCrW2 B S p a b m z x y) Ok _ rfl _ 10 rfl rfl rfl rfl (by kernel_rfl) (by kernel_rfl) (by kernel_rfl) (fun i v w w' h k w'' k' => h w'' (k.trans k')) (fun a b c => Ok.trans) (Ok.refl _) [some 20, some 21, some 22, some 23, some 24, some 25, some 26, some 27, some 28, some 29] rfl ⟨?_, ?_, ?_, ?_, ?_, ?_, ?_, ?_, ?_, ?_, trivial⟩ ?_
  · intro a' w' hF hR
    have e4 : a'.tmps[4]? = some (.pointer (some ⟨S, 0, none⟩)) := hF.slot 4 (by kernel_rfl) rfl
    have c0 := (HS.out _ hR).c0
    have c1 := (HS.out _ hR).c1
    refine wpOp_run (v := spanV a b) rfl rfl ?_ (fun _ _ => rfl) (Ok.refl _)
    clear hF
    go_simp
  · intro a' w' hF hR
    have e7 : a'.tmps[7]? = some (.int .i64 z) := hF.slot 7 (by kernel_rfl) rfl
    refine wpOp_run (v := .int .i64 z) rfl rfl ?_ (fun _ _ => rfl) (Ok.refl _)
    clear hF
    go_simp
  · intro a' w' hF hR
    have e3 : a'.tmps[3]? = some (.pointer (some ⟨B, 0, none⟩)) := hF.slot 3 (by kernel_rfl) rfl
    refine wpOp_run (v := .pointer (some ⟨B, 5, none⟩)) rfl rfl ?_ (fun _ _ => rfl) (Ok.refl _)
    clear hF
    go_simp
  · intro a' w' hF hR
    obtain ⟨v2, hv2, e22⟩ := hF.get 2 22 (by kernel_rfl) (by kernel_rfl)
    obtain rfl : v2 = _ := hv2 _ (Ok.refl _)
    obtain ⟨c0, c1, c2, c3, c4, c5, c6, c7, c8, c9, c10, c11⟩ := (HP.out _ hR).pars
    refine wpOp_run (v := .int .i64 p.delay) rfl rfl ?_ (fun _ _ => rfl) (Ok.refl _)
    clear hF
    go_simp
  · intro a' w' hF hR
    have e2 : a'.tmps[2]? = some (.int .i64 m) := hF.slot 2 (by kernel_rfl) rfl
    refine wpOp_run (v := .int .i64 m) rfl rfl ?_ (fun _ _ => rfl) (Ok.refl _)
    clear hF
    go_simp
  · intro a' w' hF hR
    have e3 : a'.tmps[3]? = some (.pointer (some ⟨B, 0, none⟩)) := hF.slot 3 (by kernel_rfl) rfl
    refine wpOp_run (v := .pointer (some ⟨B, 4, none⟩)) rfl rfl ?_ (fun _ _ => rfl) (Ok.refl _)
    clear hF
    go_simp
  · intro a' w' hF hR
    obtain ⟨v5, hv5, e25⟩ := hF.get 5 25 (by kernel_rfl) (by kernel_rfl)
    obtain rfl : v5 = _ := hv5 _ (Ok.refl _)
    obtain ⟨c0, c1, c2, c3, c4, c5, c6, c7, c8, c9, c10, c11⟩ := (HP.out _ hR).pars
    refine wpOp_run (v := .int .i64 p.rho) rfl rfl ?_ (fun _ _ => rfl) (Ok.refl _)
    clear hF
    go_simp
  · intro a' w' hF hR
    obtain ⟨v3, hv3, e23⟩ := hF.get 3 23 (by kernel_rfl) (by kernel_rfl)
    obtain rfl : v3 = _ := hv3 _ (Ok.refl _)
    obtain ⟨v4, hv4, e24⟩ := hF.get 4 24 (by kernel_rfl) (by kernel_rfl)
    obtain rfl : v4 = _ := hv4 _ (Ok.refl _)
    obtain ⟨v6, hv6, e26⟩ := hF.get 6 26 (by kernel_rfl) (by kernel_rfl)
    obtain rfl : v6 = _ := hv6 _ (Ok.refl _)
    refine wpOp_run (v := .slice (some ⟨w'.heap.size, 0, none⟩) 3 3) (w' := w'.alloc (.cells #[.int .i64 p.delay, .int .i64 m, .int .i64 p.rho] 3)) rfl rfl ?_ (fun w'' k => ⟨_, rfl, (ints_new _ [p.delay, m, p.rho] _ _ rfl rfl).below k⟩) ((Ok.refl _).alloc _)
    clear hF
    go_simp
  · intro a' w' hF hR
    obtain ⟨v7, hv7, e27⟩ := hF.get 7 27 (by kernel_rfl) (by kernel_rfl)
    obtain ⟨n7, rfl, hp7⟩ := hv7 _ (Ok.refl _)
    clear hF
    refine wpOp_call (f := 26) (args := #[.slice (some n7) 3 3]) rfl rfl ?_ ((refAdd (some n7) [p.delay, m, p.rho] 3 _ hp7 (by simp)).mono ?_)
    · go_simp
    · rintro e w2 ⟨rfl, rfl⟩; exact ⟨_, rfl, fun _ _ => rfl, Ok.refl _⟩
  · intro a' w' hF hR
    obtain ⟨v0, hv0, e20⟩ := hF.get 0 20 (by kernel_rfl) (by kernel_rfl)
    obtain rfl : v0 = _ := hv0 _ (Ok.refl _)
    obtain ⟨v1, hv1, e21⟩ := hF.get 1 21 (by kernel_rfl) (by kernel_rfl)
    obtain rfl : v1 = _ := hv1 _ (Ok.refl _)
    obtain ⟨v8, hv8, e28⟩ := hF.get 8 28 (by kernel_rfl) (by kernel_rfl)
    obtain rfl : v8 = _ := hv8 _ (Ok.refl _)
    clear hF
    refine wpOp_call (f := 24) (args := #[spanV a b, .int .i64 z, .int .i64 (Sat.sum [p.delay, m, p.rho])]) rfl rfl ?_ ((KS.out _).mono ?_)
    · go_simp
    · rintro e w2 ⟨rfl, hb2⟩; exact ⟨_, rfl, fun _ _ => rfl, hb2⟩
  intro vs W' hvs hR
  have e4 : vs 9 = spanV x y := hvs 9 (by decide) _ (Ok.refl _)
  have hSl := HR.out _ hR
  have f0 := hSl.f0
  have f1 := hSl.f1
  have c0 := hSl.c0
  have c1 := hSl.c1
  clear hvs HR HP HS KS
  simp only [putFrom, e4]
  simp only [Act.put, List.setIfInBounds_toArray, List.set_cons_zero, List.set_cons_succ]
  refine wpOp_store (w' := (W'.setCell ⟨r, 0, none⟩ (.int .i64 x)).setCell ⟨r, 1, none⟩ (.int .i64 y)) rfl rfl rfl ?_ ?_
  · go_simp
  have hF := hSl.set x y
  have hok2 := ((hok.trans ((Ok.refl W1).drew.trans hR)).setCell (p := ⟨r, 0, none⟩) hrw (.int .i64 x)).setCell (p := ⟨r, 1, none⟩) hrw (.int .i64 y)
  clear c0 c1 f0 f1 hSl
  generalize (W'.setCell ⟨r, 0, none⟩ (.int .i64 x)).setCell ⟨r, 1, none⟩ (.int .i64 y) = W2 at hF hok2 ⊢
  have q0 := hF.c0
  have q1 := hF.c1
  go_wp2
  exact bodyPost_ret (v := spanV x y) (by simp [results, Try.results13, go_sem, q0, q1]) rfl ⟨rfl, hok2⟩
/-- What each operation leaves. -/
def VMrT (B : Nat) (p : Par) (x : Int) (w : World) (v : Value) : Nat → Prop
  | 0 => v = .pointer (some ⟨B, 3, none⟩)
  | 1 => v = .int .i64 p.beat
  | 2 => v = .pointer (some ⟨B, 4, none⟩)
  | 3 => v = .int .i64 p.rho
  | 4 => v = .int .i64 x
  | 5 => v = .pointer (some ⟨B, 3, none⟩)
  | 6 => v = .int .i64 p.beat
  | 7 => v = .pointer (some ⟨B, 4, none⟩)
  | 8 => v = .int .i64 p.rho
  | 9 => ∃ n : Addr, v = .slice (some n) 2 2 ∧ IntsAt w (some n) [p.beat, p.rho]
  | 10 => v = .int .i64 (Sat.sum [p.beat, p.rho])
  | 11 => v = spanV x (Sat.sum [p.beat, p.rho])
  | _ => v = .bool true
/-- It stays so. -/
def VCrT (B : Nat) (p : Par) (x : Int) (i : Nat) (v : Value) (w : World) : Prop := ∀ w', Ok w w' → VMrT B p x w' v i
set_option maxHeartbeats 1600000 in
theorem ref11Ticks (p : Par) (w : World) : Calls Try.prog 15 #[parV p] w fun e w' => e = .returned (spanV (Carry.ticks p).1 (Carry.ticks p).2) ∧ Ok w w' := by
  have KU := Lib.hid fun w => refSub p.beat p.rho w
  show Calls _ _ _ _ fun e w' => e = .returned (spanV (Sat.sub p.beat p.rho) (Sat.sum [p.beat, p.rho])) ∧ Ok w w'
  obtain ⟨x, hx⟩ : ∃ x, Sat.sub p.beat p.rho = x := ⟨_, rfl⟩
  rw [hx] at KU ⊢
  clear hx
  obtain ⟨y, hy⟩ : ∃ x, Sat.sum [p.beat, p.rho] = x := ⟨_, rfl⟩
  rw [hy]
  have HY := Lib.hid hy
  clear hy
  have hP := (Own.new w (parCells p) 23 rfl).alloc (.cells #[.int .i64 0, .int .i64 0] 25)
  have hZ := Slab.new (w.alloc (.cells (parCells p) 23)) 0 0 25 (g := w.heap.size + 1) (by simp)
  have hok := ((Ok.refl w).alloc (.cells (parCells p) 23)).alloc (.cells #[.int .i64 0, .int .i64 0] 25)
  have hrw : w.heap.size ≤ w.heap.size + 1 := by omega
  go_enter Try.func15, Try.ntmps15
  go_upto_region 1 with fail
  generalize (w.alloc (.cells (parCells p) 23)).alloc (.cells #[.int .i64 0, .int .i64 0] 25) = W at hP hZ hok ⊢
  obtain ⟨r, hr⟩ : ∃ r, w.heap.size + 1 = r := ⟨_, rfl⟩
  rw [hr] at hZ hrw ⊢
  clear hr
  obtain ⟨B, hB⟩ : ∃ r, w.heap.size = r := ⟨_, rfl⟩
  have HBw := Lib.hid hB
  rw [hB] at hP ⊢
  clear hB
  have HP := Lib.hid fun W' (k : Ok W.drew W') => hP.drew.next k
  have HR := Lib.hid fun W' (k : Ok W.drew W') => hZ.drew.next k
  clear hP hZ
  refine wp_region_facts_last (by kernel_rfl) 15 rfl (VCrT B p x) Ok _ rfl _ 12 rfl rfl rfl rfl (by kernel_rfl) (by kernel_rfl) (by kernel_rfl) (fun i v w w' h k w'' k' => h w'' (k.trans k')) (fun a b c => Ok.trans) (Ok.refl _) [some 3, some 4, some 5, some 6, some 7, some 8, some 9, some 10, some 11, some 12, some 13, some 14] rfl ⟨?_, ?_, ?_, ?_, ?_, ?_, ?_, ?_, ?_, ?_, ?_, ?_, trivial⟩ ?_
  · intro a' w' hF hR
    have e1 : a'.tmps[1]? = some (.pointer (some ⟨B, 0, none⟩)) := hF.slot 1 (by kernel_rfl) rfl
    refine wpOp_run (v := .pointer (some ⟨B, 3, none⟩)) rfl rfl ?_ (fun _ _ => rfl) (Ok.refl _)
    clear hF
    go_simp
  · intro a' w' hF hR
    obtain ⟨v0, hv0, e3⟩ := hF.get 0 3 (by kernel_rfl) (by kernel_rfl)
    obtain rfl : v0 = _ := hv0 _ (Ok.refl _)
    obtain ⟨c0, c1, c2, c3, c4, c5, c6, c7, c8, c9, c10, c11⟩ := (HP.out _ hR).pars
    refine wpOp_run (v := .int .i64 p.beat) rfl rfl ?_ (fun _ _ => rfl) (Ok.refl _)
    clear hF
    go_simp
  · intro a' w' hF hR
    have e1 : a'.tmps[1]? = some (.pointer (some ⟨B, 0, none⟩)) := hF.slot 1 (by kernel_rfl) rfl
    refine wpOp_run (v := .pointer (some ⟨B, 4, none⟩)) rfl rfl ?_ (fun _ _ => rfl) (Ok.refl _)
    clear hF
    go_simp
  · intro a' w' hF hR
    obtain ⟨v2, hv2, e5⟩ := hF.get 2 5 (by kernel_rfl) (by kernel_rfl)
    obtain rfl : v2 = _ := hv2 _ (Ok.refl _)
    obtain ⟨c0, c1, c2, c3, c4, c5, c6, c7, c8, c9, c10, c11⟩ := (HP.out _ hR).pars
    refine wpOp_run (v := .int .i64 p.rho) rfl rfl ?_ (fun _ _ => rfl) (Ok.refl _)
    clear hF
    go_simp
  · intro a' w' hF hR
    obtain ⟨v1, hv1, e4⟩ := hF.get 1 4 (by kernel_rfl) (by kernel_rfl)
    obtain rfl : v1 = _ := hv1 _ (Ok.refl _)
    obtain ⟨v3, hv3, e6⟩ := hF.get 3 6 (by kernel_rfl) (by kernel_rfl)
    obtain rfl : v3 = _ := hv3 _ (Ok.refl _)
    clear hF
    refine wpOp_call (f := 25) (args := #[.int .i64 p.beat, .int .i64 p.rho]) rfl rfl ?_ ((KU.out _).mono ?_)
    · go_simp
    · rintro e w2 ⟨rfl, rfl⟩; exact ⟨_, rfl, fun _ _ => rfl, Ok.refl _⟩
  · intro a' w' hF hR
    have e1 : a'.tmps[1]? = some (.pointer (some ⟨B, 0, none⟩)) := hF.slot 1 (by kernel_rfl) rfl
    refine wpOp_run (v := .pointer (some ⟨B, 3, none⟩)) rfl rfl ?_ (fun _ _ => rfl) (Ok.refl _)
    clear hF
    go_simp
  · intro a' w' hF hR
    obtain ⟨v5, hv5, e8⟩ := hF.get 5 8 (by kernel_rfl) (by kernel_rfl)
    obtain rfl : v5 = _ := hv5 _ (Ok.refl _)
    obtain ⟨c0, c1, c2, c3, c4, c5, c6, c7, c8, c9, c10, c11⟩ := (HP.out _ hR).pars
    refine wpOp_run (v := .int .i64 p.beat) rfl rfl ?_ (fun _ _ => rfl) (Ok.refl _)
    clear hF
    go_simp
  · intro a' w' hF hR
    have e1 : a'.tmps[1]? = some (.pointer (some ⟨B, 0, none⟩)) := hF.slot 1 (by kernel_rfl) rfl
    refine wpOp_run (v := .pointer (some ⟨B, 4, none⟩)) rfl rfl ?_ (fun _ _ => rfl) (Ok.refl _)
    clear hF
    go_simp
  · intro a' w' hF hR
    obtain ⟨v7, hv7, e10⟩ := hF.get 7 10 (by kernel_rfl) (by kernel_rfl)
    obtain rfl : v7 = _ := hv7 _ (Ok.refl _)
    obtain ⟨c0, c1, c2, c3, c4, c5, c6, c7, c8, c9, c10, c11⟩ := (HP.out _ hR).pars
    refine wpOp_run (v := .int .i64 p.rho) rfl rfl ?_ (fun _ _ => rfl) (Ok.refl _)
    clear hF
    go_simp
  · intro a' w' hF hR
    obtain ⟨v6, hv6, e9⟩ := hF.get 6 9 (by kernel_rfl) (by kernel_rfl)
    obtain rfl : v6 = _ := hv6 _ (Ok.refl _)
    obtain ⟨v8, hv8, e11⟩ := hF.get 8 11 (by kernel_rfl) (by kernel_rfl)
    obtain rfl : v8 = _ := hv8 _ (Ok.refl _)
    refine wpOp_run (v := .slice (some ⟨w'.heap.size, 0, none⟩) 2 2) (w' := w'.alloc (.cells #[.int .i64 p.beat, .int .i64 p.rho] 3)) rfl rfl ?_ (fun w'' k => ⟨_, rfl, (ints_new _ [p.beat, p.rho] _ _ rfl rfl).below k⟩) ((Ok.refl _).alloc _)
    clear hF
    go_simp
  · intro a' w' hF hR
    obtain ⟨v9, hv9, e12⟩ := hF.get 9 12 (by kernel_rfl) (by kernel_rfl)
    obtain ⟨n9, rfl, hp9⟩ := hv9 _ (Ok.refl _)
    clear hF
    refine wpOp_call (f := 26) (args := #[.slice (some n9) 2 2]) rfl rfl ?_ ((refAdd (some n9) [p.beat, p.rho] 2 _ hp9 (by simp)).mono ?_)
    · go_simp
    · rintro e w2 ⟨rfl, rfl⟩; exact ⟨_, rfl, fun _ _ => rfl, Ok.refl _⟩
  · intro a' w' hF hR
    obtain ⟨v4, hv4, e7⟩ := hF.get 4 7 (by kernel_rfl) (by kernel_rfl)
    obtain rfl : v4 = _ := hv4 _ (Ok.refl _)
    obtain ⟨v10, hv10, e13⟩ := hF.get 10 13 (by kernel_rfl) (by kernel_rfl)
    obtain rfl : v10 = _ := hv10 _ (Ok.refl _)
    have hzero : Sem.run Try.prog (zeroValue 25) w' = .ok (spanV 0 0) w' := by kernel_rfl
    refine wpOp_run (v := spanV x (Sat.sum [p.beat, p.rho])) rfl rfl ?_ (fun _ _ => rfl) (Ok.refl _)
    clear hF
    go_simp
  intro vs W' hvs hR
  have e4 : vs 11 = spanV x (Sat.sum [p.beat, p.rho]) := hvs 11 (by decide) _ (Ok.refl _)
  rw [HY.out] at e4
  have hSl := HR.out _ hR
  have f0 := hSl.f0
  have f1 := hSl.f1
  have c0 := hSl.c0
  have c1 := hSl.c1
  clear hvs HR HP KU
  simp only [putFrom, e4]
  simp only [Act.put, List.setIfInBounds_toArray, List.set_cons_zero, List.set_cons_succ]
  refine wpOp_store (w' := (W'.setCell ⟨r, 0, none⟩ (.int .i64 x)).setCell ⟨r, 1, none⟩ (.int .i64 y)) rfl rfl rfl ?_ ?_
  · go_simp
  have hF := hSl.set x y
  have hok2 := ((hok.trans ((Ok.refl W).drew.trans hR)).setCell (p := ⟨r, 0, none⟩) hrw (.int .i64 x)).setCell (p := ⟨r, 1, none⟩) hrw (.int .i64 y)
  clear c0 c1 f0 f1 hSl
  generalize (W'.setCell ⟨r, 0, none⟩ (.int .i64 x)).setCell ⟨r, 1, none⟩ (.int .i64 y) = W2 at hF hok2 ⊢
  have q0 := hF.c0
  have q1 := hF.c1
  go_wp2
  exact bodyPost_ret (v := spanV x y) (by simp [results, Try.results15, go_sem, q0, q1]) rfl ⟨rfl, hok2⟩
/-- What each operation leaves. -/
def VMrA (B : Nat) (p : Par) (u x : Int) (w : World) (v : Value) : Nat → Prop
  | 0 => v = .int .i64 u
  | 1 => v = .pointer (some ⟨B, 4, none⟩)
  | 2 => v = .int .i64 p.rho
  | 3 => v = .int .i64 x
  | 4 => v = .int .i64 u
  | 5 => v = .pointer (some ⟨B, 6, none⟩)
  | 6 => v = .int .i64 p.jit
  | 7 => v = .pointer (some ⟨B, 4, none⟩)
  | 8 => v = .int .i64 p.rho
  | 9 => ∃ n : Addr, v = .slice (some n) 3 3 ∧ IntsAt w (some n) [u, p.jit, p.rho]
  | 10 => v = .int .i64 (Sat.sum [u, p.jit, p.rho])
  | 11 => v = spanV x (Sat.sum [u, p.jit, p.rho])
  | _ => v = .bool true
/-- It stays so. -/
def VCrA (B : Nat) (p : Par) (u x : Int) (i : Nat) (v : Value) (w : World) : Prop := ∀ w', Ok w w' → VMrA B p u x w' v i
set_option maxHeartbeats 1600000 in
theorem ref11Ages (p : Par) (w : World) : Calls Try.prog 17 #[parV p] w fun e w' => e = .returned (spanV (Carry.ages p).1 (Carry.ages p).2) ∧ Ok w w' := by
  have KU := Lib.hid fun w => refSub p.beat p.delay w
  have KX := Lib.hid fun w => refSub (Sat.sub p.beat p.delay) p.rho w
  show Calls _ _ _ _ fun e w' => e = .returned (spanV (Sat.sub (Sat.sub p.beat p.delay) p.rho) (Sat.sum [Sat.sub p.beat p.delay, p.jit, p.rho])) ∧ Ok w w'
  obtain ⟨x, hx⟩ : ∃ x, Sat.sub (Sat.sub p.beat p.delay) p.rho = x := ⟨_, rfl⟩
  rw [hx] at KX ⊢
  clear hx
  obtain ⟨u, hu⟩ : ∃ x, Sat.sub p.beat p.delay = x := ⟨_, rfl⟩
  rw [hu] at KU KX ⊢
  clear hu
  obtain ⟨y, hy⟩ : ∃ x, Sat.sum [u, p.jit, p.rho] = x := ⟨_, rfl⟩
  rw [hy]
  have HY := Lib.hid hy
  clear hy
  have hP := (Own.new w (parCells p) 23 rfl).alloc (.cells #[.int .i64 0, .int .i64 0] 25)
  have hZ := Slab.new (w.alloc (.cells (parCells p) 23)) 0 0 25 (g := w.heap.size + 1) (by simp)
  have hok := ((Ok.refl w).alloc (.cells (parCells p) 23)).alloc (.cells #[.int .i64 0, .int .i64 0] 25)
  have hrw : w.heap.size ≤ w.heap.size + 1 := by omega
  go_enter Try.func17, Try.ntmps17
  go_upto_region 2 with (go_at_call 25; first | ((with_reducible refine (KU.out _).mono ?_); rintro e w' ⟨rfl, rfl⟩))
  clear KU
  generalize (w.alloc (.cells (parCells p) 23)).alloc (.cells #[.int .i64 0, .int .i64 0] 25) = W at hP hZ hok ⊢
  obtain ⟨r, hr⟩ : ∃ r, w.heap.size + 1 = r := ⟨_, rfl⟩
  rw [hr] at hZ hrw ⊢
  clear hr
  obtain ⟨B, hB⟩ : ∃ r, w.heap.size = r := ⟨_, rfl⟩
  have HBw := Lib.hid hB
  rw [hB] at hP ⊢
  clear hB
  have HP := Lib.hid fun W' (k : Ok W.drew W') => hP.drew.next k
  have HR := Lib.hid fun W' (k : Ok W.drew W') => hZ.drew.next k
  clear hP hZ
  refine wp_region_facts_last (by kernel_rfl) 21 rfl (VCrA B p u x) Ok _ rfl _ 12 rfl rfl rfl rfl (by kernel_rfl) (by kernel_rfl) (by kernel_rfl) (fun i v w w' h k w'' k' => h w'' (k.trans k')) (fun a b c => Ok.trans) (Ok.refl _) [some 9, some 10, some 11, some 12, some 13, some 14, some 15, some 16, some 17, some 18, some 19, some 20] rfl ⟨?_, ?_, ?_, ?_, ?_, ?_, ?_, ?_, ?_, ?_, ?_, ?_, trivial⟩ ?_
  · intro a' w' hF hR
    have e3 : a'.tmps[3]? = some (.int .i64 u) := hF.slot 3 (by kernel_rfl) rfl
    refine wpOp_run (v := .int .i64 u) rfl rfl ?_ (fun _ _ => rfl) (Ok.refl _)
    clear hF
    go_simp
  · intro a' w' hF hR
    have e1 : a'.tmps[1]? = some (.pointer (some ⟨B, 0, none⟩)) := hF.slot 1 (by kernel_rfl) rfl
    refine wpOp_run (v := .pointer (some ⟨B, 4, none⟩)) rfl rfl ?_ (fun _ _ => rfl) (Ok.refl _)
    clear hF
    go_simp
  · intro a' w' hF hR
    obtain ⟨v1, hv1, e10⟩ := hF.get 1 10 (by kernel_rfl) (by kernel_rfl)
    obtain rfl : v1 = _ := hv1 _ (Ok.refl _)
    obtain ⟨c0, c1, c2, c3, c4, c5, c6, c7, c8, c9, c10, c11⟩ := (HP.out _ hR).pars
    refine wpOp_run (v := .int .i64 p.rho) rfl rfl ?_ (fun _ _ => rfl) (Ok.refl _)
    clear hF
    go_simp
  · intro a' w' hF hR
    obtain ⟨v0, hv0, e9⟩ := hF.get 0 9 (by kernel_rfl) (by kernel_rfl)
    obtain rfl : v0 = _ := hv0 _ (Ok.refl _)
    obtain ⟨v2, hv2, e11⟩ := hF.get 2 11 (by kernel_rfl) (by kernel_rfl)
    obtain rfl : v2 = _ := hv2 _ (Ok.refl _)
    clear hF
    refine wpOp_call (f := 25) (args := #[.int .i64 u, .int .i64 p.rho]) rfl rfl ?_ ((KX.out _).mono ?_)
    · go_simp
    · rintro e w2 ⟨rfl, rfl⟩; exact ⟨_, rfl, fun _ _ => rfl, Ok.refl _⟩
  · intro a' w' hF hR
    have e3 : a'.tmps[3]? = some (.int .i64 u) := hF.slot 3 (by kernel_rfl) rfl
    refine wpOp_run (v := .int .i64 u) rfl rfl ?_ (fun _ _ => rfl) (Ok.refl _)
    clear hF
    go_simp
  · intro a' w' hF hR
    have e1 : a'.tmps[1]? = some (.pointer (some ⟨B, 0, none⟩)) := hF.slot 1 (by kernel_rfl) rfl
    refine wpOp_run (v := .pointer (some ⟨B, 6, none⟩)) rfl rfl ?_ (fun _ _ => rfl) (Ok.refl _)
    clear hF
    go_simp
  · intro a' w' hF hR
    obtain ⟨v5, hv5, e14⟩ := hF.get 5 14 (by kernel_rfl) (by kernel_rfl)
    obtain rfl : v5 = _ := hv5 _ (Ok.refl _)
    obtain ⟨c0, c1, c2, c3, c4, c5, c6, c7, c8, c9, c10, c11⟩ := (HP.out _ hR).pars
    refine wpOp_run (v := .int .i64 p.jit) rfl rfl ?_ (fun _ _ => rfl) (Ok.refl _)
    clear hF
    go_simp
  · intro a' w' hF hR
    have e1 : a'.tmps[1]? = some (.pointer (some ⟨B, 0, none⟩)) := hF.slot 1 (by kernel_rfl) rfl
    refine wpOp_run (v := .pointer (some ⟨B, 4, none⟩)) rfl rfl ?_ (fun _ _ => rfl) (Ok.refl _)
    clear hF
    go_simp
  · intro a' w' hF hR
    obtain ⟨v7, hv7, e16⟩ := hF.get 7 16 (by kernel_rfl) (by kernel_rfl)
    obtain rfl : v7 = _ := hv7 _ (Ok.refl _)
    obtain ⟨c0, c1, c2, c3, c4, c5, c6, c7, c8, c9, c10, c11⟩ := (HP.out _ hR).pars
    refine wpOp_run (v := .int .i64 p.rho) rfl rfl ?_ (fun _ _ => rfl) (Ok.refl _)
    clear hF
    go_simp
  · intro a' w' hF hR
    obtain ⟨v4, hv4, e13⟩ := hF.get 4 13 (by kernel_rfl) (by kernel_rfl)
    obtain rfl : v4 = _ := hv4 _ (Ok.refl _)
    obtain ⟨v6, hv6, e15⟩ := hF.get 6 15 (by kernel_rfl) (by kernel_rfl)
    obtain rfl : v6 = _ := hv6 _ (Ok.refl _)
    obtain ⟨v8, hv8, e17⟩ := hF.get 8 17 (by kernel_rfl) (by kernel_rfl)
    obtain rfl : v8 = _ := hv8 _ (Ok.refl _)
    refine wpOp_run (v := .slice (some ⟨w'.heap.size, 0, none⟩) 3 3) (w' := w'.alloc (.cells #[.int .i64 u, .int .i64 p.jit, .int .i64 p.rho] 3)) rfl rfl ?_ (fun w'' k => ⟨_, rfl, (ints_new _ [u, p.jit, p.rho] _ _ rfl rfl).below k⟩) ((Ok.refl _).alloc _)
    clear hF
    go_simp
  · intro a' w' hF hR
    obtain ⟨v9, hv9, e18⟩ := hF.get 9 18 (by kernel_rfl) (by kernel_rfl)
    obtain ⟨n9, rfl, hp9⟩ := hv9 _ (Ok.refl _)
    clear hF
    refine wpOp_call (f := 26) (args := #[.slice (some n9) 3 3]) rfl rfl ?_ ((refAdd (some n9) [u, p.jit, p.rho] 3 _ hp9 (by simp)).mono ?_)
    · go_simp
    · rintro e w2 ⟨rfl, rfl⟩; exact ⟨_, rfl, fun _ _ => rfl, Ok.refl _⟩
  · intro a' w' hF hR
    obtain ⟨v3, hv3, e12⟩ := hF.get 3 12 (by kernel_rfl) (by kernel_rfl)
    obtain rfl : v3 = _ := hv3 _ (Ok.refl _)
    obtain ⟨v10, hv10, e19⟩ := hF.get 10 19 (by kernel_rfl) (by kernel_rfl)
    obtain rfl : v10 = _ := hv10 _ (Ok.refl _)
    have hzero : Sem.run Try.prog (zeroValue 25) w' = .ok (spanV 0 0) w' := by kernel_rfl
    refine wpOp_run (v := spanV x (Sat.sum [u, p.jit, p.rho])) rfl rfl ?_ (fun _ _ => rfl) (Ok.refl _)
    clear hF
    go_simp
  intro vs W' hvs hR
  have e4 : vs 11 = spanV x (Sat.sum [u, p.jit, p.rho]) := hvs 11 (by decide) _ (Ok.refl _)
  rw [HY.out] at e4
  have hSl := HR.out _ hR
  have f0 := hSl.f0
  have f1 := hSl.f1
  have c0 := hSl.c0
  have c1 := hSl.c1
  clear hvs HR HP KX
  simp only [putFrom, e4]
  simp only [Act.put, List.setIfInBounds_toArray, List.set_cons_zero, List.set_cons_succ]
  refine wpOp_store (w' := (W'.setCell ⟨r, 0, none⟩ (.int .i64 x)).setCell ⟨r, 1, none⟩ (.int .i64 y)) rfl rfl rfl ?_ ?_
  · go_simp
  have hF := hSl.set x y
  have hok2 := ((hok.trans ((Ok.refl W).drew.trans hR)).setCell (p := ⟨r, 0, none⟩) hrw (.int .i64 x)).setCell (p := ⟨r, 1, none⟩) hrw (.int .i64 y)
  clear c0 c1 f0 f1 hSl
  generalize (W'.setCell ⟨r, 0, none⟩ (.int .i64 x)).setCell ⟨r, 1, none⟩ (.int .i64 y) = W2 at hF hok2 ⊢
  have q0 := hF.c0
  have q1 := hF.c1
  go_wp2
  exact bodyPost_ret (v := spanV x y) (by simp [results, Try.results17, go_sem, q0, q1]) rfl ⟨rfl, hok2⟩
end Go.Proofs.Yteoilfeldehldaa
