/- Several texts of mine in one: C11b, C12a, C12b. -/
import Derived.Test.YtmmiboblofopgaaGreatB00
import Derived.Test.YtmmiboblofopgaaGreatB02
import Derived.Test.YtmmiboblofopgaaGreatMA
import Derived.Test.YtmmiboblofopgaaGreatB05
import Derived.Deep.CutRange
import Derived.Test.YtmmiboblofopgaaGreatC01a
import Derived.Deep.QuietTactic
import Derived.BigQuiet
/- Contracts of layer 11: the document's calls. -/
namespace Go.Proofs.YtmmiboblofopgaaGreat
open Go.RowKit
set_option linter.unusedVariables false
set_option maxRecDepth 100000
attribute [local go_sem ↓] Go.wp_at_zero Go.wp_at_succ
/-- What each operation leaves. -/
def VMrH (B S : Nat) (p : Par) (a b m u x y : Int) (w : World) (v : Value) : Nat → Prop
  | 0 => v = spanV a b
  | 1 => v = .int .i64 m
  | 2 => v = .pointer (some ⟨B, 4, none⟩)
  | 3 => v = .int .i64 p.rho
  | 4 => v = .int .i64 u
  | 5 => v = .int .i64 m
  | 6 => v = .pointer (some ⟨B, 4, none⟩)
  | 7 => v = .int .i64 p.rho
  | 8 => ∃ n : Addr, v = .slice (some n) 2 2 ∧ IntsAt w (some n) [m, p.rho]
  | 9 => v = .int .i64 (Sat.sum [m, p.rho])
  | 10 => v = spanV x y
  | _ => v = .bool true
/-- It stays so. -/
def VCrH (B S : Nat) (p : Par) (a b m u x y : Int) (i : Nat) (v : Value) (w : World) : Prop := ∀ w', Ok w w' → VMrH B S p a b m u x y w' v i
set_option maxHeartbeats 1600000 in
theorem ref11Hold (p : Par) (a b m : Int) (w : World) : Calls Tryz.prog 45 #[parV p, spanV a b, .int .i64 m] w fun e w' => e = .returned (spanV (Carry.hold p (a, b) m).1 (Carry.hold p (a, b) m).2) ∧ Ok w w' := by
  have KU := Lib.hid fun w => refSub m p.rho w
  have KS := Lib.hid fun w => ref3Shift a b (Sat.sub m p.rho) (Sat.sum [m, p.rho]) w
  show Calls _ _ _ _ fun e w' => e = .returned (spanV (Sat.sum [a, Sat.sub m p.rho]) (Sat.sum [b, Sat.sum [m, p.rho]])) ∧ Ok w w'
  obtain ⟨x, hx⟩ : ∃ x, Sat.sum [a, Sat.sub m p.rho] = x := ⟨_, rfl⟩
  obtain ⟨y, hy⟩ : ∃ x, Sat.sum [b, Sat.sum [m, p.rho]] = x := ⟨_, rfl⟩
  rw [hx, hy] at KS ⊢
  clear hx hy
  obtain ⟨u, hu⟩ : ∃ x, Sat.sub m p.rho = x := ⟨_, rfl⟩
  rw [hu] at KU KS
  clear hu
  have hP := ((Own.new w (parCells p) 23 rfl).alloc (.cells #[.int .i64 a, .int .i64 b] 25)).alloc (.cells #[.int .i64 0, .int .i64 0] 25)
  have hS := (Slab.new (w.alloc (.cells (parCells p) 23)) a b 25 (g := w.heap.size + 1) (by simp)).alloc (.cells #[.int .i64 0, .int .i64 0] 25)
  have hZ := Slab.new ((w.alloc (.cells (parCells p) 23)).alloc (.cells #[.int .i64 a, .int .i64 b] 25)) 0 0 25 (g := w.heap.size + 1 + 1) (by simp)
  have hok := (((Ok.refl w).alloc (.cells (parCells p) 23)).alloc (.cells #[.int .i64 a, .int .i64 b] 25)).alloc (.cells #[.int .i64 0, .int .i64 0] 25)
  have hrw : w.heap.size ≤ w.heap.size + 1 + 1 := by omega
  go_enter Tryz.func45, Tryz.ntmps45
  go_upto_region 1 with fail
  generalize ((w.alloc (.cells (parCells p) 23)).alloc (.cells #[.int .i64 a, .int .i64 b] 25)).alloc (.cells #[.int .i64 0, .int .i64 0] 25) = W at hP hS hZ hok ⊢
  obtain ⟨r, hr⟩ : ∃ r, w.heap.size + 1 + 1 = r := ⟨_, rfl⟩
  rw [hr] at hZ hrw ⊢
  clear hr
  obtain ⟨S, hSe⟩ : ∃ r, w.heap.size + 1 = r := ⟨_, rfl⟩
  rw [hSe] at hS ⊢
  clear hSe
  obtain ⟨B, hB⟩ : ∃ r, w.heap.size = r := ⟨_, rfl⟩
  have HBw := Lib.hid hB
  rw [hB] at hP ⊢
  clear hB
  have HP := Lib.hid fun W' (k : Ok W.drew W') => hP.drew.next k
  have HS := Lib.hid fun W' (k : Ok W.drew W') => hS.drew.next k
  have HR := Lib.hid fun W' (k : Ok W.drew W') => hZ.drew.next k
  clear hP hS hZ
  refine wp_region_facts_last (by kernel_rfl) 18 rfl (VCrH B S p a b m u x y) Ok _ rfl _ 11 rfl rfl rfl rfl (by kernel_rfl) (by kernel_rfl) (by kernel_rfl) (fun i v w w' h k w'' k' => h w'' (k.trans k')) (fun a b c => Ok.trans) (Ok.refl _) [some 7, some 8, some 9, some 10, some 11, some 12, some 13, some 14, some 15, some 16, some 17] rfl ⟨?_, ?_, ?_, ?_, ?_, ?_, ?_, ?_, ?_, ?_, ?_, trivial⟩ ?_
  · intro a' w' hF hR
    have e4 : a'.tmps[4]? = some (.pointer (some ⟨S, 0, none⟩)) := hF.slot 4 (by kernel_rfl) rfl
    have c0 := (HS.out _ hR).c0
    have c1 := (HS.out _ hR).c1
    refine wpOp_run (v := spanV a b) rfl rfl ?_ (fun _ _ => rfl) (Ok.refl _)
    clear hF
    go_simp
  · intro a' w' hF hR
    have e2 : a'.tmps[2]? = some (.int .i64 m) := hF.slot 2 (by kernel_rfl) rfl
    refine wpOp_run (v := .int .i64 m) rfl rfl ?_ (fun _ _ => rfl) (Ok.refl _)
    clear hF
    go_simp
  · intro a' w' hF hR
    have e3 : a'.tmps[3]? = some (.pointer (some ⟨B, 0, none⟩)) := hF.slot 3 (by kernel_rfl) rfl
    refine wpOp_run (v := .pointer (some ⟨B, 4, none⟩)) rfl rfl ?_ (fun _ _ => rfl) (Ok.refl _)
    clear hF
    go_simp
  · intro a' w' hF hR
    obtain ⟨v2, hv2, e9⟩ := hF.get 2 9 (by kernel_rfl) (by kernel_rfl)
    obtain rfl : v2 = _ := hv2 _ (Ok.refl _)
    obtain ⟨c0, c1, c2, c3, c4, c5, c6, c7, c8, c9, c10, c11⟩ := (HP.out _ hR).pars
    refine wpOp_run (v := .int .i64 p.rho) rfl rfl ?_ (fun _ _ => rfl) (Ok.refl _)
    clear hF
    go_simp
  · intro a' w' hF hR
    obtain ⟨v1, hv1, e8⟩ := hF.get 1 8 (by kernel_rfl) (by kernel_rfl)
    obtain rfl : v1 = _ := hv1 _ (Ok.refl _)
    obtain ⟨v3, hv3, e10⟩ := hF.get 3 10 (by kernel_rfl) (by kernel_rfl)
    obtain rfl : v3 = _ := hv3 _ (Ok.refl _)
    clear hF
    refine wpOp_call (f := 80) (args := #[.int .i64 m, .int .i64 p.rho]) rfl rfl ?_ ((KU.out _).mono ?_)
    · go_simp
    · rintro e w2 ⟨rfl, rfl⟩; exact ⟨_, rfl, fun _ _ => rfl, Ok.refl _⟩
  · intro a' w' hF hR
    have e2 : a'.tmps[2]? = some (.int .i64 m) := hF.slot 2 (by kernel_rfl) rfl
    refine wpOp_run (v := .int .i64 m) rfl rfl ?_ (fun _ _ => rfl) (Ok.refl _)
    clear hF
    go_simp
  · intro a' w' hF hR
    have e3 : a'.tmps[3]? = some (.pointer (some ⟨B, 0, none⟩)) := hF.slot 3 (by kernel_rfl) rfl
    refine wpOp_run (v := .pointer (some ⟨B, 4, none⟩)) rfl rfl ?_ (fun _ _ => rfl) (Ok.refl _)
    clear hF
    go_simp
  · intro a' w' hF hR
    obtain ⟨v6, hv6, e13⟩ := hF.get 6 13 (by kernel_rfl) (by kernel_rfl)
    obtain rfl : v6 = _ := hv6 _ (Ok.refl _)
    obtain ⟨c0, c1, c2, c3, c4, c5, c6, c7, c8, c9, c10, c11⟩ := (HP.out _ hR).pars
    refine wpOp_run (v := .int .i64 p.rho) rfl rfl ?_ (fun _ _ => rfl) (Ok.refl _)
    clear hF
    go_simp
  · intro a' w' hF hR
    obtain ⟨v5, hv5, e12⟩ := hF.get 5 12 (by kernel_rfl) (by kernel_rfl)
    obtain rfl : v5 = _ := hv5 _ (Ok.refl _)
    obtain ⟨v7, hv7, e14⟩ := hF.get 7 14 (by kernel_rfl) (by kernel_rfl)
    obtain rfl : v7 = _ := hv7 _ (Ok.refl _)
    refine wpOp_run (v := .slice (some ⟨w'.heap.size, 0, none⟩) 2 2) (w' := w'.alloc (.cells #[.int .i64 m, .int .i64 p.rho] 3)) rfl rfl ?_ (fun w'' k => ⟨_, rfl, (ints_new _ [m, p.rho] _ _ rfl rfl).below k⟩) ((Ok.refl _).alloc _)
    clear hF
    go_simp
  · intro a' w' hF hR
    obtain ⟨v8, hv8, e15⟩ := hF.get 8 15 (by kernel_rfl) (by kernel_rfl)
    obtain ⟨n8, rfl, hp8⟩ := hv8 _ (Ok.refl _)
    clear hF
    refine wpOp_call (f := 30) (args := #[.slice (some n8) 2 2]) rfl rfl ?_ ((refAdd (some n8) [m, p.rho] 2 _ hp8 (by simp)).mono ?_)
    · go_simp
    · rintro e w2 ⟨rfl, rfl⟩; exact ⟨_, rfl, fun _ _ => rfl, Ok.refl _⟩
  · intro a' w' hF hR
    obtain ⟨v0, hv0, e7⟩ := hF.get 0 7 (by kernel_rfl) (by kernel_rfl)
    obtain rfl : v0 = _ := hv0 _ (Ok.refl _)
    obtain ⟨v4, hv4, e11⟩ := hF.get 4 11 (by kernel_rfl) (by kernel_rfl)
    obtain rfl : v4 = _ := hv4 _ (Ok.refl _)
    obtain ⟨v9, hv9, e16⟩ := hF.get 9 16 (by kernel_rfl) (by kernel_rfl)
    obtain rfl : v9 = _ := hv9 _ (Ok.refl _)
    clear hF
    refine wpOp_call (f := 81) (args := #[spanV a b, .int .i64 u, .int .i64 (Sat.sum [m, p.rho])]) rfl rfl ?_ ((KS.out _).mono ?_)
    · go_simp
    · rintro e w2 ⟨rfl, hb2⟩; exact ⟨_, rfl, fun _ _ => rfl, hb2⟩
  intro vs W' hvs hR
  have e4 : vs 10 = spanV x y := hvs 10 (by decide) _ (Ok.refl _)
  have hSl := HR.out _ hR
  have f0 := hSl.f0
  have f1 := hSl.f1
  have c0 := hSl.c0
  have c1 := hSl.c1
  clear hvs HR HP HS KS KU
  simp only [putFrom, e4]
  simp only [Act.put, List.setIfInBounds_toArray, List.set_cons_zero, List.set_cons_succ]
  refine wpOp_store (w' := (W'.setCell ⟨r, 0, none⟩ (.int .i64 x)).setCell ⟨r, 1, none⟩ (.int .i64 y)) rfl rfl rfl ?_ ?_
  · go_simp
  have hF := hSl.set x y
  have hok2 := ((hok.trans ((Ok.refl W).drew.trans hR)).setCell (p := ⟨r, 0, none⟩) hrw (.int .i64 x)).setCell (p := ⟨r, 1, none⟩) hrw (.int .i64 y)
  clear c0 c1 f0 f1 hSl
  generalize (W'.setCell ⟨r, 0, none⟩ (.int .i64 x)).setCell ⟨r, 1, none⟩ (.int .i64 y) = W2 at hF hok2 ⊢
  have q0 := hF.c0
  have q1 := hF.c1
  go_wp2
  exact bodyPost_ret (v := spanV x y) (by simp [results, Tryz.results45, go_sem, q0, q1]) rfl ⟨rfl, hok2⟩
/-- What each operation leaves. -/
def VMrW1 (B : Nat) (p : Par) (m u q : Int) (w : World) (v : Value) : Nat → Prop
  | 0 => v = .pointer (some ⟨B, 5, none⟩)
  | 1 => v = .int .i64 p.delay
  | 2 => v = .pointer (some ⟨B, 6, none⟩)
  | 3 => v = .int .i64 p.jit
  | 4 => v = .int .i64 u
  | 5 => v = .int .i64 m
  | 6 => v = .pointer (some ⟨B, 4, none⟩)
  | 7 => v = .int .i64 p.rho
  | 8 => v = .int .i64 q
  | 9 => v = .int .i64 (-q)
  | 10 => ∃ n : Addr, v = .slice (some n) 3 3 ∧ IntsAt w (some n) [u, m, -q]
  | 11 => v = .int .i64 (Sat.sum [u, m, -q])
  | 12 => v = .int .i64 (Sat.sum [u, m, -q])
  | _ => v = .bool true
/-- It stays so. -/
def VCrW1 (B : Nat) (p : Par) (m u q : Int) (i : Nat) (v : Value) (w : World) : Prop := ∀ w', Ok w w' → VMrW1 B p m u q w' v i
/-- What each operation leaves. -/
def VMrW2 (B S : Nat) (p : Par) (a b m z x y : Int) (w : World) (v : Value) : Nat → Prop
  | 0 => v = spanV a b
  | 1 => v = .int .i64 z
  | 2 => v = .pointer (some ⟨B, 5, none⟩)
  | 3 => v = .int .i64 p.delay
  | 4 => v = .int .i64 m
  | 5 => v = .pointer (some ⟨B, 4, none⟩)
  | 6 => v = .int .i64 p.rho
  | 7 => ∃ n : Addr, v = .slice (some n) 3 3 ∧ IntsAt w (some n) [p.delay, m, p.rho]
  | 8 => v = .int .i64 (Sat.sum [p.delay, m, p.rho])
  | 9 => v = spanV x y
  | _ => v = .bool true
/-- It stays so. -/
def VCrW2 (B S : Nat) (p : Par) (a b m z x y : Int) (i : Nat) (v : Value) (w : World) : Prop := ∀ w', Ok w w' → VMrW2 B S p a b m z x y w' v i
set_option maxHeartbeats 1600000 in
theorem ref11Way (p : Par) (a b m : Int) (w : World) : Calls Tryz.prog 43 #[parV p, spanV a b, .int .i64 m] w fun e w' => e = .returned (spanV (Carry.way p (a, b) m).1 (Carry.way p (a, b) m).2) ∧ Ok w w' := by
  have KU := Lib.hid fun w => refSub p.delay p.jit w
  have KS := Lib.hid fun w => ref3Shift a b (Sat.sum [Sat.sub p.delay p.jit, m, -Sat.clip p.rho]) (Sat.sum [p.delay, m, p.rho]) w
  have KN := Lib.hid fun w => refClip p.rho w
  have hvb := Sat.clip_bd p.rho
  show Calls _ _ _ _ fun e w' => e = .returned (spanV (Sat.sum [a, Sat.sum [Sat.sub p.delay p.jit, m, -Sat.clip p.rho]]) (Sat.sum [b, Sat.sum [p.delay, m, p.rho]])) ∧ Ok w w'
  obtain ⟨x, hx⟩ : ∃ x, Sat.sum [a, Sat.sum [Sat.sub p.delay p.jit, m, -Sat.clip p.rho]] = x := ⟨_, rfl⟩
  obtain ⟨y, hy⟩ : ∃ x, Sat.sum [b, Sat.sum [p.delay, m, p.rho]] = x := ⟨_, rfl⟩
  rw [hx, hy] at KS ⊢
  clear hx hy
  obtain ⟨u, hu⟩ : ∃ x, Sat.sub p.delay p.jit = x := ⟨_, rfl⟩
  rw [hu] at KU KS
  clear hu
  obtain ⟨q, hv⟩ : ∃ x, Sat.clip p.rho = x := ⟨_, rfl⟩
  rw [hv] at KN KS hvb
  clear hv
  have hP := ((Own.new w (parCells p) 23 rfl).alloc (.cells #[.int .i64 a, .int .i64 b] 25)).alloc (.cells #[.int .i64 0, .int .i64 0] 25)
  have hS := (Slab.new (w.alloc (.cells (parCells p) 23)) a b 25 (g := w.heap.size + 1) (by simp)).alloc (.cells #[.int .i64 0, .int .i64 0] 25)
  have hZ := Slab.new ((w.alloc (.cells (parCells p) 23)).alloc (.cells #[.int .i64 a, .int .i64 b] 25)) 0 0 25 (g := w.heap.size + 1 + 1) (by simp)
  have hok := (((Ok.refl w).alloc (.cells (parCells p) 23)).alloc (.cells #[.int .i64 a, .int .i64 b] 25)).alloc (.cells #[.int .i64 0, .int .i64 0] 25)
  have hrw : w.heap.size ≤ w.heap.size + 1 + 1 := by omega
  go_enter Tryz.func43, Tryz.ntmps43
  go_upto_region 1 with fail
  generalize ((w.alloc (.cells (parCells p) 23)).alloc (.cells #[.int .i64 a, .int .i64 b] 25)).alloc (.cells #[.int .i64 0, .int .i64 0] 25) = W at hP hS hZ hok ⊢
  obtain ⟨r, hr⟩ : ∃ r, w.heap.size + 1 + 1 = r := ⟨_, rfl⟩
  rw [hr] at hZ hrw ⊢
  clear hr
  obtain ⟨S, hSe⟩ : ∃ r, w.heap.size + 1 = r := ⟨_, rfl⟩
  rw [hSe] at hS ⊢
  clear hSe
  obtain ⟨B, hB⟩ : ∃ r, w.heap.size = r := ⟨_, rfl⟩
  have HBw := Lib.hid hB
  rw [hB] at hP ⊢
  clear hB
  have HP := Lib.hid fun W' (k : Ok W.drew W') => hP.drew.next k
  have HS := Lib.hid fun W' (k : Ok W.drew W') => hS.drew.next k
  have HR := Lib.hid fun W' (k : Ok W.drew W') => hZ.drew.next k
  refine wp_region_facts (by kernel_rfl) 30 rfl (VCrW1 B p m u q) Ok (by kernel_rfl) (fun i v w w' h k w'' k' => h w'' (k.trans k')) (fun a b c => Ok.trans) (Ok.refl _) [some 8, some 9, some 10, some 11, some 12, some 13, some 14, some 15, some 16, some 17, some 18, some 19, some 7] rfl 13 rfl ⟨?_, ?_, ?_, ?_, ?_, ?_, ?_, ?_, ?_, ?_, ?_, ?_, ?_, trivial⟩ ?_
  · intro a' w' hF hR
    have e3 : a'.tmps[3]? = some (.pointer (some ⟨B, 0, none⟩)) := hF.slot 3 (by kernel_rfl) rfl
    refine wpOp_run (v := .pointer (some ⟨B, 5, none⟩)) rfl rfl ?_ (fun _ _ => rfl) (Ok.refl _)
    clear hF
    go_simp
  · intro a' w' hF hR
    obtain ⟨v0, hv0, e8⟩ := hF.get 0 8 (by kernel_rfl) (by kernel_rfl)
    obtain rfl : v0 = _ := hv0 _ (Ok.refl _)
    obtain ⟨c0, c1, c2, c3, c4, c5, c6, c7, c8, c9, c10, c11⟩ := (HP.out _ hR).pars
    refine wpOp_run (v := .int .i64 p.delay) rfl rfl ?_ (fun _ _ => rfl) (Ok.refl _)
    clear hF
    go_simp
  · intro a' w' hF hR
    have e3 : a'.tmps[3]? = some (.pointer (some ⟨B, 0, none⟩)) := hF.slot 3 (by kernel_rfl) rfl
    refine wpOp_run (v := .pointer (some ⟨B, 6, none⟩)) rfl rfl ?_ (fun _ _ => rfl) (Ok.refl _)
    clear hF
    go_simp
  · intro a' w' hF hR
    obtain ⟨v2, hv2, e10⟩ := hF.get 2 10 (by kernel_rfl) (by kernel_rfl)
    obtain rfl : v2 = _ := hv2 _ (Ok.refl _)
    obtain ⟨c0, c1, c2, c3, c4, c5, c6, c7, c8, c9, c10, c11⟩ := (HP.out _ hR).pars
    refine wpOp_run (v := .int .i64 p.jit) rfl rfl ?_ (fun _ _ => rfl) (Ok.refl _)
    clear hF
    go_simp
  · intro a' w' hF hR
    obtain ⟨v1, hv1, e9⟩ := hF.get 1 9 (by kernel_rfl) (by kernel_rfl)
    obtain rfl : v1 = _ := hv1 _ (Ok.refl _)
    obtain ⟨v3, hv3, e11⟩ := hF.get 3 11 (by kernel_rfl) (by kernel_rfl)
    obtain rfl : v3 = _ := hv3 _ (Ok.refl _)
    clear hF
    refine wpOp_call (f := 80) (args := #[.int .i64 p.delay, .int .i64 p.jit]) rfl rfl ?_ ((KU.out _).mono ?_)
    · go_simp
    · rintro e w2 ⟨rfl, rfl⟩; exact ⟨_, rfl, fun _ _ => rfl, Ok.refl _⟩
  · intro a' w' hF hR
    have e2 : a'.tmps[2]? = some (.int .i64 m) := hF.slot 2 (by kernel_rfl) rfl
    refine wpOp_run (v := .int .i64 m) rfl rfl ?_ (fun _ _ => rfl) (Ok.refl _)
    clear hF
    go_simp
  · intro a' w' hF hR
    have e3 : a'.tmps[3]? = some (.pointer (some ⟨B, 0, none⟩)) := hF.slot 3 (by kernel_rfl) rfl
    refine wpOp_run (v := .pointer (some ⟨B, 4, none⟩)) rfl rfl ?_ (fun _ _ => rfl) (Ok.refl _)
    clear hF
    go_simp
  · intro a' w' hF hR
    obtain ⟨v6, hv6, e14⟩ := hF.get 6 14 (by kernel_rfl) (by kernel_rfl)
    obtain rfl : v6 = _ := hv6 _ (Ok.refl _)
    obtain ⟨c0, c1, c2, c3, c4, c5, c6, c7, c8, c9, c10, c11⟩ := (HP.out _ hR).pars
    refine wpOp_run (v := .int .i64 p.rho) rfl rfl ?_ (fun _ _ => rfl) (Ok.refl _)
    clear hF
    go_simp
  · intro a' w' hF hR
    obtain ⟨v7, hv7, e15⟩ := hF.get 7 15 (by kernel_rfl) (by kernel_rfl)
    obtain rfl : v7 = _ := hv7 _ (Ok.refl _)
    clear hF
    refine wpOp_call (f := 28) (args := #[.int .i64 p.rho]) rfl rfl ?_ ((KN.out _).mono ?_)
    · go_simp
    · rintro e w2 ⟨rfl, rfl⟩; exact ⟨_, rfl, fun _ _ => rfl, Ok.refl _⟩
  · intro a' w' hF hR
    obtain ⟨v8, hv8, e16⟩ := hF.get 8 16 (by kernel_rfl) (by kernel_rfl)
    obtain rfl : v8 = _ := hv8 _ (Ok.refl _)
    refine wpOp_run (v := .int .i64 (-q)) rfl rfl ?_ (fun _ _ => rfl) (Ok.refl _)
    clear hF
    go_simp; exact IntWalk.i64_in _ ⟨by omega, by omega⟩
  · intro a' w' hF hR
    obtain ⟨v4, hv4, e12⟩ := hF.get 4 12 (by kernel_rfl) (by kernel_rfl)
    obtain rfl : v4 = _ := hv4 _ (Ok.refl _)
    obtain ⟨v5, hv5, e13⟩ := hF.get 5 13 (by kernel_rfl) (by kernel_rfl)
    obtain rfl : v5 = _ := hv5 _ (Ok.refl _)
    obtain ⟨v9, hv9, e17⟩ := hF.get 9 17 (by kernel_rfl) (by kernel_rfl)
    obtain rfl : v9 = _ := hv9 _ (Ok.refl _)
    refine wpOp_run (v := .slice (some ⟨w'.heap.size, 0, none⟩) 3 3) (w' := w'.alloc (.cells #[.int .i64 u, .int .i64 m, .int .i64 (-q)] 3)) rfl rfl ?_ (fun w'' k => ⟨_, rfl, (ints_new _ [u, m, -q] _ _ rfl rfl).below k⟩) ((Ok.refl _).alloc _)
    clear hF
    go_simp
  · intro a' w' hF hR
    obtain ⟨v10, hv10, e18⟩ := hF.get 10 18 (by kernel_rfl) (by kernel_rfl)
    obtain ⟨n10, rfl, hp10⟩ := hv10 _ (Ok.refl _)
    clear hF
    refine wpOp_call (f := 30) (args := #[.slice (some n10) 3 3]) rfl rfl ?_ ((refAdd (some n10) [u, m, -q] 3 _ hp10 (by simp)).mono ?_)
    · go_simp
    · rintro e w2 ⟨rfl, rfl⟩; exact ⟨_, rfl, fun _ _ => rfl, Ok.refl _⟩
  · intro a' w' hF hR
    obtain ⟨v11, hv11, e19⟩ := hF.get 11 19 (by kernel_rfl) (by kernel_rfl)
    obtain rfl : v11 = _ := hv11 _ (Ok.refl _)
    refine wpOp_run (v := .int .i64 (Sat.sum [u, m, -q])) rfl rfl ?_ (fun _ _ => rfl) (Ok.refl _)
    clear hF
    go_simp
  intro vs W1 hV hR
  have e12 : vs 12 = .int .i64 (Sat.sum [u, m, -q]) := hV 12 (by decide) _ (Ok.refl _)
  replace hok := hok.trans ((Ok.refl W).drew.trans hR)
  replace hP := HP.out _ hR
  replace hS := HS.out _ hR
  replace hZ := HR.out _ hR
  clear hV HP HS HR KU KN hR hvb
  simp only [putFrom, e12]
  simp only [Act.put, List.setIfInBounds_toArray, List.set_cons_zero, List.set_cons_succ]
  clear e12
  obtain ⟨z, hz⟩ : ∃ z, Sat.sum [u, m, -q] = z := ⟨_, rfl⟩
  rw [hz] at KS ⊢
  clear hz
  go_upto_region 2 with fail
  generalize vs (0 + 1 + 1 + 1 + 1 + 1 + 1 + 1 + 1 + 1 + 1 + 1) = z11
  generalize vs (0 + 1 + 1 + 1 + 1 + 1 + 1 + 1 + 1 + 1 + 1) = z10
  generalize vs (0 + 1 + 1 + 1 + 1 + 1 + 1 + 1 + 1 + 1) = z9
  generalize vs (0 + 1 + 1 + 1 + 1 + 1 + 1 + 1 + 1) = z8
  generalize vs (0 + 1 + 1 + 1 + 1 + 1 + 1 + 1) = z7
  generalize vs (0 + 1 + 1 + 1 + 1 + 1 + 1) = z6
  generalize vs (0 + 1 + 1 + 1 + 1 + 1) = z5
  generalize vs (0 + 1 + 1 + 1 + 1) = z4
  generalize vs (0 + 1 + 1 + 1) = z3
  generalize vs (0 + 1 + 1) = z2
  generalize vs (0 + 1) = z1
  generalize vs 0 = z0
  have HP := Lib.hid fun W' (k : Ok W1.drew W') => hP.drew.next k
  have HS := Lib.hid fun W' (k : Ok W1.drew W') => hS.drew.next k
  have HR := Lib.hid fun W' (k : Ok W1.drew W') => hZ.drew.next k
  clear hP hS hZ
  refine wp_region_facts_last (by kernel_rfl) 30 rfl (VCrW2 B S p a b m z x y) Ok _ rfl _ 10 rfl rfl rfl rfl (by kernel_rfl) (by kernel_rfl) (by kernel_rfl) (fun i v w w' h k w'' k' => h w'' (k.trans k')) (fun a b c => Ok.trans) (Ok.refl _) [some 20, some 21, some 22, some 23, some 24, some 25, some 26, some 27, some 28, some 29] rfl ⟨?_, ?_, ?_, ?_, ?_, ?_, ?_, ?_, ?_, ?_, trivial⟩ ?_
  · intro a' w' hF hR
    have e4 : a'.tmps[4]? = some (.pointer (some ⟨S, 0, none⟩)) := hF.slot 4 (by kernel_rfl) rfl
    have c0 := (HS.out _ hR).c0
    have c1 := (HS.out _ hR).c1
    refine wpOp_run (v := spanV a b) rfl rfl ?_ (fun _ _ => rfl) (Ok.refl _)
    clear hF
    go_simp
  · intro a' w' hF hR
    have e7 : a'.tmps[7]? = some (.int .i64 z) := hF.slot 7 (by kernel_rfl) rfl
    refine wpOp_run (v := .int .i64 z) rfl rfl ?_ (fun _ _ => rfl) (Ok.refl _)
    clear hF
    go_simp
  · intro a' w' hF hR
    have e3 : a'.tmps[3]? = some (.pointer (some ⟨B, 0, none⟩)) := hF.slot 3 (by kernel_rfl) rfl
    refine wpOp_run (v := .pointer (some ⟨B, 5, none⟩)) rfl rfl ?_ (fun _ _ => rfl) (Ok.refl _)
    clear hF
    go_simp
  · intro a' w' hF hR
    obtain ⟨v2, hv2, e22⟩ := hF.get 2 22 (by kernel_rfl) (by kernel_rfl)
    obtain rfl : v2 = _ := hv2 _ (Ok.refl _)
    obtain ⟨c0, c1, c2, c3, c4, c5, c6, c7, c8, c9, c10, c11⟩ := (HP.out _ hR).pars
    refine wpOp_run (v := .int .i64 p.delay) rfl rfl ?_ (fun _ _ => rfl) (Ok.refl _)
    clear hF
    go_simp
  · intro a' w' hF hR
    have e2 : a'.tmps[2]? = some (.int .i64 m) := hF.slot 2 (by kernel_rfl) rfl
    refine wpOp_run (v := .int .i64 m) rfl rfl ?_ (fun _ _ => rfl) (Ok.refl _)
    clear hF
    go_simp
  · intro a' w' hF hR
    have e3 : a'.tmps[3]? = some (.pointer (some ⟨B, 0, none⟩)) := hF.slot 3 (by kernel_rfl) rfl
    refine wpOp_run (v := .pointer (some ⟨B, 4, none⟩)) rfl rfl ?_ (fun _ _ => rfl) (Ok.refl _)
    clear hF
    go_simp
  · intro a' w' hF hR
    obtain ⟨v5, hv5, e25⟩ := hF.get 5 25 (by kernel_rfl) (by kernel_rfl)
    obtain rfl : v5 = _ := hv5 _ (Ok.refl _)
    obtain ⟨c0, c1, c2, c3, c4, c5, c6, c7, c8, c9, c10, c11⟩ := (HP.out _ hR).pars
    refine wpOp_run (v := .int .i64 p.rho) rfl rfl ?_ (fun _ _ => rfl) (Ok.refl _)
    clear hF
    go_simp
  · intro a' w' hF hR
    obtain ⟨v3, hv3, e23⟩ := hF.get 3 23 (by kernel_rfl) (by kernel_rfl)
    obtain rfl : v3 = _ := hv3 _ (Ok.refl _)
    obtain ⟨v4, hv4, e24⟩ := hF.get 4 24 (by kernel_rfl) (by kernel_rfl)
    obtain rfl : v4 = _ := hv4 _ (Ok.refl _)
    obtain ⟨v6, hv6, e26⟩ := hF.get 6 26 (by kernel_rfl) (by kernel_rfl)
    obtain rfl : v6 = _ := hv6 _ (Ok.refl _)
    refine wpOp_run (v := .slice (some ⟨w'.heap.size, 0, none⟩) 3 3) (w' := w'.alloc (.cells #[.int .i64 p.delay, .int .i64 m, .int .i64 p.rho] 3)) rfl rfl ?_ (fun w'' k => ⟨_, rfl, (ints_new _ [p.delay, m, p.rho] _ _ rfl rfl).below k⟩) ((Ok.refl _).alloc _)
    clear hF
    go_simp
  · intro a' w' hF hR
    obtain ⟨v7, hv7, e27⟩ := hF.get 7 27 (by kernel_rfl) (by kernel_rfl)
    obtain ⟨n7, rfl, hp7⟩ := hv7 _ (Ok.refl _)
    clear hF
    refine wpOp_call (f := 30) (args := #[.slice (some n7) 3 3]) rfl rfl ?_ ((refAdd (some n7) [p.delay, m, p.rho] 3 _ hp7 (by simp)).mono ?_)
    · go_simp
    · rintro e w2 ⟨rfl, rfl⟩; exact ⟨_, rfl, fun _ _ => rfl, Ok.refl _⟩
  · intro a' w' hF hR
    obtain ⟨v0, hv0, e20⟩ := hF.get 0 20 (by kernel_rfl) (by kernel_rfl)
    obtain rfl : v0 = _ := hv0 _ (Ok.refl _)
    obtain ⟨v1, hv1, e21⟩ := hF.get 1 21 (by kernel_rfl) (by kernel_rfl)
    obtain rfl : v1 = _ := hv1 _ (Ok.refl _)
    obtain ⟨v8, hv8, e28⟩ := hF.get 8 28 (by kernel_rfl) (by kernel_rfl)
    obtain rfl : v8 = _ := hv8 _ (Ok.refl _)
    clear hF
    refine wpOp_call (f := 81) (args := #[spanV a b, .int .i64 z, .int .i64 (Sat.sum [p.delay, m, p.rho])]) rfl rfl ?_ ((KS.out _).mono ?_)
    · go_simp
    · rintro e w2 ⟨rfl, hb2⟩; exact ⟨_, rfl, fun _ _ => rfl, hb2⟩
  intro vs W' hvs hR
  have e4 : vs 9 = spanV x y := hvs 9 (by decide) _ (Ok.refl _)
  have hSl := HR.out _ hR
  have f0 := hSl.f0
  have f1 := hSl.f1
  have c0 := hSl.c0
  have c1 := hSl.c1
  clear hvs HR HP HS KS
  simp only [putFrom, e4]
  simp only [Act.put, List.setIfInBounds_toArray, List.set_cons_zero, List.set_cons_succ]
  refine wpOp_store (w' := (W'.setCell ⟨r, 0, none⟩ (.int .i64 x)).setCell ⟨r, 1, none⟩ (.int .i64 y)) rfl rfl rfl ?_ ?_
  · go_simp
  have hF := hSl.set x y
  have hok2 := ((hok.trans ((Ok.refl W1).drew.trans hR)).setCell (p := ⟨r, 0, none⟩) hrw (.int .i64 x)).setCell (p := ⟨r, 1, none⟩) hrw (.int .i64 y)
  clear c0 c1 f0 f1 hSl
  generalize (W'.setCell ⟨r, 0, none⟩ (.int .i64 x)).setCell ⟨r, 1, none⟩ (.int .i64 y) = W2 at hF hok2 ⊢
  have q0 := hF.c0
  have q1 := hF.c1
  go_wp2
  exact bodyPost_ret (v := spanV x y) (by simp [results, Tryz.results43, go_sem, q0, q1]) rfl ⟨rfl, hok2⟩
/-- What each operation leaves. -/
def VMrT (B : Nat) (p : Par) (x : Int) (w : World) (v : Value) : Nat → Prop
  | 0 => v = .pointer (some ⟨B, 3, none⟩)
  | 1 => v = .int .i64 p.beat
  | 2 => v = .pointer (some ⟨B, 4, none⟩)
  | 3 => v = .int .i64 p.rho
  | 4 => v = .int .i64 x
  | 5 => v = .pointer (some ⟨B, 3, none⟩)
  | 6 => v = .int .i64 p.beat
  | 7 => v = .pointer (some ⟨B, 4, none⟩)
  | 8 => v = .int .i64 p.rho
  | 9 => ∃ n : Addr, v = .slice (some n) 2 2 ∧ IntsAt w (some n) [p.beat, p.rho]
  | 10 => v = .int .i64 (Sat.sum [p.beat, p.rho])
  | 11 => v = spanV x (Sat.sum [p.beat, p.rho])
  | _ => v = .bool true
/-- It stays so. -/
def VCrT (B : Nat) (p : Par) (x : Int) (i : Nat) (v : Value) (w : World) : Prop := ∀ w', Ok w w' → VMrT B p x w' v i
/-- What each operation leaves. -/
def VMrA (B : Nat) (p : Par) (u x : Int) (w : World) (v : Value) : Nat → Prop
  | 0 => v = .int .i64 u
  | 1 => v = .pointer (some ⟨B, 4, none⟩)
  | 2 => v = .int .i64 p.rho
  | 3 => v = .int .i64 x
  | 4 => v = .int .i64 u
  | 5 => v = .pointer (some ⟨B, 6, none⟩)
  | 6 => v = .int .i64 p.jit
  | 7 => v = .pointer (some ⟨B, 4, none⟩)
  | 8 => v = .int .i64 p.rho
  | 9 => ∃ n : Addr, v = .slice (some n) 3 3 ∧ IntsAt w (some n) [u, p.jit, p.rho]
  | 10 => v = .int .i64 (Sat.sum [u, p.jit, p.rho])
  | 11 => v = spanV x (Sat.sum [u, p.jit, p.rho])
  | _ => v = .bool true
/-- It stays so. -/
def VCrA (B : Nat) (p : Par) (u x : Int) (i : Nat) (v : Value) (w : World) : Prop := ∀ w', Ok w w' → VMrA B p u x w' v i
end Go.Proofs.YtmmiboblofopgaaGreat

/- Contracts of layer 12: the program's Step and Off. -/
namespace Go.Proofs.YtmmiboblofopgaaGreat
open Go.RowKit
set_option maxRecDepth 100000
attribute [local go_sem ↓] Go.wp_at_zero Go.wp_at_succ
/-- A clock, as a value. -/
abbrev clockV (t : Int) (s : Bool) : Value := .agg #[.int .i64 t, .bool s]
theorem slewJump (p : Par) (t : Int) (s : Bool) (ticks dst : Int) (w : World) : Calls Tryz.prog 114 #[clockV t s, parV p, .int .i64 ticks, .int .i64 dst, .bool true] w fun e w' => e = .returned (clockV (Sat.clip dst) true) ∧ Ok w w' := by
  have hok := Ok.refl w
  go_enter Tryz.func114, Tryz.ntmps114
  go_wp2_with (go_at_call 60; refine (satClip _ _).mono ?_; rintro e w' ⟨rfl, rfl⟩)
  exact bodyPost_ret (v := clockV (Sat.clip dst) true) (by simp [results, Tryz.results114, go_sem]) rfl ⟨rfl, ((hok.alloc _).alloc _).alloc _⟩
theorem slewUnset (p : Par) (t : Int) (ticks dst : Int) (j : Bool) (w : World) : Calls Tryz.prog 114 #[clockV t false, parV p, .int .i64 ticks, .int .i64 dst, .bool j] w fun e w' => e = .returned (clockV (Sat.clip dst) true) ∧ Ok w w' := by
  cases j
  · have hok := Ok.refl w
    go_enter Tryz.func114, Tryz.ntmps114
    go_wp2_with (go_at_call 60; refine (satClip _ _).mono ?_; rintro e w' ⟨rfl, rfl⟩)
    exact bodyPost_ret (v := clockV (Sat.clip dst) true) (by simp [results, Tryz.results114, go_sem]) rfl ⟨rfl, ((hok.alloc _).alloc _).alloc _⟩
  · exact slewJump p t false ticks dst w
theorem slewStep (p : Par) (t ticks dst : Int) (w : World) : Calls Tryz.prog 114 #[clockV t true, parV p, .int .i64 ticks, .int .i64 dst, .bool false] w fun e w' => e = .returned (clockV (Slew.step p t ticks dst) true) ∧ Ok w w' := by
  have hok := Ok.refl w
  show Calls _ _ _ _ fun e w' => e = .returned (clockV (Sat.sum [Sat.sum [t, ticks], Sat.bound (Sat.sub dst (Sat.sum [t, ticks])) (Sat.neg p.mu) p.mu]) true) ∧ Ok w w'
  go_enter Tryz.func114, Tryz.ntmps114
  go_wp2_with (go_at_call 55; refine (satAdd2 _ _ _ _ _ (by simp)).mono ?_; rintro e w' ⟨rfl, rfl⟩)
  go_quiet (first | (go_at_call 108; exact Calls.quiet_of_same ((satSub _ _ _).mono fun _ _ h => ⟨h.1, h.2.symm⟩)) | (go_at_call 110; exact Calls.quiet_of_same ((satNeg _ _).mono fun _ _ h => ⟨h.1, h.2.symm⟩)) | (go_at_call 61; exact Calls.quiet_of_same ((satBound _ _ _ _).mono fun _ _ h => ⟨h.1, h.2.symm⟩)))
  go_wp2_with (go_at_call 55; refine (satAdd2 _ _ _ _ _ (by simp)).mono ?_; rintro e w' ⟨rfl, rfl⟩)
  refine bodyPost_ret (v := clockV (Sat.sum [Sat.sum [t, ticks], Sat.bound (Sat.sub dst (Sat.sum [t, ticks])) (Sat.neg p.mu) p.mu]) true) (by simp [results, Tryz.results114, go_sem]) rfl ⟨rfl, ?_⟩
  exact Ok.alloc (Ok.setCell (Ok.setCell (Ok.drewN (Ok.alloc (Ok.alloc (Ok.alloc (Ok.alloc hok _) _) _) _) _) (show w.heap.size ≤ w.heap.size + 1 + 1 by omega) _) (show w.heap.size ≤ w.heap.size + 1 + 1 by omega) _) _
theorem slewOff (t : Int) (s : Bool) (x : Int) (w : World) : Calls Tryz.prog 112 #[clockV t s, .int .i64 x] w fun e w' => e = .returned (.int .i64 (Sat.abs (Sat.sub t x))) ∧ Ok w w' := by
  have hok := Ok.refl w
  go_enter Tryz.func112, Tryz.ntmps112
  go_wp2_with (first | (go_at_call 108; refine (satSub _ _ _).mono ?_; rintro e w' ⟨rfl, rfl⟩) | (go_at_call 96; refine (satAbs _ _).mono ?_; rintro e w' ⟨rfl, rfl⟩))
  go_ret
  exact ⟨rfl, hok.alloc _⟩
end Go.Proofs.YtmmiboblofopgaaGreat

/- Contracts of layer 12: the document's Step. -/
namespace Go.Proofs.YtmmiboblofopgaaGreat
open Go.RowKit
set_option maxRecDepth 100000
attribute [local go_sem ↓] Go.wp_at_zero Go.wp_at_succ
theorem ref12Step (p : Par) (t ticks dst : Int) (w : World) : Calls Tryz.prog 89 #[parV p, .int .i64 t, .int .i64 ticks, .int .i64 dst] w fun e w' => e = .returned (.int .i64 (Slew.step p t ticks dst)) ∧ Ok w w' := by
  have hok := Ok.refl w
  have hb := Sat.clip_bd p.mu
  have hn : IntKind.i64.wrap (-Sat.clip p.mu) = -Sat.clip p.mu := IntWalk.i64_in _ ⟨by omega, by omega⟩
  unfold Slew.step
  obtain ⟨b, hbe⟩ : ∃ b, Sat.sum [t, ticks] = b := ⟨_, rfl⟩
  have KB := Lib.hid fun (A : Option Addr) w (h : IntsAt w A [t, ticks]) => refAdd A [t, ticks] 2 w h (by simp)
  rw [hbe] at KB ⊢
  obtain ⟨q, hqe⟩ : ∃ b, Sat.clip p.mu = b := ⟨_, rfl⟩
  have KC := Lib.hid fun w => refClip p.mu w
  rw [hqe] at KC hb hn ⊢
  obtain ⟨y, hye⟩ : ∃ x, Sat.bound (Sat.sub dst b) (-q) p.mu = x := ⟨_, rfl⟩
  have KO := Lib.hid fun w => refBound (Sat.sub dst b) (-q) p.mu w
  rw [hye] at KO ⊢
  have KY := Lib.hid fun (A : Option Addr) w (h : IntsAt w A [b, y]) => refAdd A [b, y] 2 w h (by simp)
  obtain ⟨z, hz⟩ : ∃ x, Sat.sum [b, y] = x := ⟨_, rfl⟩
  rw [hz] at KY ⊢
  clear hbe hqe hye hz
  go_enter Tryz.func89, Tryz.ntmps89
  go_wp2_with (go_at_call 30; refine (KB.out _ _ ?_).mono ?_; (focus ((with_reducible refine ints_new _ _ _ _ ?_ ?_) <;> (simp; done))); rintro e w' ⟨rfl, rfl⟩)
  go_quiet (first | (go_at_call 80; exact Calls.quiet_of_same ((refSub _ _ _).mono fun _ _ h => ⟨h.1, h.2.symm⟩)) | (go_at_call 28; exact Calls.quiet_of_same ((KC.out _).mono fun _ _ h => ⟨h.1, h.2.symm⟩)) | (go_at_call 29; exact Calls.quiet_of_same ((KO.out _).mono fun _ _ h => ⟨h.1, h.2.symm⟩)))
  go_wp2_with (go_at_call 30; refine (KY.out _ _ ?_).mono ?_; (focus ((with_reducible refine ints_new _ _ _ _ ?_ ?_) <;> (simp; done))); rintro e w' ⟨rfl, rfl⟩)
  go_ret
  exact ⟨rfl, ((((hok.alloc _).alloc _).drewN _).alloc _)⟩
end Go.Proofs.YtmmiboblofopgaaGreat
