/- Several texts of mine in one: C23jm, B10, C22f, C19a, C19b. -/
import Derived.Test.YtmokofblmkeloaaGreatDoorP26
import Derived.Test.YtmokofblmkeloaaGreatDoorB04
import Derived.Test.YtmokofblmkeloaaGreatDoorB06
import Derived.Test.YtmokofblmkeloaaGreatDoorB03
import Derived.Test.YtmokofblmkeloaaGreatDoorMA
import Derived.Test.YtmokofblmkeloaaGreatDoorB09
import Derived.Test.YtmokofblmkeloaaGreatDoorC22e
import Derived.Test.YtmokofblmkeloaaGreatDoorP35
import Derived.Test.YtmokofblmkeloaaGreatDoorB23
import Derived.Test.YtmokofblmkeloaaGreatDoorB12
import Derived.Test.YtmokofblmkeloaaGreatDoorP36
import Derived.Test.YtmokofblmkeloaaGreatDoorB15
import Derived.Test.YtmokofblmkeloaaGreatDoorP30
import Derived.Test.YtmokofblmkeloaaGreatDoorW16
import Derived.Test.YtmokofblmkeloaaGreatDoorB00
import Derived.Test.YtmokofblmkeloaaGreatDoorShelf
import Derived.Test.YtmokofblmkeloaaGreatDoorB01
import Derived.Deep.CutRange
import Derived.Lib.AppendIntMem
import Derived.Lib.ItoaLen
import Derived.Lib.OthersKept
import Derived.Lib.BufferRead
import Derived.Laws.IdiomStrings
import Derived.Laws.AppendOwn
import Derived.Deep.QuietTactic
import Derived.BigQuiet
import Derived.Deep.RegionHeld3
import Derived.Deep.DrawnRows
import Derived.Deep.RegionWith
namespace Go.Proofs.YtmokofblmkeloaaGreatDoor
open Go.RowKit
set_option linter.unusedVariables false
set_option maxRecDepth 100000
def ha23 : HA := ⟨⟨2, 17, 0, 0, 0, 1, true, false, 0, 0, 0, 0, 0, []⟩, none, 0, 900⟩
def in23 (B : Option Addr) (c : Nat) : In := ⟨1000, B, [ha23], c, false, 0, false, none, [], 0⟩
theorem san23 : Health.sane par23 zeroSta = zeroSta := by decide +kernel
theorem kn23a : (Nod.known HA.hd 20 Mem.nobody [ha23]).1 = [] := by decide +kernel
theorem st23a : (Nod.say par23 20 (Nod.state par23 zeroSta 1000 [])).hops = 5 := by decide +kernel
theorem st23a2 : (Nod.say par23 20 (Nod.state par23 zeroSta 1000 [])).good = false := by decide +kernel
theorem st23a3 : (Health.stamped (Nod.state par23 zeroSta 1000 [])).table.length = 0 := by decide +kernel
theorem kn23b : ((Nod.known HA.hd 20 (Mem.tick 2 (Nod.known HA.hd 20 Mem.nobody [ha23]).2) [ha23]).1).map HA.hd = [ha23.hd] := by kernel_rfl
theorem st23b : (Nod.say par23 20 (Nod.state par23 (Health.stamped (Nod.state par23 zeroSta 1000 [])) 1000 [ha23.hd])).hops = 2 := by decide +kernel
theorem st23b2 : (Nod.say par23 20 (Nod.state par23 (Health.stamped (Nod.state par23 zeroSta 1000 [])) 1000 [ha23.hd])).good = true := by decide +kernel
theorem nr23 : (Mem.nums (Mem.tick 2 (Nod.known HA.hd 20 (Mem.tick 2 (Nod.known HA.hd 20 Mem.nobody [ha23]).2) [ha23]).2)).length = 1 := by decide +kernel
end Go.Proofs.YtmokofblmkeloaaGreatDoor
/- Contracts of layer 11: the program's calls. -/
namespace Go.Proofs.YtmokofblmkeloaaGreatDoor
open Go.RowKit
set_option linter.unusedVariables false
set_option maxRecDepth 100000
attribute [local go_sem ↓] Go.wp_at_zero Go.wp_at_succ
/-- What each operation leaves. -/
def VMcH (B S : Nat) (p : Par) (a b m u x y : Int) (w : World) (v : Value) : Nat → Prop
  | 0 => v = spanV a b
  | 1 => v = .int .i64 m
  | 2 => v = .pointer (some ⟨B, 4, none⟩)
  | 3 => v = .int .i64 p.rho
  | 4 => v = .int .i64 u
  | 5 => v = .int .i64 m
  | 6 => v = .pointer (some ⟨B, 4, none⟩)
  | 7 => v = .int .i64 p.rho
  | 8 => ∃ n : Addr, v = .slice (some n) 2 2 ∧ IntsAt w (some n) [m, p.rho]
  | 9 => v = .int .i64 (Sat.sum [m, p.rho])
  | 10 => v = spanV x y
  | _ => v = .bool true
/-- It stays so. -/
def VCcH (B S : Nat) (p : Par) (a b m u x y : Int) (i : Nat) (v : Value) (w : World) : Prop := ∀ w', Ok w w' → VMcH B S p a b m u x y w' v i
set_option maxHeartbeats 1600000 in
theorem carryHold (p : Par) (a b m : Int) (w : World) : Calls Tryz.prog 127 #[parV p, spanV a b, .int .i64 m] w fun e w' => e = .returned (spanV (Carry.hold p (a, b) m).1 (Carry.hold p (a, b) m).2) ∧ Ok w w' := by
  have KU := Lib.hid fun w => satSub m p.rho w
  have KS := Lib.hid fun w => spanShift a b (Sat.sub m p.rho) (Sat.sum [m, p.rho]) w
  show Calls _ _ _ _ fun e w' => e = .returned (spanV (Sat.sum [a, Sat.sub m p.rho]) (Sat.sum [b, Sat.sum [m, p.rho]])) ∧ Ok w w'
  obtain ⟨x, hx⟩ : ∃ x, Sat.sum [a, Sat.sub m p.rho] = x := ⟨_, rfl⟩
  obtain ⟨y, hy⟩ : ∃ x, Sat.sum [b, Sat.sum [m, p.rho]] = x := ⟨_, rfl⟩
  rw [hx, hy] at KS ⊢
  clear hx hy
  obtain ⟨u, hu⟩ : ∃ x, Sat.sub m p.rho = x := ⟨_, rfl⟩
  rw [hu] at KU KS
  clear hu
  have hP := ((Own.new w (parCells p) 23 rfl).alloc (.cells #[.int .i64 a, .int .i64 b] 25)).alloc (.cells #[.int .i64 0, .int .i64 0] 25)
  have hS := (Slab.new (w.alloc (.cells (parCells p) 23)) a b 25 (g := w.heap.size + 1) (by simp)).alloc (.cells #[.int .i64 0, .int .i64 0] 25)
  have hZ := Slab.new ((w.alloc (.cells (parCells p) 23)).alloc (.cells #[.int .i64 a, .int .i64 b] 25)) 0 0 25 (g := w.heap.size + 1 + 1) (by simp)
  have hok := (((Ok.refl w).alloc (.cells (parCells p) 23)).alloc (.cells #[.int .i64 a, .int .i64 b] 25)).alloc (.cells #[.int .i64 0, .int .i64 0] 25)
  have hrw : w.heap.size ≤ w.heap.size + 1 + 1 := by omega
  go_enter Tryz.func127, Tryz.ntmps127
  go_upto_region 1 with fail
  generalize ((w.alloc (.cells (parCells p) 23)).alloc (.cells #[.int .i64 a, .int .i64 b] 25)).alloc (.cells #[.int .i64 0, .int .i64 0] 25) = W at hP hS hZ hok ⊢
  obtain ⟨r, hr⟩ : ∃ r, w.heap.size + 1 + 1 = r := ⟨_, rfl⟩
  rw [hr] at hZ hrw ⊢
  clear hr
  obtain ⟨S, hSe⟩ : ∃ r, w.heap.size + 1 = r := ⟨_, rfl⟩
  rw [hSe] at hS ⊢
  clear hSe
  obtain ⟨B, hB⟩ : ∃ r, w.heap.size = r := ⟨_, rfl⟩
  have HBw := Lib.hid hB
  rw [hB] at hP ⊢
  clear hB
  have HP := Lib.hid fun W' (k : Ok W.drew W') => hP.drew.next k
  have HS := Lib.hid fun W' (k : Ok W.drew W') => hS.drew.next k
  have HR := Lib.hid fun W' (k : Ok W.drew W') => hZ.drew.next k
  clear hP hS hZ
  refine wp_region_facts_last (by kernel_rfl) 18 rfl (VCcH B S p a b m u x y) Ok _ rfl _ 11 rfl rfl rfl rfl (by kernel_rfl) (by kernel_rfl) (by kernel_rfl) (fun i v w w' h k w'' k' => h w'' (k.trans k')) (fun a b c => Ok.trans) (Ok.refl _) [some 7, some 8, some 9, some 10, some 11, some 12, some 13, some 14, some 15, some 16, some 17] rfl ⟨?_, ?_, ?_, ?_, ?_, ?_, ?_, ?_, ?_, ?_, ?_, trivial⟩ ?_
  · intro a' w' hF hR
    have e4 : a'.tmps[4]? = some (.pointer (some ⟨S, 0, none⟩)) := hF.slot 4 (by kernel_rfl) rfl
    have c0 := (HS.out _ hR).c0
    have c1 := (HS.out _ hR).c1
    refine wpOp_run (v := spanV a b) rfl rfl ?_ (fun _ _ => rfl) (Ok.refl _)
    clear hF
    go_simp
  · intro a' w' hF hR
    have e2 : a'.tmps[2]? = some (.int .i64 m) := hF.slot 2 (by kernel_rfl) rfl
    refine wpOp_run (v := .int .i64 m) rfl rfl ?_ (fun _ _ => rfl) (Ok.refl _)
    clear hF
    go_simp
  · intro a' w' hF hR
    have e3 : a'.tmps[3]? = some (.pointer (some ⟨B, 0, none⟩)) := hF.slot 3 (by kernel_rfl) rfl
    refine wpOp_run (v := .pointer (some ⟨B, 4, none⟩)) rfl rfl ?_ (fun _ _ => rfl) (Ok.refl _)
    clear hF
    go_simp
  · intro a' w' hF hR
    obtain ⟨v2, hv2, e9⟩ := hF.get 2 9 (by kernel_rfl) (by kernel_rfl)
    obtain rfl : v2 = _ := hv2 _ (Ok.refl _)
    obtain ⟨c0, c1, c2, c3, c4, c5, c6, c7, c8, c9, c10, c11⟩ := (HP.out _ hR).pars
    refine wpOp_run (v := .int .i64 p.rho) rfl rfl ?_ (fun _ _ => rfl) (Ok.refl _)
    clear hF
    go_simp
  · intro a' w' hF hR
    obtain ⟨v1, hv1, e8⟩ := hF.get 1 8 (by kernel_rfl) (by kernel_rfl)
    obtain rfl : v1 = _ := hv1 _ (Ok.refl _)
    obtain ⟨v3, hv3, e10⟩ := hF.get 3 10 (by kernel_rfl) (by kernel_rfl)
    obtain rfl : v3 = _ := hv3 _ (Ok.refl _)
    clear hF
    refine wpOp_call (f := 148) (args := #[.int .i64 m, .int .i64 p.rho]) rfl rfl ?_ ((KU.out _).mono ?_)
    · go_simp
    · rintro e w2 ⟨rfl, rfl⟩; exact ⟨_, rfl, fun _ _ => rfl, Ok.refl _⟩
  · intro a' w' hF hR
    have e2 : a'.tmps[2]? = some (.int .i64 m) := hF.slot 2 (by kernel_rfl) rfl
    refine wpOp_run (v := .int .i64 m) rfl rfl ?_ (fun _ _ => rfl) (Ok.refl _)
    clear hF
    go_simp
  · intro a' w' hF hR
    have e3 : a'.tmps[3]? = some (.pointer (some ⟨B, 0, none⟩)) := hF.slot 3 (by kernel_rfl) rfl
    refine wpOp_run (v := .pointer (some ⟨B, 4, none⟩)) rfl rfl ?_ (fun _ _ => rfl) (Ok.refl _)
    clear hF
    go_simp
  · intro a' w' hF hR
    obtain ⟨v6, hv6, e13⟩ := hF.get 6 13 (by kernel_rfl) (by kernel_rfl)
    obtain rfl : v6 = _ := hv6 _ (Ok.refl _)
    obtain ⟨c0, c1, c2, c3, c4, c5, c6, c7, c8, c9, c10, c11⟩ := (HP.out _ hR).pars
    refine wpOp_run (v := .int .i64 p.rho) rfl rfl ?_ (fun _ _ => rfl) (Ok.refl _)
    clear hF
    go_simp
  · intro a' w' hF hR
    obtain ⟨v5, hv5, e12⟩ := hF.get 5 12 (by kernel_rfl) (by kernel_rfl)
    obtain rfl : v5 = _ := hv5 _ (Ok.refl _)
    obtain ⟨v7, hv7, e14⟩ := hF.get 7 14 (by kernel_rfl) (by kernel_rfl)
    obtain rfl : v7 = _ := hv7 _ (Ok.refl _)
    refine wpOp_run (v := .slice (some ⟨w'.heap.size, 0, none⟩) 2 2) (w' := w'.alloc (.cells #[.int .i64 m, .int .i64 p.rho] 3)) rfl rfl ?_ (fun w'' k => ⟨_, rfl, (ints_new _ [m, p.rho] _ _ rfl rfl).below k⟩) ((Ok.refl _).alloc _)
    clear hF
    go_simp
  · intro a' w' hF hR
    obtain ⟨v8, hv8, e15⟩ := hF.get 8 15 (by kernel_rfl) (by kernel_rfl)
    obtain ⟨n8, rfl, hp8⟩ := hv8 _ (Ok.refl _)
    clear hF
    refine wpOp_call (f := 49) (args := #[.slice (some n8) 2 2]) rfl rfl ?_ ((satAdd (some n8) [m, p.rho] 2 _ hp8 (by simp)).mono ?_)
    · go_simp
    · rintro e w2 ⟨rfl, rfl⟩; exact ⟨_, rfl, fun _ _ => rfl, Ok.refl _⟩
  · intro a' w' hF hR
    obtain ⟨v0, hv0, e7⟩ := hF.get 0 7 (by kernel_rfl) (by kernel_rfl)
    obtain rfl : v0 = _ := hv0 _ (Ok.refl _)
    obtain ⟨v4, hv4, e11⟩ := hF.get 4 11 (by kernel_rfl) (by kernel_rfl)
    obtain rfl : v4 = _ := hv4 _ (Ok.refl _)
    obtain ⟨v9, hv9, e16⟩ := hF.get 9 16 (by kernel_rfl) (by kernel_rfl)
    obtain rfl : v9 = _ := hv9 _ (Ok.refl _)
    clear hF
    refine wpOp_call (f := 154) (args := #[spanV a b, .int .i64 u, .int .i64 (Sat.sum [m, p.rho])]) rfl rfl ?_ ((KS.out _).mono ?_)
    · go_simp
    · rintro e w2 ⟨rfl, hb2⟩; exact ⟨_, rfl, fun _ _ => rfl, hb2⟩
  intro vs W' hvs hR
  have e4 : vs 10 = spanV x y := hvs 10 (by decide) _ (Ok.refl _)
  have hSl := HR.out _ hR
  have f0 := hSl.f0
  have f1 := hSl.f1
  have c0 := hSl.c0
  have c1 := hSl.c1
  clear hvs HR HP HS KS KU
  simp only [putFrom, e4]
  simp only [Act.put, List.setIfInBounds_toArray, List.set_cons_zero, List.set_cons_succ]
  refine wpOp_store (w' := (W'.setCell ⟨r, 0, none⟩ (.int .i64 x)).setCell ⟨r, 1, none⟩ (.int .i64 y)) rfl rfl rfl ?_ ?_
  · go_simp
  have hF := hSl.set x y
  have hok2 := ((hok.trans ((Ok.refl W).drew.trans hR)).setCell (p := ⟨r, 0, none⟩) hrw (.int .i64 x)).setCell (p := ⟨r, 1, none⟩) hrw (.int .i64 y)
  clear c0 c1 f0 f1 hSl
  generalize (W'.setCell ⟨r, 0, none⟩ (.int .i64 x)).setCell ⟨r, 1, none⟩ (.int .i64 y) = W2 at hF hok2 ⊢
  have q0 := hF.c0
  have q1 := hF.c1
  go_wp2
  exact bodyPost_ret (v := spanV x y) (by simp [results, Tryz.results127, go_sem, q0, q1]) rfl ⟨rfl, hok2⟩
/-- What each operation leaves. -/
def VMcW (B S : Nat) (p : Par) (a b m u q x y : Int) (w : World) (v : Value) : Nat → Prop
  | 0 => v = spanV a b
  | 1 => v = .int .i64 u
  | 2 => v = .int .i64 m
  | 3 => v = .pointer (some ⟨B, 4, none⟩)
  | 4 => v = .int .i64 p.rho
  | 5 => v = .int .i64 q
  | 6 => ∃ n : Addr, v = .slice (some n) 3 3 ∧ IntsAt w (some n) [u, m, q]
  | 7 => v = .int .i64 (Sat.sum [u, m, q])
  | 8 => v = .pointer (some ⟨B, 5, none⟩)
  | 9 => v = .int .i64 p.delay
  | 10 => v = .int .i64 m
  | 11 => v = .pointer (some ⟨B, 4, none⟩)
  | 12 => v = .int .i64 p.rho
  | 13 => ∃ n : Addr, v = .slice (some n) 3 3 ∧ IntsAt w (some n) [p.delay, m, p.rho]
  | 14 => v = .int .i64 (Sat.sum [p.delay, m, p.rho])
  | 15 => v = spanV x y
  | _ => v = .bool true
/-- It stays so. -/
def VCcW (B S : Nat) (p : Par) (a b m u q x y : Int) (i : Nat) (v : Value) (w : World) : Prop := ∀ w', Ok w w' → VMcW B S p a b m u q x y w' v i
set_option maxHeartbeats 1600000 in
theorem carryWay (p : Par) (a b m : Int) (w : World) : Calls Tryz.prog 121 #[parV p, spanV a b, .int .i64 m] w fun e w' => e = .returned (spanV (Carry.way p (a, b) m).1 (Carry.way p (a, b) m).2) ∧ Ok w w' := by
  have KU := Lib.hid fun w => satSub p.delay p.jit w
  have KS := Lib.hid fun w => spanShift a b (Sat.sum [Sat.sub p.delay p.jit, m, -Sat.clip p.rho]) (Sat.sum [p.delay, m, p.rho]) w
  have KN := Lib.hid fun w => satNeg p.rho w
  rw [show Sat.neg p.rho = -Sat.clip p.rho from rfl] at KN
  show Calls _ _ _ _ fun e w' => e = .returned (spanV (Sat.sum [a, Sat.sum [Sat.sub p.delay p.jit, m, -Sat.clip p.rho]]) (Sat.sum [b, Sat.sum [p.delay, m, p.rho]])) ∧ Ok w w'
  obtain ⟨x, hx⟩ : ∃ x, Sat.sum [a, Sat.sum [Sat.sub p.delay p.jit, m, -Sat.clip p.rho]] = x := ⟨_, rfl⟩
  obtain ⟨y, hy⟩ : ∃ x, Sat.sum [b, Sat.sum [p.delay, m, p.rho]] = x := ⟨_, rfl⟩
  rw [hx, hy] at KS ⊢
  clear hx hy
  obtain ⟨u, hu⟩ : ∃ x, Sat.sub p.delay p.jit = x := ⟨_, rfl⟩
  rw [hu] at KU KS
  clear hu
  obtain ⟨q, hv⟩ : ∃ x, -Sat.clip p.rho = x := ⟨_, rfl⟩
  rw [hv] at KN KS
  clear hv
  have hP := ((Own.new w (parCells p) 23 rfl).alloc (.cells #[.int .i64 a, .int .i64 b] 25)).alloc (.cells #[.int .i64 0, .int .i64 0] 25)
  have hS := (Slab.new (w.alloc (.cells (parCells p) 23)) a b 25 (g := w.heap.size + 1) (by simp)).alloc (.cells #[.int .i64 0, .int .i64 0] 25)
  have hZ := Slab.new ((w.alloc (.cells (parCells p) 23)).alloc (.cells #[.int .i64 a, .int .i64 b] 25)) 0 0 25 (g := w.heap.size + 1 + 1) (by simp)
  have hok := (((Ok.refl w).alloc (.cells (parCells p) 23)).alloc (.cells #[.int .i64 a, .int .i64 b] 25)).alloc (.cells #[.int .i64 0, .int .i64 0] 25)
  have hrw : w.heap.size ≤ w.heap.size + 1 + 1 := by omega
  go_enter Tryz.func121, Tryz.ntmps121
  go_upto_region 2 with (go_at_call 148; first | ((with_reducible refine (KU.out _).mono ?_); rintro e w' ⟨rfl, rfl⟩))
  clear KU
  generalize ((w.alloc (.cells (parCells p) 23)).alloc (.cells #[.int .i64 a, .int .i64 b] 25)).alloc (.cells #[.int .i64 0, .int .i64 0] 25) = W at hP hS hZ hok ⊢
  obtain ⟨r, hr⟩ : ∃ r, w.heap.size + 1 + 1 = r := ⟨_, rfl⟩
  rw [hr] at hZ hrw ⊢
  clear hr
  obtain ⟨S, hSe⟩ : ∃ r, w.heap.size + 1 = r := ⟨_, rfl⟩
  rw [hSe] at hS ⊢
  clear hSe
  obtain ⟨B, hB⟩ : ∃ r, w.heap.size = r := ⟨_, rfl⟩
  have HBw := Lib.hid hB
  rw [hB] at hP ⊢
  clear hB
  have HP := Lib.hid fun W' (k : Ok W.drew W') => hP.drew.next k
  have HS := Lib.hid fun W' (k : Ok W.drew W') => hS.drew.next k
  have HR := Lib.hid fun W' (k : Ok W.drew W') => hZ.drew.next k
  clear hP hS hZ
  refine wp_region_facts_last (by kernel_rfl) 29 rfl (VCcW B S p a b m u q x y) Ok _ rfl _ 16 rfl rfl rfl rfl (by kernel_rfl) (by kernel_rfl) (by kernel_rfl) (fun i v w w' h k w'' k' => h w'' (k.trans k')) (fun a b c => Ok.trans) (Ok.refl _) [some 13, some 14, some 15, some 16, some 17, some 18, some 19, some 20, some 21, some 22, some 23, some 24, some 25, some 26, some 27, some 28] rfl ⟨?_, ?_, ?_, ?_, ?_, ?_, ?_, ?_, ?_, ?_, ?_, ?_, ?_, ?_, ?_, ?_, trivial⟩ ?_
  · intro a' w' hF hR
    have e4 : a'.tmps[4]? = some (.pointer (some ⟨S, 0, none⟩)) := hF.slot 4 (by kernel_rfl) rfl
    have c0 := (HS.out _ hR).c0
    have c1 := (HS.out _ hR).c1
    refine wpOp_run (v := spanV a b) rfl rfl ?_ (fun _ _ => rfl) (Ok.refl _)
    clear hF
    go_simp
  · intro a' w' hF hR
    have e7 : a'.tmps[7]? = some (.int .i64 u) := hF.slot 7 (by kernel_rfl) rfl
    refine wpOp_run (v := .int .i64 u) rfl rfl ?_ (fun _ _ => rfl) (Ok.refl _)
    clear hF
    go_simp
  · intro a' w' hF hR
    have e2 : a'.tmps[2]? = some (.int .i64 m) := hF.slot 2 (by kernel_rfl) rfl
    refine wpOp_run (v := .int .i64 m) rfl rfl ?_ (fun _ _ => rfl) (Ok.refl _)
    clear hF
    go_simp
  · intro a' w' hF hR
    have e3 : a'.tmps[3]? = some (.pointer (some ⟨B, 0, none⟩)) := hF.slot 3 (by kernel_rfl) rfl
    refine wpOp_run (v := .pointer (some ⟨B, 4, none⟩)) rfl rfl ?_ (fun _ _ => rfl) (Ok.refl _)
    clear hF
    go_simp
  · intro a' w' hF hR
    obtain ⟨v3, hv3, e16⟩ := hF.get 3 16 (by kernel_rfl) (by kernel_rfl)
    obtain rfl : v3 = _ := hv3 _ (Ok.refl _)
    obtain ⟨c0, c1, c2, c3, c4, c5, c6, c7, c8, c9, c10, c11⟩ := (HP.out _ hR).pars
    refine wpOp_run (v := .int .i64 p.rho) rfl rfl ?_ (fun _ _ => rfl) (Ok.refl _)
    clear hF
    go_simp
  · intro a' w' hF hR
    obtain ⟨v4, hv4, e17⟩ := hF.get 4 17 (by kernel_rfl) (by kernel_rfl)
    obtain rfl : v4 = _ := hv4 _ (Ok.refl _)
    clear hF
    refine wpOp_call (f := 143) (args := #[.int .i64 p.rho]) rfl rfl ?_ ((KN.out _).mono ?_)
    · go_simp
    · rintro e w2 ⟨rfl, rfl⟩; exact ⟨_, rfl, fun _ _ => rfl, Ok.refl _⟩
  · intro a' w' hF hR
    obtain ⟨v1, hv1, e14⟩ := hF.get 1 14 (by kernel_rfl) (by kernel_rfl)
    obtain rfl : v1 = _ := hv1 _ (Ok.refl _)
    obtain ⟨v2, hv2, e15⟩ := hF.get 2 15 (by kernel_rfl) (by kernel_rfl)
    obtain rfl : v2 = _ := hv2 _ (Ok.refl _)
    obtain ⟨v5, hv5, e18⟩ := hF.get 5 18 (by kernel_rfl) (by kernel_rfl)
    obtain rfl : v5 = _ := hv5 _ (Ok.refl _)
    refine wpOp_run (v := .slice (some ⟨w'.heap.size, 0, none⟩) 3 3) (w' := w'.alloc (.cells #[.int .i64 u, .int .i64 m, .int .i64 q] 3)) rfl rfl ?_ (fun w'' k => ⟨_, rfl, (ints_new _ [u, m, q] _ _ rfl rfl).below k⟩) ((Ok.refl _).alloc _)
    clear hF
    go_simp
  · intro a' w' hF hR
    obtain ⟨v6, hv6, e19⟩ := hF.get 6 19 (by kernel_rfl) (by kernel_rfl)
    obtain ⟨n6, rfl, hp6⟩ := hv6 _ (Ok.refl _)
    clear hF
    refine wpOp_call (f := 49) (args := #[.slice (some n6) 3 3]) rfl rfl ?_ ((satAdd (some n6) [u, m, q] 3 _ hp6 (by simp)).mono ?_)
    · go_simp
    · rintro e w2 ⟨rfl, rfl⟩; exact ⟨_, rfl, fun _ _ => rfl, Ok.refl _⟩
  · intro a' w' hF hR
    have e3 : a'.tmps[3]? = some (.pointer (some ⟨B, 0, none⟩)) := hF.slot 3 (by kernel_rfl) rfl
    refine wpOp_run (v := .pointer (some ⟨B, 5, none⟩)) rfl rfl ?_ (fun _ _ => rfl) (Ok.refl _)
    clear hF
    go_simp
  · intro a' w' hF hR
    obtain ⟨v8, hv8, e21⟩ := hF.get 8 21 (by kernel_rfl) (by kernel_rfl)
    obtain rfl : v8 = _ := hv8 _ (Ok.refl _)
    obtain ⟨c0, c1, c2, c3, c4, c5, c6, c7, c8, c9, c10, c11⟩ := (HP.out _ hR).pars
    refine wpOp_run (v := .int .i64 p.delay) rfl rfl ?_ (fun _ _ => rfl) (Ok.refl _)
    clear hF
    go_simp
  · intro a' w' hF hR
    have e2 : a'.tmps[2]? = some (.int .i64 m) := hF.slot 2 (by kernel_rfl) rfl
    refine wpOp_run (v := .int .i64 m) rfl rfl ?_ (fun _ _ => rfl) (Ok.refl _)
    clear hF
    go_simp
  · intro a' w' hF hR
    have e3 : a'.tmps[3]? = some (.pointer (some ⟨B, 0, none⟩)) := hF.slot 3 (by kernel_rfl) rfl
    refine wpOp_run (v := .pointer (some ⟨B, 4, none⟩)) rfl rfl ?_ (fun _ _ => rfl) (Ok.refl _)
    clear hF
    go_simp
  · intro a' w' hF hR
    obtain ⟨v11, hv11, e24⟩ := hF.get 11 24 (by kernel_rfl) (by kernel_rfl)
    obtain rfl : v11 = _ := hv11 _ (Ok.refl _)
    obtain ⟨c0, c1, c2, c3, c4, c5, c6, c7, c8, c9, c10, c11⟩ := (HP.out _ hR).pars
    refine wpOp_run (v := .int .i64 p.rho) rfl rfl ?_ (fun _ _ => rfl) (Ok.refl _)
    clear hF
    go_simp
  · intro a' w' hF hR
    obtain ⟨v9, hv9, e22⟩ := hF.get 9 22 (by kernel_rfl) (by kernel_rfl)
    obtain rfl : v9 = _ := hv9 _ (Ok.refl _)
    obtain ⟨v10, hv10, e23⟩ := hF.get 10 23 (by kernel_rfl) (by kernel_rfl)
    obtain rfl : v10 = _ := hv10 _ (Ok.refl _)
    obtain ⟨v12, hv12, e25⟩ := hF.get 12 25 (by kernel_rfl) (by kernel_rfl)
    obtain rfl : v12 = _ := hv12 _ (Ok.refl _)
    refine wpOp_run (v := .slice (some ⟨w'.heap.size, 0, none⟩) 3 3) (w' := w'.alloc (.cells #[.int .i64 p.delay, .int .i64 m, .int .i64 p.rho] 3)) rfl rfl ?_ (fun w'' k => ⟨_, rfl, (ints_new _ [p.delay, m, p.rho] _ _ rfl rfl).below k⟩) ((Ok.refl _).alloc _)
    clear hF
    go_simp
  · intro a' w' hF hR
    obtain ⟨v13, hv13, e26⟩ := hF.get 13 26 (by kernel_rfl) (by kernel_rfl)
    obtain ⟨n13, rfl, hp13⟩ := hv13 _ (Ok.refl _)
    clear hF
    refine wpOp_call (f := 49) (args := #[.slice (some n13) 3 3]) rfl rfl ?_ ((satAdd (some n13) [p.delay, m, p.rho] 3 _ hp13 (by simp)).mono ?_)
    · go_simp
    · rintro e w2 ⟨rfl, rfl⟩; exact ⟨_, rfl, fun _ _ => rfl, Ok.refl _⟩
  · intro a' w' hF hR
    obtain ⟨v0, hv0, e13⟩ := hF.get 0 13 (by kernel_rfl) (by kernel_rfl)
    obtain rfl : v0 = _ := hv0 _ (Ok.refl _)
    obtain ⟨v7, hv7, e20⟩ := hF.get 7 20 (by kernel_rfl) (by kernel_rfl)
    obtain rfl : v7 = _ := hv7 _ (Ok.refl _)
    obtain ⟨v14, hv14, e27⟩ := hF.get 14 27 (by kernel_rfl) (by kernel_rfl)
    obtain rfl : v14 = _ := hv14 _ (Ok.refl _)
    clear hF
    refine wpOp_call (f := 154) (args := #[spanV a b, .int .i64 (Sat.sum [u, m, q]), .int .i64 (Sat.sum [p.delay, m, p.rho])]) rfl rfl ?_ ((KS.out _).mono ?_)
    · go_simp
    · rintro e w2 ⟨rfl, hb2⟩; exact ⟨_, rfl, fun _ _ => rfl, hb2⟩
  intro vs W' hvs hR
  have e4 : vs 15 = spanV x y := hvs 15 (by decide) _ (Ok.refl _)
  have hSl := HR.out _ hR
  have f0 := hSl.f0
  have f1 := hSl.f1
  have c0 := hSl.c0
  have c1 := hSl.c1
  clear hvs HR HP HS KS KN
  simp only [putFrom, e4]
  simp only [Act.put, List.setIfInBounds_toArray, List.set_cons_zero, List.set_cons_succ]
  refine wpOp_store (w' := (W'.setCell ⟨r, 0, none⟩ (.int .i64 x)).setCell ⟨r, 1, none⟩ (.int .i64 y)) rfl rfl rfl ?_ ?_
  · go_simp
  have hF := hSl.set x y
  have hok2 := ((hok.trans ((Ok.refl W).drew.trans hR)).setCell (p := ⟨r, 0, none⟩) hrw (.int .i64 x)).setCell (p := ⟨r, 1, none⟩) hrw (.int .i64 y)
  clear c0 c1 f0 f1 hSl
  generalize (W'.setCell ⟨r, 0, none⟩ (.int .i64 x)).setCell ⟨r, 1, none⟩ (.int .i64 y) = W2 at hF hok2 ⊢
  have q0 := hF.c0
  have q1 := hF.c1
  go_wp2
  exact bodyPost_ret (v := spanV x y) (by simp [results, Tryz.results121, go_sem, q0, q1]) rfl ⟨rfl, hok2⟩
end Go.Proofs.YtmokofblmkeloaaGreatDoor
namespace Go.Proofs.YtmokofblmkeloaaGreatDoor
open Go.RowKit
set_option linter.unusedVariables false
set_option maxRecDepth 100000
attribute [local go_sem ↓] Go.wp_at_zero Go.wp_at_succ
theorem Outs.heards {K : Nat} {w : World} {A : Option Addr} {c : Nat} {o : List HA} (h : Outs K w (.slice A o.length c) o) : HeardsAt w A o := by
  obtain ⟨A2, c2, e, h2⟩ := heards_of_row rfl h.row (fun x hx => ((h.tabs x hx).pairs).1)
  cases e
  exact h2
theorem spanInfo22 : (Tryz.prog.info? 25).map (fun i => (i.zero, i.size, i.bytes)) = some (some (.agg #[.int .i64 0, .int .i64 0]), 2, 16) := by kernel_rfl
theorem exec_append22 {o : Oper} {a : Act} {w w' : World} {s x : Operand} {t : TypeId} {v v1 v2 : Value} (ho : o.op = .call { callee := .builtin .append, args := #[s, x], argTypes := #[t, t] }) (hs : a.eval s = v1) (hx : a.eval x = v2) (hr : (Builtin.append_ #[t, t] o.type #[v1, v2]).run Tryz.prog w = .ok v w') :
    (execOp a.eval o).run Tryz.prog w = .ok (.value v) w' := by
  unfold execOp
  simp only [ho, resolve, invoke, builtin, Sem.run_bind, Sem.run_pure, Result.andThen_ok, List.map_toArray, List.map_cons, List.map_nil, hs, hx, hr]
/-- The spans that are told, in a row of one's own. -/
def WaysRow (K : Nat) (w : World) (v : Value) (l : List (Int × Int)) : Prop := w.ownsRow K 25 2 v l.length (cellsOfPairs l)
end Go.Proofs.YtmokofblmkeloaaGreatDoor
namespace Go.Proofs.YtmokofblmkeloaaGreatDoor
open Go.RowKit
set_option maxRecDepth 100000
attribute [local go_sem ↓] Go.wp_at_zero Go.wp_at_succ
/-- The table of powers of ten reads as its initialiser lays it. -/
def Pow (w : World) : Prop := Lib.TabIs Tryz.prog w "internal/strconv.uint64pow10" .u64 Lib.pow10Tab
theorem Pow.next {w w' : World} (h : Pow w) (k : Ok w w') : Pow w' := (Lib.tabBelow_of_tabIs h) w' k.below
/-- A text, as a value. -/
def strB (l : List UInt8) : ByteArray := ⟨l.toArray⟩
theorem strB_size (l : List UInt8) : (strB l).size = l.length := by simp [strB, ByteArray.size]
theorem strB_one {a b : List UInt8} (h : strB a = strB b) : a = b := by
  have := congrArg (fun s => s.data.toList) h
  simpa [strB] using this
theorem appendIntOk {w0 w : World} (hok : Ok w0 w) (hT : Pow w0) (n : Nat) (i : Int) (h : -9223372036854775808 ≤ i ∧ i ≤ 9223372036854775807) (sv : Value) (xs : List Value) (hown : w.ownsRow w0.heap.size 5 1 sv n xs) (hlim : n + 21 ≤ 140737488355328) :
    Calls Tryz.prog 187 #[sv, .int .i64 i, .int .i64 10] w fun e w' => ∃ v', e = .returned v' ∧ w'.ownsRow w0.heap.size 5 1 v' (n + (Lib.itoa i).length) (xs ++ Lib.byteCells (Lib.itoa i)) ∧ Ok w0 w' ∧ Lib.OthersKept 5 none w w' :=
  (Tryz.strconv_AppendInt_10 w0.heap.size n i h.1 h.2 sv xs w hown hok.size hlim ((Lib.tabBelow_of_tabIs hT).on hok.below)).mono (by rintro e w' ⟨v', rfl, h1, h2, h3⟩; exact ⟨v', rfl, h1, Below.trans hok h2, h3⟩)
theorem itoa_le (n : Int) (h : -9223372036854775808 ≤ n ∧ n ≤ 9223372036854775807) : (Lib.itoa n).length ≤ 21 := Lib.itoa_length_le n h.1 h.2
/-- A row of one's own lies in a block of its elements' type. -/
theorem row_typed {w : World} {B n k : Nat} {e : TypeId} {v : Value} {xs : List Value} (h : w.ownsRow B e k v n xs) : ∀ g, v.ownBlock = some g → ∃ c fz, w.heap[g]? = some (.cells c e fz) := fun g hg => by
  rcases h.2 with ⟨rfl, _⟩ | ⟨g', cap, cur, rfl, _, hh, _⟩
  · cases hg
  · cases hg; exact ⟨_, _, hh⟩
theorem row_from {w : World} {B n k : Nat} {e : TypeId} {v : Value} {xs : List Value} (h : w.ownsRow B e k v n xs) : ∀ g, v.ownBlock = some g → B ≤ g := fun g hg => by
  rcases h.2 with ⟨rfl, _⟩ | ⟨g', cap, cur, rfl, hb, _⟩
  · cases hg
  · cases hg; exact hb
/-- 'string(b)' of a row of bytes of one's own. -/
theorem row_str {w : World} {B : Nat} {v : Value} {l : List UInt8} {n : Nat} (hn : n = l.length) (h : w.ownsRow B 5 1 v n (Lib.byteCells l)) : Sem.run Tryz.prog (convert 216 9 v) w = .ok (.string (strB l)) w := by
  subst hn
  rcases h.2 with ⟨rfl, hx⟩ | ⟨g, cap, cur, rfl, hb, hh, hnc, r⟩
  · have : l = [] := by simpa [Lib.byteCells] using hx
    subst this
    exact Lib.run_convert_nil_bytes w _ _ _ 0 Tryz.underlying216 Tryz.underlying5 Tryz.underlying9
  · refine run_convert_bytes_back w _ _ _ ⟨g, 0, none⟩ cap l Tryz.underlying216 Tryz.underlying5 Tryz.underlying9 fun j hj => ?_
    have := h.cellAt (g := g) j (by omega)
    rw [Go.WideShapes.add_plain, Nat.zero_add, this]
    simp [Lib.byteCells, hj]
/-- A key's length. -/
theorem key_length {l : List (Int × Int)} (h : ∀ e ∈ l, (-9223372036854775808 ≤ e.1 ∧ e.1 ≤ 9223372036854775807) ∧ -9223372036854775808 ≤ e.2 ∧ e.2 ≤ 9223372036854775807) : (Vote.key l).length ≤ l.length * 44 := by
  induction l with
  | nil => simp [Vote.key]
  | cons e l ih =>
    have h0 := h e List.mem_cons_self
    have h1 := itoa_le e.1 h0.1
    have h2 := itoa_le e.2 h0.2
    have h3 := ih fun x hx => h x (List.mem_cons_of_mem _ hx)
    rw [Vote.key_cons]
    simp only [List.length_append, List.length_cons]
    omega
theorem key_take {l : List (Int × Int)} {k : Nat} (hk : k < l.length) : Vote.key (l.take (k + 1)) = Vote.key (l.take k) ++ (Lib.itoa l[k].1 ++ 58 :: (Lib.itoa l[k].2 ++ [59])) := by
  rw [List.take_succ_eq_append_getElem hk, Vote.key_snoc]
theorem byteInfo : (Tryz.prog.info? 5).map (fun i => (i.zero, i.size, i.bytes)) = some (some (.int .u8 0), 1, 1) := by kernel_rfl
end Go.Proofs.YtmokofblmkeloaaGreatDoor
namespace Go.Proofs.YtmokofblmkeloaaGreatDoor
open Go.RowKit
set_option maxRecDepth 100000
attribute [local go_sem ↓] Go.wp_at_zero Go.wp_at_succ
/-- Blocks that hold no bytes are as they were. -/
theorem kept_cell {W W' : World} {g o : Nat} {cs : Array Value} {e t : TypeId} (hne : t ≠ e) (hb : W.heap[g]? = some (.cells cs t (0, 0))) (k : Lib.OthersKept e none W W') {v : Value} (hv : cs[o]? = some v) : W'.cell? ⟨g, o, none⟩ = some v := by
  have h := k g _ hb (by simp) (fun c fz h => by injection h with _ h2 _; exact hne h2)
  have hO : Own W' g cs := ⟨t, h⟩
  exact hO.cell o hv
theorem kept_lt {W W' : World} {g : Nat} {cs : Array Value} {e t : TypeId} (hne : t ≠ e) (hb : W.heap[g]? = some (.cells cs t (0, 0))) (k : Lib.OthersKept e none W W') : g < W'.heap.size := by
  have h := k g _ hb (by simp) (fun c fz h => by injection h with _ h2 _; exact hne h2)
  exact (Array.getElem?_eq_some_iff.1 h).1
theorem ok_grow19 {w w1 w2 : World} {row : Option Nat} (h : Ok w w1) (hg : w1.grownBy w2 row) (hr : ∀ k, row = some k → w.heap.size ≤ k) : Ok w w2 := Below.grown h hg h.size hr
/-- A byte is put behind a row of one's own. -/
theorem wpList_append_byte {P : Program} {w : World} {ops : Array Oper} {rest : List Oper} {o : Oper} {a : Act} {Q : Exit → Act → World → Prop} (hgd : o.guard = none) (s x : Operand) (t : TypeId)
    (ho : o.op = .call { callee := .builtin .append, args := #[s, x], argTypes := #[t, t] })
    (base : Nat) (e : TypeId) (ht : P.underlying t = some (.slice e)) (hi : (P.info? e).map (fun i => (i.zero, i.size, i.bytes)) = some (some (.int .u8 0), 1, 1))
    (v : Value) (n : Nat) (xs : List Value) (hs : a.eval s = v) (hown : w.ownsRow base e 1 v n xs) (g : Nat) (b : Int) (hx : a.eval x = .slice (some ⟨g, 0, none⟩) 1 1) (hc : w.cell? ⟨g, 0, none⟩ = some (.int .u8 b))
    (h63 : n ≤ 1000000) (hbase : base ≤ w.heap.size)
    (h : ∀ v' w', w'.ownsRow base e 1 v' (n + 1) (xs ++ [.int .u8 b]) → w.grownBy w' v.ownBlock → wpList P ops Q rest (a.put o.dst v') w') : wpList P ops Q (o :: rest) a w := by
  obtain ⟨i, i0, i1, i2, i3⟩ := info_parts hi
  refine wpList_append_own w hgd s x t ho base e i (.int .u8 0) 1 1 ht i0 i1 i2 i3 rfl (by decide) v n xs hs hown ⟨g, 0, none⟩ 1 1 [.int .u8 b] hx rfl (fun j u hj => ?_) (by simp [Value.oneCell']) (by unfold maxLen; omega) (by omega) hbase fun v' w' h1 h2 _ => h v' w' h1 h2
  have : j = 0 := by
    have := (List.getElem?_eq_some_iff.1 hj).1
    simp at this; omega
  subst this
  cases hj
  exact hc
set_option maxHeartbeats 3200000 in
theorem voteKey (A : Option Addr) (l : List (Int × Int)) (cap : Nat) (w : World) (hT : Pow w) (hA : PairsAt w A l) (hl : l.length ≤ 4096) (hb : ∀ e ∈ l, (-9223372036854775808 ≤ e.1 ∧ e.1 ≤ 9223372036854775807) ∧ -9223372036854775808 ≤ e.2 ∧ e.2 ≤ 9223372036854775807) :
    Calls Tryz.prog 157 #[.slice A l.length cap] w fun e w' => e = .returned (.string (strB (Vote.key l))) ∧ Ok w w' := by
  have hok := Ok.refl w
  have H := Lib.hid hA
  have HB := Lib.hid hb
  have HT := Lib.hid hT
  clear hA hb hT
  go_enter Tryz.func157, Tryz.ntmps157
  go_wp2
  go_loopw [3, 8] (fun s i wx => ∃ k : Nat, k ≤ l.length ∧ i = .int .i64 k ∧ wx.ownsRow w.heap.size 5 1 s (Vote.key (l.take k)).length (Lib.byteCells (Vote.key (l.take k))) ∧ Ok w wx) (fun _ i _ => l.length - (intOf i).toNat)
  case atStart => exact ⟨0, Nat.zero_le _, rfl, World.ownsRow_nil _ _ _ _, hok⟩
  case round =>
    obtain ⟨k, hkl, rfl, hrow, hok⟩ := hrel
    by_cases hlt : k < l.length
    · obtain ⟨b, off, hA, hbs, c1, c2⟩ := H.out.below hok k hlt
      subst hA
      have hm := HB.out l[k] (List.getElem_mem _)
      have zs : (Vote.key (l.take k)).length ≤ 200000 := by
        have := key_length (l := l.take k) (fun e he => HB.out e (List.mem_of_mem_take he))
        rw [List.length_take] at this
        omega
      have za := itoa_le _ hm.1
      have zb := itoa_le _ hm.2
      have K1 := Lib.hid fun W (ok : Ok w W) n sv xs h1 h2 => appendIntOk ok HT.out n l[k].1 hm.1 sv xs h1 h2
      have K2 := Lib.hid fun W (ok : Ok w W) n sv xs h1 h2 => appendIntOk ok HT.out n l[k].2 hm.2 sv xs h1 h2
      have HST := Lib.hid (key_take hlt)
      obtain ⟨K, h1⟩ : ∃ s, Vote.key (l.take k) = s := ⟨_, rfl⟩
      obtain ⟨ia, h2⟩ : ∃ s, Lib.itoa l[k].1 = s := ⟨_, rfl⟩
      obtain ⟨ib, h3⟩ : ∃ s, Lib.itoa l[k].2 = s := ⟨_, rfl⟩
      rw [h2] at K1 za
      rw [h3] at K2 zb
      rw [h1, h2, h3] at HST
      rw [h1] at zs hrow
      obtain ⟨x, h4⟩ : ∃ s, l[k].1 = s := ⟨_, rfl⟩
      obtain ⟨y, h5⟩ : ∃ s, l[k].2 = s := ⟨_, rfl⟩
      rw [h4] at K1 c1
      rw [h5] at K2 c2
      clear h1 h2 h3 h4 h5 hm
      go_upto_region 5 with fail
      have hbox : (wr.alloc (.cells #[.int .i64 x, .int .i64 y] 81)).heap[wr.heap.size]? = some (.cells #[.int .i64 x, .int .i64 y] 81 (0, 0)) := (MapKept.heap_alloc wr _).1
      have hrow2 := hrow.alloc (.cells #[.int .i64 x, .int .i64 y] 81)
      have hok2 := hok.alloc (.cells #[.int .i64 x, .int .i64 y] 81)
      generalize wr.alloc (.cells #[.int .i64 x, .int .i64 y] 81) = W2 at hbox hrow2 hok2 ⊢
      generalize wr.heap.size = g at hbox ⊢
      clear hrow hok c1 c2
      have HK := Lib.hid fun W' (k : Lib.OthersKept 5 none W2 W') => (⟨kept_cell (o := 0) (by decide) hbox k rfl, kept_cell (o := 1) (by decide) hbox k rfl, kept_lt (by decide) hbox k⟩ : W'.cell? ⟨g, 0, none⟩ = some (.int .i64 x) ∧ W'.cell? ⟨g, 1, none⟩ = some (.int .i64 y) ∧ g < W'.heap.size)
      have hk := Lib.OthersKept.refl 5 none W2
      obtain ⟨c0, c1, cl⟩ := HK.out _ hk
      clear hbox
      go_wp2_with (first
        | (go_at_call 187; refine (K1.out _ hok2 _ _ _ hrow2 (by omega)).mono ?_; rintro e w3 ⟨v3, rfl, hr3, hok3, hk3⟩; replace hk := hk.trans hk3; obtain ⟨d0, d1, dl⟩ := HK.out _ hk; clear hk3 hrow2 hok2 c0 c1 cl)
        | (go_at_call 187; refine (K2.out _ hok4 _ _ _ hr4 (by omega)).mono ?_; rintro e w5 ⟨v5, rfl, hr5, hok5, hk5⟩; clear hk5 hr4 hok4)
        | (at_builtin; refine wpList_append_byte rfl (.tmp 15) (.tmp 16) 216 rfl w.heap.size 5 Tryz.underlying216 byteInfo v3 _ _ rfl (hr3.alloc _) w3.heap.size 58 rfl (by simp) (by omega) (hok3.alloc _).size ?_; intro v4 w4 hr4 hg4; have hok4 := ok_grow19 (hok3.alloc _) hg4 (row_from hr3); replace hk := (hk.alloc _).grown hg4 (row_typed (hr3.alloc _)); clear hg4 hr3 hok3 d0 d1 dl; obtain ⟨d0, d1, dl⟩ := HK.out _ hk)
        | (at_builtin; refine wpList_append_byte rfl (.tmp 21) (.tmp 22) 216 rfl w.heap.size 5 Tryz.underlying216 byteInfo v5 _ _ rfl (hr5.alloc _) w5.heap.size 59 rfl (by simp) (by omega) (hok5.alloc _).size ?_; intro v6 w6 hr6 hg6; have hok6 := ok_grow19 (hok5.alloc _) hg6 (row_from hr5); clear hg6 hr5 hok5 hk d0 d1 dl))
      go_roundw
      case rel => exact ⟨k + 1, by omega, by go_num, by rw [HST.out, show (K ++ (ia ++ 58 :: (ib ++ [59])) : List UInt8).length = K.length + ia.length + 1 + ib.length + 1 by simp only [List.length_append, List.length_cons, List.length_nil]; omega]; simpa [Lib.byteCells] using hr6, hok6⟩
      case measure => simp [intOf]; omega
    · obtain rfl : k = l.length := by omega
      rw [List.take_length] at hrow
      have hcv := row_str rfl hrow
      go_wp2
      go_ret
      exact ⟨rfl, hok⟩
end Go.Proofs.YtmokofblmkeloaaGreatDoor
