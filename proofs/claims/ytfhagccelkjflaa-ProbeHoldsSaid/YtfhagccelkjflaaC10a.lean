/- Contracts of layer 10: the program's Ahead. -/
import Derived.Test.YtfhagccelkjflaaC03b
import Derived.Test.YtfhagccelkjflaaC04b
import Derived.Test.YtfhagccelkjflaaC01b
import Derived.Test.YtfhagccelkjflaaC01c
import Derived.Test.YtfhagccelkjflaaM24
import Derived.Test.YtfhagccelkjflaaW27
import Derived.Deep.CutRange
namespace Go.Proofs.Ytfhagccelkjflaa
open Go.RowKit
set_option maxRecDepth 100000
attribute [local go_sem ↓] Go.wp_at_zero Go.wp_at_succ
/-- What each operation leaves. -/
def VM17 (a b m x y : Int) (_w : World) (v : Value) : Nat → Prop
  | 0 => v = spanV a b
  | 1 => v = .int .i64 m
  | 2 => v = .int .i64 (-m)
  | 3 => v = .int .i64 m
  | 4 => v = spanV x y
  | _ => v = .bool true
/-- It stays so. -/
def VC17 (a b m x y : Int) (i : Nat) (v : Value) (w : World) : Prop := ∀ w', Ok w w' → VM17 a b m x y w' v i
set_option maxHeartbeats 1600000 in
theorem probeDrifted (p : Par) (a b : Int) (w : World) : Calls Try.prog 17 #[parV p, spanV a b] w fun e w' => e = .returned (spanV (Sat.sum [a, -Sat.mul 2 p.rho]) (Sat.sum [b, Sat.mul 2 p.rho])) ∧ Ok w w' := by
  have hn := Probe.neg_drift p
  have KM := Lib.hid fun w => satMul 2 p.rho w
  obtain ⟨m, hm⟩ : ∃ m, Sat.mul 2 p.rho = m := ⟨_, rfl⟩
  rw [hm] at KM hn ⊢
  have KN := Lib.hid fun w => satNeg m w
  rw [hn] at KN
  have KS := Lib.hid fun w => spanShift a b (-m) m w
  obtain ⟨x, hx⟩ : ∃ x, Sat.sum [a, -m] = x := ⟨_, rfl⟩
  obtain ⟨y, hy⟩ : ∃ x, Sat.sum [b, m] = x := ⟨_, rfl⟩
  rw [hx, hy] at KS ⊢
  clear hm hn hx hy
  go_enter Try.func17, Try.ntmps17
  go_upto_region 2 with ((go_at_call 33; refine (KM.out _).mono ?_; rintro e w' ⟨rfl, rfl⟩))
  clear KM
  have hO := Slab.new (w.alloc (.cells (parCells p) 23)) a b 28 (g := w.heap.size + 1) (by simp)
  have hZ := Slab.new ((w.alloc (.cells (parCells p) 23)).alloc (.cells #[.int .i64 a, .int .i64 b] 28)) 0 0 28 (g := w.heap.size + 1 + 1) (by simp)
  have hok := (((Ok.refl w).alloc (.cells (parCells p) 23)).alloc (.cells #[.int .i64 a, .int .i64 b] 28)).alloc (.cells #[.int .i64 0, .int .i64 0] 28)
  replace hO := hO.alloc (.cells #[.int .i64 0, .int .i64 0] 28)
  have hrw : w.heap.size ≤ w.heap.size + 1 + 1 := by omega
  generalize ((w.alloc (.cells (parCells p) 23)).alloc (.cells #[.int .i64 a, .int .i64 b] 28)).alloc (.cells #[.int .i64 0, .int .i64 0] 28) = W at hO hZ hok ⊢
  obtain ⟨r, hr⟩ : ∃ r, w.heap.size + 1 + 1 = r := ⟨_, rfl⟩
  rw [hr] at hZ hrw ⊢
  clear hr
  generalize w.heap.size + 1 = g at hO ⊢
  have HS := Lib.hid fun W' (k : Ok W.drew W') => hO.drew.next k
  have HR := Lib.hid fun W' (k : Ok W.drew W') => hZ.drew.next k
  clear hO hZ
  refine wp_region_facts_last (by kernel_rfl) 14 rfl (VC17 a b m x y) Ok _ rfl _ 5 rfl rfl rfl rfl (by kernel_rfl) (by kernel_rfl) (by kernel_rfl) (fun i v w w' h k w'' k' => h w'' (k.trans k')) (fun a b c => Ok.trans) (Ok.refl _) [some 9, some 10, some 11, some 12, some 13] rfl ⟨?_, ?_, ?_, ?_, ?_, trivial⟩ ?_
  · intro a' w' hF hR
    have e3 : a'.tmps[3]? = some (.pointer (some ⟨g, 0, none⟩)) := hF.slot 3 (by kernel_rfl) rfl
    have c0 := (HS.out _ hR).c0
    have c1 := (HS.out _ hR).c1
    refine wpOp_run (v := spanV a b) rfl rfl ?_ (fun _ _ => rfl) (Ok.refl _)
    clear hF
    go_simp
  · intro a' w' hF hR
    have e5 : a'.tmps[5]? = some (.int .i64 m) := hF.slot 5 (by kernel_rfl) rfl
    refine wpOp_run (v := .int .i64 m) rfl rfl ?_ (fun _ _ => rfl) (Ok.refl _)
    clear hF
    go_simp
  · intro a' w' hF hR
    obtain ⟨v1, hv1, e10⟩ := hF.get 1 10 (by kernel_rfl) (by kernel_rfl)
    obtain rfl : v1 = _ := hv1 _ (Ok.refl _)
    clear hF
    refine wpOp_call (f := 35) (args := #[.int .i64 m]) rfl rfl ?_ ((KN.out _).mono ?_)
    · go_simp
    · rintro e w2 ⟨rfl, rfl⟩; exact ⟨_, rfl, fun _ _ => rfl, Ok.refl _⟩
  · intro a' w' hF hR
    have e5 : a'.tmps[5]? = some (.int .i64 m) := hF.slot 5 (by kernel_rfl) rfl
    refine wpOp_run (v := .int .i64 m) rfl rfl ?_ (fun _ _ => rfl) (Ok.refl _)
    clear hF
    go_simp
  · intro a' w' hF hR
    obtain ⟨v0, hv0, e9⟩ := hF.get 0 9 (by kernel_rfl) (by kernel_rfl)
    obtain rfl : v0 = _ := hv0 _ (Ok.refl _)
    obtain ⟨v2, hv2, e11⟩ := hF.get 2 11 (by kernel_rfl) (by kernel_rfl)
    obtain rfl : v2 = _ := hv2 _ (Ok.refl _)
    obtain ⟨v3, hv3, e12⟩ := hF.get 3 12 (by kernel_rfl) (by kernel_rfl)
    obtain rfl : v3 = _ := hv3 _ (Ok.refl _)
    clear hF
    refine wpOp_call (f := 34) (args := #[spanV a b, .int .i64 (-m), .int .i64 m]) rfl rfl ?_ ((KS.out _).mono ?_)
    · go_simp
    · rintro e w2 ⟨rfl, hb2⟩; exact ⟨_, rfl, fun _ _ => rfl, hb2⟩
  intro vs W' hvs hR
  have e4 : vs 4 = spanV x y := hvs 4 (by decide) _ (Ok.refl _)
  have hSl := HR.out _ hR
  have f0 := hSl.f0
  have f1 := hSl.f1
  have c0 := hSl.c0
  have c1 := hSl.c1
  clear hvs KN KS HS HR
  simp only [putFrom, e4]
  simp only [Act.put, List.setIfInBounds_toArray, List.set_cons_zero, List.set_cons_succ]
  refine wpOp_store (w' := (W'.setCell ⟨r, 0, none⟩ (.int .i64 x)).setCell ⟨r, 1, none⟩ (.int .i64 y)) rfl rfl rfl ?_ ?_
  · go_simp
  have hF := hSl.set x y
  have hok2 := ((hok.trans ((Ok.refl W).drew.trans hR)).setCell (p := ⟨r, 0, none⟩) hrw (.int .i64 x)).setCell (p := ⟨r, 1, none⟩) hrw (.int .i64 y)
  clear c0 c1 f0 f1 hSl
  generalize (W'.setCell ⟨r, 0, none⟩ (.int .i64 x)).setCell ⟨r, 1, none⟩ (.int .i64 y) = W2 at hF hok2 ⊢
  have q0 := hF.c0
  have q1 := hF.c1
  go_wp2
  exact bodyPost_ret (v := spanV x y) (by simp [results, Try.results17, go_sem, q0, q1]) rfl ⟨rfl, hok2⟩
/-- What each operation leaves. -/
def VM9 (B : Nat) (p : Par) (th bk le a1 b1 x1 y1 x2 y2 x y : Int) (w : World) (v : Value) : Nat → Prop
  | 0 => v = parV p
  | 1 => v = .int .i64 th
  | 2 => v = .pointer (some ⟨B, 5, none⟩)
  | 3 => v = .int .i64 p.delay
  | 4 => v = .int .i64 a1
  | 5 => v = .int .i64 th
  | 6 => v = .int .i64 le
  | 7 => v = .int .i64 b1
  | 8 => v = spanV a1 b1
  | 9 => v = spanV x1 y1
  | 10 => v = parV p
  | 11 => v = .int .i64 bk
  | 12 => v = .int .i64 le
  | 13 => ∃ n : Addr, v = .slice (some n) 2 2 ∧ IntsAt w (some n) [bk, le]
  | 14 => v = .int .i64 (Sat.sum [bk, le])
  | 15 => v = .int .i64 bk
  | 16 => v = .pointer (some ⟨B, 5, none⟩)
  | 17 => v = .int .i64 p.delay
  | 18 => ∃ n : Addr, v = .slice (some n) 2 2 ∧ IntsAt w (some n) [bk, p.delay]
  | 19 => v = .int .i64 (Sat.sum [bk, p.delay])
  | 20 => v = spanV (Sat.sum [bk, le]) (Sat.sum [bk, p.delay])
  | 21 => v = spanV x2 y2
  | 22 => ∃ n : Addr, v = .slice (some n) 2 2 ∧ PairsAt w (some n) [(x1, y1), (x2, y2)]
  | 23 => v = spanV x y
  | _ => v = .bool true
/-- It stays so. -/
def VC9 (B : Nat) (p : Par) (th bk le a1 b1 x1 y1 x2 y2 x y : Int) (i : Nat) (v : Value) (w : World) : Prop := ∀ w', Ok w w' → VM9 B p th bk le a1 b1 x1 y1 x2 y2 x y w' v i
/-- A trip, as a value. -/
abbrev tripV (t : Trp) : Value := .agg #[.int .i64 t.asked, .int .i64 t.got, .int .i64 t.said, .int .i64 t.heard]
abbrev tripCells (t : Trp) : Array Value := #[.int .i64 t.asked, .int .i64 t.got, .int .i64 t.said, .int .i64 t.heard]
set_option maxHeartbeats 3200000 in
theorem probeAhead (p : Par) (t : Trp) (w : World) : Calls Try.prog 9 #[parV p, tripV t] w fun e w' => e = .returned (spanV (Probe.ah p t).1 (Probe.ah p t).2) ∧ Ok w w' := by
  unfold Probe.ah Probe.ahead Probe.way1 Probe.way2
  have L1 := Lib.hid fun w => satSub p.delay p.jit w
  have L2 := Lib.hid fun w => satSub t.got t.asked w
  have L3 := Lib.hid fun w => satSub t.said t.heard w
  obtain ⟨le, hle⟩ : ∃ x, Sat.sub p.delay p.jit = x := ⟨_, rfl⟩
  obtain ⟨th, hth⟩ : ∃ x, Sat.sub t.got t.asked = x := ⟨_, rfl⟩
  obtain ⟨bk, hbk⟩ : ∃ x, Sat.sub t.said t.heard = x := ⟨_, rfl⟩
  rw [hle] at L1
  rw [hth] at L2
  rw [hbk] at L3
  rw [hle, hth, hbk]
  clear hle hth hbk
  have K1 := Lib.hid fun w => satSub th p.delay w
  have K2 := Lib.hid fun w => satSub th le w
  have K3 := Lib.hid fun w => spanOf (Sat.sub th p.delay) (Sat.sub th le) w
  rw [Probe.clip_sub, Probe.clip_sub] at K3
  have K4 := Lib.hid fun w => probeDrifted p (Sat.sub th p.delay) (Sat.sub th le) w
  obtain ⟨a1, ha1⟩ : ∃ x, Sat.sub th p.delay = x := ⟨_, rfl⟩
  obtain ⟨b1, hb1⟩ : ∃ x, Sat.sub th le = x := ⟨_, rfl⟩
  rw [ha1] at K1
  rw [hb1] at K2
  rw [ha1, hb1] at K3 K4
  rw [ha1, hb1]
  clear ha1 hb1
  have K5 := Lib.hid fun w => spanOf (Sat.sum [bk, le]) (Sat.sum [bk, p.delay]) w
  rw [Probe.clip_sum, Probe.clip_sum] at K5
  have K6 := Lib.hid fun w => probeDrifted p (Sat.sum [bk, le]) (Sat.sum [bk, p.delay]) w
  obtain ⟨x1, hx1⟩ : ∃ x, Sat.sum [a1, -Sat.mul 2 p.rho] = x := ⟨_, rfl⟩
  obtain ⟨y1, hy1⟩ : ∃ x, Sat.sum [b1, Sat.mul 2 p.rho] = x := ⟨_, rfl⟩
  obtain ⟨x2, hx2⟩ : ∃ x, Sat.sum [Sat.sum [bk, le], -Sat.mul 2 p.rho] = x := ⟨_, rfl⟩
  obtain ⟨y2, hy2⟩ : ∃ x, Sat.sum [Sat.sum [bk, p.delay], Sat.mul 2 p.rho] = x := ⟨_, rfl⟩
  rw [hx1, hy1] at K4
  rw [hx2, hy2] at K6
  rw [hx1, hy1, hx2, hy2]
  clear hx1 hx2 hy1 hy2
  have K7 := Lib.hid fun n w (hp : PairsAt w (some n) [(x1, y1), (x2, y2)]) => spanMeet (some n) [(x1, y1), (x2, y2)] 2 w hp (by simp)
  show Calls _ _ _ _ fun e w' => e = .returned (spanV (Sat.clip (Span.mLo [(x1, y1), (x2, y2)])) (Sat.clip (Span.mHi [(x1, y1), (x2, y2)]))) ∧ Ok w w'
  obtain ⟨x, hx⟩ : ∃ x, Sat.clip (Span.mLo [(x1, y1), (x2, y2)]) = x := ⟨_, rfl⟩
  obtain ⟨y, hy⟩ : ∃ x, Sat.clip (Span.mHi [(x1, y1), (x2, y2)]) = x := ⟨_, rfl⟩
  rw [hx, hy] at K7 ⊢
  clear hx hy
  go_enter Try.func9, Try.ntmps9
  go_upto_region 4 with (go_at_call 15; first | ((with_reducible refine (L1.out _).mono ?_); rintro e w' ⟨rfl, rfl⟩) | ((with_reducible refine (L2.out _).mono ?_); rintro e w' ⟨rfl, rfl⟩) | ((with_reducible refine (L3.out _).mono ?_); rintro e w' ⟨rfl, rfl⟩))
  clear L1 L2 L3
  have hP := Own.new w (parCells p) 23 rfl
  have hZ := Slab.new ((w.alloc (.cells (parCells p) 23)).alloc (.cells (tripCells t) 25)) 0 0 28 (g := w.heap.size + 1 + 1) (by simp)
  have hok := (((Ok.refl w).alloc (.cells (parCells p) 23)).alloc (.cells (tripCells t) 25)).alloc (.cells #[.int .i64 0, .int .i64 0] 28)
  replace hP := (hP.alloc (.cells (tripCells t) 25)).alloc (.cells #[.int .i64 0, .int .i64 0] 28)
  have hrw : w.heap.size ≤ w.heap.size + 1 + 1 := by omega
  generalize ((w.alloc (.cells (parCells p) 23)).alloc (.cells (tripCells t) 25)).alloc (.cells #[.int .i64 0, .int .i64 0] 28) = W at hP hZ hok ⊢
  obtain ⟨r, hr⟩ : ∃ r, w.heap.size + 1 + 1 = r := ⟨_, rfl⟩
  rw [hr] at hZ hrw ⊢
  clear hr
  obtain ⟨B, hB⟩ : ∃ r, w.heap.size = r := ⟨_, rfl⟩
  rw [hB] at hP ⊢
  clear hB
  have HP := Lib.hid fun W' (k : Ok W.drew W') => hP.drew.next k
  have HR := Lib.hid fun W' (k : Ok W.drew W') => hZ.drew.next k
  clear hP hZ
  refine wp_region_facts_last (by kernel_rfl) 47 rfl (VC9 B p th bk le a1 b1 x1 y1 x2 y2 x y) Ok _ rfl _ 24 rfl rfl rfl rfl (by kernel_rfl) (by kernel_rfl) (by kernel_rfl) (fun i v w w' h k w'' k' => h w'' (k.trans k')) (fun a b c => Ok.trans) (Ok.refl _) [some 23, some 24, some 25, some 26, some 27, some 28, some 29, some 30, some 31, some 32, some 33, some 34, some 35, some 36, some 37, some 38, some 39, some 40, some 41, some 42, some 43, some 44, some 45, some 46] rfl ⟨?_, ?_, ?_, ?_, ?_, ?_, ?_, ?_, ?_, ?_, ?_, ?_, ?_, ?_, ?_, ?_, ?_, ?_, ?_, ?_, ?_, ?_, ?_, ?_, trivial⟩ ?_
  · intro a' w' hF hR
    have e2 : a'.tmps[2]? = some (.pointer (some ⟨B, 0, none⟩)) := hF.slot 2 (by kernel_rfl) rfl
    obtain ⟨c0, c1, c2, c3, c4, c5, c6, c7, c8, c9, c10, c11⟩ := (HP.out _ hR).pars
    refine wpOp_run (v := parV p) rfl rfl ?_ (fun _ _ => rfl) (Ok.refl _)
    clear hF
    go_simp
  · intro a' w' hF hR
    have e6 : a'.tmps[6]? = some (.int .i64 th) := hF.slot 6 (by kernel_rfl) rfl
    refine wpOp_run (v := .int .i64 th) rfl rfl ?_ (fun _ _ => rfl) (Ok.refl _)
    clear hF
    go_simp
  · intro a' w' hF hR
    have e2 : a'.tmps[2]? = some (.pointer (some ⟨B, 0, none⟩)) := hF.slot 2 (by kernel_rfl) rfl
    refine wpOp_run (v := .pointer (some ⟨B, 5, none⟩)) rfl rfl ?_ (fun _ _ => rfl) (Ok.refl _)
    clear hF
    go_simp
  · intro a' w' hF hR
    obtain ⟨v2, hv2, e25⟩ := hF.get 2 25 (by kernel_rfl) (by kernel_rfl)
    obtain rfl : v2 = _ := hv2 _ (Ok.refl _)
    obtain ⟨c0, c1, c2, c3, c4, c5, c6, c7, c8, c9, c10, c11⟩ := (HP.out _ hR).pars
    refine wpOp_run (v := .int .i64 p.delay) rfl rfl ?_ (fun _ _ => rfl) (Ok.refl _)
    clear hF
    go_simp
  · intro a' w' hF hR
    obtain ⟨v1, hv1, e24⟩ := hF.get 1 24 (by kernel_rfl) (by kernel_rfl)
    obtain rfl : v1 = _ := hv1 _ (Ok.refl _)
    obtain ⟨v3, hv3, e26⟩ := hF.get 3 26 (by kernel_rfl) (by kernel_rfl)
    obtain rfl : v3 = _ := hv3 _ (Ok.refl _)
    clear hF
    refine wpOp_call (f := 15) (args := #[.int .i64 th, .int .i64 p.delay]) rfl rfl ?_ ((K1.out _).mono ?_)
    · go_simp
    · rintro e w2 ⟨rfl, rfl⟩; exact ⟨_, rfl, fun _ _ => rfl, Ok.refl _⟩
  · intro a' w' hF hR
    have e6 : a'.tmps[6]? = some (.int .i64 th) := hF.slot 6 (by kernel_rfl) rfl
    refine wpOp_run (v := .int .i64 th) rfl rfl ?_ (fun _ _ => rfl) (Ok.refl _)
    clear hF
    go_simp
  · intro a' w' hF hR
    have e5 : a'.tmps[5]? = some (.int .i64 le) := hF.slot 5 (by kernel_rfl) rfl
    refine wpOp_run (v := .int .i64 le) rfl rfl ?_ (fun _ _ => rfl) (Ok.refl _)
    clear hF
    go_simp
  · intro a' w' hF hR
    obtain ⟨v5, hv5, e28⟩ := hF.get 5 28 (by kernel_rfl) (by kernel_rfl)
    obtain rfl : v5 = _ := hv5 _ (Ok.refl _)
    obtain ⟨v6, hv6, e29⟩ := hF.get 6 29 (by kernel_rfl) (by kernel_rfl)
    obtain rfl : v6 = _ := hv6 _ (Ok.refl _)
    clear hF
    refine wpOp_call (f := 15) (args := #[.int .i64 th, .int .i64 le]) rfl rfl ?_ ((K2.out _).mono ?_)
    · go_simp
    · rintro e w2 ⟨rfl, rfl⟩; exact ⟨_, rfl, fun _ _ => rfl, Ok.refl _⟩
  · intro a' w' hF hR
    obtain ⟨v4, hv4, e27⟩ := hF.get 4 27 (by kernel_rfl) (by kernel_rfl)
    obtain rfl : v4 = _ := hv4 _ (Ok.refl _)
    obtain ⟨v7, hv7, e30⟩ := hF.get 7 30 (by kernel_rfl) (by kernel_rfl)
    obtain rfl : v7 = _ := hv7 _ (Ok.refl _)
    clear hF
    refine wpOp_call (f := 18) (args := #[.int .i64 a1, .int .i64 b1]) rfl rfl ?_ ((K3.out _).mono ?_)
    · go_simp
    · rintro e w2 ⟨rfl, hb2⟩; exact ⟨_, rfl, fun _ _ => rfl, hb2⟩
  · intro a' w' hF hR
    obtain ⟨v0, hv0, e23⟩ := hF.get 0 23 (by kernel_rfl) (by kernel_rfl)
    obtain rfl : v0 = _ := hv0 _ (Ok.refl _)
    obtain ⟨v8, hv8, e31⟩ := hF.get 8 31 (by kernel_rfl) (by kernel_rfl)
    obtain rfl : v8 = _ := hv8 _ (Ok.refl _)
    clear hF
    refine wpOp_call (f := 17) (args := #[parV p, spanV a1 b1]) rfl rfl ?_ ((K4.out _).mono ?_)
    · go_simp
    · rintro e w2 ⟨rfl, hb2⟩; exact ⟨_, rfl, fun _ _ => rfl, hb2⟩
  · intro a' w' hF hR
    have e2 : a'.tmps[2]? = some (.pointer (some ⟨B, 0, none⟩)) := hF.slot 2 (by kernel_rfl) rfl
    obtain ⟨c0, c1, c2, c3, c4, c5, c6, c7, c8, c9, c10, c11⟩ := (HP.out _ hR).pars
    refine wpOp_run (v := parV p) rfl rfl ?_ (fun _ _ => rfl) (Ok.refl _)
    clear hF
    go_simp
  · intro a' w' hF hR
    have e7 : a'.tmps[7]? = some (.int .i64 bk) := hF.slot 7 (by kernel_rfl) rfl
    refine wpOp_run (v := .int .i64 bk) rfl rfl ?_ (fun _ _ => rfl) (Ok.refl _)
    clear hF
    go_simp
  · intro a' w' hF hR
    have e5 : a'.tmps[5]? = some (.int .i64 le) := hF.slot 5 (by kernel_rfl) rfl
    refine wpOp_run (v := .int .i64 le) rfl rfl ?_ (fun _ _ => rfl) (Ok.refl _)
    clear hF
    go_simp
  · intro a' w' hF hR
    obtain ⟨v11, hv11, e34⟩ := hF.get 11 34 (by kernel_rfl) (by kernel_rfl)
    obtain rfl : v11 = _ := hv11 _ (Ok.refl _)
    obtain ⟨v12, hv12, e35⟩ := hF.get 12 35 (by kernel_rfl) (by kernel_rfl)
    obtain rfl : v12 = _ := hv12 _ (Ok.refl _)
    refine wpOp_run (v := .slice (some ⟨w'.heap.size, 0, none⟩) 2 2) (w' := w'.alloc (.cells #[.int .i64 bk, .int .i64 le] 3)) rfl rfl ?_ (fun w'' k => ⟨_, rfl, (ints_new _ [bk, le] _ _ rfl rfl).below k⟩) ((Ok.refl _).alloc _)
    clear hF
    go_simp
  · intro a' w' hF hR
    obtain ⟨v13, hv13, e36⟩ := hF.get 13 36 (by kernel_rfl) (by kernel_rfl)
    obtain ⟨n13, rfl, hp13⟩ := hv13 _ (Ok.refl _)
    clear hF
    refine wpOp_call (f := 19) (args := #[.slice (some n13) 2 2]) rfl rfl ?_ ((satAdd (some n13) [bk, le] 2 _ hp13 (by simp)).mono ?_)
    · go_simp
    · rintro e w2 ⟨rfl, rfl⟩; exact ⟨_, rfl, fun _ _ => rfl, Ok.refl _⟩
  · intro a' w' hF hR
    have e7 : a'.tmps[7]? = some (.int .i64 bk) := hF.slot 7 (by kernel_rfl) rfl
    refine wpOp_run (v := .int .i64 bk) rfl rfl ?_ (fun _ _ => rfl) (Ok.refl _)
    clear hF
    go_simp
  · intro a' w' hF hR
    have e2 : a'.tmps[2]? = some (.pointer (some ⟨B, 0, none⟩)) := hF.slot 2 (by kernel_rfl) rfl
    refine wpOp_run (v := .pointer (some ⟨B, 5, none⟩)) rfl rfl ?_ (fun _ _ => rfl) (Ok.refl _)
    clear hF
    go_simp
  · intro a' w' hF hR
    obtain ⟨v16, hv16, e39⟩ := hF.get 16 39 (by kernel_rfl) (by kernel_rfl)
    obtain rfl : v16 = _ := hv16 _ (Ok.refl _)
    obtain ⟨c0, c1, c2, c3, c4, c5, c6, c7, c8, c9, c10, c11⟩ := (HP.out _ hR).pars
    refine wpOp_run (v := .int .i64 p.delay) rfl rfl ?_ (fun _ _ => rfl) (Ok.refl _)
    clear hF
    go_simp
  · intro a' w' hF hR
    obtain ⟨v15, hv15, e38⟩ := hF.get 15 38 (by kernel_rfl) (by kernel_rfl)
    obtain rfl : v15 = _ := hv15 _ (Ok.refl _)
    obtain ⟨v17, hv17, e40⟩ := hF.get 17 40 (by kernel_rfl) (by kernel_rfl)
    obtain rfl : v17 = _ := hv17 _ (Ok.refl _)
    refine wpOp_run (v := .slice (some ⟨w'.heap.size, 0, none⟩) 2 2) (w' := w'.alloc (.cells #[.int .i64 bk, .int .i64 p.delay] 3)) rfl rfl ?_ (fun w'' k => ⟨_, rfl, (ints_new _ [bk, p.delay] _ _ rfl rfl).below k⟩) ((Ok.refl _).alloc _)
    clear hF
    go_simp
  · intro a' w' hF hR
    obtain ⟨v18, hv18, e41⟩ := hF.get 18 41 (by kernel_rfl) (by kernel_rfl)
    obtain ⟨n18, rfl, hp18⟩ := hv18 _ (Ok.refl _)
    clear hF
    refine wpOp_call (f := 19) (args := #[.slice (some n18) 2 2]) rfl rfl ?_ ((satAdd (some n18) [bk, p.delay] 2 _ hp18 (by simp)).mono ?_)
    · go_simp
    · rintro e w2 ⟨rfl, rfl⟩; exact ⟨_, rfl, fun _ _ => rfl, Ok.refl _⟩
  · intro a' w' hF hR
    obtain ⟨v14, hv14, e37⟩ := hF.get 14 37 (by kernel_rfl) (by kernel_rfl)
    obtain rfl : v14 = _ := hv14 _ (Ok.refl _)
    obtain ⟨v19, hv19, e42⟩ := hF.get 19 42 (by kernel_rfl) (by kernel_rfl)
    obtain rfl : v19 = _ := hv19 _ (Ok.refl _)
    clear hF
    refine wpOp_call (f := 18) (args := #[.int .i64 (Sat.sum [bk, le]), .int .i64 (Sat.sum [bk, p.delay])]) rfl rfl ?_ ((K5.out _).mono ?_)
    · go_simp
    · rintro e w2 ⟨rfl, hb2⟩; exact ⟨_, rfl, fun _ _ => rfl, hb2⟩
  · intro a' w' hF hR
    obtain ⟨v10, hv10, e33⟩ := hF.get 10 33 (by kernel_rfl) (by kernel_rfl)
    obtain rfl : v10 = _ := hv10 _ (Ok.refl _)
    obtain ⟨v20, hv20, e43⟩ := hF.get 20 43 (by kernel_rfl) (by kernel_rfl)
    obtain rfl : v20 = _ := hv20 _ (Ok.refl _)
    clear hF
    refine wpOp_call (f := 17) (args := #[parV p, spanV (Sat.sum [bk, le]) (Sat.sum [bk, p.delay])]) rfl rfl ?_ ((K6.out _).mono ?_)
    · go_simp
    · rintro e w2 ⟨rfl, hb2⟩; exact ⟨_, rfl, fun _ _ => rfl, hb2⟩
  · intro a' w' hF hR
    obtain ⟨v9, hv9, e32⟩ := hF.get 9 32 (by kernel_rfl) (by kernel_rfl)
    obtain rfl : v9 = _ := hv9 _ (Ok.refl _)
    obtain ⟨v21, hv21, e44⟩ := hF.get 21 44 (by kernel_rfl) (by kernel_rfl)
    obtain rfl : v21 = _ := hv21 _ (Ok.refl _)
    refine wpOp_run (v := .slice (some ⟨w'.heap.size, 0, none⟩) 2 2) (w' := w'.alloc (.cells #[.int .i64 x1, .int .i64 y1, .int .i64 x2, .int .i64 y2] 28)) rfl rfl ?_ (fun w'' k => ⟨_, rfl, (pairs_new _ [(x1, y1), (x2, y2)] _ _ rfl rfl).below k⟩) ((Ok.refl _).alloc _)
    clear hF
    go_simp
  · intro a' w' hF hR
    obtain ⟨v22, hv22, e45⟩ := hF.get 22 45 (by kernel_rfl) (by kernel_rfl)
    obtain ⟨n22, rfl, hp22⟩ := hv22 _ (Ok.refl _)
    clear hF
    refine wpOp_call (f := 16) (args := #[.slice (some n22) 2 2]) rfl rfl ?_ ((K7.out _ _ hp22).mono ?_)
    · go_simp
    · rintro e w2 ⟨rfl, hb2⟩; exact ⟨_, rfl, fun _ _ => rfl, hb2⟩
  intro vs W' hvs hR
  have e23 : vs 23 = spanV x y := hvs 23 (by decide) _ (Ok.refl _)
  have hSl := HR.out _ hR
  have f0 := hSl.f0
  have f1 := hSl.f1
  have c0 := hSl.c0
  have c1 := hSl.c1
  clear hvs K1 K2 K3 K4 K5 K6 K7 HP HR
  simp only [putFrom, e23]
  simp only [Act.put, List.setIfInBounds_toArray, List.set_cons_zero, List.set_cons_succ]
  refine wpOp_store (w' := (W'.setCell ⟨r, 0, none⟩ (.int .i64 x)).setCell ⟨r, 1, none⟩ (.int .i64 y)) rfl rfl rfl ?_ ?_
  · go_simp
  have hF := hSl.set x y
  have hok2 := ((hok.trans ((Ok.refl W).drew.trans hR)).setCell (p := ⟨r, 0, none⟩) hrw (.int .i64 x)).setCell (p := ⟨r, 1, none⟩) hrw (.int .i64 y)
  clear c0 c1 f0 f1 hSl
  generalize (W'.setCell ⟨r, 0, none⟩ (.int .i64 x)).setCell ⟨r, 1, none⟩ (.int .i64 y) = W2 at hF hok2 ⊢
  have q0 := hF.c0
  have q1 := hF.c1
  go_wp2
  exact bodyPost_ret (v := spanV x y) (by simp [results, Try.results9, go_sem, q0, q1]) rfl ⟨rfl, hok2⟩
end Go.Proofs.Ytfhagccelkjflaa
