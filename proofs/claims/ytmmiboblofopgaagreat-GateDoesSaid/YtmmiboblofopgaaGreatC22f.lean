/- Contracts of layer 22: what a gateway sees, and what the others tell that they saw. -/
import Derived.Test.YtmmiboblofopgaaGreatC22e
import Derived.Test.YtmmiboblofopgaaGreatC22w
import Derived.Test.YtmmiboblofopgaaGreatB20
import Derived.Test.YtmmiboblofopgaaGreatB09
import Derived.Test.YtmmiboblofopgaaGreatB06
import Derived.Test.YtmmiboblofopgaaGreatWX
import Derived.Test.YtmmiboblofopgaaGreatB12
import Derived.Test.YtmmiboblofopgaaGreatW46
import Derived.Test.YtmmiboblofopgaaGreatW16
namespace Go.Proofs.YtmmiboblofopgaaGreat
open Go.RowKit
set_option linter.unusedVariables false
set_option maxRecDepth 100000
attribute [local go_sem ↓] Go.wp_at_zero Go.wp_at_succ
theorem Own.inp {w : World} {g : Nat} {x : In} (h : Own w g (inCells x)) : w.cell? ⟨g, 0, none⟩ = some (.int .i64 x.ticks) ∧ w.cell? ⟨g, 1, none⟩ = some (.slice x.B x.heard.length x.hcap) ∧ w.cell? ⟨g, 2, none⟩ = some (.bool x.ref) ∧ w.cell? ⟨g, 3, none⟩ = some (.int .i64 x.reading) ∧ w.cell? ⟨g, 4, none⟩ = some (.bool x.given) ∧ w.cell? ⟨g, 5, none⟩ = some (.slice x.T x.table.length x.tcap) :=
  ⟨h.cell 0 rfl, h.cell 1 rfl, h.cell 2 rfl, h.cell 3 rfl, h.cell 4 rfl, h.cell 5 rfl⟩
/-- What each operation leaves. -/
def VMSeeP (G X : Nat) (p : Par) (x : In) (q1 q2 : Int) (q : Bool) (w : World) (v : Value) : Nat → Prop
  | 0 => v = .pointer (some ⟨G, 0, none⟩)
  | 1 => v = .pointer (some ⟨G, 0, none⟩)
  | 2 => v = .pointer (some ⟨G, 0, none⟩)
  | 3 => v = .pointer (some ⟨G, 0, none⟩)
  | 4 => v = parV p
  | 5 => v = .pointer (some ⟨X, 3, none⟩)
  | 6 => v = .int .i64 x.reading
  | 7 => v = .tuple #[.agg #[.int .i64 q1, .int .i64 q2], .bool q]
  | 8 => v = .agg #[.int .i64 q1, .int .i64 q2]
  | 9 => v = .bool q
  | _ => v = .bool true
/-- It stays so. -/
def VCSeeP (G X : Nat) (p : Par) (x : In) (q1 q2 : Int) (q : Bool) (i : Nat) (v : Value) (w : World) : Prop := ∀ w', Ok w w' → VMSeeP G X p x q1 q2 q w' v i
/-- What it sees: where it doesn't read, whatever. -/
def SeesEnd (p : Par) (x : In) (w : World) (e : Ending) (w' : World) : Prop := ∃ q1 q2 : Int, e = .returned (.tuple #[spanV q1 q2, .bool (Gate.reads p x.ref x.reading)]) ∧ (Gate.reads p x.ref x.reading = true → Anchor.seen p x.reading = (q1, q2)) ∧ Ok w w'
set_option maxHeartbeats 1600000 in
theorem gateSees (G : Nat) (p : Par) (me : Int) (s : Sta) (A : Option Addr) (cap : Nat) (x : In) (w : World) (hO : Own w G (gateCells me p s A cap)) : Calls Tryz.prog 38 #[.pointer (some ⟨G, 0, none⟩), inV x] w (SeesEnd p x w) := by
  unfold SeesEnd
  have hX := (Own.new w (inCells x) 44 rfl).alloc (.cells #[.int .i64 0, .int .i64 0] 25)
  have hZ := Slab.new (w.alloc (.cells (inCells x) 44)) 0 0 25 (g := w.heap.size + 1) (by simp)
  have hok := ((Ok.refl w).alloc (.cells (inCells x) 44)).alloc (.cells #[.int .i64 0, .int .i64 0] 25)
  have hO2 := (hO.alloc (.cells (inCells x) 44)).alloc (.cells #[.int .i64 0, .int .i64 0] 25)
  clear hO
  unfold inV
  obtain ⟨q, hR⟩ : ∃ b, Gate.reads p x.ref x.reading = b := ⟨_, rfl⟩
  rw [hR]
  cases href : x.ref with
  | false =>
    have HE : Hid (q = false) := Lib.hid (by rw [← hR, href]; unfold Gate.reads; simp)
    clear hR
    go_enter Tryz.func38, Tryz.ntmps38
    go_upto_region 1 with fail
    change Code.wp _ _ _ _ ((w.alloc (.cells #[.int .i64 x.ticks, .slice x.B x.heard.length x.hcap, .bool false, .int .i64 x.reading, .bool x.given, .slice x.T x.table.length x.tcap] 44)).alloc (.cells #[.int .i64 0, .int .i64 0] 25))
    rw [show (#[.int .i64 x.ticks, .slice x.B x.heard.length x.hcap, .bool false, .int .i64 x.reading, .bool x.given, .slice x.T x.table.length x.tcap] : Array Value) = inCells x by unfold inCells; rw [href]]
    generalize (w.alloc (.cells (inCells x) 44)).alloc (.cells #[.int .i64 0, .int .i64 0] 25) = W at hX hZ hok hO2 ⊢
    obtain ⟨Z, hZe⟩ : ∃ r, w.heap.size + 1 = r := ⟨_, rfl⟩
    obtain ⟨X, hXe⟩ : ∃ r, w.heap.size = r := ⟨_, rfl⟩
    have HWZ : Hid (w.heap.size ≤ Z) := Lib.hid (by omega)
    rw [hZe] at hZ
    rw [hXe] at hX
    rw [hZe, hXe]
    clear hZe hXe
    obtain ⟨i0, i1, i2, i3, i4, i5⟩ := hX.inp
    rw [href] at i2
    have hxl := hX.lt
    have z0 := hZ.c0
    have z1 := hZ.c1
    have y0 := hZ.f0
    have y1 := hZ.f1
    have hzl := hZ.lt
    go_wp2_with fail
    exact bodyPost_ret (v := .tuple #[spanV 0 0, .bool false]) (by simp [results, Tryz.results38, go_sem, spanV, ((hZ.set 0 0)).c0, (hZ.set 0 0).c1]) rfl ⟨0, 0, by rw [HE.out], (by rw [HE.out]; intro h; cases h), (hok.setCell (p := ⟨Z, 0, none⟩) HWZ.out _).setCell (p := ⟨Z, 1, none⟩) HWZ.out _⟩
  | true =>
    have KS := Lib.hid fun w => anchorSeen p x.reading w
    have hRq : Anchor.is p x.reading = q := by rw [← hR, href]; unfold Gate.reads; simp
    obtain ⟨⟨q1, q2⟩, hq⟩ : ∃ s, Anchor.seen p x.reading = s := ⟨_, rfl⟩
    rw [hq, hRq] at KS
    have HE : Hid (q = true → Anchor.seen p x.reading = (q1, q2)) := Lib.hid fun _ => hq
    clear hR hRq hq
    go_enter Tryz.func38, Tryz.ntmps38
    go_upto_region 1 with fail
    change Code.wp _ _ _ _ ((w.alloc (.cells #[.int .i64 x.ticks, .slice x.B x.heard.length x.hcap, .bool true, .int .i64 x.reading, .bool x.given, .slice x.T x.table.length x.tcap] 44)).alloc (.cells #[.int .i64 0, .int .i64 0] 25))
    rw [show (#[.int .i64 x.ticks, .slice x.B x.heard.length x.hcap, .bool true, .int .i64 x.reading, .bool x.given, .slice x.T x.table.length x.tcap] : Array Value) = inCells x by unfold inCells; rw [href]]
    generalize (w.alloc (.cells (inCells x) 44)).alloc (.cells #[.int .i64 0, .int .i64 0] 25) = W at hX hZ hok hO2 ⊢
    obtain ⟨Z, hZe⟩ : ∃ r, w.heap.size + 1 = r := ⟨_, rfl⟩
    obtain ⟨X, hXe⟩ : ∃ r, w.heap.size = r := ⟨_, rfl⟩
    have HWZ : Hid (w.heap.size ≤ Z) := Lib.hid (by omega)
    rw [hZe] at hZ
    rw [hXe] at hX
    rw [hZe, hXe]
    clear hZe hXe
    have i2 := hX.cell 2 (v := .bool true) (by show some (Value.bool x.ref) = _; rw [href])
    have hxl := hX.lt
    go_upto_region 3 with fail
    clear i2 hxl
    have HOK := Lib.hid hok
    have HQ := Lib.hid fun W' (k : Ok W.drew W') => hO2.drew.next k
    have HZ := Lib.hid fun W' (k : Ok W.drew W') => hZ.drew.next k
    have HX := Lib.hid fun W' (k : Ok W.drew W') => hX.drew.next k
    clear hO2 hZ hok hX
    refine wp_region_facts_float (by kernel_rfl) 20 rfl (VCSeeP G X p x q1 q2 q) Ok 10 9 rfl (by decide) _ _ rfl rfl (by kernel_rfl) (by kernel_rfl) _ _ rfl rfl rfl (by kernel_rfl) (by kernel_rfl) (fun i v w w' h k w'' k' => h w'' (k.trans k')) (fun a b c => Ok.trans) (Ok.refl _) [some 10, some 11, some 12, some 13, some 14, some 15, some 16, some 17, some 18, some 19] [some 10, some 11, some 12, some 13, some 14, some 15, some 16, some 17, some 18, none] rfl rfl ⟨?_, ?_, ?_, ?_, ?_, ?_, ?_, ?_, ?_, ?_, trivial⟩ ?_ ?_
    · intro a' w' hF hR
      have e0 : a'.tmps[0]? = some (.pointer (some ⟨G, 0, none⟩)) := hF.slot 0 (by kernel_rfl) rfl
      refine wpOp_run (v := .pointer (some ⟨G, 0, none⟩)) rfl rfl ?_ (fun _ _ => rfl) (Ok.refl _)
      clear hF
      go_simp
    · intro a' w' hF hR
      obtain ⟨v0, hv0, e10⟩ := hF.get 0 10 (by kernel_rfl) (by kernel_rfl)
      obtain rfl : v0 = _ := hv0 _ (Ok.refl _)
      refine wpOp_run (v := .pointer (some ⟨G, 0, none⟩)) rfl rfl ?_ (fun _ _ => rfl) (Ok.refl _)
      clear hF
      go_simp
    · intro a' w' hF hR
      obtain ⟨v1, hv1, e11⟩ := hF.get 1 11 (by kernel_rfl) (by kernel_rfl)
      obtain rfl : v1 = _ := hv1 _ (Ok.refl _)
      refine wpOp_run (v := .pointer (some ⟨G, 0, none⟩)) rfl rfl ?_ (fun _ _ => rfl) (Ok.refl _)
      clear hF
      go_simp
    · intro a' w' hF hR
      obtain ⟨v2, hv2, e12⟩ := hF.get 2 12 (by kernel_rfl) (by kernel_rfl)
      obtain rfl : v2 = _ := hv2 _ (Ok.refl _)
      refine wpOp_run (v := .pointer (some ⟨G, 0, none⟩)) rfl rfl ?_ (fun _ _ => rfl) (Ok.refl _)
      clear hF
      go_simp
    · intro a' w' hF hR
      obtain ⟨v3, hv3, e13⟩ := hF.get 3 13 (by kernel_rfl) (by kernel_rfl)
      obtain rfl : v3 = _ := hv3 _ (Ok.refl _)
      obtain ⟨c0, c1, c2, c3, c4, c5, c6, c7, c8, c9, c10, c11⟩ := (HQ.out _ hR).frP
      have hgl := (HQ.out _ hR).lt
      refine wpOp_run (v := parV p) rfl rfl ?_ (fun _ _ => rfl) (Ok.refl _)
      clear hF
      go_simp
    · intro a' w' hF hR
      have e3 : a'.tmps[3]? = some (.pointer (some ⟨X, 0, none⟩)) := hF.slot 3 (by kernel_rfl) rfl
      refine wpOp_run (v := .pointer (some ⟨X, 3, none⟩)) rfl rfl ?_ (fun _ _ => rfl) (Ok.refl _)
      clear hF
      go_simp
    · intro a' w' hF hR
      obtain ⟨v5, hv5, e15⟩ := hF.get 5 15 (by kernel_rfl) (by kernel_rfl)
      obtain rfl : v5 = _ := hv5 _ (Ok.refl _)
      obtain ⟨i0, i1, i2, i3, i4, i5⟩ := (HX.out _ hR).inp
      have hxl := (HX.out _ hR).lt
      refine wpOp_run (v := .int .i64 x.reading) rfl rfl ?_ (fun _ _ => rfl) (Ok.refl _)
      clear hF
      go_simp
    · intro a' w' hF hR
      obtain ⟨v4, hv4, e14⟩ := hF.get 4 14 (by kernel_rfl) (by kernel_rfl)
      obtain rfl : v4 = _ := hv4 _ (Ok.refl _)
      obtain ⟨v6, hv6, e16⟩ := hF.get 6 16 (by kernel_rfl) (by kernel_rfl)
      obtain rfl : v6 = _ := hv6 _ (Ok.refl _)
      clear hF
      refine wpOp_call (f := 70) (args := #[parV p, .int .i64 x.reading]) rfl rfl ?_ ((KS.out _).mono ?_)
      · go_simp
      · rintro e w2 ⟨rfl, hb2⟩; exact ⟨_, rfl, fun _ _ => rfl, hb2⟩
    · intro a' w' hF hR
      obtain ⟨v7, hv7, e17⟩ := hF.get 7 17 (by kernel_rfl) (by kernel_rfl)
      obtain rfl : v7 = _ := hv7 _ (Ok.refl _)
      refine wpOp_run (v := .agg #[.int .i64 q1, .int .i64 q2]) rfl rfl ?_ (fun _ _ => rfl) (Ok.refl _)
      clear hF
      go_simp
    · intro a' w' hF hR
      obtain ⟨v7, hv7, e17⟩ := hF.get 7 17 (by kernel_rfl) (by kernel_rfl)
      obtain rfl : v7 = _ := hv7 _ (Ok.refl _)
      refine wpOp_run (v := .bool q) rfl rfl ?_ (fun _ _ => rfl) (Ok.refl _)
      clear hF
      go_simp
    · intro vs W' hvs hR
      have e8 : vs 8 = .agg #[.int .i64 q1, .int .i64 q2] := hvs 8 (by decide) _ (Ok.refl _)
      have e9 : vs 9 = .bool q := hvs 9 (by decide) _ (Ok.refl _)
      have hZ := HZ.out _ hR
      have hok := (HOK.out.trans (Ok.refl W).drew).trans hR
      have f0 := hZ.f0
      have f1 := hZ.f1
      have c0 := hZ.c0
      have c1 := hZ.c1
      clear hvs HQ HX HZ HOK KS
      simp only [putFrom, e8, e9]
      simp only [Act.put, List.setIfInBounds_toArray, List.set_cons_zero, List.set_cons_succ]
      refine wpOp_store (w' := (W'.setCell ⟨Z, 0, none⟩ (.int .i64 q1)).setCell ⟨Z, 1, none⟩ (.int .i64 q2)) rfl rfl rfl ?_ ?_
      · go_simp
      have hx2 := hZ.set q1 q2
      have hok2 := (hok.setCell (p := ⟨Z, 0, none⟩) HWZ.out (.int .i64 q1)).setCell (p := ⟨Z, 1, none⟩) HWZ.out (.int .i64 q2)
      clear f0 f1 c0 c1 hZ hok e8 e9
      generalize (W'.setCell ⟨Z, 0, none⟩ (.int .i64 q1)).setCell ⟨Z, 1, none⟩ (.int .i64 q2) = W2 at hx2 hok2 ⊢
      refine wpOp_leaves (o := ⟨some 5, _, _, _, _, none⟩) (v := .bool q) (w' := W2) rfl rfl ?_ ?_
      · go_simp
      simp only [Act.put, List.setIfInBounds_toArray, List.set_cons_zero, List.set_cons_succ]
      try generalize vs 0 = x20
      try generalize vs 1 = x21
      try generalize vs 2 = x22
      try generalize vs 3 = x23
      try generalize vs 4 = x24
      try generalize vs 5 = x25
      try generalize vs 6 = x26
      try generalize vs 7 = x27
      try generalize vs 8 = x28
      try generalize vs 9 = x29
      clear hR vs
      have d0 := hx2.c0
      have d1 := hx2.c1
      go_wp2_with fail
      exact bodyPost_ret (v := .tuple #[spanV q1 q2, .bool q]) (by simp [results, Tryz.results38, go_sem, spanV, d0, d1]) rfl ⟨q1, q2, rfl, HE.out, hok2⟩
    · intro vs W' hvs hR
      have e8 : vs 8 = .agg #[.int .i64 q1, .int .i64 q2] := hvs 8 (by decide) (by decide) _ (Ok.refl _)
      have e9 : vs 7 = .tuple #[.agg #[.int .i64 q1, .int .i64 q2], .bool q] := hvs 7 (by decide) (by decide) _ (Ok.refl _)
      have hZ := HZ.out _ hR
      have hok := (HOK.out.trans (Ok.refl W).drew).trans hR
      have f0 := hZ.f0
      have f1 := hZ.f1
      have c0 := hZ.c0
      have c1 := hZ.c1
      clear hvs HQ HX HZ HOK KS
      simp only [putFrom, e8, e9]
      simp only [Act.put, List.setIfInBounds_toArray, List.set_cons_zero, List.set_cons_succ]
      refine wpOp_store (w' := (W'.setCell ⟨Z, 0, none⟩ (.int .i64 q1)).setCell ⟨Z, 1, none⟩ (.int .i64 q2)) rfl rfl rfl ?_ ?_
      · go_simp
      have hx2 := hZ.set q1 q2
      have hok2 := (hok.setCell (p := ⟨Z, 0, none⟩) HWZ.out (.int .i64 q1)).setCell (p := ⟨Z, 1, none⟩) HWZ.out (.int .i64 q2)
      clear f0 f1 c0 c1 hZ hok e8 e9
      generalize (W'.setCell ⟨Z, 0, none⟩ (.int .i64 q1)).setCell ⟨Z, 1, none⟩ (.int .i64 q2) = W2 at hx2 hok2 ⊢
      refine wpOp_leaves (o := ⟨some 19, _, _, _, _, none⟩) (v := .bool q) (w' := W2) rfl rfl ?_ ?_
      · go_simp
      simp only [Act.put, List.setIfInBounds_toArray, List.set_cons_zero, List.set_cons_succ]
      refine wpOp_leaves (o := ⟨some 5, _, _, _, _, none⟩) (v := .bool q) (w' := W2) rfl rfl ?_ ?_
      · go_simp
      simp only [Act.put, List.setIfInBounds_toArray, List.set_cons_zero, List.set_cons_succ]
      try generalize vs 0 = x20
      try generalize vs 1 = x21
      try generalize vs 2 = x22
      try generalize vs 3 = x23
      try generalize vs 4 = x24
      try generalize vs 5 = x25
      try generalize vs 6 = x26
      try generalize vs 7 = x27
      try generalize vs 8 = x28
      try generalize vs 9 = x29
      clear hR vs
      have d0 := hx2.c0
      have d1 := hx2.c1
      go_wp2_with fail
      exact bodyPost_ret (v := .tuple #[spanV q1 q2, .bool q]) (by simp [results, Tryz.results38, go_sem, spanV, d0, d1]) rfl ⟨q1, q2, rfl, HE.out, hok2⟩
/-- What each operation leaves. -/
def VMTolA (G : Nat) (p : Par) (me : Int) (s : Sta) (A : Option Addr) (cap0 : Nat) (B : Option Addr) (l : List HA) (cap N : Nat) (L : List Hd) (w : World) (v : Value) : Nat → Prop
  | 0 => v = .pointer (some ⟨G, 0, none⟩)
  | 1 => v = .pointer (some ⟨G, 0, none⟩)
  | 2 => v = .pointer (some ⟨G, 0, none⟩)
  | 3 => v = .pointer (some ⟨G, 0, none⟩)
  | 4 => v = parV p
  | 5 => v = .pointer (some ⟨G, 0, none⟩)
  | 6 => v = .pointer (some ⟨G, 0, none⟩)
  | 7 => v = .pointer (some ⟨G, 23, none⟩)
  | 8 => v = .int .i64 me
  | 9 => v = .slice B l.length cap
  | 10 => ∃ (A0 : Option Addr) (c0 : Nat) (o : List HA), v = .slice A0 N c0 ∧ o.length = N ∧ o.map HA.hd = L ∧ HeardsAt w A0 o
  | 11 => v = .int .i64 (N : Int)
  | 12 => v = .int .i64 0
  | _ => v = .bool true
/-- It stays so. -/
def VCTolA (G : Nat) (p : Par) (me : Int) (s : Sta) (A : Option Addr) (cap0 : Nat) (B : Option Addr) (l : List HA) (cap N : Nat) (L : List Hd) (i : Nat) (v : Value) (w : World) : Prop := ∀ w', Ok w w' → VMTolA G p me s A cap0 B l cap N L w' v i
/-- What each operation leaves. -/
def VMTolB (G Z : Nat) (p : Par) (x : HA) (A5 : Option Addr) (m5 q5 : Nat) (y1 y2 : Int) (w : World) (v : Value) : Nat → Prop
  | 0 => v = .slice A5 m5 q5
  | 1 => v = .pointer (some ⟨G, 0, none⟩)
  | 2 => v = .pointer (some ⟨G, 0, none⟩)
  | 3 => v = .pointer (some ⟨G, 0, none⟩)
  | 4 => v = .pointer (some ⟨G, 0, none⟩)
  | 5 => v = parV p
  | 6 => v = .pointer (some ⟨Z, 0, none⟩)
  | 7 => v = .pointer (some ⟨Z, 8, none⟩)
  | 8 => v = .agg #[.int .i64 x.m.slo, .int .i64 x.m.shi]
  | 9 => v = .pointer (some ⟨Z, 14, none⟩)
  | 10 => v = .int .i64 x.age
  | 11 => v = .agg #[.int .i64 y1, .int .i64 y2]
  | 12 => ∃ g : Nat, v = .slice (some ⟨g, 0, none⟩) 1 1 ∧ Own w g #[.int .i64 y1, .int .i64 y2]
  | _ => v = .bool true
/-- It stays so. -/
def VCTolB (G Z : Nat) (p : Par) (x : HA) (A5 : Option Addr) (m5 q5 : Nat) (y1 y2 : Int) (i : Nat) (v : Value) (w : World) : Prop := ∀ w', Ok w w' → VMTolB G Z p x A5 m5 q5 y1 y2 w' v i
theorem Outs.heards {K : Nat} {w : World} {A : Option Addr} {c : Nat} {o : List HA} (h : Outs K w (.slice A o.length c) o) : HeardsAt w A o := by
  obtain ⟨A2, c2, e, h2⟩ := heards_of_row rfl h.row (fun x hx => ((h.tabs x hx).pairs).1)
  cases e
  exact h2
theorem spanInfo22 : (Tryz.prog.info? 25).map (fun i => (i.zero, i.size, i.bytes)) = some (some (.agg #[.int .i64 0, .int .i64 0]), 2, 16) := by kernel_rfl
theorem exec_append22 {o : Oper} {a : Act} {w w' : World} {s x : Operand} {t : TypeId} {v v1 v2 : Value} (ho : o.op = .call { callee := .builtin .append, args := #[s, x], argTypes := #[t, t] }) (hs : a.eval s = v1) (hx : a.eval x = v2) (hr : (Builtin.append_ #[t, t] o.type #[v1, v2]).run Tryz.prog w = .ok v w') :
    (execOp a.eval o).run Tryz.prog w = .ok (.value v) w' := by
  unfold execOp
  simp only [ho, resolve, invoke, builtin, Sem.run_bind, Sem.run_pure, Result.andThen_ok, List.map_toArray, List.map_cons, List.map_nil, hs, hx, hr]
theorem Gate.ways_snoc (p : Par) (l : List Hd) (h : Hd) : Gate.ways p (l ++ [h]) = if h.m.ref = true then Gate.ways p l ++ [Gate.way p h] else Gate.ways p l := by
  unfold Gate.ways
  rw [List.filter_append, List.map_append]
  cases e : h.m.ref <;> simp [e]
/-- The spans that are told, in a row of one's own. -/
def WaysRow (K : Nat) (w : World) (v : Value) (l : List (Int × Int)) : Prop := w.ownsRow K 25 2 v l.length (cellsOfPairs l)
/-- What told leaves. -/
def WaysEnd (p : Par) (me : Int) (l : List HA) (w : World) (e : Ending) (w' : World) : Prop := ∃ (A : Option Addr) (c : Nat), e = .returned (.slice A (Gate.ways p (Gate.told p me (l.map HA.hd))).length c) ∧ WaysRow w.heap.size w' (.slice A (Gate.ways p (Gate.told p me (l.map HA.hd))).length c) (Gate.ways p (Gate.told p me (l.map HA.hd))) ∧ Ok w w'
set_option maxHeartbeats 6400000 in
theorem gateWays (G : Nat) (p : Par) (me : Int) (s : Sta) (A : Option Addr) (cap0 : Nat) (B : Option Addr) (l : List HA) (cap : Nat) (w : World) (hO : Own w G (gateCells me p s A cap0)) (hB : HeardsAt w B l) (hl : l.length ≤ 1000) (hf : ∀ x ∈ l, x.m.table.length ≤ 8796093022208) :
    Calls Tryz.prog 39 #[.pointer (some ⟨G, 0, none⟩), .slice B l.length cap] w (WaysEnd p me l w) := by
  unfold WaysEnd
  have KT := Lib.hid fun W' (k : Ok w.drew W') => gateTold p me B l cap W' (hB.below ((Ok.refl w).drew.trans k)) hl hf
  have HQ := Lib.hid fun W' (k : Ok w.drew W') => hO.drew.next k
  have HQ2 := Lib.hid fun W' (k : Ok w W') => hO.next k
  have hN16 := Gate.told_cnt p me (l.map HA.hd)
  obtain ⟨L, hL⟩ : ∃ L, Gate.told p me (l.map HA.hd) = L := ⟨_, rfl⟩
  obtain ⟨N, hN⟩ : ∃ N, L.length = N := ⟨_, rfl⟩
  rw [hL] at hN16 ⊢
  have HL := Lib.hid hL
  have HN := Lib.hid hN
  rw [hN] at hN16
  obtain ⟨SL, hSL⟩ : ∃ SL, Gate.ways p L = SL := ⟨_, rfl⟩
  rw [hSL]
  have HSL := Lib.hid hSL
  clear hO hB hf hL hN hSL hl
  go_enter Tryz.func39, Tryz.ntmps39
  go_upto_region 2 with fail
  refine wp_region_facts (by kernel_rfl) 43 rfl (VCTolA G p me s A cap0 B l cap N L) Ok (by kernel_rfl) (fun i v w w' h k w'' k' => h w'' (k.trans k')) (fun a b c => Ok.trans) (Ok.refl _) [some 8, some 9, some 10, some 11, some 12, some 13, some 14, some 15, some 16, some 17, some 18, some 19, some 20] rfl 13 rfl ⟨?_, ?_, ?_, ?_, ?_, ?_, ?_, ?_, ?_, ?_, ?_, ?_, ?_, trivial⟩ ?_
  · intro a' w' hF hR
    have e0 : a'.tmps[0]? = some (.pointer (some ⟨G, 0, none⟩)) := hF.slot 0 (by kernel_rfl) rfl
    refine wpOp_run (v := .pointer (some ⟨G, 0, none⟩)) rfl rfl ?_ (fun _ _ => rfl) (Ok.refl _)
    clear hF
    go_simp
  · intro a' w' hF hR
    obtain ⟨v0, hv0, e8⟩ := hF.get 0 8 (by kernel_rfl) (by kernel_rfl)
    obtain rfl : v0 = _ := hv0 _ (Ok.refl _)
    refine wpOp_run (v := .pointer (some ⟨G, 0, none⟩)) rfl rfl ?_ (fun _ _ => rfl) (Ok.refl _)
    clear hF
    go_simp
  · intro a' w' hF hR
    obtain ⟨v1, hv1, e9⟩ := hF.get 1 9 (by kernel_rfl) (by kernel_rfl)
    obtain rfl : v1 = _ := hv1 _ (Ok.refl _)
    refine wpOp_run (v := .pointer (some ⟨G, 0, none⟩)) rfl rfl ?_ (fun _ _ => rfl) (Ok.refl _)
    clear hF
    go_simp
  · intro a' w' hF hR
    obtain ⟨v2, hv2, e10⟩ := hF.get 2 10 (by kernel_rfl) (by kernel_rfl)
    obtain rfl : v2 = _ := hv2 _ (Ok.refl _)
    refine wpOp_run (v := .pointer (some ⟨G, 0, none⟩)) rfl rfl ?_ (fun _ _ => rfl) (Ok.refl _)
    clear hF
    go_simp
  · intro a' w' hF hR
    obtain ⟨v3, hv3, e11⟩ := hF.get 3 11 (by kernel_rfl) (by kernel_rfl)
    obtain rfl : v3 = _ := hv3 _ (Ok.refl _)
    obtain ⟨c0, c1, c2, c3, c4, c5, c6, c7, c8, c9, c10, c11⟩ := (HQ.out _ hR).frP
    have hgl := (HQ.out _ hR).lt
    refine wpOp_run (v := parV p) rfl rfl ?_ (fun _ _ => rfl) (Ok.refl _)
    clear hF
    go_simp
  · intro a' w' hF hR
    have e0 : a'.tmps[0]? = some (.pointer (some ⟨G, 0, none⟩)) := hF.slot 0 (by kernel_rfl) rfl
    refine wpOp_run (v := .pointer (some ⟨G, 0, none⟩)) rfl rfl ?_ (fun _ _ => rfl) (Ok.refl _)
    clear hF
    go_simp
  · intro a' w' hF hR
    obtain ⟨v5, hv5, e13⟩ := hF.get 5 13 (by kernel_rfl) (by kernel_rfl)
    obtain rfl : v5 = _ := hv5 _ (Ok.refl _)
    refine wpOp_run (v := .pointer (some ⟨G, 0, none⟩)) rfl rfl ?_ (fun _ _ => rfl) (Ok.refl _)
    clear hF
    go_simp
  · intro a' w' hF hR
    obtain ⟨v6, hv6, e14⟩ := hF.get 6 14 (by kernel_rfl) (by kernel_rfl)
    obtain rfl : v6 = _ := hv6 _ (Ok.refl _)
    refine wpOp_run (v := .pointer (some ⟨G, 23, none⟩)) rfl rfl ?_ (fun _ _ => rfl) (Ok.refl _)
    clear hF
    go_simp
  · intro a' w' hF hR
    obtain ⟨v7, hv7, e15⟩ := hF.get 7 15 (by kernel_rfl) (by kernel_rfl)
    obtain rfl : v7 = _ := hv7 _ (Ok.refl _)
    have c23 := (HQ.out _ hR).atL 23 (v := .int .i64 me) rfl
    have hgl := (HQ.out _ hR).lt
    refine wpOp_run (v := .int .i64 me) rfl rfl ?_ (fun _ _ => rfl) (Ok.refl _)
    clear hF
    go_simp
  · intro a' w' hF hR
    have e1 : a'.tmps[1]? = some (.slice B l.length cap) := hF.slot 1 (by kernel_rfl) rfl
    refine wpOp_run (v := .slice B l.length cap) rfl rfl ?_ (fun _ _ => rfl) (Ok.refl _)
    clear hF
    go_simp
  · intro a' w' hF hR
    obtain ⟨v4, hv4, e12⟩ := hF.get 4 12 (by kernel_rfl) (by kernel_rfl)
    obtain rfl : v4 = _ := hv4 _ (Ok.refl _)
    obtain ⟨v8, hv8, e16⟩ := hF.get 8 16 (by kernel_rfl) (by kernel_rfl)
    obtain rfl : v8 = _ := hv8 _ (Ok.refl _)
    obtain ⟨v9, hv9, e17⟩ := hF.get 9 17 (by kernel_rfl) (by kernel_rfl)
    obtain rfl : v9 = _ := hv9 _ (Ok.refl _)
    clear hF
    refine wpOp_call (f := 13) (args := #[parV p, .int .i64 me, .slice B l.length cap]) rfl rfl ?_ ((KT.out _ hR).mono ?_)
    · go_simp
    · rintro e w2 ⟨A0, c0, o, rfl, e2, hO2, hb2⟩
      have hoN : o.length = N := by rw [← HN.out, ← HL.out, ← e2, List.length_map]
      exact ⟨_, rfl, fun w3 k => ⟨A0, c0, o, by rw [hoN], hoN, e2.trans HL.out, hO2.heards.below k⟩, hb2⟩
  · intro a' w' hF hR
    obtain ⟨v10, hv10, e18⟩ := hF.get 10 18 (by kernel_rfl) (by kernel_rfl)
    obtain ⟨A0, c0, o, rfl, -⟩ := hv10 _ (Ok.refl _)
    refine wpOp_run (v := .int .i64 (N : Int)) rfl rfl ?_ (fun _ _ => rfl) (Ok.refl _)
    clear hF
    go_simp
  · intro a' w' hF hR
    refine wpOp_run (v := .int .i64 0) rfl rfl ?_ (fun _ _ => rfl) (Ok.refl _)
    clear hF
    go_simp
  intro vs w2 hV hR
  obtain ⟨A0, c0, os, e10, hoN, hoL, hHA⟩ := hV 10 (by decide) _ (Ok.refl _)
  have e11 : vs 11 = .int .i64 (N : Int) := hV 11 (by decide) _ (Ok.refl _)
  have e12 : vs 12 = .int .i64 0 := hV 12 (by decide) _ (Ok.refl _)
  have hok2 := (Ok.refl w).drew.trans hR
  have HH := Lib.hid hHA
  have HOL := Lib.hid hoL
  have HON := Lib.hid hoN
  clear hV KT HQ hHA hoL hoN
  simp only [putFrom, e10, e11, e12]
  simp only [Act.put, List.setIfInBounds_toArray, List.set_cons_zero, List.set_cons_succ]
  generalize vs 0 = x30
  generalize vs 1 = x31
  generalize vs 2 = x32
  generalize vs 3 = x33
  generalize vs 4 = x34
  generalize vs 5 = x35
  generalize vs 6 = x36
  generalize vs 7 = x37
  generalize vs 8 = x38
  generalize vs 9 = x39
  clear hR e10 e11 e12 vs
  have HOK2 := Lib.hid hok2
  clear hok2
  go_wp2_with fail
  go_loopw [5, 20] (fun v i wr => ∃ k : Nat, k ≤ N ∧ i = .int .i64 k ∧ WaysRow w2.heap.size wr v (Gate.ways p (L.take k)) ∧ Ok w2 wr) (fun _ i _ => N - (intOf i).toNat)
  case atStart => exact ⟨0, Nat.zero_le _, rfl, World.ownsRow_nil _ _ _ _, Ok.refl _⟩
  case round =>
    obtain ⟨k, hk, rfl, hrow, hok⟩ := hrel
    by_cases hlt : k < N
    · have hko : k < os.length := by rw [HON.out]; exact hlt
      obtain ⟨b, off, hA2, hb, hcx⟩ := (HH.out.below hok).nthAt k hko
      obtain ⟨x, hx⟩ : ∃ x, os[k] = x := ⟨_, rfl⟩
      have HSN : Hid (Gate.ways p (L.take (k + 1)) = if x.m.ref = true then Gate.ways p (L.take k) ++ [Gate.way p x.hd] else Gate.ways p (L.take k)) := Lib.hid (by
        have hkl : k < L.length := by rw [HN.out]; exact hlt
        rw [List.take_succ_eq_append_getElem hkl, Gate.ways_snoc]
        have : L[k] = x.hd := by rw [← hx]; simp [← HOL.out]
        rw [this]
        rfl)
      have HWL : Hid ((Gate.ways p (L.take k)).length ≤ 1000) := Lib.hid (by have := Gate.ways_few p (L.take k); rw [List.length_take] at this; omega)
      obtain ⟨t0, t1, t2, t3, t4, t5, t6, t7, t8, t9, t10, t11, t12, t13, t14⟩ := hcx x hx
      subst hA2
      clear hcx hx hko
      go_upto_region 5 with fail
      clear t0 t1 t2 t3 t4 t5 t6 t7 t8 t9 t10 t11 t12 t13 t14 hb
      have hZ := Own.new wr #[.int .i64 x.m.kind, .int .i64 x.m.frm, .int .i64 x.m.lo, .int .i64 x.m.hi, .int .i64 x.m.held, .int .i64 x.m.hops, .bool x.m.good, .bool x.m.ref, .int .i64 x.m.slo, .int .i64 x.m.shi, .int .i64 x.m.pulse, .int .i64 x.m.time, .int .i64 x.m.num, .slice x.A x.m.table.length x.cap, .int .i64 x.age] 49 rfl
      replace hrow := World.ownsRow.alloc hrow (.cells #[.int .i64 x.m.kind, .int .i64 x.m.frm, .int .i64 x.m.lo, .int .i64 x.m.hi, .int .i64 x.m.held, .int .i64 x.m.hops, .bool x.m.good, .bool x.m.ref, .int .i64 x.m.slo, .int .i64 x.m.shi, .int .i64 x.m.pulse, .int .i64 x.m.time, .int .i64 x.m.num, .slice x.A x.m.table.length x.cap, .int .i64 x.age] 49)
      replace hok := hok.alloc (.cells #[.int .i64 x.m.kind, .int .i64 x.m.frm, .int .i64 x.m.lo, .int .i64 x.m.hi, .int .i64 x.m.held, .int .i64 x.m.hops, .bool x.m.good, .bool x.m.ref, .int .i64 x.m.slo, .int .i64 x.m.shi, .int .i64 x.m.pulse, .int .i64 x.m.time, .int .i64 x.m.num, .slice x.A x.m.table.length x.cap, .int .i64 x.age] 49)
      change Code.wp _ _ _ _ (wr.alloc (.cells #[.int .i64 x.m.kind, .int .i64 x.m.frm, .int .i64 x.m.lo, .int .i64 x.m.hi, .int .i64 x.m.held, .int .i64 x.m.hops, .bool x.m.good, .bool x.m.ref, .int .i64 x.m.slo, .int .i64 x.m.shi, .int .i64 x.m.pulse, .int .i64 x.m.time, .int .i64 x.m.num, .slice x.A x.m.table.length x.cap, .int .i64 x.age] 49))
      generalize wr.alloc (.cells #[.int .i64 x.m.kind, .int .i64 x.m.frm, .int .i64 x.m.lo, .int .i64 x.m.hi, .int .i64 x.m.held, .int .i64 x.m.hops, .bool x.m.good, .bool x.m.ref, .int .i64 x.m.slo, .int .i64 x.m.shi, .int .i64 x.m.pulse, .int .i64 x.m.time, .int .i64 x.m.num, .slice x.A x.m.table.length x.cap, .int .i64 x.age] 49) = W3 at hZ hrow hok ⊢
      generalize wr.heap.size = Z at hZ ⊢
      have z7 := hZ.cell 7 rfl
      have hZl := hZ.lt
      cases href : x.m.ref with
      | false =>
        rw [href] at z7
        have hex : Gate.ways p (L.take k) = Gate.ways p (L.take (k + 1)) := by rw [HSN.out, href]; simp
        rw [hex] at hrow
        go_wp2_with fail
        go_roundw
        case rel => exact ⟨k + 1, hlt, by go_num, hrow, hok⟩
        case measure => simp [intOf]; omega
      | true =>
        rw [href] at z7
        have hex : Gate.ways p (L.take (k + 1)) = Gate.ways p (L.take k) ++ [Gate.way p x.hd] := by rw [HSN.out, href]; simp
        go_upto_region 6 with fail
        clear z7 hZl
        obtain ⟨A5, m5, q5, rfl⟩ := row_slice22 hrow
        obtain ⟨⟨y1, y2⟩, hy⟩ : ∃ y, Gate.way p x.hd = y := ⟨_, rfl⟩
        have KW := Lib.hid fun w => carryWay p x.m.slo x.m.shi x.age w
        rw [show Carry.way p (x.m.slo, x.m.shi) x.age = (y1, y2) from hy] at KW
        rw [hy] at hex
        have hm5 : m5 = (Gate.ways p (L.take k)).length := by
          rcases hrow.2 with ⟨e, e0⟩ | ⟨g, c, cur, e, _⟩
          · cases e; exact e0.symm
          · cases e; rfl
        have HM5 : Hid (m5 ≤ 1000) := Lib.hid (by rw [hm5]; exact HWL.out)
        have HNX : Hid (∀ A8 q8 w8, w8.ownsRow w2.heap.size 25 2 (.slice A8 (m5 + 1) q8) (m5 + 1) (cellsOfPairs (Gate.ways p (L.take k)) ++ (#[.int .i64 y1, .int .i64 y2] : Array Value).toList) → WaysRow w2.heap.size w8 (.slice A8 (m5 + 1) q8) (Gate.ways p (L.take (k + 1)))) := Lib.hid fun A8 q8 w8 h => by
          unfold WaysRow
          rw [hex, List.length_append, cells_pairs_append, ← hm5]
          exact h
        have HROW := Lib.hid fun W' (j : Ok W3.drew W') => row_next19 (show W3.ownsRow w2.heap.size 25 2 (.slice A5 m5 q5) m5 (cellsOfPairs (Gate.ways p (L.take k))) by rw [hm5]; rw [hm5] at hrow; exact hrow) ((Ok.refl W3).drew.trans j)
        obtain ⟨K, hKe⟩ : ∃ K, w2.heap.size = K := ⟨_, rfl⟩
        have HK := Lib.hid fun W' (j : Ok W3.drew W') => (hKe ▸ (hok.trans ((Ok.refl W3).drew.trans j)).size : K ≤ W'.heap.size)
        have HKW : Hid (w2.heap.size = K) := Lib.hid hKe
        rw [hKe] at HROW HNX
        have HQ := Lib.hid fun W' (j : Ok W3.drew W') => HQ2.out _ ((HOK2.out.trans hok).trans ((Ok.refl W3).drew.trans j))
        have HZ := Lib.hid fun W' (j : Ok W3.drew W') => hZ.drew.next j
        have HOK := Lib.hid hok
        clear hrow hok hZ hex hy hm5 HWL HSN hKe
        refine wp_region_facts_chainO (by kernel_rfl) 8 43 rfl (VCTolB G Z p x A5 m5 q5 y1 y2) Ok _ 13 rfl rfl (by decide) (by kernel_rfl) (by kernel_rfl) (by kernel_rfl) (by kernel_rfl) (fun i v w w' h k w'' k' => h w'' (k.trans k')) (fun a b c => Ok.trans) (Ok.refl _) [some 27, some 28, some 29, some 30, some 31, some 32, some 33, some 34, some 35, some 36, some 37, some 38, some 39] rfl _ rfl ⟨?_, ?_, ?_, ?_, ?_, ?_, ?_, ?_, ?_, ?_, ?_, ?_, ?_, trivial⟩ ?_
        · intro a' w' hF hO hR
          have e5 : a'.tmps[5]? = some (.slice A5 m5 q5) := hO.slot 5 (by kernel_rfl) rfl
          refine wpOp_run (v := .slice A5 m5 q5) rfl rfl ?_ (fun _ _ => rfl) (Ok.refl _)
          clear hF
          go_simp
        · intro a' w' hF hO hR
          have e0 : a'.tmps[0]? = some (.pointer (some ⟨G, 0, none⟩)) := hF.slot 0 (by kernel_rfl) rfl
          refine wpOp_run (v := .pointer (some ⟨G, 0, none⟩)) rfl rfl ?_ (fun _ _ => rfl) (Ok.refl _)
          clear hF
          go_simp
        · intro a' w' hF hO hR
          obtain ⟨v1, hv1, e28⟩ := hF.get 1 28 (by kernel_rfl) (by kernel_rfl)
          obtain rfl : v1 = _ := hv1 _ (Ok.refl _)
          refine wpOp_run (v := .pointer (some ⟨G, 0, none⟩)) rfl rfl ?_ (fun _ _ => rfl) (Ok.refl _)
          clear hF
          go_simp
        · intro a' w' hF hO hR
          obtain ⟨v2, hv2, e29⟩ := hF.get 2 29 (by kernel_rfl) (by kernel_rfl)
          obtain rfl : v2 = _ := hv2 _ (Ok.refl _)
          refine wpOp_run (v := .pointer (some ⟨G, 0, none⟩)) rfl rfl ?_ (fun _ _ => rfl) (Ok.refl _)
          clear hF
          go_simp
        · intro a' w' hF hO hR
          obtain ⟨v3, hv3, e30⟩ := hF.get 3 30 (by kernel_rfl) (by kernel_rfl)
          obtain rfl : v3 = _ := hv3 _ (Ok.refl _)
          refine wpOp_run (v := .pointer (some ⟨G, 0, none⟩)) rfl rfl ?_ (fun _ _ => rfl) (Ok.refl _)
          clear hF
          go_simp
        · intro a' w' hF hO hR
          obtain ⟨v4, hv4, e31⟩ := hF.get 4 31 (by kernel_rfl) (by kernel_rfl)
          obtain rfl : v4 = _ := hv4 _ (Ok.refl _)
          obtain ⟨c0, c1, c2, c3, c4, c5, c6, c7, c8, c9, c10, c11⟩ := (HQ.out _ hR).frP
          have hgl := (HQ.out _ hR).lt
          refine wpOp_run (v := parV p) rfl rfl ?_ (fun _ _ => rfl) (Ok.refl _)
          clear hF
          go_simp
        · intro a' w' hF hO hR
          have e7 : a'.tmps[7]? = some (.pointer (some ⟨Z, 0, none⟩)) := hF.slot 7 (by kernel_rfl) rfl
          refine wpOp_run (v := .pointer (some ⟨Z, 0, none⟩)) rfl rfl ?_ (fun _ _ => rfl) (Ok.refl _)
          clear hF
          go_simp
        · intro a' w' hF hO hR
          obtain ⟨v6, hv6, e33⟩ := hF.get 6 33 (by kernel_rfl) (by kernel_rfl)
          obtain rfl : v6 = _ := hv6 _ (Ok.refl _)
          refine wpOp_run (v := .pointer (some ⟨Z, 8, none⟩)) rfl rfl ?_ (fun _ _ => rfl) (Ok.refl _)
          clear hF
          go_simp
        · intro a' w' hF hO hR
          obtain ⟨v7, hv7, e34⟩ := hF.get 7 34 (by kernel_rfl) (by kernel_rfl)
          obtain rfl : v7 = _ := hv7 _ (Ok.refl _)
          have z8 := (HZ.out _ hR).cell 8 rfl
          have z9 := (HZ.out _ hR).cell 9 rfl
          have hzl := (HZ.out _ hR).lt
          refine wpOp_run (v := .agg #[.int .i64 x.m.slo, .int .i64 x.m.shi]) rfl rfl ?_ (fun _ _ => rfl) (Ok.refl _)
          clear hF
          go_simp
        · intro a' w' hF hO hR
          have e7 : a'.tmps[7]? = some (.pointer (some ⟨Z, 0, none⟩)) := hF.slot 7 (by kernel_rfl) rfl
          refine wpOp_run (v := .pointer (some ⟨Z, 14, none⟩)) rfl rfl ?_ (fun _ _ => rfl) (Ok.refl _)
          clear hF
          go_simp
        · intro a' w' hF hO hR
          obtain ⟨v9, hv9, e36⟩ := hF.get 9 36 (by kernel_rfl) (by kernel_rfl)
          obtain rfl : v9 = _ := hv9 _ (Ok.refl _)
          have z14 := (HZ.out _ hR).cell 14 rfl
          have hzl := (HZ.out _ hR).lt
          refine wpOp_run (v := .int .i64 x.age) rfl rfl ?_ (fun _ _ => rfl) (Ok.refl _)
          clear hF
          go_simp
        · intro a' w' hF hO hR
          obtain ⟨v5, hv5, e32⟩ := hF.get 5 32 (by kernel_rfl) (by kernel_rfl)
          obtain rfl : v5 = _ := hv5 _ (Ok.refl _)
          obtain ⟨v8, hv8, e35⟩ := hF.get 8 35 (by kernel_rfl) (by kernel_rfl)
          obtain rfl : v8 = _ := hv8 _ (Ok.refl _)
          obtain ⟨v10, hv10, e37⟩ := hF.get 10 37 (by kernel_rfl) (by kernel_rfl)
          obtain rfl : v10 = _ := hv10 _ (Ok.refl _)
          clear hF
          refine wpOp_call (f := 71) (args := #[parV p, .agg #[.int .i64 x.m.slo, .int .i64 x.m.shi], .int .i64 x.age]) rfl rfl ?_ ((KW.out _).mono ?_)
          · go_simp
          · rintro e w2 ⟨rfl, hb2⟩; exact ⟨_, rfl, fun _ _ => rfl, hb2⟩
        · intro a' w' hF hO hR
          obtain ⟨v11, hv11, e38⟩ := hF.get 11 38 (by kernel_rfl) (by kernel_rfl)
          obtain rfl : v11 = _ := hv11 _ (Ok.refl _)
          refine wpOp_run (v := .slice (some ⟨w'.heap.size, 0, none⟩) 1 1) (w' := w'.alloc (.cells #[.int .i64 y1, .int .i64 y2] 25)) rfl rfl ?_ (fun w'' k => ⟨_, rfl, (Own.new _ _ _ rfl).next k⟩) ((Ok.refl _).alloc _)
          clear hF
          go_simp
        intro vs W' hvs hR
        have e0 : vs 0 = .slice A5 m5 q5 := hvs 0 (by decide) _ (Ok.refl _)
        obtain ⟨gb, e12, hB⟩ := hvs 12 (by decide) _ (Ok.refl _)
        have hrow := HROW.out _ hR
        obtain ⟨A8, q8, w8, hrun, hown, hgrow, -⟩ := run_append_one (P := Tryz.prog) (t := 90) (e := 25) Tryz.underlying90 spanInfo22 rfl (by decide) (by decide) (B := K) (HK.out _ hR) hrow hB rfl (by intro u hu; simp at hu; rcases hu with rfl | rfl <;> rfl) (by have := HM5.out; omega) 90
        have hok8 := Below.grown ((HOK.out.trans (Ok.refl _).drew).trans hR) hgrow ((HOK.out.trans (Ok.refl _).drew).trans hR).size (fun g e => Nat.le_trans (Nat.le_of_eq HKW.out) (row_far22 hrow g e))
        have hown8 := HNX.out A8 q8 w8 hown
        clear hvs HQ HZ HOK HROW HK KW hB hrow hown hgrow HNX
        simp only [putFrom, e0, e12]
        simp only [Act.put, List.setIfInBounds_toArray, List.set_cons_zero, List.set_cons_succ]
        refine wpOp_leaves (o := ⟨some 40, _, _, _, _, none⟩) (v := .slice A8 (m5 + 1) q8) (w' := w8) rfl rfl (exec_append22 rfl rfl rfl hrun) ?_
        simp only [Act.put, List.setIfInBounds_toArray, List.set_cons_zero, List.set_cons_succ]
        refine wpOp_leaves (o := ⟨some 5, _, _, _, _, none⟩) (v := .slice A8 (m5 + 1) q8) (w' := w8) rfl rfl (by go_simp) ?_
        simp only [TailFrom, Act.put, List.setIfInBounds_toArray, List.set_cons_zero, List.set_cons_succ]
        generalize vs 1 = x21
        generalize vs 2 = x22
        generalize vs 3 = x23
        generalize vs 4 = x24
        generalize vs 5 = x25
        generalize vs 6 = x26
        generalize vs 7 = x27
        generalize vs 8 = x28
        generalize vs 9 = x29
        generalize vs 10 = x30
        generalize vs 11 = x31
        clear hR hrun e0 e12 vs
        go_wp2_with fail
        go_roundw
        case rel => exact ⟨k + 1, hlt, by go_num, by rw [HKW.out]; exact hown8, hok8⟩
        case measure => simp [intOf]; omega
    · have hkN : k = N := by omega
      subst hkN
      have hex : Gate.ways p (L.take k) = SL := by rw [← HSL.out, ← HN.out, List.take_length]
      rw [hex] at hrow
      obtain ⟨A5, c5, rfl, -⟩ := PairsAt.of_own (show wr.ownsRow w2.heap.size 25 2 _ SL.length (cellsOfPairs SL) from hrow)
      have HR := Lib.hid hrow
      clear hrow hlt hk
      go_wp2_with fail
      go_ret
      exact ⟨A5, c5, rfl, row_low19 HR.out HOK2.out.size, HOK2.out.trans hok⟩
end Go.Proofs.YtmmiboblofopgaaGreat
