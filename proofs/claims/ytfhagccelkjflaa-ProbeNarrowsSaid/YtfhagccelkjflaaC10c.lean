/- Contracts of layer 10: Right and Best; what every law asks first; the law's ahead. -/
import Derived.Test.YtfhagccelkjflaaC10b
import Derived.Test.YtfhagccelkjflaaW20
namespace Go.Proofs.Ytfhagccelkjflaa
open Go.RowKit
set_option maxRecDepth 100000
attribute [local go_sem ↓] Go.wp_at_zero Go.wp_at_succ
theorem probeRight (p : Par) (t : Trp) (w : World) : Calls Try.prog 10 #[parV p, tripV t] w fun e w' => e = .returned (.bool (decide ((Probe.ah p t).1 ≤ (Probe.ah p t).2))) ∧ Ok w w' := by
  have hok := Ok.refl w
  have K := Lib.hid fun w => probeAhead p t w
  obtain ⟨a, ha⟩ : ∃ a, (Probe.ah p t).1 = a := ⟨_, rfl⟩
  obtain ⟨b, hb⟩ : ∃ a, (Probe.ah p t).2 = a := ⟨_, rfl⟩
  rw [ha, hb] at K ⊢
  clear ha hb
  by_cases h : a ≤ b
  · rw [decide_eq_true h]
    have KE := Lib.hid fun w => spanEmptyF a b h w
    clear h
    go_enter Try.func10, Try.ntmps10
    go_wp2_with (first | (go_at_call 9; (with_reducible refine (K.out _).mono ?_); rintro e w1 ⟨rfl, hb1⟩; replace hok := ((hok.alloc _).alloc _).trans hb1; clear hb1) | (go_at_call 20; (with_reducible refine (KE.out _).mono ?_); rintro e w2 ⟨rfl, hb1⟩; replace hok := hok.trans hb1; clear hb1))
    go_ret
    exact ⟨rfl, hok⟩
  · rw [decide_eq_false h]
    have KE := Lib.hid fun w => spanEmptyT a b (by omega) w
    clear h
    go_enter Try.func10, Try.ntmps10
    go_wp2_with (first | (go_at_call 9; (with_reducible refine (K.out _).mono ?_); rintro e w1 ⟨rfl, hb1⟩; replace hok := ((hok.alloc _).alloc _).trans hb1; clear hb1) | (go_at_call 20; (with_reducible refine (KE.out _).mono ?_); rintro e w2 ⟨rfl, hb1⟩; replace hok := hok.trans hb1; clear hb1))
    go_ret
    exact ⟨rfl, hok⟩
theorem law10Ahead (p : Par) (t : Trp) (w : World) : Calls Try.prog 8 #[parV p, tripV t] w fun e w' => e = .returned (spanV (Probe.ah p t).1 (Probe.ah p t).2) ∧ Ok w w' := by
  have K := Lib.hid fun w => ref10Ahead p t w
  obtain ⟨x, hx⟩ : ∃ a, (Probe.ah p t).1 = a := ⟨_, rfl⟩
  obtain ⟨y, hy⟩ : ∃ a, (Probe.ah p t).2 = a := ⟨_, rfl⟩
  rw [hx, hy] at K ⊢
  clear hx hy
  have HZ := Lib.hid (Slab.new ((w.alloc (.cells (parCells p) 23)).alloc (.cells (tripCells t) 25)) 0 0 28 (g := w.heap.size + 1 + 1) (by simp))
  have HK := Lib.hid ((((Ok.refl w).alloc (.cells (parCells p) 23)).alloc (.cells (tripCells t) 25)).alloc (.cells #[.int .i64 0, .int .i64 0] 28))
  have hrw : w.heap.size ≤ w.heap.size + 1 + 1 := by omega
  go_enter Try.func8, Try.ntmps8
  go_wp2_with (go_at_call 14; (with_reducible refine (K.out _).mono ?_); rintro e w1 ⟨rfl, hb1⟩; have hR := HZ.out.next hb1; have hok := HK.out.trans hb1; clear hb1 HZ HK; have f0 := hR.f0; have f1 := hR.f1; have c0 := hR.c0; have c1 := hR.c1)
  have hX := hR.set x y
  have hok3 := (hok.setCell (p := ⟨w.heap.size + 1 + 1, 0, none⟩) hrw (.int .i64 x)).setCell (p := ⟨w.heap.size + 1 + 1, 1, none⟩) hrw (.int .i64 y)
  generalize (w1.setCell ⟨w.heap.size + 1 + 1, 0, none⟩ (.int .i64 x)).setCell ⟨w.heap.size + 1 + 1, 1, none⟩ (.int .i64 y) = W4 at hX hok3 ⊢
  have s0 := hX.c0
  have s1 := hX.c1
  exact bodyPost_ret (v := spanV x y) (by simp [results, Try.results8, go_sem, s0, s1]) rfl ⟨rfl, hok3⟩
def par10 : Par := ⟨0, 0, 0, 0, 0, 100, 10, 0, 0, 0, 0, 0⟩
theorem law10Alive (w : World) : Calls Try.prog 7 #[] w fun e w' => e = .returned (.bool true) ∧ Ok w w' := by
  have hok := Ok.refl w
  have K := Lib.hid fun w => probeAhead par10 ⟨0, 1095, 1200, 300⟩ w
  have e : Probe.ah par10 ⟨0, 1095, 1200, 300⟩ = (995, 1000) := by decide +kernel
  rw [e] at K
  clear e
  have hz : ∀ w, Sem.run Try.prog (zeroValue 23) w = .ok (.agg #[.int .i64 0, .int .i64 0, .int .i64 0, .int .i64 0, .int .i64 0, .int .i64 0, .int .i64 0, .int .i64 0, .int .i64 0, .int .i64 0, .int .i64 0, .int .i64 0]) w := fun w => by kernel_rfl
  go_enter Try.func7, Try.ntmps7
  go_wp2_with (go_at_call 9; (refine (K.out _).mono ?_); rintro e w1 ⟨rfl, hb1⟩; replace hok := hok.trans hb1; clear hb1)
  go_ret
  exact ⟨rfl, hok⟩
/-- A trip's cells. -/
def tripL (t : Trp) : List Value := [.int .i64 t.asked, .int .i64 t.got, .int .i64 t.said, .int .i64 t.heard]
theorem tripL_len : ∀ t, (tripL t).length = 4 := fun _ => rfl
def tripok (t : Trp) : Prop := ((Lit.int .i64 t.asked).wf = true ∧ (Lit.int .i64 t.got).wf = true) ∧ (Lit.int .i64 t.said).wf = true ∧ (Lit.int .i64 t.heard).wf = true
def tripkinds : List Kind := [.int, .int, .int, .int]
abbrev tripcells := tripL
theorem triplen : ∀ t, (tripL t).length = tripkinds.length := fun _ => rfl
theorem tripof : ∀ r, Kind.rows tripkinds r → ∃ t, r = tripL t ∧ tripok t
  | [x, y, z, u], ⟨⟨a, ha, ha'⟩, ⟨b, hb, hb'⟩, ⟨c, hc, hc'⟩, ⟨d, hd, hd'⟩, _⟩ => ⟨⟨a, b, c, d⟩, by rw [ha, hb, hc, hd]; rfl, ⟨ha', hb'⟩, hc', hd'⟩
  | [], h => h.elim
  | [_], h => h.2.elim
  | [_, _], h => h.2.2.elim
  | [_, _, _], h => h.2.2.2.elim
  | _ :: _ :: _ :: _ :: _ :: _, h => h.2.2.2.2.elim
theorem trip_at {w : World} {A : Option Addr} {l : List Trp} (h : CellsAt w A (l.flatMap tripL)) (k : Nat) (hk : k < l.length) :
    ∃ b off, A = some ⟨b, off, none⟩ ∧ b < w.heap.size ∧ w.cell? ⟨b, off + k * 4, none⟩ = some (.int .i64 l[k].asked) ∧ w.cell? ⟨b, off + k * 4 + 1, none⟩ = some (.int .i64 l[k].got) ∧ w.cell? ⟨b, off + k * 4 + 2, none⟩ = some (.int .i64 l[k].said) ∧ w.cell? ⟨b, off + k * 4 + 3, none⟩ = some (.int .i64 l[k].heard) := by
  obtain ⟨b, off, e, hlt, hc⟩ := h.at tripL_len (by decide) k hk
  exact ⟨b, off, e, hlt, hc 0 _ rfl, hc 1 _ rfl, hc 2 _ rfl, hc 3 _ rfl⟩
/-- What each operation leaves. -/
def VMBe (x y _b1 _b2 _wx _wb : Int) (_w : World) (v : Value) : Nat → Prop
  | 0 => v = spanV x y
  | 1 => v = .bool true
  | 2 => v = .bool false
  | 3 => v = .bool false
  | 4 => v = undef
  | 5 => v = undef
  | 6 => v = undef
  | 7 => v = undef
  | 8 => v = undef
  | 9 => v = undef
  | 10 => v = undef
  | 11 => v = undef
  | 12 => v = undef
  | 13 => v = .bool false
  | _ => v = .bool true
/-- It stays so. -/
def VCBe (x y b1 b2 wx wb : Int) (i : Nat) (v : Value) (w : World) : Prop := ∀ w', Ok w w' → VMBe x y b1 b2 wx wb w' v i
/-- What each operation leaves. -/
def VMBn (x y _b1 _b2 _wx _wb : Int) (_w : World) (v : Value) : Nat → Prop
  | 0 => v = spanV x y
  | 1 => v = .bool false
  | 2 => v = .bool true
  | 3 => v = .bool true
  | 4 => v = .bool false
  | 5 => v = .bool true
  | 6 => v = .bool true
  | 7 => v = undef
  | 8 => v = undef
  | 9 => v = undef
  | 10 => v = undef
  | 11 => v = undef
  | 12 => v = .bool true
  | 13 => v = .bool true
  | _ => v = .bool true
/-- It stays so. -/
def VCBn (x y b1 b2 wx wb : Int) (i : Nat) (v : Value) (w : World) : Prop := ∀ w', Ok w w' → VMBn x y b1 b2 wx wb w' v i
/-- What each operation leaves. -/
def VMBy (x y b1 b2 wx wb : Int) (_w : World) (v : Value) : Nat → Prop
  | 0 => v = spanV x y
  | 1 => v = .bool false
  | 2 => v = .bool true
  | 3 => v = .bool true
  | 4 => v = .bool true
  | 5 => v = .bool false
  | 6 => v = .bool false
  | 7 => v = spanV x y
  | 8 => v = .int .i64 wx
  | 9 => v = spanV b1 b2
  | 10 => v = .int .i64 wb
  | 11 => v = .bool true
  | 12 => v = .bool true
  | 13 => v = .bool true
  | _ => v = .bool true
/-- It stays so. -/
def VCBy (x y b1 b2 wx wb : Int) (i : Nat) (v : Value) (w : World) : Prop := ∀ w', Ok w w' → VMBy x y b1 b2 wx wb w' v i
/-- What each operation leaves. -/
def VMBo (x y b1 b2 wx wb : Int) (_w : World) (v : Value) : Nat → Prop
  | 0 => v = spanV x y
  | 1 => v = .bool false
  | 2 => v = .bool true
  | 3 => v = .bool true
  | 4 => v = .bool true
  | 5 => v = .bool false
  | 6 => v = .bool false
  | 7 => v = spanV x y
  | 8 => v = .int .i64 wx
  | 9 => v = spanV b1 b2
  | 10 => v = .int .i64 wb
  | 11 => v = .bool false
  | 12 => v = .bool false
  | 13 => v = .bool false
  | _ => v = .bool true
/-- It stays so. -/
def VCBo (x y b1 b2 wx wb : Int) (i : Nat) (v : Value) (w : World) : Prop := ∀ w', Ok w w' → VMBo x y b1 b2 wx wb w' v i
set_option maxHeartbeats 3200000 in
theorem probeBest (p : Par) (A : Option Addr) (l : List Trp) (cap : Nat) (w : World) (h : CellsAt w A (l.flatMap tripL)) (hl : l.length ≤ 9223372036854775807) :
    Calls Try.prog 12 #[parV p, .slice A l.length cap] w fun e w' => e = .returned (.tuple #[spanV (Probe.best p l).1.1 (Probe.best p l).1.2, .bool (Probe.best p l).2]) ∧ Ok w w' := by
  have hok := Ok.refl w
  have hP := Own.new w (parCells p) 23 rfl
  have hR := Slab.new (w.alloc (.cells (parCells p) 23)) 0 0 28 (g := w.heap.size + 1) (by simp)
  have hB := Slab.new ((w.alloc (.cells (parCells p) 23)).alloc (.cells #[.int .i64 0, .int .i64 0] 28)) 0 0 28 (g := w.heap.size + 1 + 1) (by simp)
  replace hP := (hP.alloc (.cells #[.int .i64 0, .int .i64 0] 28)).alloc (.cells #[.int .i64 0, .int .i64 0] 28)
  replace hR := hR.alloc (.cells #[.int .i64 0, .int .i64 0] 28)
  replace hok := ((hok.alloc (.cells (parCells p) 23)).alloc (.cells #[.int .i64 0, .int .i64 0] 28)).alloc (.cells #[.int .i64 0, .int .i64 0] 28)
  go_enter Try.func12, Try.ntmps12
  go_wp2_with fail
  generalize ((w.alloc (.cells (parCells p) 23)).alloc (.cells #[.int .i64 0, .int .i64 0] 28)).alloc (.cells #[.int .i64 0, .int .i64 0] 28) = W0 at hP hR hB hok ⊢
  obtain ⟨b, hb⟩ : ∃ b, w.heap.size + 1 + 1 = b := ⟨_, rfl⟩
  obtain ⟨r, hr⟩ : ∃ b, w.heap.size + 1 = b := ⟨_, rfl⟩
  obtain ⟨B, hBe⟩ : ∃ b, w.heap.size = b := ⟨_, rfl⟩
  have hbw : w.heap.size ≤ b := by omega
  have hrw : w.heap.size ≤ r := by omega
  have hrb : r ≠ b := by omega
  have hBb : B ≠ b := by omega
  rw [hb] at hB ⊢
  rw [hr] at hR ⊢
  rw [hBe] at hP ⊢
  clear hb hr hBe
  go_loopw [7, 13] (fun f i wr => ∃ k : Nat, k ≤ l.length ∧ i = .int .i64 k ∧ f = .bool (Probe.best p (l.take k)).2 ∧ Own wr B (parCells p) ∧ Slab wr b (Probe.best p (l.take k)).1.1 (Probe.best p (l.take k)).1.2 ∧ Slab wr r 0 0 ∧ Ok w wr) (fun _ i _ => l.length - (intOf i).toNat)
  case atStart => exact ⟨0, Nat.zero_le _, rfl, rfl, hP, hB, hR, hok⟩
  case round =>
    clear hP hB hR hok
    obtain ⟨k, hk, rfl, rfl, hP, hB, hR, hok⟩ := hrel
    by_cases hlt : k < l.length
    · obtain ⟨a, off, hA, ha, t0, t1, t2, t3⟩ := trip_at (h.below hok) k hlt
      subst hA
      have HBS := Lib.hid (Probe.best_snoc p (l.take k) l[k])
      rw [← take_more hlt] at HBS
      obtain ⟨t, ht⟩ : ∃ t, l[k] = t := ⟨_, rfl⟩
      rw [ht] at t0 t1 t2 t3 HBS
      have KA := Lib.hid fun w => probeAhead p t w
      obtain ⟨bs, hbs⟩ : ∃ bs, Probe.best p (l.take k) = bs := ⟨_, rfl⟩
      rw [hbs] at hB HBS ⊢
      obtain ⟨⟨b1, b2⟩, fd⟩ := bs
      have HT : Hid (Probe.takes p ((b1, b2), fd) t = (decide ((Probe.ah p t).1 ≤ (Probe.ah p t).2) && (!fd || decide (Probe.wide (Probe.ah p t) < Probe.wide (b1, b2))))) := Lib.hid rfl
      have HY := Lib.hid (Probe.bstep_yes (p := p) (b := ((b1, b2), fd)) (t := t))
      have HN := Lib.hid (Probe.bstep_no (p := p) (b := ((b1, b2), fd)) (t := t))
      clear hbs ht
      obtain ⟨x, y, hxy⟩ : ∃ x y, Probe.ah p t = (x, y) := ⟨_, _, rfl⟩
      rw [hxy] at KA HT HY
      obtain ⟨nx, hnx⟩ : ∃ nx, Probe.best p (l.take (k + 1)) = nx := ⟨_, rfl⟩
      rw [hnx] at HBS
      have HNX := Lib.hid hnx
      clear hnx hxy
      obtain ⟨p0, p1, p2, p3, p4, p5, p6, p7, p8, p9, p10, p11⟩ := hP.pars
      have hPl := hP.lt
      simp only at hB ⊢
      go_upto_region 7 with (go_at_call 9; (with_reducible refine (KA.out _).mono ?_); rintro e w1 ⟨rfl, hb1⟩)
      have hX := Slab.new w1 x y 28 rfl
      have hoW := (((Ok.refl wr).alloc (.cells (tripCells t) 25)).trans hb1).alloc (.cells #[.int .i64 x, .int .i64 y] 28)
      replace hP := hP.next hoW
      replace hB := hB.next hoW
      replace hR := hR.next hoW
      replace hok := hok.trans hoW
      clear hb1 hoW KA p0 p1 p2 p3 p4 p5 p6 p7 p8 p9 p10 p11 t0 t1 t2 t3
      generalize w1.alloc (.cells #[.int .i64 x, .int .i64 y] 28) = W at hP hB hR hX hok ⊢
      obtain ⟨hh, hhe⟩ : ∃ g, w1.heap.size = g := ⟨_, rfl⟩
      rw [hhe] at hX ⊢
      clear hhe
      have HP := Lib.hid fun W' (k : Ok W.drew W') => hP.drew.next k
      have HB := Lib.hid fun W' (k : Ok W.drew W') => hB.drew.next k
      have HR := Lib.hid fun W' (k : Ok W.drew W') => hR.drew.next k
      have HX := Lib.hid fun W' (k : Ok W.drew W') => hX.drew.next k
      clear hP hB hR hX
      have KW : Hid (∀ w, Calls Try.prog 22 #[spanV x y] w fun e w' => e = .returned (.int .i64 (Probe.wide (x, y))) ∧ Ok w w') := Lib.hid fun w => spanWide x y w
      have KV : Hid (∀ w, Calls Try.prog 22 #[spanV b1 b2] w fun e w' => e = .returned (.int .i64 (Probe.wide (b1, b2))) ∧ Ok w w') := Lib.hid fun w => spanWide b1 b2 w
      obtain ⟨wx, hwx⟩ : ∃ v, Probe.wide (x, y) = v := ⟨_, rfl⟩
      obtain ⟨wb, hwb⟩ : ∃ v, Probe.wide (b1, b2) = v := ⟨_, rfl⟩
      rw [hwx] at KW HT
      rw [hwb] at KV HT
      clear hwx hwb
      by_cases hE : y < x
      · have KE := Lib.hid fun w => spanEmptyT x y hE w
        have hT := HT.out
        rw [decide_eq_false (by omega : ¬ x ≤ y), Bool.false_and] at hT
        rw [HN.out hT] at HBS
        obtain rfl := HBS.out
        clear hT HT HN HY HBS hE
        refine wp_region_facts (by kernel_rfl) 38 rfl (VCBe x y b1 b2 wx wb) Ok (by kernel_rfl) (fun i v w w' h k w'' k' => h w'' (k.trans k')) (fun a b c => Ok.trans) (Ok.refl _) [some 20, some 21, some 22, some 23, some 24, some 25, some 26, some 27, some 28, some 29, some 30, some 31, some 32, some 33] rfl 14 rfl ⟨?_, ?_, ?_, ?_, ?_, ?_, ?_, ?_, ?_, ?_, ?_, ?_, ?_, ?_, trivial⟩ ?_
        · intro a' w' hF hR
          have e10 : a'.tmps[10]? = some (.pointer (some ⟨hh, 0, none⟩)) := hF.slot 10 (by kernel_rfl) rfl
          have c0 := (HX.out _ hR).c0
          have c1 := (HX.out _ hR).c1
          refine wpOp_run (v := spanV x y) rfl rfl ?_ (fun _ _ => rfl) (Ok.refl _)
          clear hF
          go_simp
        · intro a' w' hF hR
          obtain ⟨v0, hv0, e20⟩ := hF.get 0 20 (by kernel_rfl) (by kernel_rfl)
          obtain rfl : v0 = _ := hv0 _ (Ok.refl _)
          clear hF
          refine wpOp_call (f := 20) (args := #[spanV x y]) rfl rfl ?_ ((KE.out _).mono ?_)
          · go_simp
          · rintro e w2 ⟨rfl, hb2⟩; exact ⟨_, rfl, fun _ _ => rfl, hb2⟩
        · intro a' w' hF hR
          obtain ⟨v1, hv1, e21⟩ := hF.get 1 21 (by kernel_rfl) (by kernel_rfl)
          obtain rfl : v1 = _ := hv1 _ (Ok.refl _)
          refine wpOp_run (v := .bool false) rfl rfl ?_ (fun _ _ => rfl) (Ok.refl _)
          clear hF
          go_simp
        · intro a' w' hF hR
          obtain ⟨v2, hv2, e22⟩ := hF.get 2 22 (by kernel_rfl) (by kernel_rfl)
          obtain rfl : v2 = _ := hv2 _ (Ok.refl _)
          refine wpOp_run (v := .bool false) rfl rfl ?_ (fun _ _ => rfl) (Ok.refl _)
          clear hF
          go_simp
        · intro a' w' hF hR
          obtain ⟨vg, hvg, eg⟩ := hF.get 3 23 (by kernel_rfl) (by kernel_rfl)
          obtain rfl : vg = _ := hvg _ (Ok.refl _)
          exact wpOp_skip rfl (wanted_not rfl (by kernel_rfl) eg (by simp)) (fun _ _ => rfl) (Ok.refl _)
        · intro a' w' hF hR
          obtain ⟨vg, hvg, eg⟩ := hF.get 3 23 (by kernel_rfl) (by kernel_rfl)
          obtain rfl : vg = _ := hvg _ (Ok.refl _)
          exact wpOp_skip rfl (wanted_not rfl (by kernel_rfl) eg (by simp)) (fun _ _ => rfl) (Ok.refl _)
        · intro a' w' hF hR
          obtain ⟨vg, hvg, eg⟩ := hF.get 3 23 (by kernel_rfl) (by kernel_rfl)
          obtain rfl : vg = _ := hvg _ (Ok.refl _)
          exact wpOp_skip rfl (wanted_not rfl (by kernel_rfl) eg (by simp)) (fun _ _ => rfl) (Ok.refl _)
        · intro a' w' hF hR
          obtain ⟨vg, hvg, eg⟩ := hF.get 6 26 (by kernel_rfl) (by kernel_rfl)
          obtain rfl : vg = _ := hvg _ (Ok.refl _)
          exact wpOp_skip rfl (wanted_not rfl (by kernel_rfl) eg (by simp [undef])) (fun _ _ => rfl) (Ok.refl _)
        · intro a' w' hF hR
          obtain ⟨vg, hvg, eg⟩ := hF.get 6 26 (by kernel_rfl) (by kernel_rfl)
          obtain rfl : vg = _ := hvg _ (Ok.refl _)
          exact wpOp_skip rfl (wanted_not rfl (by kernel_rfl) eg (by simp [undef])) (fun _ _ => rfl) (Ok.refl _)
        · intro a' w' hF hR
          obtain ⟨vg, hvg, eg⟩ := hF.get 6 26 (by kernel_rfl) (by kernel_rfl)
          obtain rfl : vg = _ := hvg _ (Ok.refl _)
          exact wpOp_skip rfl (wanted_not rfl (by kernel_rfl) eg (by simp [undef])) (fun _ _ => rfl) (Ok.refl _)
        · intro a' w' hF hR
          obtain ⟨vg, hvg, eg⟩ := hF.get 6 26 (by kernel_rfl) (by kernel_rfl)
          obtain rfl : vg = _ := hvg _ (Ok.refl _)
          exact wpOp_skip rfl (wanted_not rfl (by kernel_rfl) eg (by simp [undef])) (fun _ _ => rfl) (Ok.refl _)
        · intro a' w' hF hR
          obtain ⟨vg, hvg, eg⟩ := hF.get 6 26 (by kernel_rfl) (by kernel_rfl)
          obtain rfl : vg = _ := hvg _ (Ok.refl _)
          exact wpOp_skip rfl (wanted_not rfl (by kernel_rfl) eg (by simp [undef])) (fun _ _ => rfl) (Ok.refl _)
        · intro a' w' hF hR
          obtain ⟨vg, hvg, eg⟩ := hF.get 3 23 (by kernel_rfl) (by kernel_rfl)
          obtain rfl : vg = _ := hvg _ (Ok.refl _)
          exact wpOp_skip rfl (wanted_not rfl (by kernel_rfl) eg (by simp)) (fun _ _ => rfl) (Ok.refl _)
        · intro a' w' hF hR
          obtain ⟨v3, hv3, e23⟩ := hF.get 3 23 (by kernel_rfl) (by kernel_rfl)
          obtain rfl : v3 = _ := hv3 _ (Ok.refl _)
          obtain ⟨v12, hv12, e32⟩ := hF.get 12 32 (by kernel_rfl) (by kernel_rfl)
          obtain rfl : v12 = _ := hv12 _ (Ok.refl _)
          refine wpOp_run (v := .bool false) rfl rfl ?_ (fun _ _ => rfl) (Ok.refl _)
          clear hF
          go_simp
        · intro vs w' hV hR
          have e13 : vs 13 = .bool false := hV 13 (by decide) _ (Ok.refl _)
          have hok2 := hok.trans ((Ok.refl W).drew.trans hR)
          have hP2 := HP.out _ hR
          have hR2 := HR.out _ hR
          have hX2 := HX.out _ hR
          have hB2 := HB.out _ hR
          clear hV HP HR HX HB KE KW KV
          simp only [putFrom, e13]
          simp only [Act.put, List.setIfInBounds_toArray, List.set_cons_zero, List.set_cons_succ]
          clear e13
          go_wp2
          go_roundw
          case rel => exact ⟨k + 1, by omega, by go_num, by rw [HNX.out], hP2, by rw [HNX.out]; exact hB2, hR2, hok2⟩
          case measure => simp [intOf]; omega
      · have KE := Lib.hid fun w => spanEmptyF x y (by omega) w
        have hT := HT.out
        rw [decide_eq_true (by omega : x ≤ y), Bool.true_and] at hT
        cases fd with
        | false =>
          rw [Bool.not_false, Bool.true_or] at hT
          rw [HY.out hT] at HBS
          obtain rfl := HBS.out
          clear hT HT HN HY HBS hE
          refine wp_region_facts (by kernel_rfl) 38 rfl (VCBn x y b1 b2 wx wb) Ok (by kernel_rfl) (fun i v w w' h k w'' k' => h w'' (k.trans k')) (fun a b c => Ok.trans) (Ok.refl _) [some 20, some 21, some 22, some 23, some 24, some 25, some 26, some 27, some 28, some 29, some 30, some 31, some 32, some 33] rfl 14 rfl ⟨?_, ?_, ?_, ?_, ?_, ?_, ?_, ?_, ?_, ?_, ?_, ?_, ?_, ?_, trivial⟩ ?_
          · intro a' w' hF hR
            have e10 : a'.tmps[10]? = some (.pointer (some ⟨hh, 0, none⟩)) := hF.slot 10 (by kernel_rfl) rfl
            have c0 := (HX.out _ hR).c0
            have c1 := (HX.out _ hR).c1
            refine wpOp_run (v := spanV x y) rfl rfl ?_ (fun _ _ => rfl) (Ok.refl _)
            clear hF
            go_simp
          · intro a' w' hF hR
            obtain ⟨v0, hv0, e20⟩ := hF.get 0 20 (by kernel_rfl) (by kernel_rfl)
            obtain rfl : v0 = _ := hv0 _ (Ok.refl _)
            clear hF
            refine wpOp_call (f := 20) (args := #[spanV x y]) rfl rfl ?_ ((KE.out _).mono ?_)
            · go_simp
            · rintro e w2 ⟨rfl, hb2⟩; exact ⟨_, rfl, fun _ _ => rfl, hb2⟩
          · intro a' w' hF hR
            obtain ⟨v1, hv1, e21⟩ := hF.get 1 21 (by kernel_rfl) (by kernel_rfl)
            obtain rfl : v1 = _ := hv1 _ (Ok.refl _)
            refine wpOp_run (v := .bool true) rfl rfl ?_ (fun _ _ => rfl) (Ok.refl _)
            clear hF
            go_simp
          · intro a' w' hF hR
            obtain ⟨v2, hv2, e22⟩ := hF.get 2 22 (by kernel_rfl) (by kernel_rfl)
            obtain rfl : v2 = _ := hv2 _ (Ok.refl _)
            refine wpOp_run (v := .bool true) rfl rfl ?_ (fun _ _ => rfl) (Ok.refl _)
            clear hF
            go_simp
          · intro a' w' hF hR
            have e7 : a'.tmps[7]? = some (.bool false) := hF.slot 7 (by kernel_rfl) rfl
            obtain ⟨vg, hvg, eg⟩ := hF.get 3 23 (by kernel_rfl) (by kernel_rfl)
            obtain rfl : vg = _ := hvg _ (Ok.refl _)
            refine wpOp_runG (v := .bool false) rfl (wanted_yes rfl (by kernel_rfl) eg) ?_ (fun _ _ => rfl) (Ok.refl _)
            clear hF
            go_simp
          · intro a' w' hF hR
            obtain ⟨v4, hv4, e24⟩ := hF.get 4 24 (by kernel_rfl) (by kernel_rfl)
            obtain rfl : v4 = _ := hv4 _ (Ok.refl _)
            obtain ⟨vg, hvg, eg⟩ := hF.get 3 23 (by kernel_rfl) (by kernel_rfl)
            obtain rfl : vg = _ := hvg _ (Ok.refl _)
            refine wpOp_runG (v := .bool true) rfl (wanted_yes rfl (by kernel_rfl) eg) ?_ (fun _ _ => rfl) (Ok.refl _)
            clear hF
            go_simp
          · intro a' w' hF hR
            obtain ⟨v5, hv5, e25⟩ := hF.get 5 25 (by kernel_rfl) (by kernel_rfl)
            obtain rfl : v5 = _ := hv5 _ (Ok.refl _)
            obtain ⟨vg, hvg, eg⟩ := hF.get 3 23 (by kernel_rfl) (by kernel_rfl)
            obtain rfl : vg = _ := hvg _ (Ok.refl _)
            refine wpOp_runG (v := .bool true) rfl (wanted_yes rfl (by kernel_rfl) eg) ?_ (fun _ _ => rfl) (Ok.refl _)
            clear hF
            go_simp
          · intro a' w' hF hR
            obtain ⟨vg, hvg, eg⟩ := hF.get 6 26 (by kernel_rfl) (by kernel_rfl)
            obtain rfl : vg = _ := hvg _ (Ok.refl _)
            exact wpOp_skip rfl (wanted_not rfl (by kernel_rfl) eg (by simp)) (fun _ _ => rfl) (Ok.refl _)
          · intro a' w' hF hR
            obtain ⟨vg, hvg, eg⟩ := hF.get 6 26 (by kernel_rfl) (by kernel_rfl)
            obtain rfl : vg = _ := hvg _ (Ok.refl _)
            exact wpOp_skip rfl (wanted_not rfl (by kernel_rfl) eg (by simp)) (fun _ _ => rfl) (Ok.refl _)
          · intro a' w' hF hR
            obtain ⟨vg, hvg, eg⟩ := hF.get 6 26 (by kernel_rfl) (by kernel_rfl)
            obtain rfl : vg = _ := hvg _ (Ok.refl _)
            exact wpOp_skip rfl (wanted_not rfl (by kernel_rfl) eg (by simp)) (fun _ _ => rfl) (Ok.refl _)
          · intro a' w' hF hR
            obtain ⟨vg, hvg, eg⟩ := hF.get 6 26 (by kernel_rfl) (by kernel_rfl)
            obtain rfl : vg = _ := hvg _ (Ok.refl _)
            exact wpOp_skip rfl (wanted_not rfl (by kernel_rfl) eg (by simp)) (fun _ _ => rfl) (Ok.refl _)
          · intro a' w' hF hR
            obtain ⟨vg, hvg, eg⟩ := hF.get 6 26 (by kernel_rfl) (by kernel_rfl)
            obtain rfl : vg = _ := hvg _ (Ok.refl _)
            exact wpOp_skip rfl (wanted_not rfl (by kernel_rfl) eg (by simp)) (fun _ _ => rfl) (Ok.refl _)
          · intro a' w' hF hR
            obtain ⟨v6, hv6, e26⟩ := hF.get 6 26 (by kernel_rfl) (by kernel_rfl)
            obtain rfl : v6 = _ := hv6 _ (Ok.refl _)
            obtain ⟨v11, hv11, e31⟩ := hF.get 11 31 (by kernel_rfl) (by kernel_rfl)
            obtain rfl : v11 = _ := hv11 _ (Ok.refl _)
            obtain ⟨vg, hvg, eg⟩ := hF.get 3 23 (by kernel_rfl) (by kernel_rfl)
            obtain rfl : vg = _ := hvg _ (Ok.refl _)
            refine wpOp_runG (v := .bool true) rfl (wanted_yes rfl (by kernel_rfl) eg) ?_ (fun _ _ => rfl) (Ok.refl _)
            clear hF
            go_simp
          · intro a' w' hF hR
            obtain ⟨v3, hv3, e23⟩ := hF.get 3 23 (by kernel_rfl) (by kernel_rfl)
            obtain rfl : v3 = _ := hv3 _ (Ok.refl _)
            obtain ⟨v12, hv12, e32⟩ := hF.get 12 32 (by kernel_rfl) (by kernel_rfl)
            obtain rfl : v12 = _ := hv12 _ (Ok.refl _)
            refine wpOp_run (v := .bool true) rfl rfl ?_ (fun _ _ => rfl) (Ok.refl _)
            clear hF
            go_simp
          · intro vs w' hV hR
            have e13 : vs 13 = .bool true := hV 13 (by decide) _ (Ok.refl _)
            have hok2 := hok.trans ((Ok.refl W).drew.trans hR)
            have hP2 := HP.out _ hR
            have hR2 := HR.out _ hR
            have hX2 := HX.out _ hR
            have hB2 := HB.out _ hR
            clear hV HP HR HX HB KE KW KV
            simp only [putFrom, e13]
            simp only [Act.put, List.setIfInBounds_toArray, List.set_cons_zero, List.set_cons_succ]
            clear e13
            have c0 := hX2.c0
            have c1 := hX2.c1
            have d0 := hB2.c0
            have d1 := hB2.c1
            have f0 := hB2.f0
            have f1 := hB2.f1
            go_wp2
            have hF := hB2.set x y
            have hok3 := (hok2.setCell (p := ⟨b, 0, none⟩) hbw (.int .i64 x)).setCell (p := ⟨b, 1, none⟩) hbw (.int .i64 y)
            have hP3 := (hP2.setOther (a := ⟨b, 0, none⟩) hBb (.int .i64 x)).setOther (a := ⟨b, 1, none⟩) hBb (.int .i64 y)
            have hR3 := (hR2.setOther (a := ⟨b, 0, none⟩) hrb (.int .i64 x)).setOther (a := ⟨b, 1, none⟩) hrb (.int .i64 y)
            go_roundw
            case rel => exact ⟨k + 1, by omega, by go_num, by rw [HNX.out], hP3, by rw [HNX.out]; exact hF, hR3, hok3⟩
            case measure => simp [intOf]; omega
        | true =>
          rw [Bool.not_true, Bool.false_or] at hT
          by_cases hW : wx < wb
          · rw [decide_eq_true hW] at hT
            rw [HY.out hT] at HBS
            obtain rfl := HBS.out
            have hdw := decide_eq_true hW
            clear hT HT HN HY HBS hE
            refine wp_region_facts (by kernel_rfl) 38 rfl (VCBy x y b1 b2 wx wb) Ok (by kernel_rfl) (fun i v w w' h k w'' k' => h w'' (k.trans k')) (fun a b c => Ok.trans) (Ok.refl _) [some 20, some 21, some 22, some 23, some 24, some 25, some 26, some 27, some 28, some 29, some 30, some 31, some 32, some 33] rfl 14 rfl ⟨?_, ?_, ?_, ?_, ?_, ?_, ?_, ?_, ?_, ?_, ?_, ?_, ?_, ?_, trivial⟩ ?_
            · intro a' w' hF hR
              have e10 : a'.tmps[10]? = some (.pointer (some ⟨hh, 0, none⟩)) := hF.slot 10 (by kernel_rfl) rfl
              have c0 := (HX.out _ hR).c0
              have c1 := (HX.out _ hR).c1
              refine wpOp_run (v := spanV x y) rfl rfl ?_ (fun _ _ => rfl) (Ok.refl _)
              clear hF
              go_simp
            · intro a' w' hF hR
              obtain ⟨v0, hv0, e20⟩ := hF.get 0 20 (by kernel_rfl) (by kernel_rfl)
              obtain rfl : v0 = _ := hv0 _ (Ok.refl _)
              clear hF
              refine wpOp_call (f := 20) (args := #[spanV x y]) rfl rfl ?_ ((KE.out _).mono ?_)
              · go_simp
              · rintro e w2 ⟨rfl, hb2⟩; exact ⟨_, rfl, fun _ _ => rfl, hb2⟩
            · intro a' w' hF hR
              obtain ⟨v1, hv1, e21⟩ := hF.get 1 21 (by kernel_rfl) (by kernel_rfl)
              obtain rfl : v1 = _ := hv1 _ (Ok.refl _)
              refine wpOp_run (v := .bool true) rfl rfl ?_ (fun _ _ => rfl) (Ok.refl _)
              clear hF
              go_simp
            · intro a' w' hF hR
              obtain ⟨v2, hv2, e22⟩ := hF.get 2 22 (by kernel_rfl) (by kernel_rfl)
              obtain rfl : v2 = _ := hv2 _ (Ok.refl _)
              refine wpOp_run (v := .bool true) rfl rfl ?_ (fun _ _ => rfl) (Ok.refl _)
              clear hF
              go_simp
            · intro a' w' hF hR
              have e7 : a'.tmps[7]? = some (.bool true) := hF.slot 7 (by kernel_rfl) rfl
              obtain ⟨vg, hvg, eg⟩ := hF.get 3 23 (by kernel_rfl) (by kernel_rfl)
              obtain rfl : vg = _ := hvg _ (Ok.refl _)
              refine wpOp_runG (v := .bool true) rfl (wanted_yes rfl (by kernel_rfl) eg) ?_ (fun _ _ => rfl) (Ok.refl _)
              clear hF
              go_simp
            · intro a' w' hF hR
              obtain ⟨v4, hv4, e24⟩ := hF.get 4 24 (by kernel_rfl) (by kernel_rfl)
              obtain rfl : v4 = _ := hv4 _ (Ok.refl _)
              obtain ⟨vg, hvg, eg⟩ := hF.get 3 23 (by kernel_rfl) (by kernel_rfl)
              obtain rfl : vg = _ := hvg _ (Ok.refl _)
              refine wpOp_runG (v := .bool false) rfl (wanted_yes rfl (by kernel_rfl) eg) ?_ (fun _ _ => rfl) (Ok.refl _)
              clear hF
              go_simp
            · intro a' w' hF hR
              obtain ⟨v5, hv5, e25⟩ := hF.get 5 25 (by kernel_rfl) (by kernel_rfl)
              obtain rfl : v5 = _ := hv5 _ (Ok.refl _)
              obtain ⟨vg, hvg, eg⟩ := hF.get 3 23 (by kernel_rfl) (by kernel_rfl)
              obtain rfl : vg = _ := hvg _ (Ok.refl _)
              refine wpOp_runG (v := .bool false) rfl (wanted_yes rfl (by kernel_rfl) eg) ?_ (fun _ _ => rfl) (Ok.refl _)
              clear hF
              go_simp
            · intro a' w' hF hR
              have e10 : a'.tmps[10]? = some (.pointer (some ⟨hh, 0, none⟩)) := hF.slot 10 (by kernel_rfl) rfl
              obtain ⟨vg, hvg, eg⟩ := hF.get 6 26 (by kernel_rfl) (by kernel_rfl)
              obtain rfl : vg = _ := hvg _ (Ok.refl _)
              have c0 := (HX.out _ hR).c0
              have c1 := (HX.out _ hR).c1
              refine wpOp_runG (v := spanV x y) rfl (wanted_yes rfl (by kernel_rfl) eg) ?_ (fun _ _ => rfl) (Ok.refl _)
              clear hF
              go_simp
            · intro a' w' hF hR
              obtain ⟨v7, hv7, e27⟩ := hF.get 7 27 (by kernel_rfl) (by kernel_rfl)
              obtain rfl : v7 = _ := hv7 _ (Ok.refl _)
              obtain ⟨vg, hvg, eg⟩ := hF.get 6 26 (by kernel_rfl) (by kernel_rfl)
              obtain rfl : vg = _ := hvg _ (Ok.refl _)
              refine wpOp_callG (f := 22) (args := #[spanV x y]) rfl (wanted_yes rfl (by kernel_rfl) eg) ?_ ((KW.out _).mono ?_)
              · go_simp
              · rintro e w2 ⟨rfl, hb2⟩; exact ⟨_, rfl, fun _ _ => rfl, hb2⟩
            · intro a' w' hF hR
              have e6 : a'.tmps[6]? = some (.pointer (some ⟨b, 0, none⟩)) := hF.slot 6 (by kernel_rfl) rfl
              obtain ⟨vg, hvg, eg⟩ := hF.get 6 26 (by kernel_rfl) (by kernel_rfl)
              obtain rfl : vg = _ := hvg _ (Ok.refl _)
              have c0 := (HB.out _ hR).c0
              have c1 := (HB.out _ hR).c1
              refine wpOp_runG (v := spanV b1 b2) rfl (wanted_yes rfl (by kernel_rfl) eg) ?_ (fun _ _ => rfl) (Ok.refl _)
              clear hF
              go_simp
            · intro a' w' hF hR
              obtain ⟨v9, hv9, e29⟩ := hF.get 9 29 (by kernel_rfl) (by kernel_rfl)
              obtain rfl : v9 = _ := hv9 _ (Ok.refl _)
              obtain ⟨vg, hvg, eg⟩ := hF.get 6 26 (by kernel_rfl) (by kernel_rfl)
              obtain rfl : vg = _ := hvg _ (Ok.refl _)
              refine wpOp_callG (f := 22) (args := #[spanV b1 b2]) rfl (wanted_yes rfl (by kernel_rfl) eg) ?_ ((KV.out _).mono ?_)
              · go_simp
              · rintro e w2 ⟨rfl, hb2⟩; exact ⟨_, rfl, fun _ _ => rfl, hb2⟩
            · intro a' w' hF hR
              obtain ⟨v8, hv8, e28⟩ := hF.get 8 28 (by kernel_rfl) (by kernel_rfl)
              obtain rfl : v8 = _ := hv8 _ (Ok.refl _)
              obtain ⟨v10, hv10, e30⟩ := hF.get 10 30 (by kernel_rfl) (by kernel_rfl)
              obtain rfl : v10 = _ := hv10 _ (Ok.refl _)
              obtain ⟨vg, hvg, eg⟩ := hF.get 6 26 (by kernel_rfl) (by kernel_rfl)
              obtain rfl : vg = _ := hvg _ (Ok.refl _)
              refine wpOp_runG (v := .bool true) rfl (wanted_yes rfl (by kernel_rfl) eg) ?_ (fun _ _ => rfl) (Ok.refl _)
              clear hF
              go_simp
            · intro a' w' hF hR
              obtain ⟨v6, hv6, e26⟩ := hF.get 6 26 (by kernel_rfl) (by kernel_rfl)
              obtain rfl : v6 = _ := hv6 _ (Ok.refl _)
              obtain ⟨v11, hv11, e31⟩ := hF.get 11 31 (by kernel_rfl) (by kernel_rfl)
              obtain rfl : v11 = _ := hv11 _ (Ok.refl _)
              obtain ⟨vg, hvg, eg⟩ := hF.get 3 23 (by kernel_rfl) (by kernel_rfl)
              obtain rfl : vg = _ := hvg _ (Ok.refl _)
              refine wpOp_runG (v := .bool true) rfl (wanted_yes rfl (by kernel_rfl) eg) ?_ (fun _ _ => rfl) (Ok.refl _)
              clear hF
              go_simp
            · intro a' w' hF hR
              obtain ⟨v3, hv3, e23⟩ := hF.get 3 23 (by kernel_rfl) (by kernel_rfl)
              obtain rfl : v3 = _ := hv3 _ (Ok.refl _)
              obtain ⟨v12, hv12, e32⟩ := hF.get 12 32 (by kernel_rfl) (by kernel_rfl)
              obtain rfl : v12 = _ := hv12 _ (Ok.refl _)
              refine wpOp_run (v := .bool true) rfl rfl ?_ (fun _ _ => rfl) (Ok.refl _)
              clear hF
              go_simp
            · intro vs w' hV hR
              have e13 : vs 13 = .bool true := hV 13 (by decide) _ (Ok.refl _)
              have hok2 := hok.trans ((Ok.refl W).drew.trans hR)
              have hP2 := HP.out _ hR
              have hR2 := HR.out _ hR
              have hX2 := HX.out _ hR
              have hB2 := HB.out _ hR
              clear hV HP HR HX HB KE KW KV
              simp only [putFrom, e13]
              simp only [Act.put, List.setIfInBounds_toArray, List.set_cons_zero, List.set_cons_succ]
              clear e13
              have c0 := hX2.c0
              have c1 := hX2.c1
              have d0 := hB2.c0
              have d1 := hB2.c1
              have f0 := hB2.f0
              have f1 := hB2.f1
              go_wp2
              have hF := hB2.set x y
              have hok3 := (hok2.setCell (p := ⟨b, 0, none⟩) hbw (.int .i64 x)).setCell (p := ⟨b, 1, none⟩) hbw (.int .i64 y)
              have hP3 := (hP2.setOther (a := ⟨b, 0, none⟩) hBb (.int .i64 x)).setOther (a := ⟨b, 1, none⟩) hBb (.int .i64 y)
              have hR3 := (hR2.setOther (a := ⟨b, 0, none⟩) hrb (.int .i64 x)).setOther (a := ⟨b, 1, none⟩) hrb (.int .i64 y)
              go_roundw
              case rel => exact ⟨k + 1, by omega, by go_num, by rw [HNX.out], hP3, by rw [HNX.out]; exact hF, hR3, hok3⟩
              case measure => simp [intOf]; omega
          · rw [decide_eq_false hW] at hT
            rw [HN.out hT] at HBS
            obtain rfl := HBS.out
            have hdw := decide_eq_false hW
            clear hT HT HN HY HBS hE
            refine wp_region_facts (by kernel_rfl) 38 rfl (VCBo x y b1 b2 wx wb) Ok (by kernel_rfl) (fun i v w w' h k w'' k' => h w'' (k.trans k')) (fun a b c => Ok.trans) (Ok.refl _) [some 20, some 21, some 22, some 23, some 24, some 25, some 26, some 27, some 28, some 29, some 30, some 31, some 32, some 33] rfl 14 rfl ⟨?_, ?_, ?_, ?_, ?_, ?_, ?_, ?_, ?_, ?_, ?_, ?_, ?_, ?_, trivial⟩ ?_
            · intro a' w' hF hR
              have e10 : a'.tmps[10]? = some (.pointer (some ⟨hh, 0, none⟩)) := hF.slot 10 (by kernel_rfl) rfl
              have c0 := (HX.out _ hR).c0
              have c1 := (HX.out _ hR).c1
              refine wpOp_run (v := spanV x y) rfl rfl ?_ (fun _ _ => rfl) (Ok.refl _)
              clear hF
              go_simp
            · intro a' w' hF hR
              obtain ⟨v0, hv0, e20⟩ := hF.get 0 20 (by kernel_rfl) (by kernel_rfl)
              obtain rfl : v0 = _ := hv0 _ (Ok.refl _)
              clear hF
              refine wpOp_call (f := 20) (args := #[spanV x y]) rfl rfl ?_ ((KE.out _).mono ?_)
              · go_simp
              · rintro e w2 ⟨rfl, hb2⟩; exact ⟨_, rfl, fun _ _ => rfl, hb2⟩
            · intro a' w' hF hR
              obtain ⟨v1, hv1, e21⟩ := hF.get 1 21 (by kernel_rfl) (by kernel_rfl)
              obtain rfl : v1 = _ := hv1 _ (Ok.refl _)
              refine wpOp_run (v := .bool true) rfl rfl ?_ (fun _ _ => rfl) (Ok.refl _)
              clear hF
              go_simp
            · intro a' w' hF hR
              obtain ⟨v2, hv2, e22⟩ := hF.get 2 22 (by kernel_rfl) (by kernel_rfl)
              obtain rfl : v2 = _ := hv2 _ (Ok.refl _)
              refine wpOp_run (v := .bool true) rfl rfl ?_ (fun _ _ => rfl) (Ok.refl _)
              clear hF
              go_simp
            · intro a' w' hF hR
              have e7 : a'.tmps[7]? = some (.bool true) := hF.slot 7 (by kernel_rfl) rfl
              obtain ⟨vg, hvg, eg⟩ := hF.get 3 23 (by kernel_rfl) (by kernel_rfl)
              obtain rfl : vg = _ := hvg _ (Ok.refl _)
              refine wpOp_runG (v := .bool true) rfl (wanted_yes rfl (by kernel_rfl) eg) ?_ (fun _ _ => rfl) (Ok.refl _)
              clear hF
              go_simp
            · intro a' w' hF hR
              obtain ⟨v4, hv4, e24⟩ := hF.get 4 24 (by kernel_rfl) (by kernel_rfl)
              obtain rfl : v4 = _ := hv4 _ (Ok.refl _)
              obtain ⟨vg, hvg, eg⟩ := hF.get 3 23 (by kernel_rfl) (by kernel_rfl)
              obtain rfl : vg = _ := hvg _ (Ok.refl _)
              refine wpOp_runG (v := .bool false) rfl (wanted_yes rfl (by kernel_rfl) eg) ?_ (fun _ _ => rfl) (Ok.refl _)
              clear hF
              go_simp
            · intro a' w' hF hR
              obtain ⟨v5, hv5, e25⟩ := hF.get 5 25 (by kernel_rfl) (by kernel_rfl)
              obtain rfl : v5 = _ := hv5 _ (Ok.refl _)
              obtain ⟨vg, hvg, eg⟩ := hF.get 3 23 (by kernel_rfl) (by kernel_rfl)
              obtain rfl : vg = _ := hvg _ (Ok.refl _)
              refine wpOp_runG (v := .bool false) rfl (wanted_yes rfl (by kernel_rfl) eg) ?_ (fun _ _ => rfl) (Ok.refl _)
              clear hF
              go_simp
            · intro a' w' hF hR
              have e10 : a'.tmps[10]? = some (.pointer (some ⟨hh, 0, none⟩)) := hF.slot 10 (by kernel_rfl) rfl
              obtain ⟨vg, hvg, eg⟩ := hF.get 6 26 (by kernel_rfl) (by kernel_rfl)
              obtain rfl : vg = _ := hvg _ (Ok.refl _)
              have c0 := (HX.out _ hR).c0
              have c1 := (HX.out _ hR).c1
              refine wpOp_runG (v := spanV x y) rfl (wanted_yes rfl (by kernel_rfl) eg) ?_ (fun _ _ => rfl) (Ok.refl _)
              clear hF
              go_simp
            · intro a' w' hF hR
              obtain ⟨v7, hv7, e27⟩ := hF.get 7 27 (by kernel_rfl) (by kernel_rfl)
              obtain rfl : v7 = _ := hv7 _ (Ok.refl _)
              obtain ⟨vg, hvg, eg⟩ := hF.get 6 26 (by kernel_rfl) (by kernel_rfl)
              obtain rfl : vg = _ := hvg _ (Ok.refl _)
              refine wpOp_callG (f := 22) (args := #[spanV x y]) rfl (wanted_yes rfl (by kernel_rfl) eg) ?_ ((KW.out _).mono ?_)
              · go_simp
              · rintro e w2 ⟨rfl, hb2⟩; exact ⟨_, rfl, fun _ _ => rfl, hb2⟩
            · intro a' w' hF hR
              have e6 : a'.tmps[6]? = some (.pointer (some ⟨b, 0, none⟩)) := hF.slot 6 (by kernel_rfl) rfl
              obtain ⟨vg, hvg, eg⟩ := hF.get 6 26 (by kernel_rfl) (by kernel_rfl)
              obtain rfl : vg = _ := hvg _ (Ok.refl _)
              have c0 := (HB.out _ hR).c0
              have c1 := (HB.out _ hR).c1
              refine wpOp_runG (v := spanV b1 b2) rfl (wanted_yes rfl (by kernel_rfl) eg) ?_ (fun _ _ => rfl) (Ok.refl _)
              clear hF
              go_simp
            · intro a' w' hF hR
              obtain ⟨v9, hv9, e29⟩ := hF.get 9 29 (by kernel_rfl) (by kernel_rfl)
              obtain rfl : v9 = _ := hv9 _ (Ok.refl _)
              obtain ⟨vg, hvg, eg⟩ := hF.get 6 26 (by kernel_rfl) (by kernel_rfl)
              obtain rfl : vg = _ := hvg _ (Ok.refl _)
              refine wpOp_callG (f := 22) (args := #[spanV b1 b2]) rfl (wanted_yes rfl (by kernel_rfl) eg) ?_ ((KV.out _).mono ?_)
              · go_simp
              · rintro e w2 ⟨rfl, hb2⟩; exact ⟨_, rfl, fun _ _ => rfl, hb2⟩
            · intro a' w' hF hR
              obtain ⟨v8, hv8, e28⟩ := hF.get 8 28 (by kernel_rfl) (by kernel_rfl)
              obtain rfl : v8 = _ := hv8 _ (Ok.refl _)
              obtain ⟨v10, hv10, e30⟩ := hF.get 10 30 (by kernel_rfl) (by kernel_rfl)
              obtain rfl : v10 = _ := hv10 _ (Ok.refl _)
              obtain ⟨vg, hvg, eg⟩ := hF.get 6 26 (by kernel_rfl) (by kernel_rfl)
              obtain rfl : vg = _ := hvg _ (Ok.refl _)
              refine wpOp_runG (v := .bool false) rfl (wanted_yes rfl (by kernel_rfl) eg) ?_ (fun _ _ => rfl) (Ok.refl _)
              clear hF
              go_simp
            · intro a' w' hF hR
              obtain ⟨v6, hv6, e26⟩ := hF.get 6 26 (by kernel_rfl) (by kernel_rfl)
              obtain rfl : v6 = _ := hv6 _ (Ok.refl _)
              obtain ⟨v11, hv11, e31⟩ := hF.get 11 31 (by kernel_rfl) (by kernel_rfl)
              obtain rfl : v11 = _ := hv11 _ (Ok.refl _)
              obtain ⟨vg, hvg, eg⟩ := hF.get 3 23 (by kernel_rfl) (by kernel_rfl)
              obtain rfl : vg = _ := hvg _ (Ok.refl _)
              refine wpOp_runG (v := .bool false) rfl (wanted_yes rfl (by kernel_rfl) eg) ?_ (fun _ _ => rfl) (Ok.refl _)
              clear hF
              go_simp
            · intro a' w' hF hR
              obtain ⟨v3, hv3, e23⟩ := hF.get 3 23 (by kernel_rfl) (by kernel_rfl)
              obtain rfl : v3 = _ := hv3 _ (Ok.refl _)
              obtain ⟨v12, hv12, e32⟩ := hF.get 12 32 (by kernel_rfl) (by kernel_rfl)
              obtain rfl : v12 = _ := hv12 _ (Ok.refl _)
              refine wpOp_run (v := .bool false) rfl rfl ?_ (fun _ _ => rfl) (Ok.refl _)
              clear hF
              go_simp
            · intro vs w' hV hR
              have e13 : vs 13 = .bool false := hV 13 (by decide) _ (Ok.refl _)
              have hok2 := hok.trans ((Ok.refl W).drew.trans hR)
              have hP2 := HP.out _ hR
              have hR2 := HR.out _ hR
              have hX2 := HX.out _ hR
              have hB2 := HB.out _ hR
              clear hV HP HR HX HB KE KW KV
              simp only [putFrom, e13]
              simp only [Act.put, List.setIfInBounds_toArray, List.set_cons_zero, List.set_cons_succ]
              clear e13
              go_wp2
              go_roundw
              case rel => exact ⟨k + 1, by omega, by go_num, by rw [HNX.out], hP2, by rw [HNX.out]; exact hB2, hR2, hok2⟩
              case measure => simp [intOf]; omega
    · have ek : l.take k = l := List.take_of_length_le (by omega)
      rw [ek] at hB ⊢
      obtain ⟨⟨⟨x, y⟩, fd⟩, hbs⟩ : ∃ bs, Probe.best p l = bs := ⟨_, rfl⟩
      rw [hbs] at hB ⊢
      have HBE := Lib.hid hbs
      clear hbs ek
      simp only at hB ⊢
      have c0 := hB.c0
      have c1 := hB.c1
      have d0 := hR.c0
      have d1 := hR.c1
      have f0 := hR.f0
      have f1 := hR.f1
      have hrl := hR.lt
      have hbl := hB.lt
      go_wp2
      have hF := hR.set x y
      have hok2 := (hok.setCell (p := ⟨r, 0, none⟩) hrw (.int .i64 x)).setCell (p := ⟨r, 1, none⟩) hrw (.int .i64 y)
      generalize (wr.setCell ⟨r, 0, none⟩ (.int .i64 x)).setCell ⟨r, 1, none⟩ (.int .i64 y) = W4 at hF hok2 ⊢
      have s0 := hF.c0
      have s1 := hF.c1
      exact bodyPost_ret (v := .tuple #[spanV x y, .bool fd]) (by simp [results, Try.results12, go_sem, s0, s1]) rfl ⟨by rw [HBE.out], hok2⟩
end Go.Proofs.Ytfhagccelkjflaa
