import Derived.Test.YtmokofblmkeloaaGreatDoorC23e
namespace Go.Proofs.YtmokofblmkeloaaGreatDoor
open Go.RowKit
set_option linter.unusedVariables false
set_option maxRecDepth 100000
attribute [local go_sem ↓] Go.wp_at_zero Go.wp_at_succ
theorem cells_nthAt {w : World} {B : Option Addr} {l : List HA} (h : CellsAt w B (l.flatMap haL)) (k : Nat) (hk : k < l.length) : ∃ b off, B = some ⟨b, off, none⟩ ∧ b < w.heap.size ∧ ∀ x, l[k] = x → w.cell? ⟨b, off + k * 15, none⟩ = some (.int .i64 x.m.kind) ∧ w.cell? ⟨b, off + k * 15 + 1, none⟩ = some (.int .i64 x.m.frm) ∧ w.cell? ⟨b, off + k * 15 + 2, none⟩ = some (.int .i64 x.m.lo) ∧ w.cell? ⟨b, off + k * 15 + 3, none⟩ = some (.int .i64 x.m.hi) ∧ w.cell? ⟨b, off + k * 15 + 4, none⟩ = some (.int .i64 x.m.held) ∧ w.cell? ⟨b, off + k * 15 + 5, none⟩ = some (.int .i64 x.m.hops) ∧ w.cell? ⟨b, off + k * 15 + 6, none⟩ = some (.bool x.m.good) ∧ w.cell? ⟨b, off + k * 15 + 7, none⟩ = some (.bool x.m.ref) ∧ w.cell? ⟨b, off + k * 15 + 8, none⟩ = some (.int .i64 x.m.slo) ∧ w.cell? ⟨b, off + k * 15 + 9, none⟩ = some (.int .i64 x.m.shi) ∧ w.cell? ⟨b, off + k * 15 + 10, none⟩ = some (.int .i64 x.m.pulse) ∧ w.cell? ⟨b, off + k * 15 + 11, none⟩ = some (.int .i64 x.m.time) ∧ w.cell? ⟨b, off + k * 15 + 12, none⟩ = some (.int .i64 x.m.num) ∧ w.cell? ⟨b, off + k * 15 + 13, none⟩ = some (.slice x.A x.m.table.length x.cap) ∧ w.cell? ⟨b, off + k * 15 + 14, none⟩ = some (.int .i64 x.age) := by
  obtain ⟨b, off, e, hlt, hc⟩ := h.at haL_len (by decide) k hk
  refine ⟨b, off, e, hlt, fun x hx => ?_⟩
  subst hx
  exact ⟨hc 0 _ rfl, hc 1 _ rfl, hc 2 _ rfl, hc 3 _ rfl, hc 4 _ rfl, hc 5 _ rfl, hc 6 _ rfl, hc 7 _ rfl, hc 8 _ rfl, hc 9 _ rfl, hc 10 _ rfl, hc 11 _ rfl, hc 12 _ rfl, hc 13 _ rfl, hc 14 _ rfl⟩
set_option maxHeartbeats 1600000 in
theorem nodeFollows (G t : Nat) (me : Int) (p : Par) (s : Sta) (A : Option Addr) (cap : Nat) (m : Int) (B : Option Addr) (l : List HA) (c : Nat) (w : World) (hO : Own w G (nodeCells me t p s A cap)) (hA : PairsAt w A s.table) (hs : s.table.length ≤ 1048576) (hB : HeardsAt w B l) (hl : l.length ≤ 1000) (hf : ∀ x ∈ l, x.m.table.length ≤ 8796093022208) (hpf : -9223372036854775808 ≤ p.f ∧ p.f ≤ 9223372036854775807) (hd : 0 ≤ p.d ∧ p.d ≤ 16) (hpow : Pow w) :
    Calls Tryz.prog 33 #[.pointer (some ⟨G, 0, none⟩), .int .i64 m, .slice B l.length c] w fun e w' => ∃ (A2 : Option Addr) (c2 : Nat), e = .returned (staV (Nod.next p s m (l.map HA.hd)) A2 c2) ∧ PairsAt w' A2 (Nod.next p s m (l.map HA.hd)).table ∧ Ok w w' := by
  have KC := Lib.hid fun W' (k : Ok w W') => nodeByCore G t me p s A cap B l c W' (hO.next k) (hA.below k) hs (hB.below k) hl hf hpf (hpow.next k)
  have KN := Lib.hid fun W' (k : Ok w W') => nodeByNeighbour G t me p s A cap B l c W' (hO.next k) (hA.below k) (hB.below k) hl hf hd
  have KL := Lib.hid fun W' (k : Ok w W') => nodeLost G t me p s A cap m W' (hO.next k) hd
  have hnx : Nod.next p s m (l.map HA.hd) = ((if Gate.left p.f (Nod.spans p (l.map HA.hd)) = true then some (Nod.core p s (l.map HA.hd)) else none) : Option Sta).getD ((Nod.leads p s (l.map HA.hd)).getD (Nod.lost p s m)) := by
    unfold Nod.next
    split
    · rfl
    · unfold Nod.leads
      cases Nod.choice p (l.map HA.hd) <;> rfl
  generalize ((if Gate.left p.f (Nod.spans p (l.map HA.hd)) = true then some (Nod.core p s (l.map HA.hd)) else none) : Option Sta) = GC at KC hnx
  generalize Nod.leads p s (l.map HA.hd) = GN at KN hnx
  generalize Nod.next p s m (l.map HA.hd) = NX at hnx ⊢
  have HLT0 : (Nod.lost p s m).table = s.table := rfl
  generalize Nod.lost p s m = ls at KL hnx HLT0
  have HLT := Lib.hid HLT0
  clear HLT0
  have HA_ := Lib.hid hA
  have hY := Own.new w (staCells zeroSta none 0) 30 rfl
  have hok := (Ok.refl w).alloc (.cells (staCells zeroSta none 0) 30)
  clear hO hA hs hB hl hf hpf hd hpow
  cases GC with
  | some u =>
    have HNX : Hid (NX = u) := Lib.hid hnx
    clear hnx KN KL
    go_enter Tryz.func33, Tryz.ntmps33
    go_upto_region 1 with fail
    change Code.wp _ _ _ _ (w.alloc (.cells (staCells zeroSta none 0) 30))
    generalize w.alloc (.cells (staCells zeroSta none 0) 30) = W at hY hok ⊢
    obtain ⟨Y, hYe⟩ : ∃ r, w.heap.size = r := ⟨_, rfl⟩
    have HYW : Hid (w.heap.size ≤ Y ∧ True) := Lib.hid ⟨by omega, trivial⟩
    rw [hYe] at hY
    rw [hYe]
    clear hYe
    have hYW := hY.lt
    go_upto_region 2 with (go_at_call 77; refine (KC.out _ hok).mono ?_; rintro e w2 ⟨u1, A1, c1, b1, rfl, hb1, hu1, hP, hD, hk1⟩; obtain rfl : u1 = u := hu1 _ rfl; obtain rfl : b1 = true := hb1; have HD1 : Hid (A1 = A ∧ u1.table = s.table ∨ ∀ a, A1 = some a → a.block ≠ Y) := Lib.hid (hD.imp id fun h a ha => by have := h a ha; omega); clear hu1 hD; replace hY := hY.next hk1; replace hok := hok.trans hk1; clear hk1; unfold staV)
    clear hYW KC
    replace hP := hP.below ((Ok.refl w2).alloc (.cells (staCells u1 A1 c1) 30))
    have hN := Own.new w2 (staCells u1 A1 c1) 30 rfl
    replace hY := hY.alloc (.cells (staCells u1 A1 c1) 30)
    replace hok := hok.alloc (.cells (staCells u1 A1 c1) 30)
    change Code.wp _ _ _ _ (w2.alloc (.cells (staCells u1 A1 c1) 30))
    generalize w2.alloc (.cells (staCells u1 A1 c1) 30) = W3 at hN hY hok hP ⊢
    generalize w2.heap.size = N at hN ⊢
    have hrw := HYW.out.1
    obtain ⟨s0, s1, s2, s3, s4, s5, s6, s7, s8, s9, s10⟩ := hN.sta
    obtain ⟨z0, z1, z2, z3, z4, z5, z6, z7, z8, z9, z10⟩ := hY.sta
    obtain ⟨y0, y1, y2, y3, y4, y5, y6, y7, y8, y9, y10⟩ := frozenSta hY
    have hsl := hN.lt
    have hzl := hY.lt
    have hX := own_set11 hY u1 A1 c1
    have hok3 := ok_set11 hok hrw u1 A1 c1
    have hoY := only_set11 (Only.refl Y W3) (.inl rfl) u1 A1 c1
    go_wp2_with fail
    clear s0 s1 s2 s3 s4 s5 s6 s7 s8 s9 s10 z0 z1 z2 z3 z4 z5 z6 z7 z8 z9 z10 y0 y1 y2 y3 y4 y5 y6 y7 y8 y9 y10 hsl hzl
    generalize (((((((((((W3.setCell ⟨Y, 0, none⟩ (.int .i64 u1.lo)).setCell ⟨Y, 1, none⟩ (.int .i64 u1.hi)).setCell ⟨Y, 2, none⟩ (.int .i64 u1.time)).setCell ⟨Y, 3, none⟩ (.bool u1.set)).setCell ⟨Y, 4, none⟩ (.int .i64 u1.held)).setCell ⟨Y, 5, none⟩ (.int .i64 u1.hops)).setCell ⟨Y, 6, none⟩ (.bool u1.good)).setCell ⟨Y, 7, none⟩ (.slice A1 u1.table.length c1)).setCell ⟨Y, 8, none⟩ (.int .i64 u1.st)).setCell ⟨Y, 9, none⟩ (.int .i64 u1.sn)).setCell ⟨Y, 10, none⟩ (.int .i64 u1.life)) = W9 at hX hok3 hoY ⊢
    have hPF : PairsAt W9 A1 u1.table := by
      rcases HD1.out with ⟨e1, e2⟩ | hD
      · rw [e1, e2]; exact HA_.out.below hok3
      · exact hoY.pairs hP (fun a ha => hD a ha)
    obtain ⟨s0, s1, s2, s3, s4, s5, s6, s7, s8, s9, s10⟩ := hX.sta
    exact bodyPost_ret (v := staV u1 A1 c1) (by simp [results, Tryz.results33, go_sem, s0, s1, s2, s3, s4, s5, s6, s7, s8, s9, s10, staV]) rfl ⟨A1, c1, by rw [HNX.out], by rw [HNX.out]; exact hPF, hok3⟩
  | none =>
  cases GN with
  | some u =>
    have HNX : Hid (NX = u) := Lib.hid hnx
    clear hnx KL
    go_enter Tryz.func33, Tryz.ntmps33
    go_upto_region 1 with fail
    change Code.wp _ _ _ _ (w.alloc (.cells (staCells zeroSta none 0) 30))
    generalize w.alloc (.cells (staCells zeroSta none 0) 30) = W at hY hok ⊢
    obtain ⟨Y, hYe⟩ : ∃ r, w.heap.size = r := ⟨_, rfl⟩
    have HYW : Hid (w.heap.size ≤ Y ∧ True) := Lib.hid ⟨by omega, trivial⟩
    rw [hYe] at hY
    rw [hYe]
    clear hYe
    go_upto_region 2 with (go_at_call 77; refine (KC.out _ hok).mono ?_; rintro e w2 ⟨u1, A1, c1, b1, rfl, hb1, hu1, hP, hD, hk1⟩; obtain rfl : b1 = false := hb1; clear hu1 hD hP; replace hY := hY.next hk1; replace hok := hok.trans hk1; clear hk1; unfold staV)
    clear KC
    have hN := Own.new w2 (staCells u1 A1 c1) 30 rfl
    replace hY := hY.alloc (.cells (staCells u1 A1 c1) 30)
    replace hok := hok.alloc (.cells (staCells u1 A1 c1) 30)
    change Code.wp _ _ _ _ (w2.alloc (.cells (staCells u1 A1 c1) 30))
    clear hN
    generalize w2.alloc (.cells (staCells u1 A1 c1) 30) = W3 at hY hok ⊢
    have hYW := hY.lt
    go_upto_region 5 with (go_at_call 78; refine (KN.out _ hok).mono ?_; rintro e w4 ⟨u2, A2, c2, b2, rfl, hb1, hu1, hP, hD, hk1⟩; obtain rfl : u2 = u := hu1 _ rfl; obtain rfl : b2 = true := hb1; have HD1 : Hid (A2 = A ∧ u2.table = s.table ∨ ∀ a, A2 = some a → a.block ≠ Y) := Lib.hid (hD.imp id fun h a ha => by have := h a ha; omega); clear hu1 hD; replace hY := hY.next hk1; replace hok := hok.trans hk1; clear hk1; unfold staV)
    clear hYW KN
    replace hP := hP.below ((Ok.refl w4).alloc (.cells (staCells u2 A2 c2) 30))
    have hN := Own.new w4 (staCells u2 A2 c2) 30 rfl
    replace hY := hY.alloc (.cells (staCells u2 A2 c2) 30)
    replace hok := hok.alloc (.cells (staCells u2 A2 c2) 30)
    change Code.wp _ _ _ _ (w4.alloc (.cells (staCells u2 A2 c2) 30))
    generalize w4.alloc (.cells (staCells u2 A2 c2) 30) = W5 at hN hY hok hP ⊢
    generalize w4.heap.size = N at hN ⊢
    have hrw := HYW.out.1
    obtain ⟨s0, s1, s2, s3, s4, s5, s6, s7, s8, s9, s10⟩ := hN.sta
    obtain ⟨z0, z1, z2, z3, z4, z5, z6, z7, z8, z9, z10⟩ := hY.sta
    obtain ⟨y0, y1, y2, y3, y4, y5, y6, y7, y8, y9, y10⟩ := frozenSta hY
    have hsl := hN.lt
    have hzl := hY.lt
    have hX := own_set11 hY u2 A2 c2
    have hok3 := ok_set11 hok hrw u2 A2 c2
    have hoY := only_set11 (Only.refl Y W5) (.inl rfl) u2 A2 c2
    go_wp2_with fail
    clear s0 s1 s2 s3 s4 s5 s6 s7 s8 s9 s10 z0 z1 z2 z3 z4 z5 z6 z7 z8 z9 z10 y0 y1 y2 y3 y4 y5 y6 y7 y8 y9 y10 hsl hzl
    generalize (((((((((((W5.setCell ⟨Y, 0, none⟩ (.int .i64 u2.lo)).setCell ⟨Y, 1, none⟩ (.int .i64 u2.hi)).setCell ⟨Y, 2, none⟩ (.int .i64 u2.time)).setCell ⟨Y, 3, none⟩ (.bool u2.set)).setCell ⟨Y, 4, none⟩ (.int .i64 u2.held)).setCell ⟨Y, 5, none⟩ (.int .i64 u2.hops)).setCell ⟨Y, 6, none⟩ (.bool u2.good)).setCell ⟨Y, 7, none⟩ (.slice A2 u2.table.length c2)).setCell ⟨Y, 8, none⟩ (.int .i64 u2.st)).setCell ⟨Y, 9, none⟩ (.int .i64 u2.sn)).setCell ⟨Y, 10, none⟩ (.int .i64 u2.life)) = W9 at hX hok3 hoY ⊢
    have hPF : PairsAt W9 A2 u2.table := by
      rcases HD1.out with ⟨e1, e2⟩ | hD
      · rw [e1, e2]; exact HA_.out.below hok3
      · exact hoY.pairs hP (fun a ha => hD a ha)
    obtain ⟨s0, s1, s2, s3, s4, s5, s6, s7, s8, s9, s10⟩ := hX.sta
    exact bodyPost_ret (v := staV u2 A2 c2) (by simp [results, Tryz.results33, go_sem, s0, s1, s2, s3, s4, s5, s6, s7, s8, s9, s10, staV]) rfl ⟨A2, c2, by rw [HNX.out], by rw [HNX.out]; exact hPF, hok3⟩
  | none =>
    have HNX : Hid (NX = ls) := Lib.hid hnx
    clear hnx
    go_enter Tryz.func33, Tryz.ntmps33
    go_upto_region 1 with fail
    change Code.wp _ _ _ _ (w.alloc (.cells (staCells zeroSta none 0) 30))
    generalize w.alloc (.cells (staCells zeroSta none 0) 30) = W at hY hok ⊢
    obtain ⟨Y, hYe⟩ : ∃ r, w.heap.size = r := ⟨_, rfl⟩
    have HYW : Hid (w.heap.size ≤ Y ∧ True) := Lib.hid ⟨by omega, trivial⟩
    rw [hYe] at hY
    rw [hYe]
    clear hYe
    go_upto_region 2 with (go_at_call 77; refine (KC.out _ hok).mono ?_; rintro e w2 ⟨u1, A1, c1, b1, rfl, hb1, hu1, hP, hD, hk1⟩; obtain rfl : b1 = false := hb1; clear hu1 hD hP; replace hY := hY.next hk1; replace hok := hok.trans hk1; clear hk1; unfold staV)
    clear KC
    have hN := Own.new w2 (staCells u1 A1 c1) 30 rfl
    replace hY := hY.alloc (.cells (staCells u1 A1 c1) 30)
    replace hok := hok.alloc (.cells (staCells u1 A1 c1) 30)
    change Code.wp _ _ _ _ (w2.alloc (.cells (staCells u1 A1 c1) 30))
    clear hN
    generalize w2.alloc (.cells (staCells u1 A1 c1) 30) = W3 at hY hok ⊢
    go_upto_region 5 with (go_at_call 78; refine (KN.out _ hok).mono ?_; rintro e w4 ⟨u2, A2, c2, b2, rfl, hb1, hu1, hP, hD, hk1⟩; obtain rfl : b2 = false := hb1; clear hu1 hD hP; replace hY := hY.next hk1; replace hok := hok.trans hk1; clear hk1; unfold staV)
    clear KN
    have hN := Own.new w4 (staCells u2 A2 c2) 30 rfl
    replace hY := hY.alloc (.cells (staCells u2 A2 c2) 30)
    replace hok := hok.alloc (.cells (staCells u2 A2 c2) 30)
    change Code.wp _ _ _ _ (w4.alloc (.cells (staCells u2 A2 c2) 30))
    clear hN
    generalize w4.alloc (.cells (staCells u2 A2 c2) 30) = W5 at hY hok ⊢
    have hrw := HYW.out.1
    go_wp2_with (go_at_call 79; refine (KL.out _ hok).mono ?_; rintro e w6 ⟨rfl, hk1⟩; replace hY := hY.next hk1; replace hok := hok.trans hk1; clear hk1; obtain ⟨z0, z1, z2, z3, z4, z5, z6, z7, z8, z9, z10⟩ := hY.sta; obtain ⟨y0, y1, y2, y3, y4, y5, y6, y7, y8, y9, y10⟩ := frozenSta hY; have hzl := hY.lt; unfold staV)
    have hX := own_set11 hY ls A cap
    have hok3 := ok_set11 hok hrw ls A cap
    clear z0 z1 z2 z3 z4 z5 z6 z7 z8 z9 z10 y0 y1 y2 y3 y4 y5 y6 y7 y8 y9 y10 hzl
    generalize (((((((((((w6.setCell ⟨Y, 0, none⟩ (.int .i64 ls.lo)).setCell ⟨Y, 1, none⟩ (.int .i64 ls.hi)).setCell ⟨Y, 2, none⟩ (.int .i64 ls.time)).setCell ⟨Y, 3, none⟩ (.bool ls.set)).setCell ⟨Y, 4, none⟩ (.int .i64 ls.held)).setCell ⟨Y, 5, none⟩ (.int .i64 ls.hops)).setCell ⟨Y, 6, none⟩ (.bool ls.good)).setCell ⟨Y, 7, none⟩ (.slice A ls.table.length cap)).setCell ⟨Y, 8, none⟩ (.int .i64 ls.st)).setCell ⟨Y, 9, none⟩ (.int .i64 ls.sn)).setCell ⟨Y, 10, none⟩ (.int .i64 ls.life)) = W9 at hX hok3 ⊢
    obtain ⟨s0, s1, s2, s3, s4, s5, s6, s7, s8, s9, s10⟩ := hX.sta
    exact bodyPost_ret (v := staV ls A cap) (by simp [results, Tryz.results33, go_sem, s0, s1, s2, s3, s4, s5, s6, s7, s8, s9, s10, staV]) rfl ⟨A, cap, by rw [HNX.out], by rw [HNX.out, HLT.out]; exact HA_.out.below hok3, hok3⟩
/-- What each operation leaves. -/
def VMLst (G Z : Nat) (x : HA) (w : World) (v : Value) : Nat → Prop
  | 0 => v = .pointer (some ⟨G, 0, none⟩)
  | 1 => v = .pointer (some ⟨G, 0, none⟩)
  | 2 => v = .pointer (some ⟨G, 0, none⟩)
  | 3 => v = .pointer (some ⟨Z, 0, none⟩)
  | 4 => v = .pointer (some ⟨Z, 11, none⟩)
  | 5 => v = .agg #[.int .i64 x.m.time, .int .i64 x.m.num]
  | _ => v = .bool true
/-- It stays so. -/
def VCLst (G Z : Nat) (x : HA) (i : Nat) (v : Value) (w : World) : Prop := ∀ w', Ok w w' → VMLst G Z x w' v i
set_option maxHeartbeats 3200000 in
theorem nodeListens (G t b : Nat) (me : Int) (p : Par) (s : Sta) (A : Option Addr) (cap : Nat) (f : NF) (B : Option Addr) (l : List HA) (c : Nat) (w : World) (hN : NodeAt w G t b me p s A cap f) (hB : CellsAt w B (l.flatMap haL)) (hBG : ∀ a, B = some a → a.block ≠ G) (hl : l.length ≤ 1000) :
    Calls Tryz.prog 34 #[.pointer (some ⟨G, 0, none⟩), .slice B l.length c] w fun e w' => e = .returned (.tuple #[]) ∧ NodeAt w' G t b me p (Nod.listens p s (l.map HA.hd)) A cap f ∧ Only G w w' := by
  have hon := Only.refl G w
  have HB := Lib.hid fun W (k : Only G w W) => k.cells hB hBG
  have HGL : Hid (G < w.heap.size ∧ t < w.heap.size ∧ b < w.heap.size) := Lib.hid hN.lt
  clear hB hBG
  go_enter Tryz.func34, Tryz.ntmps34
  go_wp2_with fail
  go_loopw [8] (fun i wr => ∃ k : Nat, k ≤ l.length ∧ i = .int .i64 k ∧ NodeAt wr G t b me p (Nod.listens p s ((l.take k).map HA.hd)) A cap f ∧ Only G w wr) (fun i _ => l.length - (intOf i).toNat)
  case atStart => exact ⟨0, Nat.zero_le _, rfl, hN, hon⟩
  case round =>
    clear hN hon
    obtain ⟨k, hk, rfl, hN, hon⟩ := hrel
    by_cases hlt : k < l.length
    · obtain ⟨b2, off, hB2, hb, hcx0⟩ := cells_nthAt (HB.out _ hon) k hlt
      obtain ⟨x, hx⟩ : ∃ x, l[k] = x := ⟨_, rfl⟩
      have HNX0 : Hid (Nod.listens p s ((l.take (k + 1)).map HA.hd) = Nod.hears1 p (Nod.listens p s ((l.take k).map HA.hd)) x.hd) := Lib.hid (by rw [List.take_succ_eq_append_getElem hlt, hx, List.map_append]; exact Nod.listens_snoc _ _ _ _)
      obtain ⟨t0, t1, t2, t3, t4, t5, t6, t7, t8, t9, t10, t11, t12, t13, t14⟩ := hcx0 x hx
      subst hB2
      clear hcx0 hx
      generalize Nod.listens p s ((l.take k).map HA.hd) = S at hN HNX0
      have hNZ := hN.lt
      go_upto_region 3 with fail
      clear t0 t1 t2 t3 t4 t5 t6 t7 t8 t9 t10 t11 t12 t13 t14 hb
      have hZ := Own.new wr #[.int .i64 x.m.kind, .int .i64 x.m.frm, .int .i64 x.m.lo, .int .i64 x.m.hi, .int .i64 x.m.held, .int .i64 x.m.hops, .bool x.m.good, .bool x.m.ref, .int .i64 x.m.slo, .int .i64 x.m.shi, .int .i64 x.m.pulse, .int .i64 x.m.time, .int .i64 x.m.num, .slice x.A x.m.table.length x.cap, .int .i64 x.age] 65 rfl
      replace hN := hN.alloc (.cells #[.int .i64 x.m.kind, .int .i64 x.m.frm, .int .i64 x.m.lo, .int .i64 x.m.hi, .int .i64 x.m.held, .int .i64 x.m.hops, .bool x.m.good, .bool x.m.ref, .int .i64 x.m.slo, .int .i64 x.m.shi, .int .i64 x.m.pulse, .int .i64 x.m.time, .int .i64 x.m.num, .slice x.A x.m.table.length x.cap, .int .i64 x.age] 65)
      replace hon := hon.alloc (.cells #[.int .i64 x.m.kind, .int .i64 x.m.frm, .int .i64 x.m.lo, .int .i64 x.m.hi, .int .i64 x.m.held, .int .i64 x.m.hops, .bool x.m.good, .bool x.m.ref, .int .i64 x.m.slo, .int .i64 x.m.shi, .int .i64 x.m.pulse, .int .i64 x.m.time, .int .i64 x.m.num, .slice x.A x.m.table.length x.cap, .int .i64 x.age] 65)
      change Code.wp _ _ _ _ (wr.alloc (.cells #[.int .i64 x.m.kind, .int .i64 x.m.frm, .int .i64 x.m.lo, .int .i64 x.m.hi, .int .i64 x.m.held, .int .i64 x.m.hops, .bool x.m.good, .bool x.m.ref, .int .i64 x.m.slo, .int .i64 x.m.shi, .int .i64 x.m.pulse, .int .i64 x.m.time, .int .i64 x.m.num, .slice x.A x.m.table.length x.cap, .int .i64 x.age] 65))
      generalize wr.alloc (.cells #[.int .i64 x.m.kind, .int .i64 x.m.frm, .int .i64 x.m.lo, .int .i64 x.m.hi, .int .i64 x.m.held, .int .i64 x.m.hops, .bool x.m.good, .bool x.m.ref, .int .i64 x.m.slo, .int .i64 x.m.shi, .int .i64 x.m.pulse, .int .i64 x.m.time, .int .i64 x.m.num, .slice x.A x.m.table.length x.cap, .int .i64 x.age] 65) = W3 at hZ hN hon ⊢
      generalize wr.heap.size = Z at hZ hNZ ⊢
      have z0 := hZ.cell 0 (v := .int .i64 x.m.kind) rfl
      have z6 := hZ.cell 6 (v := .bool x.m.good) rfl
      have hZl := hZ.lt
      by_cases hkd : x.m.kind = 2
      · cases hgd : x.m.good with
        | false =>
          have HNX : Hid (Nod.listens p s ((l.take (k + 1)).map HA.hd) = S) := Lib.hid (by rw [HNX0.out]; unfold Nod.hears1; rw [if_neg (by simp [HA.hd, hgd])])
          rw [hgd] at z6
          rw [hkd] at z0
          clear hgd hkd HNX0 hZ hNZ
          go_wp2_with fail
          clear z0 z6 hZl
          go_roundw
          case rel => exact ⟨k + 1, hlt, by go_num, by rw [HNX.out]; exact hN, hon⟩
          case measure => simp [intOf]; omega
        | true =>
          have HNX : Hid (Nod.listens p s ((l.take (k + 1)).map HA.hd) = Health.listen p S (x.m.time, x.m.num)) := Lib.hid (by rw [HNX0.out]; unfold Nod.hears1; rw [if_pos (by exact ⟨hkd, hgd⟩)]; rfl)
          rw [hgd] at z6
          rw [hkd] at z0
          clear hgd hkd HNX0 hNZ
          go_upto_region 4 with fail
          clear z0 z6 hZl
          have KL := Lib.hid fun W' (h : Own W' G (nodeCells me t p S A cap)) => frontListen [.int .i64 me, .pointer (some ⟨t, 0, none⟩)] G p S A cap (x.m.time, x.m.num) W' h
          unfold stV at KL
          simp only at KL
          have HON := Lib.hid hon
          have HN := Lib.hid fun W' (k : Ok W3.drew W') => hN.next ((Ok.refl W3).drew.trans k)
          have HZ := Lib.hid fun W' (k : Ok W3.drew W') => hZ.drew.next k
          clear hN hZ hon
          refine wp_region_facts_chain (by kernel_rfl) 3 29 rfl (VCLst G Z x) Ok _ 6 rfl rfl (by decide) (by kernel_rfl) (by kernel_rfl) (by kernel_rfl) (by kernel_rfl) (fun i v w w' h k w'' k' => h w'' (k.trans k')) (fun a b c => Ok.trans) (Ok.refl _) [some 21, some 22, some 23, some 24, some 25, some 26] rfl _ rfl ⟨?_, ?_, ?_, ?_, ?_, ?_, trivial⟩ ?_
          · intro a' w' hF hR
            have e0 : a'.tmps[0]? = some (.pointer (some ⟨G, 0, none⟩)) := hF.slot 0 (by kernel_rfl) rfl
            refine wpOp_run (v := .pointer (some ⟨G, 0, none⟩)) rfl rfl ?_ (fun _ _ => rfl) (Ok.refl _)
            clear hF
            go_simp
          · intro a' w' hF hR
            obtain ⟨v0, hv0, e21⟩ := hF.get 0 21 (by kernel_rfl) (by kernel_rfl)
            obtain rfl : v0 = _ := hv0 _ (Ok.refl _)
            refine wpOp_run (v := .pointer (some ⟨G, 0, none⟩)) rfl rfl ?_ (fun _ _ => rfl) (Ok.refl _)
            clear hF
            go_simp
          · intro a' w' hF hR
            obtain ⟨v1, hv1, e22⟩ := hF.get 1 22 (by kernel_rfl) (by kernel_rfl)
            obtain rfl : v1 = _ := hv1 _ (Ok.refl _)
            refine wpOp_run (v := .pointer (some ⟨G, 0, none⟩)) rfl rfl ?_ (fun _ _ => rfl) (Ok.refl _)
            clear hF
            go_simp
          · intro a' w' hF hR
            have e5 : a'.tmps[5]? = some (.pointer (some ⟨Z, 0, none⟩)) := hF.slot 5 (by kernel_rfl) rfl
            refine wpOp_run (v := .pointer (some ⟨Z, 0, none⟩)) rfl rfl ?_ (fun _ _ => rfl) (Ok.refl _)
            clear hF
            go_simp
          · intro a' w' hF hR
            obtain ⟨v3, hv3, e24⟩ := hF.get 3 24 (by kernel_rfl) (by kernel_rfl)
            obtain rfl : v3 = _ := hv3 _ (Ok.refl _)
            refine wpOp_run (v := .pointer (some ⟨Z, 11, none⟩)) rfl rfl ?_ (fun _ _ => rfl) (Ok.refl _)
            clear hF
            go_simp
          · intro a' w' hF hR
            obtain ⟨v4, hv4, e25⟩ := hF.get 4 25 (by kernel_rfl) (by kernel_rfl)
            obtain rfl : v4 = _ := hv4 _ (Ok.refl _)
            have z11 := (HZ.out _ hR).cell 11 (v := .int .i64 x.m.time) rfl
            have z12 := (HZ.out _ hR).cell 12 (v := .int .i64 x.m.num) rfl
            have hzl := (HZ.out _ hR).lt
            refine wpOp_run (v := .agg #[.int .i64 x.m.time, .int .i64 x.m.num]) rfl rfl ?_ (fun _ _ => rfl) (Ok.refl _)
            clear hF
            go_simp
          intro vs W' hvs hR
          have e2 : vs 2 = .pointer (some ⟨G, 0, none⟩) := hvs 2 (by decide) _ (Ok.refl _)
          have e5 : vs 5 = .agg #[.int .i64 x.m.time, .int .i64 x.m.num] := hvs 5 (by decide) _ (Ok.refl _)
          have hN := HN.out _ hR
          have hon := HON.out.ok ((Ok.refl W3).drew.trans hR)
          clear hvs HN HZ HON
          simp only [putFrom, e2, e5]
          simp only [Act.put, List.setIfInBounds_toArray, List.set_cons_zero, List.set_cons_succ]
          refine wpOp_enters (o := ⟨some 27, _, _, _, _, none⟩) (f := 80) (args := #[.pointer (some ⟨G, 0, none⟩), .agg #[.int .i64 x.m.time, .int .i64 x.m.num]]) rfl rfl ?_ ((KL.out _ hN.own).mono ?_)
          · go_simp
          rintro e w5 ⟨rfl, hO5, hon5⟩
          refine ⟨_, rfl, ?_⟩
          try simp only [TailFrom]
          simp only [Act.put, List.setIfInBounds_toArray, List.set_cons_zero, List.set_cons_succ]
          have hN5 := hN.step hon5 hO5
          replace hon := hon.trans hon5
          clear hN hon5 hO5 e2 e5
          generalize vs 0 = x20
          generalize vs 1 = x21
          generalize vs 3 = x23
          generalize vs 4 = x24
          clear hR vs
          go_wp2_with fail
          go_roundw
          case rel => exact ⟨k + 1, hlt, by go_num, by rw [HNX.out]; exact hN5, hon⟩
          case measure => simp [intOf]; omega
      · have HNX : Hid (Nod.listens p s ((l.take (k + 1)).map HA.hd) = S) := Lib.hid (by rw [HNX0.out]; unfold Nod.hears1; rw [if_neg (by rintro ⟨h, -⟩; exact hkd h)])
        have e2 : (x.m.kind == 2) = false := by simpa using hkd
        clear HNX0 hZ hNZ
        go_wp2_with fail
        clear z0 z6 hZl e2
        go_roundw
        case rel => exact ⟨k + 1, hlt, by go_num, by rw [HNX.out]; exact hN, hon⟩
        case measure => simp [intOf]; omega
    · have hkl : k = l.length := by omega
      subst hkl
      rw [List.take_length] at hN
      clear hlt hk
      go_wp2_with fail
      go_end0
      exact ⟨rfl, hN, hon⟩
end Go.Proofs.YtmokofblmkeloaaGreatDoor
