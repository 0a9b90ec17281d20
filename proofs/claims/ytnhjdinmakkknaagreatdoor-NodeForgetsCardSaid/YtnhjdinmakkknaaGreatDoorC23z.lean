/- Several texts of mine in one: C23f, C23h, P52. -/
import Derived.Test.YtnhjdinmakkknaaGreatDoorC23e
import Derived.Test.YtnhjdinmakkknaaGreatDoorC23b
import Derived.Test.YtnhjdinmakkknaaGreatDoorC23g
import Derived.Test.YtnhjdinmakkknaaGreatDoorC14f
import Derived.Test.YtnhjdinmakkknaaGreatDoorC22s
import Derived.Test.YtnhjdinmakkknaaGreatDoorP51
import Derived.Test.YtnhjdinmakkknaaGreatDoorP33
import Derived.Test.YtnhjdinmakkknaaGreatDoorB03
import Derived.Test.YtnhjdinmakkknaaGreatDoorP43
namespace Go.Proofs.YtnhjdinmakkknaaGreatDoor
open Go.RowKit
set_option linter.unusedVariables false
set_option maxRecDepth 100000
attribute [local go_sem ↓] Go.wp_at_zero Go.wp_at_succ
theorem cells_nthAt {w : World} {B : Option Addr} {l : List HA} (h : CellsAt w B (l.flatMap haL)) (k : Nat) (hk : k < l.length) : ∃ b off, B = some ⟨b, off, none⟩ ∧ b < w.heap.size ∧ ∀ x, l[k] = x → w.cell? ⟨b, off + k * 15, none⟩ = some (.int .i64 x.m.kind) ∧ w.cell? ⟨b, off + k * 15 + 1, none⟩ = some (.int .i64 x.m.frm) ∧ w.cell? ⟨b, off + k * 15 + 2, none⟩ = some (.int .i64 x.m.lo) ∧ w.cell? ⟨b, off + k * 15 + 3, none⟩ = some (.int .i64 x.m.hi) ∧ w.cell? ⟨b, off + k * 15 + 4, none⟩ = some (.int .i64 x.m.held) ∧ w.cell? ⟨b, off + k * 15 + 5, none⟩ = some (.int .i64 x.m.hops) ∧ w.cell? ⟨b, off + k * 15 + 6, none⟩ = some (.bool x.m.good) ∧ w.cell? ⟨b, off + k * 15 + 7, none⟩ = some (.bool x.m.ref) ∧ w.cell? ⟨b, off + k * 15 + 8, none⟩ = some (.int .i64 x.m.slo) ∧ w.cell? ⟨b, off + k * 15 + 9, none⟩ = some (.int .i64 x.m.shi) ∧ w.cell? ⟨b, off + k * 15 + 10, none⟩ = some (.int .i64 x.m.pulse) ∧ w.cell? ⟨b, off + k * 15 + 11, none⟩ = some (.int .i64 x.m.time) ∧ w.cell? ⟨b, off + k * 15 + 12, none⟩ = some (.int .i64 x.m.num) ∧ w.cell? ⟨b, off + k * 15 + 13, none⟩ = some (.slice x.A x.m.table.length x.cap) ∧ w.cell? ⟨b, off + k * 15 + 14, none⟩ = some (.int .i64 x.age) := by
  obtain ⟨b, off, e, hlt, hc⟩ := h.at haL_len (by decide) k hk
  refine ⟨b, off, e, hlt, fun x hx => ?_⟩
  subst hx
  exact ⟨hc 0 _ rfl, hc 1 _ rfl, hc 2 _ rfl, hc 3 _ rfl, hc 4 _ rfl, hc 5 _ rfl, hc 6 _ rfl, hc 7 _ rfl, hc 8 _ rfl, hc 9 _ rfl, hc 10 _ rfl, hc 11 _ rfl, hc 12 _ rfl, hc 13 _ rfl, hc 14 _ rfl⟩
set_option maxHeartbeats 1600000 in
theorem nodeFollows (G t : Nat) (me : Int) (p : Par) (s : Sta) (A : Option Addr) (cap : Nat) (m : Int) (B : Option Addr) (l : List HA) (c : Nat) (w : World) (hO : Own w G (nodeCells me t p s A cap)) (hA : PairsAt w A s.table) (hs : s.table.length ≤ 1048576) (hB : HeardsAt w B l) (hl : l.length ≤ 1000) (hf : ∀ x ∈ l, x.m.table.length ≤ 8796093022208) (hpf : -9223372036854775808 ≤ p.f ∧ p.f ≤ 9223372036854775807) (hd : 0 ≤ p.d ∧ p.d ≤ 16) (hpow : Pow w) :
    Calls Tryz.prog 34 #[.pointer (some ⟨G, 0, none⟩), .int .i64 m, .slice B l.length c] w fun e w' => ∃ (A2 : Option Addr) (c2 : Nat), e = .returned (staV (Nod.next p s m (l.map HA.hd)) A2 c2) ∧ PairsAt w' A2 (Nod.next p s m (l.map HA.hd)).table ∧ Ok w w' := by
  have KC := Lib.hid fun W' (k : Ok w W') => nodeByCore G t me p s A cap B l c W' (hO.next k) (hA.below k) hs (hB.below k) hl hf hpf (hpow.next k)
  have KN := Lib.hid fun W' (k : Ok w W') => nodeByNeighbour G t me p s A cap B l c W' (hO.next k) (hA.below k) (hB.below k) hl hf hd
  have KL := Lib.hid fun W' (k : Ok w W') => nodeLost G t me p s A cap m W' (hO.next k) hd
  have hnx : Nod.next p s m (l.map HA.hd) = ((if Gate.left p.f (Nod.spans p (l.map HA.hd)) = true then some (Nod.core p s (l.map HA.hd)) else none) : Option Sta).getD ((Nod.leads p s (l.map HA.hd)).getD (Nod.lost p s m)) := by
    unfold Nod.next
    split
    · rfl
    · unfold Nod.leads
      cases Nod.choice p (l.map HA.hd) <;> rfl
  generalize ((if Gate.left p.f (Nod.spans p (l.map HA.hd)) = true then some (Nod.core p s (l.map HA.hd)) else none) : Option Sta) = GC at KC hnx
  generalize Nod.leads p s (l.map HA.hd) = GN at KN hnx
  generalize Nod.next p s m (l.map HA.hd) = NX at hnx ⊢
  have HLT0 : (Nod.lost p s m).table = s.table := rfl
  generalize Nod.lost p s m = ls at KL hnx HLT0
  have HLT := Lib.hid HLT0
  clear HLT0
  have HA_ := Lib.hid hA
  have hY := Own.new w (staCells zeroSta none 0) 30 rfl
  have hok := (Ok.refl w).alloc (.cells (staCells zeroSta none 0) 30)
  clear hO hA hs hB hl hf hpf hd hpow
  cases GC with
  | some u =>
    have HNX : Hid (NX = u) := Lib.hid hnx
    clear hnx KN KL
    go_enter Tryz.func34, Tryz.ntmps34
    go_upto_region 1 with fail
    change Code.wp _ _ _ _ (w.alloc (.cells (staCells zeroSta none 0) 30))
    generalize w.alloc (.cells (staCells zeroSta none 0) 30) = W at hY hok ⊢
    obtain ⟨Y, hYe⟩ : ∃ r, w.heap.size = r := ⟨_, rfl⟩
    have HYW : Hid (w.heap.size ≤ Y ∧ True) := Lib.hid ⟨by omega, trivial⟩
    rw [hYe] at hY
    rw [hYe]
    clear hYe
    have hYW := hY.lt
    go_upto_region 2 with (go_at_call 78; refine (KC.out _ hok).mono ?_; rintro e w2 ⟨u1, A1, c1, b1, rfl, hb1, hu1, hP, hD, hk1⟩; obtain rfl : u1 = u := hu1 _ rfl; obtain rfl : b1 = true := hb1; have HD1 : Hid (A1 = A ∧ u1.table = s.table ∨ ∀ a, A1 = some a → a.block ≠ Y) := Lib.hid (hD.imp id fun h a ha => by have := h a ha; omega); clear hu1 hD; replace hY := hY.next hk1; replace hok := hok.trans hk1; clear hk1; unfold staV)
    clear hYW KC
    replace hP := hP.below ((Ok.refl w2).alloc (.cells (staCells u1 A1 c1) 30))
    have hN := Own.new w2 (staCells u1 A1 c1) 30 rfl
    replace hY := hY.alloc (.cells (staCells u1 A1 c1) 30)
    replace hok := hok.alloc (.cells (staCells u1 A1 c1) 30)
    change Code.wp _ _ _ _ (w2.alloc (.cells (staCells u1 A1 c1) 30))
    generalize w2.alloc (.cells (staCells u1 A1 c1) 30) = W3 at hN hY hok hP ⊢
    generalize w2.heap.size = N at hN ⊢
    have hrw := HYW.out.1
    obtain ⟨s0, s1, s2, s3, s4, s5, s6, s7, s8, s9, s10⟩ := hN.sta
    obtain ⟨z0, z1, z2, z3, z4, z5, z6, z7, z8, z9, z10⟩ := hY.sta
    obtain ⟨y0, y1, y2, y3, y4, y5, y6, y7, y8, y9, y10⟩ := frozenSta hY
    have hsl := hN.lt
    have hzl := hY.lt
    have hX := own_set11 hY u1 A1 c1
    have hok3 := ok_set11 hok hrw u1 A1 c1
    have hoY := only_set11 (Only.refl Y W3) (.inl rfl) u1 A1 c1
    go_wp2_with fail
    clear s0 s1 s2 s3 s4 s5 s6 s7 s8 s9 s10 z0 z1 z2 z3 z4 z5 z6 z7 z8 z9 z10 y0 y1 y2 y3 y4 y5 y6 y7 y8 y9 y10 hsl hzl
    generalize (((((((((((W3.setCell ⟨Y, 0, none⟩ (.int .i64 u1.lo)).setCell ⟨Y, 1, none⟩ (.int .i64 u1.hi)).setCell ⟨Y, 2, none⟩ (.int .i64 u1.time)).setCell ⟨Y, 3, none⟩ (.bool u1.set)).setCell ⟨Y, 4, none⟩ (.int .i64 u1.held)).setCell ⟨Y, 5, none⟩ (.int .i64 u1.hops)).setCell ⟨Y, 6, none⟩ (.bool u1.good)).setCell ⟨Y, 7, none⟩ (.slice A1 u1.table.length c1)).setCell ⟨Y, 8, none⟩ (.int .i64 u1.st)).setCell ⟨Y, 9, none⟩ (.int .i64 u1.sn)).setCell ⟨Y, 10, none⟩ (.int .i64 u1.life)) = W9 at hX hok3 hoY ⊢
    have hPF : PairsAt W9 A1 u1.table := by
      rcases HD1.out with ⟨e1, e2⟩ | hD
      · rw [e1, e2]; exact HA_.out.below hok3
      · exact hoY.pairs hP (fun a ha => hD a ha)
    obtain ⟨s0, s1, s2, s3, s4, s5, s6, s7, s8, s9, s10⟩ := hX.sta
    exact bodyPost_ret (v := staV u1 A1 c1) (by simp [results, Tryz.results34, go_sem, s0, s1, s2, s3, s4, s5, s6, s7, s8, s9, s10, staV]) rfl ⟨A1, c1, by rw [HNX.out], by rw [HNX.out]; exact hPF, hok3⟩
  | none =>
  cases GN with
  | some u =>
    have HNX : Hid (NX = u) := Lib.hid hnx
    clear hnx KL
    go_enter Tryz.func34, Tryz.ntmps34
    go_upto_region 1 with fail
    change Code.wp _ _ _ _ (w.alloc (.cells (staCells zeroSta none 0) 30))
    generalize w.alloc (.cells (staCells zeroSta none 0) 30) = W at hY hok ⊢
    obtain ⟨Y, hYe⟩ : ∃ r, w.heap.size = r := ⟨_, rfl⟩
    have HYW : Hid (w.heap.size ≤ Y ∧ True) := Lib.hid ⟨by omega, trivial⟩
    rw [hYe] at hY
    rw [hYe]
    clear hYe
    go_upto_region 2 with (go_at_call 78; refine (KC.out _ hok).mono ?_; rintro e w2 ⟨u1, A1, c1, b1, rfl, hb1, hu1, hP, hD, hk1⟩; obtain rfl : b1 = false := hb1; clear hu1 hD hP; replace hY := hY.next hk1; replace hok := hok.trans hk1; clear hk1; unfold staV)
    clear KC
    have hN := Own.new w2 (staCells u1 A1 c1) 30 rfl
    replace hY := hY.alloc (.cells (staCells u1 A1 c1) 30)
    replace hok := hok.alloc (.cells (staCells u1 A1 c1) 30)
    change Code.wp _ _ _ _ (w2.alloc (.cells (staCells u1 A1 c1) 30))
    clear hN
    generalize w2.alloc (.cells (staCells u1 A1 c1) 30) = W3 at hY hok ⊢
    have hYW := hY.lt
    go_upto_region 5 with (go_at_call 79; refine (KN.out _ hok).mono ?_; rintro e w4 ⟨u2, A2, c2, b2, rfl, hb1, hu1, hP, hD, hk1⟩; obtain rfl : u2 = u := hu1 _ rfl; obtain rfl : b2 = true := hb1; have HD1 : Hid (A2 = A ∧ u2.table = s.table ∨ ∀ a, A2 = some a → a.block ≠ Y) := Lib.hid (hD.imp id fun h a ha => by have := h a ha; omega); clear hu1 hD; replace hY := hY.next hk1; replace hok := hok.trans hk1; clear hk1; unfold staV)
    clear hYW KN
    replace hP := hP.below ((Ok.refl w4).alloc (.cells (staCells u2 A2 c2) 30))
    have hN := Own.new w4 (staCells u2 A2 c2) 30 rfl
    replace hY := hY.alloc (.cells (staCells u2 A2 c2) 30)
    replace hok := hok.alloc (.cells (staCells u2 A2 c2) 30)
    change Code.wp _ _ _ _ (w4.alloc (.cells (staCells u2 A2 c2) 30))
    generalize w4.alloc (.cells (staCells u2 A2 c2) 30) = W5 at hN hY hok hP ⊢
    generalize w4.heap.size = N at hN ⊢
    have hrw := HYW.out.1
    obtain ⟨s0, s1, s2, s3, s4, s5, s6, s7, s8, s9, s10⟩ := hN.sta
    obtain ⟨z0, z1, z2, z3, z4, z5, z6, z7, z8, z9, z10⟩ := hY.sta
    obtain ⟨y0, y1, y2, y3, y4, y5, y6, y7, y8, y9, y10⟩ := frozenSta hY
    have hsl := hN.lt
    have hzl := hY.lt
    have hX := own_set11 hY u2 A2 c2
    have hok3 := ok_set11 hok hrw u2 A2 c2
    have hoY := only_set11 (Only.refl Y W5) (.inl rfl) u2 A2 c2
    go_wp2_with fail
    clear s0 s1 s2 s3 s4 s5 s6 s7 s8 s9 s10 z0 z1 z2 z3 z4 z5 z6 z7 z8 z9 z10 y0 y1 y2 y3 y4 y5 y6 y7 y8 y9 y10 hsl hzl
    generalize (((((((((((W5.setCell ⟨Y, 0, none⟩ (.int .i64 u2.lo)).setCell ⟨Y, 1, none⟩ (.int .i64 u2.hi)).setCell ⟨Y, 2, none⟩ (.int .i64 u2.time)).setCell ⟨Y, 3, none⟩ (.bool u2.set)).setCell ⟨Y, 4, none⟩ (.int .i64 u2.held)).setCell ⟨Y, 5, none⟩ (.int .i64 u2.hops)).setCell ⟨Y, 6, none⟩ (.bool u2.good)).setCell ⟨Y, 7, none⟩ (.slice A2 u2.table.length c2)).setCell ⟨Y, 8, none⟩ (.int .i64 u2.st)).setCell ⟨Y, 9, none⟩ (.int .i64 u2.sn)).setCell ⟨Y, 10, none⟩ (.int .i64 u2.life)) = W9 at hX hok3 hoY ⊢
    have hPF : PairsAt W9 A2 u2.table := by
      rcases HD1.out with ⟨e1, e2⟩ | hD
      · rw [e1, e2]; exact HA_.out.below hok3
      · exact hoY.pairs hP (fun a ha => hD a ha)
    obtain ⟨s0, s1, s2, s3, s4, s5, s6, s7, s8, s9, s10⟩ := hX.sta
    exact bodyPost_ret (v := staV u2 A2 c2) (by simp [results, Tryz.results34, go_sem, s0, s1, s2, s3, s4, s5, s6, s7, s8, s9, s10, staV]) rfl ⟨A2, c2, by rw [HNX.out], by rw [HNX.out]; exact hPF, hok3⟩
  | none =>
    have HNX : Hid (NX = ls) := Lib.hid hnx
    clear hnx
    go_enter Tryz.func34, Tryz.ntmps34
    go_upto_region 1 with fail
    change Code.wp _ _ _ _ (w.alloc (.cells (staCells zeroSta none 0) 30))
    generalize w.alloc (.cells (staCells zeroSta none 0) 30) = W at hY hok ⊢
    obtain ⟨Y, hYe⟩ : ∃ r, w.heap.size = r := ⟨_, rfl⟩
    have HYW : Hid (w.heap.size ≤ Y ∧ True) := Lib.hid ⟨by omega, trivial⟩
    rw [hYe] at hY
    rw [hYe]
    clear hYe
    go_upto_region 2 with (go_at_call 78; refine (KC.out _ hok).mono ?_; rintro e w2 ⟨u1, A1, c1, b1, rfl, hb1, hu1, hP, hD, hk1⟩; obtain rfl : b1 = false := hb1; clear hu1 hD hP; replace hY := hY.next hk1; replace hok := hok.trans hk1; clear hk1; unfold staV)
    clear KC
    have hN := Own.new w2 (staCells u1 A1 c1) 30 rfl
    replace hY := hY.alloc (.cells (staCells u1 A1 c1) 30)
    replace hok := hok.alloc (.cells (staCells u1 A1 c1) 30)
    change Code.wp _ _ _ _ (w2.alloc (.cells (staCells u1 A1 c1) 30))
    clear hN
    generalize w2.alloc (.cells (staCells u1 A1 c1) 30) = W3 at hY hok ⊢
    go_upto_region 5 with (go_at_call 79; refine (KN.out _ hok).mono ?_; rintro e w4 ⟨u2, A2, c2, b2, rfl, hb1, hu1, hP, hD, hk1⟩; obtain rfl : b2 = false := hb1; clear hu1 hD hP; replace hY := hY.next hk1; replace hok := hok.trans hk1; clear hk1; unfold staV)
    clear KN
    have hN := Own.new w4 (staCells u2 A2 c2) 30 rfl
    replace hY := hY.alloc (.cells (staCells u2 A2 c2) 30)
    replace hok := hok.alloc (.cells (staCells u2 A2 c2) 30)
    change Code.wp _ _ _ _ (w4.alloc (.cells (staCells u2 A2 c2) 30))
    clear hN
    generalize w4.alloc (.cells (staCells u2 A2 c2) 30) = W5 at hY hok ⊢
    have hrw := HYW.out.1
    go_wp2_with (go_at_call 80; refine (KL.out _ hok).mono ?_; rintro e w6 ⟨rfl, hk1⟩; replace hY := hY.next hk1; replace hok := hok.trans hk1; clear hk1; obtain ⟨z0, z1, z2, z3, z4, z5, z6, z7, z8, z9, z10⟩ := hY.sta; obtain ⟨y0, y1, y2, y3, y4, y5, y6, y7, y8, y9, y10⟩ := frozenSta hY; have hzl := hY.lt; unfold staV)
    have hX := own_set11 hY ls A cap
    have hok3 := ok_set11 hok hrw ls A cap
    clear z0 z1 z2 z3 z4 z5 z6 z7 z8 z9 z10 y0 y1 y2 y3 y4 y5 y6 y7 y8 y9 y10 hzl
    generalize (((((((((((w6.setCell ⟨Y, 0, none⟩ (.int .i64 ls.lo)).setCell ⟨Y, 1, none⟩ (.int .i64 ls.hi)).setCell ⟨Y, 2, none⟩ (.int .i64 ls.time)).setCell ⟨Y, 3, none⟩ (.bool ls.set)).setCell ⟨Y, 4, none⟩ (.int .i64 ls.held)).setCell ⟨Y, 5, none⟩ (.int .i64 ls.hops)).setCell ⟨Y, 6, none⟩ (.bool ls.good)).setCell ⟨Y, 7, none⟩ (.slice A ls.table.length cap)).setCell ⟨Y, 8, none⟩ (.int .i64 ls.st)).setCell ⟨Y, 9, none⟩ (.int .i64 ls.sn)).setCell ⟨Y, 10, none⟩ (.int .i64 ls.life)) = W9 at hX hok3 ⊢
    obtain ⟨s0, s1, s2, s3, s4, s5, s6, s7, s8, s9, s10⟩ := hX.sta
    exact bodyPost_ret (v := staV ls A cap) (by simp [results, Tryz.results34, go_sem, s0, s1, s2, s3, s4, s5, s6, s7, s8, s9, s10, staV]) rfl ⟨A, cap, by rw [HNX.out], by rw [HNX.out, HLT.out]; exact HA_.out.below hok3, hok3⟩
/-- What each operation leaves. -/
def VMLst (G Z : Nat) (x : HA) (w : World) (v : Value) : Nat → Prop
  | 0 => v = .pointer (some ⟨G, 0, none⟩)
  | 1 => v = .pointer (some ⟨G, 0, none⟩)
  | 2 => v = .pointer (some ⟨G, 0, none⟩)
  | 3 => v = .pointer (some ⟨Z, 0, none⟩)
  | 4 => v = .pointer (some ⟨Z, 11, none⟩)
  | 5 => v = .agg #[.int .i64 x.m.time, .int .i64 x.m.num]
  | _ => v = .bool true
/-- It stays so. -/
def VCLst (G Z : Nat) (x : HA) (i : Nat) (v : Value) (w : World) : Prop := ∀ w', Ok w w' → VMLst G Z x w' v i
set_option maxHeartbeats 3200000 in
theorem nodeListens (G t b : Nat) (me : Int) (p : Par) (s : Sta) (A : Option Addr) (cap : Nat) (f : NF) (B : Option Addr) (l : List HA) (c : Nat) (w : World) (hN : NodeAt w G t b me p s A cap f) (hB : CellsAt w B (l.flatMap haL)) (hBG : ∀ a, B = some a → a.block ≠ G) (hl : l.length ≤ 1000) :
    Calls Tryz.prog 35 #[.pointer (some ⟨G, 0, none⟩), .slice B l.length c] w fun e w' => e = .returned (.tuple #[]) ∧ NodeAt w' G t b me p (Nod.listens p s (l.map HA.hd)) A cap f ∧ Only G w w' := by
  have hon := Only.refl G w
  have HB := Lib.hid fun W (k : Only G w W) => k.cells hB hBG
  have HGL : Hid (G < w.heap.size ∧ t < w.heap.size ∧ b < w.heap.size) := Lib.hid hN.lt
  clear hB hBG
  go_enter Tryz.func35, Tryz.ntmps35
  go_wp2_with fail
  go_loopw [8] (fun i wr => ∃ k : Nat, k ≤ l.length ∧ i = .int .i64 k ∧ NodeAt wr G t b me p (Nod.listens p s ((l.take k).map HA.hd)) A cap f ∧ Only G w wr) (fun i _ => l.length - (intOf i).toNat)
  case atStart => exact ⟨0, Nat.zero_le _, rfl, hN, hon⟩
  case round =>
    clear hN hon
    obtain ⟨k, hk, rfl, hN, hon⟩ := hrel
    by_cases hlt : k < l.length
    · obtain ⟨b2, off, hB2, hb, hcx0⟩ := cells_nthAt (HB.out _ hon) k hlt
      obtain ⟨x, hx⟩ : ∃ x, l[k] = x := ⟨_, rfl⟩
      have HNX0 : Hid (Nod.listens p s ((l.take (k + 1)).map HA.hd) = Nod.hears1 p (Nod.listens p s ((l.take k).map HA.hd)) x.hd) := Lib.hid (by rw [List.take_succ_eq_append_getElem hlt, hx, List.map_append]; exact Nod.listens_snoc _ _ _ _)
      obtain ⟨t0, t1, t2, t3, t4, t5, t6, t7, t8, t9, t10, t11, t12, t13, t14⟩ := hcx0 x hx
      subst hB2
      clear hcx0 hx
      generalize Nod.listens p s ((l.take k).map HA.hd) = S at hN HNX0
      have hNZ := hN.lt
      go_upto_region 3 with fail
      clear t0 t1 t2 t3 t4 t5 t6 t7 t8 t9 t10 t11 t12 t13 t14 hb
      have hZ := Own.new wr #[.int .i64 x.m.kind, .int .i64 x.m.frm, .int .i64 x.m.lo, .int .i64 x.m.hi, .int .i64 x.m.held, .int .i64 x.m.hops, .bool x.m.good, .bool x.m.ref, .int .i64 x.m.slo, .int .i64 x.m.shi, .int .i64 x.m.pulse, .int .i64 x.m.time, .int .i64 x.m.num, .slice x.A x.m.table.length x.cap, .int .i64 x.age] 65 rfl
      replace hN := hN.alloc (.cells #[.int .i64 x.m.kind, .int .i64 x.m.frm, .int .i64 x.m.lo, .int .i64 x.m.hi, .int .i64 x.m.held, .int .i64 x.m.hops, .bool x.m.good, .bool x.m.ref, .int .i64 x.m.slo, .int .i64 x.m.shi, .int .i64 x.m.pulse, .int .i64 x.m.time, .int .i64 x.m.num, .slice x.A x.m.table.length x.cap, .int .i64 x.age] 65)
      replace hon := hon.alloc (.cells #[.int .i64 x.m.kind, .int .i64 x.m.frm, .int .i64 x.m.lo, .int .i64 x.m.hi, .int .i64 x.m.held, .int .i64 x.m.hops, .bool x.m.good, .bool x.m.ref, .int .i64 x.m.slo, .int .i64 x.m.shi, .int .i64 x.m.pulse, .int .i64 x.m.time, .int .i64 x.m.num, .slice x.A x.m.table.length x.cap, .int .i64 x.age] 65)
      change Code.wp _ _ _ _ (wr.alloc (.cells #[.int .i64 x.m.kind, .int .i64 x.m.frm, .int .i64 x.m.lo, .int .i64 x.m.hi, .int .i64 x.m.held, .int .i64 x.m.hops, .bool x.m.good, .bool x.m.ref, .int .i64 x.m.slo, .int .i64 x.m.shi, .int .i64 x.m.pulse, .int .i64 x.m.time, .int .i64 x.m.num, .slice x.A x.m.table.length x.cap, .int .i64 x.age] 65))
      generalize wr.alloc (.cells #[.int .i64 x.m.kind, .int .i64 x.m.frm, .int .i64 x.m.lo, .int .i64 x.m.hi, .int .i64 x.m.held, .int .i64 x.m.hops, .bool x.m.good, .bool x.m.ref, .int .i64 x.m.slo, .int .i64 x.m.shi, .int .i64 x.m.pulse, .int .i64 x.m.time, .int .i64 x.m.num, .slice x.A x.m.table.length x.cap, .int .i64 x.age] 65) = W3 at hZ hN hon ⊢
      generalize wr.heap.size = Z at hZ hNZ ⊢
      have z0 := hZ.cell 0 (v := .int .i64 x.m.kind) rfl
      have z6 := hZ.cell 6 (v := .bool x.m.good) rfl
      have hZl := hZ.lt
      by_cases hkd : x.m.kind = 2
      · cases hgd : x.m.good with
        | false =>
          have HNX : Hid (Nod.listens p s ((l.take (k + 1)).map HA.hd) = S) := Lib.hid (by rw [HNX0.out]; unfold Nod.hears1; rw [if_neg (by simp [HA.hd, hgd])])
          rw [hgd] at z6
          rw [hkd] at z0
          clear hgd hkd HNX0 hZ hNZ
          go_wp2_with fail
          clear z0 z6 hZl
          go_roundw
          case rel => exact ⟨k + 1, hlt, by go_num, by rw [HNX.out]; exact hN, hon⟩
          case measure => simp [intOf]; omega
        | true =>
          have HNX : Hid (Nod.listens p s ((l.take (k + 1)).map HA.hd) = Health.listen p S (x.m.time, x.m.num)) := Lib.hid (by rw [HNX0.out]; unfold Nod.hears1; rw [if_pos (by exact ⟨hkd, hgd⟩)]; rfl)
          rw [hgd] at z6
          rw [hkd] at z0
          clear hgd hkd HNX0 hNZ
          go_upto_region 4 with fail
          clear z0 z6 hZl
          have KL := Lib.hid fun W' (h : Own W' G (nodeCells me t p S A cap)) => frontListen [.int .i64 me, .pointer (some ⟨t, 0, none⟩)] G p S A cap (x.m.time, x.m.num) W' h
          unfold stV at KL
          simp only at KL
          have HON := Lib.hid hon
          have HN := Lib.hid fun W' (k : Ok W3.drew W') => hN.next ((Ok.refl W3).drew.trans k)
          have HZ := Lib.hid fun W' (k : Ok W3.drew W') => hZ.drew.next k
          clear hN hZ hon
          refine wp_region_facts_chain (by kernel_rfl) 3 29 rfl (VCLst G Z x) Ok _ 6 rfl rfl (by decide) (by kernel_rfl) (by kernel_rfl) (by kernel_rfl) (by kernel_rfl) (fun i v w w' h k w'' k' => h w'' (k.trans k')) (fun a b c => Ok.trans) (Ok.refl _) [some 21, some 22, some 23, some 24, some 25, some 26] rfl _ rfl ⟨?_, ?_, ?_, ?_, ?_, ?_, trivial⟩ ?_
          · intro a' w' hF hR
            have e0 : a'.tmps[0]? = some (.pointer (some ⟨G, 0, none⟩)) := hF.slot 0 (by kernel_rfl) rfl
            refine wpOp_run (v := .pointer (some ⟨G, 0, none⟩)) rfl rfl ?_ (fun _ _ => rfl) (Ok.refl _)
            clear hF
            go_simp
          · intro a' w' hF hR
            obtain ⟨v0, hv0, e21⟩ := hF.get 0 21 (by kernel_rfl) (by kernel_rfl)
            obtain rfl : v0 = _ := hv0 _ (Ok.refl _)
            refine wpOp_run (v := .pointer (some ⟨G, 0, none⟩)) rfl rfl ?_ (fun _ _ => rfl) (Ok.refl _)
            clear hF
            go_simp
          · intro a' w' hF hR
            obtain ⟨v1, hv1, e22⟩ := hF.get 1 22 (by kernel_rfl) (by kernel_rfl)
            obtain rfl : v1 = _ := hv1 _ (Ok.refl _)
            refine wpOp_run (v := .pointer (some ⟨G, 0, none⟩)) rfl rfl ?_ (fun _ _ => rfl) (Ok.refl _)
            clear hF
            go_simp
          · intro a' w' hF hR
            have e5 : a'.tmps[5]? = some (.pointer (some ⟨Z, 0, none⟩)) := hF.slot 5 (by kernel_rfl) rfl
            refine wpOp_run (v := .pointer (some ⟨Z, 0, none⟩)) rfl rfl ?_ (fun _ _ => rfl) (Ok.refl _)
            clear hF
            go_simp
          · intro a' w' hF hR
            obtain ⟨v3, hv3, e24⟩ := hF.get 3 24 (by kernel_rfl) (by kernel_rfl)
            obtain rfl : v3 = _ := hv3 _ (Ok.refl _)
            refine wpOp_run (v := .pointer (some ⟨Z, 11, none⟩)) rfl rfl ?_ (fun _ _ => rfl) (Ok.refl _)
            clear hF
            go_simp
          · intro a' w' hF hR
            obtain ⟨v4, hv4, e25⟩ := hF.get 4 25 (by kernel_rfl) (by kernel_rfl)
            obtain rfl : v4 = _ := hv4 _ (Ok.refl _)
            have z11 := (HZ.out _ hR).cell 11 (v := .int .i64 x.m.time) rfl
            have z12 := (HZ.out _ hR).cell 12 (v := .int .i64 x.m.num) rfl
            have hzl := (HZ.out _ hR).lt
            refine wpOp_run (v := .agg #[.int .i64 x.m.time, .int .i64 x.m.num]) rfl rfl ?_ (fun _ _ => rfl) (Ok.refl _)
            clear hF
            go_simp
          intro vs W' hvs hR
          have e2 : vs 2 = .pointer (some ⟨G, 0, none⟩) := hvs 2 (by decide) _ (Ok.refl _)
          have e5 : vs 5 = .agg #[.int .i64 x.m.time, .int .i64 x.m.num] := hvs 5 (by decide) _ (Ok.refl _)
          have hN := HN.out _ hR
          have hon := HON.out.ok ((Ok.refl W3).drew.trans hR)
          clear hvs HN HZ HON
          simp only [putFrom, e2, e5]
          simp only [Act.put, List.setIfInBounds_toArray, List.set_cons_zero, List.set_cons_succ]
          refine wpOp_enters (o := ⟨some 27, _, _, _, _, none⟩) (f := 81) (args := #[.pointer (some ⟨G, 0, none⟩), .agg #[.int .i64 x.m.time, .int .i64 x.m.num]]) rfl rfl ?_ ((KL.out _ hN.own).mono ?_)
          · go_simp
          rintro e w5 ⟨rfl, hO5, hon5⟩
          refine ⟨_, rfl, ?_⟩
          try simp only [TailFrom]
          simp only [Act.put, List.setIfInBounds_toArray, List.set_cons_zero, List.set_cons_succ]
          have hN5 := hN.step hon5 hO5
          replace hon := hon.trans hon5
          clear hN hon5 hO5 e2 e5
          generalize vs 0 = x20
          generalize vs 1 = x21
          generalize vs 3 = x23
          generalize vs 4 = x24
          clear hR vs
          go_wp2_with fail
          go_roundw
          case rel => exact ⟨k + 1, hlt, by go_num, by rw [HNX.out]; exact hN5, hon⟩
          case measure => simp [intOf]; omega
      · have HNX : Hid (Nod.listens p s ((l.take (k + 1)).map HA.hd) = S) := Lib.hid (by rw [HNX0.out]; unfold Nod.hears1; rw [if_neg (by rintro ⟨h, -⟩; exact hkd h)])
        have e2 : (x.m.kind == 2) = false := by simpa using hkd
        clear HNX0 hZ hNZ
        go_wp2_with fail
        clear z0 z6 hZl e2
        go_roundw
        case rel => exact ⟨k + 1, hlt, by go_num, by rw [HNX.out]; exact hN, hon⟩
        case measure => simp [intOf]; omega
    · have hkl : k = l.length := by omega
      subst hkl
      rw [List.take_length] at hN
      clear hlt hk
      go_wp2_with fail
      go_end0
      exact ⟨rfl, hN, hon⟩
end Go.Proofs.YtnhjdinmakkknaaGreatDoor

namespace Go.Proofs.YtnhjdinmakkknaaGreatDoor
open Go.RowKit
set_option linter.unusedVariables false
set_option maxRecDepth 100000
attribute [local go_sem ↓] Go.wp_at_zero Go.wp_at_succ
theorem row_lt23 {K : Nat} {w : World} {A : Option Addr} {cap : Nat} {l : List (Int × Int)} (h : TabRow K w A cap l) : ∀ a, A = some a → K ≤ a.block ∧ a.block < w.heap.size := fun a ha => by
  rcases h.2 with ⟨e, _⟩ | ⟨g, c2, cur, e, hb, hh, _⟩
  · injection e with e1 _ _; rw [e1] at ha; cases ha
  · injection e with e1 _ _; rw [e1] at ha; cases ha; exact ⟨hb, (Array.getElem?_eq_some_iff.1 hh).1⟩
theorem stepTable23 (p : Par) (s : Sta) (t : Int) (u : Sta) : (Health.step p s t u).table.length ≤ 1000 := by
  rw [Gate.step_table]
  show (if Leap.good u.table = true then u.table else []).length ≤ 1000
  split
  · next h =>
    unfold Leap.good Wire.tab at h
    simp only [Bool.and_eq_true, decide_eq_true_eq] at h
    omega
  · simp
/-- A variable's block is no map. -/
theorem TabM.pow_keep {w w1 : World} {t b : Nat} {f : NF} (h : TabM w t b f) (k : Only b w w1) (hp : Pow w) : Pow w1 := by
  obtain ⟨D, ⟨es, clock, e2, -⟩, -⟩ := h.map
  unfold Pow Lib.TabIs World.var? at *
  cases hg : Tryz.prog.globalNamed "internal/strconv.uint64pow10" with
  | none => simp [hg] at hp
  | some g =>
    simp only [hg, Option.bind_some] at hp ⊢
    have hne : g ≠ b := by
      rintro rfl
      rw [e2] at hp
      simp at hp
    have hlt : g < w.heap.size := by
      rcases Nat.lt_or_ge g w.heap.size with h | h
      · exact h
      · rw [Array.getElem?_eq_none h] at hp
        simp at hp
    rw [k.block g hlt hne]
    exact hp
/-- What changes a block that wasn't there. -/
theorem OnlyN.then_new23 {g b M : Nat} {w w1 w2 : World} (h : OnlyN g b w w1) (k : Only M w1 w2) (hM : w.heap.size ≤ M) : OnlyN g b w w2 :=
  ⟨k.os.trans h.os, k.tape.trans h.tape, k.output.trans h.output, Nat.le_trans h.size k.size, fun i a c d => (k.block i (Nat.lt_of_lt_of_le a h.size) (by omega)).trans (h.block i a c d)⟩
theorem Nod.next_table {N : Nat} (p : Par) {s : Sta} (m : Int) {l : List Hd} (hs : s.table.length ≤ N) (hl : ∀ x ∈ l, x.m.table.length ≤ N) : (Nod.next p s m l).table.length ≤ N := by
  have hg : ∀ T ∈ Nod.tables p l, T.length ≤ N := fun T hT => by
    obtain ⟨x, hx, rfl⟩ := List.mem_map.1 hT
    have hx := (List.mem_filter.1 hx).1
    obtain ⟨k, hk, h1⟩ := List.mem_filterMap.1 hx
    unfold Gate.one at h1
    split at h1
    · cases h1
    · exact hl x (List.mem_of_find?_eq_some h1)
  unfold Nod.next
  split
  · show (Vote.out p.f s.table (Nod.tables p l)).length ≤ N
    unfold Vote.out
    split
    · next i _ =>
      rw [List.getD_eq_getElem?_getD]
      cases hT : (Nod.tables p l)[i]? with
      | none => exact Nat.zero_le _
      | some T => exact hg T (List.mem_of_getElem? hT)
    · exact hs
  · split
    · next j hj =>
      unfold Nod.follow
      simp only
      split
      · have hjl := Route.pick_lt hj
        rw [List.getD_eq_getElem?_getD, List.getElem?_eq_getElem hjl]
        have := List.getElem_mem hjl
        obtain ⟨x, hx, e⟩ := List.mem_map.1 this
        show ((Nod.msgs p l)[j]).table.length ≤ N
        rw [← e]
        exact hl x (List.mem_filter.1 hx).1
      · exact hs
    · exact hs
/-- What each operation leaves. -/
def VMNBeS (G X : Nat) (C : Option Addr) (cc : Nat) (o : List HA) (x : In) (u : Sta) (w : World) (v : Value) : Nat → Prop
  | 0 => v = .pointer (some ⟨G, 0, none⟩)
  | 1 => v = .pointer (some ⟨G, 0, none⟩)
  | 2 => v = .pointer (some ⟨G, 0, none⟩)
  | 3 => v = .pointer (some ⟨X, 0, none⟩)
  | 4 => v = .int .i64 x.ticks
  | 5 => v = .pointer (some ⟨G, 0, none⟩)
  | 6 => v = .pointer (some ⟨X, 0, none⟩)
  | 7 => v = .int .i64 x.ticks
  | 8 => v = .slice C o.length cc
  | 9 => ∃ (A2 : Option Addr) (c2 : Nat), v = staV u A2 c2 ∧ PairsAt w A2 u.table
  | _ => v = .bool true
/-- It stays so. -/
def VCNBeS (G X : Nat) (C : Option Addr) (cc : Nat) (o : List HA) (x : In) (u : Sta) (i : Nat) (v : Value) (w : World) : Prop := ∀ w', Ok w w' → VMNBeS G X C cc o x u w' v i
/-- What each operation leaves. -/
def VMNBeY (G : Nat) (me : Int) (w : World) (v : Value) : Nat → Prop
  | 0 => v = .pointer (some ⟨G, 0, none⟩)
  | 1 => v = .pointer (some ⟨G, 0, none⟩)
  | 2 => v = .pointer (some ⟨G, 0, none⟩)
  | 3 => v = .pointer (some ⟨G, 0, none⟩)
  | 4 => v = .pointer (some ⟨G, 0, none⟩)
  | 5 => v = .pointer (some ⟨G, 23, none⟩)
  | 6 => v = .int .i64 me
  | 7 => v = .agg #[.int .i64 0, .int .i64 0]
  | _ => v = .bool true
/-- It stays so. -/
def VCNBeY (G : Nat) (me : Int) (i : Nat) (v : Value) (w : World) : Prop := ∀ w', Ok w w' → VMNBeY G me w' v i
set_option maxHeartbeats 6400000 in
theorem nodeBeat (G t b : Nat) (me : Int) (p : Par) (s : Sta) (A : Option Addr) (cap : Nat) (f : NF) (x : In) (w : World) (hN : NodeAt w G t b me p s A cap f) (hA : PairsAt w A s.table) (hs : s.table.length ≤ 1048576) (hx : HeardsAt w x.B x.heard) (hh : x.heard.length ≤ 1000) (hwf : ∀ h ∈ x.heard, (Lit.int .i64 h.m.frm).wf = true) (hd : ∀ h ∈ x.heard, h.m.table.length ≤ 8796093022208) (hpf : -9223372036854775808 ≤ p.f ∧ p.f ≤ 9223372036854775807) (hpd : 0 ≤ p.d ∧ p.d ≤ 16) (hpow : Pow w) :
    Calls Tryz.prog 14 #[.pointer (some ⟨G, 0, none⟩), inV x] w fun e w' => ∃ (A3 : Option Addr) (c3 : Nat) (A2 : Option Addr) (c2 : Nat), e = .returned (msgV (Nod.say p me (Nod.state p s x.ticks ((Nod.known HA.hd me f x.heard).1.map HA.hd))) A3 c3) ∧ NodeAt w' G t b me p (Health.stamped (Nod.state p s x.ticks ((Nod.known HA.hd me f x.heard).1.map HA.hd))) A2 c2 (Mem.tick 2 (Nod.known HA.hd me f x.heard).2) ∧ TabRow w.heap.size w' A2 c2 (Nod.state p s x.ticks ((Nod.known HA.hd me f x.heard).1.map HA.hd)).table ∧ TabRow w.heap.size w' A3 c3 (Nod.state p s x.ticks ((Nod.known HA.hd me f x.heard).1.map HA.hd)).table ∧ OnlyN G b w w' ∧ (∀ a b', A2 = some a → A3 = some b' → a.block ≠ b'.block) := by
  obtain ⟨⟨o, f3⟩, hK⟩ : ∃ y, Nod.known HA.hd me f x.heard = y := ⟨_, rfl⟩
  have hsub : ∀ y ∈ o, y ∈ x.heard := fun y hy => Nod.known_mem HA.hd (me := me) (f := f) (by rw [hK]; exact hy)
  have hoL : o.length ≤ 1000 := by have := Nod.known_len HA.hd me f x.heard; rw [hK] at this; exact Nat.le_trans this hh
  have hg3 : Mem.Good f3 := by have := Nod.known_good HA.hd me hN.good x.heard; rw [hK] at this; exact this
  have KK := Lib.hid fun W' h1 h2 => nodeKnown G t b me p s A cap f x.B x.heard x.hcap W' h1 h2 hh hwf
  unfold KnownEnd at KK
  rw [hK] at KK ⊢
  simp only at KK ⊢
  obtain ⟨f4, hf4⟩ : ∃ y, Mem.tick 2 f3 = y := ⟨_, rfl⟩
  have KT := Lib.hid fun W' h => memTick t b 2 f3 W' h hg3 rfl
  unfold TickEnd at KT
  have HG4 : Hid (Mem.Good f4) := Lib.hid (hf4 ▸ hg3.tick 2)
  rw [hf4] at KT ⊢
  obtain ⟨u, hu⟩ : ∃ y, Nod.next p s x.ticks (o.map HA.hd) = y := ⟨_, rfl⟩
  obtain ⟨s1, hs1⟩ : ∃ y, Health.step p s x.ticks u = y := ⟨_, rfl⟩
  obtain ⟨s2, hs2⟩ : ∃ y, Nod.listens p s1 (o.map HA.hd) = y := ⟨_, rfl⟩
  have hst : Nod.state p s x.ticks (o.map HA.hd) = s2 := by unfold Nod.state; rw [hu, hs1, hs2]
  rw [hst]
  have HS1 := Lib.hid hs1
  have HS2 := Lib.hid hs2
  have HS1L : Hid (s1.table.length ≤ 8796093022208) := Lib.hid (by rw [← hs1]; exact Nat.le_trans (stepTable23 p s x.ticks u) (by decide))
  have HUL : Hid (u.table.length ≤ 9223372036854775807) := Lib.hid (by
    rw [← hu]
    exact Nat.le_trans (Nod.next_table (N := 8796093022208) p x.ticks (Nat.le_trans hs (by decide)) (fun y hy => by
      obtain ⟨z, hz, rfl⟩ := List.mem_map.1 hy
      exact hd z (hsub z hz))) (by decide))
  have KFO := Lib.hid fun C cc W' h1 h2 h3 h4 => nodeFollows G t me p s A cap x.ticks C o cc W' h1 h2 hs h3 hoL (fun y hy => hd y (hsub y hy)) hpf hpd h4
  rw [hu] at KFO
  obtain ⟨mm, hmm⟩ : ∃ y, Nod.say p me s2 = y := ⟨_, rfl⟩
  rw [hmm]
  have HMM : Hid (Gate.say p s2 2 me false (0, 0) = mm) := Lib.hid hmm
  have HOL := Lib.hid hoL
  clear hK hsub hoL hg3 hf4 hu hs1 hs2 hst hmm hwf hd hpf hpd hs
  have hX := (Own.new w (inCells x) 49 rfl).alloc (.cells #[.int .i64 0, .int .i64 0, .int .i64 0, .int .i64 0, .int .i64 0, .int .i64 0, .bool false, .bool false, .int .i64 0, .int .i64 0, .int .i64 0, .int .i64 0, .int .i64 0, .slice none 0 0] 51)
  have hM := Own.new (w.alloc (.cells (inCells x) 49)) #[.int .i64 0, .int .i64 0, .int .i64 0, .int .i64 0, .int .i64 0, .int .i64 0, .bool false, .bool false, .int .i64 0, .int .i64 0, .int .i64 0, .int .i64 0, .int .i64 0, .slice none 0 0] 51 (g := w.heap.size + 1) (by simp)
  have hok := ((Ok.refl w).alloc (.cells (inCells x) 49)).alloc (.cells #[.int .i64 0, .int .i64 0, .int .i64 0, .int .i64 0, .int .i64 0, .int .i64 0, .bool false, .bool false, .int .i64 0, .int .i64 0, .int .i64 0, .int .i64 0, .int .i64 0, .slice none 0 0] 51)
  have hn := hN.next hok
  have hH := hx.below hok
  have hPA := hA.below hok
  have hpw := hpow.next hok
  have hNl := hN.lt
  clear hN hA hx hpow
  unfold inV
  go_enter Tryz.func14, Tryz.ntmps14
  go_upto_region 1 with fail
  change Code.wp _ _ _ _ ((w.alloc (.cells (inCells x) 49)).alloc (.cells #[.int .i64 0, .int .i64 0, .int .i64 0, .int .i64 0, .int .i64 0, .int .i64 0, .bool false, .bool false, .int .i64 0, .int .i64 0, .int .i64 0, .int .i64 0, .int .i64 0, .slice none 0 0] 51))
  generalize (w.alloc (.cells (inCells x) 49)).alloc (.cells #[.int .i64 0, .int .i64 0, .int .i64 0, .int .i64 0, .int .i64 0, .int .i64 0, .bool false, .bool false, .int .i64 0, .int .i64 0, .int .i64 0, .int .i64 0, .int .i64 0, .slice none 0 0] 51) = W at hX hM hok hn hH hPA hpw ⊢
  obtain ⟨M, hMe⟩ : ∃ r, w.heap.size + 1 = r := ⟨_, rfl⟩
  obtain ⟨X, hXe⟩ : ∃ r, w.heap.size = r := ⟨_, rfl⟩
  have HD : Hid (G ≠ M ∧ t ≠ M ∧ b ≠ M ∧ w.heap.size ≤ M) := Lib.hid ⟨by omega, by omega, by omega, by omega⟩
  have HXD : Hid (G ≠ X ∧ b ≠ X) := Lib.hid ⟨by omega, by omega⟩
  rw [hMe] at hM
  rw [hXe] at hX
  rw [hMe, hXe]
  clear hMe hXe hNl
  have i1 := hX.cell 1 (v := .slice x.B x.heard.length x.hcap) rfl
  have hxl := hX.lt
  have hGW := hn.lt.1
  have hbW := hn.lt.2.2
  go_upto_region 4 with (go_at_call 31; refine (KK.out _ hn hH).mono ?_; rintro e w3 ⟨C, cc, rfl, hrow, hH3, hn3, hon3⟩; clear i1 hxl)
  have HCG : Hid (∀ a, C = some a → a.block ≠ G) := Lib.hid fun a ha => by subst ha; have := row_far22 hrow a.block rfl; omega
  have hPA3 := hn.tab.pairs_keep hon3 hPA
  have hpw3 := hn.tab.pow_keep hon3 hpw
  have hMb := hn.tab.cells_ne hM
  have hXb := hn.tab.cells_ne hX
  replace hM := hon3.own hM hMb
  replace hX := hon3.own hX hXb
  have hon : OnlyN G b w w3 := (OnlyN.of_ok hok).trans (OnlyN.of_b hon3)
  clear hn hH hPA hpw hon3 hrow hok KK
  have cn := hn3.cNear
  have hgl := hn3.lt.1
  go_upto_region 5 with (go_at_call 32; refine (KT.out _ hn3.tab).mono ?_; rintro e w4 ⟨D0, d0, rfl, hI0, hD0, hon4, hT4⟩; clear cn hgl)
  have hPA4 := hn3.tab.pairs_keep hon4 hPA3
  have hpw4 := hn3.tab.pow_keep hon4 hpw3
  have hH4 := hn3.tab.heards_keep hon4 hH3
  replace hM := hon4.own hM hMb
  replace hX := hon4.own hX hXb
  replace hon := hon.trans (OnlyN.of_b hon4)
  have hn4 := hn3.turn hon4 hT4 HG4.out
  clear hn3 hH3 hPA3 hpw3 hon4 hT4 hMb hXb hI0 hD0 KT
  have KF := Lib.hid fun W' (k : Ok w4.drew W') => KFO.out C cc W' (hn4.own.drew.next k) (hPA4.below ((Ok.refl w4).drew.trans k)) (hH4.below ((Ok.refl w4).drew.trans k)) (hpw4.next ((Ok.refl w4).drew.trans k))
  have HN := Lib.hid fun W' (k : Ok w4.drew W') => hn4.next ((Ok.refl w4).drew.trans k)
  have HX := Lib.hid fun W' (k : Ok w4.drew W') => hX.drew.next k
  have HM := Lib.hid fun W' (k : Ok w4.drew W') => hM.drew.next k
  have HH := Lib.hid fun W' (k : Ok w4.drew W') => hH4.cells.below ((Ok.refl w4).drew.trans k)
  have HON := Lib.hid hon
  clear hn4 hX hM hH4 hon hPA4 hpw4 KFO
  refine wp_region_facts_chain (by kernel_rfl) 6 41 rfl (VCNBeS G X C cc o x u) Ok _ 10 rfl rfl (by decide) (by kernel_rfl) (by kernel_rfl) (by kernel_rfl) (by kernel_rfl) (fun i v w w' h k w'' k' => h w'' (k.trans k')) (fun a b c => Ok.trans) (Ok.refl _) [some 18, some 19, some 20, some 21, some 22, some 23, some 24, some 25, some 26, some 27] rfl _ rfl ⟨?_, ?_, ?_, ?_, ?_, ?_, ?_, ?_, ?_, ?_, trivial⟩ ?_
  · intro a' w' hF hR
    have e0 : a'.tmps[0]? = some (.pointer (some ⟨G, 0, none⟩)) := hF.slot 0 (by kernel_rfl) rfl
    refine wpOp_run (v := .pointer (some ⟨G, 0, none⟩)) rfl rfl ?_ (fun _ _ => rfl) (Ok.refl _)
    clear hF
    go_simp
  · intro a' w' hF hR
    obtain ⟨v0, hv0, e18⟩ := hF.get 0 18 (by kernel_rfl) (by kernel_rfl)
    obtain rfl : v0 = _ := hv0 _ (Ok.refl _)
    refine wpOp_run (v := .pointer (some ⟨G, 0, none⟩)) rfl rfl ?_ (fun _ _ => rfl) (Ok.refl _)
    clear hF
    go_simp
  · intro a' w' hF hR
    obtain ⟨v1, hv1, e19⟩ := hF.get 1 19 (by kernel_rfl) (by kernel_rfl)
    obtain rfl : v1 = _ := hv1 _ (Ok.refl _)
    refine wpOp_run (v := .pointer (some ⟨G, 0, none⟩)) rfl rfl ?_ (fun _ _ => rfl) (Ok.refl _)
    clear hF
    go_simp
  · intro a' w' hF hR
    have e3 : a'.tmps[3]? = some (.pointer (some ⟨X, 0, none⟩)) := hF.slot 3 (by kernel_rfl) rfl
    refine wpOp_run (v := .pointer (some ⟨X, 0, none⟩)) rfl rfl ?_ (fun _ _ => rfl) (Ok.refl _)
    clear hF
    go_simp
  · intro a' w' hF hR
    obtain ⟨v3, hv3, e21⟩ := hF.get 3 21 (by kernel_rfl) (by kernel_rfl)
    obtain rfl : v3 = _ := hv3 _ (Ok.refl _)
    have i0 := (HX.out _ hR).cell 0 (v := .int .i64 x.ticks) rfl
    have hxl := (HX.out _ hR).lt
    refine wpOp_run (v := .int .i64 x.ticks) rfl rfl ?_ (fun _ _ => rfl) (Ok.refl _)
    clear hF
    go_simp
  · intro a' w' hF hR
    have e0 : a'.tmps[0]? = some (.pointer (some ⟨G, 0, none⟩)) := hF.slot 0 (by kernel_rfl) rfl
    refine wpOp_run (v := .pointer (some ⟨G, 0, none⟩)) rfl rfl ?_ (fun _ _ => rfl) (Ok.refl _)
    clear hF
    go_simp
  · intro a' w' hF hR
    have e3 : a'.tmps[3]? = some (.pointer (some ⟨X, 0, none⟩)) := hF.slot 3 (by kernel_rfl) rfl
    refine wpOp_run (v := .pointer (some ⟨X, 0, none⟩)) rfl rfl ?_ (fun _ _ => rfl) (Ok.refl _)
    clear hF
    go_simp
  · intro a' w' hF hR
    obtain ⟨v6, hv6, e24⟩ := hF.get 6 24 (by kernel_rfl) (by kernel_rfl)
    obtain rfl : v6 = _ := hv6 _ (Ok.refl _)
    have i0 := (HX.out _ hR).cell 0 (v := .int .i64 x.ticks) rfl
    have hxl := (HX.out _ hR).lt
    refine wpOp_run (v := .int .i64 x.ticks) rfl rfl ?_ (fun _ _ => rfl) (Ok.refl _)
    clear hF
    go_simp
  · intro a' w' hF hR
    have e5 : a'.tmps[5]? = some (.slice C o.length cc) := hF.slot 5 (by kernel_rfl) rfl
    refine wpOp_run (v := .slice C o.length cc) rfl rfl ?_ (fun _ _ => rfl) (Ok.refl _)
    clear hF
    go_simp
  · intro a' w' hF hR
    obtain ⟨v5, hv5, e23⟩ := hF.get 5 23 (by kernel_rfl) (by kernel_rfl)
    obtain rfl : v5 = _ := hv5 _ (Ok.refl _)
    obtain ⟨v7, hv7, e25⟩ := hF.get 7 25 (by kernel_rfl) (by kernel_rfl)
    obtain rfl : v7 = _ := hv7 _ (Ok.refl _)
    obtain ⟨v8, hv8, e26⟩ := hF.get 8 26 (by kernel_rfl) (by kernel_rfl)
    obtain rfl : v8 = _ := hv8 _ (Ok.refl _)
    clear hF
    refine wpOp_call (f := 34) (args := #[.pointer (some ⟨G, 0, none⟩), .int .i64 x.ticks, .slice C o.length cc]) rfl rfl ?_ ((KF.out _ hR).mono ?_)
    · go_simp
    · rintro e w2 ⟨A2, c2, rfl, hP2, hb2⟩; exact ⟨_, rfl, fun w3 k => ⟨A2, c2, rfl, hP2.below k⟩, hb2⟩
  intro vs W' hvs hR
  have e2 : vs 2 = .pointer (some ⟨G, 0, none⟩) := hvs 2 (by decide) _ (Ok.refl _)
  have e4 : vs 4 = .int .i64 x.ticks := hvs 4 (by decide) _ (Ok.refl _)
  obtain ⟨A2, c2, e9, hPu⟩ := hvs 9 (by decide) _ (Ok.refl _)
  have hN := HN.out _ hR
  have hM := HM.out _ hR
  have hH := HH.out _ hR
  have hon := HON.out.ok ((Ok.refl w4).drew.trans hR)
  clear hvs HN HX HM HH HON KF
  simp only [putFrom, e2, e4, e9]
  simp only [Act.put, List.setIfInBounds_toArray, List.set_cons_zero, List.set_cons_succ]
  refine wpOp_enters (o := ⟨some 28, _, _, _, _, none⟩) (f := 33) (args := #[.pointer (some ⟨G, 0, none⟩), .int .i64 x.ticks, staV u A2 c2]) rfl rfl ?_ ((frontStep [.int .i64 me, .pointer (some ⟨t, 0, none⟩)] G p s A cap x.ticks u A2 c2 W' hN.own hPu HUL.out).mono ?_)
  · go_simp
  rintro e w5 ⟨rfl, A4, c4, hO5, hT5, hon5⟩
  refine ⟨_, rfl, ?_⟩
  try simp only [TailFrom]
  simp only [Act.put, List.setIfInBounds_toArray, List.set_cons_zero, List.set_cons_succ]
  have HK5 : Hid (w.heap.size ≤ W'.heap.size ∧ G < W'.heap.size ∧ M < W'.heap.size) := Lib.hid ⟨hon.size, hN.lt.1, hM.lt⟩
  have hN5 := hN.step hon5 hO5
  replace hM := hon5.own hM (Ne.symm HD.out.1)
  replace hH := hon5.cells hH HCG.out
  replace hon := hon.trans (OnlyN.of_g hon5)
  clear hN hO5 hon5 hPu e2 e4 e9
  obtain ⟨K5, hK5⟩ : ∃ y, W'.heap.size = y := ⟨_, rfl⟩
  rw [hK5] at hT5 HK5
  clear hK5
  rw [HS1.out] at hN5 hT5
  generalize vs 0 = x20
  generalize vs 1 = x21
  generalize vs 3 = x23
  generalize vs 5 = x25
  generalize vs 6 = x26
  generalize vs 7 = x27
  generalize vs 8 = x28
  clear hR vs
  go_upto_region 7 with (go_at_call 35; refine ((nodeListens G t b me p s1 A4 c4 f4 C o cc _ hN5 hH HCG.out HOL.out)).mono ?_; rintro e w6 ⟨rfl, hN6, hon6⟩; replace hM := hon6.own hM (Ne.symm HD.out.1); replace hT5 := TabRow.only hT5 hon6 HK5.out.2.1; replace hon := hon.trans (OnlyN.of_g hon6); clear hon6 hN5 hH)
  rw [HS2.out] at hN6
  have HST : Hid (s1.table = s2.table) := Lib.hid (by rw [← HS2.out]; exact (Nod.listens_keeps p s1 (o.map HA.hd)).2.2.2.2.2.2.2.1.symm)
  have hT4 : TabRow K5 w6 A4 c4 s2.table := by rw [← HST.out]; exact hT5
  clear hT5
  have HSL : Hid (s2.table.length ≤ 8796093022208) := Lib.hid (by rw [← HST.out]; exact HS1L.out)
  have HN := Lib.hid fun W' (k : Ok w6.drew W') => hN6.next ((Ok.refl w6).drew.trans k)
  have HM := Lib.hid fun W' (k : Ok w6.drew W') => hM.drew.next k
  have HT4 := Lib.hid fun W' (k : Ok w6.drew W') => hT4.next ((Ok.refl w6).drew.trans k)
  have HON := Lib.hid hon
  clear hN6 hM hT4 hon
  refine wp_region_facts_chain (by kernel_rfl) 5 41 rfl (VCNBeY G me) Ok _ 8 rfl rfl (by decide) (by kernel_rfl) (by kernel_rfl) (by kernel_rfl) (by kernel_rfl) (fun i v w w' h k w'' k' => h w'' (k.trans k')) (fun a b c => Ok.trans) (Ok.refl _) [some 32, some 33, some 34, some 35, some 36, some 37, some 38, some 39] rfl _ rfl ⟨?_, ?_, ?_, ?_, ?_, ?_, ?_, ?_, trivial⟩ ?_
  · intro a' w' hF hR
    have e0 : a'.tmps[0]? = some (.pointer (some ⟨G, 0, none⟩)) := hF.slot 0 (by kernel_rfl) rfl
    refine wpOp_run (v := .pointer (some ⟨G, 0, none⟩)) rfl rfl ?_ (fun _ _ => rfl) (Ok.refl _)
    clear hF
    go_simp
  · intro a' w' hF hR
    obtain ⟨v0, hv0, e32⟩ := hF.get 0 32 (by kernel_rfl) (by kernel_rfl)
    obtain rfl : v0 = _ := hv0 _ (Ok.refl _)
    refine wpOp_run (v := .pointer (some ⟨G, 0, none⟩)) rfl rfl ?_ (fun _ _ => rfl) (Ok.refl _)
    clear hF
    go_simp
  · intro a' w' hF hR
    obtain ⟨v1, hv1, e33⟩ := hF.get 1 33 (by kernel_rfl) (by kernel_rfl)
    obtain rfl : v1 = _ := hv1 _ (Ok.refl _)
    refine wpOp_run (v := .pointer (some ⟨G, 0, none⟩)) rfl rfl ?_ (fun _ _ => rfl) (Ok.refl _)
    clear hF
    go_simp
  · intro a' w' hF hR
    have e0 : a'.tmps[0]? = some (.pointer (some ⟨G, 0, none⟩)) := hF.slot 0 (by kernel_rfl) rfl
    refine wpOp_run (v := .pointer (some ⟨G, 0, none⟩)) rfl rfl ?_ (fun _ _ => rfl) (Ok.refl _)
    clear hF
    go_simp
  · intro a' w' hF hR
    obtain ⟨v3, hv3, e35⟩ := hF.get 3 35 (by kernel_rfl) (by kernel_rfl)
    obtain rfl : v3 = _ := hv3 _ (Ok.refl _)
    refine wpOp_run (v := .pointer (some ⟨G, 0, none⟩)) rfl rfl ?_ (fun _ _ => rfl) (Ok.refl _)
    clear hF
    go_simp
  · intro a' w' hF hR
    obtain ⟨v4, hv4, e36⟩ := hF.get 4 36 (by kernel_rfl) (by kernel_rfl)
    obtain rfl : v4 = _ := hv4 _ (Ok.refl _)
    refine wpOp_run (v := .pointer (some ⟨G, 23, none⟩)) rfl rfl ?_ (fun _ _ => rfl) (Ok.refl _)
    clear hF
    go_simp
  · intro a' w' hF hR
    obtain ⟨v5, hv5, e37⟩ := hF.get 5 37 (by kernel_rfl) (by kernel_rfl)
    obtain rfl : v5 = _ := hv5 _ (Ok.refl _)
    have c23 := (HN.out _ hR).cMe
    have hgl := (HN.out _ hR).lt.1
    refine wpOp_run (v := .int .i64 me) rfl rfl ?_ (fun _ _ => rfl) (Ok.refl _)
    clear hF
    go_simp
  · intro a' w' hF hR
    refine wpOp_run (v := .agg #[.int .i64 0, .int .i64 0]) rfl rfl ?_ (fun _ _ => rfl) (Ok.refl _)
    clear hF
    go_simp
  intro vs W' hvs hR
  have e2 : vs 2 = .pointer (some ⟨G, 0, none⟩) := hvs 2 (by decide) _ (Ok.refl _)
  have e6 : vs 6 = .int .i64 me := hvs 6 (by decide) _ (Ok.refl _)
  have e7 : vs 7 = .agg #[.int .i64 0, .int .i64 0] := hvs 7 (by decide) _ (Ok.refl _)
  have hN := HN.out _ hR
  have hM := HM.out _ hR
  have hT4 := HT4.out _ hR
  have hon := HON.out.ok ((Ok.refl w6).drew.trans hR)
  clear hvs HN HM HON HT4
  simp only [putFrom, e2, e6, e7]
  simp only [Act.put, List.setIfInBounds_toArray, List.set_cons_zero, List.set_cons_succ]
  refine wpOp_enters (o := ⟨some 40, _, _, _, _, none⟩) (f := 36) (args := #[.pointer (some ⟨G, 0, none⟩), .int .i64 2, .int .i64 me, .bool false, .agg #[.int .i64 0, .int .i64 0]]) rfl rfl ?_ ((gateSay [.int .i64 me, .pointer (some ⟨t, 0, none⟩)] G p s2 A4 c4 2 me false 0 0 K5 W' hN.own hT4 HK5.out.2.1 HSL.out).mono ?_)
  · go_simp
  rintro e w7 ⟨A3, c3, rfl, hQ6, hT6, hon6⟩
  have HDIS := Lib.hid (show ∀ a b, A4 = some a → A3 = some b → a.block ≠ b.block from fun a b ha hb => by have h1 := (row_lt23 hT4 a ha).2; have h2 := (row_lt23 hT6 b hb).1; omega)
  refine ⟨_, rfl, ?_⟩
  simp only [Act.put, List.setIfInBounds_toArray, List.set_cons_zero, List.set_cons_succ]
  have hWl : w.heap.size ≤ W'.heap.size ∧ M < W'.heap.size := ⟨hon.size, hM.lt⟩
  replace hM := hon6.own hM (Ne.symm HD.out.1)
  replace hT4 := hT4.only hon6 HK5.out.2.1
  replace hon := hon.trans (OnlyN.of_g hon6)
  have hN7 := hN.step hon6 hQ6
  clear hon6 hN hQ6 e2 e6 e7
  rw [show (if false = true then ((0 : Int), (0 : Int)) else (0, 0)) = (0, 0) from rfl, HMM.out]
  unfold msgV
  have m0 := hM.cell 0 rfl
  have m1 := hM.cell 1 rfl
  have m2 := hM.cell 2 rfl
  have m3 := hM.cell 3 rfl
  have m4 := hM.cell 4 rfl
  have m5 := hM.cell 5 rfl
  have m6 := hM.cell 6 rfl
  have m7 := hM.cell 7 rfl
  have m8 := hM.cell 8 rfl
  have m9 := hM.cell 9 rfl
  have m10 := hM.cell 10 rfl
  have m11 := hM.cell 11 rfl
  have m12 := hM.cell 12 rfl
  have m13 := hM.cell 13 rfl
  have f0 := hM.frozen 0
  have f1 := hM.frozen 1
  have f2 := hM.frozen 2
  have f3 := hM.frozen 3
  have f4 := hM.frozen 4
  have f5 := hM.frozen 5
  have f6 := hM.frozen 6
  have f7 := hM.frozen 7
  have f8 := hM.frozen 8
  have f9 := hM.frozen 9
  have f10 := hM.frozen 10
  have f11 := hM.frozen 11
  have f12 := hM.frozen 12
  have f13 := hM.frozen 13
  have hml := hM.lt
  refine wpOp_store (w' := ((((((((((((((w7.setCell ⟨M, 0, none⟩ (.int .i64 mm.kind)).setCell ⟨M, 1, none⟩ (.int .i64 mm.frm)).setCell ⟨M, 2, none⟩ (.int .i64 mm.lo)).setCell ⟨M, 3, none⟩ (.int .i64 mm.hi)).setCell ⟨M, 4, none⟩ (.int .i64 mm.held)).setCell ⟨M, 5, none⟩ (.int .i64 mm.hops)).setCell ⟨M, 6, none⟩ (.bool mm.good)).setCell ⟨M, 7, none⟩ (.bool mm.ref)).setCell ⟨M, 8, none⟩ (.int .i64 mm.slo)).setCell ⟨M, 9, none⟩ (.int .i64 mm.shi)).setCell ⟨M, 10, none⟩ (.int .i64 mm.pulse)).setCell ⟨M, 11, none⟩ (.int .i64 mm.time)).setCell ⟨M, 12, none⟩ (.int .i64 mm.num)).setCell ⟨M, 13, none⟩ (.slice A3 mm.table.length c3))) rfl rfl rfl ?_ ?_
  · go_simp
  try simp only [TailFrom]
  clear m0 f0 m1 f1 m2 f2 m3 f3 m4 f4 m5 f5 m6 f6 m7 f7 m8 f8 m9 f9 m10 f10 m11 f11 m12 f12 m13 f13 hml
  have honM : Only M w7 ((((((((((((((w7.setCell ⟨M, 0, none⟩ (.int .i64 mm.kind)).setCell ⟨M, 1, none⟩ (.int .i64 mm.frm)).setCell ⟨M, 2, none⟩ (.int .i64 mm.lo)).setCell ⟨M, 3, none⟩ (.int .i64 mm.hi)).setCell ⟨M, 4, none⟩ (.int .i64 mm.held)).setCell ⟨M, 5, none⟩ (.int .i64 mm.hops)).setCell ⟨M, 6, none⟩ (.bool mm.good)).setCell ⟨M, 7, none⟩ (.bool mm.ref)).setCell ⟨M, 8, none⟩ (.int .i64 mm.slo)).setCell ⟨M, 9, none⟩ (.int .i64 mm.shi)).setCell ⟨M, 10, none⟩ (.int .i64 mm.pulse)).setCell ⟨M, 11, none⟩ (.int .i64 mm.time)).setCell ⟨M, 12, none⟩ (.int .i64 mm.num)).setCell ⟨M, 13, none⟩ (.slice A3 mm.table.length c3)) := (((((((((((((((Only.refl M w7).setR 0 (.int .i64 mm.kind)).setR 1 (.int .i64 mm.frm)).setR 2 (.int .i64 mm.lo)).setR 3 (.int .i64 mm.hi)).setR 4 (.int .i64 mm.held)).setR 5 (.int .i64 mm.hops)).setR 6 (.bool mm.good)).setR 7 (.bool mm.ref)).setR 8 (.int .i64 mm.slo)).setR 9 (.int .i64 mm.shi)).setR 10 (.int .i64 mm.pulse)).setR 11 (.int .i64 mm.time)).setR 12 (.int .i64 mm.num)).setR 13 (.slice A3 mm.table.length c3))
  replace hM := own_over14 hM (.int .i64 mm.kind) (.int .i64 mm.frm) (.int .i64 mm.lo) (.int .i64 mm.hi) (.int .i64 mm.held) (.int .i64 mm.hops) (.bool mm.good) (.bool mm.ref) (.int .i64 mm.slo) (.int .i64 mm.shi) (.int .i64 mm.pulse) (.int .i64 mm.time) (.int .i64 mm.num) (.slice A3 mm.table.length c3)
  replace hN7 := hN7.only honM HD.out.1 HD.out.2.1 HD.out.2.2.1
  replace hon := hon.then_new23 honM HD.out.2.2.2
  replace hT6 := (TabRow.set (TabRow.set (TabRow.set (TabRow.set (TabRow.set (TabRow.set (TabRow.set (TabRow.set (TabRow.set (TabRow.set (TabRow.set (TabRow.set (TabRow.set (TabRow.set hT6 (p := ⟨M, 0, none⟩) hWl.2 (.int .i64 mm.kind)) (p := ⟨M, 1, none⟩) hWl.2 (.int .i64 mm.frm)) (p := ⟨M, 2, none⟩) hWl.2 (.int .i64 mm.lo)) (p := ⟨M, 3, none⟩) hWl.2 (.int .i64 mm.hi)) (p := ⟨M, 4, none⟩) hWl.2 (.int .i64 mm.held)) (p := ⟨M, 5, none⟩) hWl.2 (.int .i64 mm.hops)) (p := ⟨M, 6, none⟩) hWl.2 (.bool mm.good)) (p := ⟨M, 7, none⟩) hWl.2 (.bool mm.ref)) (p := ⟨M, 8, none⟩) hWl.2 (.int .i64 mm.slo)) (p := ⟨M, 9, none⟩) hWl.2 (.int .i64 mm.shi)) (p := ⟨M, 10, none⟩) hWl.2 (.int .i64 mm.pulse)) (p := ⟨M, 11, none⟩) hWl.2 (.int .i64 mm.time)) (p := ⟨M, 12, none⟩) hWl.2 (.int .i64 mm.num)) (p := ⟨M, 13, none⟩) hWl.2 (.slice A3 mm.table.length c3))
  replace hT4 := (TabRow.set (TabRow.set (TabRow.set (TabRow.set (TabRow.set (TabRow.set (TabRow.set (TabRow.set (TabRow.set (TabRow.set (TabRow.set (TabRow.set (TabRow.set (TabRow.set hT4 (p := ⟨M, 0, none⟩) HK5.out.2.2 (.int .i64 mm.kind)) (p := ⟨M, 1, none⟩) HK5.out.2.2 (.int .i64 mm.frm)) (p := ⟨M, 2, none⟩) HK5.out.2.2 (.int .i64 mm.lo)) (p := ⟨M, 3, none⟩) HK5.out.2.2 (.int .i64 mm.hi)) (p := ⟨M, 4, none⟩) HK5.out.2.2 (.int .i64 mm.held)) (p := ⟨M, 5, none⟩) HK5.out.2.2 (.int .i64 mm.hops)) (p := ⟨M, 6, none⟩) HK5.out.2.2 (.bool mm.good)) (p := ⟨M, 7, none⟩) HK5.out.2.2 (.bool mm.ref)) (p := ⟨M, 8, none⟩) HK5.out.2.2 (.int .i64 mm.slo)) (p := ⟨M, 9, none⟩) HK5.out.2.2 (.int .i64 mm.shi)) (p := ⟨M, 10, none⟩) HK5.out.2.2 (.int .i64 mm.pulse)) (p := ⟨M, 11, none⟩) HK5.out.2.2 (.int .i64 mm.time)) (p := ⟨M, 12, none⟩) HK5.out.2.2 (.int .i64 mm.num)) (p := ⟨M, 13, none⟩) HK5.out.2.2 (.slice A3 mm.table.length c3))
  clear honM
  generalize ((((((((((((((w7.setCell ⟨M, 0, none⟩ (.int .i64 mm.kind)).setCell ⟨M, 1, none⟩ (.int .i64 mm.frm)).setCell ⟨M, 2, none⟩ (.int .i64 mm.lo)).setCell ⟨M, 3, none⟩ (.int .i64 mm.hi)).setCell ⟨M, 4, none⟩ (.int .i64 mm.held)).setCell ⟨M, 5, none⟩ (.int .i64 mm.hops)).setCell ⟨M, 6, none⟩ (.bool mm.good)).setCell ⟨M, 7, none⟩ (.bool mm.ref)).setCell ⟨M, 8, none⟩ (.int .i64 mm.slo)).setCell ⟨M, 9, none⟩ (.int .i64 mm.shi)).setCell ⟨M, 10, none⟩ (.int .i64 mm.pulse)).setCell ⟨M, 11, none⟩ (.int .i64 mm.time)).setCell ⟨M, 12, none⟩ (.int .i64 mm.num)).setCell ⟨M, 13, none⟩ (.slice A3 mm.table.length c3)) = W9 at hM hN7 hon hT6 hT4 ⊢
  generalize vs 0 = x40
  generalize vs 1 = x41
  generalize vs 3 = x43
  generalize vs 4 = x44
  generalize vs 5 = x45
  clear hR vs
  have m0 := hM.cell 0 rfl
  have m1 := hM.cell 1 rfl
  have m2 := hM.cell 2 rfl
  have m3 := hM.cell 3 rfl
  have m4 := hM.cell 4 rfl
  have m5 := hM.cell 5 rfl
  have m6 := hM.cell 6 rfl
  have m7 := hM.cell 7 rfl
  have m8 := hM.cell 8 rfl
  have m9 := hM.cell 9 rfl
  have m10 := hM.cell 10 rfl
  have m11 := hM.cell 11 rfl
  have m12 := hM.cell 12 rfl
  have m13 := hM.cell 13 rfl
  have hml := hM.lt
  go_wp2_with fail
  exact bodyPost_ret (v := .agg #[.int .i64 mm.kind, .int .i64 mm.frm, .int .i64 mm.lo, .int .i64 mm.hi, .int .i64 mm.held, .int .i64 mm.hops, .bool mm.good, .bool mm.ref, .int .i64 mm.slo, .int .i64 mm.shi, .int .i64 mm.pulse, .int .i64 mm.time, .int .i64 mm.num, .slice A3 mm.table.length c3]) (by simp [results, Tryz.results14, go_sem, m0, m1, m2, m3, m4, m5, m6, m7, m8, m9, m10, m11, m12, m13]) rfl ⟨A3, c3, A4, c4, rfl, hN7, hT4.mono HK5.out.1, hT6.mono hWl.1, hon, HDIS.out⟩
end Go.Proofs.YtnhjdinmakkknaaGreatDoor

/- Several texts of mine in one: C23j, C23k. -/
namespace Go.Proofs.YtnhjdinmakkknaaGreatDoor
open Go.RowKit
set_option linter.unusedVariables false
set_option maxRecDepth 100000
attribute [local go_sem ↓] Go.wp_at_zero Go.wp_at_succ
theorem ha23_at {w w' : World} {T : TypeId} {b : Nat} (hb : b = w.heap.size) (k : Ok (w.alloc (.cells (haL ha23).toArray T)) w') : HeardsAt w' (some ⟨b, 0, none⟩) [ha23] :=
  ⟨CellsAt.below (CellsAt.new w T (haL ha23).toArray (by simp) hb) k, fun x hx => by rw [List.mem_singleton] at hx; subst hx; exact PairsAt.empty _ _⟩
theorem OnlyN.heards23 {g b : Nat} {w w' : World} (h : OnlyN g b w w') {Hb : Nat} (hH : HeardsAt w (some ⟨Hb, 0, none⟩) [ha23]) (h1 : Hb ≠ g) (h2 : Hb ≠ b) : HeardsAt w' (some ⟨Hb, 0, none⟩) [ha23] :=
  ⟨h.cells hH.cells fun a e => by cases e; exact ⟨h1, h2⟩, fun x hx => by rw [List.mem_singleton] at hx; subst hx; exact PairsAt.empty _ _⟩
theorem in23_ok (B : Option Addr) (c : Nat) : (in23 B c).heard.length ≤ 1000 ∧ (∀ h ∈ (in23 B c).heard, (Lit.int .i64 h.m.frm).wf = true) ∧ ∀ h ∈ (in23 B c).heard, h.m.table.length ≤ 8796093022208 := by
  refine ⟨by simp [in23], fun h hh => ?_, fun h hh => ?_⟩
  · have : h = ha23 := List.mem_singleton.1 hh
    subst this
    decide
  · have : h = ha23 := List.mem_singleton.1 hh
    subst this
    simp [ha23]
set_option maxHeartbeats 3200000 in
theorem law23Alive (w : World) (hpow : Pow w) : Calls Tryz.prog 9 #[] w fun e w' => e = .returned (.bool true) ∧ Ok w w' := by
  have hok := Ok.refl w
  have KN := Lib.hid fun w => nodeNew par23 20 zeroSta none 0 w (PairsAt.empty _ _) (by decide)
  rw [san23] at KN
  obtain ⟨f1, hf1⟩ : ∃ y, (Nod.known HA.hd 20 Mem.nobody [ha23]).2 = y := ⟨_, rfl⟩
  obtain ⟨s1, hs1⟩ : ∃ y, Health.stamped (Nod.state par23 zeroSta 1000 []) = y := ⟨_, rfl⟩
  obtain ⟨m1, hm1⟩ : ∃ y, Nod.say par23 20 (Nod.state par23 zeroSta 1000 []) = y := ⟨_, rfl⟩
  obtain ⟨S2, hS2⟩ : ∃ y, Nod.state par23 s1 1000 [ha23.hd] = y := ⟨_, rfl⟩
  obtain ⟨m2, hm2⟩ : ∃ y, Nod.say par23 20 S2 = y := ⟨_, rfl⟩
  obtain ⟨f2, hf2⟩ : ∃ y, (Nod.known HA.hd 20 (Mem.tick 2 f1) [ha23]).2 = y := ⟨_, rfl⟩
  have e1 : m1.hops = 5 := by rw [← hm1]; exact st23a
  have e2 : m1.good = false := by rw [← hm1]; exact st23a2
  have e3 : m2.hops = 2 := by rw [← hm2, ← hS2, ← hs1]; exact st23b
  have e4 : m2.good = true := by rw [← hm2, ← hS2, ← hs1]; exact st23b2
  have e5 : (Mem.nums (Mem.tick 2 f2)).length = 1 := by rw [← hf2, ← hf1]; exact nr23
  have e6 : s1.table.length = 0 := by rw [← hs1]; exact st23a3
  have e7 : ((Nod.known HA.hd 20 (Mem.tick 2 f1) [ha23]).1).map HA.hd = [ha23.hd] := by rw [← hf1]; exact kn23b
  have KB := Lib.hid fun w G t b A c h hA B cc hx hp => nodeBeat G t b 20 par23 zeroSta A c Mem.nobody (in23 B cc) w h hA (by decide) hx (in23_ok B cc).1 (in23_ok B cc).2.1 (in23_ok B cc).2.2 (by decide) (by decide) hp
  have KC := Lib.hid fun w G t b A c h hA B cc hx hp => nodeBeat G t b 20 par23 s1 A c (Mem.tick 2 f1) (in23 B cc) w h hA (by rw [e6]; decide) hx (in23_ok B cc).1 (in23_ok B cc).2.1 (in23_ok B cc).2.2 (by decide) (by decide) hp
  have ei : ∀ B cc, (in23 B cc).heard = [ha23] := fun _ _ => rfl
  have et : ∀ B cc, (in23 B cc).ticks = 1000 := fun _ _ => rfl
  have eI : ∀ B cc, inV (in23 B cc) = .agg #[.int .i64 1000, .slice B 1 cc, .bool false, .int .i64 0, .bool false, .slice none 0 0] := fun _ _ => rfl
  simp only [ei, et, eI, kn23a, List.map_nil, hf1, hs1, hm1, e7, hS2, hm2, hf2] at KB KC
  unfold msgV at KB KC
  rw [e1, e2] at KB
  rw [e3, e4] at KC
  have hz : ∀ w, Sem.run Tryz.prog (zeroValue 30) w = .ok (.agg #[.int .i64 0, .int .i64 0, .int .i64 0, .bool false, .int .i64 0, .int .i64 0, .bool false, .slice none 0 0, .int .i64 0, .int .i64 0, .int .i64 0]) w := fun w => by kernel_rfl
  have hzi : ∀ w, Sem.run Tryz.prog (zeroValue 49) w = .ok (.agg #[.int .i64 0, .slice none 0 0, .bool false, .int .i64 0, .bool false, .slice none 0 0]) w := fun w => by kernel_rfl
  have hzm : ∀ w, Sem.run Tryz.prog (zeroValue 51) w = .ok (.agg #[.int .i64 0, .int .i64 0, .int .i64 0, .int .i64 0, .int .i64 0, .int .i64 0, .bool false, .bool false, .int .i64 0, .int .i64 0, .int .i64 0, .int .i64 0, .int .i64 0, .slice none 0 0]) w := fun w => by kernel_rfl
  have hzh : ∀ w, Sem.run Tryz.prog (zeroValue 65) w = .ok (.agg #[.int .i64 0, .int .i64 0, .int .i64 0, .int .i64 0, .int .i64 0, .int .i64 0, .bool false, .bool false, .int .i64 0, .int .i64 0, .int .i64 0, .int .i64 0, .int .i64 0, .slice none 0 0, .int .i64 0]) w := fun w => by kernel_rfl
  have HE := Lib.hid e5
  have HS : Hid ((Nod.state par23 zeroSta 1000 []).table = s1.table) := Lib.hid (by rw [← hs1]; rfl)
  clear hf1 hs1 hm1 hS2 hm2 hf2 e1 e2 e3 e4 e5 e7 ei et eI
  go_enter Tryz.func9, Tryz.ntmps9
  go_upto_region 4 with (first | (go_at_call 27; (with_reducible refine (law23Some _).mono ?_); rintro e w1 ⟨rfl, hb1⟩; replace hok := hok.trans hb1; clear hb1) | (go_at_call 11; refine (KN.out _).mono ?_; rintro e w2 ⟨G, tt, b, A2, c2, rfl, hO, hT, hG, hAG, hb1⟩; have hwG := Nat.le_trans hok.size hG.1; have hwB := Nat.le_trans hok.size hG.2.2; replace hok := hok.trans hb1; clear hb1 hG))
  have hA := hT.pairs.1
  clear hT
  go_upto_region 5 with fail
  have hl2 := hO.lt
  have hX := Own.new (w2.alloc (.cells (haL ha23).toArray 65)) #[.int .i64 1000, .slice (some ⟨w2.heap.size, 0, none⟩) 1 1, .bool false, .int .i64 0, .bool false, .slice none 0 0] 49 rfl
  have hHd := ha23_at (w := w2) (T := 65) rfl ((Ok.refl _).alloc (.cells #[.int .i64 1000, .slice (some ⟨w2.heap.size, 0, none⟩) 1 1, .bool false, .int .i64 0, .bool false, .slice none 0 0] 49))
  rw [show (w2.alloc (.cells (haL ha23).toArray 65)).heap.size = w2.heap.size + 1 by unfold World.alloc; exact Array.size_push _] at hX
  change Code.wp _ _ _ _ ((w2.alloc (.cells (haL ha23).toArray 65)).alloc (.cells #[.int .i64 1000, .slice (some ⟨w2.heap.size, 0, none⟩) 1 1, .bool false, .int .i64 0, .bool false, .slice none 0 0] 49))
  have k2 := ((Ok.refl w2).alloc (.cells (haL ha23).toArray 65)).trans ((Ok.refl _).alloc (.cells #[.int .i64 1000, .slice (some ⟨w2.heap.size, 0, none⟩) 1 1, .bool false, .int .i64 0, .bool false, .slice none 0 0] 49))
  replace hO := hO.next k2
  replace hA := hA.below k2
  replace hok := hok.trans k2
  clear k2
  generalize (w2.alloc (.cells (haL ha23).toArray 65)).alloc (.cells #[.int .i64 1000, .slice (some ⟨w2.heap.size, 0, none⟩) 1 1, .bool false, .int .i64 0, .bool false, .slice none 0 0] 49) = W3 at hX hHd hO hA hok ⊢
  obtain ⟨Hb, eHb⟩ : ∃ y, w2.heap.size = y := ⟨_, rfl⟩
  rw [eHb] at hX hHd hl2 ⊢
  clear eHb
  have KH : Hid (G < Hb ∧ b < Hb) := Lib.hid ⟨hl2.1, hl2.2.2⟩
  clear hl2
  have hp3 := hpow.next hok
  have x0 := hX.atL 0 rfl; have x1 := hX.atL 1 rfl; have x2 := hX.atL 2 rfl; have x3 := hX.atL 3 rfl; have x4 := hX.atL 4 rfl; have x5 := hX.atL 5 rfl; have hxl := hX.lt
  go_upto_region 6 with (go_at_call 14; refine (KB.out _ _ _ _ _ _ hO hA (some ⟨Hb, 0, none⟩) 1 hHd hp3).mono ?_; rintro e w4 ⟨A3, c3, A4, c4, rfl, hO2, hT2, -, hon, -⟩; clear x0 x1 x2 x3 x4 x5 hxl; replace hX := hon.own hX (by have := KH.out; omega) (by have := KH.out; omega); replace hHd := hon.heards23 hHd (by have := KH.out; omega) (by have := KH.out; omega); replace hok := hon.then_ok hok hwG hwB; clear hon hO hA hp3)
  have hA2 := hT2.pairs.1
  clear hT2
  rw [HS.out] at hA2
  have k4 := (Ok.refl w4).alloc (.cells #[.int .i64 m1.kind, .int .i64 m1.frm, .int .i64 m1.lo, .int .i64 m1.hi, .int .i64 m1.held, .int .i64 5, .bool false, .bool m1.ref, .int .i64 m1.slo, .int .i64 m1.shi, .int .i64 m1.pulse, .int .i64 m1.time, .int .i64 m1.num, .slice A3 m1.table.length c3] 51)
  have hM := Own.new w4 #[.int .i64 m1.kind, .int .i64 m1.frm, .int .i64 m1.lo, .int .i64 m1.hi, .int .i64 m1.held, .int .i64 5, .bool false, .bool m1.ref, .int .i64 m1.slo, .int .i64 m1.shi, .int .i64 m1.pulse, .int .i64 m1.time, .int .i64 m1.num, .slice A3 m1.table.length c3] 51 rfl
  change Code.wp _ _ _ _ (w4.alloc (.cells #[.int .i64 m1.kind, .int .i64 m1.frm, .int .i64 m1.lo, .int .i64 m1.hi, .int .i64 m1.held, .int .i64 5, .bool false, .bool m1.ref, .int .i64 m1.slo, .int .i64 m1.shi, .int .i64 m1.pulse, .int .i64 m1.time, .int .i64 m1.num, .slice A3 m1.table.length c3] 51))
  have hGM : G < w4.heap.size ∧ b < w4.heap.size := ⟨hO2.lt.1, hO2.lt.2.2⟩
  replace hO2 := hO2.next k4
  replace hX := hX.next k4
  replace hA2 := hA2.below k4
  replace hHd := hHd.below k4
  replace hok := hok.trans k4
  clear k4
  generalize w4.alloc (.cells #[.int .i64 m1.kind, .int .i64 m1.frm, .int .i64 m1.lo, .int .i64 m1.hi, .int .i64 m1.held, .int .i64 5, .bool false, .bool m1.ref, .int .i64 m1.slo, .int .i64 m1.shi, .int .i64 m1.pulse, .int .i64 m1.time, .int .i64 m1.num, .slice A3 m1.table.length c3] 51) = W5 at hX hHd hO2 hA2 hM hok ⊢
  generalize w4.heap.size = M at hM hGM ⊢
  have KM := Lib.hid hGM
  clear hGM
  have hp3 := hpow.next hok
  have x0 := hX.atL 0 rfl; have x1 := hX.atL 1 rfl; have x2 := hX.atL 2 rfl; have x3 := hX.atL 3 rfl; have x4 := hX.atL 4 rfl; have x5 := hX.atL 5 rfl; have hxl := hX.lt
  go_upto_region 7 with (go_at_call 14; refine (KC.out _ _ _ _ _ _ hO2 hA2 (some ⟨Hb, 0, none⟩) 1 hHd hp3).mono ?_; rintro e w6 ⟨A5, c5, A6, c6, rfl, hO3, -, -, hon, -⟩; clear x0 x1 x2 x3 x4 x5 hxl; replace hM := hon.own hM (by have := KM.out; omega) (by have := KM.out; omega); replace hok := hon.then_ok hok hwG hwB; clear hon hO2 hA2 hp3 hX hHd)
  have k6 := (Ok.refl w6).alloc (.cells #[.int .i64 m2.kind, .int .i64 m2.frm, .int .i64 m2.lo, .int .i64 m2.hi, .int .i64 m2.held, .int .i64 2, .bool true, .bool m2.ref, .int .i64 m2.slo, .int .i64 m2.shi, .int .i64 m2.pulse, .int .i64 m2.time, .int .i64 m2.num, .slice A5 m2.table.length c5] 51)
  have hM2 := Own.new w6 #[.int .i64 m2.kind, .int .i64 m2.frm, .int .i64 m2.lo, .int .i64 m2.hi, .int .i64 m2.held, .int .i64 2, .bool true, .bool m2.ref, .int .i64 m2.slo, .int .i64 m2.shi, .int .i64 m2.pulse, .int .i64 m2.time, .int .i64 m2.num, .slice A5 m2.table.length c5] 51 rfl
  change Code.wp _ _ _ _ (w6.alloc (.cells #[.int .i64 m2.kind, .int .i64 m2.frm, .int .i64 m2.lo, .int .i64 m2.hi, .int .i64 m2.held, .int .i64 2, .bool true, .bool m2.ref, .int .i64 m2.slo, .int .i64 m2.shi, .int .i64 m2.pulse, .int .i64 m2.time, .int .i64 m2.num, .slice A5 m2.table.length c5] 51))
  replace hO3 := hO3.next k6
  replace hM := hM.next k6
  replace hok := hok.trans k6
  clear k6
  generalize w6.alloc (.cells #[.int .i64 m2.kind, .int .i64 m2.frm, .int .i64 m2.lo, .int .i64 m2.hi, .int .i64 m2.held, .int .i64 2, .bool true, .bool m2.ref, .int .i64 m2.slo, .int .i64 m2.shi, .int .i64 m2.pulse, .int .i64 m2.time, .int .i64 m2.num, .slice A5 m2.table.length c5] 51) = W7 at hO3 hM hM2 hok ⊢
  generalize w6.heap.size = M2 at hM2 ⊢
  have q5 := hM.atL 5 (v := .int .i64 5) rfl
  have q6 := hM.atL 6 (v := .bool false) rfl
  have hml := hM.lt
  have r5 := hM2.atL 5 (v := .int .i64 2) rfl
  have r6 := hM2.atL 6 (v := .bool true) rfl
  have hnl := hM2.lt
  have KR := Lib.hid (nodeNear _ _ _ _ _ _ _ _ _ _ hO3)
  unfold NearEnd at KR
  rw [HE.out] at KR
  clear hM hM2 hO3
  go_wp2_with (go_at_call 18; refine KR.out.mono ?_; rintro e w8 ⟨C, c, rfl, -, -, hb1⟩; replace hok := hok.trans hb1; clear hb1 q5 q6 hml r5 r6 hnl)
  go_ret
  exact ⟨rfl, hok⟩
end Go.Proofs.YtnhjdinmakkknaaGreatDoor
namespace Go.Proofs.YtnhjdinmakkknaaGreatDoor
open Go.RowKit
set_option linter.unusedVariables false
set_option maxRecDepth 100000
theorem NodeAt.onlyN {w w1 : World} {G b H u c : Nat} {me : Int} {p : Par} {s : Sta} {A : Option Addr} {cap : Nat} {f : NF} (h : NodeAt w H u c me p s A cap f) (k : OnlyN G b w w1) (h1 : H ≠ G ∧ u ≠ G ∧ c ≠ G) (h2 : H ≠ b ∧ u ≠ b ∧ c ≠ b) : NodeAt w1 H u c me p s A cap f :=
  ⟨k.own h.own h1.1 h2.1, ⟨k.own h.tab.own h1.2.1 h2.2.1, h.tab.map.keep (k.block c h.lt.2.2 h1.2.2 h2.2.2), h.tab.ne⟩, h.good, h.ne⟩
/-- A beat's state's table is short. -/
theorem stateTable23 (p : Par) (s : Sta) (t : Int) (l : List Hd) : (Nod.state p s t l).table.length ≤ 1000 := by
  unfold Nod.state
  rw [(Nod.listens_keeps p (Health.step p s t (Nod.next p s t l)) l).2.2.2.2.2.2.2.1]
  exact stepTable23 _ _ _ _
theorem saneTable23 (p : Par) (u : Sta) : (Health.sane p u).table.length ≤ 1000 := by
  show (if Leap.good u.table = true then u.table else []).length ≤ 1000
  split
  · next h =>
    unfold Leap.good Wire.tab at h
    simp only [Bool.and_eq_true, decide_eq_true_eq] at h
    omega
  · simp
/-- Two nodes, one apart from the other. -/
structure Two (w0 : World) (G t b H u c : Nat) (p : Par) (sg : Sta) (Ag : Option Addr) (cg : Nat) (fg : NF) (sh : Sta) (Ah : Option Addr) (ch : Nat) (fh : NF) (w : World) : Prop where
  ok : Ok w0 w
  g : NodeAt w G t b 20 p sg Ag cg fg
  pg : PairsAt w Ag sg.table
  h : NodeAt w H u c 20 p sh Ah ch fh
  ph : PairsAt w Ah sh.table
  hg : (H ≠ G ∧ u ≠ G ∧ c ≠ G) ∧ (H ≠ b ∧ u ≠ b ∧ c ≠ b)
  gh : (G ≠ H ∧ t ≠ H ∧ b ≠ H) ∧ (G ≠ c ∧ t ≠ c ∧ b ≠ c)
  tg : ∀ a, Ag = some a → a.block ≠ H ∧ a.block ≠ c
  th : ∀ a, Ah = some a → a.block ≠ G ∧ a.block ≠ b
  log : w0.heap.size ≤ G ∧ w0.heap.size ≤ b
  loh : w0.heap.size ≤ H ∧ w0.heap.size ≤ c
namespace Two
variable {w0 w w1 : World} {G t b H u c : Nat} {p : Par} {sg sh : Sta} {Ag Ah : Option Addr} {cg ch : Nat} {fg fh : NF}
theorem swap (h : Two w0 G t b H u c p sg Ag cg fg sh Ah ch fh w) : Two w0 H u c G t b p sh Ah ch fh sg Ag cg fg w := ⟨h.ok, h.h, h.ph, h.g, h.pg, h.gh, h.hg, h.th, h.tg, h.loh, h.log⟩
theorem next (h : Two w0 G t b H u c p sg Ag cg fg sh Ah ch fh w) (k : Ok w w1) : Two w0 G t b H u c p sg Ag cg fg sh Ah ch fh w1 := ⟨h.ok.trans k, h.g.next k, h.pg.below k, h.h.next k, h.ph.below k, h.hg, h.gh, h.tg, h.th, h.log, h.loh⟩
theorem stepG (h : Two w0 G t b H u c p sg Ag cg fg sh Ah ch fh w) {s' : Sta} {A' : Option Addr} {c' : Nat} {f' : NF} (hN : NodeAt w1 G t b 20 p s' A' c' f') (hT : TabRow w.heap.size w1 A' c' s'.table) (k : OnlyN G b w w1) : Two w0 G t b H u c p s' A' c' f' sh Ah ch fh w1 :=
  ⟨k.then_ok h.ok h.log.1 h.log.2, hN, hT.pairs.1, h.h.onlyN k h.hg.1 h.hg.2, k.pairs h.ph h.th, h.hg, h.gh, fun a e => by have := (row_lt23 hT a e).1; have := h.h.lt; omega, h.th, h.log, h.loh⟩
end Two
/-- What a state becomes by a beat, what is told, and who is known then. -/
def Nod.told (p : Par) (s : Sta) (f : NF) (x : In) : Msg := Nod.say p 20 (Nod.state p s x.ticks ((Nod.known HA.hd 20 f x.heard).1.map HA.hd))
def Nod.then (p : Par) (s : Sta) (f : NF) (x : In) : Sta := Health.stamped (Nod.state p s x.ticks ((Nod.known HA.hd 20 f x.heard).1.map HA.hd))
def Nod.near (f : NF) (x : In) : NF := Mem.tick 2 (Nod.known HA.hd 20 f x.heard).2
theorem Nod.then_table (p : Par) (s : Sta) (f : NF) (x : In) : (Nod.then p s f x).table.length ≤ 1000 := stateTable23 _ _ _ _
theorem beatTwo {w0 w : World} {G t b H u c : Nat} {p : Par} {sg sh : Sta} {Ag Ah : Option Addr} {cg ch : Nat} {fg fh : NF} (h : Two w0 G t b H u c p sg Ag cg fg sh Ah ch fh w) (x : In) (hx : HeardsAt w0 x.B x.heard) (hp : Lim.May p) (hh : x.heard.length ≤ 40) (hwf : ∀ h ∈ x.heard, (Lit.int .i64 h.m.frm).wf = true) (hd : ∀ h ∈ x.heard, h.m.table.length ≤ 128) (hpow : Pow w0) (hs : sg.table.length ≤ 1000) :
    Calls Tryz.prog 14 #[.pointer (some ⟨G, 0, none⟩), inV x] w fun e w' => ∃ (A3 : Option Addr) (c3 : Nat) (A4 : Option Addr) (c4 : Nat), e = .returned (msgV (Nod.told p sg fg x) A3 c3) ∧ Two w0 G t b H u c p (Nod.then p sg fg x) A4 c4 (Nod.near fg x) sh Ah ch fh w' ∧ OnlyN G b w w' := by
  have hn := hp.1.1
  have hf := hp.1.2
  have hdd := hp.2.2.1.1
  refine (nodeBeat G t b 20 p sg Ag cg fg x w h.g h.pg (Nat.le_trans hs (by decide)) (hx.below h.ok) (Nat.le_trans hh (by decide)) hwf (fun y hy => Nat.le_trans (hd y hy) (by decide)) ⟨by omega, by omega⟩ ⟨by omega, by omega⟩ (hpow.next h.ok)).mono ?_
  rintro e w' ⟨A3, c3, A4, c4, rfl, hN, hT, -, hon, -⟩
  exact ⟨A3, c3, A4, c4, rfl, h.stepG hN hT hon, hon⟩
end Go.Proofs.YtnhjdinmakkknaaGreatDoor
