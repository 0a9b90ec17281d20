import Derived.Test.YtmokofblmkeloaaGreatDoorC15a
import Derived.Test.YtmokofblmkeloaaGreatDoorB05
import Derived.Test.YtmokofblmkeloaaGreatDoorP38
import Derived.Deep.CutRange
namespace Go.Proofs.YtmokofblmkeloaaGreatDoor
open Go.RowKit
set_option maxRecDepth 100000
attribute [local go_sem ↓] Go.wp_at_zero Go.wp_at_succ
/-- Which of the first k messages is chosen. -/
def chosen (D : Int) (l : List MA) (k : Nat) : Option Nat := Route.pick D (fun i => (nth l i).m) k
def bestOf (l : List MA) : Option Nat → MA
  | none => noMA
  | some j => nth l j
theorem best_table {w : World} {B : Option Addr} {D : Int} {l : List MA} (h : MsgsAt w B l) : PairsAt w (bestOf l (chosen D l l.length)).A (bestOf l (chosen D l l.length)).m.table := by
  cases hc : chosen D l l.length with
  | none => exact PairsAt.empty _ _
  | some j => exact h.tabs _ (nth_mem (Route.pick_lt hc))
theorem best_len {D : Int} {l : List MA} {N : Nat} (h : ∀ x ∈ l, x.m.table.length ≤ N) : (bestOf l (chosen D l l.length)).m.table.length ≤ N := by
  cases hc : chosen D l l.length with
  | none => exact Nat.zero_le _
  | some j => exact h _ (nth_mem (Route.pick_lt hc))
/-- A message's table is stored anew. -/
theorem own_set13 {w : World} {g : Nat} {n : Msg} {B : Option Addr} {d : Nat} (h : Own w g (msgCells n B d)) (A : Option Addr) (c : Nat) : Own (w.setCell ⟨g, 13, none⟩ (.slice A n.table.length c)) g (msgCells n A c) := by
  have e : (msgCells n B d).set! 13 (.slice A n.table.length c) = msgCells n A c := by simp [msgCells]
  rw [← e]
  exact h.set 13 _
/-- .. whose table lies behind what was there. -/
def ChooseEndR (p : Par) (l : List MA) (w : World) (e : Ending) (w' : World) : Prop := ∃ A c, e = .returned (.tuple #[msgV (bestOf l (chosen p.d l l.length)).m A c, .bool (chosen p.d l l.length).isSome]) ∧ PairsAt w' A (bestOf l (chosen p.d l l.length)).m.table ∧ (∀ a, A = some a → w.heap.size ≤ a.block) ∧ Ok w w'
set_option maxHeartbeats 6400000 in
theorem routeChooseR (p : Par) (B : Option Addr) (l : List MA) (cap : Nat) (w : World) (hB : MsgsAt w B l) (hl : l.length ≤ 1048576) (hf : ∀ x ∈ l, x.m.table.length ≤ 8796093022208) :
    Calls Tryz.prog 125 #[parV p, .slice B l.length cap] w (ChooseEndR p l w) := by
  have KU := Lib.hid fun m A c w => routeUsable p m A c w
  have KO := Lib.hid fun a A ca b B cb w => routeOrder a b A B ca cb w
  unfold msgV at KU KO
  have hz := zeroMsgV
  unfold msgV zeroMsg at hz
  simp only [List.length_nil] at hz
  have HT := Lib.hid fun W (k : Ok w W) => best_table (D := p.d) (hB.below k)
  have HL := Lib.hid (best_len (D := p.d) hf)
  have HB := Lib.hid hB
  clear hB hf
  go_enter Tryz.func125, Tryz.ntmps125
  go_upto_region 3 with (fail)
  have hP := ((Own.new w (parCells p) 23 rfl).alloc (.cells #[.int .i64 0, .int .i64 0, .int .i64 0, .int .i64 0, .int .i64 0, .int .i64 0, .bool false, .bool false, .int .i64 0, .int .i64 0, .int .i64 0, .int .i64 0, .int .i64 0, .slice none 0 0] 51)).alloc (.cells #[.int .i64 0, .int .i64 0, .int .i64 0, .int .i64 0, .int .i64 0, .int .i64 0, .bool false, .bool false, .int .i64 0, .int .i64 0, .int .i64 0, .int .i64 0, .int .i64 0, .slice none 0 0] 51)
  have hR := (Own.new (w.alloc (.cells (parCells p) 23)) #[.int .i64 0, .int .i64 0, .int .i64 0, .int .i64 0, .int .i64 0, .int .i64 0, .bool false, .bool false, .int .i64 0, .int .i64 0, .int .i64 0, .int .i64 0, .int .i64 0, .slice none 0 0] 51 (g := w.heap.size + 1) (by simp)).alloc (.cells #[.int .i64 0, .int .i64 0, .int .i64 0, .int .i64 0, .int .i64 0, .int .i64 0, .bool false, .bool false, .int .i64 0, .int .i64 0, .int .i64 0, .int .i64 0, .int .i64 0, .slice none 0 0] 51)
  have hM : Own (((w.alloc (.cells (parCells p) 23)).alloc (.cells #[.int .i64 0, .int .i64 0, .int .i64 0, .int .i64 0, .int .i64 0, .int .i64 0, .bool false, .bool false, .int .i64 0, .int .i64 0, .int .i64 0, .int .i64 0, .int .i64 0, .slice none 0 0] 51)).alloc (.cells #[.int .i64 0, .int .i64 0, .int .i64 0, .int .i64 0, .int .i64 0, .int .i64 0, .bool false, .bool false, .int .i64 0, .int .i64 0, .int .i64 0, .int .i64 0, .int .i64 0, .slice none 0 0] 51)) (w.heap.size + 1 + 1) (msgCells noMA.m noMA.A noMA.cap) := Own.new ((w.alloc (.cells (parCells p) 23)).alloc (.cells #[.int .i64 0, .int .i64 0, .int .i64 0, .int .i64 0, .int .i64 0, .int .i64 0, .bool false, .bool false, .int .i64 0, .int .i64 0, .int .i64 0, .int .i64 0, .int .i64 0, .slice none 0 0] 51)) #[.int .i64 0, .int .i64 0, .int .i64 0, .int .i64 0, .int .i64 0, .int .i64 0, .bool false, .bool false, .int .i64 0, .int .i64 0, .int .i64 0, .int .i64 0, .int .i64 0, .slice none 0 0] 51 (g := w.heap.size + 1 + 1) (by simp)
  have hok := (((Ok.refl w).alloc (.cells (parCells p) 23)).alloc (.cells #[.int .i64 0, .int .i64 0, .int .i64 0, .int .i64 0, .int .i64 0, .int .i64 0, .bool false, .bool false, .int .i64 0, .int .i64 0, .int .i64 0, .int .i64 0, .int .i64 0, .slice none 0 0] 51)).alloc (.cells #[.int .i64 0, .int .i64 0, .int .i64 0, .int .i64 0, .int .i64 0, .int .i64 0, .bool false, .bool false, .int .i64 0, .int .i64 0, .int .i64 0, .int .i64 0, .int .i64 0, .slice none 0 0] 51)
  have hrw : w.heap.size ≤ w.heap.size + 1 := by omega
  have hgw : w.heap.size ≤ w.heap.size + 1 + 1 := by omega
  have hPr : w.heap.size ≠ w.heap.size + 1 := by omega
  have hPg : w.heap.size ≠ w.heap.size + 1 + 1 := by omega
  have hrg : w.heap.size + 1 ≠ w.heap.size + 1 + 1 := by omega
  generalize ((w.alloc (.cells (parCells p) 23)).alloc (.cells #[.int .i64 0, .int .i64 0, .int .i64 0, .int .i64 0, .int .i64 0, .int .i64 0, .bool false, .bool false, .int .i64 0, .int .i64 0, .int .i64 0, .int .i64 0, .int .i64 0, .slice none 0 0] 51)).alloc (.cells #[.int .i64 0, .int .i64 0, .int .i64 0, .int .i64 0, .int .i64 0, .int .i64 0, .bool false, .bool false, .int .i64 0, .int .i64 0, .int .i64 0, .int .i64 0, .int .i64 0, .slice none 0 0] 51) = W at hP hR hM hok ⊢
  generalize w.heap.size + 1 + 1 = g at hM hgw hPg hrg ⊢
  generalize w.heap.size + 1 = r at hR hrw hPr hrg ⊢
  obtain ⟨P, hPe⟩ : ∃ P, w.heap.size = P := ⟨_, rfl⟩
  rw [hPe] at hP hPr hPg ⊢
  have HW := Lib.hid (And.intro hPe (And.intro hrw (And.intro hgw (And.intro hPr (And.intro hPg hrg)))))
  clear hPe hrw hgw hPr hPg hrg
  go_wp2
  go_loopw [7, 12] (fun f i wr => ∃ k : Nat, k ≤ l.length ∧ i = .int .i64 k ∧ f = .bool (chosen p.d l k).isSome ∧ Own wr P (parCells p) ∧ Own wr g (msgCells (bestOf l (chosen p.d l k)).m (bestOf l (chosen p.d l k)).A (bestOf l (chosen p.d l k)).cap) ∧ Own wr r #[.int .i64 0, .int .i64 0, .int .i64 0, .int .i64 0, .int .i64 0, .int .i64 0, .bool false, .bool false, .int .i64 0, .int .i64 0, .int .i64 0, .int .i64 0, .int .i64 0, .slice none 0 0] ∧ Ok w wr) (fun _ i _ => l.length - (intOf i).toNat)
  case atStart => exact ⟨0, Nat.zero_le _, rfl, rfl, hP, hM, hR, hok⟩
  case round =>
    clear hP hM hR hok
    obtain ⟨k, hk, rfl, rfl, hP, hM, hR, hok⟩ := hrel
    by_cases hlt : k < l.length
    · obtain ⟨b, off, hBe, hbl, x0, x1, x2, x3, x4, x5, x6, x7, x8, x9, x10, x11, x12, x13⟩ := (HB.out.below hok).nthAt k hlt
      subst hBe
      have hnk : (nth l k).m = (nth l k).m := rfl
      have HN : Hid (∀ r, chosen p.d l k = r → (Route.may p.d (nth l k).m = false → chosen p.d l (k + 1) = r) ∧ (∀ j, r = some j → ¬ Route.lt3 (nth l k).m (nth l j).m → chosen p.d l (k + 1) = r) ∧ (Route.may p.d (nth l k).m = true → (r = none ∨ ∃ j, r = some j ∧ Route.lt3 (nth l k).m (nth l j).m) → chosen p.d l (k + 1) = some k)) := Lib.hid fun r hr => by
        subst hr
        exact ⟨fun h => Route.pick_pass (Or.inl h), fun j hj h => Route.pick_pass (Or.inr ⟨j, hj, h⟩), fun h1 h2 => Route.pick_take h1 h2⟩
      obtain ⟨r', hr'⟩ : ∃ r', chosen p.d l k = r' := ⟨_, rfl⟩
      rw [hr'] at hM
      rw [hr']
      replace HN := Lib.hid (HN.out r' hr')
      clear hr' hnk
      have HKU := Lib.hid fun w => KU.out (nth l k).m (nth l k).A (nth l k).cap w
      obtain ⟨x, hx⟩ : ∃ x, nth l k = x := ⟨_, rfl⟩
      have HX := Lib.hid hx
      rw [hx] at HN HKU x0 x1 x2 x3 x4 x5 x6 x7 x8 x9 x10 x11 x12 x13
      clear hx
      obtain ⟨m, A, c⟩ := x
      simp only at HN HKU x0 x1 x2 x3 x4 x5 x6 x7 x8 x9 x10 x11 x12 x13
      have hX := Own.new wr #[.int .i64 m.kind, .int .i64 m.frm, .int .i64 m.lo, .int .i64 m.hi, .int .i64 m.held, .int .i64 m.hops, .bool m.good, .bool m.ref, .int .i64 m.slo, .int .i64 m.shi, .int .i64 m.pulse, .int .i64 m.time, .int .i64 m.num, .slice A m.table.length c] 51 rfl
      have hX2 : Own (wr.alloc (.cells #[.int .i64 m.kind, .int .i64 m.frm, .int .i64 m.lo, .int .i64 m.hi, .int .i64 m.held, .int .i64 m.hops, .bool m.good, .bool m.ref, .int .i64 m.slo, .int .i64 m.shi, .int .i64 m.pulse, .int .i64 m.time, .int .i64 m.num, .slice A m.table.length c] 51)) wr.heap.size (msgCells m A c) := hX
      have HX2 := Lib.hid hX2
      have HM := Lib.hid (hM.alloc (.cells #[.int .i64 m.kind, .int .i64 m.frm, .int .i64 m.lo, .int .i64 m.hi, .int .i64 m.held, .int .i64 m.hops, .bool m.good, .bool m.ref, .int .i64 m.slo, .int .i64 m.shi, .int .i64 m.pulse, .int .i64 m.time, .int .i64 m.num, .slice A m.table.length c] 51))
      have HP := Lib.hid (hP.alloc (.cells #[.int .i64 m.kind, .int .i64 m.frm, .int .i64 m.lo, .int .i64 m.hi, .int .i64 m.held, .int .i64 m.hops, .bool m.good, .bool m.ref, .int .i64 m.slo, .int .i64 m.shi, .int .i64 m.pulse, .int .i64 m.time, .int .i64 m.num, .slice A m.table.length c] 51))
      have HR := Lib.hid (hR.alloc (.cells #[.int .i64 m.kind, .int .i64 m.frm, .int .i64 m.lo, .int .i64 m.hi, .int .i64 m.held, .int .i64 m.hops, .bool m.good, .bool m.ref, .int .i64 m.slo, .int .i64 m.shi, .int .i64 m.pulse, .int .i64 m.time, .int .i64 m.num, .slice A m.table.length c] 51))
      have HOK := Lib.hid (hok.alloc (.cells #[.int .i64 m.kind, .int .i64 m.frm, .int .i64 m.lo, .int .i64 m.hi, .int .i64 m.held, .int .i64 m.hops, .bool m.good, .bool m.ref, .int .i64 m.slo, .int .i64 m.shi, .int .i64 m.pulse, .int .i64 m.time, .int .i64 m.num, .slice A m.table.length c] 51))
      have hMl := hM.lt
      obtain ⟨p0, p1, p2, p3, p4, p5, p6, p7, p8, p9, p10, p11⟩ := hP.pars
      have hpl := hP.lt
      obtain ⟨bb, hbb⟩ : ∃ bb, bestOf l r' = bb := ⟨_, rfl⟩
      have HBB := Lib.hid hbb
      rw [hbb] at HM hM
      clear hbb hX hX2
      obtain ⟨n, D, d⟩ := bb
      simp only at HM hM
      clear hM hP hR hok
      cases hmay : Route.may p.d m
      · rw [hmay] at HKU
        have HNX := Lib.hid (HN.out.1 hmay)
        clear hmay
        go_wp2_with (go_at_call 160; (with_reducible refine (HKU.out _).mono ?_); rintro e w1 ⟨rfl, hb1⟩; have HP1 := Lib.hid (HP.out.next hb1); have HM1 := Lib.hid (HM.out.next hb1); have HR1 := Lib.hid (HR.out.next hb1); have HOK1 := Lib.hid (HOK.out.trans hb1); clear hb1 HKU)
        go_roundw
        case rel => exact ⟨k + 1, by omega, by go_num, by rw [HNX.out], HP1.out, by rw [HNX.out, HBB.out]; exact HM1.out, HR1.out, HOK1.out⟩
        case measure => simp [intOf]; omega
      · rw [hmay] at HKU
        cases r' with
        | none =>
          have HNX := Lib.hid (HN.out.2.2 hmay (Or.inl rfl))
          clear hmay
          simp only [Option.isSome_none]
          go_wp2_with (go_at_call 160; (with_reducible refine (HKU.out _).mono ?_); rintro e w1 ⟨rfl, hb1⟩; have HP1 := Lib.hid (HP.out.next hb1); have HM1 := Lib.hid (HM.out.next hb1); have HR1 := Lib.hid (HR.out.next hb1); have HX1 := Lib.hid (HX2.out.next hb1); have HOK1 := Lib.hid (HOK.out.trans hb1); clear hb1 HKU p0 p1 p2 p3 p4 p5 p6 p7 p8 p9 p10 p11 hpl x0 x1 x2 x3 x4 x5 x6 x7 x8 x9 x10 x11 x12 x13; obtain ⟨y0, y1, y2, y3, y4, y5, y6, y7, y8, y9, y10, y11, y12, y13⟩ := HX1.out.msg; obtain ⟨z0, z1, z2, z3, z4, z5, z6, z7, z8, z9, z10, z11, z12, z13⟩ := HM1.out.msg; have hxl := HX1.out.lt; have hml := HM1.out.lt; obtain ⟨f0, f1, f2, f3, f4, f5, f6, f7, f8, f9, f10, f11, f12, f13⟩ := HM1.out.frozen14)
          have HO := Lib.hid (own_set14 HM1.out m A c)
          have HU := Lib.hid (only_set14 (Only.refl g w1) m A c)
          generalize (((((((((((((w1.setCell ⟨g, 0, none⟩ (.int .i64 m.kind)).setCell ⟨g, 1, none⟩ (.int .i64 m.frm)).setCell ⟨g, 2, none⟩ (.int .i64 m.lo)).setCell ⟨g, 3, none⟩ (.int .i64 m.hi)).setCell ⟨g, 4, none⟩ (.int .i64 m.held)).setCell ⟨g, 5, none⟩ (.int .i64 m.hops)).setCell ⟨g, 6, none⟩ (.bool m.good)).setCell ⟨g, 7, none⟩ (.bool m.ref)).setCell ⟨g, 8, none⟩ (.int .i64 m.slo)).setCell ⟨g, 9, none⟩ (.int .i64 m.shi)).setCell ⟨g, 10, none⟩ (.int .i64 m.pulse)).setCell ⟨g, 11, none⟩ (.int .i64 m.time)).setCell ⟨g, 12, none⟩ (.int .i64 m.num)).setCell ⟨g, 13, none⟩ (.slice A m.table.length c) = W4 at HO HU ⊢
          clear y0 y1 y2 y3 y4 y5 y6 y7 y8 y9 y10 y11 y12 y13 z0 z1 z2 z3 z4 z5 z6 z7 z8 z9 z10 z11 z12 z13 f0 f1 f2 f3 f4 f5 f6 f7 f8 f9 f10 f11 f12 f13 hxl hml
          go_roundw
          case rel => exact ⟨k + 1, by omega, by go_num, by rw [HNX.out]; rfl, HU.out.own HP1.out HW.out.2.2.2.2.1, by rw [HNX.out]; show Own _ _ (msgCells (nth l k).m (nth l k).A (nth l k).cap); rw [HX.out]; exact HO.out, HU.out.own HR1.out HW.out.2.2.2.2.2, Only.then_ok HOK1.out HU.out HW.out.2.2.1⟩
          case measure => simp [intOf]; omega
        | some j =>
          obtain rfl : n = (nth l j).m := by rw [show nth l j = ⟨n, D, d⟩ from HBB.out]
          have HKO := Lib.hid fun w => KO.out m A c (nth l j).m D d w
          simp only [Option.isSome_some]
          by_cases hlt3 : Route.lt3 m (nth l j).m
          · have HNX := Lib.hid (HN.out.2.2 hmay (Or.inr ⟨j, rfl, hlt3⟩))
            have hneg := (Route.ord_neg m (nth l j).m).2 hlt3
            generalize (nth l j).m = n at *
            clear hmay hlt3
            generalize Route.ord m n = o at HKO hneg
            go_wp2_with (first | (go_at_call 160; (with_reducible refine (HKU.out _).mono ?_); rintro e w1 ⟨rfl, hb1⟩; have HP1 := Lib.hid (HP.out.next hb1); have HM1 := Lib.hid (HM.out.next hb1); have HR1 := Lib.hid (HR.out.next hb1); have HX1 := Lib.hid (HX2.out.next hb1); have HOK1 := Lib.hid (HOK.out.trans hb1); clear hb1 HKU p0 p1 p2 p3 p4 p5 p6 p7 p8 p9 p10 p11 hpl x0 x1 x2 x3 x4 x5 x6 x7 x8 x9 x10 x11 x12 x13; obtain ⟨y0, y1, y2, y3, y4, y5, y6, y7, y8, y9, y10, y11, y12, y13⟩ := HX1.out.msg; obtain ⟨z0, z1, z2, z3, z4, z5, z6, z7, z8, z9, z10, z11, z12, z13⟩ := HM1.out.msg; have hxl := HX1.out.lt; have hml := HM1.out.lt; obtain ⟨f0, f1, f2, f3, f4, f5, f6, f7, f8, f9, f10, f11, f12, f13⟩ := HM1.out.frozen14) | (go_at_call 161; (with_reducible refine (HKO.out _).mono ?_); rintro e w2 ⟨rfl, hb2⟩; replace HP1 := Lib.hid (HP1.out.next hb2); replace HM1 := Lib.hid (HM1.out.next hb2); replace HR1 := Lib.hid (HR1.out.next hb2); replace HX1 := Lib.hid (HX1.out.next hb2); replace HOK1 := Lib.hid (HOK1.out.trans hb2); clear hb2 HKO y0 y1 y2 y3 y4 y5 y6 y7 y8 y9 y10 y11 y12 y13 z0 z1 z2 z3 z4 z5 z6 z7 z8 z9 z10 z11 z12 z13 f0 f1 f2 f3 f4 f5 f6 f7 f8 f9 f10 f11 f12 f13 hxl hml; obtain ⟨y0, y1, y2, y3, y4, y5, y6, y7, y8, y9, y10, y11, y12, y13⟩ := HX1.out.msg; obtain ⟨z0, z1, z2, z3, z4, z5, z6, z7, z8, z9, z10, z11, z12, z13⟩ := HM1.out.msg; have hxl := HX1.out.lt; have hml := HM1.out.lt; obtain ⟨f0, f1, f2, f3, f4, f5, f6, f7, f8, f9, f10, f11, f12, f13⟩ := HM1.out.frozen14))
            have HO := Lib.hid (own_set14 HM1.out m A c)
            have HU := Lib.hid (only_set14 (Only.refl g w2) m A c)
            generalize (((((((((((((w2.setCell ⟨g, 0, none⟩ (.int .i64 m.kind)).setCell ⟨g, 1, none⟩ (.int .i64 m.frm)).setCell ⟨g, 2, none⟩ (.int .i64 m.lo)).setCell ⟨g, 3, none⟩ (.int .i64 m.hi)).setCell ⟨g, 4, none⟩ (.int .i64 m.held)).setCell ⟨g, 5, none⟩ (.int .i64 m.hops)).setCell ⟨g, 6, none⟩ (.bool m.good)).setCell ⟨g, 7, none⟩ (.bool m.ref)).setCell ⟨g, 8, none⟩ (.int .i64 m.slo)).setCell ⟨g, 9, none⟩ (.int .i64 m.shi)).setCell ⟨g, 10, none⟩ (.int .i64 m.pulse)).setCell ⟨g, 11, none⟩ (.int .i64 m.time)).setCell ⟨g, 12, none⟩ (.int .i64 m.num)).setCell ⟨g, 13, none⟩ (.slice A m.table.length c) = W4 at HO HU ⊢
            clear y0 y1 y2 y3 y4 y5 y6 y7 y8 y9 y10 y11 y12 y13 z0 z1 z2 z3 z4 z5 z6 z7 z8 z9 z10 z11 z12 z13 f0 f1 f2 f3 f4 f5 f6 f7 f8 f9 f10 f11 f12 f13 hxl hml
            go_roundw
            case rel => exact ⟨k + 1, by omega, by go_num, by rw [HNX.out]; rfl, HU.out.own HP1.out HW.out.2.2.2.2.1, by rw [HNX.out]; show Own _ _ (msgCells (nth l k).m (nth l k).A (nth l k).cap); rw [HX.out]; exact HO.out, HU.out.own HR1.out HW.out.2.2.2.2.2, Only.then_ok HOK1.out HU.out HW.out.2.2.1⟩
            case measure => simp [intOf]; omega
          · have HNX := Lib.hid (HN.out.2.1 j rfl hlt3)
            have hneg : ¬ Route.ord m (nth l j).m < 0 := fun g => hlt3 ((Route.ord_neg m (nth l j).m).1 g)
            generalize hnn : (nth l j).m = n at *
            clear hmay hlt3
            generalize Route.ord m n = o at HKO hneg
            go_wp2_with (first | (go_at_call 160; (with_reducible refine (HKU.out _).mono ?_); rintro e w1 ⟨rfl, hb1⟩; have HP1 := Lib.hid (HP.out.next hb1); have HM1 := Lib.hid (HM.out.next hb1); have HR1 := Lib.hid (HR.out.next hb1); have HX1 := Lib.hid (HX2.out.next hb1); have HOK1 := Lib.hid (HOK.out.trans hb1); clear hb1 HKU p0 p1 p2 p3 p4 p5 p6 p7 p8 p9 p10 p11 hpl x0 x1 x2 x3 x4 x5 x6 x7 x8 x9 x10 x11 x12 x13; obtain ⟨y0, y1, y2, y3, y4, y5, y6, y7, y8, y9, y10, y11, y12, y13⟩ := HX1.out.msg; obtain ⟨z0, z1, z2, z3, z4, z5, z6, z7, z8, z9, z10, z11, z12, z13⟩ := HM1.out.msg; have hxl := HX1.out.lt; have hml := HM1.out.lt; obtain ⟨f0, f1, f2, f3, f4, f5, f6, f7, f8, f9, f10, f11, f12, f13⟩ := HM1.out.frozen14) | (go_at_call 161; (with_reducible refine (HKO.out _).mono ?_); rintro e w2 ⟨rfl, hb2⟩; replace HP1 := Lib.hid (HP1.out.next hb2); replace HM1 := Lib.hid (HM1.out.next hb2); replace HR1 := Lib.hid (HR1.out.next hb2); replace HX1 := Lib.hid (HX1.out.next hb2); replace HOK1 := Lib.hid (HOK1.out.trans hb2); clear hb2 HKO y0 y1 y2 y3 y4 y5 y6 y7 y8 y9 y10 y11 y12 y13 z0 z1 z2 z3 z4 z5 z6 z7 z8 z9 z10 z11 z12 z13 f0 f1 f2 f3 f4 f5 f6 f7 f8 f9 f10 f11 f12 f13 hxl hml; obtain ⟨y0, y1, y2, y3, y4, y5, y6, y7, y8, y9, y10, y11, y12, y13⟩ := HX1.out.msg; obtain ⟨z0, z1, z2, z3, z4, z5, z6, z7, z8, z9, z10, z11, z12, z13⟩ := HM1.out.msg; have hxl := HX1.out.lt; have hml := HM1.out.lt; obtain ⟨f0, f1, f2, f3, f4, f5, f6, f7, f8, f9, f10, f11, f12, f13⟩ := HM1.out.frozen14))
            go_roundw
            case rel => exact ⟨k + 1, by omega, by go_num, by rw [HNX.out]; rfl, HP1.out, by rw [HNX.out, HBB.out]; exact HM1.out, HR1.out, HOK1.out⟩
            case measure => simp [intOf]; omega
    · obtain rfl : k = l.length := by omega
      clear hlt hk HB KU KO
      have HWS := Lib.hid hok.size
      have hT := HT.out wr hok
      have hL := HL.out
      obtain ⟨r', hr'⟩ : ∃ r', chosen p.d l l.length = r' := ⟨_, rfl⟩
      have HC := Lib.hid hr'
      rw [hr'] at hM hT hL ⊢
      clear hr' HT HL
      obtain ⟨bb, hbb⟩ : ∃ bb, bestOf l r' = bb := ⟨_, rfl⟩
      have HBE := Lib.hid hbb
      rw [hbb] at hM hT hL
      clear hbb
      obtain ⟨n, D, d⟩ := bb
      simp only at hM hT hL
      obtain ⟨fd, hfd⟩ : ∃ fd, Option.isSome r' = fd := ⟨_, rfl⟩
      have HFD := Lib.hid hfd
      rw [hfd]
      clear hfd
      have KC := Lib.hid (cloneLeaps D n.table d wr hT hL)
      obtain ⟨z0, z1, z2, z3, z4, z5, z6, z7, z8, z9, z10, z11, z12, z13⟩ := hM.msg
      have hMl := hM.lt
      have hRl := hR.lt
      go_upto_region 10 with (go_at_call 83; (with_reducible refine KC.out.mono ?_); rintro e w1 ⟨A2, c2, rfl, hP2, hbk, hb1⟩; have hM1 := hM.next hb1; have hR1 := hR.next hb1; have hok1 := hok.trans hb1; clear hb1; clear z0 z1 z2 z3 z4 z5 z6 z7 z8 z9 z10 z11 z12 z13; have z13 := hM1.cell 13 (v := .slice D n.table.length d) rfl; have f13 := hM1.frozen 13)
      clear z13 f13
      have hM5 := own_set13 hM1 A2 c2
      have hO5 := (Only.refl g w1).setR 13 (.slice A2 n.table.length c2)
      have hR5 : Own _ r (msgCells zeroMsg none 0) := hO5.own hR1 HW.out.2.2.2.2.2
      have hP5 := pairs_only hP2 hO5 (fun a ha e => by have := hbk a ha; omega)
      have hok5 := Only.then_ok hok1 hO5 HW.out.2.2.1
      clear hM hR hok hM1 hR1 hok1 hO5 hP2
      have hw1 : wr.heap.size = wr.heap.size := rfl
      generalize w1.setCell ⟨g, 13, none⟩ (.slice A2 n.table.length c2) = W5 at hM5 hR5 hP5 hok5 ⊢
      obtain ⟨z0, z1, z2, z3, z4, z5, z6, z7, z8, z9, z10, z11, z12, z13⟩ := hM5.msg
      obtain ⟨y0, y1, y2, y3, y4, y5, y6, y7, y8, y9, y10, y11, y12, y13⟩ := hR5.msg
      obtain ⟨f0, f1, f2, f3, f4, f5, f6, f7, f8, f9, f10, f11, f12, f13⟩ := hR5.frozen14
      have hml5 := hM5.lt
      have hrl5 := hR5.lt
      go_wp2
      have hO6 := only_set14 (Only.refl r W5) n A2 c2
      have hR6 := own_set14 hR5 n A2 c2
      have hP6 := pairs_only hP5 hO6 (fun a ha e => by have := hbk a ha; omega)
      have hok6 := Only.then_ok hok5 hO6 HW.out.2.1
      clear z0 z1 z2 z3 z4 z5 z6 z7 z8 z9 z10 z11 z12 z13 y0 y1 y2 y3 y4 y5 y6 y7 y8 y9 y10 y11 y12 y13 f0 f1 f2 f3 f4 f5 f6 f7 f8 f9 f10 f11 f12 f13
      generalize (((((((((((((W5.setCell ⟨r, 0, none⟩ (.int .i64 n.kind)).setCell ⟨r, 1, none⟩ (.int .i64 n.frm)).setCell ⟨r, 2, none⟩ (.int .i64 n.lo)).setCell ⟨r, 3, none⟩ (.int .i64 n.hi)).setCell ⟨r, 4, none⟩ (.int .i64 n.held)).setCell ⟨r, 5, none⟩ (.int .i64 n.hops)).setCell ⟨r, 6, none⟩ (.bool n.good)).setCell ⟨r, 7, none⟩ (.bool n.ref)).setCell ⟨r, 8, none⟩ (.int .i64 n.slo)).setCell ⟨r, 9, none⟩ (.int .i64 n.shi)).setCell ⟨r, 10, none⟩ (.int .i64 n.pulse)).setCell ⟨r, 11, none⟩ (.int .i64 n.time)).setCell ⟨r, 12, none⟩ (.int .i64 n.num)).setCell ⟨r, 13, none⟩ (.slice A2 n.table.length c2) = W6 at hR6 hP6 hok6 ⊢
      obtain ⟨y0, y1, y2, y3, y4, y5, y6, y7, y8, y9, y10, y11, y12, y13⟩ := hR6.msg
      exact bodyPost_ret (v := .tuple #[.agg #[.int .i64 n.kind, .int .i64 n.frm, .int .i64 n.lo, .int .i64 n.hi, .int .i64 n.held, .int .i64 n.hops, .bool n.good, .bool n.ref, .int .i64 n.slo, .int .i64 n.shi, .int .i64 n.pulse, .int .i64 n.time, .int .i64 n.num, .slice A2 n.table.length c2], .bool fd]) (by simp [results, Tryz.results125, go_sem, y0, y1, y2, y3, y4, y5, y6, y7, y8, y9, y10, y11, y12, y13]) rfl ⟨A2, c2, by rw [HC.out, HBE.out, HFD.out]; rfl, by rw [HC.out, HBE.out]; exact hP6, fun a ha => Nat.le_trans HWS.out (by have := hbk a ha; omega), hok6⟩
end Go.Proofs.YtmokofblmkeloaaGreatDoor
