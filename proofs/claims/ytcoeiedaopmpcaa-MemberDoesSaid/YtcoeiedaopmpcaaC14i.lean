/- Contracts of layer 14: the document's Tick. -/
import Derived.Test.YtcoeiedaopmpcaaC14h
import Derived.Test.YtcoeiedaopmpcaaW28
import Derived.Test.YtcoeiedaopmpcaaW34
namespace Go.Proofs.Ytcoeiedaopmpcaa
open Go.RowKit
set_option maxRecDepth 100000
attribute [local go_sem ↓] Go.wp_at_zero Go.wp_at_succ
/-- Behind k rounds of the document's Tick. -/
structure RTickAt (g : Nat) (m : Int) (f : NF) (w wr : World) (v : Value) (k : Nat) : Prop where
  tab : RefT wr g (Mem.tickL m f (List.range k))
  row : RowN w.heap.size wr v (Mem.goneTo m f k)
  on : Only g w wr
  lim : g < w.heap.size
namespace RTickAt
variable {g k : Nat} {m : Int} {f : NF} {w wr W : World} {v v' : Value} {p : Int × Int}
theorem start (hT : RefT w g f) : RTickAt g m f w w (.slice none 0 0) 0 := ⟨by rw [List.range_zero, Mem.tickL_nil]; exact hT, RowN.start _ _, Only.refl _ _, hT.lt⟩
theorem next (h : RTickAt g m f w wr v k) (j : Ok wr W) : RTickAt g m f w W v k := ⟨h.tab.next j, h.row.next j, h.on.ok j, h.lim⟩
theorem none_ (h : RTickAt g m f w wr v k) (j : Ok wr W) (e : f k = none) : RTickAt g m f w W v (k + 1) := by
  refine ⟨?_, ?_, h.on.ok j, h.lim⟩
  · rw [List.range_succ, Mem.tickL_none e]; exact h.tab.next j
  · rw [Mem.goneTo_no (by rw [e]; rfl)]; exact h.row.next j
theorem cells (h : RTickAt g m f w wr v k) : ∃ cs, Own wr g cs ∧ Cells3 cs (Mem.tickL m f (List.range k)) := h.tab
theorem stays (h : RTickAt g m f w wr v k) (e : f k = some p) (hg : Mem.goes m p = false) (hk : k < 48) {cs : Array Value} (hO : Own wr g cs) (hC : Cells3 cs (Mem.tickL m f (List.range k))) :
    RTickAt g m f w (((wr.setCell ⟨g, k * 3, none⟩ (.bool true)).setCell ⟨g, k * 3 + 1, none⟩ (.int .i64 (Mem.next p).1)).setCell ⟨g, k * 3 + 2, none⟩ (.int .i64 (Mem.next p).2)) v (k + 1) := by
  refine ⟨⟨_, own_set3 hO _ _ _, ?_⟩, ?_, only_set3 h.on _ _ _, h.lim⟩
  · have := hC.put hk (some (Mem.next p))
    have e2 := Mem.tickL_put (l := List.range k) e hg
    rw [← List.range_succ] at e2
    rw [← e2]
    exact this
  · rw [Mem.goneTo_no (by rw [Mem.goesAt_some e]; exact hg)]
    exact h.row.only (only_set3 (Only.refl g wr) _ _ _) h.lim
theorem goes {o : Obj} (h : RTickAt g m f w wr v k) (e : f k = some p) (hg : Mem.goes m p = true) (hk : k < 48) {W2 : World}
    (hr : W2.ownsRow w.heap.size 3 1 v' (Mem.ints (Mem.goneTo m f k) ++ [(k : Int)]).length ((Mem.ints (Mem.goneTo m f k) ++ [(k : Int)]).map (Value.int .i64))) (hgr : (wr.alloc o).grownBy W2 v.ownBlock) :
    RTickAt g m f w (((W2.setCell ⟨g, k * 3, none⟩ (.bool false)).setCell ⟨g, k * 3 + 1, none⟩ (.int .i64 0)).setCell ⟨g, k * 3 + 2, none⟩ (.int .i64 0)) v' (k + 1) := by
  obtain ⟨cs, hO, hC⟩ := h.tab
  have hv := h.row.lt
  have hl := h.lim
  have hsz := h.on.size
  have hO2 : Own W2 g cs := by
    have hOa := hO.alloc o
    have hlt := hOa.lt
    obtain ⟨t, ht⟩ := hOa
    exact ⟨t, (hgr.block g hlt (fun e => by have := (hv g e.symm).1; omega)).trans ht⟩
  have hon : Only g w W2 := (h.on.alloc o).grow hgr fun j hj => .inr (hv j hj).1
  refine ⟨⟨_, own_set3 hO2 _ _ _, ?_⟩, ?_, only_set3 hon _ _ _, h.lim⟩
  · have := hC.put hk none
    have e2 := Mem.tickL_drop (l := List.range k) e hg
    rw [← List.range_succ] at e2
    rw [← e2]
    exact this
  · rw [Mem.goneTo_yes (by rw [Mem.goesAt_some e]; exact hg)]
    exact (RowN.more hr).only (only_set3 (Only.refl g W2) _ _ _) hl
/-- What an append leaves of the document's cells. -/
theorem after {o : Obj} (h : RTickAt g m f w wr v k) {W2 : World} (hgr : (wr.alloc o).grownBy W2 v.ownBlock) : ∃ cs, Own W2 g cs ∧ cs.size = 144 := by
  obtain ⟨cs, hO, hC⟩ := h.tab
  have hv := h.row.lt
  have hl := h.lim
  have hOa := hO.alloc o
  have hlt := hOa.lt
  obtain ⟨t, ht⟩ := hOa
  exact ⟨cs, ⟨t, (hgr.block g hlt (fun e => by have := (hv g e.symm).1; omega)).trans ht⟩, hC.size⟩
end RTickAt
/-- What the document's Tick leaves. -/
def RTickEnd (g : Nat) (m : Int) (f : NF) (w : World) (e : Ending) (w' : World) : Prop :=
  ∃ B c, e = .returned (.slice B (Mem.gone m f).length c) ∧ IntsAt w' B (Mem.ints (Mem.gone m f)) ∧ (∀ a, B = some a → w.heap.size ≤ a.block) ∧ Only g w w' ∧ RefT w' g (Mem.tick m f)
theorem rtick_end {g : Nat} {m : Int} {f : NF} {w wr : World} {v : Value} (hG : Mem.Good f) (h : RTickAt g m f w wr v 48) : RTickEnd g m f w (.returned v) wr := by
  have hr := h.row
  rw [Mem.goneTo_all] at hr
  obtain ⟨B, c, e, hI, hB⟩ := hr.ends
  subst e
  refine ⟨B, c, rfl, hI, hB, h.on, ?_⟩
  have := h.tab
  rwa [Mem.tickL_range hG] at this
/-- What each operation leaves. -/
def VMR13 (g _B k : Nat) (a1 q1 : Int) (_w : World) (v : Value) : Nat → Prop
  | 0 => v = .pointer (some ⟨g, 0, none⟩)
  | 1 => v = .int .i64 (k : Int)
  | 2 => v = .agg #[.bool true, .int .i64 a1, .int .i64 q1]
  | 3 => v = .pointer (some ⟨g, 0, none⟩)
  | 4 => v = .pointer (some ⟨g, 0, none⟩)
  | 5 => v = .pointer (some ⟨g, k * 3, none⟩)
  | _ => v = .bool true
/-- It stays so. -/
def VCR13 (g B k : Nat) (a1 q1 : Int) (i : Nat) (v : Value) (w : World) : Prop := ∀ w', Ok w w' → VMR13 g B k a1 q1 w' v i
set_option maxHeartbeats 4000000 in
theorem refTick (g : Nat) (m : Int) (f : NF) (w : World) (hT : RefT w g f) (hG : Mem.Good f) :
    Calls Try.prog 13 #[.pointer (some ⟨g, 0, none⟩), .int .i64 m] w (RTickEnd g m f w) := by
  have H0 : Hid (RTickAt g m f w w (.slice none 0 0) 0) := Lib.hid (RTickAt.start hT)
  have KE : Hid (∀ (W : World) (v : Value), RTickAt g m f w W v 48 → RTickEnd g m f w (.returned v) W) := Lib.hid fun W v h => rtick_end hG h
  obtain ⟨cs, ⟨t, hB⟩, hC⟩ := hT
  have HI := Lib.hid (refInfo hC.size)
  have HX := Lib.hid fun k hk W => refIndex hC (k := k) hk W
  have HG := Lib.hid hG
  generalize RTickEnd g m f w = Q at KE ⊢
  clear hC hG
  go_enter Try.func13, Try.ntmps13
  go_wp2_with (with_reducible refine wpList_load_row rfl 29 (.tmp 10) rfl g rfl t cs (0, 0) _ hB Try.underlying29 rfl HI.out ?_)
  go_loopw [5, 12] (fun v i wr => ∃ k : Nat, k ≤ 48 ∧ i = .int .i64 k ∧ Hid (RTickAt g m f w wr v k)) (fun _ i _ => 48 - (intOf i).toNat)
  case atStart => exact ⟨0, by omega, rfl, H0⟩
  case round =>
    obtain ⟨k, hk, rfl, hrel⟩ := hrel
    clear H0 hB
    by_cases hlt : k < 48
    · have hx := HX.out k hlt
      cases hf : f k with
      | none =>
        rw [hf] at hx
        simp only [Option.isSome_none] at hx
        obtain ⟨a0, ha0⟩ : ∃ x, Mem.age none = x := ⟨_, rfl⟩
        obtain ⟨q0, hq0⟩ : ∃ x, Mem.quiet none = x := ⟨_, rfl⟩
        rw [ha0, hq0] at hx
        have HF := Lib.hid hf
        clear hf ha0 hq0
        go_wp2
        go_roundw
        case rel => exact ⟨k + 1, by omega, by go_num, Lib.hid (hrel.out.none_ ((Ok.refl _).alloc _) HF.out)⟩
        case measure => simp [intOf]; omega
      | some p =>
        rw [hf] at hx
        obtain ⟨a, q⟩ := p
        have hbd := HG.out.bd k (a, q) hf
        simp only [Option.isSome_some, Mem.age, Mem.quiet] at hx
        have HF := Lib.hid hf
        have hgo : Mem.goes m (a, q) = decide (max m 0 < q) := rfl
        have hgl := hrel.out.tab.lt
        have hle := Mem.goneTo_le m f k
        clear hf
        by_cases hq : max m 0 < q
        · have HGo : Hid (Mem.goes m (a, q) = true) := Lib.hid (by rw [hgo]; simpa using hq)
          have h1 : 0 < q := by omega
          have h2 : m < q := by omega
          clear hgo hq
          go_wp2_with (at_builtin; refine wpList_append_ints rfl (.tmp 28) (.tmp 30) 37 rfl w.heap.size 3 Try.underlying37 info14 _ (Mem.ints (Mem.goneTo m f k)) _ (Mem.ints_length _).symm rfl (hrel.out.row.next (w1 := (wr.alloc (.cells #[.bool true, .int .i64 a, .int .i64 q] 28)).alloc (.cells #[.int .i64 (k : Int)] 3)) (((Ok.refl wr).alloc _).alloc _)) _ [(k : Int)] 1 _ rfl rfl (ints_new _ _ _ _ rfl (by simp)) (by rw [Mem.ints_length]; simp; omega) (by have := hrel.out.on.size; simp; omega) ?_; intro v' w2 hr2 hg2; obtain ⟨cs1, hO1, hs1⟩ := (hrel.out.next ((Ok.refl wr).alloc (.cells #[.bool true, .int .i64 a, .int .i64 q] 28))).after hg2; have HR2 := Lib.hid (And.intro hr2 hg2); clear hr2 hg2; have g0 := hO1.cell (k * 3) (Array.getElem?_eq_getElem (show k * 3 < cs1.size by omega)); have g1 := hO1.cell (k * 3 + 1) (Array.getElem?_eq_getElem (show k * 3 + 1 < cs1.size by omega)); have g2 := hO1.cell (k * 3 + 2) (Array.getElem?_eq_getElem (show k * 3 + 2 < cs1.size by omega)); have f0 := hO1.frozen (k * 3); have f1 := hO1.frozen (k * 3 + 1); have f2 := hO1.frozen (k * 3 + 2); clear hO1)
          go_roundw
          case rel => exact ⟨k + 1, by omega, by go_num, Lib.hid ((hrel.out.next ((Ok.refl wr).alloc (.cells #[.bool true, .int .i64 a, .int .i64 q] 28))).goes HF.out HGo.out hlt HR2.out.1 HR2.out.2)⟩
          case measure => simp [intOf]; omega
        · have HGo : Hid (Mem.goes m (a, q) = false) := Lib.hid (by rw [hgo]; simpa using hq)
          obtain ⟨a1, ha1⟩ : ∃ x, (Mem.next (a, q)).1 = x := ⟨_, rfl⟩
          obtain ⟨q1, hq1⟩ : ∃ x, (Mem.next (a, q)).2 = x := ⟨_, rfl⟩
          have hB := Own.new wr #[.bool true, .int .i64 a1, .int .i64 q1] 28 rfl
          have hrel0 := hrel.out.next ((Ok.refl wr).alloc (.cells #[.bool true, .int .i64 a1, .int .i64 q1] 28))
          obtain ⟨W, hW⟩ : ∃ W, wr.alloc (.cells #[.bool true, .int .i64 a1, .int .i64 q1] 28) = W := ⟨_, rfl⟩
          have HW := Lib.hid hW
          rw [hW] at hB hrel0
          have hok1 : ∀ W', Ok W.drew W' → Ok W W' := fun W' h => (Ok.refl W).drew.trans h
          have HB : Hid (∀ W', Ok W.drew W' → Own W' wr.heap.size #[.bool true, .int .i64 a1, .int .i64 q1]) := Lib.hid fun W' h => hB.drew.next h
          have HR : Hid (∀ W', Ok W.drew W' → RTickAt g m f w W' u5 k) := Lib.hid fun W' h => hrel0.next (hok1 W' h)
          have HE : Hid (∀ W', Ok W.drew W' → ∀ cs1, Own W' g cs1 → Cells3 cs1 (Mem.tickL m f (List.range k)) → RTickAt g m f w (((W'.setCell ⟨g, k * 3, none⟩ (.bool true)).setCell ⟨g, k * 3 + 1, none⟩ (.int .i64 a1)).setCell ⟨g, k * 3 + 2, none⟩ (.int .i64 q1)) u5 (k + 1)) := Lib.hid fun W' h cs1 hO hC => by
            have := (hrel0.next (hok1 W' h)).stays HF.out HGo.out hlt hO hC
            rwa [ha1, hq1] at this
          have KQ : Hid (∀ W, Calls Try.prog 20 #[.int .i64 q] W fun e w' => e = .returned (.int .i64 q1) ∧ W = w') := Lib.hid fun W => by
            have := refMore q W hbd.2.2
            rw [← hq1]
            exact this
          clear hW hB hrel0 hok1 hgo
          by_cases h0 : q = 0
          · have KA : Hid (∀ W, Calls Try.prog 20 #[.int .i64 a] W fun e w' => e = .returned (.int .i64 a1) ∧ W = w') := Lib.hid fun W => by
              have := refMore a W ⟨hbd.1, hbd.2.1⟩
              have e : (Mem.next (a, q)).1 = Mem.up a := if_pos h0
              rw [← ha1, e]
              exact this
            subst h0
            clear hq ha1 hq1
            go_upto_region 13 with (go_at_call 20; first | ((with_reducible refine (KA.out _).mono ?_); rintro e w1 ⟨rfl, rfl⟩) | ((with_reducible refine (KQ.out _).mono ?_); rintro e w1 ⟨rfl, rfl⟩))
            rw [HW.out]
            generalize wr.heap.size = B at HB ⊢
            clear HW hrel hx hbd KE KQ
            refine wp_region_facts_end (by kernel_rfl) 8 58 rfl (VCR13 g B k a1 q1) Ok _ rfl _ 6 rfl rfl rfl rfl (by kernel_rfl) (by kernel_rfl) (by kernel_rfl) (fun i v w w' h k w'' k' => h w'' (k.trans k')) (fun a b c => Ok.trans) (Ok.refl _) [some 50, some 51, some 52, some 53, some 54, some 55] rfl ⟨?_, ?_, ?_, ?_, ?_, ?_, trivial⟩ ?_
            · intro a' w' hF hR
              have e0 : a'.tmps[0]? = some (.pointer (some ⟨g, 0, none⟩)) := hF.slot 0 (by kernel_rfl) rfl
              refine wpOp_run (v := .pointer (some ⟨g, 0, none⟩)) rfl rfl ?_ (fun _ _ => rfl) (Ok.refl _)
              clear hF
              go_simp
            · intro a' w' hF hR
              have e6 : a'.tmps[6]? = some (.int .i64 (k : Int)) := hF.slot 6 (by kernel_rfl) rfl
              refine wpOp_run (v := .int .i64 (k : Int)) rfl rfl ?_ (fun _ _ => rfl) (Ok.refl _)
              clear hF
              go_simp
            · intro a' w' hF hR
              have e7 : a'.tmps[7]? = some (.pointer (some ⟨B, 0, none⟩)) := hF.slot 7 (by kernel_rfl) rfl
              have c0 := (HB.out _ hR).cell 0 (v := .bool true) rfl
              have c1 := (HB.out _ hR).cell 1 (v := .int .i64 a1) rfl
              have c2 := (HB.out _ hR).cell 2 (v := .int .i64 q1) rfl
              refine wpOp_run (v := .agg #[.bool true, .int .i64 a1, .int .i64 q1]) rfl rfl ?_ (fun _ _ => rfl) (Ok.refl _)
              clear hF
              go_simp
            · intro a' w' hF hR
              obtain ⟨v0, hv0, e50⟩ := hF.get 0 50 (by kernel_rfl) (by kernel_rfl)
              obtain rfl : v0 = _ := hv0 _ (Ok.refl _)
              refine wpOp_run (v := .pointer (some ⟨g, 0, none⟩)) rfl rfl ?_ (fun _ _ => rfl) (Ok.refl _)
              clear hF
              go_simp
            · intro a' w' hF hR
              obtain ⟨v3, hv3, e53⟩ := hF.get 3 53 (by kernel_rfl) (by kernel_rfl)
              obtain rfl : v3 = _ := hv3 _ (Ok.refl _)
              refine wpOp_run (v := .pointer (some ⟨g, 0, none⟩)) rfl rfl ?_ (fun _ _ => rfl) (Ok.refl _)
              clear hF
              go_simp
            · intro a' w' hF hR
              obtain ⟨v4, hv4, e54⟩ := hF.get 4 54 (by kernel_rfl) (by kernel_rfl)
              obtain rfl : v4 = _ := hv4 _ (Ok.refl _)
              obtain ⟨v1, hv1, e51⟩ := hF.get 1 51 (by kernel_rfl) (by kernel_rfl)
              obtain rfl : v1 = _ := hv1 _ (Ok.refl _)
              refine wpOp_run (v := .pointer (some ⟨g, k * 3, none⟩)) rfl rfl ?_ (fun _ _ => rfl) (Ok.refl _)
              clear hF
              go_simp
            intro vs W' hvs hR
            have e2 : vs 2 = .agg #[.bool true, .int .i64 a1, .int .i64 q1] := hvs 2 (by decide) _ (Ok.refl _)
            have e5 : vs 5 = .pointer (some ⟨g, k * 3, none⟩) := hvs 5 (by decide) _ (Ok.refl _)
            obtain ⟨cs1, hO1, hC1⟩ := (HR.out W' hR).tab
            have hs1 := hC1.size
            have g0 := hO1.cell (k * 3) (Array.getElem?_eq_getElem (show k * 3 < cs1.size by omega))
            have g1 := hO1.cell (k * 3 + 1) (Array.getElem?_eq_getElem (show k * 3 + 1 < cs1.size by omega))
            have g2 := hO1.cell (k * 3 + 2) (Array.getElem?_eq_getElem (show k * 3 + 2 < cs1.size by omega))
            have f0 := hO1.frozen (k * 3)
            have f1 := hO1.frozen (k * 3 + 1)
            have f2 := hO1.frozen (k * 3 + 2)
            have HQ := Lib.hid (HE.out W' hR cs1 hO1 hC1)
            clear hvs HB hO1 hC1 HE
            simp only [putFrom, e2, e5]
            simp only [Act.put, List.setIfInBounds_toArray, List.set_cons_zero, List.set_cons_succ]
            refine wpOp_store (w' := ((W'.setCell ⟨g, k * 3, none⟩ (.bool true)).setCell ⟨g, k * 3 + 1, none⟩ (.int .i64 a1)).setCell ⟨g, k * 3 + 2, none⟩ (.int .i64 q1)) rfl rfl rfl ?_ ?_
            · go_simp
            clear g0 g1 g2 f0 f1 f2 hs1
            generalize ((W'.setCell ⟨g, k * 3, none⟩ (.bool true)).setCell ⟨g, k * 3 + 1, none⟩ (.int .i64 a1)).setCell ⟨g, k * 3 + 2, none⟩ (.int .i64 q1) = W2 at HQ ⊢
            go_wp2
            go_roundw
            case rel => exact ⟨k + 1, by omega, by go_num, HQ⟩
            case measure => simp [intOf]; omega
          · have ha0 : a1 = 0 := by
              rw [← ha1]
              exact if_neg h0
            have h1 : 0 < q := by omega
            have h2 : ¬ m < q := by omega
            have hd : (q == 0) = false := by rw [beq_eq_false_iff_ne]; exact h0
            subst ha0
            clear hq ha1 hq1 h0
            go_upto_region 13 with (go_at_call 20; first | ((with_reducible refine (KQ.out _).mono ?_); rintro e w1 ⟨rfl, rfl⟩))
            rw [HW.out]
            generalize wr.heap.size = B at HB ⊢
            clear HW hrel hx hbd KE KQ
            refine wp_region_facts_end (by kernel_rfl) 8 58 rfl (VCR13 g B k 0 q1) Ok _ rfl _ 6 rfl rfl rfl rfl (by kernel_rfl) (by kernel_rfl) (by kernel_rfl) (fun i v w w' h k w'' k' => h w'' (k.trans k')) (fun a b c => Ok.trans) (Ok.refl _) [some 50, some 51, some 52, some 53, some 54, some 55] rfl ⟨?_, ?_, ?_, ?_, ?_, ?_, trivial⟩ ?_
            · intro a' w' hF hR
              have e0 : a'.tmps[0]? = some (.pointer (some ⟨g, 0, none⟩)) := hF.slot 0 (by kernel_rfl) rfl
              refine wpOp_run (v := .pointer (some ⟨g, 0, none⟩)) rfl rfl ?_ (fun _ _ => rfl) (Ok.refl _)
              clear hF
              go_simp
            · intro a' w' hF hR
              have e6 : a'.tmps[6]? = some (.int .i64 (k : Int)) := hF.slot 6 (by kernel_rfl) rfl
              refine wpOp_run (v := .int .i64 (k : Int)) rfl rfl ?_ (fun _ _ => rfl) (Ok.refl _)
              clear hF
              go_simp
            · intro a' w' hF hR
              have e7 : a'.tmps[7]? = some (.pointer (some ⟨B, 0, none⟩)) := hF.slot 7 (by kernel_rfl) rfl
              have c0 := (HB.out _ hR).cell 0 (v := .bool true) rfl
              have c1 := (HB.out _ hR).cell 1 (v := .int .i64 0) rfl
              have c2 := (HB.out _ hR).cell 2 (v := .int .i64 q1) rfl
              refine wpOp_run (v := .agg #[.bool true, .int .i64 0, .int .i64 q1]) rfl rfl ?_ (fun _ _ => rfl) (Ok.refl _)
              clear hF
              go_simp
            · intro a' w' hF hR
              obtain ⟨v0, hv0, e50⟩ := hF.get 0 50 (by kernel_rfl) (by kernel_rfl)
              obtain rfl : v0 = _ := hv0 _ (Ok.refl _)
              refine wpOp_run (v := .pointer (some ⟨g, 0, none⟩)) rfl rfl ?_ (fun _ _ => rfl) (Ok.refl _)
              clear hF
              go_simp
            · intro a' w' hF hR
              obtain ⟨v3, hv3, e53⟩ := hF.get 3 53 (by kernel_rfl) (by kernel_rfl)
              obtain rfl : v3 = _ := hv3 _ (Ok.refl _)
              refine wpOp_run (v := .pointer (some ⟨g, 0, none⟩)) rfl rfl ?_ (fun _ _ => rfl) (Ok.refl _)
              clear hF
              go_simp
            · intro a' w' hF hR
              obtain ⟨v4, hv4, e54⟩ := hF.get 4 54 (by kernel_rfl) (by kernel_rfl)
              obtain rfl : v4 = _ := hv4 _ (Ok.refl _)
              obtain ⟨v1, hv1, e51⟩ := hF.get 1 51 (by kernel_rfl) (by kernel_rfl)
              obtain rfl : v1 = _ := hv1 _ (Ok.refl _)
              refine wpOp_run (v := .pointer (some ⟨g, k * 3, none⟩)) rfl rfl ?_ (fun _ _ => rfl) (Ok.refl _)
              clear hF
              go_simp
            intro vs W' hvs hR
            have e2 : vs 2 = .agg #[.bool true, .int .i64 0, .int .i64 q1] := hvs 2 (by decide) _ (Ok.refl _)
            have e5 : vs 5 = .pointer (some ⟨g, k * 3, none⟩) := hvs 5 (by decide) _ (Ok.refl _)
            obtain ⟨cs1, hO1, hC1⟩ := (HR.out W' hR).tab
            have hs1 := hC1.size
            have g0 := hO1.cell (k * 3) (Array.getElem?_eq_getElem (show k * 3 < cs1.size by omega))
            have g1 := hO1.cell (k * 3 + 1) (Array.getElem?_eq_getElem (show k * 3 + 1 < cs1.size by omega))
            have g2 := hO1.cell (k * 3 + 2) (Array.getElem?_eq_getElem (show k * 3 + 2 < cs1.size by omega))
            have f0 := hO1.frozen (k * 3)
            have f1 := hO1.frozen (k * 3 + 1)
            have f2 := hO1.frozen (k * 3 + 2)
            have HQ := Lib.hid (HE.out W' hR cs1 hO1 hC1)
            clear hvs HB hO1 hC1 HE
            simp only [putFrom, e2, e5]
            simp only [Act.put, List.setIfInBounds_toArray, List.set_cons_zero, List.set_cons_succ]
            refine wpOp_store (w' := ((W'.setCell ⟨g, k * 3, none⟩ (.bool true)).setCell ⟨g, k * 3 + 1, none⟩ (.int .i64 0)).setCell ⟨g, k * 3 + 2, none⟩ (.int .i64 q1)) rfl rfl rfl ?_ ?_
            · go_simp
            clear g0 g1 g2 f0 f1 f2 hs1
            generalize ((W'.setCell ⟨g, k * 3, none⟩ (.bool true)).setCell ⟨g, k * 3 + 1, none⟩ (.int .i64 0)).setCell ⟨g, k * 3 + 2, none⟩ (.int .i64 q1) = W2 at HQ ⊢
            go_wp2
            go_roundw
            case rel => exact ⟨k + 1, by omega, by go_num, HQ⟩
            case measure => simp [intOf]; omega
    · obtain rfl : k = 48 := by omega
      have HQ := Lib.hid (KE.out _ _ hrel.out)
      clear hrel KE
      go_wp2
      exact HQ.out
end Go.Proofs.Ytcoeiedaopmpcaa
