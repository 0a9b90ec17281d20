/- Contracts of layer 6: the program's Encode. -/
import Derived.Test.YtacnoakbcilmfaaC06k
import Derived.Test.YtacnoakbcilmfaaC06d
import Derived.Test.YtacnoakbcilmfaaC05i
import Derived.Test.YtacnoakbcilmfaaW10
import Derived.Test.YtacnoakbcilmfaaW13
import Derived.Test.YtacnoakbcilmfaaW15
namespace Go.Proofs.Ytacnoakbcilmfaa
open Go.RowKit
set_option maxRecDepth 100000
attribute [local go_sem ↓] Go.wp_at_zero Go.wp_at_succ
/-- A store that is run, and what comes behind it. -/
theorem wpOp_do {P : Program} {ops : Array Oper} {Q : Exit → Act → World → Prop} {i : Nat} {o : Oper} {K : Act → World → Prop} {a : Act} {w w' : World} (ho : ops[i]? = some o) (hg : o.guard = none) (hd : o.dst = none) (hr : (execOp a.eval o).run P w = .ok .skip w') (hK : K a w') : wpOp P ops Q i K a w := by
  refine wpOp_step ho fun K' h => ?_
  rw [if_pos (by simp [Region.wanted, hg])]
  unfold Oper.wp
  rw [hr, Oper.upon_skip, hd]
  exact h _ _ hK
theorem Pen.ok {Pr : Nat → Prop} {g : Nat} {l : List Nat} {w0 w w' : World} (h : Pen Pr g l w0 w') (k : Ok w w0) (hp : ∀ q, q < w.heap.size → Pr q) : Ok w w' :=
  ⟨h.os.trans k.below.os, h.tape.trans k.below.tape, h.output.trans k.below.output, Nat.le_trans k.size h.size, fun q hq => (h.block q (hp q hq)).2.2.trans (k.below.block q hq)⟩
theorem heap_kept {w w' : World} {h : Nat} {x : Obj} (k : Ok w w') (e : w.heap[h]? = some x) : w'.heap[h]? = some x :=
  (k.below.block h (Array.getElem?_eq_some_iff.1 e).1).trans e
theorem PtrsAt.nine {w : World} {Pr : Nat → Prop} {B p : Nat} {m : Msg} {A : Option Addr} {cap : Nat} (hB : Own w B (msgCells m A cap)) (hp : Own w p #[.pointer (some ⟨B, 2, none⟩), .pointer (some ⟨B, 3, none⟩), .pointer (some ⟨B, 4, none⟩), .pointer (some ⟨B, 5, none⟩), .pointer (some ⟨B, 8, none⟩), .pointer (some ⟨B, 9, none⟩), .pointer (some ⟨B, 10, none⟩), .pointer (some ⟨B, 11, none⟩), .pointer (some ⟨B, 12, none⟩)])
    (h1 : Pr B) (h2 : Pr p) : PtrsAt w Pr (some ⟨p, 0, none⟩) (Wire.nine m) := fun k hk => by
  have hk9 : k < 9 := hk
  match k, hk9 with
  | 0, _ => exact ⟨p, 0, B, 2, rfl, h2, h1, hp.cell 0 rfl, hB.cell 2 rfl⟩
  | 1, _ => exact ⟨p, 0, B, 3, rfl, h2, h1, hp.cell 1 rfl, hB.cell 3 rfl⟩
  | 2, _ => exact ⟨p, 0, B, 4, rfl, h2, h1, hp.cell 2 rfl, hB.cell 4 rfl⟩
  | 3, _ => exact ⟨p, 0, B, 5, rfl, h2, h1, hp.cell 3 rfl, hB.cell 5 rfl⟩
  | 4, _ => exact ⟨p, 0, B, 8, rfl, h2, h1, hp.cell 4 rfl, hB.cell 8 rfl⟩
  | 5, _ => exact ⟨p, 0, B, 9, rfl, h2, h1, hp.cell 5 rfl, hB.cell 9 rfl⟩
  | 6, _ => exact ⟨p, 0, B, 10, rfl, h2, h1, hp.cell 6 rfl, hB.cell 10 rfl⟩
  | 7, _ => exact ⟨p, 0, B, 11, rfl, h2, h1, hp.cell 7 rfl, hB.cell 11 rfl⟩
  | 8, _ => exact ⟨p, 0, B, 12, rfl, h2, h1, hp.cell 8 rfl, hB.cell 12 rfl⟩
theorem PtrsAt.two {w : World} {Pr : Nat → Prop} {b p : Nat} {x y : Int} (hB : Own w b #[.int .i64 x, .int .i64 y]) (hp : Own w p #[.pointer (some ⟨b, 0, none⟩), .pointer (some ⟨b, 1, none⟩)]) (h1 : Pr b) (h2 : Pr p) : PtrsAt w Pr (some ⟨p, 0, none⟩) [x, y] := fun k hk => by
  have hk2 : k < 2 := hk
  match k, hk2 with
  | 0, _ => exact ⟨p, 0, b, 0, rfl, h2, h1, hp.cell 0 rfl, hB.cell 0 rfl⟩
  | 1, _ => exact ⟨p, 0, b, 1, rfl, h2, h1, hp.cell 1 rfl, hB.cell 1 rfl⟩
theorem wireEachN {Pr : Nat → Prop} {g n : Nat} {l : List Nat} {w0 : World} (xs : List Int) (hn : n = xs.length) (A : Option Addr) (cap : Nat) (w : World) (h : Pen Pr g l w0 w) (hA : PtrsAt w0 Pr A xs) (hl : l.length + 8 * xs.length ≤ 100000) :
    Calls Try.prog 25 #[.func (.func 26) #[.pointer (some ⟨g, 0, none⟩)] #[], .slice A n cap] w fun e w' => e = .returned (.tuple #[]) ∧ Pen Pr g (l ++ Wire.eights xs) w0 w' := by
  subst hn
  exact wireEach xs A cap w h hA hl
theorem bytes_of_row {w : World} {B : Nat} {e : TypeId} {c cap : Nat} {l : List Nat} (h : w.ownsRow B e 1 (.slice (some ⟨c, 0, none⟩) l.length cap) l.length (u8s l)) : BytesAt w (some ⟨c, 0, none⟩) l := by
  obtain ⟨A, cp, e1, _, hr⟩ := RowAt.of_own h
  cases e1
  exact hr.bytes
/-- What each operation of Encode's first region leaves. -/
def VM3 (B : Nat) (kind frm fl len : Int) (n : Nat) (vm : Value) (A : Option Addr) (cap : Nat) (w : World) (v : Value) : Nat → Prop
  | 0 => v = .pointer (some ⟨B, 0, none⟩)
  | 1 => v = .int .i64 kind
  | 2 => v = .int .u8 kind
  | 3 => v = .pointer (some ⟨B, 1, none⟩)
  | 4 => v = .int .i64 frm
  | 5 => v = .int .u8 frm
  | 6 => v = vm
  | 7 => v = .int .u8 fl
  | 8 => v = .pointer (some ⟨B, 13, none⟩)
  | 9 => v = .slice A n cap
  | 10 => v = .int .i64 len
  | 11 => v = .int .u8 len
  | 12 => ∃ h, v = .slice (some ⟨h, 0, none⟩) 4 4 ∧ w.heap[h]? = some (.cells #[.int .u8 kind, .int .u8 frm, .int .u8 fl, .int .u8 len] 5 (0, 0)) ∧ B < h
  | 13 => ∃ h, v = .agg #[.slice (some ⟨h, 0, none⟩) 4 4] ∧ w.heap[h]? = some (.cells #[.int .u8 kind, .int .u8 frm, .int .u8 fl, .int .u8 len] 5 (0, 0)) ∧ B < h
  | _ => ∃ h, v = .pointer (some ⟨h, 0, none⟩) ∧ Own w h #[.slice none 0 0] ∧ B < h
def VC3 (B : Nat) (kind frm fl len : Int) (n : Nat) (vm : Value) (A : Option Addr) (cap : Nat) (i : Nat) (v : Value) (w : World) : Prop := ∀ w', Ok w w' → VM3 B kind frm fl len n vm A cap w' v i
theorem zeroWriter (w : World) : Sem.run Try.prog (zeroValue 51) w = .ok (.agg #[.slice none 0 0]) w := by kernel_rfl
set_option maxHeartbeats 1600000 in
theorem wireEncodeBad (m : Msg) (A : Option Addr) (cap : Nat) (w : World) (h : PairsAt w A m.table) (hl : m.table.length ≤ 9223372036854775807) (hg : Wire.good m = false) :
    Calls Try.prog 16 #[msgV m A cap] w fun e w' => e = .returned (.tuple #[.string ⟨#[]⟩, .int .i64 1]) ∧ Ok w w' := by
  have hok := Ok.refl w
  have KG := Lib.hid fun W (h : PairsAt W A m.table) => wireGood m A cap W h hl
  rw [hg] at KG
  have H := Lib.hid h
  clear h hg
  unfold msgV at KG ⊢
  go_enter Try.func16, Try.ntmps16
  go_wp2_with ((go_at_call 10; (with_reducible refine (KG.out _ (H.out.alloc _)).mono ?_); rintro e w1 ⟨rfl, hb1⟩; replace hok := (hok.alloc _).trans hb1; clear hb1))
  go_ret2
  exact ⟨rfl, hok⟩
set_option maxHeartbeats 1600000 in
theorem wireEncodeGood (m : Msg) (A : Option Addr) (cap : Nat) (w : World) (h : PairsAt w A m.table) (hg : Wire.good m = true) :
    Calls Try.prog 16 #[msgV m A cap] w fun e w' => e = .returned (.tuple #[.string (strOf (sealL (Wire.frame m))), .int .i64 0]) ∧ Ok w w' := by
  have hok := Ok.refl w
  have hsh := Wire.good_short hg
  have KG := Lib.hid fun W (h : PairsAt W A m.table) => wireGood m A cap W h (by omega)
  rw [hg] at KG
  have H := Lib.hid h
  have KF := Lib.hid fun W => wireFlags m A cap W
  have HFL := Lib.hid (Wire.frame_lt hg)
  have hk : 0 ≤ m.kind ∧ m.kind ≤ 2 ∧ 0 ≤ m.frm ∧ m.frm ≤ 47 := by
    simp only [Wire.good, Wire.goodN, Bool.and_eq_true, decide_eq_true_eq] at hg; omega
  obtain ⟨hk0, hk1, hf0, hf1⟩ := hk
  have hmf : ∀ (fn : Fn) (first cap : Array Value) (w : World), (Instr.makeFunc fn first cap).run Try.prog w = .ok (.func fn first cap) w := fun _ _ _ _ => rfl
  have u1 : IntKind.u8.wrap m.kind = m.kind := by rw [show IntKind.u8.wrap m.kind = m.kind % 256 from rfl]; omega
  have u2 : IntKind.u8.wrap m.frm = m.frm := by rw [show IntKind.u8.wrap m.frm = m.frm % 256 from rfl]; omega
  have u3 : IntKind.u8.wrap (m.table.length : Int) = (m.table.length : Int) := by rw [show IntKind.u8.wrap (m.table.length : Int) = (m.table.length : Int) % 256 from rfl]; omega
  have hfl : Wire.flags m < 4 := by unfold Wire.flags; cases m.good <;> cases m.ref <;> decide
  have HHD := Lib.hid (show (#[.int .u8 m.kind, .int .u8 m.frm, .int .u8 (Wire.flags m : Nat), .int .u8 (m.table.length : Int)] : Array Value).toList = u8s (Wire.head m) by
    simp only [Wire.head, u8s, List.map_cons, List.map_nil, Int.toNat_of_nonneg hk0, Int.toNat_of_nonneg hf0])
  clear h hg hk0 hk1 hf0 hf1
  have HOwn0 := Lib.hid (Own.new w (msgCells m A cap) 28 rfl)
  have hvm : msgV m A cap = .agg (msgCells m A cap) := rfl
  go_enter Try.func16, Try.ntmps16
  rw [hvm]
  unfold msgV at KG
  unfold msgCells
  go_upto_region 3 with ((go_at_call 10; (with_reducible refine (KG.out _ (H.out.alloc _)).mono ?_); rintro e w1 ⟨rfl, hb1⟩; have hO := HOwn0.out.next hb1; replace hok := (hok.alloc _).trans hb1; clear hb1))
  clear HOwn0 hvm KG
  have hBw : w.heap.size < w1.heap.size := hO.lt
  obtain ⟨B, hB⟩ : ∃ B, w.heap.size = B := ⟨_, rfl⟩
  rw [hB] at hO hBw ⊢
  have HBW := Lib.hid hB
  have HO := Lib.hid fun W (k : Ok w1.drew W) => hO.drew.next k
  have HO1 := Lib.hid hO
  clear hO hB
  obtain ⟨vm, hvm⟩ : ∃ v, msgV m A cap = v := ⟨_, rfl⟩
  have KF' : Hid (∀ W, Calls Try.prog 24 #[vm] W fun e w' => e = .returned (.int .u8 (Wire.flags m : Nat)) ∧ Ok W w') := by rw [← hvm]; exact KF
  obtain ⟨fl, hfle⟩ : ∃ n, Wire.flags m = n := ⟨_, rfl⟩
  rw [hfle] at hfl KF' HHD
  clear KF hfle
  refine wp_region_facts_last (by kernel_rfl) 42 rfl (VC3 B m.kind m.frm (fl : Int) (m.table.length : Int) m.table.length vm A cap) Ok _ rfl _ 15 rfl rfl rfl rfl (by kernel_rfl) (by kernel_rfl) (by kernel_rfl) (fun i v w w' h k w'' k' => h w'' (k.trans k')) (fun a b c => Ok.trans) (Ok.refl _) [some 10, some 11, some 12, some 13, some 14, some 15, some 16, some 17, some 18, some 19, some 20, some 21, some 22, some 23, some 4] rfl ⟨?_, ?_, ?_, ?_, ?_, ?_, ?_, ?_, ?_, ?_, ?_, ?_, ?_, ?_, ?_, trivial⟩ ?_
  · intro a' w' hF hR
    have e1 : a'.tmps[1]? = some (.pointer (some ⟨B, 0, none⟩)) := hF.slot 1 (by kernel_rfl) rfl
    refine wpOp_run (v := .pointer (some ⟨B, 0, none⟩)) rfl rfl ?_ (fun _ _ => rfl) (Ok.refl _)
    clear hF
    go_simp
  · intro a' w' hF hR
    obtain ⟨v0, hv0, e10⟩ := hF.get 0 10 (by kernel_rfl) (by kernel_rfl)
    obtain rfl : v0 = _ := hv0 _ (Ok.refl _)
    have c := (HO.out _ hR).cell 0 (v := .int .i64 m.kind) rfl
    refine wpOp_run (v := .int .i64 m.kind) rfl rfl ?_ (fun _ _ => rfl) (Ok.refl _)
    clear hF
    go_simp
  · intro a' w' hF hR
    obtain ⟨v1, hv1, e11⟩ := hF.get 1 11 (by kernel_rfl) (by kernel_rfl)
    obtain rfl : v1 = _ := hv1 _ (Ok.refl _)
    refine wpOp_run (v := .int .u8 m.kind) rfl rfl ?_ (fun _ _ => rfl) (Ok.refl _)
    clear hF
    go_simp
  · intro a' w' hF hR
    have e1 : a'.tmps[1]? = some (.pointer (some ⟨B, 0, none⟩)) := hF.slot 1 (by kernel_rfl) rfl
    refine wpOp_run (v := .pointer (some ⟨B, 1, none⟩)) rfl rfl ?_ (fun _ _ => rfl) (Ok.refl _)
    clear hF
    go_simp
  · intro a' w' hF hR
    obtain ⟨v3, hv3, e13⟩ := hF.get 3 13 (by kernel_rfl) (by kernel_rfl)
    obtain rfl : v3 = _ := hv3 _ (Ok.refl _)
    have c := (HO.out _ hR).cell 1 (v := .int .i64 m.frm) rfl
    refine wpOp_run (v := .int .i64 m.frm) rfl rfl ?_ (fun _ _ => rfl) (Ok.refl _)
    clear hF
    go_simp
  · intro a' w' hF hR
    obtain ⟨v4, hv4, e14⟩ := hF.get 4 14 (by kernel_rfl) (by kernel_rfl)
    obtain rfl : v4 = _ := hv4 _ (Ok.refl _)
    refine wpOp_run (v := .int .u8 m.frm) rfl rfl ?_ (fun _ _ => rfl) (Ok.refl _)
    clear hF
    go_simp
  · intro a' w' hF hR
    have e1 : a'.tmps[1]? = some (.pointer (some ⟨B, 0, none⟩)) := hF.slot 1 (by kernel_rfl) rfl
    obtain ⟨c0, c1, c2, c3, c4, c5, c6, c7, c8, c9, c10, c11, c12, c13, hl, -⟩ := MB.of_own (HO.out _ hR) (Ok.refl w')
    refine wpOp_run (v := vm) rfl rfl ?_ (fun _ _ => rfl) (Ok.refl _)
    clear hF
    rw [← hvm]
    unfold msgV
    go_simp
  · intro a' w' hF hR
    obtain ⟨v6, hv6, e16⟩ := hF.get 6 16 (by kernel_rfl) (by kernel_rfl)
    have q6 : v6 = vm := hv6 _ (Ok.refl _)
    rw [q6] at e16
    clear hF
    refine wpOp_call (f := 24) (args := #[vm]) rfl rfl ?_ ((KF'.out _).mono ?_)
    · go_simp
    · rintro e w2 ⟨rfl, hb2⟩
      exact ⟨_, rfl, fun _ _ => rfl, hb2⟩
  · intro a' w' hF hR
    have e1 : a'.tmps[1]? = some (.pointer (some ⟨B, 0, none⟩)) := hF.slot 1 (by kernel_rfl) rfl
    refine wpOp_run (v := .pointer (some ⟨B, 13, none⟩)) rfl rfl ?_ (fun _ _ => rfl) (Ok.refl _)
    clear hF
    go_simp
  · intro a' w' hF hR
    obtain ⟨v8, hv8, e18⟩ := hF.get 8 18 (by kernel_rfl) (by kernel_rfl)
    obtain rfl : v8 = _ := hv8 _ (Ok.refl _)
    have c := (HO.out _ hR).cell 13 (v := .slice A m.table.length cap) rfl
    refine wpOp_run (v := .slice A m.table.length cap) rfl rfl ?_ (fun _ _ => rfl) (Ok.refl _)
    clear hF
    go_simp
  · intro a' w' hF hR
    obtain ⟨v9, hv9, e19⟩ := hF.get 9 19 (by kernel_rfl) (by kernel_rfl)
    obtain rfl : v9 = _ := hv9 _ (Ok.refl _)
    refine wpOp_run (v := .int .i64 (m.table.length : Int)) rfl rfl ?_ (fun _ _ => rfl) (Ok.refl _)
    clear hF
    go_simp
  · intro a' w' hF hR
    obtain ⟨v10, hv10, e20⟩ := hF.get 10 20 (by kernel_rfl) (by kernel_rfl)
    obtain rfl : v10 = _ := hv10 _ (Ok.refl _)
    refine wpOp_run (v := .int .u8 (m.table.length : Int)) rfl rfl ?_ (fun _ _ => rfl) (Ok.refl _)
    clear hF
    go_simp
  · intro a' w' hF hR
    obtain ⟨v2, hv2, e12⟩ := hF.get 2 12 (by kernel_rfl) (by kernel_rfl)
    obtain rfl : v2 = _ := hv2 _ (Ok.refl _)
    obtain ⟨v5, hv5, e15⟩ := hF.get 5 15 (by kernel_rfl) (by kernel_rfl)
    obtain rfl : v5 = _ := hv5 _ (Ok.refl _)
    obtain ⟨v7, hv7, e17⟩ := hF.get 7 17 (by kernel_rfl) (by kernel_rfl)
    obtain rfl : v7 = _ := hv7 _ (Ok.refl _)
    obtain ⟨v11, hv11, e21⟩ := hF.get 11 21 (by kernel_rfl) (by kernel_rfl)
    obtain rfl : v11 = _ := hv11 _ (Ok.refl _)
    have hlt : B < w'.heap.size := Nat.lt_of_lt_of_le hBw hR.size
    refine wpOp_run (v := .slice (some ⟨w'.heap.size, 0, none⟩) 4 4) (w' := w'.alloc (.cells #[.int .u8 m.kind, .int .u8 m.frm, .int .u8 (fl : Int), .int .u8 (m.table.length : Int)] 5)) rfl rfl ?_ (fun w'' k => ⟨_, rfl, heap_kept k (heap_alloc_new _ _), hlt⟩) ((Ok.refl _).alloc _)
    clear hF
    go_simp
  · intro a' w' hF hR
    obtain ⟨v12, hv12, e22⟩ := hF.get 12 22 (by kernel_rfl) (by kernel_rfl)
    obtain ⟨h, rfl, hh, hbh⟩ := hv12 _ (Ok.refl _)
    refine wpOp_run (v := .agg #[.slice (some ⟨h, 0, none⟩) 4 4]) rfl rfl ?_ (fun w'' k => ⟨_, rfl, heap_kept k hh, hbh⟩) (Ok.refl _)
    have hz := zeroWriter w'
    clear hF
    go_simp
  · intro a' w' hF hR
    have hlt : B < w'.heap.size := Nat.lt_of_lt_of_le hBw hR.size
    refine wpOp_run (v := .pointer (some ⟨w'.heap.size, 0, none⟩)) (w' := w'.alloc (.cells #[.slice none 0 0] 51)) rfl rfl ?_ (fun w'' k => ⟨_, rfl, (Own.new _ _ _ rfl).next k, hlt⟩) ((Ok.refl _).alloc _)
    have hz := zeroWriter w'
    clear hF
    go_simp
  intro vs W hvs hR
  obtain ⟨h, e13, hh, hbh⟩ := hvs 13 (by decide) _ (Ok.refl _)
  obtain ⟨g, e14, hOg, hbg⟩ := hvs 14 (by decide) _ (Ok.refl _)
  have hOB := HO.out _ hR
  have hokW : Ok w W := hok.trans ((Ok.refl w1).drew.trans hR)
  clear hvs KF' u1 u2 u3 HO hvm
  have hhg : h ≠ g := by
    rintro rfl
    obtain ⟨t, ht⟩ := hOg.blk
    rw [hh] at ht
    simp at ht
  have cg := hOg.cell 0 (v := .slice none 0 0) rfl
  have fg := hOg.frozen 0
  simp only [putFrom, e13, e14]
  simp only [Act.put, List.setIfInBounds_toArray, List.set_cons_zero, List.set_cons_succ]
  refine wpOp_do (w' := W.setCell ⟨g, 0, none⟩ (.slice (some ⟨h, 0, none⟩) 4 4)) rfl rfl rfl ?_ ?_
  · go_simp
  have hPen : Pen (fun q => q ≤ B) g (Wire.head m) (W.setCell ⟨g, 0, none⟩ (.slice (some ⟨h, 0, none⟩) 4 4)) (W.setCell ⟨g, 0, none⟩ (.slice (some ⟨h, 0, none⟩) 4 4)) := by
    refine ⟨rfl, rfl, rfl, Nat.le_refl _, fun q hq => ⟨?_, by omega, rfl⟩, h, 4, hOg.set 0 _, ⟨by rw [u8s_length]; rfl, .inr ⟨h, 4, _, rfl, Nat.zero_le _, (Below.heap_setCell W ⟨g, 0, none⟩ _ h hhg).trans hh, Nat.le_refl _, by decide, rfl, ?_⟩⟩, hhg, by omega⟩
    · have := hOB.lt
      have e : (W.setCell ⟨g, 0, none⟩ (.slice (some ⟨h, 0, none⟩) 4 4)).heap.size = W.heap.size := by simp
      omega
    · rw [HHD.out]
      exact List.take_of_length_le (by rw [u8s_length]; exact Nat.le_refl _)
  have hokP : Ok w (W.setCell ⟨g, 0, none⟩ (.slice (some ⟨h, 0, none⟩) 4 4)) := hokW.setCell (by have := HBW.out; show w.heap.size ≤ g; omega) _
  have hOP : Own (W.setCell ⟨g, 0, none⟩ (.slice (some ⟨h, 0, none⟩) 4 4)) B (msgCells m A cap) := hOB.setOther (by show B ≠ g; omega) _
  generalize W.setCell ⟨g, 0, none⟩ (.slice (some ⟨h, 0, none⟩) 4 4) = W2 at hPen hokP hOP ⊢
  clear hOg hOB hokW cg fg hh HHD hR hhg hbh hfl e13 e14
  generalize vs (0 + 1 + 1 + 1 + 1 + 1 + 1 + 1 + 1 + 1 + 1 + 1 + 1) = x12
  generalize vs (0 + 1 + 1 + 1 + 1 + 1 + 1 + 1 + 1 + 1 + 1 + 1) = x11
  generalize vs (0 + 1 + 1 + 1 + 1 + 1 + 1 + 1 + 1 + 1 + 1) = x10
  generalize vs (0 + 1 + 1 + 1 + 1 + 1 + 1 + 1 + 1 + 1) = x9
  generalize vs (0 + 1 + 1 + 1 + 1 + 1 + 1 + 1 + 1) = x8
  generalize vs (0 + 1 + 1 + 1 + 1 + 1 + 1 + 1) = x7
  generalize vs (0 + 1 + 1 + 1 + 1 + 1 + 1) = x6
  generalize vs (0 + 1 + 1 + 1 + 1 + 1) = x5
  generalize vs (0 + 1 + 1 + 1 + 1) = x4
  generalize vs (0 + 1 + 1 + 1) = x3
  generalize vs (0 + 1 + 1) = x2
  generalize vs (0 + 1) = x1
  generalize vs 0 = x0
  clear vs
  have KP := Lib.hid fun W => wireFields B W
  have hBg : B ≠ g := by omega
  have HW2 := Lib.hid hOP.lt
  have HP2 := Lib.hid hPen
  have HB2 := Lib.hid hOP
  clear hPen hOP
  have KEE := Lib.hid fun (w3 : World) (p : Nat) (hpw : W2.heap.size ≤ p) (hOp : Own w3 p #[.pointer (some ⟨B, 2, none⟩), .pointer (some ⟨B, 3, none⟩), .pointer (some ⟨B, 4, none⟩), .pointer (some ⟨B, 5, none⟩), .pointer (some ⟨B, 8, none⟩), .pointer (some ⟨B, 9, none⟩), .pointer (some ⟨B, 10, none⟩), .pointer (some ⟨B, 11, none⟩), .pointer (some ⟨B, 12, none⟩)]) (hb3 : Ok W2 w3) =>
    wireEachN (Pr := fun q => q ≤ B ∨ q = p) (n := 9) (Wire.nine m) rfl (some ⟨p, 0, none⟩) 9 w3 (HP2.out.again hb3 (fun q hq => by
      have h1 := HW2.out
      have h2 := hOp.lt
      have h3 := hb3.size
      refine ⟨by omega, ?_⟩
      rcases hq with hq | hq
      · exact .inl hq
      · right; omega)) (PtrsAt.nine (HB2.out.next hb3) hOp (.inl (Nat.le_refl _)) (.inr rfl)) (show 4 + 8 * 9 ≤ 100000 by decide)
  go_wp2_with (first | (go_at_call 27; (with_reducible refine (KP.out _).mono ?_); rintro e w3 ⟨p, rfl, hpw, hOp, hb3⟩; have KE := Lib.hid (KEE.out _ _ hpw hOp hb3); clear KEE) | (go_at_call 25; (with_reducible refine KE.out.mono ?_); rintro e w4 ⟨rfl, hP4⟩; have hP5 := HP2.out.trans hb3 hP4 (fun q hq => .inl hq); have c13 := (hP5.cell (a := ⟨B, 13, none⟩) (Nat.le_refl _)).trans (HB2.out.cell 13 (v := .slice A m.table.length cap) rfl); clear hP4))
  have HF := Lib.hid (show Wire.frame m = Wire.head m ++ Wire.eights (Wire.nine m) ++ Wire.eights (Wire.flat m.table) from rfl)
  have HLL := Lib.hid (show (Wire.head m ++ Wire.eights (Wire.nine m)).length = 76 by rw [List.length_append, Wire.eights_length]; rfl)
  obtain ⟨L, hL⟩ : ∃ L, Wire.head m ++ Wire.eights (Wire.nine m) = L := ⟨_, rfl⟩
  rw [hL] at hP5 HF HLL
  clear hOp hb3 hpw hL KP HO1 hok
  go_loopw [30] (fun i wx => ∃ k : Nat, k ≤ m.table.length ∧ i = .int .i64 k ∧ Pen (fun q => q ≤ B) g (L ++ Wire.eights (Wire.flat (m.table.take k))) W2 wx) (fun i _ => m.table.length - (intOf i).toNat)
  case atStart => exact ⟨0, Nat.zero_le _, rfl, by simpa [Wire.flat, Wire.eights] using hP5⟩
  case round =>
    clear hP5 c13 KE
    obtain ⟨k, hkl, rfl, hP⟩ := hrel
    have hokR := hP.ok hokP (fun q hq => by have := HBW.out; show q ≤ B; omega)
    by_cases hlt : k < m.table.length
    · obtain ⟨b, off, hA, hbs, c1, c2⟩ := H.out.below hokR k hlt
      subst hA
      have hst : L ++ Wire.eights (Wire.flat (m.table.take k)) ++ Wire.eights [m.table[k].1, m.table[k].2] = L ++ Wire.eights (Wire.flat (m.table.take (k + 1))) := by
        rw [List.take_succ_eq_append_getElem hlt]
        simp only [Wire.flat, Wire.eights, List.flatMap_append, List.flatMap_cons, List.flatMap_nil, List.append_nil, List.append_assoc]
      have HST := Lib.hid hst
      have hll : (L ++ Wire.eights (Wire.flat (m.table.take k))).length ≤ 1000 := by
        rw [List.length_append, HLL.out, Wire.eights_length, Wire.flat_length, List.length_take]; omega
      obtain ⟨x, h4⟩ : ∃ s, m.table[k].1 = s := ⟨_, rfl⟩
      obtain ⟨y, h5⟩ : ∃ s, m.table[k].2 = s := ⟨_, rfl⟩
      rw [h4] at c1 HST
      rw [h5] at c2 HST
      have hgr := hP.lt
      have HPR := Lib.hid hP
      have KY := Lib.hid fun W => wireEntry wr.heap.size W
      have KZ := Lib.hid fun (w3 : World) (p : Nat) (hpw : (wr.alloc (.cells #[.int .i64 x, .int .i64 y] 45)).heap.size ≤ p) (hOp : Own w3 p #[.pointer (some ⟨wr.heap.size, 0, none⟩), .pointer (some ⟨wr.heap.size, 1, none⟩)]) (hb3 : Ok (wr.alloc (.cells #[.int .i64 x, .int .i64 y] 45)) w3) =>
        wireEachN (Pr := fun q => q ≤ B ∨ q = wr.heap.size ∨ q = p) (n := 2) [x, y] rfl (some ⟨p, 0, none⟩) 2 w3 (HPR.out.again (((Ok.refl wr).alloc _).trans hb3) (fun q hq => by
          have h2 := hOp.lt
          have h3 := hb3.size
          have h6 : (wr.alloc (.cells #[.int .i64 x, .int .i64 y] 45)).heap.size = wr.heap.size + 1 := by simp
          refine ⟨by omega, ?_⟩
          rcases hq with hq | hq | hq
          · exact .inl hq
          · right; omega
          · right; omega)) (PtrsAt.two ((Own.new wr #[.int .i64 x, .int .i64 y] 45 rfl).next hb3) hOp (.inr (.inl rfl)) (.inr (.inr rfl))) (by show _ + 8 * 2 ≤ 100000; omega)
      clear h4 h5 hst hP hokR
      go_wp2_with (first | (go_at_call 28; (with_reducible refine (KY.out _).mono ?_); rintro e w3 ⟨p, rfl, hpw, hOp, hb3⟩; have KE := Lib.hid (KZ.out _ _ hpw hOp hb3); clear KZ) | (go_at_call 25; (with_reducible refine KE.out.mono ?_); rintro e w4 ⟨rfl, hP4⟩))
      go_roundw
      case rel => exact ⟨k + 1, by omega, by go_num, by rw [← HST.out]; exact HPR.out.trans (((Ok.refl wr).alloc _).trans hb3) hP4 (fun q hq => .inl hq)⟩
      case measure => simp [intOf]; omega
    · obtain rfl : k = m.table.length := by omega
      rw [List.take_length, ← HF.out] at hP
      obtain ⟨F, hFr⟩ : ∃ F, Wire.frame m = F := ⟨_, rfl⟩
      have hFl : F.length ≤ 588 := by rw [← hFr, Wire.frame_length]; omega
      rw [hFr] at hP HFL
      have HFE := Lib.hid hFr
      clear hFr
      obtain ⟨c, cp, hO, hr, -, -⟩ := hP.row
      have c0 := hO.cell 0 (v := .slice (some ⟨c, 0, none⟩) F.length cp) rfl
      have KS := Lib.hid (crcSeal (some ⟨c, 0, none⟩) F cp wr (bytes_of_row hr) HFL.out (by omega))
      have KC := Lib.hid fun (w' : World) (g5 : Nat) (hg5 : Own w' g5 (u8s (sealL F)).toArray) => run_bytes_string (P := Try.prog) (src := 41) (dst := 9) Try.underlying41 Try.underlying5 Try.underlying9 hg5.bytes (sealL_lt HFL.out) (n := F.length + 4) (sealL_length F).symm (F.length + 4)
      clear hO hr hP HF H hlt hFl
      go_wp2_with ((go_at_call 29; (with_reducible refine KS.out.mono ?_); rintro e w5 ⟨g5, rfl, hgw, hO5, hb5⟩; have hcv := KC.out _ _ hO5; clear KC; replace hokR := hokR.trans hb5; clear hb5))
      go_ret2
      exact ⟨by rw [HFE.out]; rfl, hokR⟩
/-- Encode, whatever is handed in. -/
theorem wireEncode (m : Msg) (A : Option Addr) (cap : Nat) (w : World) (h : PairsAt w A m.table) (hl : m.table.length ≤ 9223372036854775807) :
    Calls Try.prog 16 #[msgV m A cap] w fun e w' => e = .returned (.tuple #[.string (encS m), .int .i64 (encE m)]) ∧ Ok w w' := by
  unfold encS encE
  cases hg : Wire.good m with
  | true => exact wireEncodeGood m A cap w h hg
  | false => exact wireEncodeBad m A cap w h hl hg
end Go.Proofs.Ytacnoakbcilmfaa
