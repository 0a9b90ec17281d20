/- Contracts of layer 6: the document's Encode. -/
import Derived.Test.YtacnoakbcilmfaaC06c
import Derived.Deep.RegionHeld3
import Derived.Deep.DrawnRows
import Derived.Deep.CutRange
namespace Go.Proofs.Ytacnoakbcilmfaa
open Go.RowKit
set_option maxRecDepth 100000
attribute [local go_sem ↓] Go.wp_at_zero Go.wp_at_succ
/-- What Encode answers. -/
def encS (m : Msg) : ByteArray := if Wire.good m then strOf (sealL (Wire.frame m)) else ⟨#[]⟩
def encE (m : Msg) : Int := if Wire.good m then 0 else 1
set_option maxHeartbeats 1600000 in
theorem ref6EncodeBad (m : Msg) (A : Option Addr) (cap : Nat) (w : World) (h : PairsAt w A m.table) (hl : m.table.length ≤ 9223372036854775807) (hg : Wire.good m = false) :
    Calls Try.prog 17 #[msgV m A cap] w fun e w' => e = .returned (.tuple #[.string ⟨#[]⟩, .int .i64 1]) ∧ Ok w w' := by
  have hok := Ok.refl w
  have KG := Lib.hid fun W (h : PairsAt W A m.table) => ref6Good m A cap W h hl
  rw [hg] at KG
  have H := Lib.hid h
  clear h hg
  unfold msgV at KG ⊢
  go_enter Try.func17, Try.ntmps17
  go_wp2_with ((go_at_call 12; (with_reducible refine (KG.out _ (H.out.alloc _)).mono ?_); rintro e w1 ⟨rfl, hb1⟩; replace hok := (hok.alloc _).trans hb1; clear hb1))
  go_ret2
  exact ⟨rfl, hok⟩
/-- The cells of a message's numbers in a block. -/
def MsgBox (w : World) (g : Nat) (m : Msg) (w' : World) : Prop := Ok w w' ∧ w'.cell? ⟨g, 2, none⟩ = some (.int .i64 m.lo) ∧ w'.cell? ⟨g, 3, none⟩ = some (.int .i64 m.hi) ∧ w'.cell? ⟨g, 4, none⟩ = some (.int .i64 m.held) ∧ w'.cell? ⟨g, 5, none⟩ = some (.int .i64 m.hops) ∧
  w'.cell? ⟨g, 8, none⟩ = some (.int .i64 m.slo) ∧ w'.cell? ⟨g, 9, none⟩ = some (.int .i64 m.shi) ∧ w'.cell? ⟨g, 10, none⟩ = some (.int .i64 m.pulse) ∧ w'.cell? ⟨g, 11, none⟩ = some (.int .i64 m.time) ∧ w'.cell? ⟨g, 12, none⟩ = some (.int .i64 m.num)
namespace MsgBox
variable {w w' w2 : World} {g : Nat} {m : Msg}
theorem of_own {A : Option Addr} {cap : Nat} (h : Own w g (msgCells m A cap)) (k : Ok w w') : MsgBox w g m w' := by
  have h' := h.next k
  exact ⟨k, h'.cell 2 rfl, h'.cell 3 rfl, h'.cell 4 rfl, h'.cell 5 rfl, h'.cell 8 rfl, h'.cell 9 rfl, h'.cell 10 rfl, h'.cell 11 rfl, h'.cell 12 rfl⟩
theorem step (hK : ∀ w', Ok w w' → MsgBox w g m w') (h : MsgBox w g m w') (k : Ok w' w2) : MsgBox w g m w2 := hK _ (h.1.trans k)
theorem drew (hK : ∀ w', Ok w w' → MsgBox w g m w') (h : MsgBox w g m w') : MsgBox w g m w'.drew := hK _ h.1.drew
end MsgBox
set_option maxHeartbeats 1600000 in
theorem ref6EncodeGood (m : Msg) (A : Option Addr) (cap : Nat) (w : World) (h : PairsAt w A m.table) (hg : Wire.good m = true) :
    Calls Try.prog 17 #[msgV m A cap] w fun e w' => e = .returned (.tuple #[.string (strOf (sealL (Wire.frame m))), .int .i64 0]) ∧ Ok w w' := by
  have hok := Ok.refl w
  have hsh := Wire.good_short hg
  have KG := Lib.hid fun W (h : PairsAt W A m.table) => ref6Good m A cap W h (by omega)
  rw [hg] at KG
  have H := Lib.hid h
  have hbd := Wire.good_bd hg
  have k1 := Lib.hid fun w => ref6eight m.lo w (hbd m.lo (by simp [Wire.nine])).1 (hbd m.lo (by simp [Wire.nine])).2
  have k2 := Lib.hid fun w => ref6eight m.hi w (hbd m.hi (by simp [Wire.nine])).1 (hbd m.hi (by simp [Wire.nine])).2
  have k3 := Lib.hid fun w => ref6eight m.held w (hbd m.held (by simp [Wire.nine])).1 (hbd m.held (by simp [Wire.nine])).2
  have k4 := Lib.hid fun w => ref6eight m.hops w (hbd m.hops (by simp [Wire.nine])).1 (hbd m.hops (by simp [Wire.nine])).2
  have k5 := Lib.hid fun w => ref6eight m.slo w (hbd m.slo (by simp [Wire.nine])).1 (hbd m.slo (by simp [Wire.nine])).2
  have k6 := Lib.hid fun w => ref6eight m.shi w (hbd m.shi (by simp [Wire.nine])).1 (hbd m.shi (by simp [Wire.nine])).2
  have k7 := Lib.hid fun w => ref6eight m.pulse w (hbd m.pulse (by simp [Wire.nine])).1 (hbd m.pulse (by simp [Wire.nine])).2
  have k8 := Lib.hid fun w => ref6eight m.time w (hbd m.time (by simp [Wire.nine])).1 (hbd m.time (by simp [Wire.nine])).2
  have k9 := Lib.hid fun w => ref6eight m.num w (hbd m.num (by simp [Wire.nine])).1 (hbd m.num (by simp [Wire.nine])).2
  have KT := Lib.hid fun (e : Int × Int) (he : e ∈ m.table) => (⟨fun w => ref6eight e.1 w (hbd e.1 (List.mem_append_right _ (List.mem_flatMap.2 ⟨e, he, by simp⟩))).1 (hbd e.1 (List.mem_append_right _ (List.mem_flatMap.2 ⟨e, he, by simp⟩))).2,
    fun w => ref6eight e.2 w (hbd e.2 (List.mem_append_right _ (List.mem_flatMap.2 ⟨e, he, by simp⟩))).1 (hbd e.2 (List.mem_append_right _ (List.mem_flatMap.2 ⟨e, he, by simp⟩))).2⟩ : _ ∧ _)
  have KS := Lib.hid fun W => ref5Seal (strOf (Wire.frame m)) W (by rw [strOf_size, Wire.frame_length]; unfold maxLen; omega)
  rw [strL_strOf (Wire.frame_lt hg)] at KS
  have hk : 0 ≤ m.kind ∧ m.kind ≤ 2 ∧ 0 ≤ m.frm ∧ m.frm ≤ 47 := by
    simp only [Wire.good, Wire.goodN, Bool.and_eq_true, decide_eq_true_eq] at hg; omega
  clear h hg hbd
  unfold msgV at KG ⊢
  go_enter Try.func17, Try.ntmps17
  go_upto_region 3 with ((go_at_call 12; (with_reducible refine (KG.out _ (H.out.alloc _)).mono ?_); rintro e w1 ⟨rfl, hb1⟩; have hO := (Own.new w (msgCells m A cap) 28 rfl).next hb1; replace hok := (hok.alloc _).trans hb1; clear hb1))
  have b0 := hO.cell 0 (v := .int .i64 m.kind) rfl
  have b1 := hO.cell 1 (v := .int .i64 m.frm) rfl
  have b6 := hO.cell 6 (v := .bool m.good) rfl
  have b7 := hO.cell 7 (v := .bool m.ref) rfl
  have b13 := hO.cell 13 (v := .slice A m.table.length cap) rfl
  have HO := Lib.hid hO
  clear hO
  obtain ⟨hk0, hk1, hf0, hf1⟩ := hk
  obtain ⟨fl, hfl⟩ : ∃ fl : Nat, Wire.flags m = fl := ⟨_, rfl⟩
  obtain ⟨gd, hgd⟩ : ∃ g : Nat, (if m.good then 1 else 0) = g := ⟨_, rfl⟩
  have hgb : gd ≤ 1 := by rw [← hgd]; split <;> decide
  have HFL := Lib.hid hfl
  have HGD := Lib.hid hgd
  clear hfl hgd
  go_upto_if 12 with (fail)
  go_cut [4] from 13 to 14 (fun s wx => s = .int .u8 (gd : Int) ∧ w1 = wx)
  case first =>
    go_wp2_with fail
    all_goals
      go_meet
      refine ⟨?_, rfl⟩
      rw [← HGD.out]
      simp [*]
  case rest =>
  obtain ⟨rfl, rfl⟩ := hcut
  go_upto_if 16 with (fail)
  go_cut [4] from 17 to 18 (fun s wx => s = .int .u8 (fl : Int) ∧ w1 = wx)
  case first =>
    go_wp2_with fail
    all_goals
      go_meet
      refine ⟨?_, rfl⟩
      rw [← HFL.out, ← HGD.out]
      unfold Wire.flags
      simp [*]
  case rest =>
  obtain ⟨rfl, rfl⟩ := hcut
  have hfl := HFL.out
  have hcv := run_bytes_string (P := Try.prog) (src := 41) (dst := 9) Try.underlying41 Try.underlying5 Try.underlying9 (BytesAt.new w1 (Wire.head m) 5 #[.int .u8 m.kind, .int .u8 m.frm, .int .u8 (fl : Int), .int .u8 (m.table.length : Int)] (by
      simp only [Wire.head, hfl, List.map_cons, List.map_nil, Int.toNat_of_nonneg hk0, Int.toNat_of_nonneg hf0]) rfl) (fun b hb => by
        simp only [Wire.head, List.mem_cons, List.not_mem_nil, or_false] at hb
        have : Wire.flags m < 4 := by unfold Wire.flags; cases m.good <;> cases m.ref <;> decide
        rcases hb with rfl | rfl | rfl | rfl <;> omega) (n := 4) rfl 4
  clear hfl
  go_upto_region 9 with fail
  clear hcv b0 b1 b6 b7 b13
  obtain ⟨W, hW⟩ : ∃ W, W = w1.alloc (.cells #[.int .u8 m.kind, .int .u8 m.frm, .int .u8 (fl : Int), .int .u8 m.table.length] 5) := ⟨_, rfl⟩
  rw [← hW]
  have HOW : Own W w.heap.size (msgCells m A cap) := by rw [hW]; exact HO.out.alloc _
  have hokW : Ok w W := by rw [hW]; exact hok.alloc _
  clear hW HO HFL HGD hgb hk0 hk1 hf0 hf1 hok
  have HK := Lib.hid fun w' (k : Ok W w') => MsgBox.of_own HOW k
  have hS := HK.out W (Ok.refl W)
  obtain ⟨e1, he1⟩ : ∃ e, strOf (Wire.eight m.lo) = e := ⟨_, rfl⟩
  have z1 : e1.size = 8 := by rw [← he1, strOf_size, Wire.eight_length]
  rw [he1] at k1
  obtain ⟨e2, he2⟩ : ∃ e, strOf (Wire.eight m.hi) = e := ⟨_, rfl⟩
  have z2 : e2.size = 8 := by rw [← he2, strOf_size, Wire.eight_length]
  rw [he2] at k2
  obtain ⟨e3, he3⟩ : ∃ e, strOf (Wire.eight m.held) = e := ⟨_, rfl⟩
  have z3 : e3.size = 8 := by rw [← he3, strOf_size, Wire.eight_length]
  rw [he3] at k3
  obtain ⟨e4, he4⟩ : ∃ e, strOf (Wire.eight m.hops) = e := ⟨_, rfl⟩
  have z4 : e4.size = 8 := by rw [← he4, strOf_size, Wire.eight_length]
  rw [he4] at k4
  obtain ⟨e5, he5⟩ : ∃ e, strOf (Wire.eight m.slo) = e := ⟨_, rfl⟩
  have z5 : e5.size = 8 := by rw [← he5, strOf_size, Wire.eight_length]
  rw [he5] at k5
  obtain ⟨e6, he6⟩ : ∃ e, strOf (Wire.eight m.shi) = e := ⟨_, rfl⟩
  have z6 : e6.size = 8 := by rw [← he6, strOf_size, Wire.eight_length]
  rw [he6] at k6
  obtain ⟨e7, he7⟩ : ∃ e, strOf (Wire.eight m.pulse) = e := ⟨_, rfl⟩
  have z7 : e7.size = 8 := by rw [← he7, strOf_size, Wire.eight_length]
  rw [he7] at k7
  obtain ⟨e8, he8⟩ : ∃ e, strOf (Wire.eight m.time) = e := ⟨_, rfl⟩
  have z8 : e8.size = 8 := by rw [← he8, strOf_size, Wire.eight_length]
  rw [he8] at k8
  obtain ⟨e9, he9⟩ : ∃ e, strOf (Wire.eight m.num) = e := ⟨_, rfl⟩
  have z9 : e9.size = 8 := by rw [← he9, strOf_size, Wire.eight_length]
  rw [he9] at k9
  obtain ⟨r0, hr0⟩ : ∃ e, strOf (Wire.head m) = e := ⟨_, rfl⟩
  have z0 : r0.size = 4 := by rw [← hr0, strOf_size]; rfl
  rw [hr0]
  have HR := Lib.hid (show r0 ++ e1 ++ e2 ++ e3 ++ e4 ++ e5 ++ e6 ++ e7 ++ e8 ++ e9 = strOf (Wire.head m ++ Wire.eights (Wire.nine m)) by
    rw [← hr0, ← he1, ← he2, ← he3, ← he4, ← he5, ← he6, ← he7, ← he8, ← he9]
    simp only [strOf_append, Wire.eights, Wire.nine, List.flatMap_cons, List.flatMap_nil, List.append_nil, List.append_assoc])
  clear he1 he2 he3 he4 he5 he6 he7 he8 he9 hr0
  go_region_held3 (fun w' => Ok W w' ∧ w'.cell? ⟨w.heap.size, 2, none⟩ = some (.int .i64 m.lo) ∧ w'.cell? ⟨w.heap.size, 3, none⟩ = some (.int .i64 m.hi) ∧ w'.cell? ⟨w.heap.size, 4, none⟩ = some (.int .i64 m.held) ∧ w'.cell? ⟨w.heap.size, 5, none⟩ = some (.int .i64 m.hops) ∧ w'.cell? ⟨w.heap.size, 8, none⟩ = some (.int .i64 m.slo) ∧ w'.cell? ⟨w.heap.size, 9, none⟩ = some (.int .i64 m.shi) ∧ w'.cell? ⟨w.heap.size, 10, none⟩ = some (.int .i64 m.pulse) ∧ w'.cell? ⟨w.heap.size, 11, none⟩ = some (.int .i64 m.time) ∧ w'.cell? ⟨w.heap.size, 12, none⟩ = some (.int .i64 m.num))
    (first | assumption | exact MsgBox.drew HK.out (by assumption) | exact MsgBox.step HK.out (by assumption) (by assumption) | exact MsgBox.step HK.out (MsgBox.drew HK.out (by assumption)) (by assumption))
    (first | (go_at_call 30; (with_reducible refine (k1.out _).mono ?_); rintro e w3 ⟨rfl, hb2⟩) | (go_at_call 30; (with_reducible refine (k2.out _).mono ?_); rintro e w3 ⟨rfl, hb2⟩) | (go_at_call 30; (with_reducible refine (k3.out _).mono ?_); rintro e w3 ⟨rfl, hb2⟩) | (go_at_call 30; (with_reducible refine (k4.out _).mono ?_); rintro e w3 ⟨rfl, hb2⟩) | (go_at_call 30; (with_reducible refine (k5.out _).mono ?_); rintro e w3 ⟨rfl, hb2⟩) | (go_at_call 30; (with_reducible refine (k6.out _).mono ?_); rintro e w3 ⟨rfl, hb2⟩) | (go_at_call 30; (with_reducible refine (k7.out _).mono ?_); rintro e w3 ⟨rfl, hb2⟩) | (go_at_call 30; (with_reducible refine (k8.out _).mono ?_); rintro e w3 ⟨rfl, hb2⟩) | (go_at_call 30; (with_reducible refine (k9.out _).mono ?_); rintro e w3 ⟨rfl, hb2⟩))
  rename_i hH
  have hok3 : Ok w w3 := hokW.trans hH.1
  have hb13 := (HOW.next hH.1).cell 13 (v := .slice A m.table.length cap) rfl
  obtain ⟨P, hP⟩ : ∃ P, Wire.head m ++ Wire.eights (Wire.nine m) = P := ⟨_, rfl⟩
  have HF := Lib.hid (show Wire.frame m = P ++ Wire.eights (Wire.flat m.table) by rw [← hP]; rfl)
  have HPL := Lib.hid (show P.length = 76 by rw [← hP]; simp only [List.length_append, Wire.eights_length]; rfl)
  rw [hP] at HR
  obtain ⟨R0, hR0⟩ : ∃ R, r0 ++ e1 ++ e2 ++ e3 ++ e4 ++ e5 ++ e6 ++ e7 ++ e8 ++ e9 = R := ⟨_, rfl⟩
  rw [hR0] at HR ⊢
  clear hP hR0 hH hS HK HOW hokW k1 k2 k3 k4 k5 k6 k7 k8 k9 z0 z1 z2 z3 z4 z5 z6 z7 z8 z9 KG
  obtain rfl := HR.out
  go_wp2_with fail
  go_loopw [5, 78] (fun s i wx => ∃ k : Nat, k ≤ m.table.length ∧ i = .int .i64 k ∧ s = .string (strOf (P ++ Wire.eights (Wire.flat (m.table.take k)))) ∧ Ok w wx) (fun _ i _ => m.table.length - (intOf i).toNat)
  case atStart => exact ⟨0, Nat.zero_le _, rfl, by simp [Wire.flat, Wire.eights], hok3⟩
  case round =>
    clear hok3 hb13
    obtain ⟨k, hkl, rfl, rfl, hok⟩ := hrel
    by_cases hlt : k < m.table.length
    · obtain ⟨b, off, hA, hbs, c1, c2⟩ := H.out.below hok k hlt
      subst hA
      obtain ⟨K1, K2⟩ := KT.out m.table[k] (List.getElem_mem _)
      have K1 := Lib.hid K1
      have K2 := Lib.hid K2
      have hstep : strOf (P ++ Wire.eights (Wire.flat (m.table.take k))) ++ strOf (Wire.eight m.table[k].1) ++ strOf (Wire.eight m.table[k].2) = strOf (P ++ Wire.eights (Wire.flat (m.table.take (k + 1)))) := by
        rw [strOf_append, strOf_append, List.take_succ_eq_append_getElem hlt]
        simp only [Wire.flat, Wire.eights, List.flatMap_append, List.flatMap_cons, List.flatMap_nil, List.append_nil, List.append_assoc]
      have HST := Lib.hid hstep
      have zs : (strOf (P ++ Wire.eights (Wire.flat (m.table.take k)))).size ≤ 1000 := by
        rw [strOf_size, List.length_append, HPL.out, Wire.eights_length, Wire.flat_length, List.length_take]; omega
      have za : (strOf (Wire.eight m.table[k].1)).size = 8 := by rw [strOf_size, Wire.eight_length]
      have zb : (strOf (Wire.eight m.table[k].2)).size = 8 := by rw [strOf_size, Wire.eight_length]
      obtain ⟨sk, h1⟩ : ∃ s, strOf (P ++ Wire.eights (Wire.flat (m.table.take k))) = s := ⟨_, rfl⟩
      obtain ⟨sa, h2⟩ : ∃ s, strOf (Wire.eight m.table[k].1) = s := ⟨_, rfl⟩
      obtain ⟨sb, h3⟩ : ∃ s, strOf (Wire.eight m.table[k].2) = s := ⟨_, rfl⟩
      rw [h2] at K1
      rw [h3] at K2
      rw [h1, h2, h3] at HST
      rw [h1] at zs ⊢
      rw [h2] at za
      rw [h3] at zb
      obtain ⟨x, h4⟩ : ∃ s, m.table[k].1 = s := ⟨_, rfl⟩
      obtain ⟨y, h5⟩ : ∃ s, m.table[k].2 = s := ⟨_, rfl⟩
      rw [h4] at K1 c1
      rw [h5] at K2 c2
      clear hstep h1 h2 h3 h4 h5
      go_upto_region 13 with fail
      have hbox := Box.new wr x y 45 rfl
      obtain ⟨g, hgg⟩ : ∃ g, wr.heap.size = g := ⟨_, rfl⟩
      rw [hgg] at hbox ⊢
      obtain ⟨W2, hW2⟩ : ∃ W2, W2 = wr.alloc (.cells #[.int .i64 x, .int .i64 y] 45) := ⟨_, rfl⟩
      rw [← hW2] at hbox ⊢
      have hok2 : Ok w W2 := by rw [hW2]; exact hok.alloc _
      have hS : Box1 g W2 x y W2 := ⟨hbox.c0, hbox.c1, hbox.lt, Ok.refl _⟩
      clear hbox hgg hW2 hok c1 c2
      have zq1 : (9223372036854775807 < sk.size + 8) = False := eq_false (by omega)
      have zq2 : (9223372036854775807 < sk.size + 8 + 8) = False := eq_false (by omega)
      have zq3 : (9223372036854775799 < sk.size) = False := eq_false (by omega)
      have zq4 : (9223372036854775791 < sk.size) = False := eq_false (by omega)
      have zq5 : (9223372036854775807 < sk.size + 16) = False := eq_false (by omega)
      clear zs
      go_region_held3 (fun w' => w'.cell? ⟨g, 0, none⟩ = some (.int .i64 x) ∧ w'.cell? ⟨g, 1, none⟩ = some (.int .i64 y) ∧ g < w'.heap.size ∧ Ok W2 w')
        (first | assumption | exact Box1.drew (by assumption) | exact Box1.next (by assumption) (by assumption) | exact Box1.next (by assumption) (Box1.drew (by assumption)))
        (first | (go_at_call 30; (with_reducible refine (K1.out _).mono ?_); rintro e w5 ⟨rfl, hb2⟩) | (go_at_call 30; (with_reducible refine (K2.out _).mono ?_); rintro e w5 ⟨rfl, hb2⟩))
      all_goals
        rename_i hH
        have hok5 := hok2.trans hH.2.2.2
        clear hH hS hok2 K1 K2 za zb zq1 zq2 zq3 zq4 zq5
        go_wp2
        go_roundw
        case rel => exact ⟨k + 1, by omega, by go_num, by rw [HST.out], hok5⟩
        case measure => simp [intOf]; omega
    · obtain rfl : k = m.table.length := by omega
      have hfr : strOf (P ++ Wire.eights (Wire.flat (m.table.take m.table.length))) = strOf (Wire.frame m) := by rw [List.take_length, HF.out]
      rw [hfr]
      clear hfr hlt
      go_wp2_with ((go_at_call 31; (with_reducible refine (KS.out _).mono ?_); rintro e w5 ⟨rfl, hb1⟩; replace hok := hok.trans hb1; clear hb1))
      go_ret2
      exact ⟨rfl, hok⟩
/-- Encode, whatever is handed in. -/
theorem ref6Encode (m : Msg) (A : Option Addr) (cap : Nat) (w : World) (h : PairsAt w A m.table) (hl : m.table.length ≤ 9223372036854775807) :
    Calls Try.prog 17 #[msgV m A cap] w fun e w' => e = .returned (.tuple #[.string (encS m), .int .i64 (encE m)]) ∧ Ok w w' := by
  unfold encS encE
  cases hg : Wire.good m with
  | true => exact ref6EncodeGood m A cap w h hg
  | false => exact ref6EncodeBad m A cap w h hl hg
end Go.Proofs.Ytacnoakbcilmfaa
