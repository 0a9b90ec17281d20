/- WireTells: for every message, place and 32 bits the law answers true: a frame in which bits were turned, within 32 that stand together, is not taken. No condition. -/
import Derived.Test.YtacnoakbcilmfaaC06r
import Derived.Test.YtacnoakbcilmfaaC06f
import Derived.Test.YtacnoakbcilmfaaC05i
import Derived.BigGuardPart
namespace Go.Proofs.Ytacnoakbcilmfaa.wireTells
open Go.ChangeShapes Go.WideShapes Go.ChangeAt Go.RowKit
set_option linter.unusedVariables false
set_option maxRecDepth 100000
attribute [local go_sem ↓] Go.wp_at_zero Go.wp_at_succ
theorem pow_xor {y r : Nat} (hy : y < 256) (hr : r < 8) : bits .xor .u8 (y : Int) ((2 : Int) ^ r % 256) = ((y ^^^ 2 ^ r : Nat) : Int) := by
  have hp : (2 : Int) ^ r % 256 = ((2 ^ r : Nat) : Int) ∧ 2 ^ r < 256 := by
    match r, hr with
    | 0, _ => decide
    | 1, _ => decide
    | 2, _ => decide
    | 3, _ => decide
    | 4, _ => decide
    | 5, _ => decide
    | 6, _ => decide
    | 7, _ => decide
    | r + 8, hr => omega
  rw [hp.1, xor_u8 hy hp.2]
/-- Bytes that were made of a string, in a block of one's own. -/
def Txt (w : World) (g : Nat) (l : List Nat) : Prop := ∃ cs : Array Value, w.heap[g]? = some (.cells cs 5 (cs.size, cs.size + 1)) ∧ l.length ≤ cs.size ∧ ∀ k (h : k < l.length), cs[k]? = some (.int .u8 (l[k] : Nat))
namespace Txt
variable {w : World} {g : Nat} {l : List Nat}
theorem bytes (h : Txt w g l) : BytesAt w (some ⟨g, 0, none⟩) l := by
  obtain ⟨cs, h1, _, h3⟩ := h
  exact conv_at h1 h3
theorem cell (h : Txt w g l) (k : Nat) (hk : k < l.length) : w.cell? ⟨g, k, none⟩ = some (.int .u8 (l[k] : Nat)) := by
  obtain ⟨cs, h1, _, h3⟩ := h
  simp only [World.cell?, h1]
  exact h3 k hk
theorem frozen (h : Txt w g l) (k : Nat) (hk : k < l.length) : w.frozen? ⟨g, k, none⟩ = false := by
  obtain ⟨cs, h1, h2, _⟩ := h
  simp only [World.frozen?, h1]
  rw [decide_eq_false (by omega : ¬ cs.size ≤ k), Bool.false_and]
theorem set (h : Txt w g l) (k b : Nat) : Txt (w.setCell ⟨g, k, none⟩ (.int .u8 (b : Int))) g (l.set k b) := by
  obtain ⟨cs, h1, h2, h3⟩ := h
  refine ⟨cs.set! k (.int .u8 (b : Int)), ?_, by simpa using h2, fun j hj => ?_⟩
  · simp only [World.setCell, Array.getElem?_modify, h1, if_true, Option.map_some]
    simp
  · have hj' : j < l.length := by simpa using hj
    by_cases e : k = j
    · subst e
      simp [show k < cs.size by omega]
    · simp [e, h3 j hj']
end Txt
/-- What was turned isn't taken. -/
theorem dec_told (F : List Nat) (hF : ∀ b ∈ F, b < 256) (hl : F.length ≤ 4096) (hs : isSealed F = false) (w : World) : Calls Try.prog 18 #[.string (strOf F)] w fun e w' => ∃ A cap, e = .returned (.tuple #[msgV zeroMsg A cap, .int .i64 5]) ∧ PairsAt w' A [] ∧ Ok w w' :=
  (wireDecode (strOf F) w).mono fun e w' hd => by
    rw [strL_strOf hF] at hd
    have h1 : decOf F = (zeroMsg, 5) := by
      unfold decOf
      rw [if_neg (by omega), if_pos hs]
    rw [h1] at hd
    obtain ⟨A, cap, h1, h2, h3⟩ := hd
    exact ⟨A, cap, h1, PairsAt.empty _ _, h3⟩
set_option maxHeartbeats 3200000 in
theorem walkL (w : World) (m : Msg) (A : Option Addr) (cap : Nat) (hA : PairsAt w A m.table) (hlm : m.table.length ≤ maxLen) (a1 a2 : Int) (b2 : 0 ≤ a2 ∧ a2 ≤ 4294967295) (ha63 : a1 ≤ 9223372036854775807) (h : 1024 < m.table.length) :
    Calls Try.prog 7 #[msgV m A cap, .int .i64 a1, .int .u32 a2] w fun e w' => e = .returned (.bool true) ∧ Ok w w' := by
  have hlen : m.table.length ≤ 9223372036854775807 := by unfold maxLen at hlm; omega
  have KL := Lib.hid fun W => law6Long m A cap W
  have KE := Lib.hid fun W (k : Ok w W) => wireEncode m A cap W (hA.below k) hlen
  unfold encE at KE
  have HO := Lib.hid (Own.new w (msgCells m A cap) 28 rfl)
  have HW := Lib.hid ((Ok.refl w).alloc (.cells (msgCells m A cap) 28))
  rw [decide_eq_true h] at KL
  clear h KE ha63 b2
  clear hA hlm hlen
  unfold msgV msgCells at *
  go_enter Try.func7, Try.ntmps7
  go_wp2_with (first | (go_at_call 15; (with_reducible refine (law6Alive _).mono ?_); rintro e w1 ⟨rfl, hok⟩; obtain ⟨p0, p1, p2, p3, p4, p5, p6, p7, p8, p9, p10, p11, p12, p13⟩ := cells14 (HO.out.next hok)) | (go_at_call 11; (with_reducible refine (KL.out _).mono ?_); rintro e w2 ⟨rfl, hb⟩; replace hok := hok.trans hb; clear hb; obtain ⟨p0, p1, p2, p3, p4, p5, p6, p7, p8, p9, p10, p11, p12, p13⟩ := cells14 (HO.out.next hok)))
  go_ret
  exact ⟨rfl, HW.out.trans hok⟩
set_option maxHeartbeats 3200000 in
theorem walkZ (w : World) (m : Msg) (A : Option Addr) (cap : Nat) (hA : PairsAt w A m.table) (hlm : m.table.length ≤ maxLen) (a1 a2 : Int) (b2 : 0 ≤ a2 ∧ a2 ≤ 4294967295) (ha63 : a1 ≤ 9223372036854775807) (h0 : ¬ 1024 < m.table.length) (h : a2 = 0) :
    Calls Try.prog 7 #[msgV m A cap, .int .i64 a1, .int .u32 a2] w fun e w' => e = .returned (.bool true) ∧ Ok w w' := by
  have hlen : m.table.length ≤ 9223372036854775807 := by unfold maxLen at hlm; omega
  have KL := Lib.hid fun W => law6Long m A cap W
  have KE := Lib.hid fun W (k : Ok w W) => wireEncode m A cap W (hA.below k) hlen
  unfold encE at KE
  have HO := Lib.hid (Own.new w (msgCells m A cap) 28 rfl)
  have HW := Lib.hid ((Ok.refl w).alloc (.cells (msgCells m A cap) 28))
  rw [decide_eq_false h0] at KL
  have d1 : (a2 == 0) = true := by rw [beq_iff_eq]; exact h
  clear h0 h KE ha63 b2
  clear hA hlm hlen
  unfold msgV msgCells at *
  go_enter Try.func7, Try.ntmps7
  go_wp2_with (first | (go_at_call 15; (with_reducible refine (law6Alive _).mono ?_); rintro e w1 ⟨rfl, hok⟩; obtain ⟨p0, p1, p2, p3, p4, p5, p6, p7, p8, p9, p10, p11, p12, p13⟩ := cells14 (HO.out.next hok)) | (go_at_call 11; (with_reducible refine (KL.out _).mono ?_); rintro e w2 ⟨rfl, hb⟩; replace hok := hok.trans hb; clear hb; obtain ⟨p0, p1, p2, p3, p4, p5, p6, p7, p8, p9, p10, p11, p12, p13⟩ := cells14 (HO.out.next hok)))
  go_ret
  exact ⟨rfl, HW.out.trans hok⟩
set_option maxHeartbeats 3200000 in
theorem walkN (w : World) (m : Msg) (A : Option Addr) (cap : Nat) (hA : PairsAt w A m.table) (hlm : m.table.length ≤ maxLen) (a1 a2 : Int) (b2 : 0 ≤ a2 ∧ a2 ≤ 4294967295) (ha63 : a1 ≤ 9223372036854775807) (h0 : ¬ 1024 < m.table.length) (h1 : ¬ a2 = 0) (h : a1 < 0) :
    Calls Try.prog 7 #[msgV m A cap, .int .i64 a1, .int .u32 a2] w fun e w' => e = .returned (.bool true) ∧ Ok w w' := by
  have hlen : m.table.length ≤ 9223372036854775807 := by unfold maxLen at hlm; omega
  have KL := Lib.hid fun W => law6Long m A cap W
  have KE := Lib.hid fun W (k : Ok w W) => wireEncode m A cap W (hA.below k) hlen
  unfold encE at KE
  have HO := Lib.hid (Own.new w (msgCells m A cap) 28 rfl)
  have HW := Lib.hid ((Ok.refl w).alloc (.cells (msgCells m A cap) 28))
  rw [decide_eq_false h0] at KL
  have d1 : (a2 == 0) = false := by rw [beq_eq_false_iff_ne]; exact h1
  have d2 : decide (a1 < 0) = true := decide_eq_true h
  clear h0 h1 KE ha63 b2
  clear hA hlm hlen
  unfold msgV msgCells at *
  go_enter Try.func7, Try.ntmps7
  go_wp2_with (first | (go_at_call 15; (with_reducible refine (law6Alive _).mono ?_); rintro e w1 ⟨rfl, hok⟩; obtain ⟨p0, p1, p2, p3, p4, p5, p6, p7, p8, p9, p10, p11, p12, p13⟩ := cells14 (HO.out.next hok)) | (go_at_call 11; (with_reducible refine (KL.out _).mono ?_); rintro e w2 ⟨rfl, hb⟩; replace hok := hok.trans hb; clear hb; obtain ⟨p0, p1, p2, p3, p4, p5, p6, p7, p8, p9, p10, p11, p12, p13⟩ := cells14 (HO.out.next hok)))
  go_ret
  exact ⟨rfl, HW.out.trans hok⟩
set_option maxHeartbeats 3200000 in
theorem walkB (w : World) (m : Msg) (A : Option Addr) (cap : Nat) (hA : PairsAt w A m.table) (hlm : m.table.length ≤ maxLen) (a1 a2 : Int) (b2 : 0 ≤ a2 ∧ a2 ≤ 4294967295) (ha63 : a1 ≤ 9223372036854775807) (h0 : ¬ 1024 < m.table.length) (h1 : ¬ a2 = 0) (h2 : ¬ a1 < 0) (hg : Wire.good m = false) :
    Calls Try.prog 7 #[msgV m A cap, .int .i64 a1, .int .u32 a2] w fun e w' => e = .returned (.bool true) ∧ Ok w w' := by
  have hlen : m.table.length ≤ 9223372036854775807 := by unfold maxLen at hlm; omega
  have KL := Lib.hid fun W => law6Long m A cap W
  have KE := Lib.hid fun W (k : Ok w W) => wireEncode m A cap W (hA.below k) hlen
  unfold encE at KE
  have HO := Lib.hid (Own.new w (msgCells m A cap) 28 rfl)
  have HW := Lib.hid ((Ok.refl w).alloc (.cells (msgCells m A cap) 28))
  rw [decide_eq_false h0] at KL
  have d1 : (a2 == 0) = false := by rw [beq_eq_false_iff_ne]; exact h1
  have d2 : decide (a1 < 0) = false := decide_eq_false h2
  have d3 : (a1 < 0) = False := eq_false h2
  rw [hg, if_neg (by simp)] at KE
  clear h0 h1 h2 hg ha63 b2
  clear hA hlm hlen
  unfold msgV msgCells at *
  go_enter Try.func7, Try.ntmps7
  go_wp2_with (first | (go_at_call 15; (with_reducible refine (law6Alive _).mono ?_); rintro e w1 ⟨rfl, hok⟩; obtain ⟨p0, p1, p2, p3, p4, p5, p6, p7, p8, p9, p10, p11, p12, p13⟩ := cells14 (HO.out.next hok)) | (go_at_call 11; (with_reducible refine (KL.out _).mono ?_); rintro e w2 ⟨rfl, hb⟩; replace hok := hok.trans hb; clear hb; obtain ⟨p0, p1, p2, p3, p4, p5, p6, p7, p8, p9, p10, p11, p12, p13⟩ := cells14 (HO.out.next hok)) | (go_at_call 16; (with_reducible refine (KE.out _ (HW.out.trans hok)).mono ?_); rintro e w2 ⟨rfl, hb⟩; replace hok := hok.trans hb; clear hb))
  go_ret
  exact ⟨rfl, HW.out.trans hok⟩
set_option maxHeartbeats 3200000 in
theorem walkF (w : World) (m : Msg) (A : Option Addr) (cap : Nat) (hA : PairsAt w A m.table) (hlm : m.table.length ≤ maxLen) (a1 a2 : Int) (b2 : 0 ≤ a2 ∧ a2 ≤ 4294967295) (ha63 : a1 ≤ 9223372036854775807) (h0 : ¬ 1024 < m.table.length) (h1 : ¬ a2 = 0) (h2 : ¬ a1 < 0) (hg : Wire.good m = true) (h : 8 * ((encS m).size : Int) - 32 < a1) :
    Calls Try.prog 7 #[msgV m A cap, .int .i64 a1, .int .u32 a2] w fun e w' => e = .returned (.bool true) ∧ Ok w w' := by
  have hlen : m.table.length ≤ 9223372036854775807 := by unfold maxLen at hlm; omega
  have KL := Lib.hid fun W => law6Long m A cap W
  have KE := Lib.hid fun W (k : Ok w W) => wireEncode m A cap W (hA.below k) hlen
  unfold encE at KE
  have HO := Lib.hid (Own.new w (msgCells m A cap) 28 rfl)
  have HW := Lib.hid ((Ok.refl w).alloc (.cells (msgCells m A cap) 28))
  rw [decide_eq_false h0] at KL
  have d1 : (a2 == 0) = false := by rw [beq_eq_false_iff_ne]; exact h1
  have d2 : decide (a1 < 0) = false := decide_eq_false h2
  have d3 : (a1 < 0) = False := eq_false h2
  rw [hg, if_pos rfl] at KE
  have hz := enc_size hg
  have hsh := Wire.good_short hg
  have i1 : IntKind.i64.wrap (8 * ((encS m).size : Int)) = 8 * ((encS m).size : Int) := IntWalk.i64_in _ ⟨by omega, by omega⟩
  have i2 : IntKind.i64.wrap (8 * ((encS m).size : Int) - 32) = 8 * ((encS m).size : Int) - 32 := IntWalk.i64_in _ ⟨by omega, by omega⟩
  have i3 : decide (8 * ((encS m).size : Int) - 32 < a1) = true := decide_eq_true h
  obtain ⟨t, ht⟩ : ∃ t, encS m = t := ⟨_, rfl⟩
  simp only [ht] at KE hz i1 i2 i3 h
  clear h0 h1 h2 hg ha63 b2 ht hz hsh d3
  clear hA hlm hlen
  unfold msgV msgCells at *
  go_enter Try.func7, Try.ntmps7
  go_wp2_with (first | (go_at_call 15; (with_reducible refine (law6Alive _).mono ?_); rintro e w1 ⟨rfl, hok⟩; obtain ⟨p0, p1, p2, p3, p4, p5, p6, p7, p8, p9, p10, p11, p12, p13⟩ := cells14 (HO.out.next hok)) | (go_at_call 11; (with_reducible refine (KL.out _).mono ?_); rintro e w2 ⟨rfl, hb⟩; replace hok := hok.trans hb; clear hb; obtain ⟨p0, p1, p2, p3, p4, p5, p6, p7, p8, p9, p10, p11, p12, p13⟩ := cells14 (HO.out.next hok)) | (go_at_call 16; (with_reducible refine (KE.out _ (HW.out.trans hok)).mono ?_); rintro e w2 ⟨rfl, hb⟩; replace hok := hok.trans hb; clear hb))
  go_ret
  exact ⟨rfl, HW.out.trans hok⟩
set_option maxHeartbeats 3200000 in
theorem walkT (w : World) (m : Msg) (A : Option Addr) (cap : Nat) (hA : PairsAt w A m.table) (hlm : m.table.length ≤ maxLen) (a1 a2 : Int) (b2 : 0 ≤ a2 ∧ a2 ≤ 4294967295) (ha63 : a1 ≤ 9223372036854775807) (h0 : ¬ 1024 < m.table.length) (h1 : ¬ a2 = 0) (h2 : ¬ a1 < 0) (hg : Wire.good m = true) (h : ¬ 8 * ((encS m).size : Int) - 32 < a1) :
    Calls Try.prog 7 #[msgV m A cap, .int .i64 a1, .int .u32 a2] w fun e w' => e = .returned (.bool true) ∧ Ok w w' := by
  have hlen : m.table.length ≤ 9223372036854775807 := by unfold maxLen at hlm; omega
  have KL := Lib.hid fun W => law6Long m A cap W
  have KE := Lib.hid fun W (k : Ok w W) => wireEncode m A cap W (hA.below k) hlen
  unfold encE at KE
  have HO := Lib.hid (Own.new w (msgCells m A cap) 28 rfl)
  have HW := Lib.hid ((Ok.refl w).alloc (.cells (msgCells m A cap) 28))
  rw [decide_eq_false h0] at KL
  have d1 : (a2 == 0) = false := by rw [beq_eq_false_iff_ne]; exact h1
  have d2 : decide (a1 < 0) = false := decide_eq_false h2
  have d3 : (a1 < 0) = False := eq_false h2
  rw [hg, if_pos rfl] at KE
  have hz := enc_size hg
  have hsh := Wire.good_short hg
  have i1 : IntKind.i64.wrap (8 * ((encS m).size : Int)) = 8 * ((encS m).size : Int) := IntWalk.i64_in _ ⟨by omega, by omega⟩
  have i2 : IntKind.i64.wrap (8 * ((encS m).size : Int) - 32) = 8 * ((encS m).size : Int) - 32 := IntWalk.i64_in _ ⟨by omega, by omega⟩
  have i3 : decide (8 * ((encS m).size : Int) - 32 < a1) = false := decide_eq_false h
  have i4 : (8 * ((encS m).size : Int) - 32 < a1) = False := eq_false h
  obtain ⟨a, rfl⟩ : ∃ a : Nat, a1 = (a : Int) := ⟨a1.toNat, by omega⟩
  obtain ⟨B, rfl⟩ : ∃ a : Nat, a2 = (a : Int) := ⟨a2.toNat, by omega⟩
  have hB0 : 0 < B := by omega
  have hB1 : B < 4294967296 := by omega
  obtain ⟨l, hl⟩ : ∃ l, Wire.frame m = l := ⟨_, rfl⟩
  have hll : l.length = 76 + 16 * m.table.length := by rw [← hl]; exact Wire.frame_length m
  have hlt : ∀ b ∈ l, b < 256 := by rw [← hl]; exact Wire.frame_lt hg
  have hst : strL (encS m) = sealL l := by rw [← hl]; exact strL_enc hg
  obtain ⟨t, ht⟩ : ∃ t, encS m = t := ⟨_, rfl⟩
  simp only [ht] at KE hz i1 i2 i3 i4 h hst
  have hat : a + 32 ≤ 8 * (l.length + 4) := by omega
  have hll2 : l.length ≤ 588 := by omega
  have hts : t.size = l.length + 4 := by omega
  obtain ⟨CAP, NW, hcv, hnw, -, -, hcs⟩ := conv_bytes t
  have HTX := Lib.hid fun W => (show Txt (NW W) W.heap.size (sealL l) by
    obtain ⟨cs, h1, h2, h3⟩ := hcs W
    refine ⟨cs, h1, by rw [sealL_length]; omega, fun k hk => ?_⟩
    rw [sealL_length] at hk
    rw [h3 k (by omega)]
    congr 3
    simp only [hst])
  have HNW := Lib.hid hnw
  have HTS := Lib.hid hts
  have HLT := Lib.hid hlt
  clear hcs hnw hst ht hl hz hsh hll h0 h1 h2 hg h ha63 b2 hA hlm hlen hlt
  unfold msgV msgCells at *
  go_enter Try.func7, Try.ntmps7
  go_upto_region 8 with (first | (go_at_call 15; (with_reducible refine (law6Alive _).mono ?_); rintro e w1 ⟨rfl, hok⟩; obtain ⟨p0, p1, p2, p3, p4, p5, p6, p7, p8, p9, p10, p11, p12, p13⟩ := cells14 (HO.out.next hok)) | (go_at_call 11; (with_reducible refine (KL.out _).mono ?_); rintro e w2 ⟨rfl, hb⟩; replace hok := hok.trans hb; clear hb; obtain ⟨p0, p1, p2, p3, p4, p5, p6, p7, p8, p9, p10, p11, p12, p13⟩ := cells14 (HO.out.next hok)) | (go_at_call 16; (with_reducible refine (KE.out _ (HW.out.trans hok)).mono ?_); rintro e w2 ⟨rfl, hb⟩; replace hok := hok.trans hb; clear hb))
  clear d1 d2 d3 i1 i2 i3 i4 HO KL KE
  go_wp2_with fail
  have hokN := (HW.out.trans hok).trans (HNW.out w2)
  have hgw : w.heap.size ≤ w2.heap.size := (HW.out.trans hok).size
  have HS := Lib.hid (HTX.out w2)
  obtain ⟨g, hgg⟩ : ∃ g, w2.heap.size = g := ⟨_, rfl⟩
  obtain ⟨cp, hcp⟩ : ∃ c, CAP w2 = c := ⟨_, rfl⟩
  rw [hgg] at hgw HS ⊢
  rw [hcp]
  have hlen4 : (flipL l a B 0).length = l.length + 4 := flipL_length _ _ _ _
  clear hgg hcp hok HW HTX HNW hcv hts hlen4 HTS
  go_loopw [10] (fun i wx => ∃ k : Nat, k ≤ 32 ∧ i = .int .i64 k ∧ Txt wx g (flipL l a B k) ∧ Ok w wx) (fun i _ => 32 - (intOf i).toNat)
  case atStart => exact ⟨0, by omega, rfl, by rw [flipL_zero]; exact HS.out, hokN⟩
  case round =>
    clear hokN HS
    obtain ⟨k, hk, rfl, hO, hok⟩ := hrel
    by_cases hlt : k < 32
    · have ht := bit_test (i := k) hB1
      cases hbit : B.testBit k with
      | false =>
        rw [hbit] at ht
        have ht' : (bits .and .u32 ((B : Int) / 2 ^ k) 1 == 1) = false := by rw [ht]; rfl
        have HE := Lib.hid (flipL_same l a B k hbit)
        clear hbit ht
        go_wp2
        go_roundw
        case rel => exact ⟨k + 1, by omega, by go_num, by rw [HE.out]; exact hO, hok⟩
        case measure => simp [intOf]; omega
      | true =>
        rw [hbit] at ht
        have ht' : (bits .and .u32 ((B : Int) / 2 ^ k) 1 == 1) = true := by rw [ht]; rfl
        have hj : (a + k) / 8 < l.length + 4 := by omega
        have HE := Lib.hid (flipL_turn l a B k hbit hj)
        have hjF : (a + k) / 8 < (flipL l a B k).length := by rw [flipL_length]; exact hj
        have hc := hO.cell ((a + k) / 8) hjF
        have hf := hO.frozen ((a + k) / 8) hjF
        have hy := flipL_lt l HLT.out a B k _ (List.getElem_mem hjF)
        obtain ⟨y, hye⟩ : ∃ y, (flipL l a B k)[(a + k) / 8]'hjF = y := ⟨_, rfl⟩
        rw [hye] at hc hy HE
        have HSet := Lib.hid fun v => hO.set ((a + k) / 8) v
        have hr : (a + k) % 8 < 8 := Nat.mod_lt _ (by decide)
        clear hbit ht hye hO hjF
        have HV := Lib.hid (pow_xor hy hr)
        go_wp2_with fail
        go_roundw
        case rel => exact ⟨k + 1, by omega, by go_num, by rw [HE.out, HV.out]; exact HSet.out _, hok.setCell hgw _⟩
        case measure => simp [intOf]; omega
    · obtain rfl : k = 32 := by omega
      have hs := flipL_told l HLT.out a B hB0 hB1 hat
      have hFl := flipL_length l a B 32
      have hcv2 := run_bytes_string (P := Try.prog) (src := 41) (dst := 9) Try.underlying41 Try.underlying5 Try.underlying9 hO.bytes (flipL_lt l HLT.out a B 32) (n := l.length + 4) hFl.symm cp
      have KD := Lib.hid fun W => dec_told (flipL l a B 32) (flipL_lt l HLT.out a B 32) (by rw [hFl]; omega) hs W
      have KS := Lib.hid fun W A c => ref6Same zeroMsg zeroMsg A none c 0 W (PairsAt.empty _ _) (PairsAt.empty _ _) (by decide) (by decide)
      rw [decide_eq_true rfl] at KS
      have hzz := zeroMsg0
      obtain ⟨S, hS⟩ : ∃ S, strOf (flipL l a B 32) = S := ⟨_, rfl⟩
      simp only [hS] at hcv2 KD
      unfold msgV zeroMsg at KS KD
      simp only [List.length_nil] at KS KD
      clear hs hO hat hB0 hB1 hFl hS HLT hlt
      go_wp2_with (first | (go_at_call 18; (with_reducible refine (KD.out _).mono ?_); rintro e w5 ⟨A1, c1, rfl, _, hb⟩; replace hok := hok.trans hb; clear hb) | (go_at_call 20; (with_reducible refine (KS.out _ _ _).mono ?_); rintro e w6 ⟨rfl, hb⟩; replace hok := (hok.alloc _).trans hb; clear hb))
      go_ret
      exact ⟨rfl, hok⟩
theorem walk (w : World) (m : Msg) (A : Option Addr) (cap : Nat) (hA : PairsAt w A m.table) (hc : m.table.length ≤ cap) (hcm : cap ≤ maxLen) (wm : MsgWf m) (a1 : Int) (w1 : (Lit.int .i64 a1).wf = true) (a2 : Int) (w2 : (Lit.int .u32 a2).wf = true) :
    Calls Try.prog 7 #[msgV m A cap, .int .i64 a1, .int .u32 a2] w fun e w' => e = .returned (.bool true) ∧ Below w.heap.size w w' := by
  have b2 : 0 ≤ a2 ∧ a2 ≤ 4294967295 := by simp [Lit.wf] at w2; exact w2
  have ha63 : a1 ≤ 9223372036854775807 := by simp [Lit.wf] at w1; omega
  have hl : m.table.length ≤ maxLen := by omega
  by_cases h0 : 1024 < m.table.length
  · exact walkL w m A cap hA hl a1 a2 b2 ha63 h0
  by_cases h1 : a2 = 0
  · exact walkZ w m A cap hA hl a1 a2 b2 ha63 h0 h1
  by_cases h2 : a1 < 0
  · exact walkN w m A cap hA hl a1 a2 b2 ha63 h0 h1 h2
  cases hg : Wire.good m with
  | false => exact walkB w m A cap hA hl a1 a2 b2 ha63 h0 h1 h2 hg
  | true =>
    by_cases h : 8 * ((encS m).size : Int) - 32 < a1
    · exact walkF w m A cap hA hl a1 a2 b2 ha63 h0 h1 h2 hg h
    · exact walkT w m A cap hA hl a1 a2 b2 ha63 h0 h1 h2 hg h
theorem own : ownKnob Try.prog.godebug = none := by kernel_rfl
theorem laidOut : laidOutB Try.prog = true := by kernel_rfl
set_option maxRecDepth 100000 in
theorem lifted (os : Os) (started : os.Started) (H : Type) (enc : TypeId × Value → H) :
    ReturnsInHanded {} Try.checked os 7 .any (Rows.wireTellsSpec.pre6 enc Try.prog Try.f7 Rows.wireTellsRow.domain false) (Rows.wireTellsSpec.post enc Try.prog Try.f7 false true false false) := by
  refine returnsInHanded_of_change (C := Try.checked) own started (by kernel_rfl) Try.func7
    (ChangeSpec.witness6 (enc := enc) (C := Try.checked) false ⟨#[], #[.agg #[.int .i64 0, .int .i64 0, .int .i64 0, .int .i64 0, .int .i64 0, .int .i64 0, .bool false, .bool false, .int .i64 0, .int .i64 0, .int .i64 0, .int .i64 0, .int .i64 0, .slice none 0 0], .int .i64 0, .int .u32 0], []⟩ 8 (by kernel_rfl) (by kernel_rfl) (by kernel_rfl) (by kernel_rfl)) ?_
  intro W base args ds gs before hval0 hW _ _
  have hval : ∀ (j : Nat) t v, Try.f7.params[j]? = some t → args[j]? = some v → Value.okWide Try.prog W .any base t v := hval0
  have hW' := hW
  obtain ⟨p, q, hA, hV, rfl, _, _⟩ := hW
  obtain ⟨rfl, rfl⟩ := trodVars_none hV
  replace hA : DataW.TrodAll enc Try.prog W 0 (fun _ => true) true Try.f7.params.toList args.toList ds p := hA
  rw [Try.params7] at hA hval
  obtain ⟨v0, vs0, d0, ds0, p0, q0, hargs, rfl, rfl, h0, r0⟩ := trodAll_cons hA
  obtain ⟨v1, vs1, d1, ds1, p1, q1, rfl, rfl, rfl, h1, r1⟩ := trodAll_cons r0
  obtain ⟨v2, vs2, d2, ds2, p2, q2, rfl, rfl, rfl, h2, r2⟩ := trodAll_cons r1
  obtain ⟨rfl, rfl, rfl⟩ := trodAll_nil r2
  obtain rfl : args = #[v0, v1, v2] := by cases args; simp_all
  obtain ⟨m0, A0, c0, rfl, hA0, hc0, hm0, w0⟩ := open_msg (hval 0 28 v0 rfl rfl) h0
  obtain ⟨a1, rfl, rfl, rfl, w1⟩ := open_int Try.underlying3 (hval 1 3 v1 rfl rfl) h1
  obtain ⟨a2, rfl, rfl, rfl, w2⟩ := open_int Try.underlying40 (hval 2 40 v2 rfl rfl) h2
  refine (walk W m0 A0 c0 hA0 hc0 hm0 w0 a1 w1 a2 w2).mono fun e W' ⟨he, hb⟩ => ?_
  subst he
  exact ⟨_, rfl, law_post hW' laidOut (by rw [Try.params7]; exact params_ok (by kernel_rfl)) rfl (by kernel_rfl) Try.underlying4 rfl rfl rfl hb⟩
theorem over : Rows.wireTellsRow.holds Try.pinned (OpenSpec.ofChange Rows.wireTellsSpec) :=
  OpenClaim.holds_of_wide 7 Try.f7 rfl rfl rfl rfl rfl rfl rfl ⟨rfl, rfl, rfl, rfl, rfl⟩ rfl rfl rfl rfl rfl (by kernel_rfl) Try.func7 (by kernel_rfl)
    (of_decide_eq_true (by kernel_rfl)) (by unfold Func.isWrapper; first | (rw [if_pos (by decide +kernel)]; kernel_rfl) | (rw [if_neg (by decide +kernel)]; exact ⟨rfl, rfl⟩))
    (fun os started H enc _ => lifted os started H enc)
theorem proved : Rows.WireTellsSaid := over
end Go.Proofs.Ytacnoakbcilmfaa.wireTells
