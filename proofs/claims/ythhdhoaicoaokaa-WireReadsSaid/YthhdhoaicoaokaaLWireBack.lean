/- WireBack: for every message and string the law answers true: a message is read from its frame as it is, and what is read has that frame. No condition. -/
import Derived.Test.YthhdhoaicoaokaaC06r
import Derived.Test.YthhdhoaicoaokaaC06f
namespace Go.Proofs.Ythhdhoaicoaokaa.wireBack
open Go.ChangeShapes Go.WideShapes Go.ChangeAt Go.RowKit
set_option linter.unusedVariables false
set_option maxRecDepth 100000
attribute [local go_sem ↓] Go.wp_at_zero Go.wp_at_succ
theorem decP (s : ByteArray) (dm : Msg) (n : Int) (h : decOf (strL s) = (dm, n)) (w : World) : Calls Try.prog 18 #[.string s] w fun e w' => ∃ A cap, e = .returned (.tuple #[msgV dm A cap, .int .i64 n]) ∧ PairsAt w' A dm.table ∧ Ok w w' :=
  (wireDecode s w).mono fun e w' hd => by
    rw [h] at hd
    obtain ⟨A, cap, h1, h2, h3⟩ := hd
    exact ⟨A, cap, h1, pairs_row (n := 0) h2, h3⟩
/-- What is read has that frame. -/
theorem enc_dec {s : ByteArray} {dm : Msg} (h : decOf (strL s) = (dm, 0)) : Wire.good dm = true ∧ encS dm = s := by
  unfold decOf at h
  split at h
  · cases h
  split at h
  · cases h
  rename_i h2
  split at h
  · cases h
  split at h
  · rename_i hg
    cases h
    refine ⟨hg.1, ?_⟩
    unfold encS
    rw [if_pos hg.1, hg.2]
    have hs : isSealed (strL s) = true := by simpa using h2
    unfold isSealed at hs
    rw [decide_eq_true_eq] at hs
    rw [hs.2, strOf_strL]
  · cases h
set_option maxHeartbeats 3200000 in
theorem walkL (w : World) (m : Msg) (A : Option Addr) (cap : Nat) (hA : PairsAt w A m.table) (hcm : m.table.length ≤ maxLen) (s : ByteArray) (hL : 1024 < m.table.length) :
    Calls Try.prog 6 #[msgV m A cap, .string s] w fun e w' => e = .returned (.bool true) ∧ Ok w w' := by
  have hlen : m.table.length ≤ 9223372036854775807 := by unfold maxLen at hcm; omega
  have KL := Lib.hid fun W => law6Long m A cap W
  have HO := Lib.hid (Own.new w (msgCells m A cap) 28 rfl)
  have HW := Lib.hid ((Ok.refl w).alloc (.cells (msgCells m A cap) 28))
  rw [decide_eq_true hL] at KL
  clear hA hcm hlen hL
  unfold msgV msgCells at *
  go_enter Try.func6, Try.ntmps6
  go_wp2_with (first | (go_at_call 15; (with_reducible refine (law6Alive _).mono ?_); rintro e w1 ⟨rfl, hok⟩; obtain ⟨p0, p1, p2, p3, p4, p5, p6, p7, p8, p9, p10, p11, p12, p13⟩ := cells14 (HO.out.next hok)) | (go_at_call 11; (with_reducible refine (KL.out _).mono ?_); rintro e w2 ⟨rfl, hb⟩; replace hok := hok.trans hb; clear hb; obtain ⟨p0, p1, p2, p3, p4, p5, p6, p7, p8, p9, p10, p11, p12, p13⟩ := cells14 (HO.out.next hok)))
  go_ret
  exact ⟨rfl, HW.out.trans hok⟩
set_option maxHeartbeats 3200000 in
theorem walkS (w : World) (m : Msg) (A : Option Addr) (cap : Nat) (hA : PairsAt w A m.table) (hcm : m.table.length ≤ maxLen) (s : ByteArray) (hL : ¬ 1024 < m.table.length) (hS : 8192 < s.size) :
    Calls Try.prog 6 #[msgV m A cap, .string s] w fun e w' => e = .returned (.bool true) ∧ Ok w w' := by
  have hlen : m.table.length ≤ 9223372036854775807 := by unfold maxLen at hcm; omega
  have KL := Lib.hid fun W => law6Long m A cap W
  have HO := Lib.hid (Own.new w (msgCells m A cap) 28 rfl)
  have HW := Lib.hid ((Ok.refl w).alloc (.cells (msgCells m A cap) 28))
  rw [decide_eq_false hL] at KL
  have hSd : decide ((8192 : Int) < (s.size : Int)) = true := decide_eq_true (by omega)
  clear hA hcm hlen hL hS
  unfold msgV msgCells at *
  go_enter Try.func6, Try.ntmps6
  go_wp2_with (first | (go_at_call 15; (with_reducible refine (law6Alive _).mono ?_); rintro e w1 ⟨rfl, hok⟩; obtain ⟨p0, p1, p2, p3, p4, p5, p6, p7, p8, p9, p10, p11, p12, p13⟩ := cells14 (HO.out.next hok)) | (go_at_call 11; (with_reducible refine (KL.out _).mono ?_); rintro e w2 ⟨rfl, hb⟩; replace hok := hok.trans hb; clear hb; obtain ⟨p0, p1, p2, p3, p4, p5, p6, p7, p8, p9, p10, p11, p12, p13⟩ := cells14 (HO.out.next hok)))
  go_ret
  exact ⟨rfl, HW.out.trans hok⟩
set_option maxHeartbeats 3200000 in
theorem walkGG (w : World) (m : Msg) (A : Option Addr) (cap : Nat) (hA : PairsAt w A m.table) (hcm : m.table.length ≤ maxLen) (s : ByteArray) (dm : Msg) (dn : Int) (hd : decOf (strL s) = (dm, dn)) (hL : ¬ 1024 < m.table.length) (hS : ¬ 8192 < s.size) (hg : Wire.good m = true) (h0 : dn = 0) :
    Calls Try.prog 6 #[msgV m A cap, .string s] w fun e w' => e = .returned (.bool true) ∧ Ok w w' := by
  have hlen : m.table.length ≤ 9223372036854775807 := by unfold maxLen at hcm; omega
  have KL := Lib.hid fun W => law6Long m A cap W
  have HO := Lib.hid (Own.new w (msgCells m A cap) 28 rfl)
  have HW := Lib.hid ((Ok.refl w).alloc (.cells (msgCells m A cap) 28))
  rw [decide_eq_false hL] at KL
  have hSd : decide ((8192 : Int) < (s.size : Int)) = false := decide_eq_false (by omega)
  have KD := Lib.hid (decP s dm dn hd)
  have KE := Lib.hid fun W (k : Ok w W) => wireEncode m A cap W (hA.below k) hlen
  unfold encE at KE
  have KS := Lib.hid fun W (k : Ok w W) B c (hB : PairsAt W B m.table) => ref6Same m m B A c cap W hB (hA.below k) hlen hlen
  rw [decide_eq_true rfl] at KS
  have KD1 := Lib.hid (decP (encS m) m 0 (by rw [strL_enc hg, decOf_enc hg]))
  rw [hg, if_pos rfl] at KE
  obtain ⟨t, ht⟩ : ∃ t, encS m = t := ⟨_, rfl⟩
  simp only [ht] at KE KD1
  clear ht
  subst h0
  obtain ⟨g1, g2⟩ := enc_dec hd
  have KE2 := Lib.hid fun W B c (hB : PairsAt W B dm.table) => wireEncode dm B c W hB (by have := Wire.good_short g1; omega)
  unfold encE at KE2
  rw [g1, g2, if_pos rfl] at KE2
  clear g1 g2
  clear hd hg hA hcm hlen hL hS
  unfold msgV msgCells at *
  go_enter Try.func6, Try.ntmps6
  go_wp2_with (first | (go_at_call 15; (with_reducible refine (law6Alive _).mono ?_); rintro e w1 ⟨rfl, hok⟩; obtain ⟨p0, p1, p2, p3, p4, p5, p6, p7, p8, p9, p10, p11, p12, p13⟩ := cells14 (HO.out.next hok)) | (go_at_call 11; (with_reducible refine (KL.out _).mono ?_); rintro e w2 ⟨rfl, hb⟩; replace hok := hok.trans hb; clear hb; obtain ⟨p0, p1, p2, p3, p4, p5, p6, p7, p8, p9, p10, p11, p12, p13⟩ := cells14 (HO.out.next hok)) | (go_at_call 16; (with_reducible refine (KE.out _ (HW.out.trans hok)).mono ?_); rintro e w2 ⟨rfl, hb⟩; replace hok := hok.trans hb; clear hb) | (go_at_call 18; (with_reducible refine (KD1.out _).mono ?_); rintro e w3 ⟨A1, c1, rfl, hP1, hb⟩; replace hok := hok.trans hb; clear hb; obtain ⟨p0, p1, p2, p3, p4, p5, p6, p7, p8, p9, p10, p11, p12, p13⟩ := cells14 (HO.out.next hok); obtain ⟨p0, p1, p2, p3, p4, p5, p6, p7, p8, p9, p10, p11, p12, p13⟩ := cells14 ((HO.out.next hok).alloc (.cells #[.int .i64 m.kind, .int .i64 m.frm, .int .i64 m.lo, .int .i64 m.hi, .int .i64 m.held, .int .i64 m.hops, .bool m.good, .bool m.ref, .int .i64 m.slo, .int .i64 m.shi, .int .i64 m.pulse, .int .i64 m.time, .int .i64 m.num, .slice A1 m.table.length c1] 28))) | (go_at_call 20; (with_reducible refine (KS.out _ (HW.out.trans (hok.alloc _)) _ _ (hP1.alloc _)).mono ?_); rintro e w4 ⟨rfl, hb⟩; replace hok := (hok.alloc _).trans hb; clear hb) | (go_at_call 18; (with_reducible refine (KD.out _).mono ?_); rintro e w5 ⟨A2, c2, rfl, hP2, hb⟩; replace hok := hok.trans hb; clear hb) | (go_at_call 16; (with_reducible refine (KE2.out _ _ _ (hP2.alloc _)).mono ?_); rintro e w6 ⟨rfl, hb⟩; replace hok := (hok.alloc _).trans hb; clear hb))
  go_ret
  exact ⟨rfl, HW.out.trans hok⟩
set_option maxHeartbeats 3200000 in
theorem walkGB (w : World) (m : Msg) (A : Option Addr) (cap : Nat) (hA : PairsAt w A m.table) (hcm : m.table.length ≤ maxLen) (s : ByteArray) (dm : Msg) (dn : Int) (hd : decOf (strL s) = (dm, dn)) (hL : ¬ 1024 < m.table.length) (hS : ¬ 8192 < s.size) (hg : Wire.good m = true) (h0 : ¬ dn = 0) :
    Calls Try.prog 6 #[msgV m A cap, .string s] w fun e w' => e = .returned (.bool true) ∧ Ok w w' := by
  have hlen : m.table.length ≤ 9223372036854775807 := by unfold maxLen at hcm; omega
  have KL := Lib.hid fun W => law6Long m A cap W
  have HO := Lib.hid (Own.new w (msgCells m A cap) 28 rfl)
  have HW := Lib.hid ((Ok.refl w).alloc (.cells (msgCells m A cap) 28))
  rw [decide_eq_false hL] at KL
  have hSd : decide ((8192 : Int) < (s.size : Int)) = false := decide_eq_false (by omega)
  have KD := Lib.hid (decP s dm dn hd)
  have KE := Lib.hid fun W (k : Ok w W) => wireEncode m A cap W (hA.below k) hlen
  unfold encE at KE
  have KS := Lib.hid fun W (k : Ok w W) B c (hB : PairsAt W B m.table) => ref6Same m m B A c cap W hB (hA.below k) hlen hlen
  rw [decide_eq_true rfl] at KS
  have KD1 := Lib.hid (decP (encS m) m 0 (by rw [strL_enc hg, decOf_enc hg]))
  rw [hg, if_pos rfl] at KE
  obtain ⟨t, ht⟩ : ∃ t, encS m = t := ⟨_, rfl⟩
  simp only [ht] at KE KD1
  have hdn : (dn != 0) = true := by rw [bne_iff_ne]; exact h0
  clear ht hd hg hA hcm hlen hL hS h0
  unfold msgV msgCells at *
  go_enter Try.func6, Try.ntmps6
  go_wp2_with (first | (go_at_call 15; (with_reducible refine (law6Alive _).mono ?_); rintro e w1 ⟨rfl, hok⟩; obtain ⟨p0, p1, p2, p3, p4, p5, p6, p7, p8, p9, p10, p11, p12, p13⟩ := cells14 (HO.out.next hok)) | (go_at_call 11; (with_reducible refine (KL.out _).mono ?_); rintro e w2 ⟨rfl, hb⟩; replace hok := hok.trans hb; clear hb; obtain ⟨p0, p1, p2, p3, p4, p5, p6, p7, p8, p9, p10, p11, p12, p13⟩ := cells14 (HO.out.next hok)) | (go_at_call 16; (with_reducible refine (KE.out _ (HW.out.trans hok)).mono ?_); rintro e w2 ⟨rfl, hb⟩; replace hok := hok.trans hb; clear hb) | (go_at_call 18; (with_reducible refine (KD1.out _).mono ?_); rintro e w3 ⟨A1, c1, rfl, hP1, hb⟩; replace hok := hok.trans hb; clear hb; obtain ⟨p0, p1, p2, p3, p4, p5, p6, p7, p8, p9, p10, p11, p12, p13⟩ := cells14 (HO.out.next hok); obtain ⟨p0, p1, p2, p3, p4, p5, p6, p7, p8, p9, p10, p11, p12, p13⟩ := cells14 ((HO.out.next hok).alloc (.cells #[.int .i64 m.kind, .int .i64 m.frm, .int .i64 m.lo, .int .i64 m.hi, .int .i64 m.held, .int .i64 m.hops, .bool m.good, .bool m.ref, .int .i64 m.slo, .int .i64 m.shi, .int .i64 m.pulse, .int .i64 m.time, .int .i64 m.num, .slice A1 m.table.length c1] 28))) | (go_at_call 20; (with_reducible refine (KS.out _ (HW.out.trans (hok.alloc _)) _ _ (hP1.alloc _)).mono ?_); rintro e w4 ⟨rfl, hb⟩; replace hok := (hok.alloc _).trans hb; clear hb) | (go_at_call 18; (with_reducible refine (KD.out _).mono ?_); rintro e w5 ⟨A2, c2, rfl, hP2, hb⟩; replace hok := hok.trans hb; clear hb))
  go_ret
  exact ⟨rfl, HW.out.trans (hok.alloc _)⟩
set_option maxHeartbeats 3200000 in
theorem walkBG (w : World) (m : Msg) (A : Option Addr) (cap : Nat) (hA : PairsAt w A m.table) (hcm : m.table.length ≤ maxLen) (s : ByteArray) (dm : Msg) (dn : Int) (hd : decOf (strL s) = (dm, dn)) (hL : ¬ 1024 < m.table.length) (hS : ¬ 8192 < s.size) (hg : Wire.good m = false) (h0 : dn = 0) :
    Calls Try.prog 6 #[msgV m A cap, .string s] w fun e w' => e = .returned (.bool true) ∧ Ok w w' := by
  have hlen : m.table.length ≤ 9223372036854775807 := by unfold maxLen at hcm; omega
  have KL := Lib.hid fun W => law6Long m A cap W
  have HO := Lib.hid (Own.new w (msgCells m A cap) 28 rfl)
  have HW := Lib.hid ((Ok.refl w).alloc (.cells (msgCells m A cap) 28))
  rw [decide_eq_false hL] at KL
  have hSd : decide ((8192 : Int) < (s.size : Int)) = false := decide_eq_false (by omega)
  have KD := Lib.hid (decP s dm dn hd)
  have KE := Lib.hid fun W (k : Ok w W) => wireEncode m A cap W (hA.below k) hlen
  unfold encE at KE
  rw [hg, if_neg (by simp)] at KE
  subst h0
  obtain ⟨g1, g2⟩ := enc_dec hd
  have KE2 := Lib.hid fun W B c (hB : PairsAt W B dm.table) => wireEncode dm B c W hB (by have := Wire.good_short g1; omega)
  unfold encE at KE2
  rw [g1, g2, if_pos rfl] at KE2
  clear g1 g2
  clear hd hg hA hcm hlen hL hS
  unfold msgV msgCells at *
  go_enter Try.func6, Try.ntmps6
  go_wp2_with (first | (go_at_call 15; (with_reducible refine (law6Alive _).mono ?_); rintro e w1 ⟨rfl, hok⟩; obtain ⟨p0, p1, p2, p3, p4, p5, p6, p7, p8, p9, p10, p11, p12, p13⟩ := cells14 (HO.out.next hok)) | (go_at_call 11; (with_reducible refine (KL.out _).mono ?_); rintro e w2 ⟨rfl, hb⟩; replace hok := hok.trans hb; clear hb; obtain ⟨p0, p1, p2, p3, p4, p5, p6, p7, p8, p9, p10, p11, p12, p13⟩ := cells14 (HO.out.next hok)) | (go_at_call 16; (with_reducible refine (KE.out _ (HW.out.trans hok)).mono ?_); rintro e w2 ⟨rfl, hb⟩; replace hok := hok.trans hb; clear hb) | (go_at_call 18; (with_reducible refine (KD.out _).mono ?_); rintro e w5 ⟨A2, c2, rfl, hP2, hb⟩; replace hok := hok.trans hb; clear hb) | (go_at_call 16; (with_reducible refine (KE2.out _ _ _ (hP2.alloc _)).mono ?_); rintro e w6 ⟨rfl, hb⟩; replace hok := (hok.alloc _).trans hb; clear hb))
  go_ret
  exact ⟨rfl, HW.out.trans hok⟩
set_option maxHeartbeats 3200000 in
theorem walkBB (w : World) (m : Msg) (A : Option Addr) (cap : Nat) (hA : PairsAt w A m.table) (hcm : m.table.length ≤ maxLen) (s : ByteArray) (dm : Msg) (dn : Int) (hd : decOf (strL s) = (dm, dn)) (hL : ¬ 1024 < m.table.length) (hS : ¬ 8192 < s.size) (hg : Wire.good m = false) (h0 : ¬ dn = 0) :
    Calls Try.prog 6 #[msgV m A cap, .string s] w fun e w' => e = .returned (.bool true) ∧ Ok w w' := by
  have hlen : m.table.length ≤ 9223372036854775807 := by unfold maxLen at hcm; omega
  have KL := Lib.hid fun W => law6Long m A cap W
  have HO := Lib.hid (Own.new w (msgCells m A cap) 28 rfl)
  have HW := Lib.hid ((Ok.refl w).alloc (.cells (msgCells m A cap) 28))
  rw [decide_eq_false hL] at KL
  have hSd : decide ((8192 : Int) < (s.size : Int)) = false := decide_eq_false (by omega)
  have KD := Lib.hid (decP s dm dn hd)
  have KE := Lib.hid fun W (k : Ok w W) => wireEncode m A cap W (hA.below k) hlen
  unfold encE at KE
  rw [hg, if_neg (by simp)] at KE
  have hdn : (dn != 0) = true := by rw [bne_iff_ne]; exact h0
  clear hd hg hA hcm hlen hL hS h0
  unfold msgV msgCells at *
  go_enter Try.func6, Try.ntmps6
  go_wp2_with (first | (go_at_call 15; (with_reducible refine (law6Alive _).mono ?_); rintro e w1 ⟨rfl, hok⟩; obtain ⟨p0, p1, p2, p3, p4, p5, p6, p7, p8, p9, p10, p11, p12, p13⟩ := cells14 (HO.out.next hok)) | (go_at_call 11; (with_reducible refine (KL.out _).mono ?_); rintro e w2 ⟨rfl, hb⟩; replace hok := hok.trans hb; clear hb; obtain ⟨p0, p1, p2, p3, p4, p5, p6, p7, p8, p9, p10, p11, p12, p13⟩ := cells14 (HO.out.next hok)) | (go_at_call 16; (with_reducible refine (KE.out _ (HW.out.trans hok)).mono ?_); rintro e w2 ⟨rfl, hb⟩; replace hok := hok.trans hb; clear hb) | (go_at_call 18; (with_reducible refine (KD.out _).mono ?_); rintro e w5 ⟨A2, c2, rfl, hP2, hb⟩; replace hok := hok.trans hb; clear hb))
  go_ret
  exact ⟨rfl, HW.out.trans (hok.alloc _)⟩
theorem walk (w : World) (m : Msg) (A : Option Addr) (cap : Nat) (hA : PairsAt w A m.table) (hc : m.table.length ≤ cap) (hcm : cap ≤ maxLen) (wm : MsgWf m) (s : ByteArray) (ws : s.size ≤ maxLen) :
    Calls Try.prog 6 #[msgV m A cap, .string s] w fun e w' => e = .returned (.bool true) ∧ Below w.heap.size w w' := by
  have hl : m.table.length ≤ maxLen := by omega
  obtain ⟨dm, dn, hd⟩ : ∃ dm dn, decOf (strL s) = (dm, dn) := ⟨_, _, rfl⟩
  by_cases h1 : 1024 < m.table.length
  · exact walkL w m A cap hA hl s h1
  by_cases h2 : 8192 < s.size
  · exact walkS w m A cap hA hl s h1 h2
  by_cases h0 : dn = 0
  · cases hg : Wire.good m with
    | true => exact walkGG w m A cap hA hl s dm dn hd h1 h2 hg h0
    | false => exact walkBG w m A cap hA hl s dm dn hd h1 h2 hg h0
  · cases hg : Wire.good m with
    | true => exact walkGB w m A cap hA hl s dm dn hd h1 h2 hg h0
    | false => exact walkBB w m A cap hA hl s dm dn hd h1 h2 hg h0
theorem own : ownKnob Try.prog.godebug = none := by kernel_rfl
theorem laidOut : laidOutB Try.prog = true := by kernel_rfl
set_option maxRecDepth 100000 in
theorem lifted (os : Os) (started : os.Started) (H : Type) (enc : TypeId × Value → H) :
    ReturnsInHanded {} Try.checked os 6 .any (Rows.wireBackSpec.pre6 enc Try.prog Try.f6 Rows.wireBackRow.domain false) (Rows.wireBackSpec.post enc Try.prog Try.f6 false true false false) := by
  refine returnsInHanded_of_change (C := Try.checked) own started (by kernel_rfl) Try.func6
    (ChangeSpec.witness6 (enc := enc) (C := Try.checked) false ⟨#[], #[.agg #[.int .i64 0, .int .i64 0, .int .i64 0, .int .i64 0, .int .i64 0, .int .i64 0, .bool false, .bool false, .int .i64 0, .int .i64 0, .int .i64 0, .int .i64 0, .int .i64 0, .slice none 0 0], .string ⟨#[]⟩], []⟩ 8 (by kernel_rfl) (by kernel_rfl) (by kernel_rfl) (by kernel_rfl)) ?_
  intro W base args ds gs before hval0 hW _ _
  have hval : ∀ (j : Nat) t v, Try.f6.params[j]? = some t → args[j]? = some v → Value.okWide Try.prog W .any base t v := hval0
  have hW' := hW
  obtain ⟨p, q, hA, hV, rfl, _, _⟩ := hW
  obtain ⟨rfl, rfl⟩ := trodVars_none hV
  replace hA : DataW.TrodAll enc Try.prog W 0 (fun _ => true) true Try.f6.params.toList args.toList ds p := hA
  rw [Try.params6] at hA hval
  obtain ⟨v0, vs0, d0, ds0, p0, q0, hargs, rfl, rfl, h0, r0⟩ := trodAll_cons hA
  obtain ⟨v1, vs1, d1, ds1, p1, q1, rfl, rfl, rfl, h1, r1⟩ := trodAll_cons r0
  obtain ⟨rfl, rfl, rfl⟩ := trodAll_nil r1
  obtain rfl : args = #[v0, v1] := by cases args; simp_all
  obtain ⟨m0, A0, c0, rfl, hA0, hc0, hm0, w0⟩ := open_msg (hval 0 28 v0 rfl rfl) h0
  obtain ⟨a1, rfl, rfl, rfl, w1⟩ := Go.ChangeMaps.open_string Try.underlying9 (hval 1 9 v1 rfl rfl) h1
  refine (walk W m0 A0 c0 hA0 hc0 hm0 w0 a1 w1).mono fun e W' ⟨he, hb⟩ => ?_
  subst he
  exact ⟨_, rfl, law_post hW' laidOut (by rw [Try.params6]; exact params_ok (by kernel_rfl)) rfl (by kernel_rfl) Try.underlying4 rfl rfl rfl hb⟩
theorem over : Rows.wireBackRow.holds Try.pinned (OpenSpec.ofChange Rows.wireBackSpec) :=
  OpenClaim.holds_of_wide 6 Try.f6 rfl rfl rfl rfl rfl rfl rfl ⟨rfl, rfl, rfl, rfl, rfl⟩ rfl rfl rfl rfl rfl (by kernel_rfl) Try.func6 (by kernel_rfl)
    (of_decide_eq_true (by kernel_rfl)) (by unfold Func.isWrapper; first | (rw [if_pos (by decide +kernel)]; kernel_rfl) | (rw [if_neg (by decide +kernel)]; exact ⟨rfl, rfl⟩))
    (fun os started H enc _ => lifted os started H enc)
theorem proved : Rows.WireBackSaid := over
end Go.Proofs.Ythhdhoaicoaokaa.wireBack
