/- Several texts of mine in one: C23j, C19g, C23k, C23l. -/
import Derived.Test.YtmokofblmkeloaaGreatDoorP37
import Derived.Test.YtmokofblmkeloaaGreatDoorC23h
import Derived.Test.YtmokofblmkeloaaGreatDoorC23g
import Derived.Test.YtmokofblmkeloaaGreatDoorP30
import Derived.Test.YtmokofblmkeloaaGreatDoorC19f
import Derived.Test.YtmokofblmkeloaaGreatDoorCards
import Derived.Test.YtmokofblmkeloaaGreatDoorTie
import Derived.Test.YtmokofblmkeloaaGreatDoorB03
import Derived.Test.YtmokofblmkeloaaGreatDoorP26
import Derived.Test.YtmokofblmkeloaaGreatDoorP35
import Derived.Test.YtmokofblmkeloaaGreatDoorP45
import Derived.Test.YtmokofblmkeloaaGreatDoorB00
import Derived.Deep.DeepHandedRow
import Derived.Lib.LaidTab
import Derived.LaidSub
namespace Go.Proofs.YtmokofblmkeloaaGreatDoor
open Go.RowKit
set_option linter.unusedVariables false
set_option maxRecDepth 100000
attribute [local go_sem ↓] Go.wp_at_zero Go.wp_at_succ
theorem ha23_at {w w' : World} {T : TypeId} {b : Nat} (hb : b = w.heap.size) (k : Ok (w.alloc (.cells (haL ha23).toArray T)) w') : HeardsAt w' (some ⟨b, 0, none⟩) [ha23] :=
  ⟨CellsAt.below (CellsAt.new w T (haL ha23).toArray (by simp) hb) k, fun x hx => by rw [List.mem_singleton] at hx; subst hx; exact PairsAt.empty _ _⟩
theorem OnlyN.heards23 {g b : Nat} {w w' : World} (h : OnlyN g b w w') {Hb : Nat} (hH : HeardsAt w (some ⟨Hb, 0, none⟩) [ha23]) (h1 : Hb ≠ g) (h2 : Hb ≠ b) : HeardsAt w' (some ⟨Hb, 0, none⟩) [ha23] :=
  ⟨h.cells hH.cells fun a e => by cases e; exact ⟨h1, h2⟩, fun x hx => by rw [List.mem_singleton] at hx; subst hx; exact PairsAt.empty _ _⟩
theorem in23_ok (B : Option Addr) (c : Nat) : (in23 B c).heard.length ≤ 1000 ∧ (∀ h ∈ (in23 B c).heard, (Lit.int .i64 h.m.frm).wf = true) ∧ ∀ h ∈ (in23 B c).heard, h.m.table.length ≤ 8796093022208 := by
  refine ⟨by simp [in23], fun h hh => ?_, fun h hh => ?_⟩
  · have : h = ha23 := List.mem_singleton.1 hh
    subst this
    decide
  · have : h = ha23 := List.mem_singleton.1 hh
    subst this
    simp [ha23]
set_option maxHeartbeats 3200000 in
theorem law23Alive (w : World) (hpow : Pow w) : Calls Tryz.prog 8 #[] w fun e w' => e = .returned (.bool true) ∧ Ok w w' := by
  have hok := Ok.refl w
  have KN := Lib.hid fun w => nodeNew par23 20 zeroSta none 0 w (PairsAt.empty _ _) (by decide)
  rw [san23] at KN
  obtain ⟨f1, hf1⟩ : ∃ y, (Nod.known HA.hd 20 Mem.nobody [ha23]).2 = y := ⟨_, rfl⟩
  obtain ⟨s1, hs1⟩ : ∃ y, Health.stamped (Nod.state par23 zeroSta 1000 []) = y := ⟨_, rfl⟩
  obtain ⟨m1, hm1⟩ : ∃ y, Nod.say par23 20 (Nod.state par23 zeroSta 1000 []) = y := ⟨_, rfl⟩
  obtain ⟨S2, hS2⟩ : ∃ y, Nod.state par23 s1 1000 [ha23.hd] = y := ⟨_, rfl⟩
  obtain ⟨m2, hm2⟩ : ∃ y, Nod.say par23 20 S2 = y := ⟨_, rfl⟩
  obtain ⟨f2, hf2⟩ : ∃ y, (Nod.known HA.hd 20 (Mem.tick 2 f1) [ha23]).2 = y := ⟨_, rfl⟩
  have e1 : m1.hops = 5 := by rw [← hm1]; exact st23a
  have e2 : m1.good = false := by rw [← hm1]; exact st23a2
  have e3 : m2.hops = 2 := by rw [← hm2, ← hS2, ← hs1]; exact st23b
  have e4 : m2.good = true := by rw [← hm2, ← hS2, ← hs1]; exact st23b2
  have e5 : (Mem.nums (Mem.tick 2 f2)).length = 1 := by rw [← hf2, ← hf1]; exact nr23
  have e6 : s1.table.length = 0 := by rw [← hs1]; exact st23a3
  have e7 : ((Nod.known HA.hd 20 (Mem.tick 2 f1) [ha23]).1).map HA.hd = [ha23.hd] := by rw [← hf1]; exact kn23b
  have KB := Lib.hid fun w G t b A c h hA B cc hx hp => nodeBeat G t b 20 par23 zeroSta A c Mem.nobody (in23 B cc) w h hA (by decide) hx (in23_ok B cc).1 (in23_ok B cc).2.1 (in23_ok B cc).2.2 (by decide) (by decide) hp
  have KC := Lib.hid fun w G t b A c h hA B cc hx hp => nodeBeat G t b 20 par23 s1 A c (Mem.tick 2 f1) (in23 B cc) w h hA (by rw [e6]; decide) hx (in23_ok B cc).1 (in23_ok B cc).2.1 (in23_ok B cc).2.2 (by decide) (by decide) hp
  have ei : ∀ B cc, (in23 B cc).heard = [ha23] := fun _ _ => rfl
  have et : ∀ B cc, (in23 B cc).ticks = 1000 := fun _ _ => rfl
  have eI : ∀ B cc, inV (in23 B cc) = .agg #[.int .i64 1000, .slice B 1 cc, .bool false, .int .i64 0, .bool false, .slice none 0 0] := fun _ _ => rfl
  simp only [ei, et, eI, kn23a, List.map_nil, hf1, hs1, hm1, e7, hS2, hm2, hf2] at KB KC
  unfold msgV at KB KC
  rw [e1, e2] at KB
  rw [e3, e4] at KC
  have hz : ∀ w, Sem.run Tryz.prog (zeroValue 30) w = .ok (.agg #[.int .i64 0, .int .i64 0, .int .i64 0, .bool false, .int .i64 0, .int .i64 0, .bool false, .slice none 0 0, .int .i64 0, .int .i64 0, .int .i64 0]) w := fun w => by kernel_rfl
  have hzi : ∀ w, Sem.run Tryz.prog (zeroValue 49) w = .ok (.agg #[.int .i64 0, .slice none 0 0, .bool false, .int .i64 0, .bool false, .slice none 0 0]) w := fun w => by kernel_rfl
  have hzm : ∀ w, Sem.run Tryz.prog (zeroValue 51) w = .ok (.agg #[.int .i64 0, .int .i64 0, .int .i64 0, .int .i64 0, .int .i64 0, .int .i64 0, .bool false, .bool false, .int .i64 0, .int .i64 0, .int .i64 0, .int .i64 0, .int .i64 0, .slice none 0 0]) w := fun w => by kernel_rfl
  have hzh : ∀ w, Sem.run Tryz.prog (zeroValue 65) w = .ok (.agg #[.int .i64 0, .int .i64 0, .int .i64 0, .int .i64 0, .int .i64 0, .int .i64 0, .bool false, .bool false, .int .i64 0, .int .i64 0, .int .i64 0, .int .i64 0, .int .i64 0, .slice none 0 0, .int .i64 0]) w := fun w => by kernel_rfl
  have HE := Lib.hid e5
  have HS : Hid ((Nod.state par23 zeroSta 1000 []).table = s1.table) := Lib.hid (by rw [← hs1]; rfl)
  clear hf1 hs1 hm1 hS2 hm2 hf2 e1 e2 e3 e4 e5 e7 ei et eI
  go_enter Tryz.func8, Tryz.ntmps8
  go_upto_region 4 with (first | (go_at_call 26; (with_reducible refine (law23Some _).mono ?_); rintro e w1 ⟨rfl, hb1⟩; replace hok := hok.trans hb1; clear hb1) | (go_at_call 10; refine (KN.out _).mono ?_; rintro e w2 ⟨G, tt, b, A2, c2, rfl, hO, hT, hG, hAG, hb1⟩; have hwG := Nat.le_trans hok.size hG.1; have hwB := Nat.le_trans hok.size hG.2.2; replace hok := hok.trans hb1; clear hb1 hG))
  have hA := hT.pairs.1
  clear hT
  go_upto_region 5 with fail
  have hl2 := hO.lt
  have hX := Own.new (w2.alloc (.cells (haL ha23).toArray 65)) #[.int .i64 1000, .slice (some ⟨w2.heap.size, 0, none⟩) 1 1, .bool false, .int .i64 0, .bool false, .slice none 0 0] 49 rfl
  have hHd := ha23_at (w := w2) (T := 65) rfl ((Ok.refl _).alloc (.cells #[.int .i64 1000, .slice (some ⟨w2.heap.size, 0, none⟩) 1 1, .bool false, .int .i64 0, .bool false, .slice none 0 0] 49))
  rw [show (w2.alloc (.cells (haL ha23).toArray 65)).heap.size = w2.heap.size + 1 by unfold World.alloc; exact Array.size_push _] at hX
  change Code.wp _ _ _ _ ((w2.alloc (.cells (haL ha23).toArray 65)).alloc (.cells #[.int .i64 1000, .slice (some ⟨w2.heap.size, 0, none⟩) 1 1, .bool false, .int .i64 0, .bool false, .slice none 0 0] 49))
  have k2 := ((Ok.refl w2).alloc (.cells (haL ha23).toArray 65)).trans ((Ok.refl _).alloc (.cells #[.int .i64 1000, .slice (some ⟨w2.heap.size, 0, none⟩) 1 1, .bool false, .int .i64 0, .bool false, .slice none 0 0] 49))
  replace hO := hO.next k2
  replace hA := hA.below k2
  replace hok := hok.trans k2
  clear k2
  generalize (w2.alloc (.cells (haL ha23).toArray 65)).alloc (.cells #[.int .i64 1000, .slice (some ⟨w2.heap.size, 0, none⟩) 1 1, .bool false, .int .i64 0, .bool false, .slice none 0 0] 49) = W3 at hX hHd hO hA hok ⊢
  obtain ⟨Hb, eHb⟩ : ∃ y, w2.heap.size = y := ⟨_, rfl⟩
  rw [eHb] at hX hHd hl2 ⊢
  clear eHb
  have KH : Hid (G < Hb ∧ b < Hb) := Lib.hid ⟨hl2.1, hl2.2.2⟩
  clear hl2
  have hp3 := hpow.next hok
  have x0 := hX.atL 0 rfl; have x1 := hX.atL 1 rfl; have x2 := hX.atL 2 rfl; have x3 := hX.atL 3 rfl; have x4 := hX.atL 4 rfl; have x5 := hX.atL 5 rfl; have hxl := hX.lt
  go_upto_region 6 with (go_at_call 13; refine (KB.out _ _ _ _ _ _ hO hA (some ⟨Hb, 0, none⟩) 1 hHd hp3).mono ?_; rintro e w4 ⟨A3, c3, A4, c4, rfl, hO2, hT2, -, hon, -⟩; clear x0 x1 x2 x3 x4 x5 hxl; replace hX := hon.own hX (by have := KH.out; omega) (by have := KH.out; omega); replace hHd := hon.heards23 hHd (by have := KH.out; omega) (by have := KH.out; omega); replace hok := hon.then_ok hok hwG hwB; clear hon hO hA hp3)
  have hA2 := hT2.pairs.1
  clear hT2
  rw [HS.out] at hA2
  have k4 := (Ok.refl w4).alloc (.cells #[.int .i64 m1.kind, .int .i64 m1.frm, .int .i64 m1.lo, .int .i64 m1.hi, .int .i64 m1.held, .int .i64 5, .bool false, .bool m1.ref, .int .i64 m1.slo, .int .i64 m1.shi, .int .i64 m1.pulse, .int .i64 m1.time, .int .i64 m1.num, .slice A3 m1.table.length c3] 51)
  have hM := Own.new w4 #[.int .i64 m1.kind, .int .i64 m1.frm, .int .i64 m1.lo, .int .i64 m1.hi, .int .i64 m1.held, .int .i64 5, .bool false, .bool m1.ref, .int .i64 m1.slo, .int .i64 m1.shi, .int .i64 m1.pulse, .int .i64 m1.time, .int .i64 m1.num, .slice A3 m1.table.length c3] 51 rfl
  change Code.wp _ _ _ _ (w4.alloc (.cells #[.int .i64 m1.kind, .int .i64 m1.frm, .int .i64 m1.lo, .int .i64 m1.hi, .int .i64 m1.held, .int .i64 5, .bool false, .bool m1.ref, .int .i64 m1.slo, .int .i64 m1.shi, .int .i64 m1.pulse, .int .i64 m1.time, .int .i64 m1.num, .slice A3 m1.table.length c3] 51))
  have hGM : G < w4.heap.size ∧ b < w4.heap.size := ⟨hO2.lt.1, hO2.lt.2.2⟩
  replace hO2 := hO2.next k4
  replace hX := hX.next k4
  replace hA2 := hA2.below k4
  replace hHd := hHd.below k4
  replace hok := hok.trans k4
  clear k4
  generalize w4.alloc (.cells #[.int .i64 m1.kind, .int .i64 m1.frm, .int .i64 m1.lo, .int .i64 m1.hi, .int .i64 m1.held, .int .i64 5, .bool false, .bool m1.ref, .int .i64 m1.slo, .int .i64 m1.shi, .int .i64 m1.pulse, .int .i64 m1.time, .int .i64 m1.num, .slice A3 m1.table.length c3] 51) = W5 at hX hHd hO2 hA2 hM hok ⊢
  generalize w4.heap.size = M at hM hGM ⊢
  have KM := Lib.hid hGM
  clear hGM
  have hp3 := hpow.next hok
  have x0 := hX.atL 0 rfl; have x1 := hX.atL 1 rfl; have x2 := hX.atL 2 rfl; have x3 := hX.atL 3 rfl; have x4 := hX.atL 4 rfl; have x5 := hX.atL 5 rfl; have hxl := hX.lt
  go_upto_region 7 with (go_at_call 13; refine (KC.out _ _ _ _ _ _ hO2 hA2 (some ⟨Hb, 0, none⟩) 1 hHd hp3).mono ?_; rintro e w6 ⟨A5, c5, A6, c6, rfl, hO3, -, -, hon, -⟩; clear x0 x1 x2 x3 x4 x5 hxl; replace hM := hon.own hM (by have := KM.out; omega) (by have := KM.out; omega); replace hok := hon.then_ok hok hwG hwB; clear hon hO2 hA2 hp3 hX hHd)
  have k6 := (Ok.refl w6).alloc (.cells #[.int .i64 m2.kind, .int .i64 m2.frm, .int .i64 m2.lo, .int .i64 m2.hi, .int .i64 m2.held, .int .i64 2, .bool true, .bool m2.ref, .int .i64 m2.slo, .int .i64 m2.shi, .int .i64 m2.pulse, .int .i64 m2.time, .int .i64 m2.num, .slice A5 m2.table.length c5] 51)
  have hM2 := Own.new w6 #[.int .i64 m2.kind, .int .i64 m2.frm, .int .i64 m2.lo, .int .i64 m2.hi, .int .i64 m2.held, .int .i64 2, .bool true, .bool m2.ref, .int .i64 m2.slo, .int .i64 m2.shi, .int .i64 m2.pulse, .int .i64 m2.time, .int .i64 m2.num, .slice A5 m2.table.length c5] 51 rfl
  change Code.wp _ _ _ _ (w6.alloc (.cells #[.int .i64 m2.kind, .int .i64 m2.frm, .int .i64 m2.lo, .int .i64 m2.hi, .int .i64 m2.held, .int .i64 2, .bool true, .bool m2.ref, .int .i64 m2.slo, .int .i64 m2.shi, .int .i64 m2.pulse, .int .i64 m2.time, .int .i64 m2.num, .slice A5 m2.table.length c5] 51))
  replace hO3 := hO3.next k6
  replace hM := hM.next k6
  replace hok := hok.trans k6
  clear k6
  generalize w6.alloc (.cells #[.int .i64 m2.kind, .int .i64 m2.frm, .int .i64 m2.lo, .int .i64 m2.hi, .int .i64 m2.held, .int .i64 2, .bool true, .bool m2.ref, .int .i64 m2.slo, .int .i64 m2.shi, .int .i64 m2.pulse, .int .i64 m2.time, .int .i64 m2.num, .slice A5 m2.table.length c5] 51) = W7 at hO3 hM hM2 hok ⊢
  generalize w6.heap.size = M2 at hM2 ⊢
  have q5 := hM.atL 5 (v := .int .i64 5) rfl
  have q6 := hM.atL 6 (v := .bool false) rfl
  have hml := hM.lt
  have r5 := hM2.atL 5 (v := .int .i64 2) rfl
  have r6 := hM2.atL 6 (v := .bool true) rfl
  have hnl := hM2.lt
  have KR := Lib.hid (nodeNear _ _ _ _ _ _ _ _ _ _ hO3)
  unfold NearEnd at KR
  rw [HE.out] at KR
  clear hM hM2 hO3
  go_wp2_with (go_at_call 17; refine KR.out.mono ?_; rintro e w8 ⟨C, c, rfl, -, -, hb1⟩; replace hok := hok.trans hb1; clear hb1 q5 q6 hml r5 r6 hnl)
  go_ret
  exact ⟨rfl, hok⟩
end Go.Proofs.YtmokofblmkeloaaGreatDoor
namespace Go.Proofs.YtmokofblmkeloaaGreatDoor
open Go.ChangeShapes Go.WideShapes Go.ChangeAt Go.RowKit
set_option maxRecDepth 100000
attribute [local go_sem ↓] Go.wp_at_zero Go.wp_at_succ
theorem gPow : Tryz.prog.globalNamed "internal/strconv.uint64pow10" = some 0 := by kernel_rfl
theorem gPowType : (Tryz.prog.globals[0]?).map (·.type) = some 246 := by kernel_rfl
/-- What the list gives. -/
theorem tab_of {W : World} (h : laidMetH Tryz.prog [("math/bits.deBruijn32tab", Rows.laid_math_bits_deBruijn32tab), ("math/bits.deBruijn64tab", Rows.laid_math_bits_deBruijn64tab), ("internal/strconv.uint64pow10", Rows.laid_internal_strconv_uint64pow10)] W) : Pow W := by
  have h2 : laidMetH Tryz.prog [("internal/strconv.uint64pow10", Rows.laid_internal_strconv_uint64pow10)] W := laidMetH.filter (fun x => x.1 == "internal/strconv.uint64pow10") h
  exact Lib.tabIs_of_head (rest := []) gPow gPowType Tryz.underlying246 Tryz.underlying181 (by kernel_rfl) (by kernel_rfl) h2
def setTab (cs : Array Value) : Obj → Obj
  | .cells _ t frozen => .cells cs t frozen
  | o => o
/-- A world in which the tables lie as their initialisers lay them. -/
noncomputable def laidWorld (os : Os) : World :=
  { World.holding Tryz.prog os ⟨#[], #[], []⟩ with heap := ((((World.holding Tryz.prog os ⟨#[], #[], []⟩).heap.modify 1 (setTab #[.int .u8 0, .int .u8 1, .int .u8 28, .int .u8 2, .int .u8 29, .int .u8 14, .int .u8 24, .int .u8 3, .int .u8 30, .int .u8 22, .int .u8 20, .int .u8 15, .int .u8 25, .int .u8 17, .int .u8 4, .int .u8 8, .int .u8 31, .int .u8 27, .int .u8 13, .int .u8 23, .int .u8 21, .int .u8 19, .int .u8 16, .int .u8 7, .int .u8 26, .int .u8 12, .int .u8 18, .int .u8 6, .int .u8 11, .int .u8 5, .int .u8 10, .int .u8 9])).modify 2 (setTab #[.int .u8 0, .int .u8 1, .int .u8 56, .int .u8 2, .int .u8 57, .int .u8 49, .int .u8 28, .int .u8 3, .int .u8 61, .int .u8 58, .int .u8 42, .int .u8 50, .int .u8 38, .int .u8 29, .int .u8 17, .int .u8 4, .int .u8 62, .int .u8 47, .int .u8 59, .int .u8 36, .int .u8 45, .int .u8 43, .int .u8 51, .int .u8 22, .int .u8 53, .int .u8 39, .int .u8 33, .int .u8 30, .int .u8 24, .int .u8 18, .int .u8 12, .int .u8 5, .int .u8 63, .int .u8 55, .int .u8 48, .int .u8 27, .int .u8 60, .int .u8 41, .int .u8 37, .int .u8 16, .int .u8 46, .int .u8 35, .int .u8 44, .int .u8 21, .int .u8 52, .int .u8 32, .int .u8 23, .int .u8 11, .int .u8 54, .int .u8 26, .int .u8 40, .int .u8 15, .int .u8 34, .int .u8 20, .int .u8 31, .int .u8 10, .int .u8 25, .int .u8 14, .int .u8 19, .int .u8 9, .int .u8 13, .int .u8 8, .int .u8 7, .int .u8 6])).modify 0 (setTab #[.int .u64 1, .int .u64 10, .int .u64 100, .int .u64 1000, .int .u64 10000, .int .u64 100000, .int .u64 1000000, .int .u64 10000000, .int .u64 100000000, .int .u64 1000000000, .int .u64 10000000000, .int .u64 100000000000, .int .u64 1000000000000, .int .u64 10000000000000, .int .u64 100000000000000, .int .u64 1000000000000000, .int .u64 10000000000000000, .int .u64 100000000000000000, .int .u64 1000000000000000000, .int .u64 10000000000000000000])) }
end Go.Proofs.YtmokofblmkeloaaGreatDoor
namespace Go.Proofs.YtmokofblmkeloaaGreatDoor
open Go.RowKit
set_option linter.unusedVariables false
set_option maxRecDepth 100000
theorem saneTable23 (p : Par) (u : Sta) : (Health.sane p u).table.length ≤ 1000 := by
  show (if Leap.good u.table = true then u.table else []).length ≤ 1000
  split
  · next h =>
    unfold Leap.good Wire.tab at h
    simp only [Bool.and_eq_true, decide_eq_true_eq] at h
    omega
  · simp
/-- Two nodes, one apart from the other. -/
structure Two (w0 : World) (G t b H u c : Nat) (p : Par) (sg : Sta) (Ag : Option Addr) (cg : Nat) (fg : NF) (sh : Sta) (Ah : Option Addr) (ch : Nat) (fh : NF) (w : World) : Prop where
  ok : Ok w0 w
  g : NodeAt w G t b 20 p sg Ag cg fg
  pg : PairsAt w Ag sg.table
  h : NodeAt w H u c 20 p sh Ah ch fh
  ph : PairsAt w Ah sh.table
  hg : (H ≠ G ∧ u ≠ G ∧ c ≠ G) ∧ (H ≠ b ∧ u ≠ b ∧ c ≠ b)
  gh : (G ≠ H ∧ t ≠ H ∧ b ≠ H) ∧ (G ≠ c ∧ t ≠ c ∧ b ≠ c)
  tg : ∀ a, Ag = some a → a.block ≠ H ∧ a.block ≠ c
  th : ∀ a, Ah = some a → a.block ≠ G ∧ a.block ≠ b
  log : w0.heap.size ≤ G ∧ w0.heap.size ≤ b
  loh : w0.heap.size ≤ H ∧ w0.heap.size ≤ c
namespace Two
variable {w0 w w1 : World} {G t b H u c : Nat} {p : Par} {sg sh : Sta} {Ag Ah : Option Addr} {cg ch : Nat} {fg fh : NF}
theorem swap (h : Two w0 G t b H u c p sg Ag cg fg sh Ah ch fh w) : Two w0 H u c G t b p sh Ah ch fh sg Ag cg fg w := ⟨h.ok, h.h, h.ph, h.g, h.pg, h.gh, h.hg, h.th, h.tg, h.loh, h.log⟩
theorem next (h : Two w0 G t b H u c p sg Ag cg fg sh Ah ch fh w) (k : Ok w w1) : Two w0 G t b H u c p sg Ag cg fg sh Ah ch fh w1 := ⟨h.ok.trans k, h.g.next k, h.pg.below k, h.h.next k, h.ph.below k, h.hg, h.gh, h.tg, h.th, h.log, h.loh⟩
end Two
/-- What a state becomes by a beat, what is told, and who is known then. -/
def Nod.told (p : Par) (s : Sta) (f : NF) (x : In) : Msg := Nod.say p 20 (Nod.state p s x.ticks ((Nod.known HA.hd 20 f x.heard).1.map HA.hd))
def Nod.then (p : Par) (s : Sta) (f : NF) (x : In) : Sta := Health.stamped (Nod.state p s x.ticks ((Nod.known HA.hd 20 f x.heard).1.map HA.hd))
end Go.Proofs.YtmokofblmkeloaaGreatDoor
namespace Go.Proofs.YtmokofblmkeloaaGreatDoor
open Go.RowKit Go.ChangeShapes Go.WideShapes
set_option linter.unusedVariables false
def tldcells (t : Tl) : List Value := [.int .i64 t.less, .int .i64 t.more, .int .i64 t.way, .int .i64 t.off, .int .i64 t.held]
theorem tldcells_len : ∀ t, (tldcells t).length = 5 := fun _ => rfl
def tldok (t : Tl) : Prop := (Lit.int .i64 t.less).wf = true ∧ (Lit.int .i64 t.more).wf = true ∧ (Lit.int .i64 t.way).wf = true ∧ (Lit.int .i64 t.off).wf = true ∧ (Lit.int .i64 t.held).wf = true
def tldkinds : List Kind := [.int, .int, .int, .int, .int]
theorem tldlen : ∀ t, (tldcells t).length = tldkinds.length := fun _ => rfl
theorem tldof : ∀ r, Kind.rows tldkinds r → ∃ t, r = tldcells t ∧ tldok t
  | [x, y, z, u, v], ⟨⟨a, ha, ha'⟩, ⟨b, hb, hb'⟩, ⟨c, hc, hc'⟩, ⟨d, hd, hd'⟩, ⟨e, he, he'⟩, _⟩ => ⟨⟨a, b, c, d, e⟩, by rw [ha, hb, hc, hd, he]; rfl, ha', hb', hc', hd', he'⟩
  | [], h => h.elim
  | [_], h => h.2.elim
  | [_, _], h => h.2.2.elim
  | [_, _, _], h => h.2.2.2.elim
  | [_, _, _, _], h => h.2.2.2.2.elim
  | _ :: _ :: _ :: _ :: _ :: _ :: _, h => h.2.2.2.2.2.elim
theorem tld_at {w : World} {A : Option Addr} {l : List Tl} (h : CellsAt w A (l.flatMap tldcells)) (k : Nat) (hk : k < l.length) :
    ∃ b off, A = some ⟨b, off, none⟩ ∧ b < w.heap.size ∧ w.cell? ⟨b, off + k * 5, none⟩ = some (.int .i64 l[k].less) ∧ w.cell? ⟨b, off + k * 5 + 1, none⟩ = some (.int .i64 l[k].more) ∧ w.cell? ⟨b, off + k * 5 + 2, none⟩ = some (.int .i64 l[k].way) ∧ w.cell? ⟨b, off + k * 5 + 3, none⟩ = some (.int .i64 l[k].off) ∧ w.cell? ⟨b, off + k * 5 + 4, none⟩ = some (.int .i64 l[k].held) := by
  obtain ⟨b, off, e, hlt, hc⟩ := h.at tldcells_len (by decide) k hk
  exact ⟨b, off, e, hlt, hc 0 _ rfl, hc 1 _ rfl, hc 2 _ rfl, hc 3 _ rfl, hc 4 _ rfl⟩
/-- A message without a table, as a row's. -/
def plainA (h : Hd) : HA := ⟨h.m, none, 0, h.age⟩
theorem plainA_hd (h : Hd) : (plainA h).hd = h := rfl
theorem plain_tab (w : World) : ∀ (l : List Hd), (∀ h ∈ l, h.m.table = []) → ∀ x ∈ l.map plainA, PairsAt w x.A x.m.table := fun l hl x hx => by
  obtain ⟨h, hh, rfl⟩ := List.mem_map.1 hx
  show PairsAt w none h.m.table
  rw [hl h hh]
  exact PairsAt.empty _ _
theorem plain_hds (l : List Hd) : (l.map plainA).map HA.hd = l := by
  rw [List.map_map, show HA.hd ∘ plainA = id from funext plainA_hd, List.map_id]
/-- Whatever it is, told by gateway n + j; and its row. -/
def lieN (n : Nat) (h : HA) (j : Nat) : HA := ⟨{ h.m with frm := (n + j : Nat) }, h.A, h.cap, h.age⟩
def noN : HA := ⟨Gate.noH.m, none, 0, Gate.noH.age⟩
def lieNs (n : Nat) (l : List HA) (m : Nat) : List HA := (List.range m).map fun j => lieN n (l.getD j noN) j
theorem lieNs_next (n : Nat) (l : List HA) (m : Nat) : lieNs n l (m + 1) = lieNs n l m ++ [lieN n (l.getD m noN) m] := by
  unfold lieNs
  rw [List.range_succ, List.map_append]
  rfl
theorem lieNs_len (n : Nat) (l : List HA) (m : Nat) : (lieNs n l m).length = m := by simp [lieNs]
theorem getD_in23 {X : Type} {l : List X} {j : Nat} (hj : j < l.length) (d : X) : l.getD j d = l[j] := by simp [List.getD, hj]
theorem lieNs_hds (n : Nat) (l : List HA) : (lieNs n l l.length).map HA.hd = Gate.liars n (l.map HA.hd) (l.map HA.hd).length := by
  unfold Gate.liars lieNs
  rw [List.map_map, List.length_map]
  refine List.map_congr_left fun j hj => ?_
  have hj := List.mem_range.1 hj
  rw [Function.comp, getD_in23 hj, getD_in23 (by rw [List.length_map]; exact hj), List.getElem_map]
  rfl
theorem lieNs_tab {w : World} {l : List HA} (h : ∀ x ∈ l, PairsAt w x.A x.m.table) (n : Nat) : ∀ x ∈ lieNs n l l.length, PairsAt w x.A x.m.table := fun x hx => by
  obtain ⟨j, hj, rfl⟩ := List.mem_map.1 hx
  have hj := List.mem_range.1 hj
  rw [getD_in23 hj]
  exact h l[j] (List.getElem_mem hj)
theorem lieNs_mem {n : Nat} {l : List HA} {x : HA} (hx : x ∈ lieNs n l l.length) : ∃ y ∈ l, x.m.table = y.m.table ∧ ∃ j, j < l.length ∧ x.m.frm = ((n + j : Nat) : Int) := by
  obtain ⟨j, hj, rfl⟩ := List.mem_map.1 hx
  have hj := List.mem_range.1 hj
  rw [getD_in23 hj]
  exact ⟨l[j], List.getElem_mem hj, rfl, j, hj, rfl⟩
namespace Nod
/-- The right gateways' messages, as a row. -/
def honNs (p : Par) (now : Int) (ts : List Tl) (m : Nat) : List HA := (hons p now ts m).map plainA
theorem honNs_next (p : Par) (now : Int) (ts : List Tl) (m : Nat) : honNs p now ts (m + 1) = honNs p now ts m ++ [plainA (hon p now (ts.getD m noTl) m)] := by
  unfold honNs
  rw [hons_next, List.map_append]
  rfl
theorem honNs_len (p : Par) (now : Int) (ts : List Tl) (m : Nat) : (honNs p now ts m).length = m := by simp [honNs, hons_len]
theorem hons_table (p : Par) (now : Int) (ts : List Tl) (m : Nat) : ∀ h ∈ hons p now ts m, h.m.table = [] := fun h hh => by
  obtain ⟨i, -, rfl⟩ := List.mem_map.1 hh
  rfl
theorem hons_frm {p : Par} {now : Int} {ts : List Tl} {m : Nat} {h : Hd} (hh : h ∈ hons p now ts m) : ∃ i, i < m ∧ h.m.frm = (i : Int) := by
  obtain ⟨i, hi, rfl⟩ := List.mem_map.1 hh
  exact ⟨i, List.mem_range.1 hi, rfl⟩
theorem heardNs (p : Par) (now : Int) (ts : List Tl) (l : List HA) : (honNs p now ts ts.length ++ lieNs ts.length l l.length).map HA.hd = heard p now ts (l.map HA.hd) := by
  unfold heard honNs
  rw [List.map_append, plain_hds, lieNs_hds]
/-- The neighbours' messages, as a row. -/
def nbNs (p : Par) (now : Int) (ts : List Tl) (hs : List Int) (good : Bool) (m : Nat) : List HA := (nbs p now ts hs good m).map plainA
theorem nbNs_next (p : Par) (now : Int) (ts : List Tl) (hs : List Int) (good : Bool) (m : Nat) : nbNs p now ts hs good (m + 1) = nbNs p now ts hs good m ++ [plainA (nb p now ts hs good m)] := by
  unfold nbNs
  rw [nbs_next, List.map_append]
  rfl
theorem nbNs_len (p : Par) (now : Int) (ts : List Tl) (hs : List Int) (good : Bool) (m : Nat) : (nbNs p now ts hs good m).length = m := by simp [nbNs, nbs_len]
theorem nbs_table (p : Par) (now : Int) (ts : List Tl) (hs : List Int) (good : Bool) (m : Nat) : ∀ h ∈ nbs p now ts hs good m, h.m.table = [] := fun h hh => by
  obtain ⟨i, -, rfl⟩ := List.mem_map.1 hh
  rfl
theorem nbNs_hds (p : Par) (now : Int) (ts : List Tl) (hs : List Int) (good : Bool) (m : Nat) : (nbNs p now ts hs good m).map HA.hd = nbs p now ts hs good m := plain_hds _
end Nod
theorem wf_small23 {x : Int} (h : 0 ≤ x ∧ x ≤ 1000) : (Lit.int .i64 x).wf = true := by
  show (decide (IntKind.i64.min ≤ x) && decide (x ≤ IntKind.i64.max)) = true
  rw [Bool.and_eq_true, decide_eq_true_eq, decide_eq_true_eq]
  exact ⟨by show (-9223372036854775808 : Int) ≤ x; omega, by show x ≤ (9223372036854775807 : Int); omega⟩
theorem own_grown23 {w w1 : World} {g : Nat} {cs : Array Value} {row : Option Nat} (h : Own w g cs) (k : w.grownBy w1 row) (hr : row ≠ some g) : Own w1 g cs := by
  have hl := h.lt
  obtain ⟨t, ht⟩ := h
  exact ⟨t, (k.block g hl fun e => hr e.symm).trans ht⟩
theorem row_far23 {w : World} {B n k : Nat} {e : TypeId} {v : Value} {xs : List Value} (h : w.ownsRow B e k v n xs) : ∀ g, v.ownBlock = some g → B ≤ g := fun g hg => by
  rcases h.2 with ⟨e, _⟩ | ⟨a, c2, cur, e, hb, _⟩
  · rw [e] at hg; cases hg
  · rw [e] at hg; cases hg; exact hb
theorem row_slice23 {w : World} {B n k : Nat} {e : TypeId} {v : Value} {xs : List Value} (h : w.ownsRow B e k v n xs) : ∃ A m c, v = .slice A m c := by
  rcases h.2 with ⟨e, _⟩ | ⟨a, c2, cur, e, hb, _⟩
  · exact ⟨_, _, _, e⟩
  · exact ⟨_, _, _, e⟩
theorem row_set23 {w : World} {B n k : Nat} {e : TypeId} {v : Value} {xs : List Value} (h : w.ownsRow B e k v n xs) (a : Addr) (u : Value) (hne : v.ownBlock ≠ some a.block) : (w.setCell a u).ownsRow B e k v n xs :=
  World.ownsRow.kept h (w' := w.setCell a u) (row := some a.block) ⟨rfl, rfl, rfl, by simp, fun i hi hn => Below.heap_setCell w a u i (by intro e; exact hn (by rw [e]))⟩ (.inr hne)
namespace Nod
/-- What a law has seen of the gateways so far. -/
structure Seen (p : Par) (l : List Tl) (wd lo hi : Int) : Prop where
  fine : ∀ t ∈ l, Fine p t
  wide : ∀ t ∈ l, t.less + t.more ≤ wd
  low : ∀ t ∈ l, lo ≤ t.held
  high : ∀ t ∈ l, t.held ≤ hi
  b : (0 ≤ wd ∧ wd ≤ 1125899906842624) ∧ (0 ≤ lo ∧ lo ≤ 1073741824) ∧ 0 ≤ hi ∧ hi ≤ 1048576
theorem Seen.nil (p : Par) : Seen p [] 0 1073741824 0 := ⟨fun _ h => absurd h (by simp), fun _ h => absurd h (by simp), fun _ h => absurd h (by simp), fun _ h => absurd h (by simp), by omega⟩
theorem Seen.next {p : Par} {l : List Tl} {wd lo hi : Int} (h : Seen p l wd lo hi) {t : Tl} (ht : Fine p t) {w2 l2 h2 : Int} (hw : w2 = max wd (t.less + t.more)) (hl : l2 = min lo t.held) (hh : h2 = max hi t.held) : Seen p (l ++ [t]) w2 l2 h2 := by
  obtain ⟨f1, f2, f3, f4, f5⟩ := ht
  obtain ⟨⟨b1, b2⟩, ⟨b3, b4⟩, b5, b6⟩ := h.b
  subst hw hl hh
  refine ⟨fun x hx => ?_, fun x hx => ?_, fun x hx => ?_, fun x hx => ?_, ?_⟩
  · rcases List.mem_append.1 hx with k | k
    · exact h.fine x k
    · rw [List.mem_singleton.1 k]; exact ⟨f1, f2, f3, f4, f5⟩
  · rcases List.mem_append.1 hx with k | k
    · have := h.wide x k; omega
    · rw [List.mem_singleton.1 k]; omega
  · rcases List.mem_append.1 hx with k | k
    · have := h.low x k; omega
    · rw [List.mem_singleton.1 k]; omega
  · rcases List.mem_append.1 hx with k | k
    · have := h.high x k; omega
    · rw [List.mem_singleton.1 k]; omega
  · omega
end Nod
end Go.Proofs.YtmokofblmkeloaaGreatDoor
