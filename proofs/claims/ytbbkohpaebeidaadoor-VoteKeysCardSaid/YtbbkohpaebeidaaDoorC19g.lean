/- Layer 19: what the list of variables gives the walks; a world in which the tables lie; the law's alive(). -/
import Derived.Test.YtbbkohpaebeidaaDoorC19f
import Derived.Test.YtbbkohpaebeidaaDoorCards
import Derived.Test.YtbbkohpaebeidaaDoorTie
import Derived.Deep.DeepHandedRow
import Derived.Lib.LaidTab
import Derived.LaidSub
namespace Go.Proofs.YtbbkohpaebeidaaDoor
open Go.ChangeShapes Go.WideShapes Go.ChangeAt Go.RowKit
set_option maxRecDepth 100000
attribute [local go_sem ↓] Go.wp_at_zero Go.wp_at_succ
theorem gPow : Tryd.prog.globalNamed "internal/strconv.uint64pow10" = some 0 := by kernel_rfl
theorem gPowType : (Tryd.prog.globals[0]?).map (·.type) = some 68 := by kernel_rfl
/-- What the list gives. -/
theorem tab_of {W : World} (h : laidMetH Tryd.prog [("math/bits.deBruijn32tab", Rows.laid_math_bits_deBruijn32tab), ("math/bits.deBruijn64tab", Rows.laid_math_bits_deBruijn64tab), ("internal/strconv.uint64pow10", Rows.laid_internal_strconv_uint64pow10)] W) : Pow W := by
  have h2 : laidMetH Tryd.prog [("internal/strconv.uint64pow10", Rows.laid_internal_strconv_uint64pow10)] W := laidMetH.filter (fun x => x.1 == "internal/strconv.uint64pow10") h
  exact Lib.tabIs_of_head (rest := []) gPow gPowType Tryd.underlying68 Tryd.underlying53 (by kernel_rfl) (by kernel_rfl) h2
def setTab (cs : Array Value) : Obj → Obj
  | .cells _ t frozen => .cells cs t frozen
  | o => o
/-- A world in which the tables lie as their initialisers lay them. -/
noncomputable def laidWorld (os : Os) : World :=
  { World.holding Tryd.prog os ⟨#[], #[], []⟩ with heap := ((((World.holding Tryd.prog os ⟨#[], #[], []⟩).heap.modify 1 (setTab #[.int .u8 0, .int .u8 1, .int .u8 28, .int .u8 2, .int .u8 29, .int .u8 14, .int .u8 24, .int .u8 3, .int .u8 30, .int .u8 22, .int .u8 20, .int .u8 15, .int .u8 25, .int .u8 17, .int .u8 4, .int .u8 8, .int .u8 31, .int .u8 27, .int .u8 13, .int .u8 23, .int .u8 21, .int .u8 19, .int .u8 16, .int .u8 7, .int .u8 26, .int .u8 12, .int .u8 18, .int .u8 6, .int .u8 11, .int .u8 5, .int .u8 10, .int .u8 9])).modify 2 (setTab #[.int .u8 0, .int .u8 1, .int .u8 56, .int .u8 2, .int .u8 57, .int .u8 49, .int .u8 28, .int .u8 3, .int .u8 61, .int .u8 58, .int .u8 42, .int .u8 50, .int .u8 38, .int .u8 29, .int .u8 17, .int .u8 4, .int .u8 62, .int .u8 47, .int .u8 59, .int .u8 36, .int .u8 45, .int .u8 43, .int .u8 51, .int .u8 22, .int .u8 53, .int .u8 39, .int .u8 33, .int .u8 30, .int .u8 24, .int .u8 18, .int .u8 12, .int .u8 5, .int .u8 63, .int .u8 55, .int .u8 48, .int .u8 27, .int .u8 60, .int .u8 41, .int .u8 37, .int .u8 16, .int .u8 46, .int .u8 35, .int .u8 44, .int .u8 21, .int .u8 52, .int .u8 32, .int .u8 23, .int .u8 11, .int .u8 54, .int .u8 26, .int .u8 40, .int .u8 15, .int .u8 34, .int .u8 20, .int .u8 31, .int .u8 10, .int .u8 25, .int .u8 14, .int .u8 19, .int .u8 9, .int .u8 13, .int .u8 8, .int .u8 7, .int .u8 6])).modify 0 (setTab #[.int .u64 1, .int .u64 10, .int .u64 100, .int .u64 1000, .int .u64 10000, .int .u64 100000, .int .u64 1000000, .int .u64 10000000, .int .u64 100000000, .int .u64 1000000000, .int .u64 10000000000, .int .u64 100000000000, .int .u64 1000000000000, .int .u64 10000000000000, .int .u64 100000000000000, .int .u64 1000000000000000, .int .u64 10000000000000000, .int .u64 100000000000000000, .int .u64 1000000000000000000, .int .u64 10000000000000000000])) }
theorem eg_key : Vote.key [(86401, 1)] = [56, 54, 52, 48, 49, 58, 49, 59] := by decide +kernel
theorem eg_good1 : Leap.good [(86401, 1)] = true := by decide
theorem eg_good2 : Leap.good [(86399, -1)] = true := by decide
theorem eg_is3 : Vote.is 1 [[(86401, 1)], [(86399, -1)], [(86401, 1)]] = true := by decide
theorem eg_out3 : Vote.out 1 [] [[(86401, 1)], [(86399, -1)], [(86401, 1)]] = [(86401, 1)] := by decide
theorem eg_out2 : Vote.out 1 [] [[(86401, 1)], [(86399, -1)]] = [] := by decide
theorem eg_is2 : Vote.is 1 [[(86401, 1)], [(86399, -1)]] = false := by decide
/-- A fabric's numbers of the examples. -/
abbrev par19 : Par := ⟨0, 1, 0, 0, 0, 0, 0, 0, 0, 0, 0, 0⟩
set_option maxHeartbeats 1600000 in
theorem law19Alive (w : World) (hT : Pow w) : Calls Tryd.prog 8 #[] w fun e w' => e = .returned (.bool true) ∧ Ok w w' := by
  have hok := ((Ok.refl w).alloc (.cells #[.int .i64 86401, .int .i64 1] 37)).alloc (.cells #[.int .i64 86399, .int .i64 (-1)] 37)
  have hPa := (pairs_new w [(86401, 1)] 37 #[.int .i64 86401, .int .i64 1] rfl (b := w.heap.size) rfl).alloc (.cells #[.int .i64 86399, .int .i64 (-1)] 37)
  have hPb := pairs_new (w.alloc (.cells #[.int .i64 86401, .int .i64 1] 37)) [(86399, -1)] 37 #[.int .i64 86399, .int .i64 (-1)] rfl (b := w.heap.size + 1) (by simp)
  replace hT := hT.next hok
  obtain ⟨a, ha⟩ : ∃ a, w.heap.size = a := ⟨_, rfl⟩
  rw [ha] at hPa hPb
  obtain ⟨b, hb⟩ : ∃ b, a + 1 = b := ⟨_, rfl⟩
  rw [hb] at hPb
  have K1 := Lib.hid fun g W h1 h2 => voteAdopts2 par19 none (some ⟨g, 0, none⟩) [] [⟨[(86401, 1)], some ⟨a, 0, none⟩, 1⟩, ⟨[(86399, -1)], some ⟨b, 0, none⟩, 1⟩, ⟨[(86401, 1)], some ⟨a, 0, none⟩, 1⟩] 0 3 W h1 (PairsAt.empty _ _) h2 (by simp) (by simp) (by simp)
  have K2 := Lib.hid fun g W h1 h2 => voteAdopts2 par19 none (some ⟨g, 0, none⟩) [] [⟨[(86401, 1)], some ⟨a, 0, none⟩, 1⟩, ⟨[(86399, -1)], some ⟨b, 0, none⟩, 1⟩] 0 2 W h1 (PairsAt.empty _ _) h2 (by simp) (by simp) (by simp)
  simp only [lists, List.map_cons, List.map_nil, eg_is3, eg_out3, eg_is2, eg_out2, List.length_cons, List.length_nil, Nat.zero_add, Nat.reduceAdd] at K1 K2
  have KE := Lib.hid fun A c W h1 h2 => ref6Tables A (some ⟨a, 0, none⟩) [(86401, 1)] [(86401, 1)] c 1 W h1 h2 (by simp) (by simp)
  have KK := Lib.hid fun W h1 h2 => voteKey (some ⟨a, 0, none⟩) [(86401, 1)] 1 W h1 h2 (by simp) (by simp)
  rw [eg_key] at KK
  simp only [List.length_cons, List.length_nil, Nat.zero_add, decide_true] at KE KK
  have hq : ((strB [56, 54, 52, 48, 49, 58, 49, 59]).toList == ([56, 54, 52, 48, 49, 58, 49, 59] : List UInt8)) = true := by decide +kernel
  go_enter Tryd.func8, Tryd.ntmps8
  go_upto_region 2 with fail
  generalize (w.alloc (.cells #[.int .i64 86401, .int .i64 1] 37)).alloc (.cells #[.int .i64 86399, .int .i64 (-1)] 37) = W at *
  clear ha hb
  have HA := Lib.hid fun W' (q : Ok W W') => hPa.below q
  have HB := Lib.hid fun W' (q : Ok W W') => hPb.below q
  have HT := Lib.hid fun W' (q : Ok W W') => hT.next q
  have hokW := Ok.refl W
  clear hPa hPb hT
  have HL3 := Lib.hid fun W' (q : Ok W W') => (tabs_new W' [⟨[(86401, 1)], some ⟨a, 0, none⟩, 1⟩, ⟨[(86399, -1)], some ⟨b, 0, none⟩, 1⟩, ⟨[(86401, 1)], some ⟨a, 0, none⟩, 1⟩] 22 #[.slice (some ⟨a, 0, none⟩) 1 1, .slice (some ⟨b, 0, none⟩) 1 1, .slice (some ⟨a, 0, none⟩) 1 1] rfl rfl (by intro x hx; simp only [List.mem_cons, List.not_mem_nil, or_false] at hx; rcases hx with rfl | rfl | rfl; exact HA.out _ q; exact HB.out _ q; exact HA.out _ q))
  have HL2 := Lib.hid fun W' (q : Ok W W') => (tabs_new W' [⟨[(86401, 1)], some ⟨a, 0, none⟩, 1⟩, ⟨[(86399, -1)], some ⟨b, 0, none⟩, 1⟩] 22 #[.slice (some ⟨a, 0, none⟩) 1 1, .slice (some ⟨b, 0, none⟩) 1 1] rfl rfl (by intro x hx; simp only [List.mem_cons, List.not_mem_nil, or_false] at hx; rcases hx with rfl | rfl; exact HA.out _ q; exact HB.out _ q))
  simp only [parV] at K1 K2
  go_upto_region 3 with (go_at_call 13; (with_reducible refine (K1.out _ _ ?_ ?_).mono ?_); (focus (exact HT.out _ (hokW.alloc _))); (focus (exact HL3.out _ hokW)); rintro e w2 ⟨A3, c3, rfl, -, hP3, hb1⟩; replace hokW := (hokW.alloc _).trans hb1; clear hb1)
  go_upto_region 4 with (go_at_call 13; (with_reducible refine (K2.out _ _ ?_ ?_).mono ?_); (focus (exact HT.out _ (hokW.alloc _))); (focus (exact HL2.out _ hokW)); rintro e w4 ⟨A5, c5, rfl, -, -, hb1⟩; replace hP3 := hP3.below (((Ok.refl _).alloc _).trans hb1); replace hokW := (hokW.alloc _).trans hb1; clear hb1)
  go_wp2_with (first
    | (go_at_call 12; (with_reducible refine (KE.out _ _ _ hP3 (HA.out _ hokW)).mono ?_); rintro e w6 ⟨rfl, hb1⟩; replace hokW := hokW.trans hb1; clear hb1 hP3)
    | (go_at_call 10; (with_reducible refine (KK.out _ (HT.out _ hokW) (HA.out _ hokW)).mono ?_); rintro e w8 ⟨rfl, hb1⟩; replace hokW := hokW.trans hb1; clear hb1))
  go_ret
  exact ⟨rfl, hok.trans hokW⟩
end Go.Proofs.YtbbkohpaebeidaaDoor
