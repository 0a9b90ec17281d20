/- Contracts of layer 5: tail, Seal, Open. -/
import Derived.Test.YtacnoakbcilmfaaC05c
import Derived.Test.YtacnoakbcilmfaaW09
import Derived.Laws.CopyOwn
import Derived.OwnWalk
import Derived.Deep.RegionLaw
import Derived.Deep.CutRange
namespace Go.Proofs.Ytacnoakbcilmfaa
open Go.RowKit
set_option maxRecDepth 100000
/-- The four bytes of a check, as cells. -/
theorem cells4_eq (c : Nat) (h : c < 4294967296) : u8s (Crc.bytesOf 4 c) = [.int .u8 ((c : Int) % 256), .int .u8 ((c : Int) / 256 % 256), .int .u8 ((c : Int) / 65536 % 256), .int .u8 ((c : Int) / 16777216)] := bytesOf4 c h
set_option maxHeartbeats 800000 in
theorem crcTail (c : Nat) (w : World) (h : c < 4294967296) :
    Calls Try.prog 38 #[.int .u32 c] w fun e w' => e = .returned (.agg #[.int .u8 ((c : Int) % 256), .int .u8 ((c : Int) / 256 % 256), .int .u8 ((c : Int) / 65536 % 256), .int .u8 ((c : Int) / 16777216)]) ∧ Ok w w' := by
  have hok := Ok.refl w
  have hw : (c : Int) / 16777216 % 256 = (c : Int) / 16777216 := by omega
  go_enter Try.func38, Try.ntmps38
  go_wp2
  exact bodyPost_ret (v := .agg #[.int .u8 ((c : Int) % 256), .int .u8 ((c : Int) / 256 % 256), .int .u8 ((c : Int) / 65536 % 256), .int .u8 ((c : Int) / 16777216)]) (by simp [results, Try.results38, go_sem]) rfl ⟨rfl, (hok.alloc _)⟩
theorem uint8Info : (Try.prog.info? 5).map (fun i => (i.zero, i.size, i.bytes)) = some (some (.int .u8 0), 1, 1) := by kernel_rfl
set_option maxHeartbeats 800000 in
theorem crcSeal (A : Option Addr) (l : List Nat) (cap : Nat) (w : World) (h : BytesAt w A l) (hb : ∀ b ∈ l, b < 256) (hl : l.length ≤ 1099511627776) :
    Calls Try.prog 29 #[.slice A l.length cap] w fun e w' => ∃ g, e = .returned (.slice (some ⟨g, 0, none⟩) (l.length + 4) (l.length + 4)) ∧ w.heap.size ≤ g ∧ Own w' g (u8s (sealL l)).toArray ∧ Ok w w' := by
  have hok := Ok.refl w
  have hc := Crc.check_lt hb
  have KS := Lib.hid fun W hA p hp => crcSum1 W A l cap hA hb (by omega) p hp
  obtain ⟨c, hce⟩ : ∃ c, Crc.check l = c := ⟨_, rfl⟩
  rw [hce] at KS hc
  have HC := Lib.hid hce
  have HT := Lib.hid fun w => crcTail c w hc
  clear hce
  obtain ⟨x0, h0⟩ : ∃ x, (c : Int) % 256 = x := ⟨_, rfl⟩
  obtain ⟨x1, h1⟩ : ∃ x, (c : Int) / 256 % 256 = x := ⟨_, rfl⟩
  obtain ⟨x2, h2⟩ : ∃ x, (c : Int) / 65536 % 256 = x := ⟨_, rfl⟩
  obtain ⟨x3, h3⟩ : ∃ x, (c : Int) / 16777216 = x := ⟨_, rfl⟩
  have H4 := Lib.hid (cells4_eq c hc)
  rw [h0, h1, h2, h3] at HT H4
  clear h0 h1 h2 h3
  have hmk : ∀ W : World, Sem.run Try.prog (Instr.makeSlice 41 (.int .i64 (l.length + 4)) (.int .i64 (l.length + 4))) W = .ok (.slice (some ⟨W.heap.size, 0, none⟩) (l.length + 4) (l.length + 4)) (W.alloc (.cells (List.replicate (l.length + 4) (.int .u8 0)).toArray 5)) := fun W =>
    run_make_bytes Try.underlying41 uint8Info (l.length + 4) (by omega) _ (by omega) W
  obtain ⟨Z, hZ⟩ : ∃ Z : List Value, Z = List.replicate (l.length + 4) (.int .u8 0) := ⟨_, rfl⟩
  have HZ := Lib.hid (show Z.length = l.length + 4 by rw [hZ, List.length_replicate])
  rw [← hZ] at hmk
  clear hZ
  go_enter Try.func29, Try.ntmps29
  go_upto_region 3 with (first
    | (go_at_call 39; (with_reducible refine (KS.out _ h _ (by simp)).mono ?_); rintro e w2 ⟨rfl, hb2⟩; replace h := (h.alloc _).below hb2; replace hok := (hok.alloc _).trans hb2; clear hb2)
    | (go_at_call 38; (with_reducible refine (HT.out _).mono ?_); rintro e w2 ⟨rfl, hb2⟩; replace h := h.below hb2; replace hok := hok.trans hb2; clear hb2))
  obtain ⟨W, hW⟩ : ∃ W, W = (w2.alloc (.cells #[.int .u8 x0, .int .u8 x1, .int .u8 x2, .int .u8 x3] 75)).alloc (.cells Z.toArray 5) := ⟨_, rfl⟩
  rw [← hW]
  have O4 : Own W w2.heap.size #[.int .u8 x0, .int .u8 x1, .int .u8 x2, .int .u8 x3] := by rw [hW]; exact (Own.new w2 _ _ rfl).alloc _
  have HG : W.heap[w2.heap.size + 1]? = some (.cells Z.toArray 5 (0, 0)) := by rw [hW]; simpa using (heap_alloc_new (w2.alloc (.cells #[.int .u8 x0, .int .u8 x1, .int .u8 x2, .int .u8 x3] 75)) (.cells Z.toArray 5))
  have hle := hok.size
  replace h : BytesAt W A l := by rw [hW]; exact (h.alloc _).alloc _
  replace hok : Ok w W := by rw [hW]; exact (hok.alloc _).alloc _
  obtain ⟨f, hf⟩ : ∃ f, w2.heap.size = f := ⟨_, rfl⟩
  rw [hf] at O4 HG hle ⊢
  obtain ⟨g, hg⟩ : ∃ g, f + 1 = g := ⟨_, rfl⟩
  have hgf : f < g := by omega
  rw [hg] at HG ⊢
  clear hW hf hg hmk KS HT
  have HX := Lib.hid (u8s_length l)
  have S1 := Lib.hid fun h0 => h.src h0
  have hU := Try.underlying41
  have hsz : (Try.prog.info? 5).map (·.size) = some 1 := by
    obtain ⟨i, h1, _, h3, _⟩ := info_parts uint8Info
    rw [h1]; exact congrArg some h3
  have HU := Lib.hid hU
  have HZ1 := Lib.hid hsz
  have H1 := Lib.hid (u8s_one l)
  obtain ⟨X, hX⟩ : ∃ X, u8s l = X := ⟨_, rfl⟩
  rw [hX] at HX S1 H1
  have HXE := Lib.hid hX
  have HGW := Lib.hid HG
  clear hX hU hsz HG
  go_wp2_with (((with_reducible refine wpList_copy_splice (o := ⟨some 15, _, _, _, _, _⟩) rfl (.tmp 13) (.tmp 14) 41 41 rfl 5 HU.out HZ1.out _ _ _ _ _ _ rfl rfl g 0 Z 5 HGW.out X (by rw [HX.out]; simp [Nat.min_def]) (fun h0 => ⟨rfl, S1.out (by have := HX.out; omega)⟩) (by have := HX.out; have := HZ.out; omega) H1.out g W (Below.refl _ _) (Nat.le_refl _) ?_)); intro w3 HG3 hB3)
  replace O4 : Own w3 f #[.int .u8 x0, .int .u8 x1, .int .u8 x2, .int .u8 x3] := by
    obtain ⟨t, ht⟩ := O4
    exact ⟨t, (hB3.block f hgf).trans ht⟩
  replace hok : Ok w w3 := hok.below.trans (hB3.mono (by omega))
  clear hB3 HGW S1 h
  have HS := Lib.hid (show (splice Z 0 X).length = l.length + 4 by rw [length_splice _ _ _ (by have := HX.out; have := HZ.out; omega), HZ.out])
  have HE := Lib.hid fun Y (hY : Y.length = 4) => splice_end Z X Y (by have := HX.out; have := HZ.out; omega)
  rw [HX.out] at HE
  obtain ⟨Z1, hZ1⟩ : ∃ Y, splice Z 0 X = Y := ⟨_, rfl⟩
  rw [hZ1] at HS HG3 HE
  have HN := HX.out
  rw [HN]
  clear hZ1 HX HZ HN
  have S2 := Lib.hid (fun j v (hj : ([.int .u8 x0, .int .u8 x1, .int .u8 x2, .int .u8 x3] : List Value)[j]? = some v) => O4.cell j (by simpa using hj))
  have H2 : Hid (∀ v ∈ ([.int .u8 x0, .int .u8 x1, .int .u8 x2, .int .u8 x3] : List Value), v.oneCell' = true) := Lib.hid (by rw [← H4.out]; exact u8s_one _)
  clear O4
  have hl4 : (l.length : Int) ≤ (l.length : Int) + 4 := by omega
  go_region_law (refine step_copy_splice rfl (.tmp 19) (.tmp 20) 41 41 rfl 5 HU.out HZ1.out _ _ _ _ _ _ rfl rfl g l.length Z1 5 HG3.out [.int .u8 x0, .int .u8 x1, .int .u8 x2, .int .u8 x3] rfl (fun _ => ⟨by simp, ⟨f, 0, none⟩, rfl, fun j v hj => (by rw [Go.WideShapes.add_plain, Nat.zero_add]; exact S2.out j v hj)⟩) (by have := HS.out; simp; omega) H2.out g _ (Below.refl _ _) (Nat.le_refl _) ?_; intro w4 HG4 hB4)
  have H5 := HE.out [.int .u8 x0, .int .u8 x1, .int .u8 x2, .int .u8 x3] rfl
  have H6 : splice Z1 l.length [.int .u8 x0, .int .u8 x1, .int .u8 x2, .int .u8 x3] = u8s (sealL l) := by
    rw [H5, sealL, u8s_append, HXE.out, HC.out, H4.out]
  have O : Own w4 g (u8s (sealL l)).toArray := ⟨_, by rw [← H6]; exact HG4.out⟩
  have hok4 : Ok w w4 := hok.drew.below.trans (hB4.mono (by omega))
  have hwg : w.heap.size ≤ g := by omega
  clear H5 H6 HE HG3 HG4 hB4 H2 S2 HS H1 HU HZ1 HC H4 hl4 hok hle hgf hb
  go_wp2
  go_ret
  exact ⟨g, rfl, hwg, O, hok4⟩
end Go.Proofs.Ytacnoakbcilmfaa
