/- Contracts of layer 6: the document's Decode. -/
import Derived.Test.YtacnoakbcilmfaaC06f
import Derived.Deep.RegionWith
import Derived.Deep.RegionLaw
namespace Go.Proofs.Ytacnoakbcilmfaa
open Go.RowKit
set_option maxRecDepth 100000
attribute [local go_sem ↓] Go.wp_at_zero Go.wp_at_succ
/-- No message. -/
def zeroMsg : Msg := ⟨0, 0, 0, 0, 0, 0, false, false, 0, 0, 0, 0, 0, []⟩
/-- What Decode answers. -/
def decOf (s : List Nat) : Msg × Int :=
  if 4096 < s.length then (zeroMsg, 3)
  else if isSealed s = false then (zeroMsg, 5)
  else if Wire.fits (s.take (s.length - 4)) = false then (zeroMsg, 4)
  else if Wire.good (Wire.parse (s.take (s.length - 4))) = true ∧ Wire.frame (Wire.parse (s.take (s.length - 4))) = s.take (s.length - 4) then (Wire.parse (s.take (s.length - 4)), 0)
  else (zeroMsg, 4)
theorem zeroMsgV (w : World) : Sem.run Try.prog (zeroValue 28) w = .ok (msgV zeroMsg none 0) w := by kernel_rfl
set_option maxHeartbeats 1600000 in
theorem ref6DecodeLong (s : ByteArray) (w : World) (h : 4096 < s.size) :
    Calls Try.prog 19 #[.string s] w fun e w' => e = .returned (.tuple #[msgV zeroMsg none 0, .int .i64 3]) ∧ Ok w w' := by
  have hok := Ok.refl w
  have hz := zeroMsgV
  have hd : decide ((4096 : Int) < (s.size : Int)) = true := decide_eq_true (by omega)
  unfold msgV zeroMsg at hz ⊢
  simp only [List.length_nil] at hz ⊢
  go_enter Try.func19, Try.ntmps19
  go_wp2
  exact bodyPost_ret (v := .tuple #[.agg #[.int .i64 0, .int .i64 0, .int .i64 0, .int .i64 0, .int .i64 0, .int .i64 0, .bool false, .bool false, .int .i64 0, .int .i64 0, .int .i64 0, .int .i64 0, .int .i64 0, .slice none 0 0], .int .i64 3]) (by simp [results, Try.results19, go_sem]) rfl ⟨rfl, hok.alloc _⟩
/-- No message's cells. -/
def zeroCells : Array Value := #[.int .i64 0, .int .i64 0, .int .i64 0, .int .i64 0, .int .i64 0, .int .i64 0, .bool false, .bool false, .int .i64 0, .int .i64 0, .int .i64 0, .int .i64 0, .int .i64 0, .slice none 0 0]
/-- No message is stored once more over no message. -/
theorem zeros_again {w w1 : World} (hO : Own w1 w.heap.size zeroCells) (hok : Ok w w1) : Own ((((((((((((((w1.setCell ⟨w.heap.size, 0, none⟩ (.int .i64 0)).setCell ⟨w.heap.size, 1, none⟩ (.int .i64 0)).setCell ⟨w.heap.size, 2, none⟩ (.int .i64 0)).setCell ⟨w.heap.size, 3, none⟩ (.int .i64 0)).setCell ⟨w.heap.size, 4, none⟩ (.int .i64 0)).setCell ⟨w.heap.size, 5, none⟩ (.int .i64 0)).setCell ⟨w.heap.size, 6, none⟩ (.bool false)).setCell ⟨w.heap.size, 7, none⟩ (.bool false)).setCell ⟨w.heap.size, 8, none⟩ (.int .i64 0)).setCell ⟨w.heap.size, 9, none⟩ (.int .i64 0)).setCell ⟨w.heap.size, 10, none⟩ (.int .i64 0)).setCell ⟨w.heap.size, 11, none⟩ (.int .i64 0)).setCell ⟨w.heap.size, 12, none⟩ (.int .i64 0)).setCell ⟨w.heap.size, 13, none⟩ (.slice none 0 0)) w.heap.size zeroCells ∧ Ok w ((((((((((((((w1.setCell ⟨w.heap.size, 0, none⟩ (.int .i64 0)).setCell ⟨w.heap.size, 1, none⟩ (.int .i64 0)).setCell ⟨w.heap.size, 2, none⟩ (.int .i64 0)).setCell ⟨w.heap.size, 3, none⟩ (.int .i64 0)).setCell ⟨w.heap.size, 4, none⟩ (.int .i64 0)).setCell ⟨w.heap.size, 5, none⟩ (.int .i64 0)).setCell ⟨w.heap.size, 6, none⟩ (.bool false)).setCell ⟨w.heap.size, 7, none⟩ (.bool false)).setCell ⟨w.heap.size, 8, none⟩ (.int .i64 0)).setCell ⟨w.heap.size, 9, none⟩ (.int .i64 0)).setCell ⟨w.heap.size, 10, none⟩ (.int .i64 0)).setCell ⟨w.heap.size, 11, none⟩ (.int .i64 0)).setCell ⟨w.heap.size, 12, none⟩ (.int .i64 0)).setCell ⟨w.heap.size, 13, none⟩ (.slice none 0 0)) :=
  ⟨((((((((((((((hO.set 0 (.int .i64 0)).set 1 (.int .i64 0)).set 2 (.int .i64 0)).set 3 (.int .i64 0)).set 4 (.int .i64 0)).set 5 (.int .i64 0)).set 6 (.bool false)).set 7 (.bool false)).set 8 (.int .i64 0)).set 9 (.int .i64 0)).set 10 (.int .i64 0)).set 11 (.int .i64 0)).set 12 (.int .i64 0)).set 13 (.slice none 0 0)), (Ok.setCell (Ok.setCell (Ok.setCell (Ok.setCell (Ok.setCell (Ok.setCell (Ok.setCell (Ok.setCell (Ok.setCell (Ok.setCell (Ok.setCell (Ok.setCell (Ok.setCell (Ok.setCell hok (p := ⟨w.heap.size, 0, none⟩) (Nat.le_refl _) (.int .i64 0)) (p := ⟨w.heap.size, 1, none⟩) (Nat.le_refl _) (.int .i64 0)) (p := ⟨w.heap.size, 2, none⟩) (Nat.le_refl _) (.int .i64 0)) (p := ⟨w.heap.size, 3, none⟩) (Nat.le_refl _) (.int .i64 0)) (p := ⟨w.heap.size, 4, none⟩) (Nat.le_refl _) (.int .i64 0)) (p := ⟨w.heap.size, 5, none⟩) (Nat.le_refl _) (.int .i64 0)) (p := ⟨w.heap.size, 6, none⟩) (Nat.le_refl _) (.bool false)) (p := ⟨w.heap.size, 7, none⟩) (Nat.le_refl _) (.bool false)) (p := ⟨w.heap.size, 8, none⟩) (Nat.le_refl _) (.int .i64 0)) (p := ⟨w.heap.size, 9, none⟩) (Nat.le_refl _) (.int .i64 0)) (p := ⟨w.heap.size, 10, none⟩) (Nat.le_refl _) (.int .i64 0)) (p := ⟨w.heap.size, 11, none⟩) (Nat.le_refl _) (.int .i64 0)) (p := ⟨w.heap.size, 12, none⟩) (Nat.le_refl _) (.int .i64 0)) (p := ⟨w.heap.size, 13, none⟩) (Nat.le_refl _) (.slice none 0 0))⟩
theorem zero_reads {w : World} {g : Nat} (hO : Own w g zeroCells) : w.cell? ⟨g, 0, none⟩ = some (.int .i64 0) ∧ w.cell? ⟨g, 1, none⟩ = some (.int .i64 0) ∧ w.cell? ⟨g, 2, none⟩ = some (.int .i64 0) ∧ w.cell? ⟨g, 3, none⟩ = some (.int .i64 0) ∧ w.cell? ⟨g, 4, none⟩ = some (.int .i64 0) ∧ w.cell? ⟨g, 5, none⟩ = some (.int .i64 0) ∧ w.cell? ⟨g, 6, none⟩ = some (.bool false) ∧ w.cell? ⟨g, 7, none⟩ = some (.bool false) ∧ w.cell? ⟨g, 8, none⟩ = some (.int .i64 0) ∧ w.cell? ⟨g, 9, none⟩ = some (.int .i64 0) ∧ w.cell? ⟨g, 10, none⟩ = some (.int .i64 0) ∧ w.cell? ⟨g, 11, none⟩ = some (.int .i64 0) ∧ w.cell? ⟨g, 12, none⟩ = some (.int .i64 0) ∧ w.cell? ⟨g, 13, none⟩ = some (.slice none 0 0) :=
  ⟨hO.cell 0 rfl, hO.cell 1 rfl, hO.cell 2 rfl, hO.cell 3 rfl, hO.cell 4 rfl, hO.cell 5 rfl, hO.cell 6 rfl, hO.cell 7 rfl, hO.cell 8 rfl, hO.cell 9 rfl, hO.cell 10 rfl, hO.cell 11 rfl, hO.cell 12 rfl, hO.cell 13 rfl⟩
set_option maxHeartbeats 1600000 in
theorem ref6DecodeSum (s : ByteArray) (w : World) (h : s.size ≤ 4096) (hs : isSealed (strL s) = false) :
    Calls Try.prog 19 #[.string s] w fun e w' => e = .returned (.tuple #[msgV zeroMsg none 0, .int .i64 5]) ∧ Ok w w' := by
  have hok := Ok.refl w
  have hz := zeroMsgV
  have hd : decide ((4096 : Int) < (s.size : Int)) = false := decide_eq_false (by omega)
  have KO := Lib.hid fun W => ref5Open s W (by unfold maxLen; omega)
  rw [hs, if_neg (by simp)] at KO
  clear hs h
  unfold msgV zeroMsg at hz ⊢
  simp only [List.length_nil] at hz ⊢
  go_enter Try.func19, Try.ntmps19
  go_upto_region 4 with ((go_at_call 36; (with_reducible refine (KO.out _).mono ?_); rintro e w1 ⟨rfl, hb1⟩; have hO := (Own.new w zeroCells 28 rfl).next hb1; replace hok := (hok.alloc _).trans hb1; clear hb1))
  have c0 := hO.cell 0 (v := .int .i64 0) rfl
  have f0 := hO.frozen 0
  have c1 := hO.cell 1 (v := .int .i64 0) rfl
  have f1 := hO.frozen 1
  have c2 := hO.cell 2 (v := .int .i64 0) rfl
  have f2 := hO.frozen 2
  have c3 := hO.cell 3 (v := .int .i64 0) rfl
  have f3 := hO.frozen 3
  have c4 := hO.cell 4 (v := .int .i64 0) rfl
  have f4 := hO.frozen 4
  have c5 := hO.cell 5 (v := .int .i64 0) rfl
  have f5 := hO.frozen 5
  have c6 := hO.cell 6 (v := .bool false) rfl
  have f6 := hO.frozen 6
  have c7 := hO.cell 7 (v := .bool false) rfl
  have f7 := hO.frozen 7
  have c8 := hO.cell 8 (v := .int .i64 0) rfl
  have f8 := hO.frozen 8
  have c9 := hO.cell 9 (v := .int .i64 0) rfl
  have f9 := hO.frozen 9
  have c10 := hO.cell 10 (v := .int .i64 0) rfl
  have f10 := hO.frozen 10
  have c11 := hO.cell 11 (v := .int .i64 0) rfl
  have f11 := hO.frozen 11
  have c12 := hO.cell 12 (v := .int .i64 0) rfl
  have f12 := hO.frozen 12
  have c13 := hO.cell 13 (v := .slice none 0 0) rfl
  have f13 := hO.frozen 13
  go_wp2
  obtain ⟨hO2, hok2⟩ := zeros_again hO hok
  generalize ((((((((((((((w1.setCell ⟨w.heap.size, 0, none⟩ (.int .i64 0)).setCell ⟨w.heap.size, 1, none⟩ (.int .i64 0)).setCell ⟨w.heap.size, 2, none⟩ (.int .i64 0)).setCell ⟨w.heap.size, 3, none⟩ (.int .i64 0)).setCell ⟨w.heap.size, 4, none⟩ (.int .i64 0)).setCell ⟨w.heap.size, 5, none⟩ (.int .i64 0)).setCell ⟨w.heap.size, 6, none⟩ (.bool false)).setCell ⟨w.heap.size, 7, none⟩ (.bool false)).setCell ⟨w.heap.size, 8, none⟩ (.int .i64 0)).setCell ⟨w.heap.size, 9, none⟩ (.int .i64 0)).setCell ⟨w.heap.size, 10, none⟩ (.int .i64 0)).setCell ⟨w.heap.size, 11, none⟩ (.int .i64 0)).setCell ⟨w.heap.size, 12, none⟩ (.int .i64 0)).setCell ⟨w.heap.size, 13, none⟩ (.slice none 0 0)) = W at hO2 hok2 ⊢
  clear hO hok c0 c1 c2 c3 c4 c5 c6 c7 c8 c9 c10 c11 c12 c13 f0 f1 f2 f3 f4 f5 f6 f7 f8 f9 f10 f11 f12 f13
  obtain ⟨c0, c1, c2, c3, c4, c5, c6, c7, c8, c9, c10, c11, c12, c13⟩ := zero_reads hO2
  exact bodyPost_ret (v := .tuple #[.agg #[.int .i64 0, .int .i64 0, .int .i64 0, .int .i64 0, .int .i64 0, .int .i64 0, .bool false, .bool false, .int .i64 0, .int .i64 0, .int .i64 0, .int .i64 0, .int .i64 0, .slice none 0 0], .int .i64 5]) (by simp [results, Try.results19, go_sem, c0, c1, c2, c3, c4, c5, c6, c7, c8, c9, c10, c11, c12, c13]) rfl ⟨rfl, hok2⟩
theorem byteAt_str (b : ByteArray) (i : Nat) (h : i < b.size) : Wire.byteAt (strL b) i = b[i].toNat := by
  unfold Wire.byteAt strL
  have h' : i < b.data.toList.length := by simpa using h
  rw [List.getElem?_map, List.getElem?_eq_getElem h']
  simp
  rfl
set_option maxHeartbeats 1600000 in
theorem ref6DecodeUnfit (s : ByteArray) (w : World) (h : s.size ≤ 4096) (hs : isSealed (strL s) = true) (hf : Wire.fits ((strL s).take (s.size - 4)) = false) :
    Calls Try.prog 19 #[.string s] w fun e w' => e = .returned (.tuple #[msgV zeroMsg none 0, .int .i64 4]) ∧ Ok w w' := by
  have hok := Ok.refl w
  have hz := zeroMsgV
  have hd : decide ((4096 : Int) < (s.size : Int)) = false := decide_eq_false (by omega)
  have KO := Lib.hid fun W => ref5Open s W (by unfold maxLen; omega)
  rw [hs, if_pos rfl] at KO
  obtain ⟨b, hb⟩ : ∃ b, strOf ((strL s).take (s.size - 4)) = b := ⟨_, rfl⟩
  have hlb : ∀ x ∈ (strL s).take (s.size - 4), x < 256 := fun x hx => strL_lt s x (List.mem_of_mem_take hx)
  have hbl : strL b = (strL s).take (s.size - 4) := by rw [← hb, strL_strOf hlb]
  rw [← hbl] at hf
  have hbs : b.size ≤ 4096 := by rw [← strL_length b, hbl, List.length_take, strL_length]; omega
  rw [hb] at KO
  clear hs h hb hlb hbl
  unfold msgV zeroMsg at hz ⊢
  simp only [List.length_nil] at hz ⊢
  by_cases h76 : b.size < 76
  · have hd76 : decide ((b.size : Int) < 76) = true := decide_eq_true (by omega)
    clear hf
    go_enter Try.func19, Try.ntmps19
    go_upto_region 6 with ((go_at_call 36; (with_reducible refine (KO.out _).mono ?_); rintro e w1 ⟨rfl, hb1⟩; have hO := (Own.new w zeroCells 28 rfl).next hb1; replace hok := (hok.alloc _).trans hb1; clear hb1))
    have c0 := hO.cell 0 (v := .int .i64 0) rfl
    have f0 := hO.frozen 0
    have c1 := hO.cell 1 (v := .int .i64 0) rfl
    have f1 := hO.frozen 1
    have c2 := hO.cell 2 (v := .int .i64 0) rfl
    have f2 := hO.frozen 2
    have c3 := hO.cell 3 (v := .int .i64 0) rfl
    have f3 := hO.frozen 3
    have c4 := hO.cell 4 (v := .int .i64 0) rfl
    have f4 := hO.frozen 4
    have c5 := hO.cell 5 (v := .int .i64 0) rfl
    have f5 := hO.frozen 5
    have c6 := hO.cell 6 (v := .bool false) rfl
    have f6 := hO.frozen 6
    have c7 := hO.cell 7 (v := .bool false) rfl
    have f7 := hO.frozen 7
    have c8 := hO.cell 8 (v := .int .i64 0) rfl
    have f8 := hO.frozen 8
    have c9 := hO.cell 9 (v := .int .i64 0) rfl
    have f9 := hO.frozen 9
    have c10 := hO.cell 10 (v := .int .i64 0) rfl
    have f10 := hO.frozen 10
    have c11 := hO.cell 11 (v := .int .i64 0) rfl
    have f11 := hO.frozen 11
    have c12 := hO.cell 12 (v := .int .i64 0) rfl
    have f12 := hO.frozen 12
    have c13 := hO.cell 13 (v := .slice none 0 0) rfl
    have f13 := hO.frozen 13
    go_wp2
    obtain ⟨hO2, hok2⟩ := zeros_again hO hok
    generalize ((((((((((((((w1.setCell ⟨w.heap.size, 0, none⟩ (.int .i64 0)).setCell ⟨w.heap.size, 1, none⟩ (.int .i64 0)).setCell ⟨w.heap.size, 2, none⟩ (.int .i64 0)).setCell ⟨w.heap.size, 3, none⟩ (.int .i64 0)).setCell ⟨w.heap.size, 4, none⟩ (.int .i64 0)).setCell ⟨w.heap.size, 5, none⟩ (.int .i64 0)).setCell ⟨w.heap.size, 6, none⟩ (.bool false)).setCell ⟨w.heap.size, 7, none⟩ (.bool false)).setCell ⟨w.heap.size, 8, none⟩ (.int .i64 0)).setCell ⟨w.heap.size, 9, none⟩ (.int .i64 0)).setCell ⟨w.heap.size, 10, none⟩ (.int .i64 0)).setCell ⟨w.heap.size, 11, none⟩ (.int .i64 0)).setCell ⟨w.heap.size, 12, none⟩ (.int .i64 0)).setCell ⟨w.heap.size, 13, none⟩ (.slice none 0 0)) = W at hO2 hok2 ⊢
    clear hO hok c0 c1 c2 c3 c4 c5 c6 c7 c8 c9 c10 c11 c12 c13 f0 f1 f2 f3 f4 f5 f6 f7 f8 f9 f10 f11 f12 f13
    obtain ⟨c0, c1, c2, c3, c4, c5, c6, c7, c8, c9, c10, c11, c12, c13⟩ := zero_reads hO2
    exact bodyPost_ret (v := .tuple #[.agg #[.int .i64 0, .int .i64 0, .int .i64 0, .int .i64 0, .int .i64 0, .int .i64 0, .bool false, .bool false, .int .i64 0, .int .i64 0, .int .i64 0, .int .i64 0, .int .i64 0, .slice none 0 0], .int .i64 4]) (by simp [results, Try.results19, go_sem, c0, c1, c2, c3, c4, c5, c6, c7, c8, c9, c10, c11, c12, c13]) rfl ⟨rfl, hok2⟩
  · have hd76 : decide ((b.size : Int) < 76) = false := decide_eq_false (by omega)
    have h3l : 3 < b.size := by omega
    have hby : b[3].toNat < 256 := b[3].toNat_lt
    have hne : ((b.size : Int) != 76 + 16 * (b[3].toNat : Int)) = true := by
      rw [bne_iff_ne]
      intro g
      have : Wire.fits (strL b) = true := by
        unfold Wire.fits
        rw [decide_eq_true_eq, strL_length, byteAt_str b 3 h3l]
        omega
      rw [this] at hf
      cases hf
    clear hf
    go_enter Try.func19, Try.ntmps19
    go_upto_region 6 with ((go_at_call 36; (with_reducible refine (KO.out _).mono ?_); rintro e w1 ⟨rfl, hb1⟩; have hO := (Own.new w zeroCells 28 rfl).next hb1; replace hok := (hok.alloc _).trans hb1; clear hb1))
    have c0 := hO.cell 0 (v := .int .i64 0) rfl
    have f0 := hO.frozen 0
    have c1 := hO.cell 1 (v := .int .i64 0) rfl
    have f1 := hO.frozen 1
    have c2 := hO.cell 2 (v := .int .i64 0) rfl
    have f2 := hO.frozen 2
    have c3 := hO.cell 3 (v := .int .i64 0) rfl
    have f3 := hO.frozen 3
    have c4 := hO.cell 4 (v := .int .i64 0) rfl
    have f4 := hO.frozen 4
    have c5 := hO.cell 5 (v := .int .i64 0) rfl
    have f5 := hO.frozen 5
    have c6 := hO.cell 6 (v := .bool false) rfl
    have f6 := hO.frozen 6
    have c7 := hO.cell 7 (v := .bool false) rfl
    have f7 := hO.frozen 7
    have c8 := hO.cell 8 (v := .int .i64 0) rfl
    have f8 := hO.frozen 8
    have c9 := hO.cell 9 (v := .int .i64 0) rfl
    have f9 := hO.frozen 9
    have c10 := hO.cell 10 (v := .int .i64 0) rfl
    have f10 := hO.frozen 10
    have c11 := hO.cell 11 (v := .int .i64 0) rfl
    have f11 := hO.frozen 11
    have c12 := hO.cell 12 (v := .int .i64 0) rfl
    have f12 := hO.frozen 12
    have c13 := hO.cell 13 (v := .slice none 0 0) rfl
    have f13 := hO.frozen 13
    go_wp2
    obtain ⟨hO2, hok2⟩ := zeros_again hO hok
    generalize ((((((((((((((w1.setCell ⟨w.heap.size, 0, none⟩ (.int .i64 0)).setCell ⟨w.heap.size, 1, none⟩ (.int .i64 0)).setCell ⟨w.heap.size, 2, none⟩ (.int .i64 0)).setCell ⟨w.heap.size, 3, none⟩ (.int .i64 0)).setCell ⟨w.heap.size, 4, none⟩ (.int .i64 0)).setCell ⟨w.heap.size, 5, none⟩ (.int .i64 0)).setCell ⟨w.heap.size, 6, none⟩ (.bool false)).setCell ⟨w.heap.size, 7, none⟩ (.bool false)).setCell ⟨w.heap.size, 8, none⟩ (.int .i64 0)).setCell ⟨w.heap.size, 9, none⟩ (.int .i64 0)).setCell ⟨w.heap.size, 10, none⟩ (.int .i64 0)).setCell ⟨w.heap.size, 11, none⟩ (.int .i64 0)).setCell ⟨w.heap.size, 12, none⟩ (.int .i64 0)).setCell ⟨w.heap.size, 13, none⟩ (.slice none 0 0)) = W at hO2 hok2 ⊢
    clear hO hok c0 c1 c2 c3 c4 c5 c6 c7 c8 c9 c10 c11 c12 c13 f0 f1 f2 f3 f4 f5 f6 f7 f8 f9 f10 f11 f12 f13
    obtain ⟨c0, c1, c2, c3, c4, c5, c6, c7, c8, c9, c10, c11, c12, c13⟩ := zero_reads hO2
    exact bodyPost_ret (v := .tuple #[.agg #[.int .i64 0, .int .i64 0, .int .i64 0, .int .i64 0, .int .i64 0, .int .i64 0, .bool false, .bool false, .int .i64 0, .int .i64 0, .int .i64 0, .int .i64 0, .int .i64 0, .slice none 0 0], .int .i64 4]) (by simp [results, Try.results19, go_sem, c0, c1, c2, c3, c4, c5, c6, c7, c8, c9, c10, c11, c12, c13]) rfl ⟨rfl, hok2⟩
end Go.Proofs.Ytacnoakbcilmfaa
