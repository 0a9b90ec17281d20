/- Contracts of layer 5: the document's Seal and Open. -/
import Derived.Test.YtacnoakbcilmfaaC05a
import Derived.Test.YtacnoakbcilmfaaW07
import Derived.Laws.BytesArg
import Derived.Laws.IdiomStrings
import Derived.WideShapes
namespace Go.Proofs.Ytacnoakbcilmfaa
open Go.RowKit
set_option maxRecDepth 100000
/-- Numbers as a string's bytes. -/
def strOf (l : List Nat) : ByteArray := ⟨(l.map UInt8.ofNat).toArray⟩
theorem strL_strOf {l : List Nat} (h : ∀ b ∈ l, b < 256) : strL (strOf l) = l := by
  unfold strL strOf
  simp only [List.map_map]
  conv => rhs; rw [← List.map_id l]
  apply List.map_congr_left
  intro b hb
  have := h b hb
  show (UInt8.ofNat b).toNat = b
  rw [UInt8.toNat_ofNat']
  omega
theorem strOf_strL (s : ByteArray) : strOf (strL s) = s := by
  unfold strL strOf
  rw [List.map_map, show (UInt8.ofNat ∘ UInt8.toNat) = id from funext fun x => by simp, List.map_id]
theorem strOf_append (l m : List Nat) : strOf l ++ strOf m = strOf (l ++ m) := by
  unfold strOf
  simp only [List.map_append]
  apply ByteArray.ext
  simp
theorem strOf_size (l : List Nat) : (strOf l).size = l.length := by simp [strOf, ByteArray.size]
theorem strOf_inj {l m : List Nat} (hl : ∀ b ∈ l, b < 256) (hm : ∀ b ∈ m, b < 256) (h : strOf l = strOf m) : l = m := by
  rw [← strL_strOf hl, ← strL_strOf hm, h]
/-- Bytes made a string. -/
theorem run_bytes_string {P : Program} {src dst e : TypeId} (hs : P.underlying src = some (.slice e)) (he : P.underlying e = some (.int .u8)) (hd : P.underlying dst = some .string) {w : World} {A : Option Addr} {l : List Nat} (h : BytesAt w A l) (hl : ∀ b ∈ l, b < 256) {n : Nat} (hn : n = l.length) (cap : Nat) :
    Sem.run P (convert src dst (.slice A n cap)) w = .ok (.string (strOf l)) w := by
  subst hn
  cases A with
  | none =>
    have : l = [] := by
      cases l with
      | nil => rfl
      | cons b l => obtain ⟨_, _, e, _⟩ := h 0 (by simp); cases e
    subst this
    exact run_convert_bytes_nil w src e hs he 0 cap dst hd
  | some a =>
    have hc : ∀ j (hj : j < (l.map UInt8.ofNat).length), w.cell? (a.add j) = some (.int .u8 ((l.map UInt8.ofNat)[j].toNat : Int)) := by
      intro j hj
      obtain ⟨b, off, e, hlt, hcell⟩ := h j (by simpa using hj)
      cases e
      rw [Go.WideShapes.add_plain, hcell]
      have hj' : j < l.length := by simpa using hj
      have := hl (l[j]'hj') (List.getElem_mem _)
      simp only [List.getElem_map, UInt8.toNat_ofNat']
      rw [Nat.mod_eq_of_lt (by omega)]
    have := run_convert_bytes_back w src dst e a cap (l.map UInt8.ofNat) hs he hd hc
    simpa [strOf] using this
theorem bytesOf4 (c : Nat) (h : c < 4294967296) : (Crc.bytesOf 4 c).map (fun (b : Nat) => Value.int .u8 (b : Int)) = [.int .u8 ((c : Int) % 256), .int .u8 ((c : Int) / 256 % 256), .int .u8 ((c : Int) / 65536 % 256), .int .u8 ((c : Int) / 16777216)] := by
  simp only [Crc.bytesOf, List.map_cons, List.map_nil, List.cons.injEq, Value.int.injEq, true_and, and_true]
  omega
theorem bytesOf_lt (n v : Nat) : ∀ b ∈ Crc.bytesOf n v, b < 256 := by
  intro b hb
  obtain ⟨i, hi, rfl⟩ := List.mem_iff_getElem.1 hb
  rw [Crc.bytesOf_length] at hi
  rw [Crc.bytesOf_at n v i hi]; omega
theorem toList_ne {R s : ByteArray} (h : R ≠ s) : (R.toList == s.toList) = false := by
  rw [beq_eq_false_iff_ne]
  intro g
  rw [ByteArray.toList_eq, ByteArray.toList_eq] at g
  exact h (Go.WideShapes.bytes_inj g)
/-- A string with its check behind it. -/
def sealL (l : List Nat) : List Nat := l ++ Crc.bytesOf 4 (Crc.check l)
theorem sealL_lt {l : List Nat} (h : ∀ b ∈ l, b < 256) : ∀ b ∈ sealL l, b < 256 := fun b hb => by
  rcases List.mem_append.1 hb with g | g
  · exact h b g
  · exact bytesOf_lt _ _ b g
theorem sealL_length (l : List Nat) : (sealL l).length = l.length + 4 := by simp [sealL, Crc.bytesOf_length]
theorem ref5Seal (s : ByteArray) (w : World) (hs : s.size + 4 ≤ maxLen) : Calls Try.prog 31 #[.string s] w fun e w' => e = .returned (.string (strOf (sealL (strL s)))) ∧ Ok w w' := by
  have hc := Crc.check_lt (strL_lt s)
  have KS := Lib.hid fun w => ref5Sum s w (by omega)
  have HE := Lib.hid (show s ++ strOf (Crc.bytesOf 4 (Crc.check (strL s))) = strOf (sealL (strL s)) by unfold sealL; rw [← strOf_append, strOf_strL])
  obtain ⟨R, hR⟩ : ∃ R, strOf (sealL (strL s)) = R := ⟨_, rfl⟩
  rw [hR] at HE ⊢
  clear hR
  obtain ⟨c, hce⟩ : ∃ c, Crc.check (strL s) = c := ⟨_, rfl⟩
  rw [hce] at hc KS HE
  clear hce
  have hcv : ∀ (W : World), Sem.run Try.prog (convert 41 9 (.slice (some ⟨W.heap.size, 0, none⟩) 4 4)) (W.alloc (.cells #[.int .u8 ((c : Int) % 256), .int .u8 ((c : Int) / 256 % 256), .int .u8 ((c : Int) / 65536 % 256), .int .u8 ((c : Int) / 16777216)] 5)) = .ok (.string (strOf (Crc.bytesOf 4 c))) (W.alloc (.cells #[.int .u8 ((c : Int) % 256), .int .u8 ((c : Int) / 256 % 256), .int .u8 ((c : Int) / 65536 % 256), .int .u8 ((c : Int) / 16777216)] 5)) := fun W =>
    run_bytes_string Try.underlying41 Try.underlying5 Try.underlying9 (BytesAt.new W (Crc.bytesOf 4 c) _ _ (bytesOf4 c hc).symm rfl) (bytesOf_lt _ _) (Crc.bytesOf_length _ _).symm 4
  unfold maxLen at hs
  have hz : (strOf (Crc.bytesOf 4 c)).size = 4 := by rw [strOf_size, Crc.bytesOf_length]
  go_enter Try.func31, Try.ntmps31
  go_wp2_with (go_at_call 40; refine (KS.out _).mono ?_; rintro e w1 ⟨rfl, rfl⟩)
  go_ret
  exact ⟨by rw [← HE.out]; rfl, (Ok.refl _).alloc _⟩
/-- Whether a string's last four bytes are the check of the others. -/
def isSealed (l : List Nat) : Bool := decide (4 ≤ l.length ∧ sealL (l.take (l.length - 4)) = l)
theorem ref5Open (s : ByteArray) (w : World) (hs : s.size ≤ maxLen) : Calls Try.prog 36 #[.string s] w fun e w' => e = .returned (.tuple #[.string (if isSealed (strL s) then strOf ((strL s).take (s.size - 4)) else ⟨#[]⟩), .bool (isSealed (strL s))]) ∧ Ok w w' := by
  have hok := Ok.refl w
  unfold maxLen at hs
  by_cases h4 : s.size < 4
  · have e : isSealed (strL s) = false := by unfold isSealed; rw [decide_eq_false]; rw [strL_length]; omega
    rw [e]
    go_enter Try.func36, Try.ntmps36
    go_wp2
    go_ret2
    exact ⟨rfl, hok⟩
  · have hl : strL (s.extract 0 (s.size - 4)) = (strL s).take (s.size - 4) := by
      unfold strL; simp
    have KS := Lib.hid fun w => ref5Seal (s.extract 0 (s.size - 4)) w (by unfold maxLen; simp; omega)
    have ht : s.extract 0 (s.size - 4) = strOf ((strL s).take (s.size - 4)) := by rw [← hl, strOf_strL]
    rw [hl] at KS
    by_cases h : sealL ((strL s).take (s.size - 4)) = strL s
    · have e : isSealed (strL s) = true := by unfold isSealed; rw [decide_eq_true_eq, strL_length]; exact ⟨by omega, h⟩
      rw [e, if_pos rfl, ← ht]
      rw [h, strOf_strL] at KS
      clear h ht hl e
      obtain ⟨t, ht⟩ : ∃ t, s.extract 0 (s.size - 4) = t := ⟨_, rfl⟩
      rw [ht] at KS ⊢
      go_enter Try.func36, Try.ntmps36
      go_wp2_with (go_at_call 31; refine (KS.out _).mono ?_; rintro e w1 ⟨rfl, hb1⟩; replace hok := hok.trans hb1; clear hb1)
      go_ret2
      exact ⟨by subst ht; rfl, hok⟩
    · have e : isSealed (strL s) = false := by unfold isSealed; rw [decide_eq_false]; rw [strL_length]; exact fun g => h g.2
      rw [e, if_neg (by simp)]
      have hne : strOf (sealL ((strL s).take (s.size - 4))) ≠ s := by
        intro g
        apply h
        rw [← strL_strOf (sealL_lt fun b hb => strL_lt s b (List.mem_of_mem_take hb)), g]
      clear h ht hl e
      obtain ⟨R, hR⟩ : ∃ R, strOf (sealL ((strL s).take (s.size - 4))) = R := ⟨_, rfl⟩
      rw [hR] at KS hne
      clear hR
      have hne' : (R.toList == s.toList) = false := toList_ne hne
      clear hne
      obtain ⟨t, ht⟩ : ∃ t, s.extract 0 (s.size - 4) = t := ⟨_, rfl⟩
      rw [ht] at KS
      go_enter Try.func36, Try.ntmps36
      go_wp2_with (go_at_call 31; refine (KS.out _).mono ?_; rintro e w1 ⟨rfl, hb1⟩; replace hok := hok.trans hb1; clear hb1)
      go_ret2
      exact ⟨rfl, hok⟩
end Go.Proofs.Ytacnoakbcilmfaa
