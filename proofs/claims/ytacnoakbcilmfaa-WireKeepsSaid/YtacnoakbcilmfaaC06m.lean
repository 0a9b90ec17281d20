/- Contracts of layer 6: the program's must, take, numbers. -/
import Derived.Test.YtacnoakbcilmfaaC06k
import Derived.Defers
import Derived.Recover
namespace Go.Proofs.Ytacnoakbcilmfaa
open Go.RowKit
set_option maxRecDepth 100000
/-- What is thrown: an error's number. -/
def why (n : Int) : List PanicEntry := [{ v := .iface 32 (.int .i64 n), recovered := false }]
theorem wireMust (n : Int) (w : World) : Calls Try.prog 33 #[.bool true, .int .i64 n] w fun e w' => e = .returned (.tuple #[]) ∧ w = w' := by
  go_enter Try.func33, Try.ntmps33
  go_wp2
  first | go_end0 | exact bodyPost_ret (results_none rfl _ _ _) rfl ⟨rfl, rfl⟩
  all_goals exact ⟨rfl, rfl⟩
theorem wireMustNot (n : Int) (w : World) : Calls Try.prog 33 #[.bool false, .int .i64 n] w fun e w' => e = .panicked (why n) ∧ w = w' := by
  go_enter Try.func33, Try.ntmps33
  go_wp2
  exact ⟨rfl, rfl, rfl⟩
set_option maxHeartbeats 800000 in
theorem wireTake (r c o cap n L : Nat) (N : Int) (hN : N = (n : Int)) (w : World) (hO : Own w r #[.slice (some ⟨c, o, none⟩) L cap]) (hn : n ≤ L) (hL : L ≤ cap) (_ : cap ≤ 9223372036854775807) :
    Calls Try.prog 41 #[.pointer (some ⟨r, 0, none⟩), .int .i64 N] w fun e w' => e = .returned (.slice (some ⟨c, o, none⟩) n cap) ∧ ∃ A, w' = w.setCell ⟨r, 0, none⟩ (.slice A (L - n) (cap - n)) ∧ (n < L → A = some ⟨c, o + n, none⟩) ∧ ∀ a, A = some a → a.block = c := by
  subst hN
  have c0 := hO.cell 0 (v := .slice (some ⟨c, o, none⟩) L cap) rfl
  have f0 := hO.frozen 0
  have d1 : decide ((n : Int) ≤ (L : Int)) = true := decide_eq_true (by omega)
  have d2 : (n : Int) ≤ (L : Int) := by omega
  have d3 : (0 : Int) ≤ (n : Int) := by omega
  have d4 : (n : Int) ≤ (cap : Int) := by omega
  obtain ⟨X, hX⟩ : ∃ X : Option Addr, (if cap = n then some (⟨c, o, none⟩ : Addr) else some ⟨c, o + n, none⟩) = X := ⟨_, rfl⟩
  have HX := Lib.hid hX
  clear hO
  go_enter Try.func41, Try.ntmps41
  go_wp2_with ((go_at_call 33; refine (wireMust _ _).mono ?_; rintro e w1 ⟨rfl, rfl⟩))
  go_ret
  refine ⟨rfl, X, rfl, ?_, ?_⟩
  · intro h
    rw [← HX.out, if_neg (by omega)]
  · intro a ha
    have := HX.out
    rw [ha] at this
    split at this <;> (cases this; rfl)
set_option maxHeartbeats 800000 in
theorem wireTakeNot (A : Option Addr) (r cap n L : Nat) (N : Int) (hN : N = (n : Int)) (w : World) (hO : Own w r #[.slice A L cap]) (hn : L < n) :
    Calls Try.prog 41 #[.pointer (some ⟨r, 0, none⟩), .int .i64 N] w fun e w' => e = .panicked (why 4) ∧ w = w' := by
  subst hN
  have c0 := hO.cell 0 (v := .slice A L cap) rfl
  have d1 : decide ((n : Int) ≤ (L : Int)) = false := decide_eq_false (by omega)
  have d2 : ((n : Int) ≤ (L : Int)) = False := eq_false (by omega)
  have d3 : (n ≤ L) = False := eq_false (by omega)
  go_enter Try.func41, Try.ntmps41
  go_wp2_with ((go_at_call 33; (with_reducible refine (wireMustNot _ _).mono ?_); rintro e w1 ⟨rfl, rfl⟩))
  exact ⟨rfl, rfl, rfl⟩
/-- Only the blocks r and M may have changed; nothing is new. -/
structure Two (r M : Nat) (w w' : World) : Prop where
  os : w'.os = w.os
  tape : w'.tape = w.tape
  output : w'.output = w.output
  size : w'.heap.size = w.heap.size
  block : ∀ k, k ≠ r → k ≠ M → w'.heap[k]? = w.heap[k]?
namespace Two
variable {r M : Nat} {w w1 w2 : World}
theorem refl (r M : Nat) (w : World) : Two r M w w := ⟨rfl, rfl, rfl, rfl, fun _ _ _ => rfl⟩
theorem trans (h : Two r M w w1) (k : Two r M w1 w2) : Two r M w w2 := ⟨k.os.trans h.os, k.tape.trans h.tape, k.output.trans h.output, k.size.trans h.size, fun i a b => (k.block i a b).trans (h.block i a b)⟩
theorem set (h : Two r M w w1) {a : Addr} (ha : a.block = r ∨ a.block = M) (v : Value) : Two r M w (w1.setCell a v) :=
  ⟨h.os, h.tape, h.output, by simpa using h.size, fun i h1 h2 => (Below.heap_setCell w1 a v i (by rcases ha with e | e <;> omega)).trans (h.block i h1 h2)⟩
theorem cell (h : Two r M w w1) {a : Addr} (h1 : a.block ≠ r) (h2 : a.block ≠ M) : w1.cell? a = w.cell? a := World.cell?_of_block (h.block _ h1 h2)
theorem own (h : Two r M w w1) {g : Nat} {cs : Array Value} (hO : Own w g cs) (h1 : g ≠ r) (h2 : g ≠ M) : Own w1 g cs := by
  obtain ⟨t, ht⟩ := hO
  exact ⟨t, (h.block g h1 h2).trans ht⟩
theorem bytes (h : Two r M w w1) {c : Nat} {A : Option Addr} {l : List Nat} (hB : BytesAt w A l) (hA : ∀ a, A = some a → a.block = c) (h1 : c ≠ r) (h2 : c ≠ M) : BytesAt w1 A l := fun k hk => by
  obtain ⟨b, off, e, hl, hc⟩ := hB k hk
  have hb : b = c := hA _ e
  exact ⟨b, off, e, by rw [h.size]; exact hl, (h.cell (a := ⟨b, off + k, none⟩) (by show b ≠ r; omega) (by show b ≠ M; omega)).trans hc⟩
end Two
/-- The reader r has the bytes l left; they lie in the block c. -/
def Rd (w : World) (r c : Nat) (l : List Nat) : Prop := ∃ A cap, Own w r #[.slice A l.length cap] ∧ BytesAt w A l ∧ l.length ≤ cap ∧ cap ≤ 9223372036854775807 ∧ ∀ a, A = some a → a.block = c
theorem Rd.taken {w : World} {r c o cap n : Nat} {l : List Nat} {A : Option Addr} (hO : Own w r #[.slice (some ⟨c, o, none⟩) l.length cap]) (hB : BytesAt w (some ⟨c, o, none⟩) l) (hcr : c ≠ r) (hl : l.length ≤ cap) (hm : cap ≤ 9223372036854775807) (h1 : n < l.length → A = some ⟨c, o + n, none⟩) (h2 : ∀ a, A = some a → a.block = c) :
    Rd (w.setCell ⟨r, 0, none⟩ (.slice A (l.length - n) (cap - n))) r c (l.drop n) := by
  have hset := hO.set 0 (.slice A (l.length - n) (cap - n))
  refine ⟨A, cap - n, ?_, ?_, ?_, by omega, h2⟩
  · rw [List.length_drop]; exact hset
  · intro k hk
    rw [List.length_drop] at hk
    obtain ⟨b, off, e, hlt, hc⟩ := hB (n + k) (by omega)
    cases e
    refine ⟨c, o + n, h1 (by omega), by simpa using hlt, ?_⟩
    rw [World.cell?_setCell_other (h := by simp only [ne_eq, Addr.mk.injEq, not_and]; intro e; exact absurd e.symm hcr), List.getElem_drop, ← hc, Nat.add_assoc]
  · rw [List.length_drop]; omega
theorem Rd.setOther {w : World} {r c : Nat} {l : List Nat} (h : Rd w r c l) {a : Addr} (h1 : a.block ≠ r) (h2 : a.block ≠ c) (v : Value) : Rd (w.setCell a v) r c l := by
  obtain ⟨A, cap, hO, hB, hl, hm, hA⟩ := h
  have T : Two a.block a.block w (w.setCell a v) := (Two.refl _ _ _).set (.inl rfl) v
  exact ⟨A, cap, hO.setOther (by omega) _, T.bytes hB hA (by omega) (by omega), hl, hm, hA⟩
/-- Numbers laid into the cells os, k of them. -/
def setAll (cs : Array Value) (os : List Nat) (l : List Nat) : Nat → Array Value
  | 0 => cs
  | k + 1 => (setAll cs os l k).set! (os.getD k 0) (.int .i64 (Wire.at8 l k))
theorem setAll_size (cs : Array Value) (os l : List Nat) (k : Nat) : (setAll cs os l k).size = cs.size := by
  induction k with
  | zero => rfl
  | succ k ih => simp [setAll, ih]
theorem or_u64 {n b : Nat} (hn : n < 72057594037927936) (hb : b < 256) : bits .or .u64 (IntKind.u64.wrap ((n : Int) * 256)) (b : Int) = ((n * 256 + b : Nat) : Int) := by
  have e1 : (BitVec.ofInt 64 (IntKind.u64.wrap ((n : Int) * 256))).toNat = 2 ^ 8 * n := by
    rw [BitVec.toNat_ofInt, show IntKind.u64.wrap ((n : Int) * 256) = (n : Int) * 256 % 18446744073709551616 from rfl]
    omega
  have e2 : (BitVec.ofInt 64 (b : Int)).toNat = b := by rw [BitVec.ofInt_natCast, BitVec.toNat_ofNat]; exact Nat.mod_eq_of_lt (by omega)
  show IntKind.u64.wrap ((BitVec.ofInt 64 (IntKind.u64.wrap ((n : Int) * 256)) ||| BitVec.ofInt 64 (b : Int)).toNat : Int) = _
  rw [BitVec.toNat_or, e1, e2, ← Nat.two_pow_add_eq_or_of_lt (by omega)]
  rw [show ∀ z : Int, IntKind.u64.wrap z = z % 18446744073709551616 from fun _ => rfl]
  omega
theorem num_wrap {q : List Nat} (hb : ∀ x ∈ q, x < 256) (hl : q.length = 8) : IntKind.i64.wrap ((Wire.big q : Nat) : Int) = Wire.num q := by
  have hlt8 := Wire.big_lt q hb
  rw [hl] at hlt8
  have e8 : (256 : Nat) ^ 8 = 18446744073709551616 := by decide
  unfold Wire.num
  rw [IntKind.wrap_i64]
  split <;> omega
set_option maxHeartbeats 1600000 in
theorem wireNumbers (r M c p cp n : Nat) (l os : List Nat) (hnn : n = os.length) (cs : Array Value) (w : World) (hR : Rd w r c l) (hM : Own w M cs) (hP : ∀ k (h : k < os.length), w.cell? ⟨p, k, none⟩ = some (.pointer (some ⟨M, os[k], none⟩))) (hos : ∀ o ∈ os, o < cs.size) (hb : ∀ b ∈ l, b < 256)
    (hrM : r ≠ M) (hcr : c ≠ r) (hcM : c ≠ M) (hpr : p ≠ r) (hpM : p ≠ M) (hn : os.length ≤ 100) :
    Calls Try.prog 42 #[.pointer (some ⟨r, 0, none⟩), .slice (some ⟨p, 0, none⟩) n cp] w fun e w' => Two r M w w' ∧ ((8 * os.length ≤ l.length ∧ e = .returned (.tuple #[]) ∧ Rd w' r c (l.drop (8 * os.length)) ∧ Own w' M (setAll cs os l os.length)) ∨ (l.length < 8 * os.length ∧ e = .panicked (why 4))) := by
  subst hnn
  go_enter Try.func42, Try.ntmps42
  go_wp2
  go_loopw [11] (fun i wx => ∃ k : Nat, k ≤ os.length ∧ 8 * k ≤ l.length ∧ i = .int .i64 k ∧ Rd wx r c (l.drop (8 * k)) ∧ Own wx M (setAll cs os l k) ∧ Two r M w wx) (fun i _ => os.length - (intOf i).toNat)
  case atStart => exact ⟨0, by omega, by omega, rfl, hR, hM, Two.refl _ _ _⟩
  case round =>
    clear hR hM
    obtain ⟨k, hk, hkl, rfl, hR, hM, hT⟩ := hrel
    by_cases hlt : k < os.length
    · have cP := (hT.cell (a := ⟨p, k, none⟩) hpr hpM).trans (hP k hlt)
      obtain ⟨q, hq⟩ : ∃ q, l.drop (8 * k) = q := ⟨_, rfl⟩
      have HQ := Lib.hid hq
      have hql : q.length = l.length - 8 * k := by rw [← hq, List.length_drop]
      rw [hq] at hR
      obtain ⟨A, cap, hO, hB, hlc, hcm, hAc⟩ := hR
      have hqb : ∀ x ∈ q, x < 256 := fun x hx => by rw [← hq] at hx; exact hb x (List.mem_of_mem_drop hx)
      clear hq
      by_cases h8 : q.length < 8
      · have KT := Lib.hid (wireTakeNot A r cap 8 q.length 8 rfl wr hO h8)
        have hfin : l.length < 8 * os.length := by omega
        clear hO hB hM hqb hP hos hlc hcm
        go_wp2_with ((go_at_call 41; (with_reducible refine KT.out.mono ?_); rintro e w1 ⟨rfl, rfl⟩))
        exact ⟨rfl, hT, .inr ⟨hfin, rfl⟩⟩
      · obtain ⟨b0, o, hAe, hb0, -⟩ := hB 0 (by omega)
        obtain rfl : b0 = c := hAc _ hAe
        subst hAe
        have KT := Lib.hid (wireTake r b0 o cap 8 q.length 8 rfl wr hO (by omega) hlc hcm)
        have HRT := Lib.hid fun A h1 h2 => Rd.taken (n := 8) (A := A) hO hB hcr hlc hcm h1 h2
        have HB := Lib.hid hB
        have HM := Lib.hid hM
        have HT := Lib.hid hT
        have HQB := Lib.hid hqb
        have hosk : os[k] < (setAll cs os l k).size := by rw [setAll_size]; exact hos _ (List.getElem_mem _)
        have HOK := Lib.hid hosk
        obtain ⟨ok, hok⟩ : ∃ x, os[k] = x := ⟨_, rfl⟩
        have HOS := Lib.hid (show os.getD k 0 = ok by rw [← hok, List.getD_eq_getElem?_getD, List.getElem?_eq_getElem hlt]; rfl)
        rw [hok] at cP HOK
        have H8 := Lib.hid (show 8 ≤ q.length by omega)
        have HAC := Lib.hid hAc
        have HKL := Lib.hid (show 8 * (k + 1) ≤ l.length by omega)
        clear hql hok hosk hO hB hM hT hqb hP hos hlc hcm hAc hb h8
        go_wp2_with ((go_at_call 41; (with_reducible refine KT.out.mono ?_); rintro e w1 ⟨rfl, X, rfl, hX1, hX2⟩))
        have hRd1 := HRT.out X hX1 hX2
        have hT0 := (Two.refl r M wr).set (a := ⟨r, 0, none⟩) (.inl rfl) (.slice X (q.length - 8) (cap - 8))
        have hM1 := HM.out.setOther (a := ⟨r, 0, none⟩) (fun e => hrM e.symm) (.slice X (q.length - 8) (cap - 8))
        have hB1 := hT0.bytes HB.out HAC.out hcr hcM
        have hT1 := HT.out.trans hT0
        generalize wr.setCell ⟨r, 0, none⟩ (.slice X (q.length - 8) (cap - 8)) = w1 at hRd1 hM1 hB1 hT1 ⊢
        clear hT0 HT HM HB HRT hX1 hX2 KT HAC cP
        have HR1 := Lib.hid hRd1
        have HM1 := Lib.hid hM1
        have HB1 := Lib.hid hB1
        have HT1 := Lib.hid hT1
        clear hRd1 hM1 hB1 hT1
        go_loop [6, 18] (fun n i => ∃ j : Nat, j ≤ 8 ∧ i = .int .i64 j ∧ n = .int .u64 ((Wire.big (q.take j) : Nat) : Int)) (fun _ i => 8 - (intOf i).toNat)
        case atStart => exact ⟨0, by omega, rfl, rfl⟩
        case round =>
          obtain ⟨j, hj, rfl, rfl⟩ := hrel
          by_cases hlt8 : j < 8
          · have hjq : j < q.length := by have := H8.out; omega
            obtain ⟨_, o2, e2, _, hcell⟩ := HB1.out j hjq
            cases e2
            have hx := HQB.out q[j] (List.getElem_mem _)
            have hl7 : (q.take j).length ≤ 7 := by rw [List.length_take]; omega
            have hlt9 := Wire.big_lt (q.take j) (fun x hx => HQB.out x (List.mem_of_mem_take hx))
            have hpow : 256 ^ (q.take j).length ≤ 256 ^ 7 := Nat.pow_le_pow_right (by decide) hl7
            have hn : Wire.big (q.take j) < 72057594037927936 := by
              have : (256 : Nat) ^ 7 = 72057594037927936 := by decide
              omega
            have HN := Lib.hid (show Wire.big (q.take (j + 1)) = Wire.big (q.take j) * 256 + q[j] by
              rw [List.take_succ_eq_append_getElem hjq, Wire.big_snoc])
            have HO := Lib.hid (or_u64 hn hx)
            obtain ⟨bj, hbj⟩ : ∃ x, q[j] = x := ⟨_, rfl⟩
            rw [hbj] at HN HO hcell hx
            obtain ⟨nj, hnj⟩ : ∃ x, Wire.big (q.take j) = x := ⟨_, rfl⟩
            rw [hnj] at HN HO ⊢
            clear hbj hnj hlt9 hpow hn hl7
            go_wp2
            go_round
            case rel => exact ⟨j + 1, by omega, by go_num, by rw [HN.out, ← HO.out]⟩
            case measure => simp [intOf]; omega
          · obtain rfl : j = 8 := by omega
            have hq8 : (q.take 8).length = 8 := by rw [List.length_take]; have := H8.out; omega
            have hnum : IntKind.i64.wrap ((Wire.big (q.take 8) : Nat) : Int) = Wire.at8 l k := by
              rw [num_wrap (fun x hx => HQB.out x (List.mem_of_mem_take hx)) hq8, Wire.at8, HQ.out]
            obtain ⟨v0, hv0⟩ : ∃ v0, (setAll cs os l k)[ok]? = some v0 := ⟨_, Array.getElem?_eq_getElem HOK.out⟩
            have cM := HM1.out.cell ok hv0
            have fM := HM1.out.frozen ok
            obtain ⟨bg, hbg⟩ : ∃ x, Wire.big (q.take 8) = x := ⟨_, rfl⟩
            rw [hbg] at hnum ⊢
            clear hbg hq8 hlt8 hv0
            go_wp2
            go_roundw
            case rel => exact ⟨k + 1, by omega, HKL.out, by go_num, by rw [show 8 * (k + 1) = 8 * k + 8 by omega, ← List.drop_drop, HQ.out]; exact HR1.out.setOther hrM.symm hcM.symm _, by rw [setAll, HOS.out]; exact HM1.out.set ok _, HT1.out.set (.inr rfl) _⟩
            case measure => simp [intOf]; omega
    · obtain rfl : k = os.length := by omega
      have hfin : 8 * os.length ≤ l.length := hkl
      clear hlt hP hos
      go_wp2
      first | go_end0 | exact bodyPost_ret (results_none rfl _ _ _) rfl ⟨hT, .inl ⟨hfin, rfl, hR, hM⟩⟩
      all_goals exact ⟨hT, .inl ⟨hfin, rfl, hR, hM⟩⟩
end Go.Proofs.Ytacnoakbcilmfaa
