/- Contracts of layer 6: the program's within, Table. -/
import Derived.Test.YtlclfonlidcfiaaDoorC06a
import Derived.Test.YtlclfonlidcfiaaDoorWA
namespace Go.Proofs.YtlclfonlidcfiaaDoor
open Go.RowKit
set_option maxRecDepth 100000
/-- All of them from lo to hi? -/
def allIn (lo hi : Int) (l : List Int) : Bool := l.all fun x => decide (lo ≤ x ∧ x ≤ hi)
theorem allIn_drop (lo hi : Int) (l : List Int) (k : Nat) (hk : k < l.length) : allIn lo hi (l.drop k) = (decide (lo ≤ l[k] ∧ l[k] ≤ hi) && allIn lo hi (l.drop (k + 1))) := by
  rw [List.drop_eq_getElem_cons hk]; rfl
set_option maxHeartbeats 800000 in
theorem wireWithin (lo hi : Int) (A : Option Addr) (l : List Int) (cap : Nat) (w : World) (h : IntsAt w A l) (hl : l.length ≤ 9223372036854775807) :
    Calls Tryd.prog 78 #[.int .i64 lo, .int .i64 hi, .slice A l.length cap] w fun e w' => e = .returned (.bool (allIn lo hi l)) ∧ w = w' := by
  obtain ⟨R, hR⟩ : ∃ R, allIn lo hi l = R := ⟨_, rfl⟩
  rw [hR]
  have HR0 := Lib.hid (show R = allIn lo hi (l.drop 0) from hR.symm)
  clear hR
  go_enter Tryd.func78, Tryd.ntmps78
  go_wp2
  go_loop [11] (fun i => ∃ k : Nat, k ≤ l.length ∧ i = .int .i64 k ∧ Hid (R = allIn lo hi (l.drop k))) (fun i => l.length - (intOf i).toNat)
  case atStart => exact ⟨0, Nat.zero_le _, rfl, HR0⟩
  case round =>
    obtain ⟨k, hk, rfl, heq⟩ := hrel
    clear HR0
    by_cases hlt : k < l.length
    · obtain ⟨b, off, hA, hb, hc⟩ := h k hlt
      subst hA
      have HR := Lib.hid (heq.out.trans (allIn_drop lo hi l k hlt))
      obtain ⟨x, hx⟩ : ∃ x, l[k] = x := ⟨_, rfl⟩
      rw [hx] at HR hc
      clear hx heq h
      by_cases g1 : x < lo
      · obtain rfl : R = false := by rw [HR.out, decide_eq_false (by omega)]; rfl
        clear HR
        go_wp2
        go_ret
        exact ⟨rfl, rfl⟩
      · by_cases g2 : hi < x
        · obtain rfl : R = false := by rw [HR.out, decide_eq_false (by omega)]; rfl
          clear HR
          go_wp2
          go_ret
          exact ⟨rfl, rfl⟩
        · have HN : Hid (R = allIn lo hi (l.drop (k + 1))) := by
            have hr := HR.out
            rw [decide_eq_true (by omega), Bool.true_and] at hr
            exact Lib.hid hr
          clear HR
          go_wp2
          go_round
          case rel => exact ⟨k + 1, by omega, by go_num, HN⟩
          case measure => simp [intOf]; omega
    · obtain rfl : R = true := by rw [heq.out, List.drop_of_length_le (by omega)]; rfl
      clear heq
      go_wp2
      go_ret
      exact ⟨rfl, rfl⟩
theorem wireWithin1 (lo hi x : Int) (w : World) (t : TypeId) {b : Nat} (hb : b = w.heap.size) : Calls Tryd.prog 78 #[.int .i64 lo, .int .i64 hi, .slice (some ⟨b, 0, none⟩) 1 1] (w.alloc (.cells #[.int .i64 x] t)) fun e w' => e = .returned (.bool (decide (lo ≤ x ∧ x ≤ hi))) ∧ (w.alloc (.cells #[.int .i64 x] t)) = w' := by
  have h := wireWithin lo hi _ [x] 1 _ (ints_new w [x] t _ rfl hb) (by simp)
  simpa [allIn] using h
theorem off_bd (l : List (Int × Int)) (k : Nat) (hk : k < l.length) (o : Int) (h : l[k].2 = o) : offAt l (k + 1) = o := by
  simp only [offAt, List.getElem?_eq_getElem hk, h]
theorem lo_nx (l : List (Int × Int)) (k : Nat) (hk : k < l.length) (a : Int) (h : l[k].1 = a) : loAt l (k + 1) = a + 86400 := by
  simp only [loAt, List.getElem?_eq_getElem hk, h]
set_option maxHeartbeats 1600000 in
theorem wireTable (A : Option Addr) (l : List (Int × Int)) (cap : Nat) (w : World) (h : PairsAt w A l) (hl : l.length ≤ 9223372036854775807) :
    Calls Tryd.prog 63 #[.slice A l.length cap] w fun e w' => e = .returned (.bool (Wire.tab l)) ∧ Ok w w' := by
  have hok := Ok.refl w
  by_cases h32 : 32 < l.length
  · have e : Wire.tab l = false := by unfold Wire.tab; rw [decide_eq_false (by omega)]; rfl
    rw [e]
    have hd : decide ((32 : Int) < (l.length : Int)) = true := decide_eq_true (by omega)
    go_enter Tryd.func63, Tryd.ntmps63
    go_wp2
    go_ret
    exact ⟨rfl, hok⟩
  have e0 : Wire.tab l = Wire.tabFrom (loAt l 0) (offAt l 0) (l.drop 0) := by unfold Wire.tab; rw [decide_eq_true (by omega)]; rfl
  rw [e0]
  clear e0
  obtain ⟨R, hR⟩ : ∃ R, Wire.tabFrom (loAt l 0) (offAt l 0) (l.drop 0) = R := ⟨_, rfl⟩
  rw [hR]
  have HR0 := Lib.hid hR.symm
  clear hR
  have hd : decide ((32 : Int) < (l.length : Int)) = false := decide_eq_false (by omega)
  have H32 := Lib.hid h32
  go_enter Tryd.func63, Tryd.ntmps63
  go_wp2
  go_loopw [3, 4, 12] (fun n c i wx => ∃ k : Nat, k ≤ l.length ∧ i = .int .i64 k ∧ n = .int .i64 (loAt l k) ∧ c = .int .i64 (offAt l k) ∧ Hid (R = Wire.tabFrom (loAt l k) (offAt l k) (l.drop k)) ∧ 0 ≤ loAt l k ∧ -(k : Int) ≤ offAt l k ∧ offAt l k ≤ k ∧ Ok w wx) (fun _ _ i _ => l.length - (intOf i).toNat)
  case atStart => exact ⟨0, Nat.zero_le _, rfl, rfl, rfl, HR0, by show (0 : Int) ≤ 0; decide, by show (-(0 : Nat) : Int) ≤ 0; decide, by show (0 : Int) ≤ (0 : Nat); decide, hok⟩
  case round =>
    obtain ⟨k, hk, rfl, rfl, rfl, heq, b0, b1, b2, hok⟩ := hrel
    clear HR0
    by_cases hlt : k < l.length
    · obtain ⟨b, off, hA, hbs, c1, c2⟩ := h.below hok k hlt
      subst hA
      have HR := Lib.hid (heq.out.trans (tab_step l k hlt))
      have N1 := Lib.hid (lo_nx l k hlt)
      have N2 := Lib.hid (off_bd l k hlt)
      obtain ⟨lo, elo⟩ : ∃ x, loAt l k = x := ⟨_, rfl⟩
      obtain ⟨of, eof⟩ : ∃ x, offAt l k = x := ⟨_, rfl⟩
      obtain ⟨a, ea⟩ : ∃ x, l[k].1 = x := ⟨_, rfl⟩
      obtain ⟨o, eo⟩ : ∃ x, l[k].2 = x := ⟨_, rfl⟩
      have NX := Lib.hid (show loAt l (k + 1) = a + 86400 ∧ offAt l (k + 1) = o from ⟨N1.out _ ea, N2.out _ eo⟩)
      simp only [elo, eof, ea, eo] at HR b0 b1 b2 c1 c2 ⊢
      clear N1 N2 heq h elo eof ea eo
      have hk32 : k < 32 := by have := H32.out; omega
      have KW := Lib.hid fun (W : World) t b (hb : b = W.heap.size) => wireWithin1 lo 1099511627776 a W t hb
      by_cases g1 : lo ≤ a ∧ a ≤ 1099511627776
      · rw [decide_eq_true g1] at KW
        have i1 : 0 ≤ a := by omega
        have i2 : a ≤ 1099511627776 := g1.2
        by_cases p3 : o = of + 1
        · have d5 : (o != of - 1) = true := by rw [bne_iff_ne]; omega
          have d6 : (o != of + 1) = false := by simp [p3]
          have HN := Lib.hid (show R = Wire.tabFrom (loAt l (k + 1)) (offAt l (k + 1)) (l.drop (k + 1)) by
            have hr := HR.out
            rw [decide_eq_true (by omega), Bool.true_and] at hr
            exact hr)
          have ho : -((k + 1 : Nat) : Int) ≤ o ∧ o ≤ ((k + 1 : Nat) : Int) := by omega
          have HOB := Lib.hid ho
          clear HR p3 ho
          go_wp2_with ((go_at_call 78; (with_reducible refine (KW.out _ _ _ (by simp)).mono ?_); rintro e w1 ⟨rfl, rfl⟩))
          go_quiet (fail)
          go_wp2
          go_roundw
          case rel => exact ⟨k + 1, by omega, by go_num, by rw [NX.out.1], by rw [NX.out.2], HN, by rw [NX.out.1]; omega, by rw [NX.out.2]; exact HOB.out.1, by rw [NX.out.2]; exact HOB.out.2, ((hok.alloc _).alloc _).drewN _⟩
          case measure => simp [intOf]; omega
        · by_cases p4 : o = of - 1
          · have d5 : (o != of - 1) = false := by simp [p4]
            have HN := Lib.hid (show R = Wire.tabFrom (loAt l (k + 1)) (offAt l (k + 1)) (l.drop (k + 1)) by
              have hr := HR.out
              rw [decide_eq_true (by omega), Bool.true_and] at hr
              exact hr)
            have ho : -((k + 1 : Nat) : Int) ≤ o ∧ o ≤ ((k + 1 : Nat) : Int) := by omega
            have HOB := Lib.hid ho
            clear HR p3 p4 ho
            go_wp2_with ((go_at_call 78; (with_reducible refine (KW.out _ _ _ (by simp)).mono ?_); rintro e w1 ⟨rfl, rfl⟩))
            go_quiet (fail)
            go_wp2
            go_roundw
            case rel => exact ⟨k + 1, by omega, by go_num, by rw [NX.out.1], by rw [NX.out.2], HN, by rw [NX.out.1]; omega, by rw [NX.out.2]; exact HOB.out.1, by rw [NX.out.2]; exact HOB.out.2, ((hok.alloc _).alloc _).drewN _⟩
            case measure => simp [intOf]; omega
          · have d5 : (o != of - 1) = true := by rw [bne_iff_ne]; omega
            have d6 : (o != of + 1) = true := by rw [bne_iff_ne]; omega
            obtain rfl : R = false := by rw [HR.out, decide_eq_false (by omega)]; rfl
            clear HR p3 p4
            go_wp2_with ((go_at_call 78; (with_reducible refine (KW.out _ _ _ (by simp)).mono ?_); rintro e w1 ⟨rfl, rfl⟩))
            go_ret
            exact ⟨rfl, ((hok.alloc _).alloc _)⟩
      · rw [decide_eq_false g1] at KW
        obtain rfl : R = false := by rw [HR.out, decide_eq_false (by omega)]; rfl
        clear HR g1
        go_wp2_with ((go_at_call 78; (with_reducible refine (KW.out _ _ _ (by simp)).mono ?_); rintro e w1 ⟨rfl, rfl⟩))
        go_ret
        exact ⟨rfl, ((hok.alloc _).alloc _)⟩
    · obtain rfl : k = l.length := by omega
      obtain rfl : R = true := by rw [heq.out, List.drop_length]; rfl
      clear heq b0 b1 b2 hlt
      go_wp2
      go_ret
      exact ⟨rfl, hok⟩
end Go.Proofs.YtlclfonlidcfiaaDoor
