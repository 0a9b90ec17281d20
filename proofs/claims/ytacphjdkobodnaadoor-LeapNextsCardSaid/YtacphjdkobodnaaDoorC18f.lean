/- Contracts of layer 18's document functions: Before, Count. -/
import Derived.Test.YtacphjdkobodnaaDoorC18e
namespace Go.Proofs.YtacphjdkobodnaaDoor
open Go.RowKit
set_option maxRecDepth 100000
attribute [local go_sem ↓] Go.wp_at_zero Go.wp_at_succ
/-- A label in a block, and nothing turned since w: what a region of calls keeps. -/
def SixAt (g : Nat) (w : World) (y m d h i s : Int) (w' : World) : Prop := w'.cell? ⟨g, 0, none⟩ = some (.int .i64 y) ∧ w'.cell? ⟨g, 1, none⟩ = some (.int .i64 m) ∧ w'.cell? ⟨g, 2, none⟩ = some (.int .i64 d) ∧ w'.cell? ⟨g, 3, none⟩ = some (.int .i64 h) ∧ w'.cell? ⟨g, 4, none⟩ = some (.int .i64 i) ∧ w'.cell? ⟨g, 5, none⟩ = some (.int .i64 s) ∧ g < w'.heap.size ∧ Ok w w'
namespace SixAt
variable {g : Nat} {w w' w1 : World} {y m d a i s : Int}
theorem of (hO : Own w' g #[.int .i64 y, .int .i64 m, .int .i64 d, .int .i64 a, .int .i64 i, .int .i64 s]) (k : Ok w w') : SixAt g w y m d a i s w' :=
  ⟨hO.cell 0 rfl, hO.cell 1 rfl, hO.cell 2 rfl, hO.cell 3 rfl, hO.cell 4 rfl, hO.cell 5 rfl, hO.lt, k⟩
theorem next (k : Ok w' w1) (h : SixAt g w y m d a i s w') : SixAt g w y m d a i s w1 := by
  obtain ⟨c0, c1, c2, c3, c4, c5, hl, hok⟩ := h
  have key : ∀ i, w1.cell? ⟨g, i, none⟩ = w'.cell? ⟨g, i, none⟩ := fun i => k.cell (p := ⟨g, i, none⟩) hl
  refine ⟨?_, ?_, ?_, ?_, ?_, ?_, Nat.lt_of_lt_of_le hl k.size, hok.trans k⟩ <;> (rw [key]; assumption)
theorem drew (h : SixAt g w y m d a i s w') : SixAt g w y m d a i s w'.drew := h.next (Ok.refl w').drew
theorem okk (h : SixAt g w y m d a i s w') : Ok w w' := h.2.2.2.2.2.2.2
end SixAt
/-- A label's number k. -/
def Leap.ev (L : Leap.Lb) : Nat → Int
  | 0 => L.y
  | 1 => L.m
  | 2 => L.d
  | 3 => L.h
  | 4 => L.i
  | _ => L.s
/-- Earlier, by the last n numbers. -/
def Leap.bf (a b : Leap.Lb) : Nat → Bool
  | 0 => false
  | n + 1 => if Leap.ev a (5 - n) = Leap.ev b (5 - n) then Leap.bf a b n else decide (Leap.ev a (5 - n) < Leap.ev b (5 - n))
theorem Leap.bf_six (a b : Leap.Lb) : Leap.bef a b = Leap.bf a b 6 := by
  have e : Leap.bf a b 6 = if a.y = b.y then (if a.m = b.m then (if a.d = b.d then (if a.h = b.h then (if a.i = b.i then (if a.s = b.s then false else decide (a.s < b.s)) else decide (a.i < b.i)) else decide (a.h < b.h)) else decide (a.d < b.d)) else decide (a.m < b.m)) else decide (a.y < b.y) := rfl
  rw [e]
  unfold Leap.bef
  by_cases h0 : a.y = b.y
  · rw [if_pos h0]
    by_cases h1 : a.m = b.m
    · rw [if_pos h1]
      by_cases h2 : a.d = b.d
      · rw [if_pos h2]
        by_cases h3 : a.h = b.h
        · rw [if_pos h3]
          by_cases h4 : a.i = b.i
          · rw [if_pos h4]
            by_cases h5 : a.s = b.s
            · rw [if_pos h5]; exact decide_eq_false (by omega)
            · rw [if_neg h5, decide_eq_decide]; omega
          · rw [if_neg h4, decide_eq_decide]; omega
        · rw [if_neg h3, decide_eq_decide]; omega
      · rw [if_neg h2, decide_eq_decide]; omega
    · rw [if_neg h1, decide_eq_decide]; omega
  · rw [if_neg h0, decide_eq_decide]; omega
theorem Leap.bf_step (a b : Leap.Lb) (k : Nat) (hk : k < 6) : Leap.bf a b (6 - k) = if Leap.ev a k = Leap.ev b k then Leap.bf a b (6 - (k + 1)) else decide (Leap.ev a k < Leap.ev b k) := by
  obtain ⟨n, hn⟩ : ∃ n, 6 - k = n + 1 := ⟨5 - k, by omega⟩
  rw [hn, show 6 - (k + 1) = n by omega]
  have e : 5 - n = k := by omega
  simp only [Leap.bf, e]
theorem ev_cell (L : Leap.Lb) (k : Nat) (hk : k < 6) : (#[.int .i64 L.y, .int .i64 L.m, .int .i64 L.d, .int .i64 L.h, .int .i64 L.i, .int .i64 L.s] : Array Value)[k]? = some (.int .i64 (Leap.ev L k)) := by
  have hc : k = 0 ∨ k = 1 ∨ k = 2 ∨ k = 3 ∨ k = 4 ∨ k = 5 := by omega
  rcases hc with rfl | rfl | rfl | rfl | rfl | rfl <;> rfl
set_option maxHeartbeats 1600000 in
theorem ref18Before (a b : Leap.Lb) (w : World) : Calls Tryd.prog 17 #[lbV a, lbV b] w fun e w' => e = .returned (.bool (Leap.bef a b)) ∧ Ok w w' := by
  rw [Leap.bf_six]
  have HX := Lib.hid (ev_cell a)
  have HY := Lib.hid (ev_cell b)
  have HS := Lib.hid (Leap.bf_step a b)
  obtain ⟨R, hR⟩ : ∃ R, Leap.bf a b 6 = R := ⟨_, rfl⟩
  rw [hR]
  have H0 : Hid (R = Leap.bf a b (6 - 0)) := Lib.hid hR.symm
  clear hR
  unfold lbV
  obtain ⟨f, hf⟩ : ∃ f, Leap.ev a = f := ⟨_, rfl⟩
  obtain ⟨h, hh⟩ : ∃ f, Leap.ev b = f := ⟨_, rfl⟩
  rw [hf] at HX
  rw [hh] at HY
  rw [hf, hh] at HS
  clear hf hh
  have H00 : Hid (Leap.bf a b 0 = false) := Lib.hid rfl
  obtain ⟨B, hB⟩ : ∃ B, Leap.bf a b = B := ⟨_, rfl⟩
  rw [hB] at HS H0 H00
  clear hB
  obtain ⟨a0, a1, a2, a3, a4, a5⟩ := a
  obtain ⟨b0, b1, b2, b3, b4, b5⟩ := b
  simp only at HX HY ⊢
  have hok := ((((Ok.refl w).alloc (.cells #[.int .i64 a0, .int .i64 a1, .int .i64 a2, .int .i64 a3, .int .i64 a4, .int .i64 a5] 26)).alloc (.cells #[.int .i64 b0, .int .i64 b1, .int .i64 b2, .int .i64 b3, .int .i64 b4, .int .i64 b5] 26)).alloc (.cells #[.int .i64 a0, .int .i64 a1, .int .i64 a2, .int .i64 a3, .int .i64 a4, .int .i64 a5] 60)).alloc (.cells #[.int .i64 b0, .int .i64 b1, .int .i64 b2, .int .i64 b3, .int .i64 b4, .int .i64 b5] 60)
  have hX := (Own.new ((w.alloc (.cells #[.int .i64 a0, .int .i64 a1, .int .i64 a2, .int .i64 a3, .int .i64 a4, .int .i64 a5] 26)).alloc (.cells #[.int .i64 b0, .int .i64 b1, .int .i64 b2, .int .i64 b3, .int .i64 b4, .int .i64 b5] 26)) #[.int .i64 a0, .int .i64 a1, .int .i64 a2, .int .i64 a3, .int .i64 a4, .int .i64 a5] 60 (g := w.heap.size + 1 + 1) (by simp)).alloc (.cells #[.int .i64 b0, .int .i64 b1, .int .i64 b2, .int .i64 b3, .int .i64 b4, .int .i64 b5] 60)
  have hY := Own.new (((w.alloc (.cells #[.int .i64 a0, .int .i64 a1, .int .i64 a2, .int .i64 a3, .int .i64 a4, .int .i64 a5] 26)).alloc (.cells #[.int .i64 b0, .int .i64 b1, .int .i64 b2, .int .i64 b3, .int .i64 b4, .int .i64 b5] 26)).alloc (.cells #[.int .i64 a0, .int .i64 a1, .int .i64 a2, .int .i64 a3, .int .i64 a4, .int .i64 a5] 60)) #[.int .i64 b0, .int .i64 b1, .int .i64 b2, .int .i64 b3, .int .i64 b4, .int .i64 b5] 60 (g := w.heap.size + 1 + 1 + 1) (by simp)
  go_enter Tryd.func17, Tryd.ntmps17
  go_wp2_with fail
  generalize (((w.alloc (.cells #[.int .i64 a0, .int .i64 a1, .int .i64 a2, .int .i64 a3, .int .i64 a4, .int .i64 a5] 26)).alloc (.cells #[.int .i64 b0, .int .i64 b1, .int .i64 b2, .int .i64 b3, .int .i64 b4, .int .i64 b5] 26)).alloc (.cells #[.int .i64 a0, .int .i64 a1, .int .i64 a2, .int .i64 a3, .int .i64 a4, .int .i64 a5] 60)).alloc (.cells #[.int .i64 b0, .int .i64 b1, .int .i64 b2, .int .i64 b3, .int .i64 b4, .int .i64 b5] 60) = W at hok hX hY ⊢
  generalize w.heap.size + 1 + 1 + 1 = gy at *
  generalize w.heap.size + 1 + 1 = gx at *
  go_loopw [34] (fun v wr => ∃ k : Nat, k ≤ 6 ∧ v = .int .i64 k ∧ Hid (R = B (6 - k)) ∧ Ok W wr) (fun v _ => 6 - (intOf v).toNat)
  case atStart => exact ⟨0, Nat.zero_le _, rfl, H0, Ok.refl _⟩
  case round =>
    obtain ⟨k, hk, rfl, hrel, hok1⟩ := hrel
    clear H0
    by_cases hlt : k < 6
    · have cx := (hX.next hok1).cell k (HX.out k hlt)
      have cy := (hY.next hok1).cell k (HY.out k hlt)
      have hxl := (hX.next hok1).lt
      have hyl := (hY.next hok1).lt
      have HN := hrel.out.trans (HS.out k hlt)
      generalize f k = x at *
      generalize h k = y at *
      clear hrel HX HY HS hX hY
      by_cases he : x = y
      · rw [if_pos he] at HN
        replace HN := Lib.hid HN
        subst he
        go_wp2_with fail
        go_quiet (fail)
        go_wp2
        go_roundw
        case rel => exact ⟨k + 1, by omega, by go_num, HN, hok1.drewN _⟩
        case measure => simp [intOf]; omega
      · rw [if_neg he] at HN
        replace HN := Lib.hid HN
        have g3 : (x != y) = true := bne_iff_ne.2 he
        clear he
        go_wp2_with fail
        go_quiet (fail)
        go_wp2
        go_quiet (fail)
        go_wp2
        go_ret
        exact ⟨by rw [HN.out]; rfl, hok.trans ((hok1.drewN _).drewN _)⟩
    · have e : k = 6 := by omega
      subst e
      have HE : Hid (R = B 0) := hrel
      clear hrel HX HY HS hX hY
      have hB0 : B 0 = false := H00.out
      go_wp2_with fail
      go_ret
      exact ⟨by rw [HE.out, hB0]; rfl, hok.trans hok1⟩
/-- What Count finds. -/
noncomputable def Leap.fnd (l : List (Int × Int)) (L : Leap.Lb) : Int := Leap.find l L fun c => Leap.bef (Leap.lbl l c) L
set_option maxHeartbeats 3200000 in
theorem ref18Count (A : Option Addr) (l : List (Int × Int)) (cap : Nat) (L : Leap.Lb) (w : World) (h : PairsAt w A l) (hg : Leap.good l = true) :
    Calls Tryd.prog 16 #[.slice A l.length cap, lbV L] w fun e w' => e = .returned (.tuple #[.int .i64 (Leap.fnd l L), .bool (decide (Leap.lbl l (Leap.fnd l L) = L))]) ∧ Ok w w' := by
  have KP := Lib.hid h
  have KL := Lib.hid fun c w hc h => ref18Label A l cap c w h hg hc
  have KB := Lib.hid fun a w => ref18Before a L w
  have KE := Lib.hid fun a w => eqLabel a L w
  obtain ⟨p, hp⟩ : ∃ p : Int → Bool, (fun c => Leap.bef (Leap.lbl l c) L) = p := ⟨_, rfl⟩
  have H0 : Hid (Leap.fnd l L = Leap.halve p (50 - 0) (-4398046511104) 4398046511104) := Lib.hid (by rw [← hp]; rfl)
  have HP := Lib.hid fun c => show p c = Leap.bef (Leap.lbl l c) L by rw [← hp]
  clear hp
  obtain ⟨Q, hQ⟩ : ∃ Q : Int → Bool, (fun c => decide (Leap.lbl l c = L)) = Q := ⟨_, rfl⟩
  have HQ := Lib.hid fun c => show Q c = decide (Leap.lbl l c = L) by rw [← hQ]
  obtain ⟨R, hR⟩ : ∃ R, Leap.fnd l L = R := ⟨_, rfl⟩
  rw [hR] at H0 ⊢
  rw [show decide (Leap.lbl l R = L) = Q R by rw [← hQ]]
  clear hQ hR hg
  obtain ⟨y, mo, d, hh, mi, se⟩ := L
  simp only [lbV] at KB KE ⊢
  have hO := Own.new w #[.int .i64 y, .int .i64 mo, .int .i64 d, .int .i64 hh, .int .i64 mi, .int .i64 se] 26 rfl
  have hok := (Ok.refl w).alloc (.cells #[.int .i64 y, .int .i64 mo, .int .i64 d, .int .i64 hh, .int .i64 mi, .int .i64 se] 26)
  replace KP := Lib.hid (h.below hok)
  clear h
  go_enter Tryd.func16, Tryd.ntmps16
  go_wp2_with fail
  generalize w.alloc (.cells #[.int .i64 y, .int .i64 mo, .int .i64 d, .int .i64 hh, .int .i64 mi, .int .i64 se] 26) = W at *
  generalize w.heap.size = g at *
  go_loopw [6, 7, 8] (fun u v i wr => ∃ k : Nat, ∃ lo hi : Int, k ≤ 50 ∧ i = .int .i64 k ∧ u = .int .i64 lo ∧ v = .int .i64 hi ∧ Hid (R = Leap.halve p (50 - k) lo hi) ∧ -4398046511104 ≤ lo ∧ lo ≤ hi ∧ hi ≤ 4398046511104 ∧ Ok W wr) (fun _ _ i _ => 50 - (intOf i).toNat)
  case atStart => exact ⟨0, _, _, by omega, rfl, rfl, rfl, H0, by omega, by omega, by omega, Ok.refl _⟩
  case round =>
    obtain ⟨k, lo, hi, hk, rfl, rfl, rfl, hrel, b1, b2, b3, hok1⟩ := hrel
    clear H0
    by_cases hlt : k < 50
    · by_cases hll : lo < hi
      · obtain ⟨n, hn⟩ : ∃ n, 50 - k = n + 1 := ⟨49 - k, by omega⟩
        have HN := hrel.out
        rw [hn, Leap.halve, if_pos hll] at HN
        have hn2 : 50 - (k + 1) = n := by omega
        clear hn hrel
        obtain ⟨m, hm⟩ : ∃ m, (lo + hi) / 2 = m := ⟨_, rfl⟩
        have hmb : lo ≤ m ∧ m < hi := by omega
        rw [hm] at HN
        have K1 := Lib.hid fun w h => KL.out m w ⟨by omega, by omega⟩ h
        have hpm := HP.out m
        generalize Leap.lbl l m = M at K1 hpm
        obtain ⟨m0, m1, m2, m3, m4, m5⟩ := M
        have K2 := Lib.hid fun w => KB.out ⟨m0, m1, m2, m3, m4, m5⟩ w
        rw [← hpm] at K2
        simp only [lbV] at K1 K2
        clear hpm
        obtain ⟨P, hP⟩ : ∃ P, p m = P := ⟨_, rfl⟩
        rw [hP] at HN K2
        clear hP
        have hB : SixAt g W y mo d hh mi se wr := SixAt.of (hO.next hok1) hok1
        clear HP HQ KE KB KL
        cases P
        · replace HN := Lib.hid HN
          go_upto_region 7 with fail
          go_region_held3 (fun w' => w'.cell? ⟨g, 0, none⟩ = some (.int .i64 y) ∧ w'.cell? ⟨g, 1, none⟩ = some (.int .i64 mo) ∧ w'.cell? ⟨g, 2, none⟩ = some (.int .i64 d) ∧ w'.cell? ⟨g, 3, none⟩ = some (.int .i64 hh) ∧ w'.cell? ⟨g, 4, none⟩ = some (.int .i64 mi) ∧ w'.cell? ⟨g, 5, none⟩ = some (.int .i64 se) ∧ g < w'.heap.size ∧ Ok W w')
            (first | assumption | exact hB.drew | exact SixAt.next (by assumption) hB.drew | exact SixAt.next (by assumption) (by assumption))
            ((first | (go_at_call 14; refine (K1.out _ (KP.out.below ?_)).mono ?_; (focus (first | exact (SixAt.drew hB).okk | exact SixAt.okk (by assumption))); rintro e w5 ⟨rfl, hb2⟩) | (go_at_call 17; refine (K2.out _).mono ?_; rintro e w6 ⟨rfl, hb3⟩)))
          all_goals
            rename_i hS
            have hok2 := SixAt.okk hS
            clear hS
            go_wp2
            go_roundw
            case rel => exact ⟨k + 1, lo, m, by omega, by go_num, rfl, rfl, Lib.hid (by rw [hn2]; have := HN.out; simpa using this), by omega, by omega, by omega, hok2⟩
            case measure => simp [intOf]; omega
        · replace HN := Lib.hid HN
          go_upto_region 7 with fail
          go_region_held3 (fun w' => w'.cell? ⟨g, 0, none⟩ = some (.int .i64 y) ∧ w'.cell? ⟨g, 1, none⟩ = some (.int .i64 mo) ∧ w'.cell? ⟨g, 2, none⟩ = some (.int .i64 d) ∧ w'.cell? ⟨g, 3, none⟩ = some (.int .i64 hh) ∧ w'.cell? ⟨g, 4, none⟩ = some (.int .i64 mi) ∧ w'.cell? ⟨g, 5, none⟩ = some (.int .i64 se) ∧ g < w'.heap.size ∧ Ok W w')
            (first | assumption | exact hB.drew | exact SixAt.next (by assumption) hB.drew | exact SixAt.next (by assumption) (by assumption))
            ((first | (go_at_call 14; refine (K1.out _ (KP.out.below ?_)).mono ?_; (focus (first | exact (SixAt.drew hB).okk | exact SixAt.okk (by assumption))); rintro e w5 ⟨rfl, hb2⟩) | (go_at_call 17; refine (K2.out _).mono ?_; rintro e w6 ⟨rfl, hb3⟩)))
          all_goals
            rename_i hS
            have hok2 := SixAt.okk hS
            clear hS
            go_wp2
            go_roundw
            case rel => exact ⟨k + 1, (m + 1), hi, by omega, by go_num, rfl, rfl, Lib.hid (by rw [hn2]; have := HN.out; simpa using this), by omega, by omega, by omega, hok2⟩
            case measure => simp [intOf]; omega
      · have HN : Hid (R = lo) := Lib.hid (by
          have := hrel.out
          obtain ⟨n, hn⟩ : ∃ n, 50 - k = n + 1 := ⟨49 - k, by omega⟩
          rw [hn, Leap.halve, if_neg hll] at this; exact this)
        clear hrel
        have K1 := Lib.hid fun w h => KL.out lo w ⟨by omega, by omega⟩ h
        have hq := HQ.out lo
        generalize Leap.lbl l lo = M at K1 hq
        obtain ⟨m0, m1, m2, m3, m4, m5⟩ := M
        have hE := fun w => KE.out ⟨m0, m1, m2, m3, m4, m5⟩ w
        rw [← hq] at hE
        simp only [lbV] at K1 hE
        obtain ⟨P, hP⟩ : ∃ P, Q lo = P := ⟨_, rfl⟩
        rw [hP] at hE
        have HE : Hid (Q R = P) := Lib.hid (by rw [HN.out]; exact hP)
        have hB : SixAt g W y mo d hh mi se wr := SixAt.of (hO.next hok1) hok1
        clear HP HQ KE KB KL hq hP
        go_upto_region 10 with fail
        go_region_held3 (fun w' => w'.cell? ⟨g, 0, none⟩ = some (.int .i64 y) ∧ w'.cell? ⟨g, 1, none⟩ = some (.int .i64 mo) ∧ w'.cell? ⟨g, 2, none⟩ = some (.int .i64 d) ∧ w'.cell? ⟨g, 3, none⟩ = some (.int .i64 hh) ∧ w'.cell? ⟨g, 4, none⟩ = some (.int .i64 mi) ∧ w'.cell? ⟨g, 5, none⟩ = some (.int .i64 se) ∧ g < w'.heap.size ∧ Ok W w')
          (first | assumption | exact hB.drew | exact SixAt.next (by assumption) hB.drew | exact SixAt.next (by assumption) (by assumption))
          ((first | (go_at_call 14; refine (K1.out _ (KP.out.below ?_)).mono ?_; (focus (first | exact (SixAt.drew hB).okk | exact SixAt.okk (by assumption))); rintro e w5 ⟨rfl, hb2⟩)))
        all_goals
          rename_i hS
          have hok2 := SixAt.okk hS
          clear hS
          go_wp2
          go_ret2
          exact ⟨by rw [HN.out, ← HN.out, HE.out]; rfl, hok.trans hok2⟩
    · have HN : Hid (R = lo) := Lib.hid (by
        have := hrel.out
        rw [show 50 - k = 0 by omega, Leap.halve] at this; exact this)
      clear hrel
      have K1 := Lib.hid fun w h => KL.out lo w ⟨by omega, by omega⟩ h
      have hq := HQ.out lo
      generalize Leap.lbl l lo = M at K1 hq
      obtain ⟨m0, m1, m2, m3, m4, m5⟩ := M
      have hE := fun w => KE.out ⟨m0, m1, m2, m3, m4, m5⟩ w
      rw [← hq] at hE
      simp only [lbV] at K1 hE
      obtain ⟨P, hP⟩ : ∃ P, Q lo = P := ⟨_, rfl⟩
      rw [hP] at hE
      have HE : Hid (Q R = P) := Lib.hid (by rw [HN.out]; exact hP)
      have hB : SixAt g W y mo d hh mi se wr := SixAt.of (hO.next hok1) hok1
      clear HP HQ KE KB KL hq hP
      go_upto_region 10 with fail
      go_region_held3 (fun w' => w'.cell? ⟨g, 0, none⟩ = some (.int .i64 y) ∧ w'.cell? ⟨g, 1, none⟩ = some (.int .i64 mo) ∧ w'.cell? ⟨g, 2, none⟩ = some (.int .i64 d) ∧ w'.cell? ⟨g, 3, none⟩ = some (.int .i64 hh) ∧ w'.cell? ⟨g, 4, none⟩ = some (.int .i64 mi) ∧ w'.cell? ⟨g, 5, none⟩ = some (.int .i64 se) ∧ g < w'.heap.size ∧ Ok W w')
        (first | assumption | exact hB.drew | exact SixAt.next (by assumption) hB.drew | exact SixAt.next (by assumption) (by assumption))
        ((first | (go_at_call 14; refine (K1.out _ (KP.out.below ?_)).mono ?_; (focus (first | exact (SixAt.drew hB).okk | exact SixAt.okk (by assumption))); rintro e w5 ⟨rfl, hb2⟩)))
      all_goals
        rename_i hS
        have hok2 := SixAt.okk hS
        clear hS
        go_wp2
        go_ret2
        exact ⟨by rw [HN.out, ← HN.out, HE.out]; rfl, hok.trans hok2⟩
end Go.Proofs.YtacphjdkobodnaaDoor
