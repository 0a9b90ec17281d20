/- HealthKeeps: for every fabric and two states the law answers true: what is handed in stays; the table of a state is its own. No condition. -/
import Derived.Test.YtlclfonlidcfiaaC21h
import Derived.Test.YtlclfonlidcfiaaW06
import Derived.Test.YtlclfonlidcfiaaC04b
namespace Go.Proofs.Ytlclfonlidcfiaa.healthKeeps
open Go.ChangeShapes Go.WideShapes Go.ChangeAt Go.RowKit
set_option linter.unusedVariables false
set_option maxRecDepth 100000
attribute [local go_sem ↓] Go.wp_at_zero Go.wp_at_succ
/-- A row stays behind a store into another block. -/
theorem row_other {w : World} {B n : Nat} {A : Option Addr} (h : PairRow w B A n) {p : Addr} (hp : ∀ a, A = some a → a.block ≠ p.block) (v : Value) : PairRow (w.setCell p v) B A n := fun k hk => by
  obtain ⟨b, off, e, hB, hlt, ⟨x, h1⟩, ⟨y, h2⟩, hf⟩ := h k hk
  have hb := hp _ e
  have hx := Below.heap_setCell w p v b hb
  refine ⟨b, off, e, hB, by simpa using hlt, ⟨x, ?_⟩, ⟨y, ?_⟩, fun j => ?_⟩
  · rw [← h1]; simp only [World.cell?, hx]
  · rw [← h2]; simp only [World.cell?, hx]
  · rw [← hf j]; simp only [World.frozen?, hx]
/-- Where a table of one's own lies. -/
theorem row_lt {K : Nat} {w : World} {A : Option Addr} {cap : Nat} {l : List (Int × Int)} (h : TabRow K w A cap l) : ∀ a, A = some a → K ≤ a.block ∧ a.block < w.heap.size := fun a ha => by
  rcases h.2 with ⟨e, _⟩ | ⟨g, c2, cur, e, hb, hh, _⟩
  · injection e with e1 _ _; rw [e1] at ha; cases ha
  · injection e with e1 _ _; rw [e1] at ha; cases ha; exact ⟨hb, (Array.getElem?_eq_some_iff.1 hh).1⟩
set_option maxHeartbeats 6400000 in
theorem walkF (w : World) (p : Par) (s : Sta) (A : Option Addr) (cap : Nat) (u : Sta) (C : Option Addr) (cup : Nat) (hC : PairsAt w C u.table) (hl : u.table.length ≤ 9223372036854775807) :
    Calls Try.prog 7 #[parV p, staV s A cap, staV u C cup] w fun e w' => e = .returned (.bool true) ∧ Ok w w' := by
  have KAL := Lib.hid fun w => law21AliveF front21 w
  have KLO := Lib.hid fun w => law21Long s u A C cap cup w
  obtain ⟨lg, hlg⟩ : ∃ b, decide (256 < s.table.length ∨ 256 < u.table.length) = b := ⟨_, rfl⟩
  rw [hlg] at KLO
  have HU2 : lg = false → u.table.length ≤ 256 := fun h => by
    rw [h] at hlg
    have := of_decide_eq_false hlg
    omega
  have HC := Lib.hid hC
  have KS := Lib.hid fun w G A1 c1 h hA => frontStep G p s A cap 5 u A1 c1 w h hA hl
  have KT := Lib.hid fun A c B d w hA hB => ref6Tables A B u.table u.table c d w hA hB hl hl
  rw [decide_eq_true (rfl : u.table = u.table)] at KT
  obtain ⟨Y, hY⟩ : ∃ Y, Health.step p s 5 u = Y := ⟨_, rfl⟩
  obtain ⟨t, ht⟩ : ∃ t, Health.sane p u = t := ⟨_, rfl⟩
  have htt : t.table = [] ∨ t.table = u.table := by
    rw [← ht]
    unfold Health.sane
    simp only
    split
    · exact .inr rfl
    · exact .inl rfl
  have hYt : Y.table = t.table := by rw [← hY, ← ht]; rfl
  have hYl : u.table.length ≤ 256 → Y.table.length ≤ 256 ∧ t.table.length ≤ 256 := fun h => by
    rw [hYt]
    rcases htt with e | e <;> rw [e] <;> simp [h]
  rw [hY] at KS
  have KN := Lib.hid (show ∀ w A c, PairsAt w A u.table → Calls Try.prog 11 #[parV p, staV u A c] w (fun e w' => ∃ (AX : Option Addr) (cX : Nat), e = .returned (.agg #[.int .i64 t.lo, .int .i64 t.hi, .int .i64 t.time, .bool t.set, .int .i64 t.held, .int .i64 t.hops, .bool t.good, .slice AX t.table.length cX, .int .i64 t.st, .int .i64 t.sn, .int .i64 t.life]) ∧ TabRow w.heap.size w' AX cX t.table ∧ Ok w w') from fun w A c h => by
    have k := healthSane p u A c w h hl
    rw [ht] at k
    exact k)
  have HUL := Lib.hid fun h => hYl (HU2 h)
  have HUM := Lib.hid HU2
  clear hY ht htt hYt hYl HU2 hlg hC hl
  have hP := (Own.new w (parCells p) 23 rfl).next (((Ok.refl _).alloc (.cells (staCells s A cap) 30)).alloc (.cells (staCells u C cup) 30))
  have hS := (Own.new (w.alloc (.cells (parCells p) 23)) (staCells s A cap) 30 (g := w.heap.size + 1) (by simp)).alloc (.cells (staCells u C cup) 30)
  have hN := Own.new ((w.alloc (.cells (parCells p) 23)).alloc (.cells (staCells s A cap) 30)) (staCells u C cup) 30 (g := w.heap.size + 1 + 1) (by simp)
  have hok := (((Ok.refl w).alloc (.cells (parCells p) 23)).alloc (.cells (staCells s A cap) 30)).alloc (.cells (staCells u C cup) 30)
  go_enter Try.func7, Try.ntmps7
  go_upto_region 1 with fail
  change Code.wp _ _ _ _ (((w.alloc (.cells (parCells p) 23)).alloc (.cells (staCells s A cap) 30)).alloc (.cells (staCells u C cup) 30))
  generalize (((w.alloc (.cells (parCells p) 23)).alloc (.cells (staCells s A cap) 30)).alloc (.cells (staCells u C cup) 30)) = W at hP hS hN hok ⊢
  obtain ⟨H, hH⟩ : ∃ r, w.heap.size + 1 + 1 = r := ⟨_, rfl⟩
  obtain ⟨G, hG⟩ : ∃ r, w.heap.size + 1 = r := ⟨_, rfl⟩
  obtain ⟨B, hB⟩ : ∃ r, w.heap.size = r := ⟨_, rfl⟩
  rw [hH] at hN
  rw [hG] at hS
  rw [hB] at hP
  rw [hH, hG, hB]
  clear hH hG hB
  go_upto_region 3 with (go_at_call 9; (with_reducible refine (KAL.out _).mono ?_); rintro e w1 ⟨rfl, hb1⟩; replace hP := hP.next hb1; replace hS := hS.next hb1; replace hN := hN.next hb1; replace hok := hok.trans hb1; clear hb1)
  obtain ⟨s0, s1, s2, s3, s4, s5, s6, s7, s8, s9, s10⟩ := hS.sta; have sl := hS.lt
  obtain ⟨n0, n1, n2, n3, n4, n5, n6, n7, n8, n9, n10⟩ := hN.sta; have nl := hN.lt
  cases lg with
  | true =>
    go_wp2_with (go_at_call 10; refine (KLO.out _).mono ?_; rintro e w2 ⟨rfl, hb1⟩; replace hok := hok.trans hb1; clear hb1)
    go_ret
    exact ⟨rfl, hok⟩
  | false =>
    have hYl := HUL.out rfl
    have hul := HUM.out rfl
    clear HUL HUM
    go_upto_region 5 with (go_at_call 10; refine (KLO.out _).mono ?_; rintro e w2 ⟨rfl, hb1⟩; clear s0 s1 s2 s3 s4 s5 s6 s7 s8 s9 s10 sl; clear n0 n1 n2 n3 n4 n5 n6 n7 n8 n9 n10 nl; replace hP := hP.next hb1; replace hS := hS.next hb1; replace hN := hN.next hb1; replace hok := hok.trans hb1; clear hb1)
    obtain ⟨n0, n1, n2, n3, n4, n5, n6, n7, n8, n9, n10⟩ := hN.sta; have nl := hN.lt
    have hNM := hN.lt
    have hwM := hok.size
    have hBMa : B < w2.heap.size ∧ G < w2.heap.size := ⟨hP.lt, hS.lt⟩
    go_upto_region 6 with fail
    clear n0 n1 n2 n3 n4 n5 n6 n7 n8 n9 n10 nl
    change Code.wp _ _ _ _ (w2.alloc (.cells (staCells u C cup) 30))
    have hM := Own.new w2 (staCells u C cup) 30 rfl
    replace hP := hP.alloc (.cells (staCells u C cup) 30)
    replace hS := hS.alloc (.cells (staCells u C cup) 30)
    replace hN := hN.alloc (.cells (staCells u C cup) 30)
    replace hok := hok.alloc (.cells (staCells u C cup) 30)
    generalize w2.alloc (.cells (staCells u C cup) 30) = W3 at hP hS hN hM hok ⊢
    generalize w2.heap.size = M at hM hNM hwM hBMa ⊢
    have hW : Hid (((W3.alloc (.cells #[] 55)).ownsRow W3.heap.size 55 2 (.slice (some ⟨W3.heap.size, 0, none⟩) 0 0) 0 [])) := Lib.hid (World.ownsRow_made W3 #[] 0 (Nat.le_refl _) (by decide) rfl)
    have hB1 : Ok W3 (W3.alloc (.cells #[] 55)) := (Ok.refl W3).alloc _
    have n7 := hN.cell 7 (v := .slice C u.table.length cup) rfl
    have nl := hN.lt
    have n7b := (hN.next hB1).cell 7 (v := .slice C u.table.length cup) rfl
    have nlb := (hN.next hB1).lt
    have HP := Lib.hid hP
    have HS := Lib.hid hS
    have HN := Lib.hid hN
    have HM := Lib.hid hM
    have HOK := Lib.hid hok
    have HB1 := Lib.hid hB1
    have hMK : M < W3.heap.size := hM.lt
    clear hP hS hN hM hok hB1
    go_upto_region 7 with (refine wpList_append_pairs rfl (.tmp 18) (.tmp 20) 26 rfl W3.heap.size 55 Try.underlying26 (by kernel_rfl) _ [] 0 rfl rfl hW.out C u.table u.table.length cup rfl rfl (HC.out.below (HOK.out.trans HB1.out)) (by simp; omega) HB1.out.size ?_; intro v3 w11 hr hg; simp only [List.nil_append] at hr; obtain ⟨A1, q1, rfl, hA1⟩ := PairsOf.of_own (K := W3.heap.size) hr (Nat.le_refl _); have hb2 : Ok W3 w11 := Below.grown HB1.out hg HB1.out.size (fun k hk => by cases hk; exact Nat.le_refl _); have hP := HP.out.next hb2; have hS := HS.out.next hb2; have hN := HN.out.next hb2; have hM := HM.out.next hb2; have hok := HOK.out.trans hb2; clear n7 n7b nl nlb hr hg hb2; have m7 := hM.cell 7 (v := .slice C u.table.length cup) rfl; have y7 := hM.frozen 7; have ml := hM.lt)
    clear m7 y7 ml HP HS HN HM HOK HB1 hW
    replace hA1 := (hA1.set (p := ⟨M, 7, none⟩) hMK (.slice A1 u.table.length q1)).1
    have hM' : Own (w11.setCell ⟨M, 7, none⟩ (.slice A1 u.table.length q1)) M (staCells u A1 q1) := (hM.set 7 _).as (by simp [staCells])
    replace hP := hP.setOther (a := ⟨M, 7, none⟩) (by show B ≠ M; omega) (.slice A1 u.table.length q1)
    replace hS := hS.setOther (a := ⟨M, 7, none⟩) (by show G ≠ M; omega) (.slice A1 u.table.length q1)
    replace hN := hN.setOther (a := ⟨M, 7, none⟩) (by show H ≠ M; omega) (.slice A1 u.table.length q1)
    replace hok := hok.setCell (p := ⟨M, 7, none⟩) hwM (.slice A1 u.table.length q1)
    clear hM
    generalize w11.setCell ⟨M, 7, none⟩ (.slice A1 u.table.length q1) = W5 at hA1 hM' hP hS hN hok ⊢
    obtain ⟨s0, s1, s2, s3, s4, s5, s6, s7, s8, s9, s10⟩ := hS.sta; have sl := hS.lt
    obtain ⟨c0, c1, c2, c3, c4, c5, c6, c7, c8, c9, c10, c11⟩ := hP.pars; have hPl := hP.lt
    go_upto_region 8 with fail
    change Code.wp _ _ _ _ (W5.alloc (.cells (frontCells p s A cap) 39))
    clear s0 s1 s2 s3 s4 s5 s6 s7 s8 s9 s10 sl
    clear c0 c1 c2 c3 c4 c5 c6 c7 c8 c9 c10 c11 hPl
    have hF := Own.new W5 (frontCells p s A cap) 39 rfl
    have j := (Ok.refl W5).alloc (.cells (frontCells p s A cap) 39)
    have HP := Lib.hid hP
    have HN := Lib.hid hN
    have HM := Lib.hid hM'
    have HA1 := Lib.hid hA1
    have HOK := Lib.hid hok
    clear hP hS hN hM' hA1 hok hBMa hNM hMK hwM
    generalize W5.alloc (.cells (frontCells p s A cap) 39) = W6 at hF j ⊢
    obtain ⟨F, hFe⟩ : ∃ r, W5.heap.size = r := ⟨_, rfl⟩
    have h5F : W5.heap.size ≤ F := by omega
    rw [hFe] at hF ⊢
    clear hFe
    have hF6 := hF.lt
    have hM6 := HM.out.next j
    obtain ⟨m0, m1, m2, m3, m4, m5, m6, m7, m8, m9, m10⟩ := hM6.sta; have ml := hM6.lt
    clear hM6
    go_upto_region 9 with (go_at_call 18; refine (KS.out _ F A1 q1 hF (HA1.out.below j)).mono ?_; rintro e w7 ⟨rfl, A2, q2, hF2, hT2, hon⟩; clear m0 m1 m2 m3 m4 m5 m6 m7 m8 m9 m10 ml; replace j := hon.then_ok j h5F; have hK17 := hon.size; clear hon hF)
    have hR2 := PairRow.of_own hT2
    have L2 := Lib.hid (row_lt hT2)
    clear hT2
    generalize W6.heap.size = K1 at hF6 hR2 L2 hK17
    have hM7 := HM.out.next j
    have hP := HP.out.next j
    obtain ⟨m0, m1, m2, m3, m4, m5, m6, m7, m8, m9, m10⟩ := hM7.sta; have ml := hM7.lt
    obtain ⟨c0, c1, c2, c3, c4, c5, c6, c7, c8, c9, c10, c11⟩ := hP.pars; have hPl := hP.lt
    clear hM7
    go_upto_region 10 with (go_at_call 11; refine (KN.out _ A1 q1 (HA1.out.below j)).mono ?_; rintro e w8 ⟨AX, cX, rfl, hTX, hb1⟩; clear m0 m1 m2 m3 m4 m5 m6 m7 m8 m9 m10 ml; clear c0 c1 c2 c3 c4 c5 c6 c7 c8 c9 c10 c11 hPl)
    change Code.wp _ _ _ _ (w8.alloc (.cells (staCells t AX cX) 30))
    have hRX := (PairRow.of_own hTX).next ((Ok.refl w8).alloc (.cells (staCells t AX cX) 30))
    have LX := Lib.hid (row_lt hTX)
    have hX := Own.new w8 (staCells t AX cX) 30 rfl
    have h78 := hb1.size
    have hb2 := hb1.alloc (.cells (staCells t AX cX) 30)
    replace hF2 := hF2.next hb2
    replace hR2 := hR2.next hb2
    have h57 := j.size
    replace j := j.trans hb2
    clear hTX hb1 hb2 hP
    generalize w8.alloc (.cells (staCells t AX cX) 30) = W9 at hRX hX hF2 hR2 j ⊢
    have hF7 := hF6
    generalize w8.heap.size = X at hX LX h78 ⊢
    generalize w7.heap.size = K7 at hRX LX L2 h78 h57 hK17
    have f19 := hF2.cell 19 (v := .slice A2 Y.table.length q2) rfl
    have hFl := hF2.lt
    go_wp2
    go_loopw [39] (fun i wr => ∃ k : Nat, k ≤ Y.table.length ∧ i = .int .i64 k ∧ PairRow wr K1 A2 Y.table.length ∧ Own wr F (frontCells p Y A2 q2) ∧ Own wr X (staCells t AX cX) ∧ PairRow wr K7 AX t.table.length ∧ Ok W5 wr) (fun i _ => Y.table.length - (intOf i).toNat)
    case atStart => exact ⟨0, Nat.zero_le _, rfl, hR2, hF2, hX, hRX, j⟩
    case round =>
      clear hR2 hF2 hX hRX j f19 hFl
      obtain ⟨k, hk, rfl, hR2, hF2, hX, hRX, j⟩ := hrel
      by_cases hkl : k < Y.table.length
      · obtain ⟨b, off, e, hb, hlt, ⟨z0, d0⟩, ⟨z1, d1⟩, hf⟩ := hR2 k hkl
        have lt2 := L2.out _ e
        simp only at lt2
        subst e
        have f0 := hf (off + k * 2)
        have f1 := hf (off + k * 2 + 1)
        have f19 := hF2.cell 19 (v := .slice (some ⟨b, off, none⟩) Y.table.length q2) rfl
        have hFl := hF2.lt
        have hbF : F ≠ b := by omega
        have hbX : X ≠ b := by omega
        have hb5 : W5.heap.size ≤ b := by omega
        have HW := Lib.hid hR2
        have HF2 := Lib.hid hF2
        have HX := Lib.hid hX
        have HRX := Lib.hid hRX
        have hbR := Lib.hid (show ∀ a, AX = some a → a.block ≠ b from fun a ha => by have := LX.out a ha; omega)
        clear hR2 hF2 hX hRX hf
        go_wp2
        go_roundw
        case rel => exact ⟨k + 1, by omega, by go_num, (HW.out.set _ 77).set _ 0, (HF2.out.setOther (a := ⟨b, off + k * 2, none⟩) hbF _).setOther (a := ⟨b, off + k * 2 + 1, none⟩) hbF _, (HX.out.setOther (a := ⟨b, off + k * 2, none⟩) hbX _).setOther (a := ⟨b, off + k * 2 + 1, none⟩) hbX _, row_other (row_other HRX.out (p := ⟨b, off + k * 2, none⟩) hbR.out _) (p := ⟨b, off + k * 2 + 1, none⟩) hbR.out _, (j.setCell (p := ⟨b, off + k * 2, none⟩) hb5 _).setCell (p := ⟨b, off + k * 2 + 1, none⟩) hb5 _⟩
        case measure => simp [intOf]; omega
      · clear hR2 hF2 L2
        have x7 := hX.cell 7 (v := .slice AX t.table.length cX) rfl
        have hXl := hX.lt
        go_wp2
        go_loopw [54] (fun i wr => ∃ m : Nat, m ≤ t.table.length ∧ i = .int .i64 m ∧ Own wr X (staCells t AX cX) ∧ PairRow wr K7 AX t.table.length ∧ Ok W5 wr) (fun i _ => t.table.length - (intOf i).toNat)
        case atStart => exact ⟨0, Nat.zero_le _, rfl, hX, hRX, j⟩
        case round =>
          clear hX hRX j x7 hXl
          obtain ⟨m, hm, rfl, hX, hRX, j⟩ := hrel
          by_cases hml : m < t.table.length
          · obtain ⟨b, off, e, hb, hlt, ⟨z0, d0⟩, ⟨z1, d1⟩, hf⟩ := hRX m hml
            have ltx := LX.out _ e
            simp only at ltx
            subst e
            have f0 := hf (off + m * 2)
            have f1 := hf (off + m * 2 + 1)
            have x7 := hX.cell 7 (v := .slice (some ⟨b, off, none⟩) t.table.length cX) rfl
            have hXl := hX.lt
            have hbX : X ≠ b := by omega
            have hb5 : W5.heap.size ≤ b := by omega
            have HW := Lib.hid hRX
            have HX := Lib.hid hX
            clear hRX hX hf
            go_wp2
            go_roundw
            case rel => exact ⟨m + 1, by omega, by go_num, (HX.out.setOther (a := ⟨b, off + m * 2, none⟩) hbX _).setOther (a := ⟨b, off + m * 2 + 1, none⟩) hbX _, (HW.out.set _ 78).set _ 0, (j.setCell (p := ⟨b, off + m * 2, none⟩) hb5 _).setCell (p := ⟨b, off + m * 2 + 1, none⟩) hb5 _⟩
            case measure => simp [intOf]; omega
          · clear hX hRX
            obtain ⟨V, rfl⟩ : ∃ V, V = wr := ⟨_, rfl⟩
            have hM9 := HM.out.next j
            have hN9 := HN.out.next j
            have m7 := hM9.cell 7 (v := .slice A1 u.table.length q1) rfl
            have ml := hM9.lt
            have n7 := hN9.cell 7 (v := .slice C u.table.length cup) rfl
            have nl := hN9.lt
            have hA9 := HA1.out.below j
            have hC9 := HC.out.below (HOK.out.trans j)
            have hok := HOK.out.trans j
            clear hM9 hN9 j
            go_wp2_with (go_at_call 27; refine (KT.out A1 q1 C cup _ hA9 hC9).mono ?_; rintro e w12 ⟨rfl, hb1⟩; replace hok := hok.trans hb1; clear hb1)
            go_ret
            exact ⟨rfl, hok⟩

theorem walk (w : World) (p : Par) (wp : ParWf p) (s : Sta) (A : Option Addr) (cap : Nat) (hA : PairsAt w A s.table) (hcs : s.table.length ≤ cap) (hms : cap ≤ maxLen) (ws : StaWf s) (u : Sta) (C : Option Addr) (cup : Nat) (hC : PairsAt w C u.table) (hcu : u.table.length ≤ cup) (hmu : cup ≤ maxLen) (wu : StaWf u) :
    Calls Try.prog 7 #[parV p, staV s A cap, staV u C cup] w fun e w' => e = .returned (.bool true) ∧ Below w.heap.size w w' :=
  walkF w p s A cap u C cup hC (Nat.le_trans hcu (Nat.le_trans hmu (by decide)))
theorem own : ownKnob Try.prog.godebug = none := by kernel_rfl
theorem laidOut : laidOutB Try.prog = true := by kernel_rfl
set_option maxRecDepth 100000 in
theorem lifted (os : Os) (started : os.Started) (H : Type) (enc : TypeId × Value → H) :
    ReturnsInHanded {} Try.checked os 7 .any (Rows.healthKeepsSpec.pre6 enc Try.prog Try.f7 Rows.healthKeepsRow.domain false) (Rows.healthKeepsSpec.post enc Try.prog Try.f7 false true false false) := by
  refine returnsInHanded_of_change (C := Try.checked) own started (by kernel_rfl) Try.func7
    (ChangeSpec.witness6 (enc := enc) (C := Try.checked) false ⟨#[], #[.agg #[.int .i64 0, .int .i64 0, .int .i64 0, .int .i64 0, .int .i64 0, .int .i64 0, .int .i64 0, .int .i64 0, .int .i64 0, .int .i64 0, .int .i64 0, .int .i64 0], .agg #[.int .i64 0, .int .i64 0, .int .i64 0, .bool false, .int .i64 0, .int .i64 0, .bool false, .slice none 0 0, .int .i64 0, .int .i64 0, .int .i64 0], .agg #[.int .i64 0, .int .i64 0, .int .i64 0, .bool false, .int .i64 0, .int .i64 0, .bool false, .slice none 0 0, .int .i64 0, .int .i64 0, .int .i64 0]], []⟩ 8 (by kernel_rfl) (by kernel_rfl) (by kernel_rfl) (by kernel_rfl)) ?_
  intro W base args ds gs before hval0 hW _ _
  have hval : ∀ (j : Nat) t v, Try.f7.params[j]? = some t → args[j]? = some v → Value.okWide Try.prog W .any base t v := hval0
  have hW' := hW
  obtain ⟨p, q, hA, hV, rfl, _, _⟩ := hW
  obtain ⟨rfl, rfl⟩ := trodVars_none hV
  replace hA : DataW.TrodAll enc Try.prog W 0 (fun _ => true) true Try.f7.params.toList args.toList ds p := hA
  rw [Try.params7] at hA hval
  obtain ⟨v0, vs0, d0, ds0, p0, q0, hargs, rfl, rfl, h0, r0⟩ := trodAll_cons hA
  obtain ⟨v1, vs1, d1, ds1, p1, q1, rfl, rfl, rfl, h1, r1⟩ := trodAll_cons r0
  obtain ⟨v2, vs2, d2, ds2, p2, q2, rfl, rfl, rfl, h2, r2⟩ := trodAll_cons r1
  obtain ⟨rfl, rfl, rfl⟩ := trodAll_nil r2
  obtain rfl : args = #[v0, v1, v2] := by cases args; simp_all
  obtain ⟨p0, rfl, wp0⟩ := open_par Try.underlying23 rfl (by kernel_rfl) (by kernel_rfl) (by kernel_rfl) (hval 0 23 v0 rfl rfl) h0
  obtain ⟨s1, A1, c1, rfl, hA1, hc1, hm1, w1⟩ := open_sta (hval 1 30 v1 rfl rfl) h1
  obtain ⟨s2, A2, c2, rfl, hA2, hc2, hm2, w2⟩ := open_sta (hval 2 30 v2 rfl rfl) h2
  refine (walk W p0 wp0 s1 A1 c1 hA1 hc1 hm1 w1 s2 A2 c2 hA2 hc2 hm2 w2).mono fun e W' ⟨he, hb⟩ => ?_
  subst he
  exact ⟨_, rfl, law_post hW' laidOut (by rw [Try.params7]; exact params_ok (by kernel_rfl)) rfl (by kernel_rfl) Try.underlying4 rfl rfl rfl hb⟩
theorem over : Rows.healthKeepsRow.holds Try.pinned (OpenSpec.ofChange Rows.healthKeepsSpec) :=
  OpenClaim.holds_of_wide 7 Try.f7 rfl rfl rfl rfl rfl rfl rfl ⟨rfl, rfl, rfl, rfl, rfl⟩ rfl rfl rfl rfl rfl (by kernel_rfl) Try.func7 (by kernel_rfl)
    (of_decide_eq_true (by kernel_rfl)) (by unfold Func.isWrapper; first | (rw [if_pos (by decide +kernel)]; kernel_rfl) | (rw [if_neg (by decide +kernel)]; exact ⟨rfl, rfl⟩))
    (fun os started H enc _ => lifted os started H enc)
theorem proved : Rows.HealthKeepsSaid := over
end Go.Proofs.Ytlclfonlidcfiaa.healthKeeps
