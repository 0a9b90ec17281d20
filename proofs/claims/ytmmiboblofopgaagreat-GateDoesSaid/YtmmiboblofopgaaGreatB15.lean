/- Several texts of mine in one: C21e, W22, C21f, C21p, C21g. -/
import Derived.Test.YtmmiboblofopgaaGreatB14
import Derived.Test.YtmmiboblofopgaaGreatB07
import Derived.Test.YtmmiboblofopgaaGreatB08
import Derived.Test.YtmmiboblofopgaaGreatB00
import Derived.Maps.Range
/- Contracts of layer 21: the document's Step. -/
namespace Go.Proofs.YtmmiboblofopgaaGreat
open Go.RowKit
set_option linter.unusedVariables false
set_option maxRecDepth 100000
attribute [local go_sem ↓] Go.wp_at_zero Go.wp_at_succ
/-- What each operation leaves. -/
def VME21F (B M N : Nat) (p : Par) (s L : Sta) (A2 : Option Addr) (cap2 : Nat) (m : Int) (fr : Bool) (w : World) (v : Value) : Nat → Prop
  | 0 => v = .agg #[.int .i64 s.st, .int .i64 s.sn]
  | 1 => v = .bool false
  | 2 => v = .bool true
  | 3 => v = .bool true
  | 4 => v = undef
  | 5 => v = undef
  | 6 => v = undef
  | 7 => v = undef
  | 8 => v = undef
  | 9 => v = undef
  | 10 => v = .bool true
  | 11 => v = .bool true
  | _ => v = .bool true
/-- It stays so. -/
def VCE21F (B M N : Nat) (p : Par) (s L : Sta) (A2 : Option Addr) (cap2 : Nat) (m : Int) (fr : Bool) (i : Nat) (v : Value) (w : World) : Prop := ∀ w', Ok w w' → VME21F B M N p s L A2 cap2 m true w' v i
/-- What each operation leaves. -/
def VME21T (B M N : Nat) (p : Par) (s L : Sta) (A2 : Option Addr) (cap2 : Nat) (m : Int) (fr : Bool) (w : World) (v : Value) : Nat → Prop
  | 0 => v = .agg #[.int .i64 s.st, .int .i64 s.sn]
  | 1 => v = .bool true
  | 2 => v = .bool false
  | 3 => v = .bool false
  | 4 => v = .pointer (some ⟨M, 0, none⟩)
  | 5 => v = .int .i64 s.st
  | 6 => v = parV p
  | 7 => v = .agg #[.int .i64 L.lo, .int .i64 L.hi, .int .i64 L.time, .bool L.set, .int .i64 L.held, .int .i64 L.hops, .bool L.good, .slice A2 L.table.length cap2, .int .i64 L.st, .int .i64 L.sn, .int .i64 L.life]
  | 8 => v = .int .i64 m
  | 9 => v = .bool fr
  | 10 => v = .bool fr
  | 11 => v = .bool fr
  | _ => v = .bool true
/-- It stays so. -/
def VCE21T (B M N : Nat) (p : Par) (s L : Sta) (A2 : Option Addr) (cap2 : Nat) (m : Int) (fr : Bool) (i : Nat) (v : Value) (w : World) : Prop := ∀ w', Ok w w' → VME21T B M N p s L A2 cap2 m fr w' v i
set_option maxHeartbeats 6400000 in
theorem ref21Step (p : Par) (s : Sta) (A : Option Addr) (cap : Nat) (ticks : Int) (u : Sta) (C : Option Addr) (cup : Nat) (w : World) (hC : PairsAt w C u.table) (hl : u.table.length ≤ 9223372036854775807) : Calls Tryz.prog 48 #[parV p, staV s A cap, .int .i64 ticks, staV u C cup] w (StaEnd w (Health.step p s ticks u)) := by
  obtain ⟨tm, htm⟩ : ∃ r, Health.mid u.lo u.hi = r := ⟨_, rfl⟩
  obtain ⟨sl, hsl⟩ : ∃ r, Slew.step p s.time ticks tm = r := ⟨_, rfl⟩
  obtain ⟨jm, hjm⟩ : ∃ r, Health.jumps p s ticks u = r := ⟨_, rfl⟩
  obtain ⟨jj, hjj⟩ : ∃ r, (jm || !s.set) = r := ⟨_, rfl⟩
  obtain ⟨cc, hcc⟩ : ∃ r, Sat.clip tm = r := ⟨_, rfl⟩
  obtain ⟨CK, hCK⟩ : ∃ r, (if jj = true then cc else sl) = r := ⟨_, rfl⟩
  have hck : Health.clock p s ticks u = CK := by
    unfold Health.clock
    rw [htm, hsl, hcc, hjm, ← hCK, ← hjj]
    cases jm <;> cases s.set <;> rfl
  obtain ⟨t, ht⟩ : ∃ r, Health.sane p u = r := ⟨_, rfl⟩
  obtain ⟨LF, hLF⟩ : ∃ r, Sat.bound s.life 0 2305843009213693952 = r := ⟨_, rfl⟩
  obtain ⟨L, hL⟩ : ∃ L : Sta, ({ t with time := CK, set := true, life := LF } : Sta) = L := ⟨_, rfl⟩
  have hled : Health.led p s ticks u = L := by
    unfold Health.led
    rw [hck, ht, ← hL, ← hLF]
    rfl
  obtain ⟨m, hm⟩ : ∃ r, Health.most p L = r := ⟨_, rfl⟩
  obtain ⟨rr, hrr⟩ : ∃ r, Hlc.right (s.st, s.sn) = r := ⟨_, rfl⟩
  obtain ⟨fr, hfr⟩ : ∃ r, decide (rr = false ∨ m < s.st) = r := ⟨_, rfl⟩
  obtain ⟨cx, hcx⟩ : ∃ r, Sat.clip CK = r := ⟨_, rfl⟩
  obtain ⟨⟨t1, t2⟩, htt⟩ : ∃ r, (if fr = true then (cx, 0) else (s.st, s.sn)) = r := ⟨_, rfl⟩
  obtain ⟨⟨k1, k2⟩, hkk⟩ : ∃ r, Hlc.tick (t1, t2) CK = r := ⟨_, rfl⟩
  obtain ⟨l1, hl1⟩ : ∃ r, Sat.sum [LF, 1] = r := ⟨_, rfl⟩
  obtain ⟨l2, hl2⟩ : ∃ r, Sat.bound l1 0 2305843009213693952 = r := ⟨_, rfl⟩
  obtain ⟨LV, hLV⟩ : ∃ r, (if fr = true ∨ CK < s.time then l2 else LF) = r := ⟨_, rfl⟩
  obtain ⟨Y, hY⟩ : ∃ Y : Sta, ({ L with st := k1, sn := k2, life := LV } : Sta) = Y := ⟨_, rfl⟩
  obtain ⟨Q, hQ⟩ : ∃ Q : Sta, ({ L with st := k1, sn := k2 } : Sta) = Q := ⟨_, rfl⟩
  have hQl : Q.life = LF := by rw [← hQ, ← hL]
  obtain ⟨g2, hg2⟩ : ∃ r, (fr || decide (CK < s.time)) = r := ⟨_, rfl⟩
  have hLV2 : (if g2 = true then l2 else LF) = LV := by rw [← hLV, ← hg2]; cases fr <;> simp
  have hY2 : ({ Q with life := LV } : Sta) = Y := by rw [← hQ, ← hY]
  have hYt : Y.table = t.table := by rw [← hY, ← hL]
  have han : Health.anew m (s.st, s.sn) = fr := by
    unfold Health.anew
    rw [hrr, hfr]
  have hst : Health.step p s ticks u = Y := by
    unfold Health.step Health.mark Health.lives
    rw [hled, hck, hm, han, hcx, htt, hkk, show Health.life s.life = LF from hLF, hl1, show Health.life l1 = l2 from hl2, hLV, ← hY]
  rw [hst]
  have KM := Lib.hid fun w => ref3Mid u.lo u.hi w
  rw [show (Sat.clip u.lo + Sat.clip u.hi) / 2 = tm from htm] at KM
  have KL := Lib.hid fun w => ref12Step p s.time ticks tm w
  rw [hsl] at KL
  have KJ := Lib.hid fun w => ref21Jumps p s A cap ticks u C cup w
  rw [hjm] at KJ
  have KC := Lib.hid fun w => refClip tm w
  rw [hcc] at KC
  have KS := Lib.hid (show ∀ w, PairsAt w C u.table → Calls Tryz.prog 11 #[parV p, staV u C cup] w (fun e w' => ∃ (A2 : Option Addr) (cap2 : Nat), e = .returned (.agg #[.int .i64 t.lo, .int .i64 t.hi, .int .i64 t.time, .bool t.set, .int .i64 t.held, .int .i64 t.hops, .bool t.good, .slice A2 t.table.length cap2, .int .i64 t.st, .int .i64 t.sn, .int .i64 t.life]) ∧ PairsOf w.heap.size w' A2 t.table ∧ Ok w w') from fun w h => by
    have k := ref21Sane p u C cup w h hl
    rw [ht] at k
    exact k)
  have KB := Lib.hid fun w => refBound s.life 0 2305843009213693952 w
  rw [hLF] at KB
  have KR := Lib.hid fun w => ref20Right (s.st, s.sn) w
  rw [hrr] at KR
  have KO := Lib.hid fun A cap w => ref21most p L A cap w
  rw [hm] at KO
  have KC2 := Lib.hid fun w => refClip CK w
  rw [hcx] at KC2
  have KT := Lib.hid fun w => ref20Tick (t1, t2) CK w
  rw [hkk] at KT
  have KA := Lib.hid fun w A h => refAdd A [LF, 1] 2 w h (by simp)
  rw [hl1] at KA
  have KB2 := Lib.hid fun w => refBound l1 0 2305843009213693952 w
  rw [hl2] at KB2
  have HJ := Lib.hid hjj
  have HCK := Lib.hid hCK
  have HL := Lib.hid hL
  have HFR := Lib.hid hfr
  have HTT := Lib.hid htt
  have HLV2 := Lib.hid hLV2
  have HY2 := Lib.hid hY2
  have HYT := Lib.hid hYt
  have HQ := Lib.hid hQ
  have HQL := Lib.hid hQl
  have HG2 := Lib.hid hg2
  have HC := Lib.hid hC
  clear hC hl hst han hYt hY2 hLV2 hg2 hQl hQ hY hLV hl2 hl1 hkk htt hcx hfr hrr hm hled hL hLF ht hck hCK hcc hjj hjm hsl htm
  have hP := (Own.new w (parCells p) 23 rfl).next ((((Ok.refl _).alloc (.cells (staCells s A cap) 30)).alloc (.cells (staCells u C cup) 30)).alloc (.cells (staCells zeroSta none 0) 30))
  have hS := (Own.new (w.alloc (.cells (parCells p) 23)) (staCells s A cap) 30 (g := w.heap.size + 1) (by simp)).next (((Ok.refl _).alloc (.cells (staCells u C cup) 30)).alloc (.cells (staCells zeroSta none 0) 30))
  have hU := (Own.new ((w.alloc (.cells (parCells p) 23)).alloc (.cells (staCells s A cap) 30)) (staCells u C cup) 30 (g := w.heap.size + 1 + 1) (by simp)).alloc (.cells (staCells zeroSta none 0) 30)
  have hZ := Own.new (((w.alloc (.cells (parCells p) 23)).alloc (.cells (staCells s A cap) 30)).alloc (.cells (staCells u C cup) 30)) (staCells zeroSta none 0) 30 (g := w.heap.size + 1 + 1 + 1) (by simp)
  have hok := ((((Ok.refl w).alloc (.cells (parCells p) 23)).alloc (.cells (staCells s A cap) 30)).alloc (.cells (staCells u C cup) 30)).alloc (.cells (staCells zeroSta none 0) 30)
  go_enter Tryz.func48, Tryz.ntmps48
  go_upto_region 1 with fail
  change Code.wp _ _ _ _ ((((w.alloc (.cells (parCells p) 23)).alloc (.cells (staCells s A cap) 30)).alloc (.cells (staCells u C cup) 30)).alloc (.cells (staCells zeroSta none 0) 30))
  generalize ((((w.alloc (.cells (parCells p) 23)).alloc (.cells (staCells s A cap) 30)).alloc (.cells (staCells u C cup) 30)).alloc (.cells (staCells zeroSta none 0) 30)) = W at hP hS hU hZ hok ⊢
  obtain ⟨Z, hZe⟩ : ∃ r, w.heap.size + 1 + 1 + 1 = r := ⟨_, rfl⟩
  obtain ⟨G, hG⟩ : ∃ r, w.heap.size + 1 + 1 = r := ⟨_, rfl⟩
  obtain ⟨H, hH⟩ : ∃ r, w.heap.size + 1 = r := ⟨_, rfl⟩
  obtain ⟨B, hB⟩ : ∃ r, w.heap.size = r := ⟨_, rfl⟩
  have hwZ : w.heap.size ≤ Z := by omega
  have hBZ : B < Z := by omega
  have hHZ : H < Z := by omega
  have hGZ : G < Z := by omega
  rw [hZe] at hZ
  rw [hG] at hU
  rw [hH] at hS
  rw [hB] at hP
  rw [hZe, hG, hH, hB]
  clear hZe hG hH hB
  obtain ⟨c0, c1, c2, c3, c4, c5, c6, c7, c8, c9, c10, c11⟩ := hP.pars; have hPl := hP.lt; obtain ⟨s0, s1, s2, s3, s4, s5, s6, s7, s8, s9, s10⟩ := hS.sta; have hSl := hS.lt; obtain ⟨y0, y1, y2, y3, y4, y5, y6, y7, y8, y9, y10⟩ := hU.sta; have hUl := hU.lt
  go_upto_region 3 with (first | (go_at_call 88; refine (KM.out _).mono ?_; rintro e w2 ⟨rfl, hb1⟩; clear c0 c1 c2 c3 c4 c5 c6 c7 c8 c9 c10 c11 hPl s0 s1 s2 s3 s4 s5 s6 s7 s8 s9 s10 hSl y0 y1 y2 y3 y4 y5 y6 y7 y8 y9 y10 hUl; replace hP := hP.next hb1; replace hS := hS.next hb1; replace hU := hU.next hb1; replace hZ := hZ.next hb1; replace hok := hok.trans hb1; clear hb1; obtain ⟨c0, c1, c2, c3, c4, c5, c6, c7, c8, c9, c10, c11⟩ := hP.pars; have hPl := hP.lt; obtain ⟨s0, s1, s2, s3, s4, s5, s6, s7, s8, s9, s10⟩ := hS.sta; have hSl := hS.lt; obtain ⟨y0, y1, y2, y3, y4, y5, y6, y7, y8, y9, y10⟩ := hU.sta; have hUl := hU.lt) | (go_at_call 89; refine (KL.out _).mono ?_; rintro e w3 ⟨rfl, hb1⟩; clear c0 c1 c2 c3 c4 c5 c6 c7 c8 c9 c10 c11 hPl s0 s1 s2 s3 s4 s5 s6 s7 s8 s9 s10 hSl y0 y1 y2 y3 y4 y5 y6 y7 y8 y9 y10 hUl; replace hP := hP.next hb1; replace hS := hS.next hb1; replace hU := hU.next hb1; replace hZ := hZ.next hb1; replace hok := hok.trans hb1; clear hb1; obtain ⟨c0, c1, c2, c3, c4, c5, c6, c7, c8, c9, c10, c11⟩ := hP.pars; have hPl := hP.lt; obtain ⟨s0, s1, s2, s3, s4, s5, s6, s7, s8, s9, s10⟩ := hS.sta; have hSl := hS.lt; obtain ⟨y0, y1, y2, y3, y4, y5, y6, y7, y8, y9, y10⟩ := hU.sta; have hUl := hU.lt))
  go_cut [32] from 23 to 32 (fun v wx => v = .bool jj ∧ Own wx B (parCells p) ∧ Own wx H (staCells s A cap) ∧ Own wx G (staCells u C cup) ∧ Own wx Z (staCells zeroSta none 0) ∧ Ok w wx)
  case first =>
    cases jm with
    | true =>
      have hj := HJ.out
      clear HJ
      go_wp2_with (go_at_call 90; refine (KJ.out _).mono ?_; rintro e w4 ⟨rfl, hb1⟩; clear c0 c1 c2 c3 c4 c5 c6 c7 c8 c9 c10 c11 hPl s0 s1 s2 s3 s4 s5 s6 s7 s8 s9 s10 hSl y0 y1 y2 y3 y4 y5 y6 y7 y8 y9 y10 hUl; replace hP := hP.next hb1; replace hS := hS.next hb1; replace hU := hU.next hb1; replace hZ := hZ.next hb1; replace hok := hok.trans hb1; clear hb1)
      go_meet
      exact ⟨by rw [← hj]; rfl, hP, hS, hU, hZ, hok⟩
    | false =>
      have HJ2 := Lib.hid HJ.out
      clear HJ
      go_wp2_with (go_at_call 90; refine (KJ.out _).mono ?_; rintro e w4 ⟨rfl, hb1⟩; clear c0 c1 c2 c3 c4 c5 c6 c7 c8 c9 c10 c11 hPl s0 s1 s2 s3 s4 s5 s6 s7 s8 s9 s10 hSl y0 y1 y2 y3 y4 y5 y6 y7 y8 y9 y10 hUl; replace hP := hP.next hb1; replace hS := hS.next hb1; replace hU := hU.next hb1; replace hZ := hZ.next hb1; replace hok := hok.trans hb1; clear hb1; obtain ⟨s0, s1, s2, s3, s4, s5, s6, s7, s8, s9, s10⟩ := hS.sta; have hSl := hS.lt)
      go_meet
      exact ⟨by rw [← HJ2.out]; rfl, hP, hS, hU, hZ, hok⟩
  case rest =>
  clear c0 c1 c2 c3 c4 c5 c6 c7 c8 c9 c10 c11 hPl s0 s1 s2 s3 s4 s5 s6 s7 s8 s9 s10 hSl y0 y1 y2 y3 y4 y5 y6 y7 y8 y9 y10 hUl
  clear hP hS hU hZ hok
  obtain ⟨rfl, hP, hS, hU, hZ, hok⟩ := hcut
  go_upto_if 32 with fail
  go_cut [10] from 33 to 34 (fun v wx => v = .int .i64 CK ∧ Own wx B (parCells p) ∧ Own wx H (staCells s A cap) ∧ Own wx G (staCells u C cup) ∧ Own wx Z (staCells zeroSta none 0) ∧ Ok w wx)
  case first =>
    cases jj with
    | true =>
      obtain rfl : CK = cc := HCK.out.symm.trans (if_pos rfl)
      go_wp2_with (go_at_call 28; refine (KC.out _).mono ?_; rintro e w5 ⟨rfl, rfl⟩)
      go_meet
      exact ⟨rfl, hP, hS, hU, hZ, hok⟩
    | false =>
      obtain rfl : CK = sl := HCK.out.symm.trans (if_neg (by decide))
      go_wp2_with fail
      go_meet
      exact ⟨rfl, hP, hS, hU, hZ, hok⟩
  case rest =>
  clear hP hS hU hZ hok
  obtain ⟨rfl, hP, hS, hU, hZ, hok⟩ := hcut
  obtain ⟨c0, c1, c2, c3, c4, c5, c6, c7, c8, c9, c10, c11⟩ := hP.pars; have hPl := hP.lt
  obtain ⟨y0, y1, y2, y3, y4, y5, y6, y7, y8, y9, y10⟩ := hU.sta; have hUl := hU.lt
  have hZK := hZ.lt
  have hwK := hok.size
  go_upto_region 6 with (go_at_call 11; refine (KS.out _ (HC.out.below hok)).mono ?_; rintro e w6 ⟨A2, cap2, rfl, hPA, hb1⟩; clear c0 c1 c2 c3 c4 c5 c6 c7 c8 c9 c10 c11 hPl y0 y1 y2 y3 y4 y5 y6 y7 y8 y9 y10 hUl; replace hP := hP.next hb1; replace hS := hS.next hb1; replace hU := hU.next hb1; replace hZ := hZ.next hb1; replace hok := hok.trans hb1; clear hb1)
  obtain ⟨K, hwK, hZK, hPA⟩ : ∃ K, w.heap.size ≤ K ∧ Z < K ∧ PairsOf K w6 A2 t.table := ⟨_, hwK, hZK, hPA⟩
  change Code.wp _ _ _ _ (w6.alloc (.cells (staCells t A2 cap2) 30))
  have hZN := hZ.lt
  have hN := Own.new w6 (staCells t A2 cap2) 30 rfl
  replace hP := hP.alloc (.cells (staCells t A2 cap2) 30)
  replace hS := hS.alloc (.cells (staCells t A2 cap2) 30)
  replace hZ := hZ.alloc (.cells (staCells t A2 cap2) 30)
  have hok6 := (Ok.refl w6).alloc (.cells (staCells t A2 cap2) 30)
  generalize w6.alloc (.cells (staCells t A2 cap2) 30) = W6 at hN hP hS hZ hok6 ⊢
  clear hU
  have h6N : w6.heap.size ≤ w6.heap.size := Nat.le_refl _
  generalize hNe : w6.heap.size = N at hN hZN ⊢
  replace h6N : w6.heap.size ≤ N := Nat.le_of_eq hNe
  clear hNe
  have hBN : B ≠ N := by omega
  have hHN : H ≠ N := by omega
  have hZNe : Z ≠ N := by omega
  have n2 := hN.cell 2 (v := .int .i64 t.time) rfl
  have n3 := hN.cell 3 (v := .bool t.set) rfl
  have n10 := hN.cell 10 (v := .int .i64 t.life) rfl
  have f2 := hN.frozen 2
  have f3 := hN.frozen 3
  have f10 := hN.frozen 10
  have hNl := hN.lt
  obtain ⟨s0, s1, s2, s3, s4, s5, s6, s7, s8, s9, s10⟩ := hS.sta; have hSl := hS.lt
  go_upto_region 10 with (go_at_call 29; refine (KB.out _).mono ?_; rintro e w7 ⟨rfl, rfl⟩)
  clear n2 n3 n10 f2 f3 f10 hNl
  clear s0 s1 s2 s3 s4 s5 s6 s7 s8 s9 s10 hSl
  have hN' : Own (((W6.setCell ⟨N, 2, none⟩ (.int .i64 CK)).setCell ⟨N, 3, none⟩ (.bool true)).setCell ⟨N, 10, none⟩ (.int .i64 LF)) N (staCells L A2 cap2) := (((hN.set 2 (.int .i64 CK)).set 3 (.bool true)).set 10 (.int .i64 LF)).as (by rw [← HL.out]; simp [staCells])
  have hP' := ((hP.setOther (a := ⟨N, 2, none⟩) hBN (.int .i64 CK)).setOther (a := ⟨N, 3, none⟩) hBN (.bool true)).setOther (a := ⟨N, 10, none⟩) hBN (.int .i64 LF)
  have hS' := ((hS.setOther (a := ⟨N, 2, none⟩) hHN (.int .i64 CK)).setOther (a := ⟨N, 3, none⟩) hHN (.bool true)).setOther (a := ⟨N, 10, none⟩) hHN (.int .i64 LF)
  have hZ' := ((hZ.setOther (a := ⟨N, 2, none⟩) hZNe (.int .i64 CK)).setOther (a := ⟨N, 3, none⟩) hZNe (.bool true)).setOther (a := ⟨N, 10, none⟩) hZNe (.int .i64 LF)
  have hok' := ((hok6.setCell (p := ⟨N, 2, none⟩) h6N (.int .i64 CK)).setCell (p := ⟨N, 3, none⟩) h6N (.bool true)).setCell (p := ⟨N, 10, none⟩) h6N (.int .i64 LF)
  have hXw : Slab ((((W6.setCell ⟨N, 2, none⟩ (.int .i64 CK)).setCell ⟨N, 3, none⟩ (.bool true)).setCell ⟨N, 10, none⟩ (.int .i64 LF)).alloc (.cells #[.int .i64 s.st, .int .i64 s.sn] 28)) W6.heap.size s.st s.sn := Slab.new _ _ _ _ (by simp)
  have hNM : N < W6.heap.size := hN.lt
  clear hN hP hS hZ hok6
  have hN := hN'.alloc (.cells #[.int .i64 s.st, .int .i64 s.sn] 28)
  have hP := hP'.alloc (.cells #[.int .i64 s.st, .int .i64 s.sn] 28)
  have hS := hS'.alloc (.cells #[.int .i64 s.st, .int .i64 s.sn] 28)
  have hZ := hZ'.alloc (.cells #[.int .i64 s.st, .int .i64 s.sn] 28)
  have hok6 := hok'.alloc (.cells #[.int .i64 s.st, .int .i64 s.sn] 28)
  clear hN' hP' hS' hZ' hok'
  change Code.wp _ _ _ _ ((((W6.setCell ⟨N, 2, none⟩ (.int .i64 CK)).setCell ⟨N, 3, none⟩ (.bool true)).setCell ⟨N, 10, none⟩ (.int .i64 LF)).alloc (.cells #[.int .i64 s.st, .int .i64 s.sn] 28))
  generalize (((W6.setCell ⟨N, 2, none⟩ (.int .i64 CK)).setCell ⟨N, 3, none⟩ (.bool true)).setCell ⟨N, 10, none⟩ (.int .i64 LF)).alloc (.cells #[.int .i64 s.st, .int .i64 s.sn] 28) = WA at hN hP hS hZ hok6 hXw ⊢
  generalize W6.heap.size = M at hXw hNM ⊢
  have hX := hXw
  clear hXw
  have hHM : H ≠ M := by omega
  have hZM : Z ≠ M := by omega
  have hNMe : N ≠ M := by omega
  have h6M : w6.heap.size ≤ M := by omega
  go_cut [13] from 47 to 57 (fun v wx => v = .bool fr ∧ Own wx H (staCells s A cap) ∧ Own wx Z (staCells zeroSta none 0) ∧ Own wx N (staCells L A2 cap2) ∧ Slab wx M s.st s.sn ∧ Ok w6 wx)
  case first =>
    have HOK := Lib.hid hok6
    have HP := Lib.hid fun W' (k : Ok WA.drew W') => hP.drew.next k
    have HS := Lib.hid fun W' (k : Ok WA.drew W') => hS.drew.next k
    have HZ := Lib.hid fun W' (k : Ok WA.drew W') => hZ.drew.next k
    have HN := Lib.hid fun W' (k : Ok WA.drew W') => hN.drew.next k
    have HX := Lib.hid fun W' (k : Ok WA.drew W') => hX.drew.next k
    clear hP hS hZ hN hX hok6
    cases rr with
    | false =>
      obtain rfl : fr = true := HFR.out.symm.trans (decide_eq_true (Or.inl rfl))
      refine wp_region_facts (by kernel_rfl) 80 rfl (VCE21F B M N p s L A2 cap2 m true) Ok (by kernel_rfl) (fun i v w w' h k w'' k' => h w'' (k.trans k')) (fun a b c => Ok.trans) (Ok.refl _) [some 47, some 48, some 49, some 50, some 51, some 52, some 53, some 54, some 55, some 56, some 57, some 13] rfl 12 rfl ⟨?_, ?_, ?_, ?_, ?_, ?_, ?_, ?_, ?_, ?_, ?_, ?_, trivial⟩ ?_
      · intro a' w' hF hR
        have e12 : a'.tmps[12]? = some (.pointer (some ⟨M, 0, none⟩)) := hF.slot 12 (by kernel_rfl) rfl
        have x0 := (HX.out _ hR).c0
        have x1 := (HX.out _ hR).c1
        have hXl := (HX.out _ hR).lt
        refine wpOp_run (v := .agg #[.int .i64 s.st, .int .i64 s.sn]) rfl rfl ?_ (fun _ _ => rfl) (Ok.refl _)
        clear hF
        go_simp
      · intro a' w' hF hR
        obtain ⟨v0, hv0, e47⟩ := hF.get 0 47 (by kernel_rfl) (by kernel_rfl)
        obtain rfl : v0 = _ := hv0 _ (Ok.refl _)
        clear hF
        refine wpOp_call (f := 32) (args := #[.agg #[.int .i64 s.st, .int .i64 s.sn]]) rfl rfl ?_ ((KR.out _).mono ?_)
        · go_simp
        · rintro e w2 ⟨rfl, hb2⟩; exact ⟨_, rfl, fun _ _ => rfl, hb2⟩
      · intro a' w' hF hR
        obtain ⟨v1, hv1, e48⟩ := hF.get 1 48 (by kernel_rfl) (by kernel_rfl)
        obtain rfl : v1 = _ := hv1 _ (Ok.refl _)
        refine wpOp_run (v := .bool true) rfl rfl ?_ (fun _ _ => rfl) (Ok.refl _)
        clear hF
        go_simp
      · intro a' w' hF hR
        obtain ⟨v2, hv2, e49⟩ := hF.get 2 49 (by kernel_rfl) (by kernel_rfl)
        obtain rfl : v2 = _ := hv2 _ (Ok.refl _)
        refine wpOp_run (v := .bool true) rfl rfl ?_ (fun _ _ => rfl) (Ok.refl _)
        clear hF
        go_simp
      · intro a' w' hF hR
        obtain ⟨vg, hvg, eg⟩ := hF.get 3 50 (by kernel_rfl) (by kernel_rfl)
        obtain rfl : vg = _ := hvg _ (Ok.refl _)
        exact wpOp_skip rfl (wanted_not rfl (by kernel_rfl) eg (by simp)) (fun _ _ => rfl) (Ok.refl _)
      · intro a' w' hF hR
        obtain ⟨vg, hvg, eg⟩ := hF.get 3 50 (by kernel_rfl) (by kernel_rfl)
        obtain rfl : vg = _ := hvg _ (Ok.refl _)
        exact wpOp_skip rfl (wanted_not rfl (by kernel_rfl) eg (by simp)) (fun _ _ => rfl) (Ok.refl _)
      · intro a' w' hF hR
        obtain ⟨vg, hvg, eg⟩ := hF.get 3 50 (by kernel_rfl) (by kernel_rfl)
        obtain rfl : vg = _ := hvg _ (Ok.refl _)
        exact wpOp_skip rfl (wanted_not rfl (by kernel_rfl) eg (by simp)) (fun _ _ => rfl) (Ok.refl _)
      · intro a' w' hF hR
        obtain ⟨vg, hvg, eg⟩ := hF.get 3 50 (by kernel_rfl) (by kernel_rfl)
        obtain rfl : vg = _ := hvg _ (Ok.refl _)
        exact wpOp_skip rfl (wanted_not rfl (by kernel_rfl) eg (by simp)) (fun _ _ => rfl) (Ok.refl _)
      · intro a' w' hF hR
        obtain ⟨vg, hvg, eg⟩ := hF.get 3 50 (by kernel_rfl) (by kernel_rfl)
        obtain rfl : vg = _ := hvg _ (Ok.refl _)
        exact wpOp_skip rfl (wanted_not rfl (by kernel_rfl) eg (by simp)) (fun _ _ => rfl) (Ok.refl _)
      · intro a' w' hF hR
        obtain ⟨vg, hvg, eg⟩ := hF.get 3 50 (by kernel_rfl) (by kernel_rfl)
        obtain rfl : vg = _ := hvg _ (Ok.refl _)
        exact wpOp_skip rfl (wanted_not rfl (by kernel_rfl) eg (by simp)) (fun _ _ => rfl) (Ok.refl _)
      · intro a' w' hF hR
        obtain ⟨v3, hv3, e50⟩ := hF.get 3 50 (by kernel_rfl) (by kernel_rfl)
        obtain rfl : v3 = _ := hv3 _ (Ok.refl _)
        obtain ⟨v9, hv9, e56⟩ := hF.get 9 56 (by kernel_rfl) (by kernel_rfl)
        obtain rfl : v9 = _ := hv9 _ (Ok.refl _)
        refine wpOp_run (v := .bool true) rfl rfl ?_ (fun _ _ => rfl) (Ok.refl _)
        clear hF
        go_simp
      · intro a' w' hF hR
        obtain ⟨v10, hv10, e57⟩ := hF.get 10 57 (by kernel_rfl) (by kernel_rfl)
        obtain rfl : v10 = _ := hv10 _ (Ok.refl _)
        refine wpOp_run (v := .bool true) rfl rfl ?_ (fun _ _ => rfl) (Ok.refl _)
        clear hF
        go_simp
      intro vs w8 hV hR
      have e11 : vs 11 = .bool true := hV 11 (by decide) _ (Ok.refl _)
      have hok6 := HOK.out.trans ((Ok.refl WA).drew.trans hR)
      have hS := HS.out _ hR
      have hZ := HZ.out _ hR
      have hN := HN.out _ hR
      have hX := HX.out _ hR
      clear hV HP HS HZ HN HX HOK
      simp only [putFrom, e11]
      simp only [Act.put, List.setIfInBounds_toArray, List.set_cons_zero, List.set_cons_succ]
      go_wp2_with fail
      go_meet
      exact ⟨rfl, hS, hZ, hN, hX, hok6⟩
    | true =>
      have d1 : decide (m < s.st) = fr := by rw [← HFR.out]; simp
      refine wp_region_facts (by kernel_rfl) 80 rfl (VCE21T B M N p s L A2 cap2 m fr) Ok (by kernel_rfl) (fun i v w w' h k w'' k' => h w'' (k.trans k')) (fun a b c => Ok.trans) (Ok.refl _) [some 47, some 48, some 49, some 50, some 51, some 52, some 53, some 54, some 55, some 56, some 57, some 13] rfl 12 rfl ⟨?_, ?_, ?_, ?_, ?_, ?_, ?_, ?_, ?_, ?_, ?_, ?_, trivial⟩ ?_
      · intro a' w' hF hR
        have e12 : a'.tmps[12]? = some (.pointer (some ⟨M, 0, none⟩)) := hF.slot 12 (by kernel_rfl) rfl
        have x0 := (HX.out _ hR).c0
        have x1 := (HX.out _ hR).c1
        have hXl := (HX.out _ hR).lt
        refine wpOp_run (v := .agg #[.int .i64 s.st, .int .i64 s.sn]) rfl rfl ?_ (fun _ _ => rfl) (Ok.refl _)
        clear hF
        go_simp
      · intro a' w' hF hR
        obtain ⟨v0, hv0, e47⟩ := hF.get 0 47 (by kernel_rfl) (by kernel_rfl)
        obtain rfl : v0 = _ := hv0 _ (Ok.refl _)
        clear hF
        refine wpOp_call (f := 32) (args := #[.agg #[.int .i64 s.st, .int .i64 s.sn]]) rfl rfl ?_ ((KR.out _).mono ?_)
        · go_simp
        · rintro e w2 ⟨rfl, hb2⟩; exact ⟨_, rfl, fun _ _ => rfl, hb2⟩
      · intro a' w' hF hR
        obtain ⟨v1, hv1, e48⟩ := hF.get 1 48 (by kernel_rfl) (by kernel_rfl)
        obtain rfl : v1 = _ := hv1 _ (Ok.refl _)
        refine wpOp_run (v := .bool false) rfl rfl ?_ (fun _ _ => rfl) (Ok.refl _)
        clear hF
        go_simp
      · intro a' w' hF hR
        obtain ⟨v2, hv2, e49⟩ := hF.get 2 49 (by kernel_rfl) (by kernel_rfl)
        obtain rfl : v2 = _ := hv2 _ (Ok.refl _)
        refine wpOp_run (v := .bool false) rfl rfl ?_ (fun _ _ => rfl) (Ok.refl _)
        clear hF
        go_simp
      · intro a' w' hF hR
        have e12 : a'.tmps[12]? = some (.pointer (some ⟨M, 0, none⟩)) := hF.slot 12 (by kernel_rfl) rfl
        obtain ⟨vg, hvg, eg⟩ := hF.get 3 50 (by kernel_rfl) (by kernel_rfl)
        obtain rfl : vg = _ := hvg _ (Ok.refl _)
        refine wpOp_runG (v := .pointer (some ⟨M, 0, none⟩)) rfl (wanted_yes rfl (by kernel_rfl) eg) ?_ (fun _ _ => rfl) (Ok.refl _)
        clear hF
        go_simp
      · intro a' w' hF hR
        obtain ⟨v4, hv4, e51⟩ := hF.get 4 51 (by kernel_rfl) (by kernel_rfl)
        obtain rfl : v4 = _ := hv4 _ (Ok.refl _)
        obtain ⟨vg, hvg, eg⟩ := hF.get 3 50 (by kernel_rfl) (by kernel_rfl)
        obtain rfl : vg = _ := hvg _ (Ok.refl _)
        have x0 := (HX.out _ hR).c0
        have x1 := (HX.out _ hR).c1
        have hXl := (HX.out _ hR).lt
        refine wpOp_runG (v := .int .i64 s.st) rfl (wanted_yes rfl (by kernel_rfl) eg) ?_ (fun _ _ => rfl) (Ok.refl _)
        clear hF
        go_simp
      · intro a' w' hF hR
        have e4 : a'.tmps[4]? = some (.pointer (some ⟨B, 0, none⟩)) := hF.slot 4 (by kernel_rfl) rfl
        obtain ⟨vg, hvg, eg⟩ := hF.get 3 50 (by kernel_rfl) (by kernel_rfl)
        obtain rfl : vg = _ := hvg _ (Ok.refl _)
        obtain ⟨c0, c1, c2, c3, c4, c5, c6, c7, c8, c9, c10, c11⟩ := (HP.out _ hR).pars
        have hPl := (HP.out _ hR).lt
        refine wpOp_runG (v := parV p) rfl (wanted_yes rfl (by kernel_rfl) eg) ?_ (fun _ _ => rfl) (Ok.refl _)
        clear hF
        go_simp
      · intro a' w' hF hR
        have e11 : a'.tmps[11]? = some (.pointer (some ⟨N, 0, none⟩)) := hF.slot 11 (by kernel_rfl) rfl
        obtain ⟨vg, hvg, eg⟩ := hF.get 3 50 (by kernel_rfl) (by kernel_rfl)
        obtain rfl : vg = _ := hvg _ (Ok.refl _)
        obtain ⟨s0, s1, s2, s3, s4, s5, s6, s7, s8, s9, s10⟩ := (HN.out _ hR).sta
        have hNl := (HN.out _ hR).lt
        refine wpOp_runG (v := .agg #[.int .i64 L.lo, .int .i64 L.hi, .int .i64 L.time, .bool L.set, .int .i64 L.held, .int .i64 L.hops, .bool L.good, .slice A2 L.table.length cap2, .int .i64 L.st, .int .i64 L.sn, .int .i64 L.life]) rfl (wanted_yes rfl (by kernel_rfl) eg) ?_ (fun _ _ => rfl) (Ok.refl _)
        clear hF
        go_simp
      · intro a' w' hF hR
        obtain ⟨v6, hv6, e53⟩ := hF.get 6 53 (by kernel_rfl) (by kernel_rfl)
        obtain rfl : v6 = _ := hv6 _ (Ok.refl _)
        obtain ⟨v7, hv7, e54⟩ := hF.get 7 54 (by kernel_rfl) (by kernel_rfl)
        obtain rfl : v7 = _ := hv7 _ (Ok.refl _)
        obtain ⟨vg, hvg, eg⟩ := hF.get 3 50 (by kernel_rfl) (by kernel_rfl)
        obtain rfl : vg = _ := hvg _ (Ok.refl _)
        refine wpOp_callG (f := 91) (args := #[parV p, .agg #[.int .i64 L.lo, .int .i64 L.hi, .int .i64 L.time, .bool L.set, .int .i64 L.held, .int .i64 L.hops, .bool L.good, .slice A2 L.table.length cap2, .int .i64 L.st, .int .i64 L.sn, .int .i64 L.life]]) rfl (wanted_yes rfl (by kernel_rfl) eg) ?_ ((KO.out A2 cap2 _).mono ?_)
        · go_simp
        · rintro e w2 ⟨rfl, hb2⟩; exact ⟨_, rfl, fun _ _ => rfl, hb2⟩
      · intro a' w' hF hR
        obtain ⟨v5, hv5, e52⟩ := hF.get 5 52 (by kernel_rfl) (by kernel_rfl)
        obtain rfl : v5 = _ := hv5 _ (Ok.refl _)
        obtain ⟨v8, hv8, e55⟩ := hF.get 8 55 (by kernel_rfl) (by kernel_rfl)
        obtain rfl : v8 = _ := hv8 _ (Ok.refl _)
        obtain ⟨vg, hvg, eg⟩ := hF.get 3 50 (by kernel_rfl) (by kernel_rfl)
        obtain rfl : vg = _ := hvg _ (Ok.refl _)
        refine wpOp_runG (v := .bool fr) rfl (wanted_yes rfl (by kernel_rfl) eg) ?_ (fun _ _ => rfl) (Ok.refl _)
        clear hF
        go_simp
      · intro a' w' hF hR
        obtain ⟨v3, hv3, e50⟩ := hF.get 3 50 (by kernel_rfl) (by kernel_rfl)
        obtain rfl : v3 = _ := hv3 _ (Ok.refl _)
        obtain ⟨v9, hv9, e56⟩ := hF.get 9 56 (by kernel_rfl) (by kernel_rfl)
        obtain rfl : v9 = _ := hv9 _ (Ok.refl _)
        refine wpOp_run (v := .bool fr) rfl rfl ?_ (fun _ _ => rfl) (Ok.refl _)
        clear hF
        go_simp
      · intro a' w' hF hR
        obtain ⟨v10, hv10, e57⟩ := hF.get 10 57 (by kernel_rfl) (by kernel_rfl)
        obtain rfl : v10 = _ := hv10 _ (Ok.refl _)
        refine wpOp_run (v := .bool fr) rfl rfl ?_ (fun _ _ => rfl) (Ok.refl _)
        clear hF
        go_simp
      intro vs w8 hV hR
      have e11 : vs 11 = .bool fr := hV 11 (by decide) _ (Ok.refl _)
      have hok6 := HOK.out.trans ((Ok.refl WA).drew.trans hR)
      have hS := HS.out _ hR
      have hZ := HZ.out _ hR
      have hN := HN.out _ hR
      have hX := HX.out _ hR
      clear hV HP HS HZ HN HX HOK
      simp only [putFrom, e11]
      simp only [Act.put, List.setIfInBounds_toArray, List.set_cons_zero, List.set_cons_succ]
      go_wp2_with fail
      go_meet
      exact ⟨rfl, hS, hZ, hN, hX, hok6⟩
  case rest =>
  clear hP hS hZ hN hX hok6
  obtain ⟨rfl, hS, hZ, hN, hX, hok6⟩ := hcut
  go_upto_if 58 with fail
  go_cut [] from 59 to 61 (fun wx => Own wx H (staCells s A cap) ∧ Own wx Z (staCells zeroSta none 0) ∧ Own wx N (staCells L A2 cap2) ∧ Slab wx M t1 t2 ∧ Ok w6 wx)
  case first =>
    have q := HTT.out
    cases fr with
    | true =>
      rw [if_pos rfl] at q
      injection q with q1 q2
      subst q1 q2
      have x0 := hX.c0
      have x1 := hX.c1
      have f0 := hX.f0
      have f1 := hX.f1
      have hXl := hX.lt
      go_wp2_with (go_at_call 28; refine (KC2.out _).mono ?_; rintro e w8 ⟨rfl, rfl⟩)
      go_meet
      exact ⟨(hS.setOther (a := ⟨M, 0, none⟩) hHM _).setOther (a := ⟨M, 1, none⟩) hHM _, (hZ.setOther (a := ⟨M, 0, none⟩) hZM _).setOther (a := ⟨M, 1, none⟩) hZM _, (hN.setOther (a := ⟨M, 0, none⟩) hNMe _).setOther (a := ⟨M, 1, none⟩) hNMe _, hX.set cx 0, (hok6.setCell (p := ⟨M, 0, none⟩) h6M _).setCell (p := ⟨M, 1, none⟩) h6M _⟩
    | false =>
      rw [if_neg (by decide)] at q
      injection q with q1 q2
      subst q1 q2
      go_wp2_with fail
      go_meet
      exact ⟨hS, hZ, hN, hX, hok6⟩
  case rest =>
  clear hS hZ hN hX hok6
  obtain ⟨hS, hZ, hN, hX, hok6⟩ := hcut
  have x0 := hX.c0
  have x1 := hX.c1
  have hXl := hX.lt
  go_upto_region 14 with (go_at_call 92; refine (KT.out _).mono ?_; rintro e w9 ⟨rfl, hb1⟩; clear x0 x1 hXl hX; replace hS := hS.next hb1; replace hZ := hZ.next hb1; replace hN := hN.next hb1; replace hok6 := hok6.trans hb1; clear hb1; have n8 := hN.cell 8 (v := .int .i64 L.st) rfl; have n9 := hN.cell 9 (v := .int .i64 L.sn) rfl; have f8 := hN.frozen 8; have f9 := hN.frozen 9; have hNl := hN.lt)
  have hN' : Own ((w9.setCell ⟨N, 8, none⟩ (.int .i64 k1)).setCell ⟨N, 9, none⟩ (.int .i64 k2)) N (staCells Q A2 cap2) := ((hN.set 8 (.int .i64 k1)).set 9 (.int .i64 k2)).as (by rw [← HQ.out]; simp [staCells])
  have hS' := (hS.setOther (a := ⟨N, 8, none⟩) hHN (.int .i64 k1)).setOther (a := ⟨N, 9, none⟩) hHN (.int .i64 k2)
  have hZ' := (hZ.setOther (a := ⟨N, 8, none⟩) hZNe (.int .i64 k1)).setOther (a := ⟨N, 9, none⟩) hZNe (.int .i64 k2)
  have hok' := (hok6.setCell (p := ⟨N, 8, none⟩) h6N (.int .i64 k1)).setCell (p := ⟨N, 9, none⟩) h6N (.int .i64 k2)
  clear n8 n9 f8 f9 hNl hN hS hZ hok6
  generalize ((w9.setCell ⟨N, 8, none⟩ (.int .i64 k1)).setCell ⟨N, 9, none⟩ (.int .i64 k2)) = WB at hN' hS' hZ' hok' ⊢
  have s2 := hS'.cell 2 (v := .int .i64 s.time) rfl
  have hSl := hS'.lt
  go_cut [72] from 66 to 72 (fun v wx => v = .bool g2 ∧ wx = WB)
  case first =>
    cases fr with
    | true =>
      go_wp2_with fail
      go_meet
      exact ⟨by rw [← HG2.out]; rfl, rfl⟩
    | false =>
      go_wp2_with fail
      go_meet
      exact ⟨by rw [← HG2.out]; rfl, rfl⟩
  case rest =>
  obtain ⟨rfl, rfl⟩ := hcut
  clear s2 hSl hS'
  go_upto_if 72 with fail
  go_cut [] from 73 to 78 (fun wx => Own wx Z (staCells zeroSta none 0) ∧ Own wx N (staCells Y A2 cap2) ∧ Ok w6 wx)
  case first =>
    cases g2 with
    | true =>
      obtain rfl : LV = l2 := HLV2.out.symm.trans (if_pos rfl)
      have n10 := hN'.cell 10 (v := .int .i64 LF) (by rw [← HQL.out]; rfl)
      have f10 := hN'.frozen 10
      have hNl := hN'.lt
      go_wp2_with (first | (go_at_call 30; refine (KA.out _ _ (ints_new _ [LF, 1] _ _ rfl rfl)).mono ?_; rintro e w10 ⟨rfl, rfl⟩) | (go_at_call 29; refine (KB2.out _).mono ?_; rintro e w11 ⟨rfl, rfl⟩))
      go_meet
      exact ⟨(hZ'.setOther (a := ⟨N, 10, none⟩) hZNe _).alloc _, ((hN'.set 10 (.int .i64 LV)).as (ds := staCells Y A2 cap2) (by rw [← HY2.out]; simp [staCells])).alloc _, (hok'.setCell (p := ⟨N, 10, none⟩) h6N _).alloc _⟩
    | false =>
      obtain rfl : LV = LF := HLV2.out.symm.trans (if_neg (by decide))
      go_wp2_with fail
      go_meet
      exact ⟨hZ', hN'.as (by rw [← HY2.out]; simp [staCells, HQL.out]), hok'⟩
  case rest =>
  clear hN' hZ' hok'
  obtain ⟨hZ2, hS2, hok6⟩ := hcut
  have hPu : PairsOf K wc A2 Y.table := by rw [HYT.out]; exact hPA.next hok6
  have hok2 := hok.trans hok6
  have hrw := hwZ
  have hPX := (((((((((((hPu.set (p := ⟨Z, 0, none⟩) hZK (.int .i64 Y.lo)).set (p := ⟨Z, 1, none⟩) hZK (.int .i64 Y.hi)).set (p := ⟨Z, 2, none⟩) hZK (.int .i64 Y.time)).set (p := ⟨Z, 3, none⟩) hZK (.bool Y.set)).set (p := ⟨Z, 4, none⟩) hZK (.int .i64 Y.held)).set (p := ⟨Z, 5, none⟩) hZK (.int .i64 Y.hops)).set (p := ⟨Z, 6, none⟩) hZK (.bool Y.good)).set (p := ⟨Z, 7, none⟩) hZK (.slice A2 Y.table.length cap2)).set (p := ⟨Z, 8, none⟩) hZK (.int .i64 Y.st)).set (p := ⟨Z, 9, none⟩) hZK (.int .i64 Y.sn)).set (p := ⟨Z, 10, none⟩) hZK (.int .i64 Y.life))
  clear hPA hPu
  obtain ⟨s0, s1, s2, s3, s4, s5, s6, s7, s8, s9, s10⟩ := hS2.sta
  obtain ⟨z0, z1, z2, z3, z4, z5, z6, z7, z8, z9, z10⟩ := hZ2.sta
  obtain ⟨y0, y1, y2, y3, y4, y5, y6, y7, y8, y9, y10⟩ := frozenSta hZ2
  have hsl := hS2.lt
  have hzl := hZ2.lt
  have hX := own_set11 hZ2 Y A2 cap2
  have hok3 := ok_set11 hok2 hrw Y A2 cap2
  go_wp2_with fail
  clear s0 s1 s2 s3 s4 s5 s6 s7 s8 s9 s10 z0 z1 z2 z3 z4 z5 z6 z7 z8 z9 z10 y0 y1 y2 y3 y4 y5 y6 y7 y8 y9 y10 hsl hzl
  generalize (((((((((((wc.setCell ⟨Z, 0, none⟩ (.int .i64 Y.lo)).setCell ⟨Z, 1, none⟩ (.int .i64 Y.hi)).setCell ⟨Z, 2, none⟩ (.int .i64 Y.time)).setCell ⟨Z, 3, none⟩ (.bool Y.set)).setCell ⟨Z, 4, none⟩ (.int .i64 Y.held)).setCell ⟨Z, 5, none⟩ (.int .i64 Y.hops)).setCell ⟨Z, 6, none⟩ (.bool Y.good)).setCell ⟨Z, 7, none⟩ (.slice A2 Y.table.length cap2)).setCell ⟨Z, 8, none⟩ (.int .i64 Y.st)).setCell ⟨Z, 9, none⟩ (.int .i64 Y.sn)).setCell ⟨Z, 10, none⟩ (.int .i64 Y.life)) = W5 at hX hok3 hPX ⊢
  obtain ⟨s0, s1, s2, s3, s4, s5, s6, s7, s8, s9, s10⟩ := hX.sta
  exact bodyPost_ret (v := staV Y A2 cap2) (by simp [results, Tryz.results48, go_sem, s0, s1, s2, s3, s4, s5, s6, s7, s8, s9, s10, staV]) rfl ⟨A2, cap2, rfl, hPX.mono hwK, hok3⟩
end Go.Proofs.YtmmiboblofopgaaGreat

/- Words of my own: a call that changes one block alone of those that were there; rings of items in a block. -/
namespace Go.Proofs.YtmmiboblofopgaaGreat
open Go.RowKit
/-- Of the blocks that were there only r may have changed. -/
structure Only (r : Nat) (w w' : World) : Prop where
  os : w'.os = w.os
  tape : w'.tape = w.tape
  output : w'.output = w.output
  size : w.heap.size ≤ w'.heap.size
  block : ∀ k, k < w.heap.size → k ≠ r → w'.heap[k]? = w.heap[k]?
namespace Only
variable {r : Nat} {w w1 w2 : World}
theorem refl (r : Nat) (w : World) : Only r w w := ⟨rfl, rfl, rfl, Nat.le_refl _, fun _ _ _ => rfl⟩
theorem ok (h : Only r w w1) (k : Ok w1 w2) : Only r w w2 := ⟨k.below.os.trans h.os, k.below.tape.trans h.tape, k.below.output.trans h.output, Nat.le_trans h.size k.size, fun i a b => (k.below.block i (Nat.lt_of_lt_of_le a h.size)).trans (h.block i a b)⟩
theorem of_ok (k : Ok w w1) : Only r w w1 := (refl r w).ok k
theorem trans (h : Only r w w1) (k : Only r w1 w2) : Only r w w2 := ⟨k.os.trans h.os, k.tape.trans h.tape, k.output.trans h.output, Nat.le_trans h.size k.size, fun i a b => (k.block i (Nat.lt_of_lt_of_le a h.size) b).trans (h.block i a b)⟩
theorem set (h : Only r w w1) {a : Addr} (ha : a.block = r ∨ w.heap.size ≤ a.block) (v : Value) : Only r w (w1.setCell a v) :=
  ⟨h.os, h.tape, h.output, by simpa using h.size, fun i h1 h2 => (Below.heap_setCell w1 a v i (by rcases ha with e | e <;> omega)).trans (h.block i h1 h2)⟩
theorem setR (h : Only r w w1) (k : Nat) (v : Value) : Only r w (w1.setCell ⟨r, k, none⟩ v) := h.set (.inl rfl) v
theorem setN (h : Only r w w1) {b : Nat} (hb : w.heap.size ≤ b) (k : Nat) (v : Value) : Only r w (w1.setCell ⟨b, k, none⟩ v) := h.set (.inr hb) v
theorem alloc (h : Only r w w1) (o : Obj) : Only r w (w1.alloc o) := h.ok ((Ok.refl _).alloc o)
theorem grow (h : Only r w w1) {row : Option Nat} (g : w1.grownBy w2 row) (hr : ∀ k, row = some k → k = r ∨ w.heap.size ≤ k) : Only r w w2 :=
  ⟨g.os.trans h.os, g.tape.trans h.tape, g.output.trans h.output, Nat.le_trans h.size g.size, fun i a b => (g.block i (Nat.lt_of_lt_of_le a h.size) (fun e => by have := hr i e.symm; omega)).trans (h.block i a b)⟩
theorem own (h : Only r w w1) {g : Nat} {cs : Array Value} (hO : Own w g cs) (h1 : g ≠ r) : Own w1 g cs := by
  have hl := hO.lt
  obtain ⟨t, ht⟩ := hO
  exact ⟨t, (h.block g hl h1).trans ht⟩
theorem cell (h : Only r w w1) {p : Addr} (h1 : p.block < w.heap.size) (h2 : p.block ≠ r) : w1.cell? p = w.cell? p := World.cell?_of_block (h.block _ h1 h2)
theorem cells (h : Only r w w1) {A : Option Addr} {cs : List Value} (hA : CellsAt w A cs) (hr : ∀ a, A = some a → a.block ≠ r) : CellsAt w1 A cs := fun j u hj => by
  obtain ⟨b, off, e, hlt, hc⟩ := hA j u hj
  exact ⟨b, off, e, Nat.lt_of_lt_of_le hlt h.size, (h.cell (p := ⟨b, off + j, none⟩) hlt (show b ≠ r from hr ⟨b, off, none⟩ e)).trans hc⟩
/-- What changes only a block of one's own changes nothing that came in. -/
theorem then_ok {w0 : World} (h0 : Ok w0 w) (h : Only r w w1) (hr : w0.heap.size ≤ r) : Ok w0 w1 :=
  ⟨h.os.trans h0.below.os, h.tape.trans h0.below.tape, h.output.trans h0.below.output, Nat.le_trans h0.size h.size, fun i hi => (h.block i (Nat.lt_of_lt_of_le hi h0.size) (by omega)).trans (h0.below.block i hi)⟩
end Only
/-- What waits in a ring at the cell o of a block, the first at the place f. -/
structure Ring (cs : Array Value) (o f : Nat) (l : List (ByteArray × Int)) : Prop where
  hf : f < 64
  hl : l.length ≤ 64
  hs : o + 130 ≤ cs.size
  first : cs[o + 128]? = some (.int .i64 (f : Nat))
  count : cs[o + 129]? = some (.int .i64 (l.length : Nat))
  text : ∀ i (h : i < l.length), cs[o + (f + i) % 64 * 2]? = some (.string l[i].1)
  age : ∀ i (h : i < l.length), cs[o + (f + i) % 64 * 2 + 1]? = some (.int .i64 l[i].2)
/-- All but the ring at o is as it was. -/
structure Aside (o : Nat) (cs cs' : Array Value) : Prop where
  size : cs'.size = cs.size
  far : ∀ k, k < o ∨ o + 130 ≤ k → cs'[k]? = cs[k]?
theorem set_at (cs : Array Value) (k j : Nat) (v : Value) (hk : k < cs.size) : (cs.set! k v)[j]? = if k = j then some v else cs[j]? := by
  rw [Array.set!_eq_setIfInBounds, Array.getElem?_setIfInBounds]
  by_cases h : k = j
  · subst h; simp [hk]
  · simp [h]
theorem set_same (cs : Array Value) (k : Nat) (v : Value) (hk : k < cs.size) : (cs.set! k v)[k]? = some v := by rw [set_at _ _ _ _ hk, if_pos rfl]
theorem set_else (cs : Array Value) {k j : Nat} (v : Value) (h : k ≠ j) : (cs.set! k v)[j]? = cs[j]? := by
  rw [Array.set!_eq_setIfInBounds, Array.getElem?_setIfInBounds]
  simp [h]
theorem set_size (cs : Array Value) (k : Nat) (v : Value) : (cs.set! k v).size = cs.size := by simp
namespace Aside
variable {o : Nat} {cs cs1 cs2 : Array Value}
theorem refl (o : Nat) (cs : Array Value) : Aside o cs cs := ⟨rfl, fun _ _ => rfl⟩
theorem trans (h : Aside o cs cs1) (k : Aside o cs1 cs2) : Aside o cs cs2 := ⟨k.size.trans h.size, fun i hi => (k.far i hi).trans (h.far i hi)⟩
theorem set (h : Aside o cs cs1) {k : Nat} (h1 : o ≤ k) (h2 : k < o + 130) (v : Value) : Aside o cs (cs1.set! k v) :=
  ⟨by rw [set_size]; exact h.size, fun i hi => by rw [set_else _ _ (by omega)]; exact h.far i hi⟩
theorem ring (h : Aside o cs cs1) {o' f : Nat} {l : List (ByteArray × Int)} (hR : Ring cs o' f l) (ho : o' + 130 ≤ o ∨ o + 130 ≤ o') : Ring cs1 o' f l := by
  obtain ⟨h1, h2, h3, h4, h5, h6, h7⟩ := hR
  refine ⟨h1, h2, by rw [h.size]; exact h3, (h.far _ (by omega)).trans h4, (h.far _ (by omega)).trans h5, fun i hi => ?_, fun i hi => ?_⟩
  · exact (h.far _ (by omega)).trans (h6 i hi)
  · exact (h.far _ (by omega)).trans (h7 i hi)
end Aside
namespace Ring
variable {cs : Array Value} {o f : Nat} {l : List (ByteArray × Int)}
/-- The first is taken out. -/
theorem pop {x : ByteArray × Int} (h : Ring cs o f (x :: l)) (u v : Value) :
    Ring ((((cs.set! (o + f * 2) u).set! (o + f * 2 + 1) v).set! (o + 128) (.int .i64 (((f + 1) % 64 : Nat) : Int))).set! (o + 129) (.int .i64 (l.length : Nat))) o ((f + 1) % 64) l := by
  obtain ⟨h1, h2, h3, h4, h5, h6, h7⟩ := h
  simp only [List.length_cons] at h2
  refine ⟨Nat.mod_lt _ (by decide), by omega, by simp only [set_size]; exact h3, ?_, ?_, fun i hi => ?_, fun i hi => ?_⟩
  · rw [set_else _ _ (by omega), set_same _ _ _ (by simp only [set_size]; omega)]
  · rw [set_same _ _ _ (by simp only [set_size]; omega)]
  · have := h6 (i + 1) (by simpa using hi)
    rw [set_else _ _ (by omega), set_else _ _ (by omega), set_else _ _ (by omega), set_else _ _ (by omega), show ((f + 1) % 64 + i) % 64 = (f + (i + 1)) % 64 by omega, this]
    rfl
  · have := h7 (i + 1) (by simpa using hi)
    rw [set_else _ _ (by omega), set_else _ _ (by omega), set_else _ _ (by omega), set_else _ _ (by omega), show ((f + 1) % 64 + i) % 64 = (f + (i + 1)) % 64 by omega, this]
    rfl
theorem pop_aside (cs : Array Value) (o f : Nat) (hf : f < 64) (a b u v : Value) : Aside o cs ((((cs.set! (o + f * 2) u).set! (o + f * 2 + 1) v).set! (o + 128) a).set! (o + 129) b) :=
  ((((Aside.refl o cs).set (by omega) (by omega) _).set (by omega) (by omega) _).set (by omega) (by omega) _).set (by omega) (by omega) _
/-- One more waits. -/
theorem push (h : Ring cs o f l) (hl : l.length < 64) (s : ByteArray) :
    Ring (((cs.set! (o + (f + l.length) % 64 * 2) (.string s)).set! (o + (f + l.length) % 64 * 2 + 1) (.int .i64 0)).set! (o + 129) (.int .i64 ((l.length + 1 : Nat) : Int))) o f (l ++ [(s, 0)]) := by
  obtain ⟨h1, h2, h3, h4, h5, h6, h7⟩ := h
  refine ⟨h1, by simp; omega, by simp only [set_size]; exact h3, ?_, ?_, fun i hi => ?_, fun i hi => ?_⟩
  · rw [set_else _ _ (by omega), set_else _ _ (by omega), set_else _ _ (by omega), h4]
  · rw [set_same _ _ _ (by simp only [set_size]; omega)]; simp
  · simp only [List.length_append, List.length_cons, List.length_nil] at hi
    by_cases e : i = l.length
    · subst e
      rw [set_else _ _ (by omega), set_else _ _ (by omega), set_same _ _ _ (by omega)]
      simp
    · rw [set_else _ _ (by omega), set_else _ _ (by omega), set_else _ _ (by omega), h6 i (by omega)]
      simp [List.getElem_append_left (show i < l.length by omega)]
  · simp only [List.length_append, List.length_cons, List.length_nil] at hi
    by_cases e : i = l.length
    · subst e
      rw [set_else _ _ (by omega), set_same _ _ _ (by simp only [set_size]; omega)]
      simp
    · rw [set_else _ _ (by omega), set_else _ _ (by omega), set_else _ _ (by omega), h7 i (by omega)]
      simp [List.getElem_append_left (show i < l.length by omega)]
theorem push_aside (cs : Array Value) (o f n : Nat) (a u v : Value) : Aside o cs (((cs.set! (o + (f + n) % 64 * 2) u).set! (o + (f + n) % 64 * 2 + 1) v).set! (o + 129) a) :=
  (((Aside.refl o cs).set (by omega) (by omega) _).set (by omega) (by omega) _).set (by omega) (by omega) _
/-- One is older. -/
theorem older (h : Ring cs o f l) (k : Nat) (hk : k < l.length) (a : Int) :
    Ring (cs.set! (o + (f + k) % 64 * 2 + 1) (.int .i64 a)) o f (l.set k (l[k].1, a)) := by
  obtain ⟨h1, h2, h3, h4, h5, h6, h7⟩ := h
  refine ⟨h1, by simpa using h2, by simp only [set_size]; exact h3, ?_, ?_, fun i hi => ?_, fun i hi => ?_⟩
  · rw [set_else _ _ (by omega), h4]
  · rw [set_else _ _ (by omega), h5]; simp
  · simp only [List.length_set] at hi
    rw [set_else _ _ (by omega), h6 i hi, List.getElem_set]
    by_cases e : k = i
    · subst e; simp
    · simp [e]
  · simp only [List.length_set] at hi
    by_cases e : k = i
    · subst e
      rw [set_same _ _ _ (by omega)]
      simp
    · rw [set_else _ _ (by omega), h7 i hi, List.getElem_set]
      simp [e]
end Ring
/-- 48 rings. -/
structure Laid (cs : Array Value) (q : Nat → List (ByteArray × Int)) : Prop where
  size : cs.size = 6240
  ring : ∀ w, w < 48 → ∃ f, Ring cs (w * 130) f (q w)
theorem Laid.turn {cs cs' : Array Value} {q : Nat → List (ByteArray × Int)} (h : Laid cs q) (w : Nat) {l : List (ByteArray × Int)} (hA : Aside (w * 130) cs cs') (hR : ∃ f, Ring cs' (w * 130) f l) : Laid cs' (fun k => if k = w then l else q k) := by
  refine ⟨hA.size.trans h.size, fun k hk => ?_⟩
  by_cases e : k = w
  · subst e; rw [if_pos rfl]; exact hR
  · rw [if_neg e]
    obtain ⟨f, hf⟩ := h.ring k hk
    exact ⟨f, hA.ring hf (by omega)⟩
theorem Laid.congr {cs : Array Value} {q q' : Nat → List (ByteArray × Int)} (h : Laid cs q) (e : ∀ k, k < 48 → q' k = q k) : Laid cs q' := ⟨h.size, fun k hk => by rw [e k hk]; exact h.ring k hk⟩
/-- In block g are lanes, in which waits what q says. -/
def LanesAt (w : World) (g : Nat) (q : Nat → List (ByteArray × Int)) : Prop := ∃ cs, Own w g cs ∧ Laid cs q
namespace LanesAt
variable {w w1 : World} {g r : Nat} {q q' : Nat → List (ByteArray × Int)}
theorem next (h : LanesAt w g q) (k : Ok w w1) : LanesAt w1 g q := by
  obtain ⟨cs, hO, hL⟩ := h
  exact ⟨cs, hO.next k, hL⟩
theorem only (h : LanesAt w g q) (k : Only r w w1) (hr : g ≠ r) : LanesAt w1 g q := by
  obtain ⟨cs, hO, hL⟩ := h
  exact ⟨cs, k.own hO hr, hL⟩
theorem congr (h : LanesAt w g q) (e : ∀ k, k < 48 → q' k = q k) : LanesAt w g q' := by
  obtain ⟨cs, hO, hL⟩ := h
  exact ⟨cs, hO, hL.congr e⟩
theorem lt (h : LanesAt w g q) : g < w.heap.size := by
  obtain ⟨cs, hO, _⟩ := h
  exact hO.lt
end LanesAt
end Go.Proofs.YtmmiboblofopgaaGreat

/- A Front in a block: its numbers and its state. -/
namespace Go.Proofs.YtmmiboblofopgaaGreat
open Go.RowKit
set_option linter.unusedVariables false
set_option maxRecDepth 100000
/-- A Front's cells, and what lies behind them in its block (R: a gateway's, a node's own fields). -/
def frontCellsR (R : List Value) (p : Par) (s : Sta) (A : Option Addr) (cap : Nat) : Array Value := ([.int .i64 p.n, .int .i64 p.f, .int .i64 p.d, .int .i64 p.beat, .int .i64 p.rho, .int .i64 p.delay, .int .i64 p.jit, .int .i64 p.eps, .int .i64 p.mu, .int .i64 p.hold, .int .i64 p.pulse, .int .i64 p.sec, .int .i64 s.lo, .int .i64 s.hi, .int .i64 s.time, .bool s.set, .int .i64 s.held, .int .i64 s.hops, .bool s.good, .slice A s.table.length cap, .int .i64 s.st, .int .i64 s.sn, .int .i64 s.life] ++ R : List Value).toArray
abbrev frontCells (p : Par) (s : Sta) (A : Option Addr) (cap : Nat) : Array Value := frontCellsR [] p s A cap
theorem Own.atL {W : World} {g : Nat} {l : List Value} (h : Own W g l.toArray) (k : Nat) {v : Value} (hv : l[k]? = some v) : W.cell? ⟨g, k, none⟩ = some v := h.cell k (by rw [List.getElem?_toArray]; exact hv)
/-- The numbers' cells. -/
theorem Own.frP {R : List Value} {W : World} {g : Nat} {p : Par} {s : Sta} {A : Option Addr} {cap : Nat} (h : Own W g (frontCellsR R p s A cap)) : W.cell? ⟨g, 0, none⟩ = some (.int .i64 p.n) ∧ W.cell? ⟨g, 1, none⟩ = some (.int .i64 p.f) ∧ W.cell? ⟨g, 2, none⟩ = some (.int .i64 p.d) ∧ W.cell? ⟨g, 3, none⟩ = some (.int .i64 p.beat) ∧ W.cell? ⟨g, 4, none⟩ = some (.int .i64 p.rho) ∧ W.cell? ⟨g, 5, none⟩ = some (.int .i64 p.delay) ∧ W.cell? ⟨g, 6, none⟩ = some (.int .i64 p.jit) ∧ W.cell? ⟨g, 7, none⟩ = some (.int .i64 p.eps) ∧ W.cell? ⟨g, 8, none⟩ = some (.int .i64 p.mu) ∧ W.cell? ⟨g, 9, none⟩ = some (.int .i64 p.hold) ∧ W.cell? ⟨g, 10, none⟩ = some (.int .i64 p.pulse) ∧ W.cell? ⟨g, 11, none⟩ = some (.int .i64 p.sec) := ⟨h.atL 0 rfl, h.atL 1 rfl, h.atL 2 rfl, h.atL 3 rfl, h.atL 4 rfl, h.atL 5 rfl, h.atL 6 rfl, h.atL 7 rfl, h.atL 8 rfl, h.atL 9 rfl, h.atL 10 rfl, h.atL 11 rfl⟩
/-- The state's cells. -/
theorem Own.frS {R : List Value} {W : World} {g : Nat} {p : Par} {s : Sta} {A : Option Addr} {cap : Nat} (h : Own W g (frontCellsR R p s A cap)) : W.cell? ⟨g, 12, none⟩ = some (.int .i64 s.lo) ∧ W.cell? ⟨g, 13, none⟩ = some (.int .i64 s.hi) ∧ W.cell? ⟨g, 14, none⟩ = some (.int .i64 s.time) ∧ W.cell? ⟨g, 15, none⟩ = some (.bool s.set) ∧ W.cell? ⟨g, 16, none⟩ = some (.int .i64 s.held) ∧ W.cell? ⟨g, 17, none⟩ = some (.int .i64 s.hops) ∧ W.cell? ⟨g, 18, none⟩ = some (.bool s.good) ∧ W.cell? ⟨g, 19, none⟩ = some (.slice A s.table.length cap) ∧ W.cell? ⟨g, 20, none⟩ = some (.int .i64 s.st) ∧ W.cell? ⟨g, 21, none⟩ = some (.int .i64 s.sn) ∧ W.cell? ⟨g, 22, none⟩ = some (.int .i64 s.life) := ⟨h.atL 12 rfl, h.atL 13 rfl, h.atL 14 rfl, h.atL 15 rfl, h.atL 16 rfl, h.atL 17 rfl, h.atL 18 rfl, h.atL 19 rfl, h.atL 20 rfl, h.atL 21 rfl, h.atL 22 rfl⟩
theorem PairsOf.only {K r : Nat} {w w1 : World} {A : Option Addr} {l : List (Int × Int)} (h : PairsOf K w A l) (k : Only r w w1) (hr : r < K) : PairsOf K w1 A l := ⟨fun j hj => by
  obtain ⟨b, off, e, hlt, hc, hd⟩ := h.1 j hj
  have hb : b ≠ r := by have : K ≤ b := h.2 _ e; omega
  exact ⟨b, off, e, Nat.lt_of_lt_of_le hlt k.size, (k.cell (p := ⟨b, off + j * 2, none⟩) hlt hb).trans hc, (k.cell (p := ⟨b, off + j * 2 + 1, none⟩) hlt hb).trans hd⟩, h.2⟩
theorem only_set11 {r : Nat} {w W : World} {g : Nat} (h : Only r w W) (hg : g = r ∨ w.heap.size ≤ g) (s : Sta) (A : Option Addr) (cap : Nat) : Only r w (((((((((((W.setCell ⟨g, 0, none⟩ (.int .i64 s.lo)).setCell ⟨g, 1, none⟩ (.int .i64 s.hi)).setCell ⟨g, 2, none⟩ (.int .i64 s.time)).setCell ⟨g, 3, none⟩ (.bool s.set)).setCell ⟨g, 4, none⟩ (.int .i64 s.held)).setCell ⟨g, 5, none⟩ (.int .i64 s.hops)).setCell ⟨g, 6, none⟩ (.bool s.good)).setCell ⟨g, 7, none⟩ (.slice A s.table.length cap)).setCell ⟨g, 8, none⟩ (.int .i64 s.st)).setCell ⟨g, 9, none⟩ (.int .i64 s.sn)).setCell ⟨g, 10, none⟩ (.int .i64 s.life)) := (((((((((((h.set (a := ⟨g, 0, none⟩) hg (.int .i64 s.lo)).set (a := ⟨g, 1, none⟩) hg (.int .i64 s.hi)).set (a := ⟨g, 2, none⟩) hg (.int .i64 s.time)).set (a := ⟨g, 3, none⟩) hg (.bool s.set)).set (a := ⟨g, 4, none⟩) hg (.int .i64 s.held)).set (a := ⟨g, 5, none⟩) hg (.int .i64 s.hops)).set (a := ⟨g, 6, none⟩) hg (.bool s.good)).set (a := ⟨g, 7, none⟩) hg (.slice A s.table.length cap)).set (a := ⟨g, 8, none⟩) hg (.int .i64 s.st)).set (a := ⟨g, 9, none⟩) hg (.int .i64 s.sn)).set (a := ⟨g, 10, none⟩) hg (.int .i64 s.life))
/-- The numbers that may be, of the law's `some`. -/
def par21 : Par := ⟨4, 1, 2, 1000, 1, 100, 10, 50, 20, 5, 5000, 1000⟩
end Go.Proofs.YtmmiboblofopgaaGreat

/- What the program's calls of layer 21 do. -/
namespace Go.Proofs.YtmmiboblofopgaaGreat
open Go.RowKit
set_option linter.unusedVariables false
structure FrontDoes : Prop where
  healthSane : ∀ (p : Par) (s : Sta) (A : Option Addr) (cap : Nat) (w : World) (hA : PairsAt w A s.table) (hl : s.table.length ≤ 9223372036854775807), Calls Tryz.prog 23 #[parV p, staV s A cap] w (StaEnd w (Health.sane p s))
  healthOf : ∀ (p : Par) (s : Sta) (A : Option Addr) (cap : Nat) (w : World), Calls Tryz.prog 22 #[parV p, staV s A cap] w fun e w' => e = .returned (.int .i64 (Health.of p s)) ∧ Ok w w'
  healthFar : ∀ (p : Par) (held : Int) (w : World), Calls Tryz.prog 113 #[parV p, .int .i64 held] w fun e w' => e = .returned (.int .i64 (Health.far p held)) ∧ Ok w w'
  frontHealth : ∀ (R : List Value) (g : Nat) (p : Par) (s : Sta) (A : Option Addr) (cap : Nat) (w : World) (h : Own w g (frontCellsR R p s A cap)), Calls Tryz.prog 21 #[.pointer (some ⟨g, 0, none⟩)] w fun e w' => e = .returned (.int .i64 (Health.of p s)) ∧ Ok w w'
  frontNow : ∀ (R : List Value) (g : Nat) (p : Par) (s : Sta) (A : Option Addr) (cap : Nat) (w : World) (h : Own w g (frontCellsR R p s A cap)), Calls Tryz.prog 26 #[.pointer (some ⟨g, 0, none⟩)] w fun e w' => e = .returned (.tuple #[.int .i64 (if Health.of p s = 0 then 0 else s.time), .int .i64 (if Health.of p s = 0 then 20 else 0)]) ∧ Ok w w'
  frontStamp : ∀ (R : List Value) (g : Nat) (p : Par) (s : Sta) (A : Option Addr) (cap : Nat) (w : World) (h : Own w g (frontCellsR R p s A cap)), Calls Tryz.prog 50 #[.pointer (some ⟨g, 0, none⟩)] w fun e w' => e = .returned (.tuple #[stV (Hlc.tick (s.st, s.sn) s.time), .int .i64 0]) ∧ Own w' g (frontCellsR R p (Health.stamped s) A cap) ∧ Only g w w'
  frontStep : ∀ (R : List Value) (g : Nat) (p : Par) (s : Sta) (A : Option Addr) (cap : Nat) (ticks : Int) (u : Sta) (C : Option Addr) (cup : Nat) (w : World) (h : Own w g (frontCellsR R p s A cap)) (hC : PairsAt w C u.table) (hl : u.table.length ≤ 9223372036854775807), Calls Tryz.prog 40 #[.pointer (some ⟨g, 0, none⟩), .int .i64 ticks, staV u C cup] w fun e w' => e = .returned (.tuple #[]) ∧ ∃ (A2 : Option Addr) (c2 : Nat), Own w' g (frontCellsR R p (Health.step p s ticks u) A2 c2) ∧ PairsOf w.heap.size w' A2 (Health.step p s ticks u).table ∧ Only g w w'
end Go.Proofs.YtmmiboblofopgaaGreat

/- Contracts of layer 21: what the law asks first. -/
namespace Go.Proofs.YtmmiboblofopgaaGreat
open Go.RowKit
set_option linter.unusedVariables false
set_option maxRecDepth 100000
attribute [local go_sem ↓] Go.wp_at_zero Go.wp_at_succ
def sta21 : Sta := ⟨900, 1100, 0, false, 0, 0, true, [], 0, 0, 0⟩
end Go.Proofs.YtmmiboblofopgaaGreat
