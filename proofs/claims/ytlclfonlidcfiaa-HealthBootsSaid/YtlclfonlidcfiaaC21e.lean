/- Contracts of layer 21: the document's Step. -/
import Derived.Test.YtlclfonlidcfiaaC21d
import Derived.Test.YtlclfonlidcfiaaC12b
namespace Go.Proofs.Ytlclfonlidcfiaa
open Go.RowKit
set_option linter.unusedVariables false
set_option maxRecDepth 100000
attribute [local go_sem ↓] Go.wp_at_zero Go.wp_at_succ
/-- What each operation leaves. -/
def VME21F (B M N : Nat) (p : Par) (s L : Sta) (A2 : Option Addr) (cap2 : Nat) (m : Int) (fr : Bool) (w : World) (v : Value) : Nat → Prop
  | 0 => v = .agg #[.int .i64 s.st, .int .i64 s.sn]
  | 1 => v = .bool false
  | 2 => v = .bool true
  | 3 => v = .bool true
  | 4 => v = undef
  | 5 => v = undef
  | 6 => v = undef
  | 7 => v = undef
  | 8 => v = undef
  | 9 => v = undef
  | 10 => v = .bool true
  | 11 => v = .bool true
  | _ => v = .bool true
/-- It stays so. -/
def VCE21F (B M N : Nat) (p : Par) (s L : Sta) (A2 : Option Addr) (cap2 : Nat) (m : Int) (fr : Bool) (i : Nat) (v : Value) (w : World) : Prop := ∀ w', Ok w w' → VME21F B M N p s L A2 cap2 m true w' v i
/-- What each operation leaves. -/
def VME21T (B M N : Nat) (p : Par) (s L : Sta) (A2 : Option Addr) (cap2 : Nat) (m : Int) (fr : Bool) (w : World) (v : Value) : Nat → Prop
  | 0 => v = .agg #[.int .i64 s.st, .int .i64 s.sn]
  | 1 => v = .bool true
  | 2 => v = .bool false
  | 3 => v = .bool false
  | 4 => v = .pointer (some ⟨M, 0, none⟩)
  | 5 => v = .int .i64 s.st
  | 6 => v = parV p
  | 7 => v = .agg #[.int .i64 L.lo, .int .i64 L.hi, .int .i64 L.time, .bool L.set, .int .i64 L.held, .int .i64 L.hops, .bool L.good, .slice A2 L.table.length cap2, .int .i64 L.st, .int .i64 L.sn, .int .i64 L.life]
  | 8 => v = .int .i64 m
  | 9 => v = .bool fr
  | 10 => v = .bool fr
  | 11 => v = .bool fr
  | _ => v = .bool true
/-- It stays so. -/
def VCE21T (B M N : Nat) (p : Par) (s L : Sta) (A2 : Option Addr) (cap2 : Nat) (m : Int) (fr : Bool) (i : Nat) (v : Value) (w : World) : Prop := ∀ w', Ok w w' → VME21T B M N p s L A2 cap2 m fr w' v i
set_option maxHeartbeats 6400000 in
theorem ref21Step (p : Par) (s : Sta) (A : Option Addr) (cap : Nat) (ticks : Int) (u : Sta) (C : Option Addr) (cup : Nat) (w : World) (hC : PairsAt w C u.table) (hl : u.table.length ≤ 9223372036854775807) : Calls Try.prog 19 #[parV p, staV s A cap, .int .i64 ticks, staV u C cup] w (StaEnd w (Health.step p s ticks u)) := by
  obtain ⟨tm, htm⟩ : ∃ r, Health.mid u.lo u.hi = r := ⟨_, rfl⟩
  obtain ⟨sl, hsl⟩ : ∃ r, Slew.step p s.time ticks tm = r := ⟨_, rfl⟩
  obtain ⟨jm, hjm⟩ : ∃ r, Health.jumps p s ticks u = r := ⟨_, rfl⟩
  obtain ⟨jj, hjj⟩ : ∃ r, (jm || !s.set) = r := ⟨_, rfl⟩
  obtain ⟨cc, hcc⟩ : ∃ r, Sat.clip tm = r := ⟨_, rfl⟩
  obtain ⟨CK, hCK⟩ : ∃ r, (if jj = true then cc else sl) = r := ⟨_, rfl⟩
  have hck : Health.clock p s ticks u = CK := by
    unfold Health.clock
    rw [htm, hsl, hcc, hjm, ← hCK, ← hjj]
    cases jm <;> cases s.set <;> rfl
  obtain ⟨t, ht⟩ : ∃ r, Health.sane p u = r := ⟨_, rfl⟩
  obtain ⟨LF, hLF⟩ : ∃ r, Sat.bound s.life 0 2305843009213693952 = r := ⟨_, rfl⟩
  obtain ⟨L, hL⟩ : ∃ L : Sta, ({ t with time := CK, set := true, life := LF } : Sta) = L := ⟨_, rfl⟩
  have hled : Health.led p s ticks u = L := by
    unfold Health.led
    rw [hck, ht, ← hL, ← hLF]
    rfl
  obtain ⟨m, hm⟩ : ∃ r, Health.most p L = r := ⟨_, rfl⟩
  obtain ⟨rr, hrr⟩ : ∃ r, Hlc.right (s.st, s.sn) = r := ⟨_, rfl⟩
  obtain ⟨fr, hfr⟩ : ∃ r, decide (rr = false ∨ m < s.st) = r := ⟨_, rfl⟩
  obtain ⟨cx, hcx⟩ : ∃ r, Sat.clip CK = r := ⟨_, rfl⟩
  obtain ⟨⟨t1, t2⟩, htt⟩ : ∃ r, (if fr = true then (cx, 0) else (s.st, s.sn)) = r := ⟨_, rfl⟩
  obtain ⟨⟨k1, k2⟩, hkk⟩ : ∃ r, Hlc.tick (t1, t2) CK = r := ⟨_, rfl⟩
  obtain ⟨l1, hl1⟩ : ∃ r, Sat.sum [LF, 1] = r := ⟨_, rfl⟩
  obtain ⟨l2, hl2⟩ : ∃ r, Sat.bound l1 0 2305843009213693952 = r := ⟨_, rfl⟩
  obtain ⟨LV, hLV⟩ : ∃ r, (if fr = true ∨ CK < s.time then l2 else LF) = r := ⟨_, rfl⟩
  obtain ⟨Y, hY⟩ : ∃ Y : Sta, ({ L with st := k1, sn := k2, life := LV } : Sta) = Y := ⟨_, rfl⟩
  obtain ⟨Q, hQ⟩ : ∃ Q : Sta, ({ L with st := k1, sn := k2 } : Sta) = Q := ⟨_, rfl⟩
  have hQl : Q.life = LF := by rw [← hQ, ← hL]
  obtain ⟨g2, hg2⟩ : ∃ r, (fr || decide (CK < s.time)) = r := ⟨_, rfl⟩
  have hLV2 : (if g2 = true then l2 else LF) = LV := by rw [← hLV, ← hg2]; cases fr <;> simp
  have hY2 : ({ Q with life := LV } : Sta) = Y := by rw [← hQ, ← hY]
  have hYt : Y.table = t.table := by rw [← hY, ← hL]
  have han : Health.anew m (s.st, s.sn) = fr := by
    unfold Health.anew
    rw [hrr, hfr]
  have hst : Health.step p s ticks u = Y := by
    unfold Health.step Health.mark Health.lives
    rw [hled, hck, hm, han, hcx, htt, hkk, show Health.life s.life = LF from hLF, hl1, show Health.life l1 = l2 from hl2, hLV, ← hY]
  rw [hst]
  have KM := Lib.hid fun w => ref3Mid u.lo u.hi w
  rw [show (Sat.clip u.lo + Sat.clip u.hi) / 2 = tm from htm] at KM
  have KL := Lib.hid fun w => ref12Step p s.time ticks tm w
  rw [hsl] at KL
  have KJ := Lib.hid fun w => ref21Jumps p s A cap ticks u C cup w
  rw [hjm] at KJ
  have KC := Lib.hid fun w => refClip tm w
  rw [hcc] at KC
  have KS := Lib.hid (show ∀ w, PairsAt w C u.table → Calls Try.prog 13 #[parV p, staV u C cup] w (fun e w' => ∃ (A2 : Option Addr) (cap2 : Nat), e = .returned (.agg #[.int .i64 t.lo, .int .i64 t.hi, .int .i64 t.time, .bool t.set, .int .i64 t.held, .int .i64 t.hops, .bool t.good, .slice A2 t.table.length cap2, .int .i64 t.st, .int .i64 t.sn, .int .i64 t.life]) ∧ PairsOf w.heap.size w' A2 t.table ∧ Ok w w') from fun w h => by
    have k := ref21Sane p u C cup w h hl
    rw [ht] at k
    exact k)
  have KB := Lib.hid fun w => refBound s.life 0 2305843009213693952 w
  rw [hLF] at KB
  have KR := Lib.hid fun w => ref20Right (s.st, s.sn) w
  rw [hrr] at KR
  have KO := Lib.hid fun A cap w => ref21most p L A cap w
  rw [hm] at KO
  have KC2 := Lib.hid fun w => refClip CK w
  rw [hcx] at KC2
  have KT := Lib.hid fun w => ref20Tick (t1, t2) CK w
  rw [hkk] at KT
  have KA := Lib.hid fun w A h => refAdd A [LF, 1] 2 w h (by simp)
  rw [hl1] at KA
  have KB2 := Lib.hid fun w => refBound l1 0 2305843009213693952 w
  rw [hl2] at KB2
  have HJ := Lib.hid hjj
  have HCK := Lib.hid hCK
  have HL := Lib.hid hL
  have HFR := Lib.hid hfr
  have HTT := Lib.hid htt
  have HLV2 := Lib.hid hLV2
  have HY2 := Lib.hid hY2
  have HYT := Lib.hid hYt
  have HQ := Lib.hid hQ
  have HQL := Lib.hid hQl
  have HG2 := Lib.hid hg2
  have HC := Lib.hid hC
  clear hC hl hst han hYt hY2 hLV2 hg2 hQl hQ hY hLV hl2 hl1 hkk htt hcx hfr hrr hm hled hL hLF ht hck hCK hcc hjj hjm hsl htm
  have hP := (Own.new w (parCells p) 23 rfl).next ((((Ok.refl _).alloc (.cells (staCells s A cap) 30)).alloc (.cells (staCells u C cup) 30)).alloc (.cells (staCells zeroSta none 0) 30))
  have hS := (Own.new (w.alloc (.cells (parCells p) 23)) (staCells s A cap) 30 (g := w.heap.size + 1) (by simp)).next (((Ok.refl _).alloc (.cells (staCells u C cup) 30)).alloc (.cells (staCells zeroSta none 0) 30))
  have hU := (Own.new ((w.alloc (.cells (parCells p) 23)).alloc (.cells (staCells s A cap) 30)) (staCells u C cup) 30 (g := w.heap.size + 1 + 1) (by simp)).alloc (.cells (staCells zeroSta none 0) 30)
  have hZ := Own.new (((w.alloc (.cells (parCells p) 23)).alloc (.cells (staCells s A cap) 30)).alloc (.cells (staCells u C cup) 30)) (staCells zeroSta none 0) 30 (g := w.heap.size + 1 + 1 + 1) (by simp)
  have hok := ((((Ok.refl w).alloc (.cells (parCells p) 23)).alloc (.cells (staCells s A cap) 30)).alloc (.cells (staCells u C cup) 30)).alloc (.cells (staCells zeroSta none 0) 30)
  go_enter Try.func19, Try.ntmps19
  go_upto_region 1 with fail
  change Code.wp _ _ _ _ ((((w.alloc (.cells (parCells p) 23)).alloc (.cells (staCells s A cap) 30)).alloc (.cells (staCells u C cup) 30)).alloc (.cells (staCells zeroSta none 0) 30))
  generalize ((((w.alloc (.cells (parCells p) 23)).alloc (.cells (staCells s A cap) 30)).alloc (.cells (staCells u C cup) 30)).alloc (.cells (staCells zeroSta none 0) 30)) = W at hP hS hU hZ hok ⊢
  obtain ⟨Z, hZe⟩ : ∃ r, w.heap.size + 1 + 1 + 1 = r := ⟨_, rfl⟩
  obtain ⟨G, hG⟩ : ∃ r, w.heap.size + 1 + 1 = r := ⟨_, rfl⟩
  obtain ⟨H, hH⟩ : ∃ r, w.heap.size + 1 = r := ⟨_, rfl⟩
  obtain ⟨B, hB⟩ : ∃ r, w.heap.size = r := ⟨_, rfl⟩
  have hwZ : w.heap.size ≤ Z := by omega
  have hBZ : B < Z := by omega
  have hHZ : H < Z := by omega
  have hGZ : G < Z := by omega
  rw [hZe] at hZ
  rw [hG] at hU
  rw [hH] at hS
  rw [hB] at hP
  rw [hZe, hG, hH, hB]
  clear hZe hG hH hB
  obtain ⟨c0, c1, c2, c3, c4, c5, c6, c7, c8, c9, c10, c11⟩ := hP.pars; have hPl := hP.lt; obtain ⟨s0, s1, s2, s3, s4, s5, s6, s7, s8, s9, s10⟩ := hS.sta; have hSl := hS.lt; obtain ⟨y0, y1, y2, y3, y4, y5, y6, y7, y8, y9, y10⟩ := hU.sta; have hUl := hU.lt
  go_upto_region 3 with (first | (go_at_call 57; refine (KM.out _).mono ?_; rintro e w2 ⟨rfl, hb1⟩; clear c0 c1 c2 c3 c4 c5 c6 c7 c8 c9 c10 c11 hPl s0 s1 s2 s3 s4 s5 s6 s7 s8 s9 s10 hSl y0 y1 y2 y3 y4 y5 y6 y7 y8 y9 y10 hUl; replace hP := hP.next hb1; replace hS := hS.next hb1; replace hU := hU.next hb1; replace hZ := hZ.next hb1; replace hok := hok.trans hb1; clear hb1; obtain ⟨c0, c1, c2, c3, c4, c5, c6, c7, c8, c9, c10, c11⟩ := hP.pars; have hPl := hP.lt; obtain ⟨s0, s1, s2, s3, s4, s5, s6, s7, s8, s9, s10⟩ := hS.sta; have hSl := hS.lt; obtain ⟨y0, y1, y2, y3, y4, y5, y6, y7, y8, y9, y10⟩ := hU.sta; have hUl := hU.lt) | (go_at_call 58; refine (KL.out _).mono ?_; rintro e w3 ⟨rfl, hb1⟩; clear c0 c1 c2 c3 c4 c5 c6 c7 c8 c9 c10 c11 hPl s0 s1 s2 s3 s4 s5 s6 s7 s8 s9 s10 hSl y0 y1 y2 y3 y4 y5 y6 y7 y8 y9 y10 hUl; replace hP := hP.next hb1; replace hS := hS.next hb1; replace hU := hU.next hb1; replace hZ := hZ.next hb1; replace hok := hok.trans hb1; clear hb1; obtain ⟨c0, c1, c2, c3, c4, c5, c6, c7, c8, c9, c10, c11⟩ := hP.pars; have hPl := hP.lt; obtain ⟨s0, s1, s2, s3, s4, s5, s6, s7, s8, s9, s10⟩ := hS.sta; have hSl := hS.lt; obtain ⟨y0, y1, y2, y3, y4, y5, y6, y7, y8, y9, y10⟩ := hU.sta; have hUl := hU.lt))
  go_cut [32] from 23 to 32 (fun v wx => v = .bool jj ∧ Own wx B (parCells p) ∧ Own wx H (staCells s A cap) ∧ Own wx G (staCells u C cup) ∧ Own wx Z (staCells zeroSta none 0) ∧ Ok w wx)
  case first =>
    cases jm with
    | true =>
      have hj := HJ.out
      clear HJ
      go_wp2_with (go_at_call 59; refine (KJ.out _).mono ?_; rintro e w4 ⟨rfl, hb1⟩; clear c0 c1 c2 c3 c4 c5 c6 c7 c8 c9 c10 c11 hPl s0 s1 s2 s3 s4 s5 s6 s7 s8 s9 s10 hSl y0 y1 y2 y3 y4 y5 y6 y7 y8 y9 y10 hUl; replace hP := hP.next hb1; replace hS := hS.next hb1; replace hU := hU.next hb1; replace hZ := hZ.next hb1; replace hok := hok.trans hb1; clear hb1)
      go_meet
      exact ⟨by rw [← hj]; rfl, hP, hS, hU, hZ, hok⟩
    | false =>
      have HJ2 := Lib.hid HJ.out
      clear HJ
      go_wp2_with (go_at_call 59; refine (KJ.out _).mono ?_; rintro e w4 ⟨rfl, hb1⟩; clear c0 c1 c2 c3 c4 c5 c6 c7 c8 c9 c10 c11 hPl s0 s1 s2 s3 s4 s5 s6 s7 s8 s9 s10 hSl y0 y1 y2 y3 y4 y5 y6 y7 y8 y9 y10 hUl; replace hP := hP.next hb1; replace hS := hS.next hb1; replace hU := hU.next hb1; replace hZ := hZ.next hb1; replace hok := hok.trans hb1; clear hb1; obtain ⟨s0, s1, s2, s3, s4, s5, s6, s7, s8, s9, s10⟩ := hS.sta; have hSl := hS.lt)
      go_meet
      exact ⟨by rw [← HJ2.out]; rfl, hP, hS, hU, hZ, hok⟩
  case rest =>
  clear c0 c1 c2 c3 c4 c5 c6 c7 c8 c9 c10 c11 hPl s0 s1 s2 s3 s4 s5 s6 s7 s8 s9 s10 hSl y0 y1 y2 y3 y4 y5 y6 y7 y8 y9 y10 hUl
  clear hP hS hU hZ hok
  obtain ⟨rfl, hP, hS, hU, hZ, hok⟩ := hcut
  go_upto_if 32 with fail
  go_cut [10] from 33 to 34 (fun v wx => v = .int .i64 CK ∧ Own wx B (parCells p) ∧ Own wx H (staCells s A cap) ∧ Own wx G (staCells u C cup) ∧ Own wx Z (staCells zeroSta none 0) ∧ Ok w wx)
  case first =>
    cases jj with
    | true =>
      obtain rfl : CK = cc := HCK.out.symm.trans (if_pos rfl)
      go_wp2_with (go_at_call 42; refine (KC.out _).mono ?_; rintro e w5 ⟨rfl, rfl⟩)
      go_meet
      exact ⟨rfl, hP, hS, hU, hZ, hok⟩
    | false =>
      obtain rfl : CK = sl := HCK.out.symm.trans (if_neg (by decide))
      go_wp2_with fail
      go_meet
      exact ⟨rfl, hP, hS, hU, hZ, hok⟩
  case rest =>
  clear hP hS hU hZ hok
  obtain ⟨rfl, hP, hS, hU, hZ, hok⟩ := hcut
  obtain ⟨c0, c1, c2, c3, c4, c5, c6, c7, c8, c9, c10, c11⟩ := hP.pars; have hPl := hP.lt
  obtain ⟨y0, y1, y2, y3, y4, y5, y6, y7, y8, y9, y10⟩ := hU.sta; have hUl := hU.lt
  have hZK := hZ.lt
  have hwK := hok.size
  go_upto_region 6 with (go_at_call 13; refine (KS.out _ (HC.out.below hok)).mono ?_; rintro e w6 ⟨A2, cap2, rfl, hPA, hb1⟩; clear c0 c1 c2 c3 c4 c5 c6 c7 c8 c9 c10 c11 hPl y0 y1 y2 y3 y4 y5 y6 y7 y8 y9 y10 hUl; replace hP := hP.next hb1; replace hS := hS.next hb1; replace hU := hU.next hb1; replace hZ := hZ.next hb1; replace hok := hok.trans hb1; clear hb1)
  obtain ⟨K, hwK, hZK, hPA⟩ : ∃ K, w.heap.size ≤ K ∧ Z < K ∧ PairsOf K w6 A2 t.table := ⟨_, hwK, hZK, hPA⟩
  change Code.wp _ _ _ _ (w6.alloc (.cells (staCells t A2 cap2) 30))
  have hZN := hZ.lt
  have hN := Own.new w6 (staCells t A2 cap2) 30 rfl
  replace hP := hP.alloc (.cells (staCells t A2 cap2) 30)
  replace hS := hS.alloc (.cells (staCells t A2 cap2) 30)
  replace hZ := hZ.alloc (.cells (staCells t A2 cap2) 30)
  have hok6 := (Ok.refl w6).alloc (.cells (staCells t A2 cap2) 30)
  generalize w6.alloc (.cells (staCells t A2 cap2) 30) = W6 at hN hP hS hZ hok6 ⊢
  clear hU
  have h6N : w6.heap.size ≤ w6.heap.size := Nat.le_refl _
  generalize hNe : w6.heap.size = N at hN hZN ⊢
  replace h6N : w6.heap.size ≤ N := Nat.le_of_eq hNe
  clear hNe
  have hBN : B ≠ N := by omega
  have hHN : H ≠ N := by omega
  have hZNe : Z ≠ N := by omega
  have n2 := hN.cell 2 (v := .int .i64 t.time) rfl
  have n3 := hN.cell 3 (v := .bool t.set) rfl
  have n10 := hN.cell 10 (v := .int .i64 t.life) rfl
  have f2 := hN.frozen 2
  have f3 := hN.frozen 3
  have f10 := hN.frozen 10
  have hNl := hN.lt
  obtain ⟨s0, s1, s2, s3, s4, s5, s6, s7, s8, s9, s10⟩ := hS.sta; have hSl := hS.lt
  go_upto_region 10 with (go_at_call 43; refine (KB.out _).mono ?_; rintro e w7 ⟨rfl, rfl⟩)
  clear n2 n3 n10 f2 f3 f10 hNl
  clear s0 s1 s2 s3 s4 s5 s6 s7 s8 s9 s10 hSl
  have hN' : Own (((W6.setCell ⟨N, 2, none⟩ (.int .i64 CK)).setCell ⟨N, 3, none⟩ (.bool true)).setCell ⟨N, 10, none⟩ (.int .i64 LF)) N (staCells L A2 cap2) := (((hN.set 2 (.int .i64 CK)).set 3 (.bool true)).set 10 (.int .i64 LF)).as (by rw [← HL.out]; simp [staCells])
  have hP' := ((hP.setOther (a := ⟨N, 2, none⟩) hBN (.int .i64 CK)).setOther (a := ⟨N, 3, none⟩) hBN (.bool true)).setOther (a := ⟨N, 10, none⟩) hBN (.int .i64 LF)
  have hS' := ((hS.setOther (a := ⟨N, 2, none⟩) hHN (.int .i64 CK)).setOther (a := ⟨N, 3, none⟩) hHN (.bool true)).setOther (a := ⟨N, 10, none⟩) hHN (.int .i64 LF)
  have hZ' := ((hZ.setOther (a := ⟨N, 2, none⟩) hZNe (.int .i64 CK)).setOther (a := ⟨N, 3, none⟩) hZNe (.bool true)).setOther (a := ⟨N, 10, none⟩) hZNe (.int .i64 LF)
  have hok' := ((hok6.setCell (p := ⟨N, 2, none⟩) h6N (.int .i64 CK)).setCell (p := ⟨N, 3, none⟩) h6N (.bool true)).setCell (p := ⟨N, 10, none⟩) h6N (.int .i64 LF)
  have hXw : Slab ((((W6.setCell ⟨N, 2, none⟩ (.int .i64 CK)).setCell ⟨N, 3, none⟩ (.bool true)).setCell ⟨N, 10, none⟩ (.int .i64 LF)).alloc (.cells #[.int .i64 s.st, .int .i64 s.sn] 28)) W6.heap.size s.st s.sn := Slab.new _ _ _ _ (by simp)
  have hNM : N < W6.heap.size := hN.lt
  clear hN hP hS hZ hok6
  have hN := hN'.alloc (.cells #[.int .i64 s.st, .int .i64 s.sn] 28)
  have hP := hP'.alloc (.cells #[.int .i64 s.st, .int .i64 s.sn] 28)
  have hS := hS'.alloc (.cells #[.int .i64 s.st, .int .i64 s.sn] 28)
  have hZ := hZ'.alloc (.cells #[.int .i64 s.st, .int .i64 s.sn] 28)
  have hok6 := hok'.alloc (.cells #[.int .i64 s.st, .int .i64 s.sn] 28)
  clear hN' hP' hS' hZ' hok'
  change Code.wp _ _ _ _ ((((W6.setCell ⟨N, 2, none⟩ (.int .i64 CK)).setCell ⟨N, 3, none⟩ (.bool true)).setCell ⟨N, 10, none⟩ (.int .i64 LF)).alloc (.cells #[.int .i64 s.st, .int .i64 s.sn] 28))
  generalize (((W6.setCell ⟨N, 2, none⟩ (.int .i64 CK)).setCell ⟨N, 3, none⟩ (.bool true)).setCell ⟨N, 10, none⟩ (.int .i64 LF)).alloc (.cells #[.int .i64 s.st, .int .i64 s.sn] 28) = WA at hN hP hS hZ hok6 hXw ⊢
  generalize W6.heap.size = M at hXw hNM ⊢
  have hX := hXw
  clear hXw
  have hHM : H ≠ M := by omega
  have hZM : Z ≠ M := by omega
  have hNMe : N ≠ M := by omega
  have h6M : w6.heap.size ≤ M := by omega
  go_cut [13] from 47 to 57 (fun v wx => v = .bool fr ∧ Own wx H (staCells s A cap) ∧ Own wx Z (staCells zeroSta none 0) ∧ Own wx N (staCells L A2 cap2) ∧ Slab wx M s.st s.sn ∧ Ok w6 wx)
  case first =>
    have HOK := Lib.hid hok6
    have HP := Lib.hid fun W' (k : Ok WA.drew W') => hP.drew.next k
    have HS := Lib.hid fun W' (k : Ok WA.drew W') => hS.drew.next k
    have HZ := Lib.hid fun W' (k : Ok WA.drew W') => hZ.drew.next k
    have HN := Lib.hid fun W' (k : Ok WA.drew W') => hN.drew.next k
    have HX := Lib.hid fun W' (k : Ok WA.drew W') => hX.drew.next k
    clear hP hS hZ hN hX hok6
    cases rr with
    | false =>
      obtain rfl : fr = true := HFR.out.symm.trans (decide_eq_true (Or.inl rfl))
      refine wp_region_facts (by kernel_rfl) 80 rfl (VCE21F B M N p s L A2 cap2 m true) Ok (by kernel_rfl) (fun i v w w' h k w'' k' => h w'' (k.trans k')) (fun a b c => Ok.trans) (Ok.refl _) [some 47, some 48, some 49, some 50, some 51, some 52, some 53, some 54, some 55, some 56, some 57, some 13] rfl 12 rfl ⟨?_, ?_, ?_, ?_, ?_, ?_, ?_, ?_, ?_, ?_, ?_, ?_, trivial⟩ ?_
      · intro a' w' hF hR
        have e12 : a'.tmps[12]? = some (.pointer (some ⟨M, 0, none⟩)) := hF.slot 12 (by kernel_rfl) rfl
        have x0 := (HX.out _ hR).c0
        have x1 := (HX.out _ hR).c1
        have hXl := (HX.out _ hR).lt
        refine wpOp_run (v := .agg #[.int .i64 s.st, .int .i64 s.sn]) rfl rfl ?_ (fun _ _ => rfl) (Ok.refl _)
        clear hF
        go_simp
      · intro a' w' hF hR
        obtain ⟨v0, hv0, e47⟩ := hF.get 0 47 (by kernel_rfl) (by kernel_rfl)
        obtain rfl : v0 = _ := hv0 _ (Ok.refl _)
        clear hF
        refine wpOp_call (f := 25) (args := #[.agg #[.int .i64 s.st, .int .i64 s.sn]]) rfl rfl ?_ ((KR.out _).mono ?_)
        · go_simp
        · rintro e w2 ⟨rfl, hb2⟩; exact ⟨_, rfl, fun _ _ => rfl, hb2⟩
      · intro a' w' hF hR
        obtain ⟨v1, hv1, e48⟩ := hF.get 1 48 (by kernel_rfl) (by kernel_rfl)
        obtain rfl : v1 = _ := hv1 _ (Ok.refl _)
        refine wpOp_run (v := .bool true) rfl rfl ?_ (fun _ _ => rfl) (Ok.refl _)
        clear hF
        go_simp
      · intro a' w' hF hR
        obtain ⟨v2, hv2, e49⟩ := hF.get 2 49 (by kernel_rfl) (by kernel_rfl)
        obtain rfl : v2 = _ := hv2 _ (Ok.refl _)
        refine wpOp_run (v := .bool true) rfl rfl ?_ (fun _ _ => rfl) (Ok.refl _)
        clear hF
        go_simp
      · intro a' w' hF hR
        obtain ⟨vg, hvg, eg⟩ := hF.get 3 50 (by kernel_rfl) (by kernel_rfl)
        obtain rfl : vg = _ := hvg _ (Ok.refl _)
        exact wpOp_skip rfl (wanted_not rfl (by kernel_rfl) eg (by simp)) (fun _ _ => rfl) (Ok.refl _)
      · intro a' w' hF hR
        obtain ⟨vg, hvg, eg⟩ := hF.get 3 50 (by kernel_rfl) (by kernel_rfl)
        obtain rfl : vg = _ := hvg _ (Ok.refl _)
        exact wpOp_skip rfl (wanted_not rfl (by kernel_rfl) eg (by simp)) (fun _ _ => rfl) (Ok.refl _)
      · intro a' w' hF hR
        obtain ⟨vg, hvg, eg⟩ := hF.get 3 50 (by kernel_rfl) (by kernel_rfl)
        obtain rfl : vg = _ := hvg _ (Ok.refl _)
        exact wpOp_skip rfl (wanted_not rfl (by kernel_rfl) eg (by simp)) (fun _ _ => rfl) (Ok.refl _)
      · intro a' w' hF hR
        obtain ⟨vg, hvg, eg⟩ := hF.get 3 50 (by kernel_rfl) (by kernel_rfl)
        obtain rfl : vg = _ := hvg _ (Ok.refl _)
        exact wpOp_skip rfl (wanted_not rfl (by kernel_rfl) eg (by simp)) (fun _ _ => rfl) (Ok.refl _)
      · intro a' w' hF hR
        obtain ⟨vg, hvg, eg⟩ := hF.get 3 50 (by kernel_rfl) (by kernel_rfl)
        obtain rfl : vg = _ := hvg _ (Ok.refl _)
        exact wpOp_skip rfl (wanted_not rfl (by kernel_rfl) eg (by simp)) (fun _ _ => rfl) (Ok.refl _)
      · intro a' w' hF hR
        obtain ⟨vg, hvg, eg⟩ := hF.get 3 50 (by kernel_rfl) (by kernel_rfl)
        obtain rfl : vg = _ := hvg _ (Ok.refl _)
        exact wpOp_skip rfl (wanted_not rfl (by kernel_rfl) eg (by simp)) (fun _ _ => rfl) (Ok.refl _)
      · intro a' w' hF hR
        obtain ⟨v3, hv3, e50⟩ := hF.get 3 50 (by kernel_rfl) (by kernel_rfl)
        obtain rfl : v3 = _ := hv3 _ (Ok.refl _)
        obtain ⟨v9, hv9, e56⟩ := hF.get 9 56 (by kernel_rfl) (by kernel_rfl)
        obtain rfl : v9 = _ := hv9 _ (Ok.refl _)
        refine wpOp_run (v := .bool true) rfl rfl ?_ (fun _ _ => rfl) (Ok.refl _)
        clear hF
        go_simp
      · intro a' w' hF hR
        obtain ⟨v10, hv10, e57⟩ := hF.get 10 57 (by kernel_rfl) (by kernel_rfl)
        obtain rfl : v10 = _ := hv10 _ (Ok.refl _)
        refine wpOp_run (v := .bool true) rfl rfl ?_ (fun _ _ => rfl) (Ok.refl _)
        clear hF
        go_simp
      intro vs w8 hV hR
      have e11 : vs 11 = .bool true := hV 11 (by decide) _ (Ok.refl _)
      have hok6 := HOK.out.trans ((Ok.refl WA).drew.trans hR)
      have hS := HS.out _ hR
      have hZ := HZ.out _ hR
      have hN := HN.out _ hR
      have hX := HX.out _ hR
      clear hV HP HS HZ HN HX HOK
      simp only [putFrom, e11]
      simp only [Act.put, List.setIfInBounds_toArray, List.set_cons_zero, List.set_cons_succ]
      go_wp2_with fail
      go_meet
      exact ⟨rfl, hS, hZ, hN, hX, hok6⟩
    | true =>
      have d1 : decide (m < s.st) = fr := by rw [← HFR.out]; simp
      refine wp_region_facts (by kernel_rfl) 80 rfl (VCE21T B M N p s L A2 cap2 m fr) Ok (by kernel_rfl) (fun i v w w' h k w'' k' => h w'' (k.trans k')) (fun a b c => Ok.trans) (Ok.refl _) [some 47, some 48, some 49, some 50, some 51, some 52, some 53, some 54, some 55, some 56, some 57, some 13] rfl 12 rfl ⟨?_, ?_, ?_, ?_, ?_, ?_, ?_, ?_, ?_, ?_, ?_, ?_, trivial⟩ ?_
      · intro a' w' hF hR
        have e12 : a'.tmps[12]? = some (.pointer (some ⟨M, 0, none⟩)) := hF.slot 12 (by kernel_rfl) rfl
        have x0 := (HX.out _ hR).c0
        have x1 := (HX.out _ hR).c1
        have hXl := (HX.out _ hR).lt
        refine wpOp_run (v := .agg #[.int .i64 s.st, .int .i64 s.sn]) rfl rfl ?_ (fun _ _ => rfl) (Ok.refl _)
        clear hF
        go_simp
      · intro a' w' hF hR
        obtain ⟨v0, hv0, e47⟩ := hF.get 0 47 (by kernel_rfl) (by kernel_rfl)
        obtain rfl : v0 = _ := hv0 _ (Ok.refl _)
        clear hF
        refine wpOp_call (f := 25) (args := #[.agg #[.int .i64 s.st, .int .i64 s.sn]]) rfl rfl ?_ ((KR.out _).mono ?_)
        · go_simp
        · rintro e w2 ⟨rfl, hb2⟩; exact ⟨_, rfl, fun _ _ => rfl, hb2⟩
      · intro a' w' hF hR
        obtain ⟨v1, hv1, e48⟩ := hF.get 1 48 (by kernel_rfl) (by kernel_rfl)
        obtain rfl : v1 = _ := hv1 _ (Ok.refl _)
        refine wpOp_run (v := .bool false) rfl rfl ?_ (fun _ _ => rfl) (Ok.refl _)
        clear hF
        go_simp
      · intro a' w' hF hR
        obtain ⟨v2, hv2, e49⟩ := hF.get 2 49 (by kernel_rfl) (by kernel_rfl)
        obtain rfl : v2 = _ := hv2 _ (Ok.refl _)
        refine wpOp_run (v := .bool false) rfl rfl ?_ (fun _ _ => rfl) (Ok.refl _)
        clear hF
        go_simp
      · intro a' w' hF hR
        have e12 : a'.tmps[12]? = some (.pointer (some ⟨M, 0, none⟩)) := hF.slot 12 (by kernel_rfl) rfl
        obtain ⟨vg, hvg, eg⟩ := hF.get 3 50 (by kernel_rfl) (by kernel_rfl)
        obtain rfl : vg = _ := hvg _ (Ok.refl _)
        refine wpOp_runG (v := .pointer (some ⟨M, 0, none⟩)) rfl (wanted_yes rfl (by kernel_rfl) eg) ?_ (fun _ _ => rfl) (Ok.refl _)
        clear hF
        go_simp
      · intro a' w' hF hR
        obtain ⟨v4, hv4, e51⟩ := hF.get 4 51 (by kernel_rfl) (by kernel_rfl)
        obtain rfl : v4 = _ := hv4 _ (Ok.refl _)
        obtain ⟨vg, hvg, eg⟩ := hF.get 3 50 (by kernel_rfl) (by kernel_rfl)
        obtain rfl : vg = _ := hvg _ (Ok.refl _)
        have x0 := (HX.out _ hR).c0
        have x1 := (HX.out _ hR).c1
        have hXl := (HX.out _ hR).lt
        refine wpOp_runG (v := .int .i64 s.st) rfl (wanted_yes rfl (by kernel_rfl) eg) ?_ (fun _ _ => rfl) (Ok.refl _)
        clear hF
        go_simp
      · intro a' w' hF hR
        have e4 : a'.tmps[4]? = some (.pointer (some ⟨B, 0, none⟩)) := hF.slot 4 (by kernel_rfl) rfl
        obtain ⟨vg, hvg, eg⟩ := hF.get 3 50 (by kernel_rfl) (by kernel_rfl)
        obtain rfl : vg = _ := hvg _ (Ok.refl _)
        obtain ⟨c0, c1, c2, c3, c4, c5, c6, c7, c8, c9, c10, c11⟩ := (HP.out _ hR).pars
        have hPl := (HP.out _ hR).lt
        refine wpOp_runG (v := parV p) rfl (wanted_yes rfl (by kernel_rfl) eg) ?_ (fun _ _ => rfl) (Ok.refl _)
        clear hF
        go_simp
      · intro a' w' hF hR
        have e11 : a'.tmps[11]? = some (.pointer (some ⟨N, 0, none⟩)) := hF.slot 11 (by kernel_rfl) rfl
        obtain ⟨vg, hvg, eg⟩ := hF.get 3 50 (by kernel_rfl) (by kernel_rfl)
        obtain rfl : vg = _ := hvg _ (Ok.refl _)
        obtain ⟨s0, s1, s2, s3, s4, s5, s6, s7, s8, s9, s10⟩ := (HN.out _ hR).sta
        have hNl := (HN.out _ hR).lt
        refine wpOp_runG (v := .agg #[.int .i64 L.lo, .int .i64 L.hi, .int .i64 L.time, .bool L.set, .int .i64 L.held, .int .i64 L.hops, .bool L.good, .slice A2 L.table.length cap2, .int .i64 L.st, .int .i64 L.sn, .int .i64 L.life]) rfl (wanted_yes rfl (by kernel_rfl) eg) ?_ (fun _ _ => rfl) (Ok.refl _)
        clear hF
        go_simp
      · intro a' w' hF hR
        obtain ⟨v6, hv6, e53⟩ := hF.get 6 53 (by kernel_rfl) (by kernel_rfl)
        obtain rfl : v6 = _ := hv6 _ (Ok.refl _)
        obtain ⟨v7, hv7, e54⟩ := hF.get 7 54 (by kernel_rfl) (by kernel_rfl)
        obtain rfl : v7 = _ := hv7 _ (Ok.refl _)
        obtain ⟨vg, hvg, eg⟩ := hF.get 3 50 (by kernel_rfl) (by kernel_rfl)
        obtain rfl : vg = _ := hvg _ (Ok.refl _)
        refine wpOp_callG (f := 60) (args := #[parV p, .agg #[.int .i64 L.lo, .int .i64 L.hi, .int .i64 L.time, .bool L.set, .int .i64 L.held, .int .i64 L.hops, .bool L.good, .slice A2 L.table.length cap2, .int .i64 L.st, .int .i64 L.sn, .int .i64 L.life]]) rfl (wanted_yes rfl (by kernel_rfl) eg) ?_ ((KO.out A2 cap2 _).mono ?_)
        · go_simp
        · rintro e w2 ⟨rfl, hb2⟩; exact ⟨_, rfl, fun _ _ => rfl, hb2⟩
      · intro a' w' hF hR
        obtain ⟨v5, hv5, e52⟩ := hF.get 5 52 (by kernel_rfl) (by kernel_rfl)
        obtain rfl : v5 = _ := hv5 _ (Ok.refl _)
        obtain ⟨v8, hv8, e55⟩ := hF.get 8 55 (by kernel_rfl) (by kernel_rfl)
        obtain rfl : v8 = _ := hv8 _ (Ok.refl _)
        obtain ⟨vg, hvg, eg⟩ := hF.get 3 50 (by kernel_rfl) (by kernel_rfl)
        obtain rfl : vg = _ := hvg _ (Ok.refl _)
        refine wpOp_runG (v := .bool fr) rfl (wanted_yes rfl (by kernel_rfl) eg) ?_ (fun _ _ => rfl) (Ok.refl _)
        clear hF
        go_simp
      · intro a' w' hF hR
        obtain ⟨v3, hv3, e50⟩ := hF.get 3 50 (by kernel_rfl) (by kernel_rfl)
        obtain rfl : v3 = _ := hv3 _ (Ok.refl _)
        obtain ⟨v9, hv9, e56⟩ := hF.get 9 56 (by kernel_rfl) (by kernel_rfl)
        obtain rfl : v9 = _ := hv9 _ (Ok.refl _)
        refine wpOp_run (v := .bool fr) rfl rfl ?_ (fun _ _ => rfl) (Ok.refl _)
        clear hF
        go_simp
      · intro a' w' hF hR
        obtain ⟨v10, hv10, e57⟩ := hF.get 10 57 (by kernel_rfl) (by kernel_rfl)
        obtain rfl : v10 = _ := hv10 _ (Ok.refl _)
        refine wpOp_run (v := .bool fr) rfl rfl ?_ (fun _ _ => rfl) (Ok.refl _)
        clear hF
        go_simp
      intro vs w8 hV hR
      have e11 : vs 11 = .bool fr := hV 11 (by decide) _ (Ok.refl _)
      have hok6 := HOK.out.trans ((Ok.refl WA).drew.trans hR)
      have hS := HS.out _ hR
      have hZ := HZ.out _ hR
      have hN := HN.out _ hR
      have hX := HX.out _ hR
      clear hV HP HS HZ HN HX HOK
      simp only [putFrom, e11]
      simp only [Act.put, List.setIfInBounds_toArray, List.set_cons_zero, List.set_cons_succ]
      go_wp2_with fail
      go_meet
      exact ⟨rfl, hS, hZ, hN, hX, hok6⟩
  case rest =>
  clear hP hS hZ hN hX hok6
  obtain ⟨rfl, hS, hZ, hN, hX, hok6⟩ := hcut
  go_upto_if 58 with fail
  go_cut [] from 59 to 61 (fun wx => Own wx H (staCells s A cap) ∧ Own wx Z (staCells zeroSta none 0) ∧ Own wx N (staCells L A2 cap2) ∧ Slab wx M t1 t2 ∧ Ok w6 wx)
  case first =>
    have q := HTT.out
    cases fr with
    | true =>
      rw [if_pos rfl] at q
      injection q with q1 q2
      subst q1 q2
      have x0 := hX.c0
      have x1 := hX.c1
      have f0 := hX.f0
      have f1 := hX.f1
      have hXl := hX.lt
      go_wp2_with (go_at_call 42; refine (KC2.out _).mono ?_; rintro e w8 ⟨rfl, rfl⟩)
      go_meet
      exact ⟨(hS.setOther (a := ⟨M, 0, none⟩) hHM _).setOther (a := ⟨M, 1, none⟩) hHM _, (hZ.setOther (a := ⟨M, 0, none⟩) hZM _).setOther (a := ⟨M, 1, none⟩) hZM _, (hN.setOther (a := ⟨M, 0, none⟩) hNMe _).setOther (a := ⟨M, 1, none⟩) hNMe _, hX.set cx 0, (hok6.setCell (p := ⟨M, 0, none⟩) h6M _).setCell (p := ⟨M, 1, none⟩) h6M _⟩
    | false =>
      rw [if_neg (by decide)] at q
      injection q with q1 q2
      subst q1 q2
      go_wp2_with fail
      go_meet
      exact ⟨hS, hZ, hN, hX, hok6⟩
  case rest =>
  clear hS hZ hN hX hok6
  obtain ⟨hS, hZ, hN, hX, hok6⟩ := hcut
  have x0 := hX.c0
  have x1 := hX.c1
  have hXl := hX.lt
  go_upto_region 14 with (go_at_call 61; refine (KT.out _).mono ?_; rintro e w9 ⟨rfl, hb1⟩; clear x0 x1 hXl hX; replace hS := hS.next hb1; replace hZ := hZ.next hb1; replace hN := hN.next hb1; replace hok6 := hok6.trans hb1; clear hb1; have n8 := hN.cell 8 (v := .int .i64 L.st) rfl; have n9 := hN.cell 9 (v := .int .i64 L.sn) rfl; have f8 := hN.frozen 8; have f9 := hN.frozen 9; have hNl := hN.lt)
  have hN' : Own ((w9.setCell ⟨N, 8, none⟩ (.int .i64 k1)).setCell ⟨N, 9, none⟩ (.int .i64 k2)) N (staCells Q A2 cap2) := ((hN.set 8 (.int .i64 k1)).set 9 (.int .i64 k2)).as (by rw [← HQ.out]; simp [staCells])
  have hS' := (hS.setOther (a := ⟨N, 8, none⟩) hHN (.int .i64 k1)).setOther (a := ⟨N, 9, none⟩) hHN (.int .i64 k2)
  have hZ' := (hZ.setOther (a := ⟨N, 8, none⟩) hZNe (.int .i64 k1)).setOther (a := ⟨N, 9, none⟩) hZNe (.int .i64 k2)
  have hok' := (hok6.setCell (p := ⟨N, 8, none⟩) h6N (.int .i64 k1)).setCell (p := ⟨N, 9, none⟩) h6N (.int .i64 k2)
  clear n8 n9 f8 f9 hNl hN hS hZ hok6
  generalize ((w9.setCell ⟨N, 8, none⟩ (.int .i64 k1)).setCell ⟨N, 9, none⟩ (.int .i64 k2)) = WB at hN' hS' hZ' hok' ⊢
  have s2 := hS'.cell 2 (v := .int .i64 s.time) rfl
  have hSl := hS'.lt
  go_cut [72] from 66 to 72 (fun v wx => v = .bool g2 ∧ wx = WB)
  case first =>
    cases fr with
    | true =>
      go_wp2_with fail
      go_meet
      exact ⟨by rw [← HG2.out]; rfl, rfl⟩
    | false =>
      go_wp2_with fail
      go_meet
      exact ⟨by rw [← HG2.out]; rfl, rfl⟩
  case rest =>
  obtain ⟨rfl, rfl⟩ := hcut
  clear s2 hSl hS'
  go_upto_if 72 with fail
  go_cut [] from 73 to 78 (fun wx => Own wx Z (staCells zeroSta none 0) ∧ Own wx N (staCells Y A2 cap2) ∧ Ok w6 wx)
  case first =>
    cases g2 with
    | true =>
      obtain rfl : LV = l2 := HLV2.out.symm.trans (if_pos rfl)
      have n10 := hN'.cell 10 (v := .int .i64 LF) (by rw [← HQL.out]; rfl)
      have f10 := hN'.frozen 10
      have hNl := hN'.lt
      go_wp2_with (first | (go_at_call 44; refine (KA.out _ _ (ints_new _ [LF, 1] _ _ rfl rfl)).mono ?_; rintro e w10 ⟨rfl, rfl⟩) | (go_at_call 43; refine (KB2.out _).mono ?_; rintro e w11 ⟨rfl, rfl⟩))
      go_meet
      exact ⟨(hZ'.setOther (a := ⟨N, 10, none⟩) hZNe _).alloc _, ((hN'.set 10 (.int .i64 LV)).as (ds := staCells Y A2 cap2) (by rw [← HY2.out]; simp [staCells])).alloc _, (hok'.setCell (p := ⟨N, 10, none⟩) h6N _).alloc _⟩
    | false =>
      obtain rfl : LV = LF := HLV2.out.symm.trans (if_neg (by decide))
      go_wp2_with fail
      go_meet
      exact ⟨hZ', hN'.as (by rw [← HY2.out]; simp [staCells, HQL.out]), hok'⟩
  case rest =>
  clear hN' hZ' hok'
  obtain ⟨hZ2, hS2, hok6⟩ := hcut
  have hPu : PairsOf K wc A2 Y.table := by rw [HYT.out]; exact hPA.next hok6
  have hok2 := hok.trans hok6
  have hrw := hwZ
  have hPX := (((((((((((hPu.set (p := ⟨Z, 0, none⟩) hZK (.int .i64 Y.lo)).set (p := ⟨Z, 1, none⟩) hZK (.int .i64 Y.hi)).set (p := ⟨Z, 2, none⟩) hZK (.int .i64 Y.time)).set (p := ⟨Z, 3, none⟩) hZK (.bool Y.set)).set (p := ⟨Z, 4, none⟩) hZK (.int .i64 Y.held)).set (p := ⟨Z, 5, none⟩) hZK (.int .i64 Y.hops)).set (p := ⟨Z, 6, none⟩) hZK (.bool Y.good)).set (p := ⟨Z, 7, none⟩) hZK (.slice A2 Y.table.length cap2)).set (p := ⟨Z, 8, none⟩) hZK (.int .i64 Y.st)).set (p := ⟨Z, 9, none⟩) hZK (.int .i64 Y.sn)).set (p := ⟨Z, 10, none⟩) hZK (.int .i64 Y.life))
  clear hPA hPu
  obtain ⟨s0, s1, s2, s3, s4, s5, s6, s7, s8, s9, s10⟩ := hS2.sta
  obtain ⟨z0, z1, z2, z3, z4, z5, z6, z7, z8, z9, z10⟩ := hZ2.sta
  obtain ⟨y0, y1, y2, y3, y4, y5, y6, y7, y8, y9, y10⟩ := frozenSta hZ2
  have hsl := hS2.lt
  have hzl := hZ2.lt
  have hX := own_set11 hZ2 Y A2 cap2
  have hok3 := ok_set11 hok2 hrw Y A2 cap2
  go_wp2_with fail
  clear s0 s1 s2 s3 s4 s5 s6 s7 s8 s9 s10 z0 z1 z2 z3 z4 z5 z6 z7 z8 z9 z10 y0 y1 y2 y3 y4 y5 y6 y7 y8 y9 y10 hsl hzl
  generalize (((((((((((wc.setCell ⟨Z, 0, none⟩ (.int .i64 Y.lo)).setCell ⟨Z, 1, none⟩ (.int .i64 Y.hi)).setCell ⟨Z, 2, none⟩ (.int .i64 Y.time)).setCell ⟨Z, 3, none⟩ (.bool Y.set)).setCell ⟨Z, 4, none⟩ (.int .i64 Y.held)).setCell ⟨Z, 5, none⟩ (.int .i64 Y.hops)).setCell ⟨Z, 6, none⟩ (.bool Y.good)).setCell ⟨Z, 7, none⟩ (.slice A2 Y.table.length cap2)).setCell ⟨Z, 8, none⟩ (.int .i64 Y.st)).setCell ⟨Z, 9, none⟩ (.int .i64 Y.sn)).setCell ⟨Z, 10, none⟩ (.int .i64 Y.life)) = W5 at hX hok3 hPX ⊢
  obtain ⟨s0, s1, s2, s3, s4, s5, s6, s7, s8, s9, s10⟩ := hX.sta
  exact bodyPost_ret (v := staV Y A2 cap2) (by simp [results, Try.results19, go_sem, s0, s1, s2, s3, s4, s5, s6, s7, s8, s9, s10, staV]) rfl ⟨A2, cap2, rfl, hPX.mono hwK, hok3⟩
end Go.Proofs.Ytlclfonlidcfiaa
