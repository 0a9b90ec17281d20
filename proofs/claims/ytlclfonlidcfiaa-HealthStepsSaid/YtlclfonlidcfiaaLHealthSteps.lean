/- HealthSteps: for every fabric, state, ticks, next state and stamp the law answers true: Step, Stamp and Listen answer what the document says. No condition. -/
import Derived.Test.YtlclfonlidcfiaaC21h
import Derived.Test.YtlclfonlidcfiaaW06
namespace Go.Proofs.Ytlclfonlidcfiaa.healthSteps
open Go.ChangeShapes Go.WideShapes Go.ChangeAt Go.RowKit
set_option linter.unusedVariables false
set_option maxRecDepth 100000
attribute [local go_sem ↓] Go.wp_at_zero Go.wp_at_succ
/-- What each operation leaves. -/
def VMA (B K N : Nat) (p : Par) (t : Sta) (A2 A3 : Option Addr) (d2 d3 : Nat) (w : World) (v : Value) : Nat → Prop
  | 0 => v = .pointer (some ⟨K, 0, none⟩)
  | 1 => v = .pointer (some ⟨K, 0, none⟩)
  | 2 => v = .pointer (some ⟨K, 12, none⟩)
  | 3 => v = .agg #[.int .i64 t.lo, .int .i64 t.hi, .int .i64 t.time, .bool t.set, .int .i64 t.held, .int .i64 t.hops, .bool t.good, .slice A2 t.table.length d2, .int .i64 t.st, .int .i64 t.sn, .int .i64 t.life]
  | 4 => v = .agg #[.int .i64 t.lo, .int .i64 t.hi, .int .i64 t.time, .bool t.set, .int .i64 t.held, .int .i64 t.hops, .bool t.good, .slice A3 t.table.length d3, .int .i64 t.st, .int .i64 t.sn, .int .i64 t.life]
  | 5 => v = .bool true
  | 6 => v = .bool false
  | 7 => v = .bool false
  | 8 => v = parV p
  | 9 => v = .pointer (some ⟨K, 0, none⟩)
  | 10 => v = .pointer (some ⟨K, 0, none⟩)
  | 11 => v = .pointer (some ⟨K, 12, none⟩)
  | 12 => v = .agg #[.int .i64 t.lo, .int .i64 t.hi, .int .i64 t.time, .bool t.set, .int .i64 t.held, .int .i64 t.hops, .bool t.good, .slice A2 t.table.length d2, .int .i64 t.st, .int .i64 t.sn, .int .i64 t.life]
  | 13 => ∃ A c, v = staV (t) A c ∧ PairsAt w A (t).table
  | 14 => v = .pointer (some ⟨K, 0, none⟩)
  | 15 => v = .pointer (some ⟨K, 0, none⟩)
  | 16 => v = .pointer (some ⟨K, 12, none⟩)
  | 17 => v = .agg #[.int .i64 t.lo, .int .i64 t.hi, .int .i64 t.time, .bool t.set, .int .i64 t.held, .int .i64 t.hops, .bool t.good, .slice A2 t.table.length d2, .int .i64 t.st, .int .i64 t.sn, .int .i64 t.life]
  | 18 => v = .bool true
  | 19 => v = .bool false
  | 20 => v = .bool false
  | _ => v = .bool true
/-- It stays so. -/
def VCA (B K N : Nat) (p : Par) (t : Sta) (A2 A3 : Option Addr) (d2 d3 : Nat) (i : Nat) (v : Value) (w : World) : Prop := ∀ w', Ok w w' → VMA B K N p t A2 A3 d2 d3 w' v i
/-- What each operation leaves. -/
def VMB (T K N : Nat) (q : Sta) (A2 A3 : Option Addr) (d2 d3 : Nat) (k1 k2 : Int) (w : World) (v : Value) : Nat → Prop
  | 0 => v = .int .i64 0
  | 1 => v = .bool false
  | 2 => v = .bool false
  | 3 => v = .agg #[.int .i64 k1, .int .i64 k2]
  | 4 => v = .pointer (some ⟨N, 8, none⟩)
  | 5 => v = .agg #[.int .i64 k1, .int .i64 k2]
  | 6 => v = .bool false
  | 7 => v = .bool false
  | 8 => v = .bool false
  | 9 => v = .pointer (some ⟨K, 0, none⟩)
  | 10 => v = .pointer (some ⟨K, 0, none⟩)
  | 11 => v = .pointer (some ⟨K, 12, none⟩)
  | 12 => v = .agg #[.int .i64 q.lo, .int .i64 q.hi, .int .i64 q.time, .bool q.set, .int .i64 q.held, .int .i64 q.hops, .bool q.good, .slice A2 q.table.length d2, .int .i64 q.st, .int .i64 q.sn, .int .i64 q.life]
  | 13 => v = .agg #[.int .i64 q.lo, .int .i64 q.hi, .int .i64 q.time, .bool q.set, .int .i64 q.held, .int .i64 q.hops, .bool q.good, .slice A3 q.table.length d3, .int .i64 q.st, .int .i64 q.sn, .int .i64 q.life]
  | 14 => v = .bool true
  | 15 => v = .bool false
  | 16 => v = .bool false
  | _ => v = .bool true
/-- It stays so. -/
def VCB (T K N : Nat) (q : Sta) (A2 A3 : Option Addr) (d2 d3 : Nat) (k1 k2 : Int) (i : Nat) (v : Value) (w : World) : Prop := ∀ w', Ok w w' → VMB T K N q A2 A3 d2 d3 k1 k2 w' v i
/-- What each operation leaves. -/
def VMC (B X K N : Nat) (p : Par) (q z : Sta) (A2 A3 : Option Addr) (d2 d3 : Nat) (x1 x2 : Int) (w : World) (v : Value) : Nat → Prop
  | 0 => v = .pointer (some ⟨K, 0, none⟩)
  | 1 => v = .pointer (some ⟨K, 0, none⟩)
  | 2 => v = .pointer (some ⟨K, 12, none⟩)
  | 3 => v = .agg #[.int .i64 z.lo, .int .i64 z.hi, .int .i64 z.time, .bool z.set, .int .i64 z.held, .int .i64 z.hops, .bool z.good, .slice A2 z.table.length d2, .int .i64 z.st, .int .i64 z.sn, .int .i64 z.life]
  | 4 => v = parV p
  | 5 => v = .agg #[.int .i64 q.lo, .int .i64 q.hi, .int .i64 q.time, .bool q.set, .int .i64 q.held, .int .i64 q.hops, .bool q.good, .slice A3 q.table.length d3, .int .i64 q.st, .int .i64 q.sn, .int .i64 q.life]
  | 6 => v = .agg #[.int .i64 x1, .int .i64 x2]
  | 7 => v = staV z A3 d3
  | 8 => v = .bool true
  | 9 => v = .bool true
  | _ => v = .bool true
/-- It stays so. -/
def VCC (B X K N : Nat) (p : Par) (q z : Sta) (A2 A3 : Option Addr) (d2 d3 : Nat) (x1 x2 : Int) (i : Nat) (v : Value) (w : World) : Prop := ∀ w', Ok w w' → VMC B X K N p q z A2 A3 d2 d3 x1 x2 w' v i
set_option maxHeartbeats 12800000 in
theorem walkF (F : FrontDoes) (w : World) (p : Par) (s : Sta) (A : Option Addr) (cap : Nat) (ticks : Int) (u : Sta) (C : Option Addr) (cup : Nat) (x1 x2 : Int) (hC : PairsAt w C u.table) (hl : u.table.length ≤ 9223372036854775807) :
    Calls Try.prog 4 #[parV p, staV s A cap, .int .i64 ticks, staV u C cup, .agg #[.int .i64 x1, .int .i64 x2]] w fun e w' => e = .returned (.bool true) ∧ Ok w w' := by
  have KAL := Lib.hid fun w => law21AliveF F w
  have KLO := Lib.hid fun w => law21Long s u A C cap cup w
  obtain ⟨t, ht⟩ : ∃ t, Health.step p s ticks u = t := ⟨_, rfl⟩
  have hst : Health.sane p t = t := by rw [← ht]; exact Health.sane_step p s ticks u
  have htl : t.table.length ≤ 9223372036854775807 := by
    rw [← ht]
    unfold Health.step Health.led Health.sane
    simp only
    split
    · exact hl
    · simp
  have KFS := Lib.hid fun w g h hC => F.frontStep g p s A cap ticks u C cup w h hC hl
  rw [ht] at KFS
  have KRS := Lib.hid (show ∀ w, PairsAt w C u.table → Calls Try.prog 19 #[parV p, staV s A cap, .int .i64 ticks, staV u C cup] w (fun e w' => ∃ (A3 : Option Addr) (d3 : Nat), e = .returned (.agg #[.int .i64 t.lo, .int .i64 t.hi, .int .i64 t.time, .bool t.set, .int .i64 t.held, .int .i64 t.hops, .bool t.good, .slice A3 t.table.length d3, .int .i64 t.st, .int .i64 t.sn, .int .i64 t.life]) ∧ PairsOf w.heap.size w' A3 t.table ∧ Ok w w') from fun w h => by
    have k := ref21Step p s A cap ticks u C cup w h hl
    rw [ht] at k
    exact k)
  have KX := Lib.hid fun w A c h => F.healthSane p t A c w h htl
  rw [hst] at KX
  have KE := Lib.hid fun w A C c d h1 h2 => ref21Same t t A C c d w h1 h2 htl htl
  rw [decide_eq_true (rfl : t = t)] at KE
  obtain ⟨⟨k1, k2⟩, hk⟩ : ∃ r, Hlc.tick (t.st, t.sn) t.time = r := ⟨_, rfl⟩
  obtain ⟨q, hq⟩ : ∃ q, Health.stamped t = q := ⟨_, rfl⟩
  have hq1 : q.st = k1 := by rw [← hq]; unfold Health.stamped; rw [hk]
  have hq2 : q.sn = k2 := by rw [← hq]; unfold Health.stamped; rw [hk]
  have hqt : q.table = t.table := by rw [← hq]; rfl
  have KFT := Lib.hid fun w g A c h => F.frontStamp g p t A c w h
  rw [hk, hq] at KFT
  have KRT := Lib.hid (show ∀ w A3 d3, Calls Try.prog 21 #[staV t A3 d3] w (fun e w' => e = .returned (.agg #[.int .i64 q.lo, .int .i64 q.hi, .int .i64 q.time, .bool q.set, .int .i64 q.held, .int .i64 q.hops, .bool q.good, .slice A3 q.table.length d3, .int .i64 q.st, .int .i64 q.sn, .int .i64 q.life]) ∧ Ok w w') from fun w A3 d3 => by
    have k := ref21Stamped t A3 d3 w
    rw [hq] at k
    exact k)
  have KE2 := Lib.hid fun w A C c d h1 h2 => ref21Same q q A C c d w h1 h2 (hqt ▸ htl) (hqt ▸ htl)
  rw [decide_eq_true (rfl : q = q), hqt] at KE2
  obtain ⟨z, hv⟩ : ∃ z, Health.listen p q (x1, x2) = z := ⟨_, rfl⟩
  have hvt : z.table = t.table := by rw [← hv, ← hqt]; rfl
  have KFL := Lib.hid fun w g A c h => F.frontListen g p q A c (x1, x2) w h
  rw [hv] at KFL
  have KRL := Lib.hid fun w A c => ref21Listen p q A c (x1, x2) w
  rw [hv] at KRL
  have KE3 := Lib.hid fun w A C c d h1 h2 => ref21Same z z A C c d w h1 h2 (hvt ▸ htl) (hvt ▸ htl)
  rw [decide_eq_true (rfl : z = z), hvt] at KE3
  have HQ1 := Lib.hid hq1
  have HQ2 := Lib.hid hq2
  have HC := Lib.hid hC
  clear ht hst htl hk hq hq1 hq2 hqt hv hvt hC hl
  have hP := (Own.new w (parCells p) 23 rfl).next ((((Ok.refl _).alloc (.cells (staCells s A cap) 30)).alloc (.cells (staCells u C cup) 30)).alloc (.cells #[.int .i64 x1, .int .i64 x2] 28))
  have hS := (Own.new (w.alloc (.cells (parCells p) 23)) (staCells s A cap) 30 (g := w.heap.size + 1) (by simp)).next (((Ok.refl _).alloc (.cells (staCells u C cup) 30)).alloc (.cells #[.int .i64 x1, .int .i64 x2] 28))
  have hU := (Own.new ((w.alloc (.cells (parCells p) 23)).alloc (.cells (staCells s A cap) 30)) (staCells u C cup) 30 (g := w.heap.size + 1 + 1) (by simp)).alloc (.cells #[.int .i64 x1, .int .i64 x2] 28)
  have hX := Own.new (((w.alloc (.cells (parCells p) 23)).alloc (.cells (staCells s A cap) 30)).alloc (.cells (staCells u C cup) 30)) #[.int .i64 x1, .int .i64 x2] 28 (g := w.heap.size + 1 + 1 + 1) (by simp)
  have hok := ((((Ok.refl w).alloc (.cells (parCells p) 23)).alloc (.cells (staCells s A cap) 30)).alloc (.cells (staCells u C cup) 30)).alloc (.cells #[.int .i64 x1, .int .i64 x2] 28)
  obtain ⟨lg, hlg⟩ : ∃ b, decide (256 < s.table.length ∨ 256 < u.table.length) = b := ⟨_, rfl⟩
  rw [hlg] at KLO
  clear hlg
  go_enter Try.func4, Try.ntmps4
  go_upto_region 1 with fail
  change Code.wp _ _ _ _ ((((w.alloc (.cells (parCells p) 23)).alloc (.cells (staCells s A cap) 30)).alloc (.cells (staCells u C cup) 30)).alloc (.cells #[.int .i64 x1, .int .i64 x2] 28))
  generalize (((w.alloc (.cells (parCells p) 23)).alloc (.cells (staCells s A cap) 30)).alloc (.cells (staCells u C cup) 30)).alloc (.cells #[.int .i64 x1, .int .i64 x2] 28) = W at hP hS hU hX hok ⊢
  obtain ⟨X, hXe⟩ : ∃ r, w.heap.size + 1 + 1 + 1 = r := ⟨_, rfl⟩
  obtain ⟨G, hG⟩ : ∃ r, w.heap.size + 1 + 1 = r := ⟨_, rfl⟩
  obtain ⟨H, hH⟩ : ∃ r, w.heap.size + 1 = r := ⟨_, rfl⟩
  obtain ⟨B, hB⟩ : ∃ r, w.heap.size = r := ⟨_, rfl⟩
  have hBX : B < X := by omega
  have hHX : H < X := by omega
  have hGX : G < X := by omega
  rw [hXe] at hX
  rw [hG] at hU
  rw [hH] at hS
  rw [hB] at hP
  rw [hXe, hG, hH, hB]
  clear hXe hG hH hB
  go_upto_region 3 with (go_at_call 9; (with_reducible refine (KAL.out _).mono ?_); rintro e w1 ⟨rfl, hb1⟩; replace hP := hP.next hb1; replace hS := hS.next hb1; replace hU := hU.next hb1; replace hX := hX.next hb1; replace hok := hok.trans hb1)
  obtain ⟨s0, s1, s2, s3, s4, s5, s6, s7, s8, s9, s10⟩ := hS.sta; have hSl := hS.lt
  obtain ⟨y0, y1, y2, y3, y4, y5, y6, y7, y8, y9, y10⟩ := hU.sta; have hUl := hU.lt
  go_upto_if 19 with (go_at_call 10; refine (KLO.out _).mono ?_; rintro e w2 ⟨rfl, hb1⟩; clear s0 s1 s2 s3 s4 s5 s6 s7 s8 s9 s10 hSl; clear y0 y1 y2 y3 y4 y5 y6 y7 y8 y9 y10 hUl; replace hP := hP.next hb1; replace hS := hS.next hb1; replace hU := hU.next hb1; replace hX := hX.next hb1; replace hok := hok.trans hb1)
  cases lg with
  | true =>
    go_wp2_with fail
    go_ret
    exact ⟨rfl, hok⟩
  | false =>
    obtain ⟨s0, s1, s2, s3, s4, s5, s6, s7, s8, s9, s10⟩ := hS.sta; have hSl := hS.lt
    obtain ⟨c0, c1, c2, c3, c4, c5, c6, c7, c8, c9, c10, c11⟩ := hP.pars; have hPl := hP.lt
    go_upto_region 6 with fail
    clear s0 s1 s2 s3 s4 s5 s6 s7 s8 s9 s10 hSl
    clear c0 c1 c2 c3 c4 c5 c6 c7 c8 c9 c10 c11 hPl
    change Code.wp _ _ _ _ (w2.alloc (.cells (frontCells p s A cap) 39))
    have hXK := hX.lt
    have hF := Own.new w2 (frontCells p s A cap) 39 rfl
    replace hP := hP.alloc (.cells (frontCells p s A cap) 39)
    replace hS := hS.alloc (.cells (frontCells p s A cap) 39)
    replace hU := hU.alloc (.cells (frontCells p s A cap) 39)
    replace hX := hX.alloc (.cells (frontCells p s A cap) 39)
    have hwK := hok.size
    replace hok := hok.alloc (.cells (frontCells p s A cap) 39)
    generalize w2.alloc (.cells (frontCells p s A cap) 39) = W5 at hP hS hU hX hok hF ⊢
    generalize w2.heap.size = K at hF hXK hwK ⊢
    have hPC := HC.out.below hok
    have hKK5 := hF.lt
    obtain ⟨y0, y1, y2, y3, y4, y5, y6, y7, y8, y9, y10⟩ := hU.sta; have hUl := hU.lt
    go_upto_region 7 with (go_at_call 18; refine (KFS.out _ _ hF hPC).mono ?_; rintro e w6 ⟨rfl, A2, d2, hF6, hT2, hO⟩; clear y0 y1 y2 y3 y4 y5 y6 y7 y8 y9 y10 hUl; clear hF hPC; replace hP := hO.own hP (by omega); replace hS := hO.own hS (by omega); replace hU := hO.own hU (by omega); replace hX := hO.own hX (by omega); replace hok := hO.then_ok hok hwK; clear hO; have hF := hF6; clear hF6; have hT2 := hT2.mono (L := K + 1) hKK5; have hPC := HC.out.below hok; obtain ⟨y0, y1, y2, y3, y4, y5, y6, y7, y8, y9, y10⟩ := hU.sta; have hUl := hU.lt; obtain ⟨s0, s1, s2, s3, s4, s5, s6, s7, s8, s9, s10⟩ := hS.sta; have hSl := hS.lt; obtain ⟨c0, c1, c2, c3, c4, c5, c6, c7, c8, c9, c10, c11⟩ := hP.pars; have hPl := hP.lt)
    have hK6 := hF.lt
    go_upto_region 8 with (go_at_call 19; refine (KRS.out _ hPC).mono ?_; rintro e w7 ⟨A3, d3, rfl, hT3, hb1⟩; clear y0 y1 y2 y3 y4 y5 y6 y7 y8 y9 y10 hUl; clear s0 s1 s2 s3 s4 s5 s6 s7 s8 s9 s10 hSl; clear c0 c1 c2 c3 c4 c5 c6 c7 c8 c9 c10 c11 hPl; replace hP := hP.next hb1; replace hS := hS.next hb1; replace hU := hU.next hb1; replace hX := hX.next hb1; replace hok := hok.trans hb1; replace hF := hF.next hb1; replace hT2 := hT2.next hb1; replace hT3 := hT3.mono (L := K + 1) hK6; clear hb1)
    change Code.wp _ _ _ _ (w7.alloc (.cells (staCells t A3 d3) 30))
    have hKN := hF.lt
    have hW := Own.new w7 (staCells t A3 d3) 30 rfl
    replace hP := hP.alloc (.cells (staCells t A3 d3) 30)
    replace hX := hX.alloc (.cells (staCells t A3 d3) 30)
    replace hF := hF.alloc (.cells (staCells t A3 d3) 30)
    have hON := (Only.refl K w7).alloc (.cells (staCells t A3 d3) 30)
    clear hS hU hPC
    generalize w7.alloc (.cells (staCells t A3 d3) 30) = WA at hP hX hF hW hON ⊢
    generalize hNe : w7.heap.size = N at hW hKN ⊢
    have h7N : w7.heap.size ≤ N := Nat.le_of_eq hNe
    clear hNe
    have hKK : K < K + 1 := Nat.lt_succ_self _
    have hBK : B ≠ K := by omega
    have hBN : B ≠ N := by omega
    have hXKe : X ≠ K := by omega
    have hXN : X ≠ N := by omega
    have hKNe : K ≠ N := by omega
    have HP := Lib.hid fun W' (k : Ok WA.drew W') => hP.drew.next k
    have HF := Lib.hid fun W' (k : Ok WA.drew W') => hF.drew.next k
    have HW := Lib.hid fun W' (k : Ok WA.drew W') => hW.drew.next k
    have HX := Lib.hid fun W' (k : Ok WA.drew W') => hX.drew.next k
    have HT2 := Lib.hid fun W' (k : Ok WA.drew W') => (((hT2.only hON hKK).1).drew).below k
    have HT3 := Lib.hid fun W' (k : Ok WA.drew W') => (((hT3.only hON hKK).1).drew).below k
    have HON := Lib.hid hON
    clear hP hF hW hX hON
    refine wp_region_facts (by kernel_rfl) 90 rfl (VCA B K N p t A2 A3 d2 d3) Ok (by kernel_rfl) (fun i v w w' h k w'' k' => h w'' (k.trans k')) (fun a b c => Ok.trans) (Ok.refl _) [some 33, some 34, some 35, some 36, some 37, some 38, some 39, some 40, some 41, some 42, some 43, some 44, some 45, some 46, some 47, some 48, some 49, some 50, some 51, some 52, some 53] rfl 21 rfl ⟨?_, ?_, ?_, ?_, ?_, ?_, ?_, ?_, ?_, ?_, ?_, ?_, ?_, ?_, ?_, ?_, ?_, ?_, ?_, ?_, ?_, trivial⟩ ?_
    · intro a' w' hF hR
      have e11 : a'.tmps[11]? = some (.pointer (some ⟨K, 0, none⟩)) := hF.slot 11 (by kernel_rfl) rfl
      refine wpOp_run (v := .pointer (some ⟨K, 0, none⟩)) rfl rfl ?_ (fun _ _ => rfl) (Ok.refl _)
      clear hF
      go_simp
    · intro a' w' hF hR
      obtain ⟨v0, hv0, e33⟩ := hF.get 0 33 (by kernel_rfl) (by kernel_rfl)
      obtain rfl : v0 = _ := hv0 _ (Ok.refl _)
      refine wpOp_run (v := .pointer (some ⟨K, 0, none⟩)) rfl rfl ?_ (fun _ _ => rfl) (Ok.refl _)
      clear hF
      go_simp
    · intro a' w' hF hR
      obtain ⟨v1, hv1, e34⟩ := hF.get 1 34 (by kernel_rfl) (by kernel_rfl)
      obtain rfl : v1 = _ := hv1 _ (Ok.refl _)
      refine wpOp_run (v := .pointer (some ⟨K, 12, none⟩)) rfl rfl ?_ (fun _ _ => rfl) (Ok.refl _)
      clear hF
      go_simp
    · intro a' w' hF hR
      obtain ⟨v2, hv2, e35⟩ := hF.get 2 35 (by kernel_rfl) (by kernel_rfl)
      obtain rfl : v2 = _ := hv2 _ (Ok.refl _)
      obtain ⟨s0, s1, s2, s3, s4, s5, s6, s7, s8, s9, s10⟩ := (HF.out _ hR).frS
      have hFl := (HF.out _ hR).lt
      refine wpOp_run (v := .agg #[.int .i64 t.lo, .int .i64 t.hi, .int .i64 t.time, .bool t.set, .int .i64 t.held, .int .i64 t.hops, .bool t.good, .slice A2 t.table.length d2, .int .i64 t.st, .int .i64 t.sn, .int .i64 t.life]) rfl rfl ?_ (fun _ _ => rfl) (Ok.refl _)
      clear hF
      go_simp
    · intro a' w' hF hR
      have e12 : a'.tmps[12]? = some (.pointer (some ⟨N, 0, none⟩)) := hF.slot 12 (by kernel_rfl) rfl
      obtain ⟨y0, y1, y2, y3, y4, y5, y6, y7, y8, y9, y10⟩ := (HW.out _ hR).sta
      have hWl := (HW.out _ hR).lt
      refine wpOp_run (v := .agg #[.int .i64 t.lo, .int .i64 t.hi, .int .i64 t.time, .bool t.set, .int .i64 t.held, .int .i64 t.hops, .bool t.good, .slice A3 t.table.length d3, .int .i64 t.st, .int .i64 t.sn, .int .i64 t.life]) rfl rfl ?_ (fun _ _ => rfl) (Ok.refl _)
      clear hF
      go_simp
    · intro a' w' hF hR
      obtain ⟨v3, hv3, e36⟩ := hF.get 3 36 (by kernel_rfl) (by kernel_rfl)
      obtain rfl : v3 = _ := hv3 _ (Ok.refl _)
      obtain ⟨v4, hv4, e37⟩ := hF.get 4 37 (by kernel_rfl) (by kernel_rfl)
      obtain rfl : v4 = _ := hv4 _ (Ok.refl _)
      clear hF
      refine wpOp_call (f := 12) (args := #[.agg #[.int .i64 t.lo, .int .i64 t.hi, .int .i64 t.time, .bool t.set, .int .i64 t.held, .int .i64 t.hops, .bool t.good, .slice A2 t.table.length d2, .int .i64 t.st, .int .i64 t.sn, .int .i64 t.life], .agg #[.int .i64 t.lo, .int .i64 t.hi, .int .i64 t.time, .bool t.set, .int .i64 t.held, .int .i64 t.hops, .bool t.good, .slice A3 t.table.length d3, .int .i64 t.st, .int .i64 t.sn, .int .i64 t.life]]) rfl rfl ?_ ((KE.out _ A2 A3 d2 d3 (HT2.out _ hR) (HT3.out _ hR)).mono ?_)
      · go_simp
      · rintro e w2 ⟨rfl, hb2⟩; exact ⟨_, rfl, fun _ _ => rfl, hb2⟩
    · intro a' w' hF hR
      obtain ⟨v5, hv5, e38⟩ := hF.get 5 38 (by kernel_rfl) (by kernel_rfl)
      obtain rfl : v5 = _ := hv5 _ (Ok.refl _)
      refine wpOp_run (v := .bool false) rfl rfl ?_ (fun _ _ => rfl) (Ok.refl _)
      clear hF
      go_simp
    · intro a' w' hF hR
      obtain ⟨v6, hv6, e39⟩ := hF.get 6 39 (by kernel_rfl) (by kernel_rfl)
      obtain rfl : v6 = _ := hv6 _ (Ok.refl _)
      refine wpOp_run (v := .bool false) rfl rfl ?_ (fun _ _ => rfl) (Ok.refl _)
      clear hF
      go_simp
    · intro a' w' hF hR
      have e5 : a'.tmps[5]? = some (.pointer (some ⟨B, 0, none⟩)) := hF.slot 5 (by kernel_rfl) rfl
      obtain ⟨vg, hvg, eg⟩ := hF.get 7 40 (by kernel_rfl) (by kernel_rfl)
      obtain rfl : vg = _ := hvg _ (Ok.refl _)
      obtain ⟨c0, c1, c2, c3, c4, c5, c6, c7, c8, c9, c10, c11⟩ := (HP.out _ hR).pars
      have hPl := (HP.out _ hR).lt
      refine wpOp_runG (v := parV p) rfl (wanted_yes rfl (by kernel_rfl) eg) ?_ (fun _ _ => rfl) (Ok.refl _)
      clear hF
      go_simp
    · intro a' w' hF hR
      have e11 : a'.tmps[11]? = some (.pointer (some ⟨K, 0, none⟩)) := hF.slot 11 (by kernel_rfl) rfl
      obtain ⟨vg, hvg, eg⟩ := hF.get 7 40 (by kernel_rfl) (by kernel_rfl)
      obtain rfl : vg = _ := hvg _ (Ok.refl _)
      refine wpOp_runG (v := .pointer (some ⟨K, 0, none⟩)) rfl (wanted_yes rfl (by kernel_rfl) eg) ?_ (fun _ _ => rfl) (Ok.refl _)
      clear hF
      go_simp
    · intro a' w' hF hR
      obtain ⟨v9, hv9, e42⟩ := hF.get 9 42 (by kernel_rfl) (by kernel_rfl)
      obtain rfl : v9 = _ := hv9 _ (Ok.refl _)
      obtain ⟨vg, hvg, eg⟩ := hF.get 7 40 (by kernel_rfl) (by kernel_rfl)
      obtain rfl : vg = _ := hvg _ (Ok.refl _)
      refine wpOp_runG (v := .pointer (some ⟨K, 0, none⟩)) rfl (wanted_yes rfl (by kernel_rfl) eg) ?_ (fun _ _ => rfl) (Ok.refl _)
      clear hF
      go_simp
    · intro a' w' hF hR
      obtain ⟨v10, hv10, e43⟩ := hF.get 10 43 (by kernel_rfl) (by kernel_rfl)
      obtain rfl : v10 = _ := hv10 _ (Ok.refl _)
      obtain ⟨vg, hvg, eg⟩ := hF.get 7 40 (by kernel_rfl) (by kernel_rfl)
      obtain rfl : vg = _ := hvg _ (Ok.refl _)
      refine wpOp_runG (v := .pointer (some ⟨K, 12, none⟩)) rfl (wanted_yes rfl (by kernel_rfl) eg) ?_ (fun _ _ => rfl) (Ok.refl _)
      clear hF
      go_simp
    · intro a' w' hF hR
      obtain ⟨v11, hv11, e44⟩ := hF.get 11 44 (by kernel_rfl) (by kernel_rfl)
      obtain rfl : v11 = _ := hv11 _ (Ok.refl _)
      obtain ⟨vg, hvg, eg⟩ := hF.get 7 40 (by kernel_rfl) (by kernel_rfl)
      obtain rfl : vg = _ := hvg _ (Ok.refl _)
      obtain ⟨s0, s1, s2, s3, s4, s5, s6, s7, s8, s9, s10⟩ := (HF.out _ hR).frS
      have hFl := (HF.out _ hR).lt
      refine wpOp_runG (v := .agg #[.int .i64 t.lo, .int .i64 t.hi, .int .i64 t.time, .bool t.set, .int .i64 t.held, .int .i64 t.hops, .bool t.good, .slice A2 t.table.length d2, .int .i64 t.st, .int .i64 t.sn, .int .i64 t.life]) rfl (wanted_yes rfl (by kernel_rfl) eg) ?_ (fun _ _ => rfl) (Ok.refl _)
      clear hF
      go_simp
    · intro a' w' hF hR
      obtain ⟨v8, hv8, e41⟩ := hF.get 8 41 (by kernel_rfl) (by kernel_rfl)
      obtain rfl : v8 = _ := hv8 _ (Ok.refl _)
      obtain ⟨v12, hv12, e45⟩ := hF.get 12 45 (by kernel_rfl) (by kernel_rfl)
      obtain rfl : v12 = _ := hv12 _ (Ok.refl _)
      obtain ⟨vg, hvg, eg⟩ := hF.get 7 40 (by kernel_rfl) (by kernel_rfl)
      obtain rfl : vg = _ := hvg _ (Ok.refl _)
      refine wpOp_callG (f := 11) (args := #[parV p, .agg #[.int .i64 t.lo, .int .i64 t.hi, .int .i64 t.time, .bool t.set, .int .i64 t.held, .int .i64 t.hops, .bool t.good, .slice A2 t.table.length d2, .int .i64 t.st, .int .i64 t.sn, .int .i64 t.life]]) rfl (wanted_yes rfl (by kernel_rfl) eg) ?_ ((KX.out _ A2 d2 (HT2.out _ hR)).mono ?_)
      · go_simp
      · rintro e w2 ⟨A2, c2, rfl, hI2, hb2⟩; exact ⟨_, rfl, fun w3 k => ⟨A2, c2, rfl, hI2.1.below k⟩, hb2⟩
    · intro a' w' hF hR
      have e11 : a'.tmps[11]? = some (.pointer (some ⟨K, 0, none⟩)) := hF.slot 11 (by kernel_rfl) rfl
      obtain ⟨vg, hvg, eg⟩ := hF.get 7 40 (by kernel_rfl) (by kernel_rfl)
      obtain rfl : vg = _ := hvg _ (Ok.refl _)
      refine wpOp_runG (v := .pointer (some ⟨K, 0, none⟩)) rfl (wanted_yes rfl (by kernel_rfl) eg) ?_ (fun _ _ => rfl) (Ok.refl _)
      clear hF
      go_simp
    · intro a' w' hF hR
      obtain ⟨v14, hv14, e47⟩ := hF.get 14 47 (by kernel_rfl) (by kernel_rfl)
      obtain rfl : v14 = _ := hv14 _ (Ok.refl _)
      obtain ⟨vg, hvg, eg⟩ := hF.get 7 40 (by kernel_rfl) (by kernel_rfl)
      obtain rfl : vg = _ := hvg _ (Ok.refl _)
      refine wpOp_runG (v := .pointer (some ⟨K, 0, none⟩)) rfl (wanted_yes rfl (by kernel_rfl) eg) ?_ (fun _ _ => rfl) (Ok.refl _)
      clear hF
      go_simp
    · intro a' w' hF hR
      obtain ⟨v15, hv15, e48⟩ := hF.get 15 48 (by kernel_rfl) (by kernel_rfl)
      obtain rfl : v15 = _ := hv15 _ (Ok.refl _)
      obtain ⟨vg, hvg, eg⟩ := hF.get 7 40 (by kernel_rfl) (by kernel_rfl)
      obtain rfl : vg = _ := hvg _ (Ok.refl _)
      refine wpOp_runG (v := .pointer (some ⟨K, 12, none⟩)) rfl (wanted_yes rfl (by kernel_rfl) eg) ?_ (fun _ _ => rfl) (Ok.refl _)
      clear hF
      go_simp
    · intro a' w' hF hR
      obtain ⟨v16, hv16, e49⟩ := hF.get 16 49 (by kernel_rfl) (by kernel_rfl)
      obtain rfl : v16 = _ := hv16 _ (Ok.refl _)
      obtain ⟨vg, hvg, eg⟩ := hF.get 7 40 (by kernel_rfl) (by kernel_rfl)
      obtain rfl : vg = _ := hvg _ (Ok.refl _)
      obtain ⟨s0, s1, s2, s3, s4, s5, s6, s7, s8, s9, s10⟩ := (HF.out _ hR).frS
      have hFl := (HF.out _ hR).lt
      refine wpOp_runG (v := .agg #[.int .i64 t.lo, .int .i64 t.hi, .int .i64 t.time, .bool t.set, .int .i64 t.held, .int .i64 t.hops, .bool t.good, .slice A2 t.table.length d2, .int .i64 t.st, .int .i64 t.sn, .int .i64 t.life]) rfl (wanted_yes rfl (by kernel_rfl) eg) ?_ (fun _ _ => rfl) (Ok.refl _)
      clear hF
      go_simp
    · intro a' w' hF hR
      obtain ⟨v13, hv13, e46⟩ := hF.get 13 46 (by kernel_rfl) (by kernel_rfl)
      obtain ⟨A13, c13, rfl, hp13⟩ := hv13 _ (Ok.refl _)
      obtain ⟨v17, hv17, e50⟩ := hF.get 17 50 (by kernel_rfl) (by kernel_rfl)
      obtain rfl : v17 = _ := hv17 _ (Ok.refl _)
      obtain ⟨vg, hvg, eg⟩ := hF.get 7 40 (by kernel_rfl) (by kernel_rfl)
      obtain rfl : vg = _ := hvg _ (Ok.refl _)
      refine wpOp_callG (f := 12) (args := #[staV t A13 c13, .agg #[.int .i64 t.lo, .int .i64 t.hi, .int .i64 t.time, .bool t.set, .int .i64 t.held, .int .i64 t.hops, .bool t.good, .slice A2 t.table.length d2, .int .i64 t.st, .int .i64 t.sn, .int .i64 t.life]]) rfl (wanted_yes rfl (by kernel_rfl) eg) ?_ ((KE.out _ A13 A2 c13 d2 hp13 (HT2.out _ hR)).mono ?_)
      · go_simp
      · rintro e w2 ⟨rfl, hb2⟩; exact ⟨_, rfl, fun _ _ => rfl, hb2⟩
    · intro a' w' hF hR
      obtain ⟨v18, hv18, e51⟩ := hF.get 18 51 (by kernel_rfl) (by kernel_rfl)
      obtain rfl : v18 = _ := hv18 _ (Ok.refl _)
      obtain ⟨vg, hvg, eg⟩ := hF.get 7 40 (by kernel_rfl) (by kernel_rfl)
      obtain rfl : vg = _ := hvg _ (Ok.refl _)
      refine wpOp_runG (v := .bool false) rfl (wanted_yes rfl (by kernel_rfl) eg) ?_ (fun _ _ => rfl) (Ok.refl _)
      clear hF
      go_simp
    · intro a' w' hF hR
      obtain ⟨v7, hv7, e40⟩ := hF.get 7 40 (by kernel_rfl) (by kernel_rfl)
      obtain rfl : v7 = _ := hv7 _ (Ok.refl _)
      obtain ⟨v19, hv19, e52⟩ := hF.get 19 52 (by kernel_rfl) (by kernel_rfl)
      obtain rfl : v19 = _ := hv19 _ (Ok.refl _)
      refine wpOp_run (v := .bool false) rfl rfl ?_ (fun _ _ => rfl) (Ok.refl _)
      clear hF
      go_simp
    intro vs w8 hV hR
    have eL : vs 20 = .bool false := hV 20 (by decide) _ (Ok.refl _)
    have hP := HP.out _ hR
    have hF := HF.out _ hR
    have hW := HW.out _ hR
    have hX := HX.out _ hR
    have hON := HON.out.ok ((Ok.refl WA).drew.trans hR)
    clear hV HP HF HW HX HT2 HT3 HON
    simp only [putFrom, eL]
    simp only [Act.put, List.setIfInBounds_toArray, List.set_cons_zero, List.set_cons_succ]
    go_upto_region 11 with (go_at_call 20; refine (KFT.out _ _ _ _ hF).mono ?_; rintro e w9 ⟨rfl, hF9, hO⟩; clear hF; replace hP := hO.own hP hBK; replace hX := hO.own hX hXKe; replace hW := hO.own hW (Ne.symm hKNe); replace hON := hON.trans hO; clear hO; have hF := hF9; clear hF9)
    change Code.wp _ _ _ _ (w9.alloc (.cells #[.int .i64 k1, .int .i64 k2] 28))
    have hNT := hW.lt
    have hS := Own.new w9 #[.int .i64 k1, .int .i64 k2] 28 rfl
    replace hP := hP.alloc (.cells #[.int .i64 k1, .int .i64 k2] 28)
    replace hX := hX.alloc (.cells #[.int .i64 k1, .int .i64 k2] 28)
    replace hF := hF.alloc (.cells #[.int .i64 k1, .int .i64 k2] 28)
    replace hW := hW.alloc (.cells #[.int .i64 k1, .int .i64 k2] 28)
    replace hON := hON.alloc (.cells #[.int .i64 k1, .int .i64 k2] 28)
    generalize w9.alloc (.cells #[.int .i64 k1, .int .i64 k2] 28) = WB at hP hX hF hW hON hS ⊢
    generalize w9.heap.size = T at hS hNT ⊢
    have hTN : T ≠ N := by omega
    obtain ⟨y0, y1, y2, y3, y4, y5, y6, y7, y8, y9, y10⟩ := hW.sta; obtain ⟨z0, z1, z2, z3, z4, z5, z6, z7, z8, z9, z10⟩ := frozenSta hW; have hWl := hW.lt
    go_upto_region 12 with (go_at_call 21; refine (KRT.out _ A3 d3).mono ?_; rintro e w10 ⟨rfl, hb1⟩; clear y0 y1 y2 y3 y4 y5 y6 y7 y8 y9 y10 z0 z1 z2 z3 z4 z5 z6 z7 z8 z9 z10 hWl; replace hP := hP.next hb1; replace hX := hX.next hb1; replace hF := hF.next hb1; replace hW := hW.next hb1; replace hS := hS.next hb1; replace hON := hON.ok hb1; clear hb1; obtain ⟨y0, y1, y2, y3, y4, y5, y6, y7, y8, y9, y10⟩ := hW.sta; obtain ⟨z0, z1, z2, z3, z4, z5, z6, z7, z8, z9, z10⟩ := frozenSta hW; have hWl := hW.lt)
    clear y0 y1 y2 y3 y4 y5 y6 y7 y8 y9 y10 z0 z1 z2 z3 z4 z5 z6 z7 z8 z9 z10 hWl
    have hW' := own_set11 hW q A3 d3
    have hO := only_set11 (Only.refl N w10) (.inl rfl) q A3 d3
    have hON' := only_set11 hON (.inr h7N) q A3 d3
    replace hP := hO.own hP hBN
    replace hX := hO.own hX hXN
    replace hF := hO.own hF hKNe
    replace hS := hO.own hS hTN
    clear hO hW hON
    generalize (((((((((((w10.setCell ⟨N, 0, none⟩ (.int .i64 q.lo)).setCell ⟨N, 1, none⟩ (.int .i64 q.hi)).setCell ⟨N, 2, none⟩ (.int .i64 q.time)).setCell ⟨N, 3, none⟩ (.bool q.set)).setCell ⟨N, 4, none⟩ (.int .i64 q.held)).setCell ⟨N, 5, none⟩ (.int .i64 q.hops)).setCell ⟨N, 6, none⟩ (.bool q.good)).setCell ⟨N, 7, none⟩ (.slice A3 q.table.length d3)).setCell ⟨N, 8, none⟩ (.int .i64 q.st)).setCell ⟨N, 9, none⟩ (.int .i64 q.sn)).setCell ⟨N, 10, none⟩ (.int .i64 q.life)) = WC at hW' hP hX hF hS hON' ⊢
    have hW := hW'
    have hON := hON'
    clear hW' hON'
    have HS := Lib.hid fun W' (k : Ok WC.drew W') => hS.drew.next k
    clear hS
    have HP := Lib.hid fun W' (k : Ok WC.drew W') => hP.drew.next k
    have HF := Lib.hid fun W' (k : Ok WC.drew W') => hF.drew.next k
    have HW := Lib.hid fun W' (k : Ok WC.drew W') => hW.drew.next k
    have HX := Lib.hid fun W' (k : Ok WC.drew W') => hX.drew.next k
    have HT2 := Lib.hid fun W' (k : Ok WC.drew W') => (((hT2.only hON hKK).1).drew).below k
    have HT3 := Lib.hid fun W' (k : Ok WC.drew W') => (((hT3.only hON hKK).1).drew).below k
    have HON := Lib.hid hON
    clear hP hF hW hX hON
    refine wp_region_facts (by kernel_rfl) 90 rfl (VCB T K N q A2 A3 d2 d3 k1 k2) Ok (by kernel_rfl) (fun i v w w' h k w'' k' => h w'' (k.trans k')) (fun a b c => Ok.trans) (Ok.refl _) [some 61, some 62, some 63, some 64, some 65, some 66, some 67, some 68, some 69, some 70, some 71, some 72, some 73, some 74, some 75, some 76, some 77] rfl 17 rfl ⟨?_, ?_, ?_, ?_, ?_, ?_, ?_, ?_, ?_, ?_, ?_, ?_, ?_, ?_, ?_, ?_, ?_, trivial⟩ ?_
    · intro a' w' hF hR
      have e14 : a'.tmps[14]? = some (.int .i64 0) := hF.slot 14 (by kernel_rfl) rfl
      refine wpOp_run (v := .int .i64 0) rfl rfl ?_ (fun _ _ => rfl) (Ok.refl _)
      clear hF
      go_simp
    · intro a' w' hF hR
      obtain ⟨v0, hv0, e61⟩ := hF.get 0 61 (by kernel_rfl) (by kernel_rfl)
      obtain rfl : v0 = _ := hv0 _ (Ok.refl _)
      refine wpOp_run (v := .bool false) rfl rfl ?_ (fun _ _ => rfl) (Ok.refl _)
      clear hF
      go_simp
    · intro a' w' hF hR
      obtain ⟨v1, hv1, e62⟩ := hF.get 1 62 (by kernel_rfl) (by kernel_rfl)
      obtain rfl : v1 = _ := hv1 _ (Ok.refl _)
      refine wpOp_run (v := .bool false) rfl rfl ?_ (fun _ _ => rfl) (Ok.refl _)
      clear hF
      go_simp
    · intro a' w' hF hR
      have e13 : a'.tmps[13]? = some (.pointer (some ⟨T, 0, none⟩)) := hF.slot 13 (by kernel_rfl) rfl
      obtain ⟨vg, hvg, eg⟩ := hF.get 2 63 (by kernel_rfl) (by kernel_rfl)
      obtain rfl : vg = _ := hvg _ (Ok.refl _)
      have x0 := (HS.out _ hR).cell 0 (v := .int .i64 k1) rfl
      have x9 := (HS.out _ hR).cell 1 (v := .int .i64 k2) rfl
      have hXl := (HS.out _ hR).lt
      refine wpOp_runG (v := .agg #[.int .i64 k1, .int .i64 k2]) rfl (wanted_yes rfl (by kernel_rfl) eg) ?_ (fun _ _ => rfl) (Ok.refl _)
      clear hF
      go_simp
    · intro a' w' hF hR
      have e12 : a'.tmps[12]? = some (.pointer (some ⟨N, 0, none⟩)) := hF.slot 12 (by kernel_rfl) rfl
      obtain ⟨vg, hvg, eg⟩ := hF.get 2 63 (by kernel_rfl) (by kernel_rfl)
      obtain rfl : vg = _ := hvg _ (Ok.refl _)
      refine wpOp_runG (v := .pointer (some ⟨N, 8, none⟩)) rfl (wanted_yes rfl (by kernel_rfl) eg) ?_ (fun _ _ => rfl) (Ok.refl _)
      clear hF
      go_simp
    · intro a' w' hF hR
      obtain ⟨v4, hv4, e65⟩ := hF.get 4 65 (by kernel_rfl) (by kernel_rfl)
      obtain rfl : v4 = _ := hv4 _ (Ok.refl _)
      obtain ⟨vg, hvg, eg⟩ := hF.get 2 63 (by kernel_rfl) (by kernel_rfl)
      obtain rfl : vg = _ := hvg _ (Ok.refl _)
      have n8 := (HW.out _ hR).cell 8 (v := .int .i64 k1) (by rw [← HQ1.out]; rfl)
      have n9 := (HW.out _ hR).cell 9 (v := .int .i64 k2) (by rw [← HQ2.out]; rfl)
      have hWl := (HW.out _ hR).lt
      refine wpOp_runG (v := .agg #[.int .i64 k1, .int .i64 k2]) rfl (wanted_yes rfl (by kernel_rfl) eg) ?_ (fun _ _ => rfl) (Ok.refl _)
      clear hF
      go_simp
    · intro a' w' hF hR
      obtain ⟨v3, hv3, e64⟩ := hF.get 3 64 (by kernel_rfl) (by kernel_rfl)
      obtain rfl : v3 = _ := hv3 _ (Ok.refl _)
      obtain ⟨v5, hv5, e66⟩ := hF.get 5 66 (by kernel_rfl) (by kernel_rfl)
      obtain rfl : v5 = _ := hv5 _ (Ok.refl _)
      obtain ⟨vg, hvg, eg⟩ := hF.get 2 63 (by kernel_rfl) (by kernel_rfl)
      obtain rfl : vg = _ := hvg _ (Ok.refl _)
      have hE := eqStamp20 k1 k2 k1 k2
      have hq : (k1 == k1 && k2 == k2) = true := by simp
      rw [hq] at hE
      refine wpOp_runG (v := .bool false) rfl (wanted_yes rfl (by kernel_rfl) eg) ?_ (fun _ _ => rfl) (Ok.refl _)
      clear hF
      go_simp
    · intro a' w' hF hR
      obtain ⟨v2, hv2, e63⟩ := hF.get 2 63 (by kernel_rfl) (by kernel_rfl)
      obtain rfl : v2 = _ := hv2 _ (Ok.refl _)
      obtain ⟨v6, hv6, e67⟩ := hF.get 6 67 (by kernel_rfl) (by kernel_rfl)
      obtain rfl : v6 = _ := hv6 _ (Ok.refl _)
      refine wpOp_run (v := .bool false) rfl rfl ?_ (fun _ _ => rfl) (Ok.refl _)
      clear hF
      go_simp
    · intro a' w' hF hR
      obtain ⟨v7, hv7, e68⟩ := hF.get 7 68 (by kernel_rfl) (by kernel_rfl)
      obtain rfl : v7 = _ := hv7 _ (Ok.refl _)
      refine wpOp_run (v := .bool false) rfl rfl ?_ (fun _ _ => rfl) (Ok.refl _)
      clear hF
      go_simp
    · intro a' w' hF hR
      have e11 : a'.tmps[11]? = some (.pointer (some ⟨K, 0, none⟩)) := hF.slot 11 (by kernel_rfl) rfl
      obtain ⟨vg, hvg, eg⟩ := hF.get 8 69 (by kernel_rfl) (by kernel_rfl)
      obtain rfl : vg = _ := hvg _ (Ok.refl _)
      refine wpOp_runG (v := .pointer (some ⟨K, 0, none⟩)) rfl (wanted_yes rfl (by kernel_rfl) eg) ?_ (fun _ _ => rfl) (Ok.refl _)
      clear hF
      go_simp
    · intro a' w' hF hR
      obtain ⟨v9, hv9, e70⟩ := hF.get 9 70 (by kernel_rfl) (by kernel_rfl)
      obtain rfl : v9 = _ := hv9 _ (Ok.refl _)
      obtain ⟨vg, hvg, eg⟩ := hF.get 8 69 (by kernel_rfl) (by kernel_rfl)
      obtain rfl : vg = _ := hvg _ (Ok.refl _)
      refine wpOp_runG (v := .pointer (some ⟨K, 0, none⟩)) rfl (wanted_yes rfl (by kernel_rfl) eg) ?_ (fun _ _ => rfl) (Ok.refl _)
      clear hF
      go_simp
    · intro a' w' hF hR
      obtain ⟨v10, hv10, e71⟩ := hF.get 10 71 (by kernel_rfl) (by kernel_rfl)
      obtain rfl : v10 = _ := hv10 _ (Ok.refl _)
      obtain ⟨vg, hvg, eg⟩ := hF.get 8 69 (by kernel_rfl) (by kernel_rfl)
      obtain rfl : vg = _ := hvg _ (Ok.refl _)
      refine wpOp_runG (v := .pointer (some ⟨K, 12, none⟩)) rfl (wanted_yes rfl (by kernel_rfl) eg) ?_ (fun _ _ => rfl) (Ok.refl _)
      clear hF
      go_simp
    · intro a' w' hF hR
      obtain ⟨v11, hv11, e72⟩ := hF.get 11 72 (by kernel_rfl) (by kernel_rfl)
      obtain rfl : v11 = _ := hv11 _ (Ok.refl _)
      obtain ⟨vg, hvg, eg⟩ := hF.get 8 69 (by kernel_rfl) (by kernel_rfl)
      obtain rfl : vg = _ := hvg _ (Ok.refl _)
      obtain ⟨s0, s1, s2, s3, s4, s5, s6, s7, s8, s9, s10⟩ := (HF.out _ hR).frS
      have hFl := (HF.out _ hR).lt
      refine wpOp_runG (v := .agg #[.int .i64 q.lo, .int .i64 q.hi, .int .i64 q.time, .bool q.set, .int .i64 q.held, .int .i64 q.hops, .bool q.good, .slice A2 q.table.length d2, .int .i64 q.st, .int .i64 q.sn, .int .i64 q.life]) rfl (wanted_yes rfl (by kernel_rfl) eg) ?_ (fun _ _ => rfl) (Ok.refl _)
      clear hF
      go_simp
    · intro a' w' hF hR
      have e12 : a'.tmps[12]? = some (.pointer (some ⟨N, 0, none⟩)) := hF.slot 12 (by kernel_rfl) rfl
      obtain ⟨vg, hvg, eg⟩ := hF.get 8 69 (by kernel_rfl) (by kernel_rfl)
      obtain rfl : vg = _ := hvg _ (Ok.refl _)
      obtain ⟨y0, y1, y2, y3, y4, y5, y6, y7, y8, y9, y10⟩ := (HW.out _ hR).sta
      have hWl := (HW.out _ hR).lt
      refine wpOp_runG (v := .agg #[.int .i64 q.lo, .int .i64 q.hi, .int .i64 q.time, .bool q.set, .int .i64 q.held, .int .i64 q.hops, .bool q.good, .slice A3 q.table.length d3, .int .i64 q.st, .int .i64 q.sn, .int .i64 q.life]) rfl (wanted_yes rfl (by kernel_rfl) eg) ?_ (fun _ _ => rfl) (Ok.refl _)
      clear hF
      go_simp
    · intro a' w' hF hR
      obtain ⟨v12, hv12, e73⟩ := hF.get 12 73 (by kernel_rfl) (by kernel_rfl)
      obtain rfl : v12 = _ := hv12 _ (Ok.refl _)
      obtain ⟨v13, hv13, e74⟩ := hF.get 13 74 (by kernel_rfl) (by kernel_rfl)
      obtain rfl : v13 = _ := hv13 _ (Ok.refl _)
      obtain ⟨vg, hvg, eg⟩ := hF.get 8 69 (by kernel_rfl) (by kernel_rfl)
      obtain rfl : vg = _ := hvg _ (Ok.refl _)
      refine wpOp_callG (f := 12) (args := #[.agg #[.int .i64 q.lo, .int .i64 q.hi, .int .i64 q.time, .bool q.set, .int .i64 q.held, .int .i64 q.hops, .bool q.good, .slice A2 q.table.length d2, .int .i64 q.st, .int .i64 q.sn, .int .i64 q.life], .agg #[.int .i64 q.lo, .int .i64 q.hi, .int .i64 q.time, .bool q.set, .int .i64 q.held, .int .i64 q.hops, .bool q.good, .slice A3 q.table.length d3, .int .i64 q.st, .int .i64 q.sn, .int .i64 q.life]]) rfl (wanted_yes rfl (by kernel_rfl) eg) ?_ ((KE2.out _ A2 A3 d2 d3 (HT2.out _ hR) (HT3.out _ hR)).mono ?_)
      · go_simp
      · rintro e w2 ⟨rfl, hb2⟩; exact ⟨_, rfl, fun _ _ => rfl, hb2⟩
    · intro a' w' hF hR
      obtain ⟨v14, hv14, e75⟩ := hF.get 14 75 (by kernel_rfl) (by kernel_rfl)
      obtain rfl : v14 = _ := hv14 _ (Ok.refl _)
      obtain ⟨vg, hvg, eg⟩ := hF.get 8 69 (by kernel_rfl) (by kernel_rfl)
      obtain rfl : vg = _ := hvg _ (Ok.refl _)
      refine wpOp_runG (v := .bool false) rfl (wanted_yes rfl (by kernel_rfl) eg) ?_ (fun _ _ => rfl) (Ok.refl _)
      clear hF
      go_simp
    · intro a' w' hF hR
      obtain ⟨v8, hv8, e69⟩ := hF.get 8 69 (by kernel_rfl) (by kernel_rfl)
      obtain rfl : v8 = _ := hv8 _ (Ok.refl _)
      obtain ⟨v15, hv15, e76⟩ := hF.get 15 76 (by kernel_rfl) (by kernel_rfl)
      obtain rfl : v15 = _ := hv15 _ (Ok.refl _)
      refine wpOp_run (v := .bool false) rfl rfl ?_ (fun _ _ => rfl) (Ok.refl _)
      clear hF
      go_simp
    intro vs w12 hV hR
    have eL : vs 16 = .bool false := hV 16 (by decide) _ (Ok.refl _)
    have hP := HP.out _ hR
    have hF := HF.out _ hR
    have hW := HW.out _ hR
    have hX := HX.out _ hR
    have hON := HON.out.ok ((Ok.refl WC).drew.trans hR)
    clear hV HP HF HW HX HT2 HT3 HON
    simp only [putFrom, eL]
    simp only [Act.put, List.setIfInBounds_toArray, List.set_cons_zero, List.set_cons_succ]
    clear HS
    have x0 := hX.cell 0 (v := .int .i64 x1) rfl
    have x9 := hX.cell 1 (v := .int .i64 x2) rfl
    have hXl := hX.lt
    go_upto_region 15 with (go_at_call 22; refine (KFL.out _ _ _ _ hF).mono ?_; rintro e w11 ⟨rfl, hF9, hO⟩; clear hF x0 x9 hXl; replace hP := hO.own hP hBK; replace hX := hO.own hX hXKe; replace hW := hO.own hW (Ne.symm hKNe); replace hON := hON.trans hO; clear hO; have hF := hF9; clear hF9)
    have HP := Lib.hid fun W' (k : Ok w11.drew W') => hP.drew.next k
    have HF := Lib.hid fun W' (k : Ok w11.drew W') => hF.drew.next k
    have HW := Lib.hid fun W' (k : Ok w11.drew W') => hW.drew.next k
    have HX := Lib.hid fun W' (k : Ok w11.drew W') => hX.drew.next k
    have HT2 := Lib.hid fun W' (k : Ok w11.drew W') => (((hT2.only hON hKK).1).drew).below k
    have HT3 := Lib.hid fun W' (k : Ok w11.drew W') => (((hT3.only hON hKK).1).drew).below k
    have HON := Lib.hid hON
    clear hP hF hW hX hON
    refine wp_region_facts (by kernel_rfl) 90 rfl (VCC B X K N p q z A2 A3 d2 d3 x1 x2) Ok (by kernel_rfl) (fun i v w w' h k w'' k' => h w'' (k.trans k')) (fun a b c => Ok.trans) (Ok.refl _) [some 81, some 82, some 83, some 84, some 85, some 86, some 87, some 88, some 89, some 10] rfl 10 rfl ⟨?_, ?_, ?_, ?_, ?_, ?_, ?_, ?_, ?_, ?_, trivial⟩ ?_
    · intro a' w' hF hR
      have e11 : a'.tmps[11]? = some (.pointer (some ⟨K, 0, none⟩)) := hF.slot 11 (by kernel_rfl) rfl
      refine wpOp_run (v := .pointer (some ⟨K, 0, none⟩)) rfl rfl ?_ (fun _ _ => rfl) (Ok.refl _)
      clear hF
      go_simp
    · intro a' w' hF hR
      obtain ⟨v0, hv0, e81⟩ := hF.get 0 81 (by kernel_rfl) (by kernel_rfl)
      obtain rfl : v0 = _ := hv0 _ (Ok.refl _)
      refine wpOp_run (v := .pointer (some ⟨K, 0, none⟩)) rfl rfl ?_ (fun _ _ => rfl) (Ok.refl _)
      clear hF
      go_simp
    · intro a' w' hF hR
      obtain ⟨v1, hv1, e82⟩ := hF.get 1 82 (by kernel_rfl) (by kernel_rfl)
      obtain rfl : v1 = _ := hv1 _ (Ok.refl _)
      refine wpOp_run (v := .pointer (some ⟨K, 12, none⟩)) rfl rfl ?_ (fun _ _ => rfl) (Ok.refl _)
      clear hF
      go_simp
    · intro a' w' hF hR
      obtain ⟨v2, hv2, e83⟩ := hF.get 2 83 (by kernel_rfl) (by kernel_rfl)
      obtain rfl : v2 = _ := hv2 _ (Ok.refl _)
      obtain ⟨s0, s1, s2, s3, s4, s5, s6, s7, s8, s9, s10⟩ := (HF.out _ hR).frS
      have hFl := (HF.out _ hR).lt
      refine wpOp_run (v := .agg #[.int .i64 z.lo, .int .i64 z.hi, .int .i64 z.time, .bool z.set, .int .i64 z.held, .int .i64 z.hops, .bool z.good, .slice A2 z.table.length d2, .int .i64 z.st, .int .i64 z.sn, .int .i64 z.life]) rfl rfl ?_ (fun _ _ => rfl) (Ok.refl _)
      clear hF
      go_simp
    · intro a' w' hF hR
      have e5 : a'.tmps[5]? = some (.pointer (some ⟨B, 0, none⟩)) := hF.slot 5 (by kernel_rfl) rfl
      obtain ⟨c0, c1, c2, c3, c4, c5, c6, c7, c8, c9, c10, c11⟩ := (HP.out _ hR).pars
      have hPl := (HP.out _ hR).lt
      refine wpOp_run (v := parV p) rfl rfl ?_ (fun _ _ => rfl) (Ok.refl _)
      clear hF
      go_simp
    · intro a' w' hF hR
      have e12 : a'.tmps[12]? = some (.pointer (some ⟨N, 0, none⟩)) := hF.slot 12 (by kernel_rfl) rfl
      obtain ⟨y0, y1, y2, y3, y4, y5, y6, y7, y8, y9, y10⟩ := (HW.out _ hR).sta
      have hWl := (HW.out _ hR).lt
      refine wpOp_run (v := .agg #[.int .i64 q.lo, .int .i64 q.hi, .int .i64 q.time, .bool q.set, .int .i64 q.held, .int .i64 q.hops, .bool q.good, .slice A3 q.table.length d3, .int .i64 q.st, .int .i64 q.sn, .int .i64 q.life]) rfl rfl ?_ (fun _ _ => rfl) (Ok.refl _)
      clear hF
      go_simp
    · intro a' w' hF hR
      have e9 : a'.tmps[9]? = some (.pointer (some ⟨X, 0, none⟩)) := hF.slot 9 (by kernel_rfl) rfl
      have x0 := (HX.out _ hR).cell 0 (v := .int .i64 x1) rfl
      have x9 := (HX.out _ hR).cell 1 (v := .int .i64 x2) rfl
      have hXl := (HX.out _ hR).lt
      refine wpOp_run (v := .agg #[.int .i64 x1, .int .i64 x2]) rfl rfl ?_ (fun _ _ => rfl) (Ok.refl _)
      clear hF
      go_simp
    · intro a' w' hF hR
      obtain ⟨v4, hv4, e85⟩ := hF.get 4 85 (by kernel_rfl) (by kernel_rfl)
      obtain rfl : v4 = _ := hv4 _ (Ok.refl _)
      obtain ⟨v5, hv5, e86⟩ := hF.get 5 86 (by kernel_rfl) (by kernel_rfl)
      obtain rfl : v5 = _ := hv5 _ (Ok.refl _)
      obtain ⟨v6, hv6, e87⟩ := hF.get 6 87 (by kernel_rfl) (by kernel_rfl)
      obtain rfl : v6 = _ := hv6 _ (Ok.refl _)
      clear hF
      refine wpOp_call (f := 23) (args := #[parV p, .agg #[.int .i64 q.lo, .int .i64 q.hi, .int .i64 q.time, .bool q.set, .int .i64 q.held, .int .i64 q.hops, .bool q.good, .slice A3 q.table.length d3, .int .i64 q.st, .int .i64 q.sn, .int .i64 q.life], .agg #[.int .i64 x1, .int .i64 x2]]) rfl rfl ?_ ((KRL.out _ A3 d3).mono ?_)
      · go_simp
      · rintro e w2 ⟨rfl, hb2⟩; exact ⟨_, rfl, fun _ _ => rfl, hb2⟩
    · intro a' w' hF hR
      obtain ⟨v3, hv3, e84⟩ := hF.get 3 84 (by kernel_rfl) (by kernel_rfl)
      obtain rfl : v3 = _ := hv3 _ (Ok.refl _)
      obtain ⟨v7, hv7, e88⟩ := hF.get 7 88 (by kernel_rfl) (by kernel_rfl)
      obtain rfl : v7 = _ := hv7 _ (Ok.refl _)
      clear hF
      refine wpOp_call (f := 12) (args := #[.agg #[.int .i64 z.lo, .int .i64 z.hi, .int .i64 z.time, .bool z.set, .int .i64 z.held, .int .i64 z.hops, .bool z.good, .slice A2 z.table.length d2, .int .i64 z.st, .int .i64 z.sn, .int .i64 z.life], staV z A3 d3]) rfl rfl ?_ ((KE3.out _ A2 A3 d2 d3 (HT2.out _ hR) (HT3.out _ hR)).mono ?_)
      · go_simp
      · rintro e w2 ⟨rfl, hb2⟩; exact ⟨_, rfl, fun _ _ => rfl, hb2⟩
    · intro a' w' hF hR
      obtain ⟨v8, hv8, e89⟩ := hF.get 8 89 (by kernel_rfl) (by kernel_rfl)
      obtain rfl : v8 = _ := hv8 _ (Ok.refl _)
      refine wpOp_run (v := .bool true) rfl rfl ?_ (fun _ _ => rfl) (Ok.refl _)
      clear hF
      go_simp
    intro vs w13 hV hR
    have eL : vs 9 = .bool true := hV 9 (by decide) _ (Ok.refl _)
    have hP := HP.out _ hR
    have hF := HF.out _ hR
    have hW := HW.out _ hR
    have hX := HX.out _ hR
    have hON := HON.out.ok ((Ok.refl w11).drew.trans hR)
    clear hV HP HF HW HX HT2 HT3 HON
    simp only [putFrom, eL]
    simp only [Act.put, List.setIfInBounds_toArray, List.set_cons_zero, List.set_cons_succ]
    have hok2 := hON.then_ok hok hwK
    go_wp2_with fail
    go_ret
    exact ⟨rfl, hok2⟩
theorem walk (w : World) (p : Par) (wp : ParWf p) (s : Sta) (A : Option Addr) (cap : Nat) (hA : PairsAt w A s.table) (hcs : s.table.length ≤ cap) (hms : cap ≤ maxLen) (ws : StaWf s) (ticks : Int) (wticks : (Lit.int .i64 ticks).wf = true) (u : Sta) (C : Option Addr) (cup : Nat) (hC : PairsAt w C u.table) (hcu : u.table.length ≤ cup) (hmu : cup ≤ maxLen) (wu : StaWf u) (x1 x2 : Int) (wx1 : (Lit.int .i64 x1).wf = true) (wx2 : (Lit.int .i64 x2).wf = true) :
    Calls Try.prog 4 #[parV p, staV s A cap, .int .i64 ticks, staV u C cup, .agg #[.int .i64 x1, .int .i64 x2]] w fun e w' => e = .returned (.bool true) ∧ Below w.heap.size w w' :=
  walkF front21 w p s A cap ticks u C cup x1 x2 hC (Nat.le_trans hcu (Nat.le_trans hmu (by decide)))
theorem own : ownKnob Try.prog.godebug = none := by kernel_rfl
theorem laidOut : laidOutB Try.prog = true := by kernel_rfl
set_option maxRecDepth 100000 in
theorem lifted (os : Os) (started : os.Started) (H : Type) (enc : TypeId × Value → H) :
    ReturnsInHanded {} Try.checked os 4 .any (Rows.healthStepsSpec.pre6 enc Try.prog Try.f4 Rows.healthStepsRow.domain false) (Rows.healthStepsSpec.post enc Try.prog Try.f4 false true false false) := by
  refine returnsInHanded_of_change (C := Try.checked) own started (by kernel_rfl) Try.func4
    (ChangeSpec.witness6 (enc := enc) (C := Try.checked) false ⟨#[], #[.agg #[.int .i64 0, .int .i64 0, .int .i64 0, .int .i64 0, .int .i64 0, .int .i64 0, .int .i64 0, .int .i64 0, .int .i64 0, .int .i64 0, .int .i64 0, .int .i64 0], .agg #[.int .i64 0, .int .i64 0, .int .i64 0, .bool false, .int .i64 0, .int .i64 0, .bool false, .slice none 0 0, .int .i64 0, .int .i64 0, .int .i64 0], .int .i64 0, .agg #[.int .i64 0, .int .i64 0, .int .i64 0, .bool false, .int .i64 0, .int .i64 0, .bool false, .slice none 0 0, .int .i64 0, .int .i64 0, .int .i64 0], .agg #[.int .i64 0, .int .i64 0]], []⟩ 8 (by kernel_rfl) (by kernel_rfl) (by kernel_rfl) (by kernel_rfl)) ?_
  intro W base args ds gs before hval0 hW _ _
  have hval : ∀ (j : Nat) t v, Try.f4.params[j]? = some t → args[j]? = some v → Value.okWide Try.prog W .any base t v := hval0
  have hW' := hW
  obtain ⟨p, q, hA, hV, rfl, _, _⟩ := hW
  obtain ⟨rfl, rfl⟩ := trodVars_none hV
  replace hA : DataW.TrodAll enc Try.prog W 0 (fun _ => true) true Try.f4.params.toList args.toList ds p := hA
  rw [Try.params4] at hA hval
  obtain ⟨v0, vs0, d0, ds0, p0, q0, hargs, rfl, rfl, h0, r0⟩ := trodAll_cons hA
  obtain ⟨v1, vs1, d1, ds1, p1, q1, rfl, rfl, rfl, h1, r1⟩ := trodAll_cons r0
  obtain ⟨v2, vs2, d2, ds2, p2, q2, rfl, rfl, rfl, h2, r2⟩ := trodAll_cons r1
  obtain ⟨v3, vs3, d3, ds3, p3, q3, rfl, rfl, rfl, h3, r3⟩ := trodAll_cons r2
  obtain ⟨v4, vs4, d4, ds4, p4, q4, rfl, rfl, rfl, h4, r4⟩ := trodAll_cons r3
  obtain ⟨rfl, rfl, rfl⟩ := trodAll_nil r4
  obtain rfl : args = #[v0, v1, v2, v3, v4] := by cases args; simp_all
  obtain ⟨p0, rfl, wp0⟩ := open_par Try.underlying23 rfl (by kernel_rfl) (by kernel_rfl) (by kernel_rfl) (hval 0 23 v0 rfl rfl) h0
  obtain ⟨s1, A1, c1, rfl, hA1, hc1, hm1, w1⟩ := open_sta (hval 1 30 v1 rfl rfl) h1
  obtain ⟨a2, rfl, rfl, rfl, w2⟩ := open_int Try.underlying3 (hval 2 3 v2 rfl rfl) h2
  obtain ⟨s3, A3, c3, rfl, hA3, hc3, hm3, w3⟩ := open_sta (hval 3 30 v3 rfl rfl) h3
  obtain ⟨s4_0, s4_1, rfl, ws4_0, ws4_1⟩ := open_pair Try.underlying28 (by kernel_rfl) (by kernel_rfl) (by kernel_rfl) (by kernel_rfl) (hval 4 28 v4 rfl rfl) h4
  refine (walk W p0 wp0 s1 A1 c1 hA1 hc1 hm1 w1 a2 w2 s3 A3 c3 hA3 hc3 hm3 w3 s4_0 s4_1 ws4_0 ws4_1).mono fun e W' ⟨he, hb⟩ => ?_
  subst he
  exact ⟨_, rfl, law_post hW' laidOut (by rw [Try.params4]; exact params_ok (by kernel_rfl)) rfl (by kernel_rfl) Try.underlying4 rfl rfl rfl hb⟩
theorem over : Rows.healthStepsRow.holds Try.pinned (OpenSpec.ofChange Rows.healthStepsSpec) :=
  OpenClaim.holds_of_wide 4 Try.f4 rfl rfl rfl rfl rfl rfl rfl ⟨rfl, rfl, rfl, rfl, rfl⟩ rfl rfl rfl rfl rfl (by kernel_rfl) Try.func4 (by kernel_rfl)
    (of_decide_eq_true (by kernel_rfl)) (by unfold Func.isWrapper; first | (rw [if_pos (by decide +kernel)]; kernel_rfl) | (rw [if_neg (by decide +kernel)]; exact ⟨rfl, rfl⟩))
    (fun os started H enc _ => lifted os started H enc)
theorem proved : Rows.HealthStepsSaid := over
end Go.Proofs.Ytlclfonlidcfiaa.healthSteps
