/- Several texts of mine in one: C21d. -/
import Derived.Test.YtmmiboblofopgaaGreatB13
import Derived.Test.YtmmiboblofopgaaGreatB10
import Derived.Test.YtmmiboblofopgaaGreatW16
import Derived.Deep.CutRange
import Derived.Deep.RegionLaw
/- Contracts of layer 21: the document's Sane. -/
namespace Go.Proofs.YtmmiboblofopgaaGreat
open Go.RowKit
set_option linter.unusedVariables false
set_option maxRecDepth 100000
attribute [local go_sem ↓] Go.wp_at_zero Go.wp_at_succ
/-- A slice that reads as pairs and lies behind the first K blocks (if it lies anywhere). -/
def PairsOf (K : Nat) (w : World) (A : Option Addr) (l : List (Int × Int)) : Prop := PairsAt w A l ∧ ∀ a, A = some a → K ≤ a.block
namespace PairsOf
theorem empty (K : Nat) (w : World) : PairsOf K w none [] := ⟨PairsAt.empty _ _, fun _ h => by cases h⟩
theorem next {K : Nat} {w w' : World} {A : Option Addr} {l : List (Int × Int)} (h : PairsOf K w A l) (j : Ok w w') : PairsOf K w' A l := ⟨h.1.below j, h.2⟩
theorem set {K : Nat} {w : World} {A : Option Addr} {l : List (Int × Int)} (h : PairsOf K w A l) {p : Addr} (hp : p.block < K) (v : Value) : PairsOf K (w.setCell p v) A l := ⟨fun k hk => by
  obtain ⟨b, off, e, hlt, hc, hd⟩ := h.1 k hk
  have hb : b ≠ p.block := by have := h.2 _ e; exact Nat.ne_of_gt (Nat.lt_of_lt_of_le hp this)
  have hx := Below.heap_setCell w p v b hb
  refine ⟨b, off, e, by simpa using hlt, ?_, ?_⟩
  · rw [← hc]; simp only [World.cell?, hx]
  · rw [← hd]; simp only [World.cell?, hx], h.2⟩
theorem of_own {K : Nat} {w : World} {B : Nat} {e : TypeId} {v : Value} {l : List (Int × Int)} (h : w.ownsRow B e 2 v l.length (cellsOfPairs l)) (hK : K ≤ B) : ∃ A cap, v = .slice A l.length cap ∧ PairsOf K w A l := by
  obtain ⟨A, cap, rfl, hA⟩ := PairsAt.of_own h
  exact ⟨A, cap, rfl, hA, fun a ha => by subst ha; exact Nat.le_trans hK (h.lt a.block rfl).1⟩
theorem mono {K L : Nat} {w : World} {A : Option Addr} {l : List (Int × Int)} (h : PairsOf K w A l) (j : L ≤ K) : PairsOf L w A l := ⟨h.1, fun a ha => Nat.le_trans j (h.2 a ha)⟩
end PairsOf
/-- It answers this state; its table can be read, in a block behind those of w. -/
def StaEnd (w : World) (t : Sta) (e : Ending) (w' : World) : Prop := ∃ (A : Option Addr) (cap : Nat), e = .returned (staV t A cap) ∧ PairsOf w.heap.size w' A t.table ∧ Ok w w'
/-- What each operation leaves. -/
def VMS21 (B G : Nat) (p : Par) (hops d1 HO : Int) (w : World) (v : Value) : Nat → Prop
  | 0 => v = .pointer (some ⟨G, 5, none⟩)
  | 1 => v = .int .i64 hops
  | 2 => v = .pointer (some ⟨B, 2, none⟩)
  | 3 => v = .int .i64 p.d
  | 4 => ∃ n : Addr, v = .slice (some n) 2 2 ∧ IntsAt w (some n) [p.d, 1]
  | 5 => v = .int .i64 d1
  | 6 => v = .int .i64 HO
  | 7 => v = .pointer (some ⟨G, 5, none⟩)
  | _ => v = .bool true
/-- It stays so. -/
def VCS21 (B G : Nat) (p : Par) (hops d1 HO : Int) (i : Nat) (v : Value) (w : World) : Prop := ∀ w', Ok w w' → VMS21 B G p hops d1 HO w' v i
set_option maxHeartbeats 6400000 in
theorem ref21Sane (p : Par) (s : Sta) (A : Option Addr) (cap : Nat) (w : World) (hA : PairsAt w A s.table) (hl : s.table.length ≤ 9223372036854775807) : Calls Tryz.prog 11 #[parV p, staV s A cap] w (StaEnd w (Health.sane p s)) := by
  obtain ⟨lo, hi, time, set, held, hops, good, table, st, sn, life⟩ := s
  simp only at hA hl
  have HA := Lib.hid hA
  have KO := Lib.hid fun w => ref3Of lo hi w
  have KC := Lib.hid fun w => refClip time w
  have KB1 := Lib.hid fun w => refBound held 0 1073741824 w
  have KA := Lib.hid fun w A h => refAdd A [p.d, 1] 2 w h (by simp)
  have KB2 := Lib.hid fun w => refBound hops 0 (Sat.sum [p.d, 1]) w
  have KB3 := Lib.hid fun w => refBound life 0 2305843009213693952 w
  have KG := Lib.hid fun w h => ref18Good A table cap w h hl
  have KR := Lib.hid fun w => ref20Right (st, sn) w
  have hlen : Leap.good table = true → table.length ≤ 32 := fun h => by
    unfold Leap.good Wire.tab at h
    simp only [Bool.and_eq_true, decide_eq_true_eq] at h
    exact h.1.1
  obtain ⟨u, hu⟩ : ∃ u, Health.sane p ⟨lo, hi, time, set, held, hops, good, table, st, sn, life⟩ = u := ⟨_, rfl⟩
  rw [hu]
  unfold Health.sane at hu
  simp only at hu
  rw [show Health.life life = Sat.bound life 0 2305843009213693952 from rfl] at hu
  obtain ⟨L0, hL0⟩ : ∃ r, Sat.clip lo = r := ⟨_, rfl⟩
  obtain ⟨H0, hH0⟩ : ∃ r, Sat.clip hi = r := ⟨_, rfl⟩
  rw [hL0, hH0] at hu KO
  obtain ⟨LO, hLO⟩ : ∃ r, (if H0 < L0 then (-2305843009213693952 : Int) else L0) = r := ⟨_, rfl⟩
  obtain ⟨HI, hHI⟩ : ∃ r, (if H0 < L0 then (2305843009213693952 : Int) else H0) = r := ⟨_, rfl⟩
  obtain ⟨GD, hGD⟩ : ∃ r, (if H0 < L0 then false else good) = r := ⟨_, rfl⟩
  obtain ⟨TM, hTM⟩ : ∃ r, Sat.clip time = r := ⟨_, rfl⟩
  rw [hTM] at hu KC
  obtain ⟨⟨ST, SN⟩, hST⟩ : ∃ r, Health.stamp TM (st, sn) = r := ⟨_, rfl⟩
  obtain ⟨HE, hHE⟩ : ∃ r, Sat.bound held 0 1073741824 = r := ⟨_, rfl⟩
  obtain ⟨d1, hd1⟩ : ∃ r, Sat.sum [p.d, 1] = r := ⟨_, rfl⟩
  rw [hd1] at hu KA KB2
  obtain ⟨HO, hHO⟩ : ∃ r, Sat.bound hops 0 d1 = r := ⟨_, rfl⟩
  obtain ⟨LF, hLF⟩ : ∃ r, Sat.bound life 0 2305843009213693952 = r := ⟨_, rfl⟩
  obtain ⟨gd, hgd⟩ : ∃ r, Leap.good table = r := ⟨_, rfl⟩
  obtain ⟨TB, hTB⟩ : ∃ r, (if gd = true then table else []) = r := ⟨_, rfl⟩
  rw [hgd] at hu KG hlen
  rw [hHE] at hu KB1
  rw [hHO] at hu KB2
  rw [hLF] at hu KB3
  rw [hLO, hHI, hGD, hST, hTB] at hu
  have HU := Lib.hid hu
  have HLO := Lib.hid hLO
  have HHI := Lib.hid hHI
  have HGD := Lib.hid hGD
  have HST := Lib.hid hST
  have HTB := Lib.hid hTB
  obtain ⟨rr, hrr⟩ : ∃ r, Hlc.right (st, sn) = r := ⟨_, rfl⟩
  rw [hrr] at KR
  have HRR := Lib.hid fun (h : rr = true) => hrr.trans h
  have HRF := Lib.hid fun (h : Hlc.right (st, sn) = true) => hrr.symm.trans h
  have HLN := Lib.hid hlen
  clear hu hLO hHI hGD hST hTB hlen hL0 hH0 hTM hHE hd1 hHO hLF hgd hA hl hrr
  unfold staV
  simp only
  have hP := (Own.new w (parCells p) 23 rfl).next (((Ok.refl _).alloc (.cells #[.int .i64 lo, .int .i64 hi, .int .i64 time, .bool set, .int .i64 held, .int .i64 hops, .bool good, .slice A table.length cap, .int .i64 st, .int .i64 sn, .int .i64 life] 30)).alloc (.cells #[.int .i64 0, .int .i64 0, .int .i64 0, .bool false, .int .i64 0, .int .i64 0, .bool false, .slice none 0 0, .int .i64 0, .int .i64 0, .int .i64 0] 30))
  have hS := (Own.new (w.alloc (.cells (parCells p) 23)) #[.int .i64 lo, .int .i64 hi, .int .i64 time, .bool set, .int .i64 held, .int .i64 hops, .bool good, .slice A table.length cap, .int .i64 st, .int .i64 sn, .int .i64 life] 30 (g := w.heap.size + 1) (by simp)).alloc (.cells #[.int .i64 0, .int .i64 0, .int .i64 0, .bool false, .int .i64 0, .int .i64 0, .bool false, .slice none 0 0, .int .i64 0, .int .i64 0, .int .i64 0] 30)
  have hZ := Own.new ((w.alloc (.cells (parCells p) 23)).alloc (.cells #[.int .i64 lo, .int .i64 hi, .int .i64 time, .bool set, .int .i64 held, .int .i64 hops, .bool good, .slice A table.length cap, .int .i64 st, .int .i64 sn, .int .i64 life] 30)) #[.int .i64 0, .int .i64 0, .int .i64 0, .bool false, .int .i64 0, .int .i64 0, .bool false, .slice none 0 0, .int .i64 0, .int .i64 0, .int .i64 0] 30 (g := w.heap.size + 1 + 1) (by simp)
  have hok := (((Ok.refl w).alloc (.cells (parCells p) 23)).alloc (.cells #[.int .i64 lo, .int .i64 hi, .int .i64 time, .bool set, .int .i64 held, .int .i64 hops, .bool good, .slice A table.length cap, .int .i64 st, .int .i64 sn, .int .i64 life] 30)).alloc (.cells #[.int .i64 0, .int .i64 0, .int .i64 0, .bool false, .int .i64 0, .int .i64 0, .bool false, .slice none 0 0, .int .i64 0, .int .i64 0, .int .i64 0] 30)
  go_enter Tryz.func11, Tryz.ntmps11
  go_upto_region 1 with fail
  change Code.wp _ _ _ _ (((w.alloc (.cells (parCells p) 23)).alloc (.cells #[.int .i64 lo, .int .i64 hi, .int .i64 time, .bool set, .int .i64 held, .int .i64 hops, .bool good, .slice A table.length cap, .int .i64 st, .int .i64 sn, .int .i64 life] 30)).alloc (.cells #[.int .i64 0, .int .i64 0, .int .i64 0, .bool false, .int .i64 0, .int .i64 0, .bool false, .slice none 0 0, .int .i64 0, .int .i64 0, .int .i64 0] 30))
  generalize ((w.alloc (.cells (parCells p) 23)).alloc (.cells #[.int .i64 lo, .int .i64 hi, .int .i64 time, .bool set, .int .i64 held, .int .i64 hops, .bool good, .slice A table.length cap, .int .i64 st, .int .i64 sn, .int .i64 life] 30)).alloc (.cells #[.int .i64 0, .int .i64 0, .int .i64 0, .bool false, .int .i64 0, .int .i64 0, .bool false, .slice none 0 0, .int .i64 0, .int .i64 0, .int .i64 0] 30) = W at hP hS hZ hok ⊢
  obtain ⟨Z, hZe⟩ : ∃ r, w.heap.size + 1 + 1 = r := ⟨_, rfl⟩
  obtain ⟨G, hG⟩ : ∃ r, w.heap.size + 1 = r := ⟨_, rfl⟩
  obtain ⟨B, hB⟩ : ∃ r, w.heap.size = r := ⟨_, rfl⟩
  have hBG : B ≠ G := by omega
  have hZG : Z ≠ G := by omega
  have hwG : w.heap.size ≤ G := by omega
  have hwZ : w.heap.size ≤ Z := by omega
  have hGZ : G < Z + 1 := by omega
  rw [hZe] at hZ
  rw [hG] at hS
  rw [hB] at hP
  rw [hZe, hG, hB]
  clear hZe hG hB
  have s0 := hS.cell 0 (v := .int .i64 lo) rfl
  have s1 := hS.cell 1 (v := .int .i64 hi) rfl
  have hgl := hS.lt
  go_upto_if 19 with (go_at_call 27; refine (KO.out _).mono ?_; rintro e w2 ⟨rfl, hb1⟩; clear s0 s1 hgl; replace hS := hS.next hb1; replace hP := hP.next hb1; replace hZ := hZ.next hb1; replace hok := hok.trans hb1; clear hb1; have s0 := hS.cell 0 (v := .int .i64 lo) rfl; have s1 := hS.cell 1 (v := .int .i64 hi) rfl; have hgl := hS.lt; have f0 := hS.frozen 0; have f1 := hS.frozen 1)
  clear s0 s1 f0 f1 hgl
  have hS' : Own ((w2.setCell ⟨G, 0, none⟩ (.int .i64 L0)).setCell ⟨G, 1, none⟩ (.int .i64 H0)) G #[.int .i64 L0, .int .i64 H0, .int .i64 time, .bool set, .int .i64 held, .int .i64 hops, .bool good, .slice A table.length cap, .int .i64 st, .int .i64 sn, .int .i64 life] := ((hS.set 0 (.int .i64 L0)).set 1 (.int .i64 H0)).as (by simp)
  have hP' := ((hP.setOther (a := ⟨G, 0, none⟩) hBG (.int .i64 L0)).setOther (a := ⟨G, 1, none⟩) hBG (.int .i64 H0))
  have hZ' := ((hZ.setOther (a := ⟨G, 0, none⟩) hZG (.int .i64 L0)).setOther (a := ⟨G, 1, none⟩) hZG (.int .i64 H0))
  have hok' := ((hok.setCell (p := ⟨G, 0, none⟩) hwG (.int .i64 L0)).setCell (p := ⟨G, 1, none⟩) hwG (.int .i64 H0))
  clear hS hP hZ hok
  generalize ((w2.setCell ⟨G, 0, none⟩ (.int .i64 L0)).setCell ⟨G, 1, none⟩ (.int .i64 H0)) = W3 at hS' hP' hZ' hok' ⊢
  have hS := hS'
  have hP := hP'
  have hZ := hZ'
  have hok := hok'
  clear hS' hP' hZ' hok'
  go_cut [] from 20 to 22 (fun wx => Own wx G #[.int .i64 LO, .int .i64 HI, .int .i64 time, .bool set, .int .i64 held, .int .i64 hops, .bool GD, .slice A table.length cap, .int .i64 st, .int .i64 sn, .int .i64 life] ∧ Own wx B (parCells p) ∧ Own wx Z #[.int .i64 0, .int .i64 0, .int .i64 0, .bool false, .int .i64 0, .int .i64 0, .bool false, .slice none 0 0, .int .i64 0, .int .i64 0, .int .i64 0] ∧ Ok w wx)
  case first =>
    have s0 := hS.cell 0 (v := .int .i64 L0) rfl
    have s1 := hS.cell 1 (v := .int .i64 H0) rfl
    have s6 := hS.cell 6 (v := .bool good) rfl
    have f0 := hS.frozen 0
    have f1 := hS.frozen 1
    have f6 := hS.frozen 6
    have hgl := hS.lt
    by_cases h : H0 < L0
    · obtain rfl : LO = -2305843009213693952 := by rw [← HLO.out, if_pos h]
      obtain rfl : HI = 2305843009213693952 := by rw [← HHI.out, if_pos h]
      obtain rfl : GD = false := by rw [← HGD.out, if_pos h]
      go_wp2_with fail
      go_meet
      exact ⟨(((hS.set 0 (.int .i64 (-2305843009213693952))).set 1 (.int .i64 2305843009213693952)).set 6 (.bool false)).as (by simp), (((hP.setOther (a := ⟨G, 0, none⟩) hBG (.int .i64 (-2305843009213693952))).setOther (a := ⟨G, 1, none⟩) hBG (.int .i64 2305843009213693952)).setOther (a := ⟨G, 6, none⟩) hBG (.bool false)), (((hZ.setOther (a := ⟨G, 0, none⟩) hZG (.int .i64 (-2305843009213693952))).setOther (a := ⟨G, 1, none⟩) hZG (.int .i64 2305843009213693952)).setOther (a := ⟨G, 6, none⟩) hZG (.bool false)), (((hok.setCell (p := ⟨G, 0, none⟩) hwG (.int .i64 (-2305843009213693952))).setCell (p := ⟨G, 1, none⟩) hwG (.int .i64 2305843009213693952)).setCell (p := ⟨G, 6, none⟩) hwG (.bool false))⟩
    · obtain rfl : LO = L0 := by rw [← HLO.out, if_neg h]
      obtain rfl : HI = H0 := by rw [← HHI.out, if_neg h]
      obtain rfl : GD = good := by rw [← HGD.out, if_neg h]
      go_wp2_with fail
      go_meet
      exact ⟨hS, hP, hZ, hok⟩
  case rest =>
  clear hS hP hZ hok
  obtain ⟨hS, hP, hZ, hok⟩ := hcut
  have s2 := hS.cell 2 (v := .int .i64 time) rfl
  have s4 := hS.cell 4 (v := .int .i64 held) rfl
  have f2 := hS.frozen 2
  have f4 := hS.frozen 4
  have hgl := hS.lt
  go_upto_region 7 with (first | (go_at_call 28; refine (KC.out _).mono ?_; rintro e w5 ⟨rfl, rfl⟩) | (go_at_call 29; refine (KB1.out _).mono ?_; rintro e w6 ⟨rfl, rfl⟩))
  clear s2 s4 f2 f4 hgl
  have hS' : Own ((wc.setCell ⟨G, 2, none⟩ (.int .i64 TM)).setCell ⟨G, 4, none⟩ (.int .i64 HE)) G #[.int .i64 LO, .int .i64 HI, .int .i64 TM, .bool set, .int .i64 HE, .int .i64 hops, .bool GD, .slice A table.length cap, .int .i64 st, .int .i64 sn, .int .i64 life] := ((hS.set 2 (.int .i64 TM)).set 4 (.int .i64 HE)).as (by simp)
  have hP' := ((hP.setOther (a := ⟨G, 2, none⟩) hBG (.int .i64 TM)).setOther (a := ⟨G, 4, none⟩) hBG (.int .i64 HE))
  have hZ' := ((hZ.setOther (a := ⟨G, 2, none⟩) hZG (.int .i64 TM)).setOther (a := ⟨G, 4, none⟩) hZG (.int .i64 HE))
  have hok' := ((hok.setCell (p := ⟨G, 2, none⟩) hwG (.int .i64 TM)).setCell (p := ⟨G, 4, none⟩) hwG (.int .i64 HE))
  clear hS hP hZ hok
  generalize ((wc.setCell ⟨G, 2, none⟩ (.int .i64 TM)).setCell ⟨G, 4, none⟩ (.int .i64 HE)) = W7 at hS' hP' hZ' hok' ⊢
  have hS := hS'
  have hP := hP'
  have hZ := hZ'
  have hok := hok'
  clear hS' hP' hZ' hok'
  have HOK := Lib.hid hok
  have HS := Lib.hid fun W' (k : Ok W7.drew W') => hS.drew.next k
  have HP := Lib.hid fun W' (k : Ok W7.drew W') => hP.drew.next k
  have HZ := Lib.hid fun W' (k : Ok W7.drew W') => hZ.drew.next k
  clear hS hP hZ hok
  refine wp_region_facts_last (by kernel_rfl) 61 rfl (VCS21 B G p hops d1 HO) Ok _ rfl _ 8 rfl rfl rfl rfl (by kernel_rfl) (by kernel_rfl) (by kernel_rfl) (fun i v w w' h k w'' k' => h w'' (k.trans k')) (fun a b c => Ok.trans) (Ok.refl _) [some 31, some 32, some 33, some 34, some 35, some 36, some 37, some 38] rfl ⟨?_, ?_, ?_, ?_, ?_, ?_, ?_, ?_, trivial⟩ ?_
  · intro a' w' hF hR
    have e3 : a'.tmps[3]? = some (.pointer (some ⟨G, 0, none⟩)) := hF.slot 3 (by kernel_rfl) rfl
    refine wpOp_run (v := .pointer (some ⟨G, 5, none⟩)) rfl rfl ?_ (fun _ _ => rfl) (Ok.refl _)
    clear hF
    go_simp
  · intro a' w' hF hR
    obtain ⟨v0, hv0, e31⟩ := hF.get 0 31 (by kernel_rfl) (by kernel_rfl)
    obtain rfl : v0 = _ := hv0 _ (Ok.refl _)
    have s5 := (HS.out _ hR).cell 5 (v := .int .i64 hops) rfl
    have hgl := (HS.out _ hR).lt
    refine wpOp_run (v := .int .i64 hops) rfl rfl ?_ (fun _ _ => rfl) (Ok.refl _)
    clear hF
    go_simp
  · intro a' w' hF hR
    have e2 : a'.tmps[2]? = some (.pointer (some ⟨B, 0, none⟩)) := hF.slot 2 (by kernel_rfl) rfl
    refine wpOp_run (v := .pointer (some ⟨B, 2, none⟩)) rfl rfl ?_ (fun _ _ => rfl) (Ok.refl _)
    clear hF
    go_simp
  · intro a' w' hF hR
    obtain ⟨v2, hv2, e33⟩ := hF.get 2 33 (by kernel_rfl) (by kernel_rfl)
    obtain rfl : v2 = _ := hv2 _ (Ok.refl _)
    obtain ⟨c0, c1, c2, c3, c4, c5, c6, c7, c8, c9, c10, c11⟩ := (HP.out _ hR).pars
    refine wpOp_run (v := .int .i64 p.d) rfl rfl ?_ (fun _ _ => rfl) (Ok.refl _)
    clear hF
    go_simp
  · intro a' w' hF hR
    obtain ⟨v3, hv3, e34⟩ := hF.get 3 34 (by kernel_rfl) (by kernel_rfl)
    obtain rfl : v3 = _ := hv3 _ (Ok.refl _)
    refine wpOp_run (v := .slice (some ⟨w'.heap.size, 0, none⟩) 2 2) (w' := w'.alloc (.cells #[.int .i64 p.d, .int .i64 1] 3)) rfl rfl ?_ (fun w'' k => ⟨_, rfl, (ints_new _ [p.d, 1] _ _ rfl rfl).below k⟩) ((Ok.refl _).alloc _)
    clear hF
    go_simp
  · intro a' w' hF hR
    obtain ⟨v4, hv4, e35⟩ := hF.get 4 35 (by kernel_rfl) (by kernel_rfl)
    obtain ⟨n4, rfl, hp4⟩ := hv4 _ (Ok.refl _)
    clear hF
    refine wpOp_call (f := 30) (args := #[.slice (some n4) 2 2]) rfl rfl ?_ ((KA.out _ _ hp4).mono ?_)
    · go_simp
    · rintro e w2 ⟨rfl, rfl⟩; exact ⟨_, rfl, fun _ _ => rfl, Ok.refl _⟩
  · intro a' w' hF hR
    obtain ⟨v1, hv1, e32⟩ := hF.get 1 32 (by kernel_rfl) (by kernel_rfl)
    obtain rfl : v1 = _ := hv1 _ (Ok.refl _)
    obtain ⟨v5, hv5, e36⟩ := hF.get 5 36 (by kernel_rfl) (by kernel_rfl)
    obtain rfl : v5 = _ := hv5 _ (Ok.refl _)
    clear hF
    refine wpOp_call (f := 29) (args := #[.int .i64 hops, .int .i64 0, .int .i64 d1]) rfl rfl ?_ ((KB2.out _).mono ?_)
    · go_simp
    · rintro e w2 ⟨rfl, rfl⟩; exact ⟨_, rfl, fun _ _ => rfl, Ok.refl _⟩
  · intro a' w' hF hR
    have e3 : a'.tmps[3]? = some (.pointer (some ⟨G, 0, none⟩)) := hF.slot 3 (by kernel_rfl) rfl
    refine wpOp_run (v := .pointer (some ⟨G, 5, none⟩)) rfl rfl ?_ (fun _ _ => rfl) (Ok.refl _)
    clear hF
    go_simp
  intro vs W' hvs hR
  have e6 : vs 6 = .int .i64 HO := hvs 6 (by decide) _ (Ok.refl _)
  have e7 : vs 7 = .pointer (some ⟨G, 5, none⟩) := hvs 7 (by decide) _ (Ok.refl _)
  have hS := HS.out _ hR
  have hP := HP.out _ hR
  have hZ := HZ.out _ hR
  have hok := HOK.out.trans ((Ok.refl W7).drew.trans hR)
  clear hvs HS HP HZ HOK KA KB2
  simp only [putFrom, e6, e7]
  simp only [Act.put, List.setIfInBounds_toArray, List.set_cons_zero, List.set_cons_succ]
  have s5 := hS.cell 5 (v := .int .i64 hops) rfl
  have f5 := hS.frozen 5
  have hgl := hS.lt
  refine wpOp_store (w' := W'.setCell ⟨G, 5, none⟩ (.int .i64 HO)) rfl rfl rfl ?_ ?_
  · go_simp
  clear s5 f5 hgl hR
  have hS' : Own (W'.setCell ⟨G, 5, none⟩ (.int .i64 HO)) G #[.int .i64 LO, .int .i64 HI, .int .i64 TM, .bool set, .int .i64 HE, .int .i64 HO, .bool GD, .slice A table.length cap, .int .i64 st, .int .i64 sn, .int .i64 life] := (hS.set 5 (.int .i64 HO)).as (by simp)
  have hP' := (hP.setOther (a := ⟨G, 5, none⟩) hBG (.int .i64 HO))
  have hZ' := (hZ.setOther (a := ⟨G, 5, none⟩) hZG (.int .i64 HO))
  have hok' := (hok.setCell (p := ⟨G, 5, none⟩) hwG (.int .i64 HO))
  clear hS hP hZ hok
  generalize (W'.setCell ⟨G, 5, none⟩ (.int .i64 HO)) = W8 at hS' hP' hZ' hok' ⊢
  have hS := hS'
  have hP := hP'
  have hZ := hZ'
  have hok := hok'
  clear hS' hP' hZ' hok'
  have s7 := hS.cell 7 (v := .slice A table.length cap) rfl
  have s10 := hS.cell 10 (v := .int .i64 life) rfl
  have f10 := hS.frozen 10
  have hgl := hS.lt
  go_upto_region 9 with (go_at_call 29; refine (KB3.out _).mono ?_; rintro e w9 ⟨rfl, rfl⟩)
  clear s7 s10 f10 hgl
  have hS' : Own (W8.setCell ⟨G, 10, none⟩ (.int .i64 LF)) G #[.int .i64 LO, .int .i64 HI, .int .i64 TM, .bool set, .int .i64 HE, .int .i64 HO, .bool GD, .slice A table.length cap, .int .i64 st, .int .i64 sn, .int .i64 LF] := (hS.set 10 (.int .i64 LF)).as (by simp)
  have hP' := (hP.setOther (a := ⟨G, 10, none⟩) hBG (.int .i64 LF))
  have hZ' := (hZ.setOther (a := ⟨G, 10, none⟩) hZG (.int .i64 LF))
  have hok' := (hok.setCell (p := ⟨G, 10, none⟩) hwG (.int .i64 LF))
  clear hS hP hZ hok
  generalize (W8.setCell ⟨G, 10, none⟩ (.int .i64 LF)) = W9 at hS' hP' hZ' hok' ⊢
  have hS := hS'
  have hP := hP'
  have hZ := hZ'
  have hok := hok'
  clear hS' hP' hZ' hok'
  have s7 := hS.cell 7 (v := .slice A table.length cap) rfl
  have hgl := hS.lt
  go_upto_if 45 with (go_at_call 31; refine (KG.out _ (HA.out.below hok)).mono ?_; rintro e w10 ⟨rfl, hb1⟩; clear s7 hgl; replace hS := hS.next hb1; replace hP := hP.next hb1; replace hZ := hZ.next hb1; replace hok := hok.trans hb1; clear hb1)
  go_cut [] from 46 to 51 (fun wx => ∃ (A2 : Option Addr) (cap2 : Nat), PairsOf (Z + 1) wx A2 TB ∧ Own wx G #[.int .i64 LO, .int .i64 HI, .int .i64 TM, .bool set, .int .i64 HE, .int .i64 HO, .bool GD, .slice A2 TB.length cap2, .int .i64 st, .int .i64 sn, .int .i64 LF] ∧ Own wx B (parCells p) ∧ Own wx Z #[.int .i64 0, .int .i64 0, .int .i64 0, .bool false, .int .i64 0, .int .i64 0, .bool false, .slice none 0 0, .int .i64 0, .int .i64 0, .int .i64 0] ∧ Ok w wx)
  case first =>
    have s7 := hS.cell 7 (v := .slice A table.length cap) rfl
    have f7 := hS.frozen 7
    have hgl := hS.lt
    cases gd with
    | false =>
      obtain rfl : TB = [] := (HTB.out).symm
      go_wp2_with fail
      go_meet
      exact ⟨none, 0, PairsOf.empty _ _, (hS.set 7 (.slice none 0 0)).as (by simp), (hP.setOther (a := ⟨G, 7, none⟩) hBG (.slice none 0 0)), (hZ.setOther (a := ⟨G, 7, none⟩) hZG (.slice none 0 0)), (hok.setCell (p := ⟨G, 7, none⟩) hwG (.slice none 0 0))⟩
    | true =>
      obtain rfl : TB = table := (HTB.out).symm
      have hW : Hid (((w10.alloc (.cells #[] 68)).ownsRow w10.heap.size 68 2 (.slice (some ⟨w10.heap.size, 0, none⟩) 0 0) 0 [])) := Lib.hid (World.ownsRow_made w10 #[] 0 (Nat.le_refl _) (by decide) rfl)
      have hKZ : Z + 1 ≤ w10.heap.size := hZ.lt
      have hB1 : Ok w10 (w10.alloc (.cells #[] 68)) := (Ok.refl w10).alloc _
      have s7b := (hS.next hB1).cell 7 (v := .slice A TB.length cap) rfl
      have hglb := (hS.next hB1).lt
      have HS := Lib.hid hS
      have HP := Lib.hid hP
      have HZ := Lib.hid hZ
      have HOK := Lib.hid hok
      have HB1 := Lib.hid hB1
      clear hS hP hZ hok hB1
      go_wp2_with (refine wpList_append_pairs rfl (.tmp 46) (.tmp 48) 26 rfl w10.heap.size 68 Tryz.underlying26 (by kernel_rfl) _ [] 0 rfl rfl hW.out A TB TB.length cap rfl rfl (HA.out.below (HOK.out.trans HB1.out)) (by have := HLN.out rfl; simp; omega) HB1.out.size ?_; intro v3 w11 hr hg; obtain ⟨A2, cap2, rfl, hPA⟩ := PairsOf.of_own (K := Z + 1) hr hKZ; have hb2 : Ok w10 w11 := Below.grown HB1.out hg HB1.out.size (fun k hk => by cases hk; exact Nat.le_refl _); have hS := HS.out.next hb2; have hP := HP.out.next hb2; have hZ := HZ.out.next hb2; have hok := HOK.out.trans hb2; clear s7 s7b hgl hglb f7 hr hg hb2; have s7 := hS.cell 7 (v := .slice A TB.length cap) rfl; have f7 := hS.frozen 7; have hgl := hS.lt)
      go_meet
      exact ⟨A2, cap2, hPA.set (p := ⟨G, 7, none⟩) hGZ _, (hS.set 7 (.slice A2 ([] ++ TB).length cap2)).as (by simp), (hP.setOther (a := ⟨G, 7, none⟩) hBG (.slice A2 ([] ++ TB).length cap2)), (hZ.setOther (a := ⟨G, 7, none⟩) hZG (.slice A2 ([] ++ TB).length cap2)), (hok.setCell (p := ⟨G, 7, none⟩) hwG (.slice A2 ([] ++ TB).length cap2))⟩
  case rest =>
  clear hS hP hZ hok
  obtain ⟨A2, cap2, hPA, hS, hP, hZ, hok⟩ := hcut
  have s8 := hS.cell 8 (v := .int .i64 st) rfl
  have s9 := hS.cell 9 (v := .int .i64 sn) rfl
  have hgl := hS.lt
  go_upto_if 55 with (go_at_call 32; refine (KR.out _).mono ?_; rintro e w12 ⟨rfl, hb1⟩; clear s8 s9 hgl; replace hPA := hPA.next hb1; replace hS := hS.next hb1; replace hP := hP.next hb1; replace hZ := hZ.next hb1; replace hok := hok.trans hb1; clear hb1)
  obtain ⟨nr, hnr⟩ : ∃ r, (!rr) = r := ⟨_, rfl⟩
  rw [hnr]
  have HNR := Lib.hid hnr
  clear hnr
  go_cut [] from 56 to 59 (fun wx => PairsOf (Z + 1) wx A2 TB ∧ Own wx G #[.int .i64 LO, .int .i64 HI, .int .i64 TM, .bool set, .int .i64 HE, .int .i64 HO, .bool GD, .slice A2 TB.length cap2, .int .i64 ST, .int .i64 SN, .int .i64 LF] ∧ Own wx Z #[.int .i64 0, .int .i64 0, .int .i64 0, .bool false, .int .i64 0, .int .i64 0, .bool false, .slice none 0 0, .int .i64 0, .int .i64 0, .int .i64 0] ∧ Ok w wx)
  case first =>
    have hst := HST.out
    unfold Health.stamp at hst
    cases nr with
    | false =>
      rw [if_pos (HRR.out (by have := HNR.out; cases rr <;> simp_all))] at hst
      injection hst with q1 q2
      subst q1 q2
      go_wp2_with fail
      go_meet
      exact ⟨hPA, hS, hZ, hok⟩
    | true =>
      rw [if_neg (fun h => by have := HRF.out h; have := HNR.out; cases rr <;> simp_all)] at hst
      injection hst with q1 q2
      subst q1 q2
      have s2 := hS.cell 2 (v := .int .i64 TM) rfl
      have s8 := hS.cell 8 (v := .int .i64 st) rfl
      have s9 := hS.cell 9 (v := .int .i64 sn) rfl
      have f8 := hS.frozen 8
      have f9 := hS.frozen 9
      have hgl := hS.lt
      go_wp2_with fail
      go_meet
      exact ⟨(hPA.set (p := ⟨G, 8, none⟩) hGZ _).set (p := ⟨G, 9, none⟩) hGZ _, (((hS.set 8 (.int .i64 TM)).set 9 (.int .i64 0))).as (by simp), ((hZ.setOther (a := ⟨G, 8, none⟩) hZG (.int .i64 TM)).setOther (a := ⟨G, 9, none⟩) hZG (.int .i64 0)), ((hok.setCell (p := ⟨G, 8, none⟩) hwG (.int .i64 TM)).setCell (p := ⟨G, 9, none⟩) hwG (.int .i64 0))⟩
  case rest =>
  clear hS hP hZ hok hPA
  obtain ⟨hPA, hS, hZ, hok⟩ := hcut
  have hS2 : Own wc G (staCells u A2 cap2) := by rw [← HU.out]; exact hS
  have hZ2 : Own wc Z (staCells zeroSta none 0) := hZ
  have hPu : PairsOf (Z + 1) wc A2 u.table := by rw [← HU.out]; exact hPA
  have hok2 := hok
  have hrw := hwZ
  have hPX := (((((((((((hPu.set (p := ⟨Z, 0, none⟩) (Nat.lt_succ_self _) (.int .i64 u.lo)).set (p := ⟨Z, 1, none⟩) (Nat.lt_succ_self _) (.int .i64 u.hi)).set (p := ⟨Z, 2, none⟩) (Nat.lt_succ_self _) (.int .i64 u.time)).set (p := ⟨Z, 3, none⟩) (Nat.lt_succ_self _) (.bool u.set)).set (p := ⟨Z, 4, none⟩) (Nat.lt_succ_self _) (.int .i64 u.held)).set (p := ⟨Z, 5, none⟩) (Nat.lt_succ_self _) (.int .i64 u.hops)).set (p := ⟨Z, 6, none⟩) (Nat.lt_succ_self _) (.bool u.good)).set (p := ⟨Z, 7, none⟩) (Nat.lt_succ_self _) (.slice A2 u.table.length cap2)).set (p := ⟨Z, 8, none⟩) (Nat.lt_succ_self _) (.int .i64 u.st)).set (p := ⟨Z, 9, none⟩) (Nat.lt_succ_self _) (.int .i64 u.sn)).set (p := ⟨Z, 10, none⟩) (Nat.lt_succ_self _) (.int .i64 u.life))
  clear hS hZ hok hPA
  obtain ⟨s0, s1, s2, s3, s4, s5, s6, s7, s8, s9, s10⟩ := hS2.sta
  obtain ⟨z0, z1, z2, z3, z4, z5, z6, z7, z8, z9, z10⟩ := hZ2.sta
  obtain ⟨y0, y1, y2, y3, y4, y5, y6, y7, y8, y9, y10⟩ := frozenSta hZ2
  have hsl := hS2.lt
  have hzl := hZ2.lt
  have hX := own_set11 hZ2 u A2 cap2
  have hok3 := ok_set11 hok2 hrw u A2 cap2
  go_wp2_with fail
  clear s0 s1 s2 s3 s4 s5 s6 s7 s8 s9 s10 z0 z1 z2 z3 z4 z5 z6 z7 z8 z9 z10 y0 y1 y2 y3 y4 y5 y6 y7 y8 y9 y10 hsl hzl
  generalize (((((((((((wc.setCell ⟨Z, 0, none⟩ (.int .i64 u.lo)).setCell ⟨Z, 1, none⟩ (.int .i64 u.hi)).setCell ⟨Z, 2, none⟩ (.int .i64 u.time)).setCell ⟨Z, 3, none⟩ (.bool u.set)).setCell ⟨Z, 4, none⟩ (.int .i64 u.held)).setCell ⟨Z, 5, none⟩ (.int .i64 u.hops)).setCell ⟨Z, 6, none⟩ (.bool u.good)).setCell ⟨Z, 7, none⟩ (.slice A2 u.table.length cap2)).setCell ⟨Z, 8, none⟩ (.int .i64 u.st)).setCell ⟨Z, 9, none⟩ (.int .i64 u.sn)).setCell ⟨Z, 10, none⟩ (.int .i64 u.life)) = W5 at hX hok3 hPX ⊢
  obtain ⟨s0, s1, s2, s3, s4, s5, s6, s7, s8, s9, s10⟩ := hX.sta
  exact bodyPost_ret (v := staV u A2 cap2) (by simp [results, Tryz.results11, go_sem, s0, s1, s2, s3, s4, s5, s6, s7, s8, s9, s10, staV]) rfl ⟨A2, cap2, rfl, hPX.mono (Nat.le_succ_of_le hwZ), hok3⟩
end Go.Proofs.YtmmiboblofopgaaGreat
