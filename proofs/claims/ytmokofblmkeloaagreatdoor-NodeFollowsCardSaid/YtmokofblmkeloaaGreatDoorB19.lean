/- Contracts of layer 21: the program's Of and Far, its tables, and what a Front tells. -/
import Derived.Test.YtmokofblmkeloaaGreatDoorP38
import Derived.Test.YtmokofblmkeloaaGreatDoorB05
import Derived.Test.YtmokofblmkeloaaGreatDoorB06
import Derived.Test.YtmokofblmkeloaaGreatDoorP24
import Derived.Deep.CutRange
import Derived.Deep.RegionLaw
namespace Go.Proofs.YtmokofblmkeloaaGreatDoor
open Go.RowKit
set_option linter.unusedVariables false
set_option maxRecDepth 100000
attribute [local go_sem ↓] Go.wp_at_zero Go.wp_at_succ
/-- A table of one's own, in a row behind the first K blocks (if it lies anywhere). -/
def TabRow (K : Nat) (w : World) (A : Option Addr) (cap : Nat) (l : List (Int × Int)) : Prop := w.ownsRow K 81 2 (.slice A l.length cap) l.length (cellsOfPairs l)
namespace TabRow
variable {K : Nat} {w w1 : World} {A : Option Addr} {cap : Nat} {l : List (Int × Int)}
theorem nil (K : Nat) (w : World) : TabRow K w none 0 [] := World.ownsRow_nil _ _ _ _
theorem next (h : TabRow K w A cap l) (j : Ok w w1) : TabRow K w1 A cap l := row_next19 h j
theorem only {r : Nat} (h : TabRow K w A cap l) (k : Only r w w1) (hr : r < K) : TabRow K w1 A cap l := by
  refine World.ownsRow.kept h (w' := w1) (row := some r) ⟨k.os, k.tape, k.output, k.size, fun i hi hn => k.block i hi fun e => hn (by rw [e])⟩ ?_
  rcases h.2 with ⟨e, _⟩ | ⟨g, c2, cur, e, hb, _⟩
  · rw [e]; exact .inl rfl
  · rw [e]
    refine .inr fun e2 => ?_
    simp only [Value.ownBlock, Option.some.injEq] at e2
    omega
theorem set (h : TabRow K w A cap l) {p : Addr} (hp : p.block < K) (v : Value) : TabRow K (w.setCell p v) A cap l := h.only ((Only.refl p.block w).set (.inl rfl) v) hp
theorem mono {L : Nat} (h : TabRow K w A cap l) (j : L ≤ K) : TabRow L w A cap l := row_low19 h j
theorem pairs (h : TabRow K w A cap l) : PairsOf K w A l := by
  obtain ⟨A2, c2, e, hp⟩ := PairsOf.of_own h (Nat.le_refl K)
  cases e
  exact hp
end TabRow
/-- It answers this state; its table is its own. -/
def SaneEnd (w : World) (t : Sta) (e : Ending) (w' : World) : Prop := ∃ (A : Option Addr) (cap : Nat), e = .returned (staV t A cap) ∧ TabRow w.heap.size w' A cap t.table ∧ Ok w w'
theorem healthLives (x : Int) (w : World) : Calls Tryz.prog 58 #[.int .i64 x] w fun e w' => e = .returned (.int .i64 (Health.life x)) ∧ w = w' := by
  have KB := Lib.hid fun w => satBound x 0 2305843009213693952 w
  rw [show Sat.bound x 0 2305843009213693952 = Health.life x from rfl] at KB
  generalize Health.life x = z at KB ⊢
  go_enter Tryz.func58, Tryz.ntmps58
  go_wp2_with (go_at_call 55; refine (KB.out _).mono ?_; rintro e w1 ⟨rfl, rfl⟩)
  go_ret
  exact ⟨rfl, rfl⟩
theorem healthOwnTable (A : Option Addr) (l : List (Int × Int)) (cap : Nat) (w : World) (hA : PairsAt w A l) (hl : l.length ≤ 9223372036854775807) :
    Calls Tryz.prog 56 #[.slice A l.length cap] w fun e w' => ∃ (A2 : Option Addr) (c2 : Nat), e = .returned (.slice A2 (if Leap.good l = true then l else []).length c2) ∧ TabRow w.heap.size w' A2 c2 (if Leap.good l = true then l else []) ∧ Ok w w' := by
  have hok := Ok.refl w
  have KG := Lib.hid (leapGood A l cap w hA hl)
  have hlen : Leap.good l = true → l.length ≤ 32 := fun h => by
    unfold Leap.good Wire.tab at h
    simp only [Bool.and_eq_true, decide_eq_true_eq] at h
    exact h.1.1
  have KC := Lib.hid fun (w1 : World) (k : Ok w w1) (h : l.length ≤ 8796093022208) => cloneRow A l cap w1 (hA.below k) h
  obtain ⟨gd, hgd⟩ : ∃ r, Leap.good l = r := ⟨_, rfl⟩
  rw [hgd] at KG hlen ⊢
  clear hA hl hgd
  cases gd with
  | false =>
    rw [if_neg (by decide)]
    clear hlen KC
    go_enter Tryz.func56, Tryz.ntmps56
    go_wp2_with (go_at_call 106; refine (KG.out).mono ?_; rintro e w1 ⟨rfl, hb1⟩; replace hok := hok.trans hb1; clear hb1)
    go_ret
    exact ⟨none, 0, rfl, TabRow.nil _ _, hok⟩
  | true =>
    rw [if_pos rfl]
    have HLN : Hid (l.length ≤ 8796093022208) := Lib.hid (by have := hlen rfl; omega)
    clear hlen
    go_enter Tryz.func56, Tryz.ntmps56
    go_wp2_with (first | (go_at_call 106; refine (KG.out).mono ?_; rintro e w1 ⟨rfl, hb1⟩; replace hok := hok.trans hb1; clear hb1) | (go_at_call 83; refine (KC.out _ hok HLN.out).mono ?_; rintro e w2 ⟨v, rfl, hr, hb1⟩; replace hr := row_low19 hr hok.size; replace hok := hok.trans hb1; clear hb1; obtain ⟨A2, c2, rfl, -⟩ := PairsAt.of_own hr))
    go_ret
    exact ⟨A2, c2, rfl, hr, hok⟩
theorem healthOf (p : Par) (s : Sta) (A : Option Addr) (cap : Nat) (w : World) : Calls Tryz.prog 149 #[parV p, staV s A cap] w fun e w' => e = .returned (.int .i64 (Health.of p s)) ∧ Ok w w' := by
  have hok := Ok.refl w
  obtain ⟨lo, hi, time, set, held, hops, good, table, st, sn, lf⟩ := s
  unfold staV Health.of
  simp only
  cases good
  · rw [if_pos (Or.inl rfl)]
    go_enter Tryz.func149, Tryz.ntmps149
    go_wp2
    go_ret
    exact ⟨rfl, (hok.alloc _).alloc _⟩
  cases set
  · rw [if_pos (Or.inr (Or.inl rfl))]
    go_enter Tryz.func149, Tryz.ntmps149
    go_wp2
    go_ret
    exact ⟨rfl, (hok.alloc _).alloc _⟩
  by_cases h : p.d < hops
  · rw [if_pos (Or.inr (Or.inr h))]
    go_enter Tryz.func149, Tryz.ntmps149
    go_wp2
    go_ret
    exact ⟨rfl, (hok.alloc _).alloc _⟩
  rw [if_neg (by simp only [reduceCtorEq, false_or]; exact h)]
  by_cases h2 : p.hold < held
  · rw [if_pos h2]
    go_enter Tryz.func149, Tryz.ntmps149
    go_wp2
    go_ret
    exact ⟨rfl, (hok.alloc _).alloc _⟩
  · rw [if_neg h2]
    go_enter Tryz.func149, Tryz.ntmps149
    go_wp2
    go_ret
    exact ⟨rfl, (hok.alloc _).alloc _⟩
/-- What each operation leaves. -/
def VMFarP (B : Nat) (p : Par) (held m wd z : Int) (w : World) (v : Value) : Nat → Prop
  | 0 => v = parV p
  | 1 => v = .int .i64 held
  | 2 => v = .pointer (some ⟨B, 9, none⟩)
  | 3 => v = .int .i64 p.hold
  | 4 => ∃ n : Addr, v = .slice (some n) 2 2 ∧ IntsAt w (some n) [held, p.hold]
  | 5 => v = .int .i64 m
  | 6 => v = .pointer (some ⟨B, 2, none⟩)
  | 7 => v = .int .i64 p.d
  | 8 => v = .int .i64 wd
  | 9 => v = .int .i64 z
  | 10 => v = .int .i64 z
  | _ => v = .bool true
/-- It stays so. -/
def VCFarP (B : Nat) (p : Par) (held m wd z : Int) (i : Nat) (v : Value) (w : World) : Prop := ∀ w', Ok w w' → VMFarP B p held m wd z w' v i
theorem healthFar (p : Par) (held : Int) (w : World) : Calls Tryz.prog 24 #[parV p, .int .i64 held] w fun e w' => e = .returned (.int .i64 (Health.far p held)) ∧ Ok w w' := by
  have KM := Lib.hid fun w A h => satMax A [held, p.hold] 2 w h (by simp)
  have KW := Lib.hid fun w => limWidth p (Sat.most [held, p.hold]) p.d w
  have KX := Lib.hid fun w => satMul 2 (Lim.width p (Sat.most [held, p.hold]) p.d) w
  rw [show Sat.mul 2 (Lim.width p (Sat.most [held, p.hold]) p.d) = Health.far p held from rfl] at KX
  generalize Health.far p held = z at KX ⊢
  generalize Lim.width p (Sat.most [held, p.hold]) p.d = wd at KW KX
  generalize Sat.most [held, p.hold] = m at KM KW
  have hP := Own.new w (parCells p) 23 rfl
  have hok := (Ok.refl w).alloc (.cells (parCells p) 23)
  go_enter Tryz.func24, Tryz.ntmps24
  go_upto_region 1 with fail
  generalize w.alloc (.cells (parCells p) 23) = W at hP hok ⊢
  obtain ⟨B, hB⟩ : ∃ r, w.heap.size = r := ⟨_, rfl⟩
  rw [hB] at hP ⊢
  clear hB
  have HOK := Lib.hid hok
  have HP := Lib.hid fun W' (k : Ok W.drew W') => hP.drew.next k
  clear hP hok
  refine wp_region_facts (by kernel_rfl) 15 rfl (VCFarP B p held m wd z) Ok (by kernel_rfl) (fun i v w w' h k w'' k' => h w'' (k.trans k')) (fun a b c => Ok.trans) (Ok.refl _) [some 5, some 6, some 7, some 8, some 9, some 10, some 11, some 12, some 13, some 14, some 4] rfl 11 rfl ⟨?_, ?_, ?_, ?_, ?_, ?_, ?_, ?_, ?_, ?_, ?_, trivial⟩ ?_
  · intro a' w' hF hR
    have e2 : a'.tmps[2]? = some (.pointer (some ⟨B, 0, none⟩)) := hF.slot 2 (by kernel_rfl) rfl
    obtain ⟨c0, c1, c2, c3, c4, c5, c6, c7, c8, c9, c10, c11⟩ := (HP.out _ hR).pars
    refine wpOp_run (v := parV p) rfl rfl ?_ (fun _ _ => rfl) (Ok.refl _)
    clear hF
    go_simp
  · intro a' w' hF hR
    have e1 : a'.tmps[1]? = some (.int .i64 held) := hF.slot 1 (by kernel_rfl) rfl
    refine wpOp_run (v := .int .i64 held) rfl rfl ?_ (fun _ _ => rfl) (Ok.refl _)
    clear hF
    go_simp
  · intro a' w' hF hR
    have e2 : a'.tmps[2]? = some (.pointer (some ⟨B, 0, none⟩)) := hF.slot 2 (by kernel_rfl) rfl
    refine wpOp_run (v := .pointer (some ⟨B, 9, none⟩)) rfl rfl ?_ (fun _ _ => rfl) (Ok.refl _)
    clear hF
    go_simp
  · intro a' w' hF hR
    obtain ⟨v2, hv2, e7⟩ := hF.get 2 7 (by kernel_rfl) (by kernel_rfl)
    obtain rfl : v2 = _ := hv2 _ (Ok.refl _)
    obtain ⟨c0, c1, c2, c3, c4, c5, c6, c7, c8, c9, c10, c11⟩ := (HP.out _ hR).pars
    refine wpOp_run (v := .int .i64 p.hold) rfl rfl ?_ (fun _ _ => rfl) (Ok.refl _)
    clear hF
    go_simp
  · intro a' w' hF hR
    obtain ⟨v1, hv1, e6⟩ := hF.get 1 6 (by kernel_rfl) (by kernel_rfl)
    obtain rfl : v1 = _ := hv1 _ (Ok.refl _)
    obtain ⟨v3, hv3, e8⟩ := hF.get 3 8 (by kernel_rfl) (by kernel_rfl)
    obtain rfl : v3 = _ := hv3 _ (Ok.refl _)
    refine wpOp_run (v := .slice (some ⟨w'.heap.size, 0, none⟩) 2 2) (w' := w'.alloc (.cells #[.int .i64 held, .int .i64 p.hold] 3)) rfl rfl ?_ (fun w'' k => ⟨_, rfl, (ints_new _ [held, p.hold] _ _ rfl rfl).below k⟩) ((Ok.refl _).alloc _)
    clear hF
    go_simp
  · intro a' w' hF hR
    obtain ⟨v4, hv4, e9⟩ := hF.get 4 9 (by kernel_rfl) (by kernel_rfl)
    obtain ⟨n4, rfl, hp4⟩ := hv4 _ (Ok.refl _)
    clear hF
    refine wpOp_call (f := 61) (args := #[.slice (some n4) 2 2]) rfl rfl ?_ ((KM.out _ _ hp4).mono ?_)
    · go_simp
    · rintro e w2 ⟨rfl, rfl⟩; exact ⟨_, rfl, fun _ _ => rfl, Ok.refl _⟩
  · intro a' w' hF hR
    have e2 : a'.tmps[2]? = some (.pointer (some ⟨B, 0, none⟩)) := hF.slot 2 (by kernel_rfl) rfl
    refine wpOp_run (v := .pointer (some ⟨B, 2, none⟩)) rfl rfl ?_ (fun _ _ => rfl) (Ok.refl _)
    clear hF
    go_simp
  · intro a' w' hF hR
    obtain ⟨v6, hv6, e11⟩ := hF.get 6 11 (by kernel_rfl) (by kernel_rfl)
    obtain rfl : v6 = _ := hv6 _ (Ok.refl _)
    obtain ⟨c0, c1, c2, c3, c4, c5, c6, c7, c8, c9, c10, c11⟩ := (HP.out _ hR).pars
    refine wpOp_run (v := .int .i64 p.d) rfl rfl ?_ (fun _ _ => rfl) (Ok.refl _)
    clear hF
    go_simp
  · intro a' w' hF hR
    obtain ⟨v0, hv0, e5⟩ := hF.get 0 5 (by kernel_rfl) (by kernel_rfl)
    obtain rfl : v0 = _ := hv0 _ (Ok.refl _)
    obtain ⟨v5, hv5, e10⟩ := hF.get 5 10 (by kernel_rfl) (by kernel_rfl)
    obtain rfl : v5 = _ := hv5 _ (Ok.refl _)
    obtain ⟨v7, hv7, e12⟩ := hF.get 7 12 (by kernel_rfl) (by kernel_rfl)
    obtain rfl : v7 = _ := hv7 _ (Ok.refl _)
    clear hF
    refine wpOp_call (f := 60) (args := #[parV p, .int .i64 m, .int .i64 p.d]) rfl rfl ?_ ((KW.out _).mono ?_)
    · go_simp
    · rintro e w2 ⟨rfl, hb2⟩; exact ⟨_, rfl, fun _ _ => rfl, hb2⟩
  · intro a' w' hF hR
    obtain ⟨v8, hv8, e13⟩ := hF.get 8 13 (by kernel_rfl) (by kernel_rfl)
    obtain rfl : v8 = _ := hv8 _ (Ok.refl _)
    clear hF
    refine wpOp_call (f := 50) (args := #[.int .i64 2, .int .i64 wd]) rfl rfl ?_ ((KX.out _).mono ?_)
    · go_simp
    · rintro e w2 ⟨rfl, rfl⟩; exact ⟨_, rfl, fun _ _ => rfl, Ok.refl _⟩
  · intro a' w' hF hR
    obtain ⟨v9, hv9, e14⟩ := hF.get 9 14 (by kernel_rfl) (by kernel_rfl)
    obtain rfl : v9 = _ := hv9 _ (Ok.refl _)
    refine wpOp_run (v := .int .i64 z) rfl rfl ?_ (fun _ _ => rfl) (Ok.refl _)
    clear hF
    go_simp
  intro vs w2 hV hR
  have e10 : vs 10 = .int .i64 z := hV 10 (by decide) _ (Ok.refl _)
  have hok2 := HOK.out.trans ((Ok.refl W).drew.trans hR)
  clear hV HP HOK KM KW KX
  simp only [putFrom, e10]
  simp only [Act.put, List.setIfInBounds_toArray, List.set_cons_zero, List.set_cons_succ]
  go_wp2
  go_ret
  exact ⟨rfl, hok2⟩
/-- What each operation leaves. -/
def VMHeaP (G : Nat) (p : Par) (s : Sta) (A : Option Addr) (cap : Nat) (h : Int) (w : World) (v : Value) : Nat → Prop
  | 0 => v = .pointer (some ⟨G, 0, none⟩)
  | 1 => v = .pointer (some ⟨G, 0, none⟩)
  | 2 => v = .pointer (some ⟨G, 0, none⟩)
  | 3 => v = parV p
  | 4 => v = .pointer (some ⟨G, 0, none⟩)
  | 5 => v = .pointer (some ⟨G, 0, none⟩)
  | 6 => v = .pointer (some ⟨G, 12, none⟩)
  | 7 => v = .agg #[.int .i64 s.lo, .int .i64 s.hi, .int .i64 s.time, .bool s.set, .int .i64 s.held, .int .i64 s.hops, .bool s.good, .slice A s.table.length cap, .int .i64 s.st, .int .i64 s.sn, .int .i64 s.life]
  | 8 => v = .int .i64 h
  | 9 => v = .int .i64 h
  | _ => v = .bool true
/-- It stays so. -/
def VCHeaP (G : Nat) (p : Par) (s : Sta) (A : Option Addr) (cap : Nat) (h : Int) (i : Nat) (v : Value) (w : World) : Prop := ∀ w', Ok w w' → VMHeaP G p s A cap h w' v i
theorem frontHealth (R : List Value) (G : Nat) (p : Par) (s : Sta) (A : Option Addr) (cap : Nat) (w : World) (hO : Own w G (frontCellsR R p s A cap)) : Calls Tryz.prog 115 #[.pointer (some ⟨G, 0, none⟩)] w fun e w' => e = .returned (.int .i64 (Health.of p s)) ∧ Ok w w' := by
  have KO := Lib.hid fun w => healthOf p s A cap w
  generalize Health.of p s = h at KO ⊢
  have HOK := Lib.hid (Ok.refl w)
  have HQ := Lib.hid fun W' (k : Ok w.drew W') => hO.drew.next k
  clear hO
  go_enter Tryz.func115, Tryz.ntmps115
  go_upto_region 3 with fail
  refine wp_region_facts (by kernel_rfl) 14 rfl (VCHeaP G p s A cap h) Ok (by kernel_rfl) (fun i v w w' h k w'' k' => h w'' (k.trans k')) (fun a b c => Ok.trans) (Ok.refl _) [some 5, some 6, some 7, some 8, some 9, some 10, some 11, some 12, some 13, some 2] rfl 10 rfl ⟨?_, ?_, ?_, ?_, ?_, ?_, ?_, ?_, ?_, ?_, trivial⟩ ?_
  · intro a' w' hF hR
    have e0 : a'.tmps[0]? = some (.pointer (some ⟨G, 0, none⟩)) := hF.slot 0 (by kernel_rfl) rfl
    refine wpOp_run (v := .pointer (some ⟨G, 0, none⟩)) rfl rfl ?_ (fun _ _ => rfl) (Ok.refl _)
    clear hF
    go_simp
  · intro a' w' hF hR
    obtain ⟨v0, hv0, e5⟩ := hF.get 0 5 (by kernel_rfl) (by kernel_rfl)
    obtain rfl : v0 = _ := hv0 _ (Ok.refl _)
    refine wpOp_run (v := .pointer (some ⟨G, 0, none⟩)) rfl rfl ?_ (fun _ _ => rfl) (Ok.refl _)
    clear hF
    go_simp
  · intro a' w' hF hR
    obtain ⟨v1, hv1, e6⟩ := hF.get 1 6 (by kernel_rfl) (by kernel_rfl)
    obtain rfl : v1 = _ := hv1 _ (Ok.refl _)
    refine wpOp_run (v := .pointer (some ⟨G, 0, none⟩)) rfl rfl ?_ (fun _ _ => rfl) (Ok.refl _)
    clear hF
    go_simp
  · intro a' w' hF hR
    obtain ⟨v2, hv2, e7⟩ := hF.get 2 7 (by kernel_rfl) (by kernel_rfl)
    obtain rfl : v2 = _ := hv2 _ (Ok.refl _)
    obtain ⟨c0, c1, c2, c3, c4, c5, c6, c7, c8, c9, c10, c11⟩ := (HQ.out _ hR).frP
    have hgl := (HQ.out _ hR).lt
    refine wpOp_run (v := parV p) rfl rfl ?_ (fun _ _ => rfl) (Ok.refl _)
    clear hF
    go_simp
  · intro a' w' hF hR
    have e0 : a'.tmps[0]? = some (.pointer (some ⟨G, 0, none⟩)) := hF.slot 0 (by kernel_rfl) rfl
    refine wpOp_run (v := .pointer (some ⟨G, 0, none⟩)) rfl rfl ?_ (fun _ _ => rfl) (Ok.refl _)
    clear hF
    go_simp
  · intro a' w' hF hR
    obtain ⟨v4, hv4, e9⟩ := hF.get 4 9 (by kernel_rfl) (by kernel_rfl)
    obtain rfl : v4 = _ := hv4 _ (Ok.refl _)
    refine wpOp_run (v := .pointer (some ⟨G, 0, none⟩)) rfl rfl ?_ (fun _ _ => rfl) (Ok.refl _)
    clear hF
    go_simp
  · intro a' w' hF hR
    obtain ⟨v5, hv5, e10⟩ := hF.get 5 10 (by kernel_rfl) (by kernel_rfl)
    obtain rfl : v5 = _ := hv5 _ (Ok.refl _)
    refine wpOp_run (v := .pointer (some ⟨G, 12, none⟩)) rfl rfl ?_ (fun _ _ => rfl) (Ok.refl _)
    clear hF
    go_simp
  · intro a' w' hF hR
    obtain ⟨v6, hv6, e11⟩ := hF.get 6 11 (by kernel_rfl) (by kernel_rfl)
    obtain rfl : v6 = _ := hv6 _ (Ok.refl _)
    obtain ⟨s0, s1, s2, s3, s4, s5, s6, s7, s8, s9, s10⟩ := (HQ.out _ hR).frS
    have hgl := (HQ.out _ hR).lt
    refine wpOp_run (v := .agg #[.int .i64 s.lo, .int .i64 s.hi, .int .i64 s.time, .bool s.set, .int .i64 s.held, .int .i64 s.hops, .bool s.good, .slice A s.table.length cap, .int .i64 s.st, .int .i64 s.sn, .int .i64 s.life]) rfl rfl ?_ (fun _ _ => rfl) (Ok.refl _)
    clear hF
    go_simp
  · intro a' w' hF hR
    obtain ⟨v3, hv3, e8⟩ := hF.get 3 8 (by kernel_rfl) (by kernel_rfl)
    obtain rfl : v3 = _ := hv3 _ (Ok.refl _)
    obtain ⟨v7, hv7, e12⟩ := hF.get 7 12 (by kernel_rfl) (by kernel_rfl)
    obtain rfl : v7 = _ := hv7 _ (Ok.refl _)
    clear hF
    refine wpOp_call (f := 149) (args := #[parV p, .agg #[.int .i64 s.lo, .int .i64 s.hi, .int .i64 s.time, .bool s.set, .int .i64 s.held, .int .i64 s.hops, .bool s.good, .slice A s.table.length cap, .int .i64 s.st, .int .i64 s.sn, .int .i64 s.life]]) rfl rfl ?_ ((KO.out _).mono ?_)
    · go_simp
    · rintro e w2 ⟨rfl, hb2⟩; exact ⟨_, rfl, fun _ _ => rfl, hb2⟩
  · intro a' w' hF hR
    obtain ⟨v8, hv8, e13⟩ := hF.get 8 13 (by kernel_rfl) (by kernel_rfl)
    obtain rfl : v8 = _ := hv8 _ (Ok.refl _)
    refine wpOp_run (v := .int .i64 h) rfl rfl ?_ (fun _ _ => rfl) (Ok.refl _)
    clear hF
    go_simp
  intro vs w2 hV hR
  have e9 : vs 9 = .int .i64 h := hV 9 (by decide) _ (Ok.refl _)
  have hok2 := HOK.out.trans ((Ok.refl w).drew.trans hR)
  clear hV HQ HOK KO
  simp only [putFrom, e9]
  simp only [Act.put, List.setIfInBounds_toArray, List.set_cons_zero, List.set_cons_succ]
  go_wp2
  go_ret
  exact ⟨rfl, hok2⟩
theorem frontReady (R : List Value) (G : Nat) (p : Par) (s : Sta) (A : Option Addr) (cap : Nat) (w : World) (hO : Own w G (frontCellsR R p s A cap)) : Calls Tryz.prog 130 #[.pointer (some ⟨G, 0, none⟩)] w fun e w' => e = .returned (.int .i64 (if Health.of p s = 0 then 20 else 0)) ∧ Ok w w' := by
  have hok := Ok.refl w
  have KH := Lib.hid (frontHealth R G p s A cap w hO)
  generalize Health.of p s = h at KH ⊢
  clear hO
  by_cases j : h = 0
  · rw [if_pos j]
    subst j
    go_enter Tryz.func130, Tryz.ntmps130
    go_wp2_with (go_at_call 115; refine (KH.out).mono ?_; rintro e w1 ⟨rfl, hb1⟩; replace hok := hok.trans hb1; clear hb1)
    go_ret
    exact ⟨rfl, hok⟩
  · rw [if_neg j]
    have e1 : (h == 0) = false := beq_eq_false_iff_ne.2 j
    clear j
    go_enter Tryz.func130, Tryz.ntmps130
    go_wp2_with (go_at_call 115; refine (KH.out).mono ?_; rintro e w1 ⟨rfl, hb1⟩; replace hok := hok.trans hb1; clear hb1)
    go_ret
    exact ⟨rfl, hok⟩
theorem frontStamps (R : List Value) (G : Nat) (p : Par) (s : Sta) (A : Option Addr) (cap : Nat) (w : World) (hO : Own w G (frontCellsR R p s A cap)) : Calls Tryz.prog 73 #[.pointer (some ⟨G, 0, none⟩)] w fun e w' => e = .returned (stV (s.st, s.sn)) ∧ Ok w w' := by
  have hok := (Ok.refl w).alloc (.cells #[.int .i64 0, .int .i64 0] 126)
  have hZ := Slab.new w 0 0 126 rfl
  have hO2 := hO.alloc (.cells #[.int .i64 0, .int .i64 0] 126)
  clear hO
  go_enter Tryz.func73, Tryz.ntmps73
  go_upto_region 1 with fail
  change Code.wp _ _ _ _ (w.alloc (.cells #[.int .i64 0, .int .i64 0] 126))
  generalize w.alloc (.cells #[.int .i64 0, .int .i64 0] 126) = W at hO2 hZ hok ⊢
  obtain ⟨Z, hZe⟩ : ∃ r, w.heap.size = r := ⟨_, rfl⟩
  have hwZ : w.heap.size ≤ Z := by omega
  rw [hZe] at hZ ⊢
  clear hZe
  have z0 := hZ.c0
  have z1 := hZ.c1
  have y0 := hZ.f0
  have y1 := hZ.f1
  have hzl := hZ.lt
  obtain ⟨s0, s1, s2, s3, s4, s5, s6, s7, s8, s9, s10⟩ := hO2.frS
  have hgl := hO2.lt
  go_wp2_with fail
  exact bodyPost_ret (v := stV (s.st, s.sn)) (by simp [results, Tryz.results73, go_sem, ((hZ.set s.st s.sn)).c0, (hZ.set s.st s.sn).c1]) rfl ⟨rfl, (hok.setCell (p := ⟨Z, 0, none⟩) hwZ _).setCell (p := ⟨Z, 1, none⟩) hwZ _⟩
/-- What each operation leaves. -/
def VMLatP (G : Nat) (p : Par) (s : Sta) (f z : Int) (w : World) (v : Value) : Nat → Prop
  | 0 => v = .pointer (some ⟨G, 0, none⟩)
  | 1 => v = .pointer (some ⟨G, 0, none⟩)
  | 2 => v = .pointer (some ⟨G, 12, none⟩)
  | 3 => v = .pointer (some ⟨G, 12, none⟩)
  | 4 => v = .pointer (some ⟨G, 13, none⟩)
  | 5 => v = .int .i64 s.hi
  | 6 => v = .pointer (some ⟨G, 0, none⟩)
  | 7 => v = .pointer (some ⟨G, 0, none⟩)
  | 8 => v = .pointer (some ⟨G, 0, none⟩)
  | 9 => v = parV p
  | 10 => v = .pointer (some ⟨G, 0, none⟩)
  | 11 => v = .pointer (some ⟨G, 0, none⟩)
  | 12 => v = .pointer (some ⟨G, 12, none⟩)
  | 13 => v = .pointer (some ⟨G, 16, none⟩)
  | 14 => v = .int .i64 s.held
  | 15 => v = .int .i64 f
  | 16 => ∃ n : Addr, v = .slice (some n) 2 2 ∧ IntsAt w (some n) [s.hi, f]
  | 17 => v = .int .i64 z
  | 18 => v = .int .i64 z
  | _ => v = .bool true
/-- It stays so. -/
def VCLatP (G : Nat) (p : Par) (s : Sta) (f z : Int) (i : Nat) (v : Value) (w : World) : Prop := ∀ w', Ok w w' → VMLatP G p s f z w' v i
theorem frontLatest (R : List Value) (G : Nat) (p : Par) (s : Sta) (A : Option Addr) (cap : Nat) (w : World) (hO : Own w G (frontCellsR R p s A cap)) : Calls Tryz.prog 75 #[.pointer (some ⟨G, 0, none⟩)] w fun e w' => e = .returned (.int .i64 (Health.most p s)) ∧ Ok w w' := by
  have KF := Lib.hid fun w => healthFar p s.held w
  have KA := Lib.hid fun w A h => satAdd A [s.hi, Health.far p s.held] 2 w h (by simp)
  rw [show Sat.sum [s.hi, Health.far p s.held] = Health.most p s from rfl] at KA
  generalize Health.most p s = z at KA ⊢
  generalize Health.far p s.held = f at KA KF
  have HOK := Lib.hid (Ok.refl w)
  have HQ := Lib.hid fun W' (k : Ok w.drew W') => hO.drew.next k
  clear hO
  go_enter Tryz.func75, Tryz.ntmps75
  go_upto_region 1 with fail
  refine wp_region_facts (by kernel_rfl) 21 rfl (VCLatP G p s f z) Ok (by kernel_rfl) (fun i v w w' h k w'' k' => h w'' (k.trans k')) (fun a b c => Ok.trans) (Ok.refl _) [some 3, some 4, some 5, some 6, some 7, some 8, some 9, some 10, some 11, some 12, some 13, some 14, some 15, some 16, some 17, some 18, some 19, some 20, some 2] rfl 19 rfl ⟨?_, ?_, ?_, ?_, ?_, ?_, ?_, ?_, ?_, ?_, ?_, ?_, ?_, ?_, ?_, ?_, ?_, ?_, ?_, trivial⟩ ?_
  · intro a' w' hF hR
    have e0 : a'.tmps[0]? = some (.pointer (some ⟨G, 0, none⟩)) := hF.slot 0 (by kernel_rfl) rfl
    refine wpOp_run (v := .pointer (some ⟨G, 0, none⟩)) rfl rfl ?_ (fun _ _ => rfl) (Ok.refl _)
    clear hF
    go_simp
  · intro a' w' hF hR
    obtain ⟨v0, hv0, e3⟩ := hF.get 0 3 (by kernel_rfl) (by kernel_rfl)
    obtain rfl : v0 = _ := hv0 _ (Ok.refl _)
    refine wpOp_run (v := .pointer (some ⟨G, 0, none⟩)) rfl rfl ?_ (fun _ _ => rfl) (Ok.refl _)
    clear hF
    go_simp
  · intro a' w' hF hR
    obtain ⟨v1, hv1, e4⟩ := hF.get 1 4 (by kernel_rfl) (by kernel_rfl)
    obtain rfl : v1 = _ := hv1 _ (Ok.refl _)
    refine wpOp_run (v := .pointer (some ⟨G, 12, none⟩)) rfl rfl ?_ (fun _ _ => rfl) (Ok.refl _)
    clear hF
    go_simp
  · intro a' w' hF hR
    obtain ⟨v2, hv2, e5⟩ := hF.get 2 5 (by kernel_rfl) (by kernel_rfl)
    obtain rfl : v2 = _ := hv2 _ (Ok.refl _)
    refine wpOp_run (v := .pointer (some ⟨G, 12, none⟩)) rfl rfl ?_ (fun _ _ => rfl) (Ok.refl _)
    clear hF
    go_simp
  · intro a' w' hF hR
    obtain ⟨v3, hv3, e6⟩ := hF.get 3 6 (by kernel_rfl) (by kernel_rfl)
    obtain rfl : v3 = _ := hv3 _ (Ok.refl _)
    refine wpOp_run (v := .pointer (some ⟨G, 13, none⟩)) rfl rfl ?_ (fun _ _ => rfl) (Ok.refl _)
    clear hF
    go_simp
  · intro a' w' hF hR
    obtain ⟨v4, hv4, e7⟩ := hF.get 4 7 (by kernel_rfl) (by kernel_rfl)
    obtain rfl : v4 = _ := hv4 _ (Ok.refl _)
    obtain ⟨s0, s1, s2, s3, s4, s5, s6, s7, s8, s9, s10⟩ := (HQ.out _ hR).frS
    have hgl := (HQ.out _ hR).lt
    refine wpOp_run (v := .int .i64 s.hi) rfl rfl ?_ (fun _ _ => rfl) (Ok.refl _)
    clear hF
    go_simp
  · intro a' w' hF hR
    have e0 : a'.tmps[0]? = some (.pointer (some ⟨G, 0, none⟩)) := hF.slot 0 (by kernel_rfl) rfl
    refine wpOp_run (v := .pointer (some ⟨G, 0, none⟩)) rfl rfl ?_ (fun _ _ => rfl) (Ok.refl _)
    clear hF
    go_simp
  · intro a' w' hF hR
    obtain ⟨v6, hv6, e9⟩ := hF.get 6 9 (by kernel_rfl) (by kernel_rfl)
    obtain rfl : v6 = _ := hv6 _ (Ok.refl _)
    refine wpOp_run (v := .pointer (some ⟨G, 0, none⟩)) rfl rfl ?_ (fun _ _ => rfl) (Ok.refl _)
    clear hF
    go_simp
  · intro a' w' hF hR
    obtain ⟨v7, hv7, e10⟩ := hF.get 7 10 (by kernel_rfl) (by kernel_rfl)
    obtain rfl : v7 = _ := hv7 _ (Ok.refl _)
    refine wpOp_run (v := .pointer (some ⟨G, 0, none⟩)) rfl rfl ?_ (fun _ _ => rfl) (Ok.refl _)
    clear hF
    go_simp
  · intro a' w' hF hR
    obtain ⟨v8, hv8, e11⟩ := hF.get 8 11 (by kernel_rfl) (by kernel_rfl)
    obtain rfl : v8 = _ := hv8 _ (Ok.refl _)
    obtain ⟨c0, c1, c2, c3, c4, c5, c6, c7, c8, c9, c10, c11⟩ := (HQ.out _ hR).frP
    have hgl := (HQ.out _ hR).lt
    refine wpOp_run (v := parV p) rfl rfl ?_ (fun _ _ => rfl) (Ok.refl _)
    clear hF
    go_simp
  · intro a' w' hF hR
    have e0 : a'.tmps[0]? = some (.pointer (some ⟨G, 0, none⟩)) := hF.slot 0 (by kernel_rfl) rfl
    refine wpOp_run (v := .pointer (some ⟨G, 0, none⟩)) rfl rfl ?_ (fun _ _ => rfl) (Ok.refl _)
    clear hF
    go_simp
  · intro a' w' hF hR
    obtain ⟨v10, hv10, e13⟩ := hF.get 10 13 (by kernel_rfl) (by kernel_rfl)
    obtain rfl : v10 = _ := hv10 _ (Ok.refl _)
    refine wpOp_run (v := .pointer (some ⟨G, 0, none⟩)) rfl rfl ?_ (fun _ _ => rfl) (Ok.refl _)
    clear hF
    go_simp
  · intro a' w' hF hR
    obtain ⟨v11, hv11, e14⟩ := hF.get 11 14 (by kernel_rfl) (by kernel_rfl)
    obtain rfl : v11 = _ := hv11 _ (Ok.refl _)
    refine wpOp_run (v := .pointer (some ⟨G, 12, none⟩)) rfl rfl ?_ (fun _ _ => rfl) (Ok.refl _)
    clear hF
    go_simp
  · intro a' w' hF hR
    obtain ⟨v12, hv12, e15⟩ := hF.get 12 15 (by kernel_rfl) (by kernel_rfl)
    obtain rfl : v12 = _ := hv12 _ (Ok.refl _)
    refine wpOp_run (v := .pointer (some ⟨G, 16, none⟩)) rfl rfl ?_ (fun _ _ => rfl) (Ok.refl _)
    clear hF
    go_simp
  · intro a' w' hF hR
    obtain ⟨v13, hv13, e16⟩ := hF.get 13 16 (by kernel_rfl) (by kernel_rfl)
    obtain rfl : v13 = _ := hv13 _ (Ok.refl _)
    obtain ⟨s0, s1, s2, s3, s4, s5, s6, s7, s8, s9, s10⟩ := (HQ.out _ hR).frS
    have hgl := (HQ.out _ hR).lt
    refine wpOp_run (v := .int .i64 s.held) rfl rfl ?_ (fun _ _ => rfl) (Ok.refl _)
    clear hF
    go_simp
  · intro a' w' hF hR
    obtain ⟨v9, hv9, e12⟩ := hF.get 9 12 (by kernel_rfl) (by kernel_rfl)
    obtain rfl : v9 = _ := hv9 _ (Ok.refl _)
    obtain ⟨v14, hv14, e17⟩ := hF.get 14 17 (by kernel_rfl) (by kernel_rfl)
    obtain rfl : v14 = _ := hv14 _ (Ok.refl _)
    clear hF
    refine wpOp_call (f := 24) (args := #[parV p, .int .i64 s.held]) rfl rfl ?_ ((KF.out _).mono ?_)
    · go_simp
    · rintro e w2 ⟨rfl, hb2⟩; exact ⟨_, rfl, fun _ _ => rfl, hb2⟩
  · intro a' w' hF hR
    obtain ⟨v5, hv5, e8⟩ := hF.get 5 8 (by kernel_rfl) (by kernel_rfl)
    obtain rfl : v5 = _ := hv5 _ (Ok.refl _)
    obtain ⟨v15, hv15, e18⟩ := hF.get 15 18 (by kernel_rfl) (by kernel_rfl)
    obtain rfl : v15 = _ := hv15 _ (Ok.refl _)
    refine wpOp_run (v := .slice (some ⟨w'.heap.size, 0, none⟩) 2 2) (w' := w'.alloc (.cells #[.int .i64 s.hi, .int .i64 f] 3)) rfl rfl ?_ (fun w'' k => ⟨_, rfl, (ints_new _ [s.hi, f] _ _ rfl rfl).below k⟩) ((Ok.refl _).alloc _)
    clear hF
    go_simp
  · intro a' w' hF hR
    obtain ⟨v16, hv16, e19⟩ := hF.get 16 19 (by kernel_rfl) (by kernel_rfl)
    obtain ⟨n16, rfl, hp16⟩ := hv16 _ (Ok.refl _)
    clear hF
    refine wpOp_call (f := 49) (args := #[.slice (some n16) 2 2]) rfl rfl ?_ ((KA.out _ _ hp16).mono ?_)
    · go_simp
    · rintro e w2 ⟨rfl, rfl⟩; exact ⟨_, rfl, fun _ _ => rfl, Ok.refl _⟩
  · intro a' w' hF hR
    obtain ⟨v17, hv17, e20⟩ := hF.get 17 20 (by kernel_rfl) (by kernel_rfl)
    obtain rfl : v17 = _ := hv17 _ (Ok.refl _)
    refine wpOp_run (v := .int .i64 z) rfl rfl ?_ (fun _ _ => rfl) (Ok.refl _)
    clear hF
    go_simp
  intro vs w2 hV hR
  have e18 : vs 18 = .int .i64 z := hV 18 (by decide) _ (Ok.refl _)
  have hok2 := HOK.out.trans ((Ok.refl w).drew.trans hR)
  clear hV HQ HOK KF KA
  simp only [putFrom, e18]
  simp only [Act.put, List.setIfInBounds_toArray, List.set_cons_zero, List.set_cons_succ]
  go_wp2
  go_ret
  exact ⟨rfl, hok2⟩
end Go.Proofs.YtmokofblmkeloaaGreatDoor

/- Contracts of layer 21: the program's Sane. -/
namespace Go.Proofs.YtmokofblmkeloaaGreatDoor
open Go.RowKit
set_option linter.unusedVariables false
set_option maxRecDepth 100000
attribute [local go_sem ↓] Go.wp_at_zero Go.wp_at_succ
/-- What each operation leaves. -/
def VMSanP (B G : Nat) (p : Par) (hops d1 HO : Int) (w : World) (v : Value) : Nat → Prop
  | 0 => v = .pointer (some ⟨G, 5, none⟩)
  | 1 => v = .int .i64 hops
  | 2 => v = .pointer (some ⟨B, 2, none⟩)
  | 3 => v = .int .i64 p.d
  | 4 => ∃ n : Addr, v = .slice (some n) 2 2 ∧ IntsAt w (some n) [p.d, 1]
  | 5 => v = .int .i64 d1
  | 6 => v = .int .i64 HO
  | 7 => v = .pointer (some ⟨G, 5, none⟩)
  | _ => v = .bool true
/-- It stays so. -/
def VCSanP (B G : Nat) (p : Par) (hops d1 HO : Int) (i : Nat) (v : Value) (w : World) : Prop := ∀ w', Ok w w' → VMSanP B G p hops d1 HO w' v i
set_option maxHeartbeats 6400000 in
theorem healthSane (p : Par) (s : Sta) (A : Option Addr) (cap : Nat) (w : World) (hA : PairsAt w A s.table) (hl : s.table.length ≤ 9223372036854775807) : Calls Tryz.prog 21 #[parV p, staV s A cap] w (SaneEnd w (Health.sane p s)) := by
  obtain ⟨lo, hi, time, set, held, hops, good, table, st, sn, life⟩ := s
  simp only at hA hl
  have HA := Lib.hid hA
  have KO := Lib.hid fun w => spanOf lo hi w
  have KC := Lib.hid fun w => satClip time w
  have KB1 := Lib.hid fun w => satBound held 0 1073741824 w
  have KA := Lib.hid fun w A h => satAdd A [p.d, 1] 2 w h (by simp)
  have KB2 := Lib.hid fun w => satBound hops 0 (Sat.sum [p.d, 1]) w
  have KB3 := Lib.hid fun w => healthLives life w
  rw [show Health.life life = Sat.bound life 0 2305843009213693952 from rfl] at KB3
  have KG := Lib.hid fun w h => healthOwnTable A table cap w h hl
  have KR := Lib.hid fun w => hlcRight (st, sn) w
  have hlen : True := trivial
  obtain ⟨u, hu⟩ : ∃ u, Health.sane p ⟨lo, hi, time, set, held, hops, good, table, st, sn, life⟩ = u := ⟨_, rfl⟩
  rw [hu]
  unfold Health.sane at hu
  simp only at hu
  rw [show Health.life life = Sat.bound life 0 2305843009213693952 from rfl] at hu
  obtain ⟨L0, hL0⟩ : ∃ r, Sat.clip lo = r := ⟨_, rfl⟩
  obtain ⟨H0, hH0⟩ : ∃ r, Sat.clip hi = r := ⟨_, rfl⟩
  rw [hL0, hH0] at hu KO
  obtain ⟨LO, hLO⟩ : ∃ r, (if H0 < L0 then (-2305843009213693952 : Int) else L0) = r := ⟨_, rfl⟩
  obtain ⟨HI, hHI⟩ : ∃ r, (if H0 < L0 then (2305843009213693952 : Int) else H0) = r := ⟨_, rfl⟩
  obtain ⟨GD, hGD⟩ : ∃ r, (if H0 < L0 then false else good) = r := ⟨_, rfl⟩
  obtain ⟨TM, hTM⟩ : ∃ r, Sat.clip time = r := ⟨_, rfl⟩
  rw [hTM] at hu KC
  obtain ⟨⟨ST, SN⟩, hST⟩ : ∃ r, Health.stamp TM (st, sn) = r := ⟨_, rfl⟩
  obtain ⟨HE, hHE⟩ : ∃ r, Sat.bound held 0 1073741824 = r := ⟨_, rfl⟩
  obtain ⟨d1, hd1⟩ : ∃ r, Sat.sum [p.d, 1] = r := ⟨_, rfl⟩
  rw [hd1] at hu KA KB2
  obtain ⟨HO, hHO⟩ : ∃ r, Sat.bound hops 0 d1 = r := ⟨_, rfl⟩
  obtain ⟨LF, hLF⟩ : ∃ r, Sat.bound life 0 2305843009213693952 = r := ⟨_, rfl⟩
  obtain ⟨gd, hgd⟩ : ∃ r, Leap.good table = r := ⟨_, rfl⟩
  obtain ⟨TB, hTB⟩ : ∃ r, (if gd = true then table else []) = r := ⟨_, rfl⟩
  rw [hgd] at hu KG
  rw [hTB] at KG
  rw [hHE] at hu KB1
  rw [hHO] at hu KB2
  rw [hLF] at hu KB3
  rw [hLO, hHI, hGD, hST, hTB] at hu
  have HU := Lib.hid hu
  have HLO := Lib.hid hLO
  have HHI := Lib.hid hHI
  have HGD := Lib.hid hGD
  have HST := Lib.hid hST
  have HTB := Lib.hid hTB
  obtain ⟨rr, hrr⟩ : ∃ r, Hlc.right (st, sn) = r := ⟨_, rfl⟩
  rw [hrr] at KR
  have HRR := Lib.hid fun (h : rr = true) => hrr.trans h
  have HRF := Lib.hid fun (h : Hlc.right (st, sn) = true) => hrr.symm.trans h
  clear hu hLO hHI hGD hST hTB hlen hL0 hH0 hTM hHE hd1 hHO hLF hgd hA hl hrr
  have KE := Lib.hid fun w => spanEmpty L0 H0 w
  unfold staV
  simp only
  have hP := (Own.new w (parCells p) 23 rfl).next (((Ok.refl _).alloc (.cells #[.int .i64 lo, .int .i64 hi, .int .i64 time, .bool set, .int .i64 held, .int .i64 hops, .bool good, .slice A table.length cap, .int .i64 st, .int .i64 sn, .int .i64 life] 30)).alloc (.cells #[.int .i64 0, .int .i64 0, .int .i64 0, .bool false, .int .i64 0, .int .i64 0, .bool false, .slice none 0 0, .int .i64 0, .int .i64 0, .int .i64 0] 30))
  have hS := (Own.new (w.alloc (.cells (parCells p) 23)) #[.int .i64 lo, .int .i64 hi, .int .i64 time, .bool set, .int .i64 held, .int .i64 hops, .bool good, .slice A table.length cap, .int .i64 st, .int .i64 sn, .int .i64 life] 30 (g := w.heap.size + 1) (by simp)).alloc (.cells #[.int .i64 0, .int .i64 0, .int .i64 0, .bool false, .int .i64 0, .int .i64 0, .bool false, .slice none 0 0, .int .i64 0, .int .i64 0, .int .i64 0] 30)
  have hZ := Own.new ((w.alloc (.cells (parCells p) 23)).alloc (.cells #[.int .i64 lo, .int .i64 hi, .int .i64 time, .bool set, .int .i64 held, .int .i64 hops, .bool good, .slice A table.length cap, .int .i64 st, .int .i64 sn, .int .i64 life] 30)) #[.int .i64 0, .int .i64 0, .int .i64 0, .bool false, .int .i64 0, .int .i64 0, .bool false, .slice none 0 0, .int .i64 0, .int .i64 0, .int .i64 0] 30 (g := w.heap.size + 1 + 1) (by simp)
  have hok := (((Ok.refl w).alloc (.cells (parCells p) 23)).alloc (.cells #[.int .i64 lo, .int .i64 hi, .int .i64 time, .bool set, .int .i64 held, .int .i64 hops, .bool good, .slice A table.length cap, .int .i64 st, .int .i64 sn, .int .i64 life] 30)).alloc (.cells #[.int .i64 0, .int .i64 0, .int .i64 0, .bool false, .int .i64 0, .int .i64 0, .bool false, .slice none 0 0, .int .i64 0, .int .i64 0, .int .i64 0] 30)
  go_enter Tryz.func21, Tryz.ntmps21
  go_upto_region 1 with fail
  change Code.wp _ _ _ _ (((w.alloc (.cells (parCells p) 23)).alloc (.cells #[.int .i64 lo, .int .i64 hi, .int .i64 time, .bool set, .int .i64 held, .int .i64 hops, .bool good, .slice A table.length cap, .int .i64 st, .int .i64 sn, .int .i64 life] 30)).alloc (.cells #[.int .i64 0, .int .i64 0, .int .i64 0, .bool false, .int .i64 0, .int .i64 0, .bool false, .slice none 0 0, .int .i64 0, .int .i64 0, .int .i64 0] 30))
  generalize ((w.alloc (.cells (parCells p) 23)).alloc (.cells #[.int .i64 lo, .int .i64 hi, .int .i64 time, .bool set, .int .i64 held, .int .i64 hops, .bool good, .slice A table.length cap, .int .i64 st, .int .i64 sn, .int .i64 life] 30)).alloc (.cells #[.int .i64 0, .int .i64 0, .int .i64 0, .bool false, .int .i64 0, .int .i64 0, .bool false, .slice none 0 0, .int .i64 0, .int .i64 0, .int .i64 0] 30) = W at hP hS hZ hok ⊢
  obtain ⟨Z, hZe⟩ : ∃ r, w.heap.size + 1 + 1 = r := ⟨_, rfl⟩
  obtain ⟨G, hG⟩ : ∃ r, w.heap.size + 1 = r := ⟨_, rfl⟩
  obtain ⟨B, hB⟩ : ∃ r, w.heap.size = r := ⟨_, rfl⟩
  have hBG : B ≠ G := by omega
  have hZG : Z ≠ G := by omega
  have hwG : w.heap.size ≤ G := by omega
  have hwZ : w.heap.size ≤ Z := by omega
  have hGZ : G < Z + 1 := by omega
  rw [hZe] at hZ
  rw [hG] at hS
  rw [hB] at hP
  rw [hZe, hG, hB]
  clear hZe hG hB
  have s0 := hS.cell 0 (v := .int .i64 lo) rfl
  have s1 := hS.cell 1 (v := .int .i64 hi) rfl
  have hgl := hS.lt
  go_upto_region 2 with (go_at_call 51; refine (KO.out _).mono ?_; rintro e w2 ⟨rfl, hb1⟩; clear s0 s1 hgl; replace hS := hS.next hb1; replace hP := hP.next hb1; replace hZ := hZ.next hb1; replace hok := hok.trans hb1; clear hb1; have s0 := hS.cell 0 (v := .int .i64 lo) rfl; have s1 := hS.cell 1 (v := .int .i64 hi) rfl; have hgl := hS.lt; have f0 := hS.frozen 0; have f1 := hS.frozen 1)
  clear s0 s1 f0 f1 hgl
  have hS' : Own ((w2.setCell ⟨G, 0, none⟩ (.int .i64 L0)).setCell ⟨G, 1, none⟩ (.int .i64 H0)) G #[.int .i64 L0, .int .i64 H0, .int .i64 time, .bool set, .int .i64 held, .int .i64 hops, .bool good, .slice A table.length cap, .int .i64 st, .int .i64 sn, .int .i64 life] := ((hS.set 0 (.int .i64 L0)).set 1 (.int .i64 H0)).as (by simp)
  have hP' := ((hP.setOther (a := ⟨G, 0, none⟩) hBG (.int .i64 L0)).setOther (a := ⟨G, 1, none⟩) hBG (.int .i64 H0))
  have hZ' := ((hZ.setOther (a := ⟨G, 0, none⟩) hZG (.int .i64 L0)).setOther (a := ⟨G, 1, none⟩) hZG (.int .i64 H0))
  have hok' := ((hok.setCell (p := ⟨G, 0, none⟩) hwG (.int .i64 L0)).setCell (p := ⟨G, 1, none⟩) hwG (.int .i64 H0))
  clear hS hP hZ hok
  generalize ((w2.setCell ⟨G, 0, none⟩ (.int .i64 L0)).setCell ⟨G, 1, none⟩ (.int .i64 H0)) = W3 at hS' hP' hZ' hok' ⊢
  have hS := hS'
  have hP := hP'
  have hZ := hZ'
  have hok := hok'
  clear hS' hP' hZ' hok'
  have s0 := hS.cell 0 (v := .int .i64 L0) rfl
  have s1 := hS.cell 1 (v := .int .i64 H0) rfl
  have hgl := hS.lt
  go_upto_if 15 with (go_at_call 52; refine (KE.out _).mono ?_; rintro e w3 ⟨rfl, hb1⟩; clear s0 s1 hgl; replace hS := hS.next hb1; replace hP := hP.next hb1; replace hZ := hZ.next hb1; replace hok := hok.trans hb1; clear hb1)
  obtain ⟨dd, hdd⟩ : ∃ r, decide (H0 < L0) = r := ⟨_, rfl⟩
  rw [hdd]
  have HDD := Lib.hid hdd
  clear hdd
  go_cut [] from 16 to 18 (fun wx => Own wx G #[.int .i64 LO, .int .i64 HI, .int .i64 time, .bool set, .int .i64 held, .int .i64 hops, .bool GD, .slice A table.length cap, .int .i64 st, .int .i64 sn, .int .i64 life] ∧ Own wx B (parCells p) ∧ Own wx Z #[.int .i64 0, .int .i64 0, .int .i64 0, .bool false, .int .i64 0, .int .i64 0, .bool false, .slice none 0 0, .int .i64 0, .int .i64 0, .int .i64 0] ∧ Ok w wx)
  case first =>
    cases dd with
    | true =>
      have h : H0 < L0 := of_decide_eq_true HDD.out
      obtain rfl : LO = -2305843009213693952 := by rw [← HLO.out, if_pos h]
      obtain rfl : HI = 2305843009213693952 := by rw [← HHI.out, if_pos h]
      obtain rfl : GD = false := by rw [← HGD.out, if_pos h]
      clear h
      have HS := Lib.hid hS
      have HP := Lib.hid hP
      have HZ := Lib.hid hZ
      have HOK := Lib.hid hok
      clear hS hP hZ hok
      go_wp2_with (go_at_call 53; refine (spanAll _).mono ?_; rintro e w4 ⟨rfl, hb1⟩; have hS := HS.out.next hb1; have hP := HP.out.next hb1; have hZ := HZ.out.next hb1; have hok := HOK.out.trans hb1; clear hb1 HS HP HZ HOK; have s0 := hS.cell 0 (v := .int .i64 L0) rfl; have s1 := hS.cell 1 (v := .int .i64 H0) rfl; have s6 := hS.cell 6 (v := .bool good) rfl; have f0 := hS.frozen 0; have f1 := hS.frozen 1; have f6 := hS.frozen 6; have hgl := hS.lt)
      go_meet
      exact ⟨(((hS.set 0 (.int .i64 (-2305843009213693952))).set 1 (.int .i64 2305843009213693952)).set 6 (.bool false)).as (by simp), (((hP.setOther (a := ⟨G, 0, none⟩) hBG (.int .i64 (-2305843009213693952))).setOther (a := ⟨G, 1, none⟩) hBG (.int .i64 2305843009213693952)).setOther (a := ⟨G, 6, none⟩) hBG (.bool false)), (((hZ.setOther (a := ⟨G, 0, none⟩) hZG (.int .i64 (-2305843009213693952))).setOther (a := ⟨G, 1, none⟩) hZG (.int .i64 2305843009213693952)).setOther (a := ⟨G, 6, none⟩) hZG (.bool false)), (((hok.setCell (p := ⟨G, 0, none⟩) hwG (.int .i64 (-2305843009213693952))).setCell (p := ⟨G, 1, none⟩) hwG (.int .i64 2305843009213693952)).setCell (p := ⟨G, 6, none⟩) hwG (.bool false))⟩
    | false =>
      have h : ¬ H0 < L0 := of_decide_eq_false HDD.out
      obtain rfl : LO = L0 := by rw [← HLO.out, if_neg h]
      obtain rfl : HI = H0 := by rw [← HHI.out, if_neg h]
      obtain rfl : GD = good := by rw [← HGD.out, if_neg h]
      clear h
      go_wp2_with fail
      go_meet
      exact ⟨hS, hP, hZ, hok⟩
  case rest =>
  clear hS hP hZ hok
  obtain ⟨hS, hP, hZ, hok⟩ := hcut
  have s2 := hS.cell 2 (v := .int .i64 time) rfl
  have s4 := hS.cell 4 (v := .int .i64 held) rfl
  have f2 := hS.frozen 2
  have f4 := hS.frozen 4
  have hgl := hS.lt
  go_upto_region 6 with (first | (go_at_call 54; refine (KC.out _).mono ?_; rintro e w5 ⟨rfl, rfl⟩) | (go_at_call 55; refine (KB1.out _).mono ?_; rintro e w6 ⟨rfl, rfl⟩))
  clear s2 s4 f2 f4 hgl
  have hS' : Own ((wc.setCell ⟨G, 2, none⟩ (.int .i64 TM)).setCell ⟨G, 4, none⟩ (.int .i64 HE)) G #[.int .i64 LO, .int .i64 HI, .int .i64 TM, .bool set, .int .i64 HE, .int .i64 hops, .bool GD, .slice A table.length cap, .int .i64 st, .int .i64 sn, .int .i64 life] := ((hS.set 2 (.int .i64 TM)).set 4 (.int .i64 HE)).as (by simp)
  have hP' := ((hP.setOther (a := ⟨G, 2, none⟩) hBG (.int .i64 TM)).setOther (a := ⟨G, 4, none⟩) hBG (.int .i64 HE))
  have hZ' := ((hZ.setOther (a := ⟨G, 2, none⟩) hZG (.int .i64 TM)).setOther (a := ⟨G, 4, none⟩) hZG (.int .i64 HE))
  have hok' := ((hok.setCell (p := ⟨G, 2, none⟩) hwG (.int .i64 TM)).setCell (p := ⟨G, 4, none⟩) hwG (.int .i64 HE))
  clear hS hP hZ hok
  generalize ((wc.setCell ⟨G, 2, none⟩ (.int .i64 TM)).setCell ⟨G, 4, none⟩ (.int .i64 HE)) = W7 at hS' hP' hZ' hok' ⊢
  have hS := hS'
  have hP := hP'
  have hZ := hZ'
  have hok := hok'
  clear hS' hP' hZ' hok'
  have HOK := Lib.hid hok
  have HS := Lib.hid fun W' (k : Ok W7.drew W') => hS.drew.next k
  have HP := Lib.hid fun W' (k : Ok W7.drew W') => hP.drew.next k
  have HZ := Lib.hid fun W' (k : Ok W7.drew W') => hZ.drew.next k
  clear hS hP hZ hok
  refine wp_region_facts_last (by kernel_rfl) 52 rfl (VCSanP B G p hops d1 HO) Ok _ rfl _ 8 rfl rfl rfl rfl (by kernel_rfl) (by kernel_rfl) (by kernel_rfl) (fun i v w w' h k w'' k' => h w'' (k.trans k')) (fun a b c => Ok.trans) (Ok.refl _) [some 27, some 28, some 29, some 30, some 31, some 32, some 33, some 34] rfl ⟨?_, ?_, ?_, ?_, ?_, ?_, ?_, ?_, trivial⟩ ?_
  · intro a' w' hF hR
    have e3 : a'.tmps[3]? = some (.pointer (some ⟨G, 0, none⟩)) := hF.slot 3 (by kernel_rfl) rfl
    refine wpOp_run (v := .pointer (some ⟨G, 5, none⟩)) rfl rfl ?_ (fun _ _ => rfl) (Ok.refl _)
    clear hF
    go_simp
  · intro a' w' hF hR
    obtain ⟨v0, hv0, e27⟩ := hF.get 0 27 (by kernel_rfl) (by kernel_rfl)
    obtain rfl : v0 = _ := hv0 _ (Ok.refl _)
    have s5 := (HS.out _ hR).cell 5 (v := .int .i64 hops) rfl
    have hgl := (HS.out _ hR).lt
    refine wpOp_run (v := .int .i64 hops) rfl rfl ?_ (fun _ _ => rfl) (Ok.refl _)
    clear hF
    go_simp
  · intro a' w' hF hR
    have e2 : a'.tmps[2]? = some (.pointer (some ⟨B, 0, none⟩)) := hF.slot 2 (by kernel_rfl) rfl
    refine wpOp_run (v := .pointer (some ⟨B, 2, none⟩)) rfl rfl ?_ (fun _ _ => rfl) (Ok.refl _)
    clear hF
    go_simp
  · intro a' w' hF hR
    obtain ⟨v2, hv2, e29⟩ := hF.get 2 29 (by kernel_rfl) (by kernel_rfl)
    obtain rfl : v2 = _ := hv2 _ (Ok.refl _)
    obtain ⟨c0, c1, c2, c3, c4, c5, c6, c7, c8, c9, c10, c11⟩ := (HP.out _ hR).pars
    refine wpOp_run (v := .int .i64 p.d) rfl rfl ?_ (fun _ _ => rfl) (Ok.refl _)
    clear hF
    go_simp
  · intro a' w' hF hR
    obtain ⟨v3, hv3, e30⟩ := hF.get 3 30 (by kernel_rfl) (by kernel_rfl)
    obtain rfl : v3 = _ := hv3 _ (Ok.refl _)
    refine wpOp_run (v := .slice (some ⟨w'.heap.size, 0, none⟩) 2 2) (w' := w'.alloc (.cells #[.int .i64 p.d, .int .i64 1] 3)) rfl rfl ?_ (fun w'' k => ⟨_, rfl, (ints_new _ [p.d, 1] _ _ rfl rfl).below k⟩) ((Ok.refl _).alloc _)
    clear hF
    go_simp
  · intro a' w' hF hR
    obtain ⟨v4, hv4, e31⟩ := hF.get 4 31 (by kernel_rfl) (by kernel_rfl)
    obtain ⟨n4, rfl, hp4⟩ := hv4 _ (Ok.refl _)
    clear hF
    refine wpOp_call (f := 49) (args := #[.slice (some n4) 2 2]) rfl rfl ?_ ((KA.out _ _ hp4).mono ?_)
    · go_simp
    · rintro e w2 ⟨rfl, rfl⟩; exact ⟨_, rfl, fun _ _ => rfl, Ok.refl _⟩
  · intro a' w' hF hR
    obtain ⟨v1, hv1, e28⟩ := hF.get 1 28 (by kernel_rfl) (by kernel_rfl)
    obtain rfl : v1 = _ := hv1 _ (Ok.refl _)
    obtain ⟨v5, hv5, e32⟩ := hF.get 5 32 (by kernel_rfl) (by kernel_rfl)
    obtain rfl : v5 = _ := hv5 _ (Ok.refl _)
    clear hF
    refine wpOp_call (f := 55) (args := #[.int .i64 hops, .int .i64 0, .int .i64 d1]) rfl rfl ?_ ((KB2.out _).mono ?_)
    · go_simp
    · rintro e w2 ⟨rfl, rfl⟩; exact ⟨_, rfl, fun _ _ => rfl, Ok.refl _⟩
  · intro a' w' hF hR
    have e3 : a'.tmps[3]? = some (.pointer (some ⟨G, 0, none⟩)) := hF.slot 3 (by kernel_rfl) rfl
    refine wpOp_run (v := .pointer (some ⟨G, 5, none⟩)) rfl rfl ?_ (fun _ _ => rfl) (Ok.refl _)
    clear hF
    go_simp
  intro vs W' hvs hR
  have e6 : vs 6 = .int .i64 HO := hvs 6 (by decide) _ (Ok.refl _)
  have e7 : vs 7 = .pointer (some ⟨G, 5, none⟩) := hvs 7 (by decide) _ (Ok.refl _)
  have hS := HS.out _ hR
  have hP := HP.out _ hR
  have hZ := HZ.out _ hR
  have hok := HOK.out.trans ((Ok.refl W7).drew.trans hR)
  clear hvs HS HP HZ HOK KA KB2
  simp only [putFrom, e6, e7]
  simp only [Act.put, List.setIfInBounds_toArray, List.set_cons_zero, List.set_cons_succ]
  have s5 := hS.cell 5 (v := .int .i64 hops) rfl
  have f5 := hS.frozen 5
  have hgl := hS.lt
  refine wpOp_store (w' := W'.setCell ⟨G, 5, none⟩ (.int .i64 HO)) rfl rfl rfl ?_ ?_
  · go_simp
  clear s5 f5 hgl hR
  have hS' : Own (W'.setCell ⟨G, 5, none⟩ (.int .i64 HO)) G #[.int .i64 LO, .int .i64 HI, .int .i64 TM, .bool set, .int .i64 HE, .int .i64 HO, .bool GD, .slice A table.length cap, .int .i64 st, .int .i64 sn, .int .i64 life] := (hS.set 5 (.int .i64 HO)).as (by simp)
  have hP' := (hP.setOther (a := ⟨G, 5, none⟩) hBG (.int .i64 HO))
  have hZ' := (hZ.setOther (a := ⟨G, 5, none⟩) hZG (.int .i64 HO))
  have hok' := (hok.setCell (p := ⟨G, 5, none⟩) hwG (.int .i64 HO))
  clear hS hP hZ hok
  generalize (W'.setCell ⟨G, 5, none⟩ (.int .i64 HO)) = W8 at hS' hP' hZ' hok' ⊢
  have hS := hS'
  have hP := hP'
  have hZ := hZ'
  have hok := hok'
  clear hS' hP' hZ' hok'
  have s7 := hS.cell 7 (v := .slice A table.length cap) rfl
  have f7 := hS.frozen 7
  have hgl := hS.lt
  have hKZ := hZ.lt
  go_upto_region 8 with (go_at_call 56; refine (KG.out _ (HA.out.below hok)).mono ?_; rintro e w10 ⟨A2, cap2, rfl, hPA, hb1⟩; replace hPA := hPA.mono (L := Z + 1) hKZ; clear s7 f7 hgl hKZ; replace hS := hS.next hb1; replace hP := hP.next hb1; replace hZ := hZ.next hb1; replace hok := hok.trans hb1; clear hb1; have s7 := hS.cell 7 (v := .slice A table.length cap) rfl; have f7 := hS.frozen 7; have hgl := hS.lt)
  clear s7 f7 hgl
  replace hPA := hPA.set (p := ⟨G, 7, none⟩) hGZ (.slice A2 TB.length cap2)
  have hS' : Own (w10.setCell ⟨G, 7, none⟩ (.slice A2 TB.length cap2)) G #[.int .i64 LO, .int .i64 HI, .int .i64 TM, .bool set, .int .i64 HE, .int .i64 HO, .bool GD, .slice A2 TB.length cap2, .int .i64 st, .int .i64 sn, .int .i64 life] := (hS.set 7 (.slice A2 TB.length cap2)).as (by simp)
  have hP' := (hP.setOther (a := ⟨G, 7, none⟩) hBG (.slice A2 TB.length cap2))
  have hZ' := (hZ.setOther (a := ⟨G, 7, none⟩) hZG (.slice A2 TB.length cap2))
  have hok' := (hok.setCell (p := ⟨G, 7, none⟩) hwG (.slice A2 TB.length cap2))
  clear hS hP hZ hok
  generalize (w10.setCell ⟨G, 7, none⟩ (.slice A2 TB.length cap2)) = W9 at hS' hP' hZ' hok' hPA ⊢
  have hS := hS'
  have hP := hP'
  have hZ := hZ'
  have hok := hok'
  clear hS' hP' hZ' hok'
  have s8 := hS.cell 8 (v := .int .i64 st) rfl
  have s9 := hS.cell 9 (v := .int .i64 sn) rfl
  have hgl := hS.lt
  go_upto_if 42 with (go_at_call 57; refine (KR.out _).mono ?_; rintro e w12 ⟨rfl, hb1⟩; clear s8 s9 hgl; replace hPA := hPA.next hb1; replace hS := hS.next hb1; replace hP := hP.next hb1; replace hZ := hZ.next hb1; replace hok := hok.trans hb1; clear hb1)
  obtain ⟨nr, hnr⟩ : ∃ r, (!rr) = r := ⟨_, rfl⟩
  rw [hnr]
  have HNR := Lib.hid hnr
  clear hnr
  go_cut [] from 43 to 46 (fun wx => TabRow (Z + 1) wx A2 cap2 TB ∧ Own wx G #[.int .i64 LO, .int .i64 HI, .int .i64 TM, .bool set, .int .i64 HE, .int .i64 HO, .bool GD, .slice A2 TB.length cap2, .int .i64 ST, .int .i64 SN, .int .i64 life] ∧ Own wx Z #[.int .i64 0, .int .i64 0, .int .i64 0, .bool false, .int .i64 0, .int .i64 0, .bool false, .slice none 0 0, .int .i64 0, .int .i64 0, .int .i64 0] ∧ Ok w wx)
  case first =>
    have hst := HST.out
    unfold Health.stamp at hst
    cases nr with
    | false =>
      rw [if_pos (HRR.out (by have := HNR.out; cases rr <;> simp_all))] at hst
      injection hst with q1 q2
      subst q1 q2
      go_wp2_with fail
      go_meet
      exact ⟨hPA, hS, hZ, hok⟩
    | true =>
      rw [if_neg (fun h => by have := HRF.out h; have := HNR.out; cases rr <;> simp_all)] at hst
      injection hst with q1 q2
      subst q1 q2
      have s2 := hS.cell 2 (v := .int .i64 TM) rfl
      have s8 := hS.cell 8 (v := .int .i64 st) rfl
      have s9 := hS.cell 9 (v := .int .i64 sn) rfl
      have f8 := hS.frozen 8
      have f9 := hS.frozen 9
      have hgl := hS.lt
      go_wp2_with fail
      go_meet
      exact ⟨(hPA.set (p := ⟨G, 8, none⟩) hGZ _).set (p := ⟨G, 9, none⟩) hGZ _, (((hS.set 8 (.int .i64 TM)).set 9 (.int .i64 0))).as (by simp), ((hZ.setOther (a := ⟨G, 8, none⟩) hZG (.int .i64 TM)).setOther (a := ⟨G, 9, none⟩) hZG (.int .i64 0)), ((hok.setCell (p := ⟨G, 8, none⟩) hwG (.int .i64 TM)).setCell (p := ⟨G, 9, none⟩) hwG (.int .i64 0))⟩
  case rest =>
  clear hS hP hZ hok hPA
  obtain ⟨hPA, hS, hZ, hok⟩ := hcut
  have s10 := hS.cell 10 (v := .int .i64 life) rfl
  have f10 := hS.frozen 10
  have hgl := hS.lt
  go_upto_region 11 with (go_at_call 58; refine (KB3.out _).mono ?_; rintro e w13 ⟨rfl, rfl⟩)
  clear s10 f10 hgl
  have hS2 : Own (wc.setCell ⟨G, 10, none⟩ (.int .i64 LF)) G (staCells u A2 cap2) := (hS.set 10 (.int .i64 LF)).as (by rw [← HU.out]; simp [staCells])
  have hZ2 : Own (wc.setCell ⟨G, 10, none⟩ (.int .i64 LF)) Z (staCells zeroSta none 0) := hZ.setOther (a := ⟨G, 10, none⟩) hZG (.int .i64 LF)
  have hPu : TabRow (Z + 1) (wc.setCell ⟨G, 10, none⟩ (.int .i64 LF)) A2 cap2 u.table := by rw [← HU.out]; exact hPA.set (p := ⟨G, 10, none⟩) hGZ _
  have hok2 := hok.setCell (p := ⟨G, 10, none⟩) hwG (.int .i64 LF)
  have hrw := hwZ
  clear hS hZ hok hPA
  generalize wc.setCell ⟨G, 10, none⟩ (.int .i64 LF) = wd at hS2 hZ2 hPu hok2 ⊢
  have hPX := (((((((((((hPu.set (p := ⟨Z, 0, none⟩) (Nat.lt_succ_self _) (.int .i64 u.lo)).set (p := ⟨Z, 1, none⟩) (Nat.lt_succ_self _) (.int .i64 u.hi)).set (p := ⟨Z, 2, none⟩) (Nat.lt_succ_self _) (.int .i64 u.time)).set (p := ⟨Z, 3, none⟩) (Nat.lt_succ_self _) (.bool u.set)).set (p := ⟨Z, 4, none⟩) (Nat.lt_succ_self _) (.int .i64 u.held)).set (p := ⟨Z, 5, none⟩) (Nat.lt_succ_self _) (.int .i64 u.hops)).set (p := ⟨Z, 6, none⟩) (Nat.lt_succ_self _) (.bool u.good)).set (p := ⟨Z, 7, none⟩) (Nat.lt_succ_self _) (.slice A2 u.table.length cap2)).set (p := ⟨Z, 8, none⟩) (Nat.lt_succ_self _) (.int .i64 u.st)).set (p := ⟨Z, 9, none⟩) (Nat.lt_succ_self _) (.int .i64 u.sn)).set (p := ⟨Z, 10, none⟩) (Nat.lt_succ_self _) (.int .i64 u.life))
  obtain ⟨s0, s1, s2, s3, s4, s5, s6, s7, s8, s9, s10⟩ := hS2.sta
  obtain ⟨z0, z1, z2, z3, z4, z5, z6, z7, z8, z9, z10⟩ := hZ2.sta
  obtain ⟨y0, y1, y2, y3, y4, y5, y6, y7, y8, y9, y10⟩ := frozenSta hZ2
  have hsl := hS2.lt
  have hzl := hZ2.lt
  have hX := own_set11 hZ2 u A2 cap2
  have hok3 := ok_set11 hok2 hrw u A2 cap2
  go_wp2_with fail
  clear s0 s1 s2 s3 s4 s5 s6 s7 s8 s9 s10 z0 z1 z2 z3 z4 z5 z6 z7 z8 z9 z10 y0 y1 y2 y3 y4 y5 y6 y7 y8 y9 y10 hsl hzl
  generalize (((((((((((wd.setCell ⟨Z, 0, none⟩ (.int .i64 u.lo)).setCell ⟨Z, 1, none⟩ (.int .i64 u.hi)).setCell ⟨Z, 2, none⟩ (.int .i64 u.time)).setCell ⟨Z, 3, none⟩ (.bool u.set)).setCell ⟨Z, 4, none⟩ (.int .i64 u.held)).setCell ⟨Z, 5, none⟩ (.int .i64 u.hops)).setCell ⟨Z, 6, none⟩ (.bool u.good)).setCell ⟨Z, 7, none⟩ (.slice A2 u.table.length cap2)).setCell ⟨Z, 8, none⟩ (.int .i64 u.st)).setCell ⟨Z, 9, none⟩ (.int .i64 u.sn)).setCell ⟨Z, 10, none⟩ (.int .i64 u.life)) = W5 at hX hok3 hPX ⊢
  obtain ⟨s0, s1, s2, s3, s4, s5, s6, s7, s8, s9, s10⟩ := hX.sta
  exact bodyPost_ret (v := staV u A2 cap2) (by simp [results, Tryz.results21, go_sem, s0, s1, s2, s3, s4, s5, s6, s7, s8, s9, s10, staV]) rfl ⟨A2, cap2, rfl, hPX.mono (Nat.le_succ_of_le hwZ), hok3⟩
end Go.Proofs.YtmokofblmkeloaaGreatDoor
