/- Contracts of layer 21: the program's Of and Far, its tables, and what a Front tells. -/
import Derived.Test.YtlclfonlidcfiaaDoorC21f
import Derived.Test.YtlclfonlidcfiaaDoorC15b
import Derived.Test.YtlclfonlidcfiaaDoorC18a
import Derived.Test.YtlclfonlidcfiaaDoorC04d
import Derived.Test.YtlclfonlidcfiaaDoorC20c
namespace Go.Proofs.YtlclfonlidcfiaaDoor
open Go.RowKit
set_option linter.unusedVariables false
set_option maxRecDepth 100000
attribute [local go_sem ↓] Go.wp_at_zero Go.wp_at_succ
/-- A table of one's own, in a row behind the first K blocks (if it lies anywhere). -/
def TabRow (K : Nat) (w : World) (A : Option Addr) (cap : Nat) (l : List (Int × Int)) : Prop := w.ownsRow K 77 2 (.slice A l.length cap) l.length (cellsOfPairs l)
namespace TabRow
variable {K : Nat} {w w1 : World} {A : Option Addr} {cap : Nat} {l : List (Int × Int)}
theorem nil (K : Nat) (w : World) : TabRow K w none 0 [] := World.ownsRow_nil _ _ _ _
theorem next (h : TabRow K w A cap l) (j : Ok w w1) : TabRow K w1 A cap l := row_next19 h j
theorem only {r : Nat} (h : TabRow K w A cap l) (k : Only r w w1) (hr : r < K) : TabRow K w1 A cap l := by
  refine World.ownsRow.kept h (w' := w1) (row := some r) ⟨k.os, k.tape, k.output, k.size, fun i hi hn => k.block i hi fun e => hn (by rw [e])⟩ ?_
  rcases h.2 with ⟨e, _⟩ | ⟨g, c2, cur, e, hb, _⟩
  · rw [e]; exact .inl rfl
  · rw [e]
    refine .inr fun e2 => ?_
    simp only [Value.ownBlock, Option.some.injEq] at e2
    omega
theorem set (h : TabRow K w A cap l) {p : Addr} (hp : p.block < K) (v : Value) : TabRow K (w.setCell p v) A cap l := h.only ((Only.refl p.block w).set (.inl rfl) v) hp
theorem mono {L : Nat} (h : TabRow K w A cap l) (j : L ≤ K) : TabRow L w A cap l := row_low19 h j
theorem pairs (h : TabRow K w A cap l) : PairsOf K w A l := by
  obtain ⟨A2, c2, e, hp⟩ := PairsOf.of_own h (Nat.le_refl K)
  cases e
  exact hp
end TabRow
/-- It answers this state; its table is its own. -/
def SaneEnd (w : World) (t : Sta) (e : Ending) (w' : World) : Prop := ∃ (A : Option Addr) (cap : Nat), e = .returned (staV t A cap) ∧ TabRow w.heap.size w' A cap t.table ∧ Ok w w'
theorem healthLives (x : Int) (w : World) : Calls Tryd.prog 35 #[.int .i64 x] w fun e w' => e = .returned (.int .i64 (Health.life x)) ∧ w = w' := by
  have KB := Lib.hid fun w => satBound x 0 2305843009213693952 w
  rw [show Sat.bound x 0 2305843009213693952 = Health.life x from rfl] at KB
  generalize Health.life x = z at KB ⊢
  go_enter Tryd.func35, Tryd.ntmps35
  go_wp2_with (go_at_call 59; refine (KB.out _).mono ?_; rintro e w1 ⟨rfl, rfl⟩)
  go_ret
  exact ⟨rfl, rfl⟩
theorem healthOwnTable (A : Option Addr) (l : List (Int × Int)) (cap : Nat) (w : World) (hA : PairsAt w A l) (hl : l.length ≤ 9223372036854775807) :
    Calls Tryd.prog 60 #[.slice A l.length cap] w fun e w' => ∃ (A2 : Option Addr) (c2 : Nat), e = .returned (.slice A2 (if Leap.good l = true then l else []).length c2) ∧ TabRow w.heap.size w' A2 c2 (if Leap.good l = true then l else []) ∧ Ok w w' := by
  have hok := Ok.refl w
  have KG := Lib.hid (leapGood A l cap w hA hl)
  have hlen : Leap.good l = true → l.length ≤ 32 := fun h => by
    unfold Leap.good Wire.tab at h
    simp only [Bool.and_eq_true, decide_eq_true_eq] at h
    exact h.1.1
  have KC := Lib.hid fun (w1 : World) (k : Ok w w1) (h : l.length ≤ 8796093022208) => cloneRow A l cap w1 (hA.below k) h
  obtain ⟨gd, hgd⟩ : ∃ r, Leap.good l = r := ⟨_, rfl⟩
  rw [hgd] at KG hlen ⊢
  clear hA hl hgd
  cases gd with
  | false =>
    rw [if_neg (by decide)]
    clear hlen KC
    go_enter Tryd.func60, Tryd.ntmps60
    go_wp2_with (go_at_call 39; refine (KG.out).mono ?_; rintro e w1 ⟨rfl, hb1⟩; replace hok := hok.trans hb1; clear hb1)
    go_ret
    exact ⟨none, 0, rfl, TabRow.nil _ _, hok⟩
  | true =>
    rw [if_pos rfl]
    have HLN : Hid (l.length ≤ 8796093022208) := Lib.hid (by have := hlen rfl; omega)
    clear hlen
    go_enter Tryd.func60, Tryd.ntmps60
    go_wp2_with (first | (go_at_call 39; refine (KG.out).mono ?_; rintro e w1 ⟨rfl, hb1⟩; replace hok := hok.trans hb1; clear hb1) | (go_at_call 77; refine (KC.out _ hok HLN.out).mono ?_; rintro e w2 ⟨v, rfl, hr, hb1⟩; replace hr := row_low19 hr hok.size; replace hok := hok.trans hb1; clear hb1; obtain ⟨A2, c2, rfl, -⟩ := PairsAt.of_own hr))
    go_ret
    exact ⟨A2, c2, rfl, hr, hok⟩
theorem healthOf (p : Par) (s : Sta) (A : Option Addr) (cap : Nat) (w : World) : Calls Tryd.prog 26 #[parV p, staV s A cap] w fun e w' => e = .returned (.int .i64 (Health.of p s)) ∧ Ok w w' := by
  have hok := Ok.refl w
  obtain ⟨lo, hi, time, set, held, hops, good, table, st, sn, lf⟩ := s
  unfold staV Health.of
  simp only
  cases good
  · rw [if_pos (Or.inl rfl)]
    go_enter Tryd.func26, Tryd.ntmps26
    go_wp2
    go_ret
    exact ⟨rfl, (hok.alloc _).alloc _⟩
  cases set
  · rw [if_pos (Or.inr (Or.inl rfl))]
    go_enter Tryd.func26, Tryd.ntmps26
    go_wp2
    go_ret
    exact ⟨rfl, (hok.alloc _).alloc _⟩
  by_cases h : p.d < hops
  · rw [if_pos (Or.inr (Or.inr h))]
    go_enter Tryd.func26, Tryd.ntmps26
    go_wp2
    go_ret
    exact ⟨rfl, (hok.alloc _).alloc _⟩
  rw [if_neg (by simp only [reduceCtorEq, false_or]; exact h)]
  by_cases h2 : p.hold < held
  · rw [if_pos h2]
    go_enter Tryd.func26, Tryd.ntmps26
    go_wp2
    go_ret
    exact ⟨rfl, (hok.alloc _).alloc _⟩
  · rw [if_neg h2]
    go_enter Tryd.func26, Tryd.ntmps26
    go_wp2
    go_ret
    exact ⟨rfl, (hok.alloc _).alloc _⟩
/-- What each operation leaves. -/
def VMFarP (B : Nat) (p : Par) (held m wd z : Int) (w : World) (v : Value) : Nat → Prop
  | 0 => v = parV p
  | 1 => v = .int .i64 held
  | 2 => v = .pointer (some ⟨B, 9, none⟩)
  | 3 => v = .int .i64 p.hold
  | 4 => ∃ n : Addr, v = .slice (some n) 2 2 ∧ IntsAt w (some n) [held, p.hold]
  | 5 => v = .int .i64 m
  | 6 => v = .pointer (some ⟨B, 2, none⟩)
  | 7 => v = .int .i64 p.d
  | 8 => v = .int .i64 wd
  | 9 => v = .int .i64 z
  | 10 => v = .int .i64 z
  | _ => v = .bool true
/-- It stays so. -/
def VCFarP (B : Nat) (p : Par) (held m wd z : Int) (i : Nat) (v : Value) (w : World) : Prop := ∀ w', Ok w w' → VMFarP B p held m wd z w' v i
theorem healthFar (p : Par) (held : Int) (w : World) : Calls Tryd.prog 52 #[parV p, .int .i64 held] w fun e w' => e = .returned (.int .i64 (Health.far p held)) ∧ Ok w w' := by
  have KM := Lib.hid fun w A h => satMax A [held, p.hold] 2 w h (by simp)
  have KW := Lib.hid fun w => limWidth p (Sat.most [held, p.hold]) p.d w
  have KX := Lib.hid fun w => satMul 2 (Lim.width p (Sat.most [held, p.hold]) p.d) w
  rw [show Sat.mul 2 (Lim.width p (Sat.most [held, p.hold]) p.d) = Health.far p held from rfl] at KX
  generalize Health.far p held = z at KX ⊢
  generalize Lim.width p (Sat.most [held, p.hold]) p.d = wd at KW KX
  generalize Sat.most [held, p.hold] = m at KM KW
  have hP := Own.new w (parCells p) 23 rfl
  have hok := (Ok.refl w).alloc (.cells (parCells p) 23)
  go_enter Tryd.func52, Tryd.ntmps52
  go_upto_region 1 with fail
  generalize w.alloc (.cells (parCells p) 23) = W at hP hok ⊢
  obtain ⟨B, hB⟩ : ∃ r, w.heap.size = r := ⟨_, rfl⟩
  rw [hB] at hP ⊢
  clear hB
  have HOK := Lib.hid hok
  have HP := Lib.hid fun W' (k : Ok W.drew W') => hP.drew.next k
  clear hP hok
  refine wp_region_facts (by kernel_rfl) 15 rfl (VCFarP B p held m wd z) Ok (by kernel_rfl) (fun i v w w' h k w'' k' => h w'' (k.trans k')) (fun a b c => Ok.trans) (Ok.refl _) [some 5, some 6, some 7, some 8, some 9, some 10, some 11, some 12, some 13, some 14, some 4] rfl 11 rfl ⟨?_, ?_, ?_, ?_, ?_, ?_, ?_, ?_, ?_, ?_, ?_, trivial⟩ ?_
  · intro a' w' hF hR
    have e2 : a'.tmps[2]? = some (.pointer (some ⟨B, 0, none⟩)) := hF.slot 2 (by kernel_rfl) rfl
    obtain ⟨c0, c1, c2, c3, c4, c5, c6, c7, c8, c9, c10, c11⟩ := (HP.out _ hR).pars
    refine wpOp_run (v := parV p) rfl rfl ?_ (fun _ _ => rfl) (Ok.refl _)
    clear hF
    go_simp
  · intro a' w' hF hR
    have e1 : a'.tmps[1]? = some (.int .i64 held) := hF.slot 1 (by kernel_rfl) rfl
    refine wpOp_run (v := .int .i64 held) rfl rfl ?_ (fun _ _ => rfl) (Ok.refl _)
    clear hF
    go_simp
  · intro a' w' hF hR
    have e2 : a'.tmps[2]? = some (.pointer (some ⟨B, 0, none⟩)) := hF.slot 2 (by kernel_rfl) rfl
    refine wpOp_run (v := .pointer (some ⟨B, 9, none⟩)) rfl rfl ?_ (fun _ _ => rfl) (Ok.refl _)
    clear hF
    go_simp
  · intro a' w' hF hR
    obtain ⟨v2, hv2, e7⟩ := hF.get 2 7 (by kernel_rfl) (by kernel_rfl)
    obtain rfl : v2 = _ := hv2 _ (Ok.refl _)
    obtain ⟨c0, c1, c2, c3, c4, c5, c6, c7, c8, c9, c10, c11⟩ := (HP.out _ hR).pars
    refine wpOp_run (v := .int .i64 p.hold) rfl rfl ?_ (fun _ _ => rfl) (Ok.refl _)
    clear hF
    go_simp
  · intro a' w' hF hR
    obtain ⟨v1, hv1, e6⟩ := hF.get 1 6 (by kernel_rfl) (by kernel_rfl)
    obtain rfl : v1 = _ := hv1 _ (Ok.refl _)
    obtain ⟨v3, hv3, e8⟩ := hF.get 3 8 (by kernel_rfl) (by kernel_rfl)
    obtain rfl : v3 = _ := hv3 _ (Ok.refl _)
    refine wpOp_run (v := .slice (some ⟨w'.heap.size, 0, none⟩) 2 2) (w' := w'.alloc (.cells #[.int .i64 held, .int .i64 p.hold] 3)) rfl rfl ?_ (fun w'' k => ⟨_, rfl, (ints_new _ [held, p.hold] _ _ rfl rfl).below k⟩) ((Ok.refl _).alloc _)
    clear hF
    go_simp
  · intro a' w' hF hR
    obtain ⟨v4, hv4, e9⟩ := hF.get 4 9 (by kernel_rfl) (by kernel_rfl)
    obtain ⟨n4, rfl, hp4⟩ := hv4 _ (Ok.refl _)
    clear hF
    refine wpOp_call (f := 62) (args := #[.slice (some n4) 2 2]) rfl rfl ?_ ((KM.out _ _ hp4).mono ?_)
    · go_simp
    · rintro e w2 ⟨rfl, rfl⟩; exact ⟨_, rfl, fun _ _ => rfl, Ok.refl _⟩
  · intro a' w' hF hR
    have e2 : a'.tmps[2]? = some (.pointer (some ⟨B, 0, none⟩)) := hF.slot 2 (by kernel_rfl) rfl
    refine wpOp_run (v := .pointer (some ⟨B, 2, none⟩)) rfl rfl ?_ (fun _ _ => rfl) (Ok.refl _)
    clear hF
    go_simp
  · intro a' w' hF hR
    obtain ⟨v6, hv6, e11⟩ := hF.get 6 11 (by kernel_rfl) (by kernel_rfl)
    obtain rfl : v6 = _ := hv6 _ (Ok.refl _)
    obtain ⟨c0, c1, c2, c3, c4, c5, c6, c7, c8, c9, c10, c11⟩ := (HP.out _ hR).pars
    refine wpOp_run (v := .int .i64 p.d) rfl rfl ?_ (fun _ _ => rfl) (Ok.refl _)
    clear hF
    go_simp
  · intro a' w' hF hR
    obtain ⟨v0, hv0, e5⟩ := hF.get 0 5 (by kernel_rfl) (by kernel_rfl)
    obtain rfl : v0 = _ := hv0 _ (Ok.refl _)
    obtain ⟨v5, hv5, e10⟩ := hF.get 5 10 (by kernel_rfl) (by kernel_rfl)
    obtain rfl : v5 = _ := hv5 _ (Ok.refl _)
    obtain ⟨v7, hv7, e12⟩ := hF.get 7 12 (by kernel_rfl) (by kernel_rfl)
    obtain rfl : v7 = _ := hv7 _ (Ok.refl _)
    clear hF
    refine wpOp_call (f := 73) (args := #[parV p, .int .i64 m, .int .i64 p.d]) rfl rfl ?_ ((KW.out _).mono ?_)
    · go_simp
    · rintro e w2 ⟨rfl, hb2⟩; exact ⟨_, rfl, fun _ _ => rfl, hb2⟩
  · intro a' w' hF hR
    obtain ⟨v8, hv8, e13⟩ := hF.get 8 13 (by kernel_rfl) (by kernel_rfl)
    obtain rfl : v8 = _ := hv8 _ (Ok.refl _)
    clear hF
    refine wpOp_call (f := 72) (args := #[.int .i64 2, .int .i64 wd]) rfl rfl ?_ ((KX.out _).mono ?_)
    · go_simp
    · rintro e w2 ⟨rfl, rfl⟩; exact ⟨_, rfl, fun _ _ => rfl, Ok.refl _⟩
  · intro a' w' hF hR
    obtain ⟨v9, hv9, e14⟩ := hF.get 9 14 (by kernel_rfl) (by kernel_rfl)
    obtain rfl : v9 = _ := hv9 _ (Ok.refl _)
    refine wpOp_run (v := .int .i64 z) rfl rfl ?_ (fun _ _ => rfl) (Ok.refl _)
    clear hF
    go_simp
  intro vs w2 hV hR
  have e10 : vs 10 = .int .i64 z := hV 10 (by decide) _ (Ok.refl _)
  have hok2 := HOK.out.trans ((Ok.refl W).drew.trans hR)
  clear hV HP HOK KM KW KX
  simp only [putFrom, e10]
  simp only [Act.put, List.setIfInBounds_toArray, List.set_cons_zero, List.set_cons_succ]
  go_wp2
  go_ret
  exact ⟨rfl, hok2⟩
/-- What each operation leaves. -/
def VMHeaP (G : Nat) (p : Par) (s : Sta) (A : Option Addr) (cap : Nat) (h : Int) (w : World) (v : Value) : Nat → Prop
  | 0 => v = .pointer (some ⟨G, 0, none⟩)
  | 1 => v = .pointer (some ⟨G, 0, none⟩)
  | 2 => v = .pointer (some ⟨G, 0, none⟩)
  | 3 => v = parV p
  | 4 => v = .pointer (some ⟨G, 0, none⟩)
  | 5 => v = .pointer (some ⟨G, 0, none⟩)
  | 6 => v = .pointer (some ⟨G, 12, none⟩)
  | 7 => v = .agg #[.int .i64 s.lo, .int .i64 s.hi, .int .i64 s.time, .bool s.set, .int .i64 s.held, .int .i64 s.hops, .bool s.good, .slice A s.table.length cap, .int .i64 s.st, .int .i64 s.sn, .int .i64 s.life]
  | 8 => v = .int .i64 h
  | 9 => v = .int .i64 h
  | _ => v = .bool true
/-- It stays so. -/
def VCHeaP (G : Nat) (p : Par) (s : Sta) (A : Option Addr) (cap : Nat) (h : Int) (i : Nat) (v : Value) (w : World) : Prop := ∀ w', Ok w w' → VMHeaP G p s A cap h w' v i
theorem frontHealth (G : Nat) (p : Par) (s : Sta) (A : Option Addr) (cap : Nat) (w : World) (hO : Own w G (frontCells p s A cap)) : Calls Tryd.prog 13 #[.pointer (some ⟨G, 0, none⟩)] w fun e w' => e = .returned (.int .i64 (Health.of p s)) ∧ Ok w w' := by
  have KO := Lib.hid fun w => healthOf p s A cap w
  generalize Health.of p s = h at KO ⊢
  have HOK := Lib.hid (Ok.refl w)
  have HQ := Lib.hid fun W' (k : Ok w.drew W') => hO.drew.next k
  clear hO
  go_enter Tryd.func13, Tryd.ntmps13
  go_upto_region 3 with fail
  refine wp_region_facts (by kernel_rfl) 14 rfl (VCHeaP G p s A cap h) Ok (by kernel_rfl) (fun i v w w' h k w'' k' => h w'' (k.trans k')) (fun a b c => Ok.trans) (Ok.refl _) [some 5, some 6, some 7, some 8, some 9, some 10, some 11, some 12, some 13, some 2] rfl 10 rfl ⟨?_, ?_, ?_, ?_, ?_, ?_, ?_, ?_, ?_, ?_, trivial⟩ ?_
  · intro a' w' hF hR
    have e0 : a'.tmps[0]? = some (.pointer (some ⟨G, 0, none⟩)) := hF.slot 0 (by kernel_rfl) rfl
    refine wpOp_run (v := .pointer (some ⟨G, 0, none⟩)) rfl rfl ?_ (fun _ _ => rfl) (Ok.refl _)
    clear hF
    go_simp
  · intro a' w' hF hR
    obtain ⟨v0, hv0, e5⟩ := hF.get 0 5 (by kernel_rfl) (by kernel_rfl)
    obtain rfl : v0 = _ := hv0 _ (Ok.refl _)
    refine wpOp_run (v := .pointer (some ⟨G, 0, none⟩)) rfl rfl ?_ (fun _ _ => rfl) (Ok.refl _)
    clear hF
    go_simp
  · intro a' w' hF hR
    obtain ⟨v1, hv1, e6⟩ := hF.get 1 6 (by kernel_rfl) (by kernel_rfl)
    obtain rfl : v1 = _ := hv1 _ (Ok.refl _)
    refine wpOp_run (v := .pointer (some ⟨G, 0, none⟩)) rfl rfl ?_ (fun _ _ => rfl) (Ok.refl _)
    clear hF
    go_simp
  · intro a' w' hF hR
    obtain ⟨v2, hv2, e7⟩ := hF.get 2 7 (by kernel_rfl) (by kernel_rfl)
    obtain rfl : v2 = _ := hv2 _ (Ok.refl _)
    obtain ⟨c0, c1, c2, c3, c4, c5, c6, c7, c8, c9, c10, c11⟩ := (HQ.out _ hR).frP
    have hgl := (HQ.out _ hR).lt
    refine wpOp_run (v := parV p) rfl rfl ?_ (fun _ _ => rfl) (Ok.refl _)
    clear hF
    go_simp
  · intro a' w' hF hR
    have e0 : a'.tmps[0]? = some (.pointer (some ⟨G, 0, none⟩)) := hF.slot 0 (by kernel_rfl) rfl
    refine wpOp_run (v := .pointer (some ⟨G, 0, none⟩)) rfl rfl ?_ (fun _ _ => rfl) (Ok.refl _)
    clear hF
    go_simp
  · intro a' w' hF hR
    obtain ⟨v4, hv4, e9⟩ := hF.get 4 9 (by kernel_rfl) (by kernel_rfl)
    obtain rfl : v4 = _ := hv4 _ (Ok.refl _)
    refine wpOp_run (v := .pointer (some ⟨G, 0, none⟩)) rfl rfl ?_ (fun _ _ => rfl) (Ok.refl _)
    clear hF
    go_simp
  · intro a' w' hF hR
    obtain ⟨v5, hv5, e10⟩ := hF.get 5 10 (by kernel_rfl) (by kernel_rfl)
    obtain rfl : v5 = _ := hv5 _ (Ok.refl _)
    refine wpOp_run (v := .pointer (some ⟨G, 12, none⟩)) rfl rfl ?_ (fun _ _ => rfl) (Ok.refl _)
    clear hF
    go_simp
  · intro a' w' hF hR
    obtain ⟨v6, hv6, e11⟩ := hF.get 6 11 (by kernel_rfl) (by kernel_rfl)
    obtain rfl : v6 = _ := hv6 _ (Ok.refl _)
    obtain ⟨s0, s1, s2, s3, s4, s5, s6, s7, s8, s9, s10⟩ := (HQ.out _ hR).frS
    have hgl := (HQ.out _ hR).lt
    refine wpOp_run (v := .agg #[.int .i64 s.lo, .int .i64 s.hi, .int .i64 s.time, .bool s.set, .int .i64 s.held, .int .i64 s.hops, .bool s.good, .slice A s.table.length cap, .int .i64 s.st, .int .i64 s.sn, .int .i64 s.life]) rfl rfl ?_ (fun _ _ => rfl) (Ok.refl _)
    clear hF
    go_simp
  · intro a' w' hF hR
    obtain ⟨v3, hv3, e8⟩ := hF.get 3 8 (by kernel_rfl) (by kernel_rfl)
    obtain rfl : v3 = _ := hv3 _ (Ok.refl _)
    obtain ⟨v7, hv7, e12⟩ := hF.get 7 12 (by kernel_rfl) (by kernel_rfl)
    obtain rfl : v7 = _ := hv7 _ (Ok.refl _)
    clear hF
    refine wpOp_call (f := 26) (args := #[parV p, .agg #[.int .i64 s.lo, .int .i64 s.hi, .int .i64 s.time, .bool s.set, .int .i64 s.held, .int .i64 s.hops, .bool s.good, .slice A s.table.length cap, .int .i64 s.st, .int .i64 s.sn, .int .i64 s.life]]) rfl rfl ?_ ((KO.out _).mono ?_)
    · go_simp
    · rintro e w2 ⟨rfl, hb2⟩; exact ⟨_, rfl, fun _ _ => rfl, hb2⟩
  · intro a' w' hF hR
    obtain ⟨v8, hv8, e13⟩ := hF.get 8 13 (by kernel_rfl) (by kernel_rfl)
    obtain rfl : v8 = _ := hv8 _ (Ok.refl _)
    refine wpOp_run (v := .int .i64 h) rfl rfl ?_ (fun _ _ => rfl) (Ok.refl _)
    clear hF
    go_simp
  intro vs w2 hV hR
  have e9 : vs 9 = .int .i64 h := hV 9 (by decide) _ (Ok.refl _)
  have hok2 := HOK.out.trans ((Ok.refl w).drew.trans hR)
  clear hV HQ HOK KO
  simp only [putFrom, e9]
  simp only [Act.put, List.setIfInBounds_toArray, List.set_cons_zero, List.set_cons_succ]
  go_wp2
  go_ret
  exact ⟨rfl, hok2⟩
theorem frontReady (G : Nat) (p : Par) (s : Sta) (A : Option Addr) (cap : Nat) (w : World) (hO : Own w G (frontCells p s A cap)) : Calls Tryd.prog 19 #[.pointer (some ⟨G, 0, none⟩)] w fun e w' => e = .returned (.int .i64 (if Health.of p s = 0 then 20 else 0)) ∧ Ok w w' := by
  have hok := Ok.refl w
  have KH := Lib.hid (frontHealth G p s A cap w hO)
  generalize Health.of p s = h at KH ⊢
  clear hO
  by_cases j : h = 0
  · rw [if_pos j]
    subst j
    go_enter Tryd.func19, Tryd.ntmps19
    go_wp2_with (go_at_call 13; refine (KH.out).mono ?_; rintro e w1 ⟨rfl, hb1⟩; replace hok := hok.trans hb1; clear hb1)
    go_ret
    exact ⟨rfl, hok⟩
  · rw [if_neg j]
    have e1 : (h == 0) = false := beq_eq_false_iff_ne.2 j
    clear j
    go_enter Tryd.func19, Tryd.ntmps19
    go_wp2_with (go_at_call 13; refine (KH.out).mono ?_; rintro e w1 ⟨rfl, hb1⟩; replace hok := hok.trans hb1; clear hb1)
    go_ret
    exact ⟨rfl, hok⟩
theorem frontNow (G : Nat) (p : Par) (s : Sta) (A : Option Addr) (cap : Nat) (w : World) (hO : Own w G (frontCells p s A cap)) : Calls Tryd.prog 7 #[.pointer (some ⟨G, 0, none⟩)] w fun e w' => e = .returned (.tuple #[.int .i64 (if Health.of p s = 0 then 0 else s.time), .int .i64 (if Health.of p s = 0 then 20 else 0)]) ∧ Ok w w' := by
  have hok := Ok.refl w
  have KR := Lib.hid fun w h => frontReady G p s A cap w h
  generalize Health.of p s = h at KR ⊢
  by_cases j : h = 0
  · simp only [if_pos j] at KR ⊢
    clear j
    go_enter Tryd.func7, Tryd.ntmps7
    go_wp2_with (go_at_call 19; refine (KR.out _ hO).mono ?_; rintro e w1 ⟨rfl, hb1⟩; replace hO := hO.next hb1; replace hok := hok.trans hb1; clear hb1; obtain ⟨s0, s1, s2, s3, s4, s5, s6, s7, s8, s9, s10⟩ := hO.frS; have hgl := hO.lt)
    go_ret2
    exact ⟨rfl, hok⟩
  · simp only [if_neg j] at KR ⊢
    clear j
    go_enter Tryd.func7, Tryd.ntmps7
    go_wp2_with (go_at_call 19; refine (KR.out _ hO).mono ?_; rintro e w1 ⟨rfl, hb1⟩; replace hO := hO.next hb1; replace hok := hok.trans hb1; clear hb1; obtain ⟨s0, s1, s2, s3, s4, s5, s6, s7, s8, s9, s10⟩ := hO.frS; have hgl := hO.lt)
    go_ret2
    exact ⟨rfl, hok⟩
theorem frontInterval (G : Nat) (p : Par) (s : Sta) (A : Option Addr) (cap : Nat) (w : World) (hO : Own w G (frontCells p s A cap)) : Calls Tryd.prog 8 #[.pointer (some ⟨G, 0, none⟩)] w fun e w' => e = .returned (.tuple #[spanV (if Health.of p s = 0 then 0 else s.lo) (if Health.of p s = 0 then 0 else s.hi), .int .i64 (if Health.of p s = 0 then 20 else 0)]) ∧ Ok w w' := by
  have KR := Lib.hid fun w h => frontReady G p s A cap w h
  generalize Health.of p s = h at KR ⊢
  have hok := (Ok.refl w).alloc (.cells #[.int .i64 0, .int .i64 0] 25)
  have hZ := Slab.new w 0 0 25 rfl
  have hq : G ≠ w.heap.size := Nat.ne_of_lt hO.lt
  replace hO := hO.alloc (.cells #[.int .i64 0, .int .i64 0] 25)
  skip
  by_cases j : h = 0
  · simp only [if_pos j] at KR ⊢
    clear j
    go_enter Tryd.func8, Tryd.ntmps8
    go_upto_region 1 with fail
    change Code.wp _ _ _ _ (w.alloc (.cells #[.int .i64 0, .int .i64 0] 25))
    generalize w.alloc (.cells #[.int .i64 0, .int .i64 0] 25) = W at hO hZ hok ⊢
    obtain ⟨Z, hZe⟩ : ∃ r, w.heap.size = r := ⟨_, rfl⟩
    have hwZ : w.heap.size ≤ Z := by omega
    rw [hZe] at hZ ⊢
    clear hZe
    go_wp2_with (go_at_call 19; refine (KR.out _ hO).mono ?_; rintro e w1 ⟨rfl, hb1⟩; replace hO := hO.next hb1; replace hok := hok.trans hb1; replace hZ := hZ.next hb1; clear hb1; have z0 := hZ.c0; have z1 := hZ.c1; have y0 := hZ.f0; have y1 := hZ.f1; have hzl := hZ.lt; obtain ⟨s0, s1, s2, s3, s4, s5, s6, s7, s8, s9, s10⟩ := hO.frS; have hgl := hO.lt)
    exact bodyPost_ret (v := .tuple #[spanV 0 0, .int .i64 20]) (by simp [results, Tryd.results8, go_sem, ((hZ.set 0 0)).c0, (hZ.set 0 0).c1]) rfl ⟨rfl, (hok.setCell (p := ⟨Z, 0, none⟩) hwZ _).setCell (p := ⟨Z, 1, none⟩) hwZ _⟩
  · simp only [if_neg j] at KR ⊢
    clear j
    go_enter Tryd.func8, Tryd.ntmps8
    go_upto_region 1 with fail
    change Code.wp _ _ _ _ (w.alloc (.cells #[.int .i64 0, .int .i64 0] 25))
    generalize w.alloc (.cells #[.int .i64 0, .int .i64 0] 25) = W at hO hZ hok ⊢
    obtain ⟨Z, hZe⟩ : ∃ r, w.heap.size = r := ⟨_, rfl⟩
    have hwZ : w.heap.size ≤ Z := by omega
    rw [hZe] at hZ ⊢
    clear hZe
    go_wp2_with (go_at_call 19; refine (KR.out _ hO).mono ?_; rintro e w1 ⟨rfl, hb1⟩; replace hO := hO.next hb1; replace hok := hok.trans hb1; replace hZ := hZ.next hb1; clear hb1; have z0 := hZ.c0; have z1 := hZ.c1; have y0 := hZ.f0; have y1 := hZ.f1; have hzl := hZ.lt; obtain ⟨s0, s1, s2, s3, s4, s5, s6, s7, s8, s9, s10⟩ := hO.frS; have hgl := hO.lt)
    exact bodyPost_ret (v := .tuple #[spanV s.lo s.hi, .int .i64 0]) (by simp [results, Tryd.results8, go_sem, ((hZ.set s.lo s.hi)).c0, (hZ.set s.lo s.hi).c1]) rfl ⟨rfl, (hok.setCell (p := ⟨Z, 0, none⟩) hwZ _).setCell (p := ⟨Z, 1, none⟩) hwZ _⟩
theorem frontStamps (G : Nat) (p : Par) (s : Sta) (A : Option Addr) (cap : Nat) (w : World) (hO : Own w G (frontCells p s A cap)) : Calls Tryd.prog 28 #[.pointer (some ⟨G, 0, none⟩)] w fun e w' => e = .returned (stV (s.st, s.sn)) ∧ Ok w w' := by
  have hok := (Ok.refl w).alloc (.cells #[.int .i64 0, .int .i64 0] 63)
  have hZ := Slab.new w 0 0 63 rfl
  have hO2 := hO.alloc (.cells #[.int .i64 0, .int .i64 0] 63)
  clear hO
  go_enter Tryd.func28, Tryd.ntmps28
  go_upto_region 1 with fail
  change Code.wp _ _ _ _ (w.alloc (.cells #[.int .i64 0, .int .i64 0] 63))
  generalize w.alloc (.cells #[.int .i64 0, .int .i64 0] 63) = W at hO2 hZ hok ⊢
  obtain ⟨Z, hZe⟩ : ∃ r, w.heap.size = r := ⟨_, rfl⟩
  have hwZ : w.heap.size ≤ Z := by omega
  rw [hZe] at hZ ⊢
  clear hZe
  have z0 := hZ.c0
  have z1 := hZ.c1
  have y0 := hZ.f0
  have y1 := hZ.f1
  have hzl := hZ.lt
  obtain ⟨s0, s1, s2, s3, s4, s5, s6, s7, s8, s9, s10⟩ := hO2.frS
  have hgl := hO2.lt
  go_wp2_with fail
  exact bodyPost_ret (v := stV (s.st, s.sn)) (by simp [results, Tryd.results28, go_sem, ((hZ.set s.st s.sn)).c0, (hZ.set s.st s.sn).c1]) rfl ⟨rfl, (hok.setCell (p := ⟨Z, 0, none⟩) hwZ _).setCell (p := ⟨Z, 1, none⟩) hwZ _⟩
/-- What each operation leaves. -/
def VMLatP (G : Nat) (p : Par) (s : Sta) (f z : Int) (w : World) (v : Value) : Nat → Prop
  | 0 => v = .pointer (some ⟨G, 0, none⟩)
  | 1 => v = .pointer (some ⟨G, 0, none⟩)
  | 2 => v = .pointer (some ⟨G, 12, none⟩)
  | 3 => v = .pointer (some ⟨G, 12, none⟩)
  | 4 => v = .pointer (some ⟨G, 13, none⟩)
  | 5 => v = .int .i64 s.hi
  | 6 => v = .pointer (some ⟨G, 0, none⟩)
  | 7 => v = .pointer (some ⟨G, 0, none⟩)
  | 8 => v = .pointer (some ⟨G, 0, none⟩)
  | 9 => v = parV p
  | 10 => v = .pointer (some ⟨G, 0, none⟩)
  | 11 => v = .pointer (some ⟨G, 0, none⟩)
  | 12 => v = .pointer (some ⟨G, 12, none⟩)
  | 13 => v = .pointer (some ⟨G, 16, none⟩)
  | 14 => v = .int .i64 s.held
  | 15 => v = .int .i64 f
  | 16 => ∃ n : Addr, v = .slice (some n) 2 2 ∧ IntsAt w (some n) [s.hi, f]
  | 17 => v = .int .i64 z
  | 18 => v = .int .i64 z
  | _ => v = .bool true
/-- It stays so. -/
def VCLatP (G : Nat) (p : Par) (s : Sta) (f z : Int) (i : Nat) (v : Value) (w : World) : Prop := ∀ w', Ok w w' → VMLatP G p s f z w' v i
theorem frontLatest (G : Nat) (p : Par) (s : Sta) (A : Option Addr) (cap : Nat) (w : World) (hO : Own w G (frontCells p s A cap)) : Calls Tryd.prog 31 #[.pointer (some ⟨G, 0, none⟩)] w fun e w' => e = .returned (.int .i64 (Health.most p s)) ∧ Ok w w' := by
  have KF := Lib.hid fun w => healthFar p s.held w
  have KA := Lib.hid fun w A h => satAdd A [s.hi, Health.far p s.held] 2 w h (by simp)
  rw [show Sat.sum [s.hi, Health.far p s.held] = Health.most p s from rfl] at KA
  generalize Health.most p s = z at KA ⊢
  generalize Health.far p s.held = f at KA KF
  have HOK := Lib.hid (Ok.refl w)
  have HQ := Lib.hid fun W' (k : Ok w.drew W') => hO.drew.next k
  clear hO
  go_enter Tryd.func31, Tryd.ntmps31
  go_upto_region 1 with fail
  refine wp_region_facts (by kernel_rfl) 21 rfl (VCLatP G p s f z) Ok (by kernel_rfl) (fun i v w w' h k w'' k' => h w'' (k.trans k')) (fun a b c => Ok.trans) (Ok.refl _) [some 3, some 4, some 5, some 6, some 7, some 8, some 9, some 10, some 11, some 12, some 13, some 14, some 15, some 16, some 17, some 18, some 19, some 20, some 2] rfl 19 rfl ⟨?_, ?_, ?_, ?_, ?_, ?_, ?_, ?_, ?_, ?_, ?_, ?_, ?_, ?_, ?_, ?_, ?_, ?_, ?_, trivial⟩ ?_
  · intro a' w' hF hR
    have e0 : a'.tmps[0]? = some (.pointer (some ⟨G, 0, none⟩)) := hF.slot 0 (by kernel_rfl) rfl
    refine wpOp_run (v := .pointer (some ⟨G, 0, none⟩)) rfl rfl ?_ (fun _ _ => rfl) (Ok.refl _)
    clear hF
    go_simp
  · intro a' w' hF hR
    obtain ⟨v0, hv0, e3⟩ := hF.get 0 3 (by kernel_rfl) (by kernel_rfl)
    obtain rfl : v0 = _ := hv0 _ (Ok.refl _)
    refine wpOp_run (v := .pointer (some ⟨G, 0, none⟩)) rfl rfl ?_ (fun _ _ => rfl) (Ok.refl _)
    clear hF
    go_simp
  · intro a' w' hF hR
    obtain ⟨v1, hv1, e4⟩ := hF.get 1 4 (by kernel_rfl) (by kernel_rfl)
    obtain rfl : v1 = _ := hv1 _ (Ok.refl _)
    refine wpOp_run (v := .pointer (some ⟨G, 12, none⟩)) rfl rfl ?_ (fun _ _ => rfl) (Ok.refl _)
    clear hF
    go_simp
  · intro a' w' hF hR
    obtain ⟨v2, hv2, e5⟩ := hF.get 2 5 (by kernel_rfl) (by kernel_rfl)
    obtain rfl : v2 = _ := hv2 _ (Ok.refl _)
    refine wpOp_run (v := .pointer (some ⟨G, 12, none⟩)) rfl rfl ?_ (fun _ _ => rfl) (Ok.refl _)
    clear hF
    go_simp
  · intro a' w' hF hR
    obtain ⟨v3, hv3, e6⟩ := hF.get 3 6 (by kernel_rfl) (by kernel_rfl)
    obtain rfl : v3 = _ := hv3 _ (Ok.refl _)
    refine wpOp_run (v := .pointer (some ⟨G, 13, none⟩)) rfl rfl ?_ (fun _ _ => rfl) (Ok.refl _)
    clear hF
    go_simp
  · intro a' w' hF hR
    obtain ⟨v4, hv4, e7⟩ := hF.get 4 7 (by kernel_rfl) (by kernel_rfl)
    obtain rfl : v4 = _ := hv4 _ (Ok.refl _)
    obtain ⟨s0, s1, s2, s3, s4, s5, s6, s7, s8, s9, s10⟩ := (HQ.out _ hR).frS
    have hgl := (HQ.out _ hR).lt
    refine wpOp_run (v := .int .i64 s.hi) rfl rfl ?_ (fun _ _ => rfl) (Ok.refl _)
    clear hF
    go_simp
  · intro a' w' hF hR
    have e0 : a'.tmps[0]? = some (.pointer (some ⟨G, 0, none⟩)) := hF.slot 0 (by kernel_rfl) rfl
    refine wpOp_run (v := .pointer (some ⟨G, 0, none⟩)) rfl rfl ?_ (fun _ _ => rfl) (Ok.refl _)
    clear hF
    go_simp
  · intro a' w' hF hR
    obtain ⟨v6, hv6, e9⟩ := hF.get 6 9 (by kernel_rfl) (by kernel_rfl)
    obtain rfl : v6 = _ := hv6 _ (Ok.refl _)
    refine wpOp_run (v := .pointer (some ⟨G, 0, none⟩)) rfl rfl ?_ (fun _ _ => rfl) (Ok.refl _)
    clear hF
    go_simp
  · intro a' w' hF hR
    obtain ⟨v7, hv7, e10⟩ := hF.get 7 10 (by kernel_rfl) (by kernel_rfl)
    obtain rfl : v7 = _ := hv7 _ (Ok.refl _)
    refine wpOp_run (v := .pointer (some ⟨G, 0, none⟩)) rfl rfl ?_ (fun _ _ => rfl) (Ok.refl _)
    clear hF
    go_simp
  · intro a' w' hF hR
    obtain ⟨v8, hv8, e11⟩ := hF.get 8 11 (by kernel_rfl) (by kernel_rfl)
    obtain rfl : v8 = _ := hv8 _ (Ok.refl _)
    obtain ⟨c0, c1, c2, c3, c4, c5, c6, c7, c8, c9, c10, c11⟩ := (HQ.out _ hR).frP
    have hgl := (HQ.out _ hR).lt
    refine wpOp_run (v := parV p) rfl rfl ?_ (fun _ _ => rfl) (Ok.refl _)
    clear hF
    go_simp
  · intro a' w' hF hR
    have e0 : a'.tmps[0]? = some (.pointer (some ⟨G, 0, none⟩)) := hF.slot 0 (by kernel_rfl) rfl
    refine wpOp_run (v := .pointer (some ⟨G, 0, none⟩)) rfl rfl ?_ (fun _ _ => rfl) (Ok.refl _)
    clear hF
    go_simp
  · intro a' w' hF hR
    obtain ⟨v10, hv10, e13⟩ := hF.get 10 13 (by kernel_rfl) (by kernel_rfl)
    obtain rfl : v10 = _ := hv10 _ (Ok.refl _)
    refine wpOp_run (v := .pointer (some ⟨G, 0, none⟩)) rfl rfl ?_ (fun _ _ => rfl) (Ok.refl _)
    clear hF
    go_simp
  · intro a' w' hF hR
    obtain ⟨v11, hv11, e14⟩ := hF.get 11 14 (by kernel_rfl) (by kernel_rfl)
    obtain rfl : v11 = _ := hv11 _ (Ok.refl _)
    refine wpOp_run (v := .pointer (some ⟨G, 12, none⟩)) rfl rfl ?_ (fun _ _ => rfl) (Ok.refl _)
    clear hF
    go_simp
  · intro a' w' hF hR
    obtain ⟨v12, hv12, e15⟩ := hF.get 12 15 (by kernel_rfl) (by kernel_rfl)
    obtain rfl : v12 = _ := hv12 _ (Ok.refl _)
    refine wpOp_run (v := .pointer (some ⟨G, 16, none⟩)) rfl rfl ?_ (fun _ _ => rfl) (Ok.refl _)
    clear hF
    go_simp
  · intro a' w' hF hR
    obtain ⟨v13, hv13, e16⟩ := hF.get 13 16 (by kernel_rfl) (by kernel_rfl)
    obtain rfl : v13 = _ := hv13 _ (Ok.refl _)
    obtain ⟨s0, s1, s2, s3, s4, s5, s6, s7, s8, s9, s10⟩ := (HQ.out _ hR).frS
    have hgl := (HQ.out _ hR).lt
    refine wpOp_run (v := .int .i64 s.held) rfl rfl ?_ (fun _ _ => rfl) (Ok.refl _)
    clear hF
    go_simp
  · intro a' w' hF hR
    obtain ⟨v9, hv9, e12⟩ := hF.get 9 12 (by kernel_rfl) (by kernel_rfl)
    obtain rfl : v9 = _ := hv9 _ (Ok.refl _)
    obtain ⟨v14, hv14, e17⟩ := hF.get 14 17 (by kernel_rfl) (by kernel_rfl)
    obtain rfl : v14 = _ := hv14 _ (Ok.refl _)
    clear hF
    refine wpOp_call (f := 52) (args := #[parV p, .int .i64 s.held]) rfl rfl ?_ ((KF.out _).mono ?_)
    · go_simp
    · rintro e w2 ⟨rfl, hb2⟩; exact ⟨_, rfl, fun _ _ => rfl, hb2⟩
  · intro a' w' hF hR
    obtain ⟨v5, hv5, e8⟩ := hF.get 5 8 (by kernel_rfl) (by kernel_rfl)
    obtain rfl : v5 = _ := hv5 _ (Ok.refl _)
    obtain ⟨v15, hv15, e18⟩ := hF.get 15 18 (by kernel_rfl) (by kernel_rfl)
    obtain rfl : v15 = _ := hv15 _ (Ok.refl _)
    refine wpOp_run (v := .slice (some ⟨w'.heap.size, 0, none⟩) 2 2) (w' := w'.alloc (.cells #[.int .i64 s.hi, .int .i64 f] 3)) rfl rfl ?_ (fun w'' k => ⟨_, rfl, (ints_new _ [s.hi, f] _ _ rfl rfl).below k⟩) ((Ok.refl _).alloc _)
    clear hF
    go_simp
  · intro a' w' hF hR
    obtain ⟨v16, hv16, e19⟩ := hF.get 16 19 (by kernel_rfl) (by kernel_rfl)
    obtain ⟨n16, rfl, hp16⟩ := hv16 _ (Ok.refl _)
    clear hF
    refine wpOp_call (f := 36) (args := #[.slice (some n16) 2 2]) rfl rfl ?_ ((KA.out _ _ hp16).mono ?_)
    · go_simp
    · rintro e w2 ⟨rfl, rfl⟩; exact ⟨_, rfl, fun _ _ => rfl, Ok.refl _⟩
  · intro a' w' hF hR
    obtain ⟨v17, hv17, e20⟩ := hF.get 17 20 (by kernel_rfl) (by kernel_rfl)
    obtain rfl : v17 = _ := hv17 _ (Ok.refl _)
    refine wpOp_run (v := .int .i64 z) rfl rfl ?_ (fun _ _ => rfl) (Ok.refl _)
    clear hF
    go_simp
  intro vs w2 hV hR
  have e18 : vs 18 = .int .i64 z := hV 18 (by decide) _ (Ok.refl _)
  have hok2 := HOK.out.trans ((Ok.refl w).drew.trans hR)
  clear hV HQ HOK KF KA
  simp only [putFrom, e18]
  simp only [Act.put, List.setIfInBounds_toArray, List.set_cons_zero, List.set_cons_succ]
  go_wp2
  go_ret
  exact ⟨rfl, hok2⟩
end Go.Proofs.YtlclfonlidcfiaaDoor
