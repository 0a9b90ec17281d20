/- Several texts of mine in one: C23jm, W50, B25, C19g. -/
import Derived.Test.YtnhjdinmakkknaaGreatDoorP40
import Derived.Test.YtnhjdinmakkknaaGreatDoorP43
import Derived.Test.YtnhjdinmakkknaaGreatDoorW47
import Derived.Test.YtnhjdinmakkknaaGreatDoorB18
import Derived.Test.YtnhjdinmakkknaaGreatDoorP03
import Derived.Test.YtnhjdinmakkknaaGreatDoorB23
import Derived.Test.YtnhjdinmakkknaaGreatDoorC13a
import Derived.Test.YtnhjdinmakkknaaGreatDoorCards
import Derived.Test.YtnhjdinmakkknaaGreatDoorTie
import Derived.Deep.DeepHandedRow
import Derived.Lib.LaidTab
import Derived.LaidSub
namespace Go.Proofs.YtnhjdinmakkknaaGreatDoor
open Go.RowKit
set_option linter.unusedVariables false
set_option maxRecDepth 100000
def ha23 : HA := ⟨⟨2, 17, 0, 0, 0, 1, true, false, 0, 0, 0, 0, 0, []⟩, none, 0, 900⟩
def in23 (B : Option Addr) (c : Nat) : In := ⟨1000, B, [ha23], c, false, 0, false, none, [], 0⟩
theorem san23 : Health.sane par23 zeroSta = zeroSta := by decide +kernel
theorem kn23a : (Nod.known HA.hd 20 Mem.nobody [ha23]).1 = [] := by decide +kernel
theorem st23a : (Nod.say par23 20 (Nod.state par23 zeroSta 1000 [])).hops = 5 := by decide +kernel
theorem st23a2 : (Nod.say par23 20 (Nod.state par23 zeroSta 1000 [])).good = false := by decide +kernel
theorem st23a3 : (Health.stamped (Nod.state par23 zeroSta 1000 [])).table.length = 0 := by decide +kernel
theorem kn23b : ((Nod.known HA.hd 20 (Mem.tick 2 (Nod.known HA.hd 20 Mem.nobody [ha23]).2) [ha23]).1).map HA.hd = [ha23.hd] := by kernel_rfl
theorem st23b : (Nod.say par23 20 (Nod.state par23 (Health.stamped (Nod.state par23 zeroSta 1000 [])) 1000 [ha23.hd])).hops = 2 := by decide +kernel
theorem st23b2 : (Nod.say par23 20 (Nod.state par23 (Health.stamped (Nod.state par23 zeroSta 1000 [])) 1000 [ha23.hd])).good = true := by decide +kernel
theorem nr23 : (Mem.nums (Mem.tick 2 (Nod.known HA.hd 20 (Mem.tick 2 (Nod.known HA.hd 20 Mem.nobody [ha23]).2) [ha23]).2)).length = 1 := by decide +kernel
end Go.Proofs.YtnhjdinmakkknaaGreatDoor
namespace Go.Proofs.YtnhjdinmakkknaaGreatDoor
/-- The block N stays as it is, or turns from c0 to c1; no other block that was there changes. -/
structure Turned (N : Nat) (c0 c1 : Array Value) (w w' : World) : Prop where
  only : Only N w w'
  a : Own w N c0 → Own w' N c0 ∨ Own w' N c1
  b : Own w N c1 → Own w' N c1
namespace Turned
variable {N : Nat} {c0 c1 : Array Value} {w w1 w2 : World}
theorem of_ok (k : Ok w w1) : Turned N c0 c1 w w1 := ⟨Only.of_ok k, fun h => .inl (h.next k), fun h => h.next k⟩
theorem refl (w : World) : Turned N c0 c1 w w := of_ok (Ok.refl w)
theorem trans (h : Turned N c0 c1 w w1) (j : Turned N c0 c1 w1 w2) : Turned N c0 c1 w w2 := ⟨h.only.trans j.only, fun k => by
  rcases h.a k with g | g
  · exact j.a g
  · exact .inr (j.b g), fun k => j.b (h.b k)⟩
end Turned
/-- While the store hasn't run the block is as it was; it runs behind what writes the slot d. -/
def TurnI (N : Nat) (c0 c1 : Array Value) (d : Nat) (u : Value) (a : Act) (w : World) : Prop := Own w N c0 ∨ Own w N c1 ∧ a.tmps[d]? = some u
theorem TurnI.put {N : Nat} {c0 c1 : Array Value} {d e : Nat} {u v : Value} {a : Act} {w w' : World} (h : TurnI N c0 c1 d u a w) (k : Ok w w') (hd : e ≠ d) : TurnI N c0 c1 d u (a.put (some e) v) w' := by
  rcases h with h | ⟨h1, h2⟩
  · exact .inl (h.next k)
  · exact .inr ⟨h1.next k, by rw [put_other (by simpa using hd)]; exact h2⟩
end Go.Proofs.YtnhjdinmakkknaaGreatDoor
/- Contracts of layer 21: the Front's UTC and Pulse, the document's UTC; what a nil Front tells. -/
namespace Go.Proofs.YtnhjdinmakkknaaGreatDoor
open Go.RowKit
set_option linter.unusedVariables false
set_option maxRecDepth 100000
attribute [local go_sem ↓] Go.wp_at_zero Go.wp_at_succ
/-- What each operation leaves. -/
def VMPulP (G : Nat) (p : Par) (s : Sta) (m : Int) (w : World) (v : Value) : Nat → Prop
  | 0 => v = .pointer (some ⟨G, 0, none⟩)
  | 1 => v = .pointer (some ⟨G, 0, none⟩)
  | 2 => v = .pointer (some ⟨G, 0, none⟩)
  | 3 => v = parV p
  | 4 => v = .pointer (some ⟨G, 0, none⟩)
  | 5 => v = .pointer (some ⟨G, 0, none⟩)
  | 6 => v = .pointer (some ⟨G, 12, none⟩)
  | 7 => v = .pointer (some ⟨G, 14, none⟩)
  | 8 => v = .int .i64 s.time
  | 9 => v = .int .i64 m
  | 10 => v = .int .i64 m
  | 11 => v = .int .i64 0
  | _ => v = .bool true
/-- It stays so. -/
def VCPulP (G : Nat) (p : Par) (s : Sta) (m : Int) (i : Nat) (v : Value) (w : World) : Prop := ∀ w', Ok w w' → VMPulP G p s m w' v i
theorem frontPulse (R : List Value) (G : Nat) (p : Par) (s : Sta) (A : Option Addr) (cap : Nat) (w : World) (hO : Own w G (frontCellsR R p s A cap)) : Calls Tryz.prog 82 #[.pointer (some ⟨G, 0, none⟩)] w fun e w' => e = .returned (.tuple #[.int .i64 (if Health.of p s = 0 then 0 else Pulse.num p.pulse s.time), .int .i64 (if Health.of p s = 0 then 20 else 0)]) ∧ Ok w w' := by
  have hok := Ok.refl w
  have KR := Lib.hid fun w h => frontReady R G p s A cap w h
  have KN := Lib.hid fun w => pulseNumber p s.time w
  generalize Pulse.num p.pulse s.time = m at KN ⊢
  generalize Health.of p s = h at KR ⊢
  by_cases j : h = 0
  · simp only [if_pos j] at KR ⊢
    clear j
    go_enter Tryz.func82, Tryz.ntmps82
    go_wp2_with (go_at_call 131; refine (KR.out _ hO).mono ?_; rintro e w1 ⟨rfl, hb1⟩; replace hO := hO.next hb1; replace hok := hok.trans hb1; clear hb1; obtain ⟨s0, s1, s2, s3, s4, s5, s6, s7, s8, s9, s10⟩ := hO.frS; have hgl := hO.lt)
    go_ret2
    exact ⟨rfl, hok⟩
  · simp only [if_neg j] at KR ⊢
    clear j
    go_enter Tryz.func82, Tryz.ntmps82
    go_upto_region 4 with (go_at_call 131; refine (KR.out _ hO).mono ?_; rintro e w1 ⟨rfl, hb1⟩; replace hO := hO.next hb1; replace hok := hok.trans hb1; clear hb1; obtain ⟨s0, s1, s2, s3, s4, s5, s6, s7, s8, s9, s10⟩ := hO.frS; have hgl := hO.lt)
    clear s0 s1 s2 s3 s4 s5 s6 s7 s8 s9 s10 hgl
    have HOK := Lib.hid hok
    have HQ := Lib.hid fun W' (k : Ok w1.drew W') => hO.drew.next k
    clear hO hok
    refine wp_region_facts (by kernel_rfl) 20 rfl (VCPulP G p s m) Ok (by kernel_rfl) (fun i v w w' h k w'' k' => h w'' (k.trans k')) (fun a b c => Ok.trans) (Ok.refl _) [some 10, some 11, some 12, some 13, some 14, some 15, some 16, some 17, some 18, some 19, some 2, some 3] rfl 12 rfl ⟨?_, ?_, ?_, ?_, ?_, ?_, ?_, ?_, ?_, ?_, ?_, ?_, trivial⟩ ?_
    · intro a' w' hF hR
      have e0 : a'.tmps[0]? = some (.pointer (some ⟨G, 0, none⟩)) := hF.slot 0 (by kernel_rfl) rfl
      refine wpOp_run (v := .pointer (some ⟨G, 0, none⟩)) rfl rfl ?_ (fun _ _ => rfl) (Ok.refl _)
      clear hF
      go_simp
    · intro a' w' hF hR
      obtain ⟨v0, hv0, e10⟩ := hF.get 0 10 (by kernel_rfl) (by kernel_rfl)
      obtain rfl : v0 = _ := hv0 _ (Ok.refl _)
      refine wpOp_run (v := .pointer (some ⟨G, 0, none⟩)) rfl rfl ?_ (fun _ _ => rfl) (Ok.refl _)
      clear hF
      go_simp
    · intro a' w' hF hR
      obtain ⟨v1, hv1, e11⟩ := hF.get 1 11 (by kernel_rfl) (by kernel_rfl)
      obtain rfl : v1 = _ := hv1 _ (Ok.refl _)
      refine wpOp_run (v := .pointer (some ⟨G, 0, none⟩)) rfl rfl ?_ (fun _ _ => rfl) (Ok.refl _)
      clear hF
      go_simp
    · intro a' w' hF hR
      obtain ⟨v2, hv2, e12⟩ := hF.get 2 12 (by kernel_rfl) (by kernel_rfl)
      obtain rfl : v2 = _ := hv2 _ (Ok.refl _)
      obtain ⟨c0, c1, c2, c3, c4, c5, c6, c7, c8, c9, c10, c11⟩ := (HQ.out _ hR).frP
      have hgl := (HQ.out _ hR).lt
      refine wpOp_run (v := parV p) rfl rfl ?_ (fun _ _ => rfl) (Ok.refl _)
      clear hF
      go_simp
    · intro a' w' hF hR
      have e0 : a'.tmps[0]? = some (.pointer (some ⟨G, 0, none⟩)) := hF.slot 0 (by kernel_rfl) rfl
      refine wpOp_run (v := .pointer (some ⟨G, 0, none⟩)) rfl rfl ?_ (fun _ _ => rfl) (Ok.refl _)
      clear hF
      go_simp
    · intro a' w' hF hR
      obtain ⟨v4, hv4, e14⟩ := hF.get 4 14 (by kernel_rfl) (by kernel_rfl)
      obtain rfl : v4 = _ := hv4 _ (Ok.refl _)
      refine wpOp_run (v := .pointer (some ⟨G, 0, none⟩)) rfl rfl ?_ (fun _ _ => rfl) (Ok.refl _)
      clear hF
      go_simp
    · intro a' w' hF hR
      obtain ⟨v5, hv5, e15⟩ := hF.get 5 15 (by kernel_rfl) (by kernel_rfl)
      obtain rfl : v5 = _ := hv5 _ (Ok.refl _)
      refine wpOp_run (v := .pointer (some ⟨G, 12, none⟩)) rfl rfl ?_ (fun _ _ => rfl) (Ok.refl _)
      clear hF
      go_simp
    · intro a' w' hF hR
      obtain ⟨v6, hv6, e16⟩ := hF.get 6 16 (by kernel_rfl) (by kernel_rfl)
      obtain rfl : v6 = _ := hv6 _ (Ok.refl _)
      refine wpOp_run (v := .pointer (some ⟨G, 14, none⟩)) rfl rfl ?_ (fun _ _ => rfl) (Ok.refl _)
      clear hF
      go_simp
    · intro a' w' hF hR
      obtain ⟨v7, hv7, e17⟩ := hF.get 7 17 (by kernel_rfl) (by kernel_rfl)
      obtain rfl : v7 = _ := hv7 _ (Ok.refl _)
      obtain ⟨s0, s1, s2, s3, s4, s5, s6, s7, s8, s9, s10⟩ := (HQ.out _ hR).frS
      have hgl := (HQ.out _ hR).lt
      refine wpOp_run (v := .int .i64 s.time) rfl rfl ?_ (fun _ _ => rfl) (Ok.refl _)
      clear hF
      go_simp
    · intro a' w' hF hR
      obtain ⟨v3, hv3, e13⟩ := hF.get 3 13 (by kernel_rfl) (by kernel_rfl)
      obtain rfl : v3 = _ := hv3 _ (Ok.refl _)
      obtain ⟨v8, hv8, e18⟩ := hF.get 8 18 (by kernel_rfl) (by kernel_rfl)
      obtain rfl : v8 = _ := hv8 _ (Ok.refl _)
      clear hF
      refine wpOp_call (f := 132) (args := #[parV p, .int .i64 s.time]) rfl rfl ?_ ((KN.out _).mono ?_)
      · go_simp
      · rintro e w2 ⟨rfl, hb2⟩; exact ⟨_, rfl, fun _ _ => rfl, hb2⟩
    · intro a' w' hF hR
      obtain ⟨v9, hv9, e19⟩ := hF.get 9 19 (by kernel_rfl) (by kernel_rfl)
      obtain rfl : v9 = _ := hv9 _ (Ok.refl _)
      refine wpOp_run (v := .int .i64 m) rfl rfl ?_ (fun _ _ => rfl) (Ok.refl _)
      clear hF
      go_simp
    · intro a' w' hF hR
      refine wpOp_run (v := .int .i64 0) rfl rfl ?_ (fun _ _ => rfl) (Ok.refl _)
      clear hF
      go_simp
    intro vs w2 hV hR
    have e10 : vs 10 = .int .i64 m := hV 10 (by decide) _ (Ok.refl _)
    have e11 : vs 11 = .int .i64 0 := hV 11 (by decide) _ (Ok.refl _)
    have hok2 := HOK.out.trans ((Ok.refl w1).drew.trans hR)
    clear hV HQ HOK KN KR
    simp only [putFrom, e10, e11]
    simp only [Act.put, List.setIfInBounds_toArray, List.set_cons_zero, List.set_cons_succ]
    go_wp2
    go_ret2
    exact ⟨rfl, hok2⟩
end Go.Proofs.YtnhjdinmakkknaaGreatDoor
namespace Go.Proofs.YtnhjdinmakkknaaGreatDoor
open Go.ChangeShapes Go.WideShapes Go.ChangeAt Go.RowKit
set_option maxRecDepth 100000
attribute [local go_sem ↓] Go.wp_at_zero Go.wp_at_succ
theorem gPow : Tryz.prog.globalNamed "internal/strconv.uint64pow10" = some 0 := by kernel_rfl
theorem gPowType : (Tryz.prog.globals[0]?).map (·.type) = some 247 := by kernel_rfl
/-- What the list gives. -/
theorem tab_of {W : World} (h : laidMetH Tryz.prog [("math/bits.deBruijn32tab", Rows.laid_math_bits_deBruijn32tab), ("math/bits.deBruijn64tab", Rows.laid_math_bits_deBruijn64tab), ("internal/strconv.uint64pow10", Rows.laid_internal_strconv_uint64pow10)] W) : Pow W := by
  have h2 : laidMetH Tryz.prog [("internal/strconv.uint64pow10", Rows.laid_internal_strconv_uint64pow10)] W := laidMetH.filter (fun x => x.1 == "internal/strconv.uint64pow10") h
  exact Lib.tabIs_of_head (rest := []) gPow gPowType Tryz.underlying247 Tryz.underlying182 (by kernel_rfl) (by kernel_rfl) h2
def setTab (cs : Array Value) : Obj → Obj
  | .cells _ t frozen => .cells cs t frozen
  | o => o
/-- A world in which the tables lie as their initialisers lay them. -/
noncomputable def laidWorld (os : Os) : World :=
  { World.holding Tryz.prog os ⟨#[], #[], []⟩ with heap := ((((World.holding Tryz.prog os ⟨#[], #[], []⟩).heap.modify 1 (setTab #[.int .u8 0, .int .u8 1, .int .u8 28, .int .u8 2, .int .u8 29, .int .u8 14, .int .u8 24, .int .u8 3, .int .u8 30, .int .u8 22, .int .u8 20, .int .u8 15, .int .u8 25, .int .u8 17, .int .u8 4, .int .u8 8, .int .u8 31, .int .u8 27, .int .u8 13, .int .u8 23, .int .u8 21, .int .u8 19, .int .u8 16, .int .u8 7, .int .u8 26, .int .u8 12, .int .u8 18, .int .u8 6, .int .u8 11, .int .u8 5, .int .u8 10, .int .u8 9])).modify 2 (setTab #[.int .u8 0, .int .u8 1, .int .u8 56, .int .u8 2, .int .u8 57, .int .u8 49, .int .u8 28, .int .u8 3, .int .u8 61, .int .u8 58, .int .u8 42, .int .u8 50, .int .u8 38, .int .u8 29, .int .u8 17, .int .u8 4, .int .u8 62, .int .u8 47, .int .u8 59, .int .u8 36, .int .u8 45, .int .u8 43, .int .u8 51, .int .u8 22, .int .u8 53, .int .u8 39, .int .u8 33, .int .u8 30, .int .u8 24, .int .u8 18, .int .u8 12, .int .u8 5, .int .u8 63, .int .u8 55, .int .u8 48, .int .u8 27, .int .u8 60, .int .u8 41, .int .u8 37, .int .u8 16, .int .u8 46, .int .u8 35, .int .u8 44, .int .u8 21, .int .u8 52, .int .u8 32, .int .u8 23, .int .u8 11, .int .u8 54, .int .u8 26, .int .u8 40, .int .u8 15, .int .u8 34, .int .u8 20, .int .u8 31, .int .u8 10, .int .u8 25, .int .u8 14, .int .u8 19, .int .u8 9, .int .u8 13, .int .u8 8, .int .u8 7, .int .u8 6])).modify 0 (setTab #[.int .u64 1, .int .u64 10, .int .u64 100, .int .u64 1000, .int .u64 10000, .int .u64 100000, .int .u64 1000000, .int .u64 10000000, .int .u64 100000000, .int .u64 1000000000, .int .u64 10000000000, .int .u64 100000000000, .int .u64 1000000000000, .int .u64 10000000000000, .int .u64 100000000000000, .int .u64 1000000000000000, .int .u64 10000000000000000, .int .u64 100000000000000000, .int .u64 1000000000000000000, .int .u64 10000000000000000000])) }
end Go.Proofs.YtnhjdinmakkknaaGreatDoor
