/- Several texts of mine in one: C21p, C21g, C21h. -/
import Derived.Test.YtlclfonlidcfiaaDoorC21f
import Derived.Test.YtlclfonlidcfiaaDoorC21t
/- What the program's calls of layer 21 do. -/
namespace Go.Proofs.YtlclfonlidcfiaaDoor
open Go.RowKit
set_option linter.unusedVariables false
structure FrontDoes : Prop where
  healthSane : ∀ (p : Par) (s : Sta) (A : Option Addr) (cap : Nat) (w : World) (hA : PairsAt w A s.table) (hl : s.table.length ≤ 9223372036854775807), Calls Tryd.prog 33 #[parV p, staV s A cap] w (StaEnd w (Health.sane p s))
  healthOf : ∀ (p : Par) (s : Sta) (A : Option Addr) (cap : Nat) (w : World), Calls Tryd.prog 26 #[parV p, staV s A cap] w fun e w' => e = .returned (.int .i64 (Health.of p s)) ∧ Ok w w'
  healthFar : ∀ (p : Par) (held : Int) (w : World), Calls Tryd.prog 52 #[parV p, .int .i64 held] w fun e w' => e = .returned (.int .i64 (Health.far p held)) ∧ Ok w w'
  frontHealth : ∀ (g : Nat) (p : Par) (s : Sta) (A : Option Addr) (cap : Nat) (w : World) (h : Own w g (frontCells p s A cap)), Calls Tryd.prog 13 #[.pointer (some ⟨g, 0, none⟩)] w fun e w' => e = .returned (.int .i64 (Health.of p s)) ∧ Ok w w'
  frontNow : ∀ (g : Nat) (p : Par) (s : Sta) (A : Option Addr) (cap : Nat) (w : World) (h : Own w g (frontCells p s A cap)), Calls Tryd.prog 7 #[.pointer (some ⟨g, 0, none⟩)] w fun e w' => e = .returned (.tuple #[.int .i64 (if Health.of p s = 0 then 0 else s.time), .int .i64 (if Health.of p s = 0 then 20 else 0)]) ∧ Ok w w'
  frontInterval : ∀ (g : Nat) (p : Par) (s : Sta) (A : Option Addr) (cap : Nat) (w : World) (h : Own w g (frontCells p s A cap)), Calls Tryd.prog 8 #[.pointer (some ⟨g, 0, none⟩)] w fun e w' => e = .returned (.tuple #[spanV (if Health.of p s = 0 then 0 else s.lo) (if Health.of p s = 0 then 0 else s.hi), .int .i64 (if Health.of p s = 0 then 20 else 0)]) ∧ Ok w w'
  frontStamp : ∀ (g : Nat) (p : Par) (s : Sta) (A : Option Addr) (cap : Nat) (w : World) (h : Own w g (frontCells p s A cap)), Calls Tryd.prog 15 #[.pointer (some ⟨g, 0, none⟩)] w fun e w' => e = .returned (.tuple #[stV (Hlc.tick (s.st, s.sn) s.time), .int .i64 0]) ∧ Own w' g (frontCells p (Health.stamped s) A cap) ∧ Only g w w'
  frontListen : ∀ (g : Nat) (p : Par) (s : Sta) (A : Option Addr) (cap : Nat) (x : Int × Int) (w : World) (h : Own w g (frontCells p s A cap)), Calls Tryd.prog 16 #[.pointer (some ⟨g, 0, none⟩), stV x] w fun e w' => e = .returned (.tuple #[]) ∧ Own w' g (frontCells p (Health.listen p s x) A cap) ∧ Only g w w'
  frontStep : ∀ (g : Nat) (p : Par) (s : Sta) (A : Option Addr) (cap : Nat) (ticks : Int) (u : Sta) (C : Option Addr) (cup : Nat) (w : World) (h : Own w g (frontCells p s A cap)) (hC : PairsAt w C u.table) (hl : u.table.length ≤ 9223372036854775807), Calls Tryd.prog 17 #[.pointer (some ⟨g, 0, none⟩), .int .i64 ticks, staV u C cup] w fun e w' => e = .returned (.tuple #[]) ∧ ∃ (A2 : Option Addr) (c2 : Nat), Own w' g (frontCells p (Health.step p s ticks u) A2 c2) ∧ PairsOf w.heap.size w' A2 (Health.step p s ticks u).table ∧ Only g w w'
end Go.Proofs.YtlclfonlidcfiaaDoor

/- Contracts of layer 21: what the law asks first. -/
namespace Go.Proofs.YtlclfonlidcfiaaDoor
open Go.RowKit
set_option linter.unusedVariables false
set_option maxRecDepth 100000
attribute [local go_sem ↓] Go.wp_at_zero Go.wp_at_succ
def sta21 : Sta := ⟨900, 1100, 0, false, 0, 0, true, [], 0, 0, 0⟩
theorem law21AliveF (F : FrontDoes) (w : World) : Calls Tryd.prog 4 #[] w fun e w' => e = .returned (.bool true) ∧ Ok w w' := by
  have hok := Ok.refl w
  have K1 := Lib.hid fun w g h => F.frontNow g par21 zeroSta none 0 w h
  rw [show (if Health.of par21 zeroSta = 0 then (0 : Int) else zeroSta.time) = 0 by decide +kernel, show (if Health.of par21 zeroSta = 0 then (20 : Int) else 0) = 20 by decide +kernel] at K1
  have K2 := Lib.hid fun w g h => F.frontStep g par21 zeroSta none 0 1000 sta21 none 0 w h (PairsAt.empty _ _) (by decide)
  obtain ⟨t, ht⟩ : ∃ t, Health.step par21 zeroSta 1000 sta21 = t := ⟨_, rfl⟩
  have h1 : (if Health.of par21 t = 0 then (0 : Int) else t.time) = 1000 := by rw [← ht]; decide +kernel
  have h2 : (if Health.of par21 t = 0 then (20 : Int) else 0) = 0 := by rw [← ht]; decide +kernel
  have h3 : Health.of par21 t = 1 := by rw [← ht]; decide +kernel
  rw [ht] at K2
  have K3 := Lib.hid fun w g A c h => F.frontNow g par21 t A c w h
  rw [h1, h2] at K3
  have K4 := Lib.hid fun w g A c h => F.frontHealth g par21 t A c w h
  rw [h3] at K4
  clear h1 h2 h3 ht
  have hz : ∀ w, Sem.run Tryd.prog (zeroValue 30) w = .ok (.agg #[.int .i64 0, .int .i64 0, .int .i64 0, .bool false, .int .i64 0, .int .i64 0, .bool false, .slice none 0 0, .int .i64 0, .int .i64 0, .int .i64 0]) w := fun w => by kernel_rfl
  go_enter Tryd.func4, Tryd.ntmps4
  go_upto_region 2 with (go_at_call 18; (with_reducible refine (law21Some _).mono ?_); rintro e w1 ⟨rfl, hb1⟩; replace hok := hok.trans hb1; have hg0 := hok.size; clear hb1)
  change Code.wp _ _ _ _ (w1.alloc (.cells (frontCells par21 zeroSta none 0) 35))
  have hN := Own.new w1 (frontCells par21 zeroSta none 0) 35 rfl
  replace hok := hok.alloc (.cells (frontCells par21 zeroSta none 0) 35)
  have hg := hg0
  clear hg0
  generalize w1.alloc (.cells (frontCells par21 zeroSta none 0) 35) = W at hN hok ⊢
  generalize w1.heap.size = g at hN hg ⊢
  go_wp2_with (first | (go_at_call 7; refine (K1.out _ _ hN).mono ?_; rintro e w2 ⟨rfl, hb1⟩; replace hN := hN.next hb1; replace hok := hok.trans hb1; clear hb1) | (go_at_call 17; refine (K2.out _ _ hN).mono ?_; rintro e w3 ⟨rfl, A2, c2, hN3, -, hO⟩; replace hok := hO.then_ok hok hg; clear hO hN; have hN := hN3; clear hN3) | (go_at_call 7; refine (K3.out _ _ _ _ hN).mono ?_; rintro e w4 ⟨rfl, hb1⟩; replace hN := hN.next hb1; replace hok := hok.trans hb1; clear hb1) | (go_at_call 13; refine (K4.out _ _ _ _ hN).mono ?_; rintro e w5 ⟨rfl, hb1⟩; replace hN := hN.next hb1; replace hok := hok.trans hb1; clear hb1))
  go_ret
  exact ⟨rfl, hok⟩
end Go.Proofs.YtlclfonlidcfiaaDoor

/- The program's calls of layer 21 do what C21p says. -/
namespace Go.Proofs.YtlclfonlidcfiaaDoor
open Go.RowKit
theorem front21 : FrontDoes where
  healthSane p s A cap w hA hl := (healthSane p s A cap w hA hl).mono fun _ _ ⟨A2, c2, he, hT, hok⟩ => ⟨A2, c2, he, hT.pairs, hok⟩
  healthOf := healthOf
  healthFar := healthFar
  frontHealth := frontHealth
  frontNow := frontNow
  frontInterval := frontInterval
  frontStamp := frontStamp
  frontListen := frontListen
  frontStep g p s A cap ticks u C cup w h hC hl := (frontStep g p s A cap ticks u C cup w h hC hl).mono fun _ _ ⟨he, A2, c2, hO, hT, hon⟩ => ⟨he, A2, c2, hO, hT.pairs, hon⟩
end Go.Proofs.YtlclfonlidcfiaaDoor
