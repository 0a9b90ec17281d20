/- Contracts of layer 21: what the law asks first. -/
import Derived.Test.YtlclfonlidcfiaaC21p
namespace Go.Proofs.Ytlclfonlidcfiaa
open Go.RowKit
set_option linter.unusedVariables false
set_option maxRecDepth 100000
attribute [local go_sem ↓] Go.wp_at_zero Go.wp_at_succ
def sta21 : Sta := ⟨900, 1100, 0, false, 0, 0, true, [], 0, 0, 0⟩
theorem law21AliveF (F : FrontDoes) (w : World) : Calls Try.prog 9 #[] w fun e w' => e = .returned (.bool true) ∧ Ok w w' := by
  have hok := Ok.refl w
  have K1 := Lib.hid fun w g h => F.frontNow g par21 zeroSta none 0 w h
  rw [show (if Health.of par21 zeroSta = 0 then (0 : Int) else zeroSta.time) = 0 by decide +kernel, show (if Health.of par21 zeroSta = 0 then (20 : Int) else 0) = 20 by decide +kernel] at K1
  have K2 := Lib.hid fun w g h => F.frontStep g par21 zeroSta none 0 1000 sta21 none 0 w h (PairsAt.empty _ _) (by decide)
  obtain ⟨t, ht⟩ : ∃ t, Health.step par21 zeroSta 1000 sta21 = t := ⟨_, rfl⟩
  have h1 : (if Health.of par21 t = 0 then (0 : Int) else t.time) = 1000 := by rw [← ht]; decide +kernel
  have h2 : (if Health.of par21 t = 0 then (20 : Int) else 0) = 0 := by rw [← ht]; decide +kernel
  have h3 : Health.of par21 t = 1 := by rw [← ht]; decide +kernel
  rw [ht] at K2
  have K3 := Lib.hid fun w g A c h => F.frontNow g par21 t A c w h
  rw [h1, h2] at K3
  have K4 := Lib.hid fun w g A c h => F.frontHealth g par21 t A c w h
  rw [h3] at K4
  clear h1 h2 h3 ht
  have hz : ∀ w, Sem.run Try.prog (zeroValue 30) w = .ok (.agg #[.int .i64 0, .int .i64 0, .int .i64 0, .bool false, .int .i64 0, .int .i64 0, .bool false, .slice none 0 0, .int .i64 0, .int .i64 0, .int .i64 0]) w := fun w => by kernel_rfl
  go_enter Try.func9, Try.ntmps9
  go_upto_region 2 with (go_at_call 31; (with_reducible refine (law21Some _).mono ?_); rintro e w1 ⟨rfl, hb1⟩; replace hok := hok.trans hb1; have hg0 := hok.size; clear hb1)
  change Code.wp _ _ _ _ (w1.alloc (.cells (frontCells par21 zeroSta none 0) 39))
  have hN := Own.new w1 (frontCells par21 zeroSta none 0) 39 rfl
  replace hok := hok.alloc (.cells (frontCells par21 zeroSta none 0) 39)
  have hg := hg0
  clear hg0
  generalize w1.alloc (.cells (frontCells par21 zeroSta none 0) 39) = W at hN hok ⊢
  generalize w1.heap.size = g at hN hg ⊢
  go_wp2_with (first | (go_at_call 28; refine (K1.out _ _ hN).mono ?_; rintro e w2 ⟨rfl, hb1⟩; replace hN := hN.next hb1; replace hok := hok.trans hb1; clear hb1) | (go_at_call 18; refine (K2.out _ _ hN).mono ?_; rintro e w3 ⟨rfl, A2, c2, hN3, -, hO⟩; replace hok := hO.then_ok hok hg; clear hO hN; have hN := hN3; clear hN3) | (go_at_call 28; refine (K3.out _ _ _ _ hN).mono ?_; rintro e w4 ⟨rfl, hb1⟩; replace hN := hN.next hb1; replace hok := hok.trans hb1; clear hb1) | (go_at_call 30; refine (K4.out _ _ _ _ hN).mono ?_; rintro e w5 ⟨rfl, hb1⟩; replace hN := hN.next hb1; replace hok := hok.trans hb1; clear hb1))
  go_ret
  exact ⟨rfl, hok⟩
end Go.Proofs.Ytlclfonlidcfiaa
