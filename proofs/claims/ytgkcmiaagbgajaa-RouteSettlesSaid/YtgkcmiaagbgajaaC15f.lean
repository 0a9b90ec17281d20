/- Layer 15: what every law asks first. -/
import Derived.Test.YtgkcmiaagbgajaaC15c
import Derived.Test.YtgkcmiaagbgajaaC15e
namespace Go.Proofs.Ytgkcmiaagbgajaa
open Go.RowKit
set_option linter.unusedVariables false
set_option maxRecDepth 100000
attribute [local go_sem ↓] Go.wp_at_zero Go.wp_at_succ
def par15 : Par := ⟨0, 0, 4, 0, 0, 0, 0, 0, 0, 0, 0, 0⟩
def msg15 : MA := ⟨⟨2, 0, 0, 0, 0, 3, true, false, 0, 0, 0, 0, 0, []⟩, none, 0⟩
theorem msg15_new (w : World) (t : TypeId) {b : Nat} (hb : b = w.heap.size) : MsgsAt (w.alloc (.cells #[.int .i64 2, .int .i64 0, .int .i64 0, .int .i64 0, .int .i64 0, .int .i64 3, .bool true, .bool false, .int .i64 0, .int .i64 0, .int .i64 0, .int .i64 0, .int .i64 0, .slice none 0 0] t)) (some ⟨b, 0, none⟩) [msg15] :=
  ⟨CellsAt.new w t _ rfl hb, fun x hx => by rw [List.mem_singleton.1 hx]; exact PairsAt.empty _ _⟩
set_option maxHeartbeats 3200000 in
theorem law15Alive (w : World) : Calls Try.prog 8 #[] w fun e w' => e = .returned (.bool true) ∧ Ok w w' := by
  have hz := zeroMsgV
  unfold msgV zeroMsg at hz
  simp only [List.length_nil] at hz
  have hzp : ∀ w, Sem.run Try.prog (zeroValue 23) w = .ok (.agg #[.int .i64 0, .int .i64 0, .int .i64 0, .int .i64 0, .int .i64 0, .int .i64 0, .int .i64 0, .int .i64 0, .int .i64 0, .int .i64 0, .int .i64 0, .int .i64 0]) w := fun _ => by kernel_rfl
  have KC : Hid (∀ w b, MsgsAt w (some ⟨b, 0, none⟩) [msg15] → Calls Try.prog 15 #[parV par15, .slice (some ⟨b, 0, none⟩) 1 1] w fun e w' => ∃ A c, e = .returned (.tuple #[.agg #[.int .i64 2, .int .i64 0, .int .i64 0, .int .i64 0, .int .i64 0, .int .i64 3, .bool true, .bool false, .int .i64 0, .int .i64 0, .int .i64 0, .int .i64 0, .int .i64 0, .slice A 0 c], .bool true]) ∧ Ok w w') := Lib.hid fun w b h =>
    (routeChoose par15 _ [msg15] 1 w h (by simp) (by simp [msg15])).mono fun e w' ⟨A, c, h1, _, h3⟩ => ⟨A, c, by
      have e : chosen par15.d [msg15] 1 = some 0 := by decide +kernel
      rw [h1, show [msg15].length = 1 from rfl, e]; rfl, h3⟩
  have KN : Hid (∀ w A l n c, IntsAt w A l → l.length = n → n ≤ 1048576 → Calls Try.prog 10 #[parV par15, .slice A n c] w fun e w' => e = .returned (.int .i64 (Route.next 4 l)) ∧ Ok w w') := Lib.hid fun w A l n c h h2 h3 => routeNext par15 A l n c w h h2 h3 (by decide)
  have K1 : Hid (∀ w : World, Calls Try.prog 10 #[parV par15, .slice (some ⟨w.heap.size, 0, none⟩) 3 3] (w.alloc (.cells #[.int .i64 3, .int .i64 1, .int .i64 9] 3)) fun e w' => e = .returned (.int .i64 2) ∧ Ok (w.alloc (.cells #[.int .i64 3, .int .i64 1, .int .i64 9] 3)) w') := Lib.hid fun w => KN.out _ _ [3, 1, 9] 3 _ (ints_new _ _ _ _ rfl rfl) rfl (by decide)
  have K2 : Hid (∀ w : World, Calls Try.prog 10 #[parV par15, .slice (some ⟨w.heap.size, 0, none⟩) 2 2] (w.alloc (.cells #[.int .i64 4, .int .i64 7] 3)) fun e w' => e = .returned (.int .i64 5) ∧ Ok (w.alloc (.cells #[.int .i64 4, .int .i64 7] 3)) w') := Lib.hid fun w => KN.out _ _ [4, 7] 2 _ (ints_new _ _ _ _ rfl rfl) rfl (by decide)
  clear KN
  go_enter Try.func8, Try.ntmps8
  go_upto_region 2 with (fail)
  have hP : Own (w.alloc (.cells #[.int .i64 0, .int .i64 0, .int .i64 4, .int .i64 0, .int .i64 0, .int .i64 0, .int .i64 0, .int .i64 0, .int .i64 0, .int .i64 0, .int .i64 0, .int .i64 0] 23)) w.heap.size (parCells par15) := Own.new w (parCells par15) 23 rfl
  have hok := (Ok.refl w).alloc (.cells #[.int .i64 0, .int .i64 0, .int .i64 4, .int .i64 0, .int .i64 0, .int .i64 0, .int .i64 0, .int .i64 0, .int .i64 0, .int .i64 0, .int .i64 0, .int .i64 0] 23)
  generalize w.alloc (.cells #[.int .i64 0, .int .i64 0, .int .i64 4, .int .i64 0, .int .i64 0, .int .i64 0, .int .i64 0, .int .i64 0, .int .i64 0, .int .i64 0, .int .i64 0, .int .i64 0] 23) = W at hP hok ⊢
  generalize w.heap.size = P at hP ⊢
  obtain ⟨c0, c1, c2, c3, c4, c5, c6, c7, c8, c9, c10, c11⟩ := hP.pars
  have hPl := hP.lt
  go_upto_region 3 with (go_at_call 15; (with_reducible refine (KC.out _ _ (msg15_new _ _ rfl)).mono ?_); rintro e w1 ⟨A, c, rfl, hb1⟩; replace hb1 := (((Ok.refl _).alloc _).trans hb1); replace hP := hP.next hb1; replace hok := hok.trans hb1; clear hb1 c0 c1 c2 c3 c4 c5 c6 c7 c8 c9 c10 c11 hPl)
  replace hP := hP.alloc (.cells #[.int .i64 2, .int .i64 0, .int .i64 0, .int .i64 0, .int .i64 0, .int .i64 3, .bool true, .bool false, .int .i64 0, .int .i64 0, .int .i64 0, .int .i64 0, .int .i64 0, .slice A 0 c] 38)
  replace hok := hok.alloc (.cells #[.int .i64 2, .int .i64 0, .int .i64 0, .int .i64 0, .int .i64 0, .int .i64 3, .bool true, .bool false, .int .i64 0, .int .i64 0, .int .i64 0, .int .i64 0, .int .i64 0, .slice A 0 c] 38)
  generalize w1.alloc (.cells #[.int .i64 2, .int .i64 0, .int .i64 0, .int .i64 0, .int .i64 0, .int .i64 3, .bool true, .bool false, .int .i64 0, .int .i64 0, .int .i64 0, .int .i64 0, .int .i64 0, .slice A 0 c] 38) = W1 at hP hok ⊢
  clear KC
  obtain ⟨c0, c1, c2, c3, c4, c5, c6, c7, c8, c9, c10, c11⟩ := hP.pars
  have hPl := hP.lt
  go_wp2_with (first
    | (go_at_call 10; (with_reducible refine (K1.out _).mono ?_); rintro e w2 ⟨rfl, hb2⟩; replace hb2 := (((Ok.refl _).alloc _).trans hb2); replace hP := hP.next hb2; replace hok := hok.trans hb2; clear hb2 c0 c1 c2 c3 c4 c5 c6 c7 c8 c9 c10 c11 hPl; obtain ⟨c0, c1, c2, c3, c4, c5, c6, c7, c8, c9, c10, c11⟩ := hP.pars; have hPl := hP.lt)
    | (go_at_call 10; (with_reducible refine (K2.out _).mono ?_); rintro e w3 ⟨rfl, hb2⟩; replace hb2 := (((Ok.refl _).alloc _).trans hb2); replace hok := hok.trans hb2; clear hb2 c0 c1 c2 c3 c4 c5 c6 c7 c8 c9 c10 c11 hPl))
  go_ret
  exact ⟨rfl, hok⟩
end Go.Proofs.Ytgkcmiaagbgajaa
