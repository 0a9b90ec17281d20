/- Contracts of layer 13: the document's Fired; two lists that are the same. -/
import Derived.Test.YthodgpgcpichkaaC13b
namespace Go.Proofs.Ythodgpgcpichkaa
open Go.RowKit
set_option maxRecDepth 100000
attribute [local go_sem ↓] Go.wp_at_zero Go.wp_at_succ
set_option maxHeartbeats 800000 in
theorem sameTrue (A B : Option Addr) (l : List Int) (n c c' : Nat) (w : World) (hn : l.length = n) (hA : IntsAt w A l) (hB : IntsAt w B l) (hl : n ≤ 1000000) :
    Calls Try.prog 8 #[.slice A n c, .slice B n c'] w fun e w' => e = .returned (.bool true) ∧ Ok w w' := by
  subst hn
  have HA := Lib.hid (And.intro hA hB)
  have hok := Ok.refl w
  have hd : ((l.length : Int) != (l.length : Int)) = false := by simp
  clear hA hB
  go_enter Try.func8, Try.ntmps8
  go_wp2_with fail
  go_loopw [13] (fun v wr => ∃ k : Nat, k ≤ l.length ∧ v = .int .i64 k ∧ Ok w wr) (fun v _ => l.length - (intOf v).toNat)
  case atStart => exact ⟨0, Nat.zero_le _, rfl, hok⟩
  case round =>
    obtain ⟨k, hk, rfl, hok1⟩ := hrel
    clear hok
    by_cases hlt : k < l.length
    · obtain ⟨b, off, hAe, _, hc⟩ := hok1.ints HA.out.1 k hlt
      obtain ⟨b', off', hBe, _, hc'⟩ := hok1.ints HA.out.2 k hlt
      subst hAe
      subst hBe
      generalize l[k] = x at hc hc'
      have hx : (x != x) = false := by simp
      go_wp2_with fail
      go_quiet (fail)
      go_wp2_with fail
      go_roundw
      case rel => exact ⟨k + 1, by omega, by go_num, hok1.drewN _⟩
      case measure => simp [intOf]; omega
    · go_wp2_with fail
      go_ret
      exact ⟨rfl, hok1⟩
set_option maxHeartbeats 1600000 in
theorem refFired (p : Par) (a b m : Int) (hm : -9223372036854775808 ≤ m ∧ m ≤ 1048576) (w : World) : Calls Try.prog 10 #[parV p, .int .i64 a, .int .i64 b, .int .i64 m] w (FiredEnd p a b m w) := by
  have KA := Lib.hid fun w => refNumber p a w
  have KB := Lib.hid fun w => refNumber p b w
  have hx := Pulse.num_bd p.pulse a
  have hy := Pulse.num_bd p.pulse b
  have HE : ∀ (W' : World) (v : Value), RowTo (w.heap.size + 1) (Pulse.num p.pulse a) (Pulse.count p.pulse a b m) v W' → Ok w W' → FiredEnd p a b m w (.returned v) W' := fun W' v h k => by
    obtain ⟨A, c, rfl, hI⟩ := h.ends
    exact ⟨A, c, rfl, hI, k⟩
  unfold Pulse.count at HE
  generalize FiredEnd p a b m w = Q at HE ⊢
  generalize Pulse.num p.pulse a = x at *
  generalize Pulse.num p.pulse b = y at *
  obtain ⟨C, hC⟩ : ∃ C, (min m (y - x)).toNat = C := ⟨_, rfl⟩
  rw [hC] at HE
  have HC := Lib.hid (show ∀ k : Nat, ((k : Int) < m ∧ x + k < y → k < C) ∧ (k ≤ C → ¬ ((k : Int) < m ∧ x + k < y) → C = k) by intro k; omega)
  have hCb : C ≤ 1048576 := by omega
  clear hC
  have hok := Ok.refl w
  have HP := Lib.hid (Own.new w (parCells p) 23 rfl)
  go_enter Try.func10, Try.ntmps10
  go_wp2_with (go_at_call 16; (with_reducible refine (KA.out _).mono ?_); rintro e w1 ⟨rfl, hb1⟩; have hP := HP.out.next hb1; replace hok := (hok.alloc _).trans hb1; clear hb1)
  go_loopw [9, 10] (fun v n wr => ∃ k : Nat, k ≤ C ∧ n = .int .i64 (x + k) ∧ RowTo (w.heap.size + 1) x k v wr ∧ Own wr w.heap.size (parCells p) ∧ Ok w wr) (fun _ n _ => (x + C - intOf n).toNat)
  case atStart => exact ⟨0, Nat.zero_le _, by go_num, RowTo.start _ _ _, hP, hok⟩
  case round =>
    obtain ⟨k, hk, rfl, hR, hP1, hok1⟩ := hrel
    clear hok HP hP
    have HR := Lib.hid hR
    have HK := Lib.hid hok1
    have HP := Lib.hid hP1
    obtain ⟨A, c, rfl, -⟩ := hR.ends
    obtain ⟨c0, c1, c2, c3, c4, c5, c6, c7, c8, c9, c10, c11⟩ := hP1.pars
    have hPl := hP1.lt
    clear hP1 hR hok1
    by_cases h1 : (k : Int) < m
    · by_cases h2 : x + (k : Int) < y
      · have h3 := (HC.out k).1 ⟨h1, h2⟩
        have w1 : IntKind.i64.wrap (x + (k : Int) + 1) = x + 1 + k := by rw [show x + (k : Int) + 1 = x + 1 + k by omega]; exact IntWalk.i64_in _ ⟨by omega, by omega⟩
        go_wp2_with (first
          | (go_at_call 16; (with_reducible refine (KB.out _).mono ?_); rintro e w2 ⟨rfl, hb1⟩; have HB := Lib.hid hb1; clear hb1 c0 c1 c2 c3 c4 c5 c6 c7 c8 c9 c10 c11 hPl)
          | (at_builtin; refine wpList_append_ints rfl (.tmp 27) (.tmp 29) 26 rfl (w.heap.size + 1) 3 Try.underlying26 info13 _ (Pulse.above x k) k (Pulse.above_length x k).symm rfl ((HR.out.next HB.out).alloc _) _ [x + 1 + (k : Int)] 1 _ rfl rfl (ints_new _ _ _ _ rfl rfl) (by rw [Pulse.above_length]; simp; omega) (by have := (HP.out.next HB.out).lt; simp; omega) ?_; intro v' w' hr2 hg2; have HR2 := Lib.hid (And.intro hr2 hg2); clear hr2 hg2))
        go_roundw
        case rel =>
          refine ⟨k + 1, by omega, by go_num, ?_, ?_, ?_⟩
          · unfold RowTo
            rw [Pulse.above_succ]
            have := HR2.out.1
            rw [List.length_append, Pulse.above_length] at this
            exact this
          · have hP3 := (HP.out.next HB.out).alloc (.cells #[.int .i64 (x + 1 + (k : Int))] 3)
            obtain ⟨t, ht⟩ := hP3
            exact ⟨t, (HR2.out.2.block _ (Own.lt ⟨t, ht⟩) (fun e => by have := (HR.out.lt w.heap.size e.symm).1; omega)).trans ht⟩
          · exact Below.grown ((HK.out.trans HB.out).alloc _) HR2.out.2 ((HK.out.trans HB.out).alloc _).size fun j hj => by have := (HR.out.lt j hj).1; omega
        case measure => simp [intOf]; omega
      · have h3 := (HC.out k).2 hk fun g => h2 g.2
        go_wp2_with (go_at_call 16; (with_reducible refine (KB.out _).mono ?_); rintro e w2 ⟨rfl, hb1⟩; have HB := Lib.hid hb1; clear hb1 c0 c1 c2 c3 c4 c5 c6 c7 c8 c9 c10 c11 hPl)
        exact HE _ _ (by rw [h3]; exact HR.out.next HB.out) (HK.out.trans HB.out)
    · have h3 := (HC.out k).2 hk fun g => h1 g.1
      go_wp2_with fail
      exact HE _ _ (by rw [h3]; exact HR.out) HK.out
end Go.Proofs.Ythodgpgcpichkaa
