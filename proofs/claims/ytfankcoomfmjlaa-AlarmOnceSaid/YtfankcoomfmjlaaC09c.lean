/- Contracts of layer 9: where a timer of a number stands; where one is to stand. -/
import Derived.Test.YtfankcoomfmjlaaC09b
import Derived.Deep.QuietTactic
import Derived.BigQuiet
namespace Go.Proofs.Ytfankcoomfmjlaa
open Go.RowKit
set_option maxRecDepth 100000
theorem tms_length (L : List Tm) : (L.flatMap tmcells).length = L.length * 2 := flatMap_length tmcells 2 tmcells_length L
theorem tms_one (L : List Tm) : ∀ u ∈ L.flatMap tmcells, u.oneCell' = true := fun u hu => by
  obtain ⟨x, _, hx⟩ := List.mem_flatMap.1 hu
  simp [tmcells] at hx
  rcases hx with rfl | rfl <;> rfl
/-- What IndexFunc answers where it is asked for a number. -/
def IdxEnd (i : Int) (L : List Tm) (w : World) (e : Ending) (w' : World) : Prop :=
  Ok w w' ∧ ((∃ k : Nat, ∃ hk : k < L.length, L[k].id = i ∧ e = .returned (.int .i64 k)) ∨ (Alarm.has i L = false ∧ e = .returned (.int .i64 (-1))))
set_option maxHeartbeats 800000 in
theorem indexDrop (i : Int) (b : Nat) (A : Option Addr) (L : List Tm) (c : Nat) (w : World) (hb : w.cell? ⟨b, 0, none⟩ = some (.int .i64 i)) (hl : b < w.heap.size) (hA : CellsAt w A (L.flatMap tmcells)) (hlen : L.length ≤ 4611686018427387904) :
    Calls Try.prog 20 #[.slice A L.length c, .func (.func 21) #[] #[.pointer (some ⟨b, 0, none⟩)]] w (IdxEnd i L w) := by
  have HC := Lib.hid hA
  have HB := Lib.hid (And.intro hb hl)
  have hok := Ok.refl w
  clear hA hb hl
  go_enter Try.func20, Try.ntmps20
  go_wp2_with fail
  go_loopw [8] (fun v wr => ∃ k : Nat, k ≤ L.length ∧ v = .int .i64 k ∧ Hid (∀ j (hj : j < L.length), j < k → L[j].id ≠ i) ∧ Ok w wr) (fun v _ => L.length - (intOf v).toNat)
  case atStart => exact ⟨0, Nat.zero_le _, rfl, Lib.hid (fun j _ h => absurd h (Nat.not_lt_zero _)), hok⟩
  case round =>
    obtain ⟨k, hk, rfl, hrel, hok1⟩ := hrel
    clear hok
    by_cases hlt : k < L.length
    · obtain ⟨b', off, hAe, hb', hc⟩ := (HC.out.below hok1).at tmcells_length (by decide) k hlt
      subst hAe
      obtain ⟨x, hx⟩ : ∃ x, L[k] = x := ⟨_, rfl⟩
      rw [hx] at hc
      have c0 := hc 0 _ rfl
      have c1 := hc 1 _ rfl
      rw [Nat.add_zero] at c0
      have K := Lib.hid fun (W : World) (hW : Ok wr W) => dropIs x i b W ((hW.cell (p := ⟨b, 0, none⟩) (show b < wr.heap.size from Nat.lt_of_lt_of_le HB.out.2 hok1.size)).trans ((hok1.cell (p := ⟨b, 0, none⟩) HB.out.2).trans HB.out.1)) (Nat.lt_of_lt_of_le HB.out.2 (Nat.le_trans hok1.size hW.size))
      have HX := Lib.hid hx
      clear hc hx hb'
      obtain ⟨xi, xt⟩ := x
      simp only at c0 c1
      by_cases he : xi = i
      · rw [show decide (Tm.id ⟨xi, xt⟩ = i) = true from decide_eq_true he] at K
        have HE : Hid (IdxEnd i L w (.returned (.int .i64 k)) wr) := Lib.hid ⟨hok1, .inl ⟨k, hlt, by rw [HX.out]; exact he, rfl⟩⟩
        clear he
        go_wp2_with (go_at_call 21; (with_reducible refine (K.out _ (Ok.refl _)).mono ?_); rintro e w1 ⟨rfl, hb1⟩)
        go_ret
        exact ⟨hok1.trans hb1, HE.out.2⟩
      · rw [show decide (Tm.id ⟨xi, xt⟩ = i) = false from decide_eq_false he] at K
        have HE := Lib.hid he
        clear he
        go_wp2_with (go_at_call 21; (with_reducible refine (K.out _ (Ok.refl _)).mono ?_); rintro e w1 ⟨rfl, hb1⟩)
        go_roundw
        case rel =>
          refine ⟨k + 1, by omega, by go_num, Lib.hid fun j hj hjk => ?_, hok1.trans hb1⟩
          by_cases e : j = k
          · subst e; rw [HX.out]; exact HE.out
          · exact hrel.out j hj (by omega)
        case measure => simp [intOf]; omega
    · have HE : Hid (IdxEnd i L w (.returned (.int .i64 (-1))) wr) := Lib.hid ⟨hok1, .inr ⟨Alarm.has_none fun j hj => hrel.out j hj (by omega), rfl⟩⟩
      go_wp2_with fail
      go_ret
      exact HE.out
end Go.Proofs.Ytfankcoomfmjlaa
