/- Contracts of layer 9: the document's table: the first one, Next. -/
import Derived.Test.YtfankcoomfmjlaaC09m
import Derived.Deep.QuietTactic
import Derived.BigQuiet
namespace Go.Proofs.Ytfankcoomfmjlaa
open Go.RowKit
set_option maxRecDepth 100000
/-- What first answers. -/
def FirstIs (M : List Tm) (v : Int) : Prop := (M = [] ∧ v = -1) ∨ ∃ (b : Nat) (hb : b < M.length), v = b ∧ ∀ j (hj : j < M.length), ¬ Alarm.lt M[j] M[b]
/-- The least of the first k. -/
def Best (M : List Tm) (k b : Nat) : Prop := ∃ hb : b < M.length, b < k ∧ ∀ j (hj : j < M.length), j < k → ¬ Alarm.lt M[j] M[b]
theorem best_start {M : List Tm} (h : 0 < M.length) : Best M 1 0 := ⟨h, by omega, fun j hj hk => by
  obtain rfl : j = 0 := by omega
  exact Alarm.lt_irrefl _⟩
theorem best_take {M : List Tm} {k b : Nat} (hk : k < M.length) (h : Best M k b) (hl : Alarm.lt M[k] (M[b]'h.1)) : Best M (k + 1) k := ⟨hk, by omega, fun j hj hjk hc => by
  by_cases e : j = k
  · subst e; exact Alarm.lt_irrefl _ hc
  · exact h.2.2 j hj (by omega) (Alarm.lt_trans hc hl)⟩
theorem best_keep {M : List Tm} {k b : Nat} (hk : k < M.length) (h : Best M k b) (hl : ¬ Alarm.lt M[k] (M[b]'h.1)) : Best M (k + 1) b := ⟨h.1, by have := h.2.1; omega, fun j hj hjk => by
  by_cases e : j = k
  · subst e; exact hl
  · exact h.2.2 j hj (by omega)⟩
theorem best_end {M : List Tm} {k b : Nat} (hk : k = M.length) (h : Best M k b) : FirstIs M b := .inr ⟨b, h.1, rfl, fun j hj => h.2.2 j hj (by omega)⟩
set_option maxHeartbeats 3200000 in
theorem refFirst (g r : Nat) (M : List Tm) (w : World) (hT : TabAt 52 w g r M) (hl : M.length ≤ 100000) :
    Calls Try.prog 23 #[.pointer (some ⟨g, 0, none⟩)] w fun e w' => ∃ v, e = .returned (.int .i64 v) ∧ FirstIs M v ∧ Ok w w' := by
  obtain ⟨At, ct, hO, hR, hC, hlc, hc63, hA⟩ := hT.opened
  have c0 := hO.cell 0 rfl
  have hgl := hO.lt
  have HT := Lib.hid (And.intro hT (And.intro hC hO))
  have hok := Ok.refl w
  clear hT hO hR hC hA
  go_enter Try.func23, Try.ntmps23
  go_wp2_with fail
  go_loopw [3, 11] (fun u z wr => ∃ (k : Nat) (v : Int), k ≤ M.length ∧ z = .int .i64 k ∧ u = .int .i64 v ∧ ((k = 0 ∧ v = -1) ∨ ∃ b : Nat, v = b ∧ Best M k b) ∧ Ok w wr) (fun _ z _ => M.length - (intOf z).toNat)
  case atStart => exact ⟨0, -1, Nat.zero_le _, rfl, rfl, .inl ⟨rfl, rfl⟩, hok⟩
  case round =>
    obtain ⟨k, v, hk, rfl, rfl, hrel, hok1⟩ := hrel
    clear hok c0
    have c0 := (HT.out.2.2.next hok1).cell 0 rfl
    by_cases hlt : k < M.length
    · obtain ⟨b, off, hAe, hb, hc⟩ := (HT.out.2.1.below hok1).at tmcells_length (by decide) k hlt
      obtain ⟨x, hx⟩ : ∃ x, M[k] = x := ⟨_, rfl⟩
      rw [hx] at hc
      have c1 := hc 0 _ rfl
      have c2 := hc 1 _ rfl
      rw [Nat.add_zero] at c1
      have HX := Lib.hid hx
      rcases hrel with ⟨rfl, rfl⟩ | ⟨p, rfl, hbest⟩
      · subst hAe
        clear hc hx hb
        obtain ⟨xi, xt⟩ := x
        simp only [Nat.zero_mul, Nat.add_zero] at c1 c2
        go_wp2_with fail
        go_quiet (fail)
        go_wp2_with fail
        go_roundw
        case rel => exact ⟨1, 0, by omega, by go_num, by go_num, .inr ⟨0, rfl, best_start hlt⟩, (hok1.alloc _).drewN _⟩
        case measure => simp [intOf]; omega
      · obtain ⟨b', off', hAe', hb', hc'⟩ := (HT.out.2.1.below hok1).at tmcells_length (by decide) p hbest.1
        subst hAe
        cases hAe'
        have hbd := hbest.1
        obtain ⟨y, hy⟩ : ∃ y, M[p] = y := ⟨_, rfl⟩
        rw [hy] at hc'
        have d1 := hc' 0 _ rfl
        have d2 := hc' 1 _ rfl
        rw [Nat.add_zero] at d1
        have HY := Lib.hid hy
        have HB := Lib.hid hbest
        clear hc hx hb hc' hy hb' hbest
        obtain ⟨xi, xt⟩ := x
        obtain ⟨yi, yt⟩ := y
        simp only at c1 c2 d1 d2
        have hneg : decide ((p : Int) < 0) = false := decide_eq_false (by omega)
        have hokA : Ok wr (wr.alloc (.cells #[.int .i64 xi, .int .i64 xt] 52)) := (Ok.refl wr).alloc _
        have k0 : (wr.alloc (.cells #[.int .i64 xi, .int .i64 xt] 52)).cell? ⟨g, 0, none⟩ = some (.slice (some ⟨b, off, none⟩) M.length ct) := (hokA.cell (p := ⟨g, 0, none⟩) (cell_lt c0)).trans c0
        have k1 : (wr.alloc (.cells #[.int .i64 xi, .int .i64 xt] 52)).cell? ⟨b, off + p * 2, none⟩ = some (.int .i64 yi) := (hokA.cell (p := ⟨b, off + p * 2, none⟩) (cell_lt d1)).trans d1
        have k2 : (wr.alloc (.cells #[.int .i64 xi, .int .i64 xt] 52)).cell? ⟨b, off + p * 2 + 1, none⟩ = some (.int .i64 yt) := (hokA.cell (p := ⟨b, off + p * 2 + 1, none⟩) (cell_lt d2)).trans d2
        have hN := Own.new wr #[.int .i64 xi, .int .i64 xt] 52 rfl
        have k3 : (wr.alloc (.cells #[.int .i64 xi, .int .i64 xt] 52)).cell? ⟨wr.heap.size, 0, none⟩ = some (.int .i64 xi) := hN.cell 0 rfl
        have k4 : (wr.alloc (.cells #[.int .i64 xi, .int .i64 xt] 52)).cell? ⟨wr.heap.size, 1, none⟩ = some (.int .i64 xt) := hN.cell 1 rfl
        have HOK := Lib.hid (hok1.trans hokA)
        clear hokA hN d1 d2
        by_cases h1 : xt < yt
        · have q1 : decide (xt < yt) = true := decide_eq_true h1
          go_wp2_with fail
          generalize wr.alloc (.cells #[.int .i64 xi, .int .i64 xt] 52) = W at k0 k1 k2 k3 k4 HOK ⊢
          go_quiet (fail)
          go_wp2_with fail
          go_roundw
          case rel => exact ⟨k + 1, k, by omega, by go_num, rfl, .inr ⟨k, rfl, best_take hlt HB.out (by rw [HX.out, HY.out]; exact .inl h1)⟩, HOK.out.drewN _⟩
          case measure => simp [intOf]; omega
        · have q1 : decide (xt < yt) = false := decide_eq_false h1
          by_cases h2 : xt = yt
          · subst h2
            have q2 : (xt == xt) = true := by simp
            by_cases h3 : xi < yi
            · have q3 : decide (xi < yi) = true := decide_eq_true h3
              go_wp2_with fail
              generalize wr.alloc (.cells #[.int .i64 xi, .int .i64 xt] 52) = W at k0 k1 k2 k3 k4 HOK ⊢
              go_quiet (fail)
              go_wp2_with fail
              go_roundw
              case rel => exact ⟨k + 1, k, by omega, by go_num, rfl, .inr ⟨k, rfl, best_take hlt HB.out (by rw [HX.out, HY.out]; exact .inr ⟨rfl, h3⟩)⟩, HOK.out.drewN _⟩
              case measure => simp [intOf]; omega
            · have q3 : decide (xi < yi) = false := decide_eq_false h3
              go_wp2_with fail
              generalize wr.alloc (.cells #[.int .i64 xi, .int .i64 xt] 52) = W at k0 k1 k2 k3 k4 HOK ⊢
              go_quiet (fail)
              go_wp2_with fail
              go_roundw
              case rel => exact ⟨k + 1, p, by omega, by go_num, rfl, .inr ⟨p, rfl, best_keep hlt HB.out (by rw [HX.out, HY.out]; unfold Alarm.lt; simp only; omega)⟩, HOK.out.drewN _⟩
              case measure => simp [intOf]; omega
          · have q2 : (xt == yt) = false := by rw [beq_eq_false_iff_ne]; exact h2
            go_wp2_with fail
            generalize wr.alloc (.cells #[.int .i64 xi, .int .i64 xt] 52) = W at k0 k1 k2 k3 k4 HOK ⊢
            go_quiet (fail)
            go_wp2_with fail
            go_roundw
            case rel => exact ⟨k + 1, p, by omega, by go_num, rfl, .inr ⟨p, rfl, best_keep hlt HB.out (by rw [HX.out, HY.out]; unfold Alarm.lt; simp only; omega)⟩, HOK.out.drewN _⟩
            case measure => simp [intOf]; omega
    · have HE : Hid (FirstIs M v) := Lib.hid (by
        rcases hrel with ⟨rfl, rfl⟩ | ⟨p, rfl, hbest⟩
        · exact .inl ⟨List.length_eq_zero_iff.1 (by omega), rfl⟩
        · exact best_end (by omega) hbest)
      clear hrel
      go_wp2_with fail
      go_ret
      exact ⟨v, rfl, HE.out, hok1⟩
end Go.Proofs.Ytfankcoomfmjlaa
