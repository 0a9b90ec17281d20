/- Contracts of layer 7: Agreed, the document's. -/
import Derived.Test.YtolaipclndhkkaaC07f
namespace Go.Proofs.Ytolaipclndhkkaa
open Go.RowKit
set_option maxRecDepth 100000
theorem Trim.same_take (l : List Int) (x : Int) {m : Nat} (h : m < l.length) : Trim.same (l.take (m + 1)) x = Trim.same (l.take m) x + if x = l[m] then 1 else 0 := by
  rw [take_more h, Trim.same_snoc]
set_option maxHeartbeats 1600000 in
theorem ref7Agreed (f : Int) (A : Option Addr) (l : List Int) (cap : Nat) (w : World) (hI : IntsAt w A l) (hl : l.length ≤ 1099511627776) :
    Calls Try.prog 21 #[.int .i64 f, .slice A l.length cap] w fun e w' => e = .returned (.int .i64 (Trim.bestTo l f l.length).1) ∧ w = w' := by
  go_enter Try.func21, Try.ntmps21
  go_wp2
  go_loop [5, 6, 15] (fun p q i => ∃ k : Nat, k ≤ l.length ∧ i = .int .i64 k ∧ p = .int .i64 (Trim.bestTo l f k).1 ∧ q = .int .i64 (Trim.bestTo l f k).2) (fun _ _ i => l.length - (intOf i).toNat)
  case atStart => exact ⟨0, Nat.zero_le _, rfl, rfl, rfl⟩
  case round =>
    obtain ⟨k, hk, rfl, rfl, rfl⟩ := hrel
    by_cases hlt : k < l.length
    · obtain ⟨b, off, hA, hb, hc⟩ := hI k hlt
      subst hA
      have HB := Lib.hid (Trim.bestTo_snoc hlt f)
      have HS := Lib.hid fun m h => Trim.same_take l l[k] (m := m) h
      have HW := Lib.hid fun m : Nat => Trim.same_le (l.take m) l[k]
      generalize l[k] = x at hc HB HS HW
      generalize Trim.bestTo l f k = p at HB ⊢
      obtain ⟨p1, p2⟩ := p
      go_wp2
      go_loop [9, 22] (fun s i => ∃ m : Nat, m ≤ l.length ∧ i = .int .i64 m ∧ s = .int .i64 ((Trim.same (l.take m) x : Nat) : Int)) (fun _ i => l.length - (intOf i).toNat)
      case atStart => exact ⟨0, Nat.zero_le _, rfl, rfl⟩
      case round =>
        obtain ⟨m, hm, rfl, rfl⟩ := hrel
        by_cases hlt2 : m < l.length
        · obtain ⟨b2, off2, hA2, -, hc2⟩ := hI m hlt2
          cases hA2
          have e1 := Lib.hid (HS.out m hlt2)
          have b1 : Trim.same (l.take m) x ≤ m := by have := HW.out m; rw [List.length_take] at this; omega
          generalize l[m] = y at hc2 e1
          generalize Trim.same (l.take m) x = s at b1 e1 ⊢
          by_cases d1 : x = y
          · have e2 : Trim.same (l.take (m + 1)) x = s + 1 := by rw [e1.out, if_pos d1]
            have E2 := Lib.hid e2
            clear e2
            go_wp2
            go_round
            case rel => exact ⟨m + 1, by omega, by go_num, by rw [E2.out]; go_num⟩
            case measure => simp [intOf]; omega
          · have e2 : Trim.same (l.take (m + 1)) x = s := by rw [e1.out, if_neg d1]; rfl
            have E2 := Lib.hid e2
            clear e2
            go_wp2
            go_round
            case rel => exact ⟨m + 1, by omega, by go_num, by rw [E2.out]⟩
            case measure => simp [intOf]; omega
        · rw [List.take_of_length_le (show l.length ≤ m by omega)]
          generalize Trim.same l x = s at HB ⊢
          by_cases hd : p2 < (s : Int)
          · have e1 : Trim.bestTo l f (k + 1) = ((k : Int), (s : Int)) := by rw [HB.out, if_pos hd]
            have E1 := Lib.hid e1
            clear e1
            go_wp2
            go_round
            case rel => exact ⟨k + 1, by omega, by go_num, by rw [E1.out], by rw [E1.out]⟩
            case measure => simp [intOf]; omega
          · have e1 : Trim.bestTo l f (k + 1) = (p1, p2) := by rw [HB.out, if_neg hd]
            have E1 := Lib.hid e1
            clear e1
            go_wp2
            go_round
            case rel => exact ⟨k + 1, by omega, by go_num, by rw [E1.out], by rw [E1.out]⟩
            case measure => simp [intOf]; omega
    · have e1 : k = l.length := by omega
      subst e1
      go_wp2
      go_ret
      exact ⟨rfl, rfl⟩
end Go.Proofs.Ytolaipclndhkkaa
