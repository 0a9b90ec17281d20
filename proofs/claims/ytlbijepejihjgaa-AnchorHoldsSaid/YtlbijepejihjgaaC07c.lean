/- Contracts of layer 7: the document's Least, Most, Few and Middle. -/
import Derived.Test.YtlbijepejihjgaaC07b
namespace Go.Proofs.Ytlbijepejihjgaa
open Go.RowKit
set_option maxRecDepth 100000
theorem Trim.lt_snoc (x : Int) {l : List Int} {m : Nat} (h : m < l.length) : Trim.lt x (l.take (m + 1)) = Trim.lt x (l.take m) + if l[m] < x then 1 else 0 := by
  unfold Trim.lt
  rw [take_more h, List.countP_append, List.countP_cons, List.countP_nil]
  by_cases d : l[m] < x <;> simp [d]
theorem Trim.le_snoc (x : Int) {l : List Int} {m : Nat} (h : m < l.length) : Trim.le x (l.take (m + 1)) = Trim.le x (l.take m) + if l[m] ≤ x then 1 else 0 := by
  unfold Trim.le
  rw [take_more h, List.countP_append, List.countP_cons, List.countP_nil]
  by_cases d : l[m] ≤ x <;> simp [d]
theorem Trim.take_le (x : Int) (l : List Int) (m : Nat) : Trim.lt x (l.take m) ≤ m ∧ Trim.le x (l.take m) ≤ m := by
  have h1 := (l.take m).countP_le_length (p := fun y => decide (y < x))
  have h2 := (l.take m).countP_le_length (p := fun y => decide (y ≤ x))
  rw [List.length_take] at h1 h2
  unfold Trim.lt Trim.le
  omega
theorem ref7LeastF (k : Int) (A : Option Addr) (l : List Int) (cap : Nat) (w : World) (h : ¬(0 ≤ k ∧ k < l.length)) :
    Calls Try.prog 26 #[.int .i64 k, .slice A l.length cap] w fun e w' => e = .returned (.tuple #[.int .i64 0, .bool false]) ∧ w = w' := by
  by_cases h0 : k < 0
  · clear h
    go_enter Try.func26, Try.ntmps26
    go_wp2
    go_ret2
    exact ⟨rfl, rfl⟩
  · have h1 : (l.length : Int) ≤ k := by omega
    clear h
    go_enter Try.func26, Try.ntmps26
    go_wp2
    go_ret2
    exact ⟨rfl, rfl⟩
set_option maxHeartbeats 1600000 in
theorem ref7LeastT (k : Nat) (A : Option Addr) (l : List Int) (cap : Nat) (w : World) (hI : IntsAt w A l) (hl : l.length ≤ 1099511627776) (h : k < l.length) :
    Calls Try.prog 26 #[.int .i64 k, .slice A l.length cap] w fun e w' => e = .returned (.tuple #[.int .i64 (Trim.kth k l), .bool true]) ∧ w = w' := by
  go_enter Try.func26, Try.ntmps26
  go_wp2
  go_loop [22] (fun i => ∃ n : Nat, n ≤ l.length ∧ i = .int .i64 n ∧ ∀ j (hj : j < l.length), j < n → ¬(Trim.lt l[j] l ≤ k ∧ k < Trim.le l[j] l)) (fun i => l.length - (intOf i).toNat)
  case atStart => exact ⟨0, Nat.zero_le _, rfl, fun j _ h => absurd h (Nat.not_lt_zero j)⟩
  case round =>
    obtain ⟨n, hn, rfl, hno⟩ := hrel
    have HNO := Lib.hid hno
    clear hno
    by_cases hlt : n < l.length
    · obtain ⟨b, off, hA, hb, hc⟩ := hI n hlt
      subst hA
      have HX := Lib.hid (show ∀ x, l[n] = x → (Trim.lt x l ≤ k ∧ k < Trim.le x l → Trim.kth k l = x) ∧ (¬(Trim.lt x l ≤ k ∧ k < Trim.le x l) → ∀ j (hj : j < l.length), j < n + 1 → ¬(Trim.lt l[j] l ≤ k ∧ k < Trim.le l[j] l)) from fun x hx => ⟨fun g => (Trim.kth_pick h).unique ⟨hx ▸ List.getElem_mem hlt, g⟩, fun g j hj hj2 => by
        by_cases e : j = n
        · subst e; rw [hx]; exact g
        · exact HNO.out j hj (by omega)⟩)
      obtain ⟨x, hx⟩ : ∃ x, l[n] = x := ⟨_, rfl⟩
      rw [hx] at hc
      replace HX := Lib.hid (HX.out x hx)
      clear hx HNO
      go_wp2
      go_loop [8, 9, 28] (fun p q i => ∃ m : Nat, m ≤ l.length ∧ i = .int .i64 m ∧ p = .int .i64 ((Trim.lt x (l.take m) : Nat) : Int) ∧ q = .int .i64 ((Trim.le x (l.take m) : Nat) : Int)) (fun _ _ i => l.length - (intOf i).toNat)
      case atStart => exact ⟨0, Nat.zero_le _, rfl, rfl, rfl⟩
      case round =>
        obtain ⟨m, hm, rfl, rfl, rfl⟩ := hrel
        by_cases hlt2 : m < l.length
        · obtain ⟨b2, off2, hA2, -, hc2⟩ := hI m hlt2
          cases hA2
          obtain ⟨b1, b2⟩ := Trim.take_le x l m
          have e1 := Lib.hid (Trim.lt_snoc x hlt2)
          have e2 := Lib.hid (Trim.le_snoc x hlt2)
          generalize l[m] = y at hc2 e1 e2
          generalize Trim.lt x (l.take m) = p at b1 e1 ⊢
          generalize Trim.le x (l.take m) = q at b2 e2 ⊢
          by_cases d1 : y < x
          · have d2 : y ≤ x := by omega
            go_wp2
            go_round
            case rel => exact ⟨m + 1, by omega, by go_num, by rw [e1.out, if_pos d1]; go_num, by rw [e2.out, if_pos d2]; go_num⟩
            case measure => simp [intOf]; omega
          · by_cases d2 : y ≤ x
            · go_wp2
              go_round
              case rel => exact ⟨m + 1, by omega, by go_num, by rw [e1.out, if_neg d1]; go_num, by rw [e2.out, if_pos d2]; go_num⟩
              case measure => simp [intOf]; omega
            · go_wp2
              go_round
              case rel => exact ⟨m + 1, by omega, by go_num, by rw [e1.out, if_neg d1]; go_num, by rw [e2.out, if_neg d2]; go_num⟩
              case measure => simp [intOf]; omega
        · rw [List.take_of_length_le (show l.length ≤ m by omega)]
          generalize Trim.lt x l = p at HX ⊢
          generalize Trim.le x l = q at HX ⊢
          by_cases d1 : p ≤ k
          · by_cases d2 : k < q
            · go_wp2
              go_ret2
              refine ⟨?_, rfl⟩
              rw [HX.out.1 ⟨d1, d2⟩]
              rfl
            · go_wp2
              go_round
              case rel => exact ⟨_, _, _, _, _, _, _, ⟨n + 1, by omega, by go_num, by simpa using HX.out.2 fun g => d2 g.2⟩, rfl, rfl, rfl, rfl, rfl, rfl, rfl⟩
              case measure => simp [intOf]; omega
          · go_wp2
            go_round
            case rel => exact ⟨_, _, _, _, _, _, _, ⟨n + 1, by omega, by go_num, by simpa using HX.out.2 fun g => d1 g.1⟩, rfl, rfl, rfl, rfl, rfl, rfl, rfl⟩
            case measure => simp [intOf]; omega
    · exfalso
      obtain ⟨hm, hg⟩ := Trim.kth_pick h
      obtain ⟨j, hj, e⟩ := List.getElem_of_mem hm
      exact HNO.out j hj (by omega) (by rw [e]; exact hg)
theorem ref7Least (k : Int) (A : Option Addr) (l : List Int) (cap : Nat) (w : World) (hI : IntsAt w A l) (hl : l.length ≤ 1099511627776) :
    Calls Try.prog 26 #[.int .i64 k, .slice A l.length cap] w fun e w' => e = .returned (.tuple #[.int .i64 (Trim.val k l), .bool (Trim.is k l.length)]) ∧ w = w' := by
  by_cases h : 0 ≤ k ∧ k < l.length
  · rw [Trim.is_t h]
    obtain ⟨n, rfl⟩ : ∃ n : Nat, k = n := ⟨k.toNat, by omega⟩
    unfold Trim.val
    rw [if_pos h]
    exact ref7LeastT n A l cap w hI hl (by omega)
  · rw [Trim.is_f h, Trim.val_out h]
    exact ref7LeastF k A l cap w h
theorem ref7Most (k : Int) (A : Option Addr) (l : List Int) (cap : Nat) (w : World) (hI : IntsAt w A l) (hl : l.length ≤ 1099511627776) :
    Calls Try.prog 29 #[.int .i64 k, .slice A l.length cap] w fun e w' => e = .returned (.tuple #[.int .i64 (Trim.val ((l.length : Int) - 1 - k) l), .bool (Trim.is k l.length)]) ∧ w = w' := by
  by_cases h : 0 ≤ k ∧ k < l.length
  · have K := Lib.hid (ref7Least ((l.length : Int) - 1 - k) A l cap w hI hl)
    rw [Trim.is_t (show 0 ≤ (l.length : Int) - 1 - k ∧ (l.length : Int) - 1 - k < l.length by omega)] at K
    rw [Trim.is_t h]
    obtain ⟨n, rfl⟩ : ∃ n : Nat, k = n := ⟨k.toNat, by omega⟩
    have hn : n < l.length := by omega
    clear h hI
    go_enter Try.func29, Try.ntmps29
    go_wp2_with (go_at_call 26; refine K.out.mono ?_; rintro e w2 ⟨rfl, rfl⟩)
    go_ret2
    exact ⟨rfl, rfl⟩
  · rw [Trim.is_f h, Trim.val_out (by omega)]
    by_cases h0 : k < 0
    · clear h
      go_enter Try.func29, Try.ntmps29
      go_wp2
      go_ret2
      exact ⟨rfl, rfl⟩
    · have h1 : (l.length : Int) ≤ k := by omega
      clear h
      go_enter Try.func29, Try.ntmps29
      go_wp2
      go_ret2
      exact ⟨rfl, rfl⟩
theorem ref7Few (f : Int) (n : Nat) (w : World) (hn : n ≤ 1099511627776) : Calls Try.prog 28 #[.int .i64 f, .int .i64 (n : Int)] w fun e w' => e = .returned (.bool (!Trim.many f n)) ∧ w = w' := by
  by_cases h0 : f < 0
  · have hm : Trim.many f n = false := decide_eq_false (by omega)
    rw [hm]
    clear hm
    go_enter Try.func28, Try.ntmps28
    go_wp2
    go_ret
    exact ⟨rfl, rfl⟩
  · by_cases h1 : (n : Int) < f
    · have hm : Trim.many f n = false := decide_eq_false (by omega)
      rw [hm]
      clear hm
      go_enter Try.func28, Try.ntmps28
      go_wp2
      go_ret
      exact ⟨rfl, rfl⟩
    · by_cases h2 : (n : Int) < 2 * f + 1
      · have hm : Trim.many f n = false := decide_eq_false (by omega)
        rw [hm]
        clear hm
        go_enter Try.func28, Try.ntmps28
        go_wp2
        go_ret
        exact ⟨rfl, rfl⟩
      · have hm : Trim.many f n = true := decide_eq_true (by omega)
        rw [hm]
        clear hm
        go_enter Try.func28, Try.ntmps28
        go_wp2
        go_ret
        exact ⟨rfl, rfl⟩
end Go.Proofs.Ytlbijepejihjgaa
