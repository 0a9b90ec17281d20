/- Contracts of layer 3's functions: those over lists of spans. -/
import Derived.Test.YtfhagccelkjflaaC03a
namespace Go.Proofs.Ytfhagccelkjflaa
open Go.RowKit
set_option maxRecDepth 100000

theorem spanEmptyT (lo hi : Int) (h : hi < lo) (w : World) : Calls Try.prog 20 #[spanV lo hi] w fun e w' => e = .returned (.bool true) ∧ Ok w w' := by
  have := spanEmpty lo hi w
  rwa [decide_eq_true h] at this
theorem spanEmptyF (lo hi : Int) (h : lo ≤ hi) (w : World) : Calls Try.prog 20 #[spanV lo hi] w fun e w' => e = .returned (.bool false) ∧ Ok w w' := by
  have := spanEmpty lo hi w
  rwa [decide_eq_false (by omega)] at this
set_option maxHeartbeats 800000 in
theorem spanMeet (A : Option Addr) (l : List (Int × Int)) (cap : Nat) (w : World) (h : PairsAt w A l) (hl : l.length ≤ 9223372036854775807) :
    Calls Try.prog 16 #[.slice A l.length cap] w fun e w' => e = .returned (spanV (Sat.clip (Span.mLo l)) (Sat.clip (Span.mHi l))) ∧ Ok w w' := by
  have hok := Ok.refl w
  go_enter Try.func16, Try.ntmps16
  go_wp2_with (go_at_call 32; refine (spanAll _).mono ?_; rintro e w1 ⟨rfl, hb1⟩; have hR := (Slab.new _ _ _ _ rfl).next hb1; replace hok := (hok.alloc _).trans hb1; clear hb1)
  have hS0 := Slab.new w1 (-2305843009213693952) 2305843009213693952 28 rfl
  obtain ⟨g, hg⟩ : ∃ g, w1.heap.size = g := ⟨_, rfl⟩
  obtain ⟨r, hr⟩ : ∃ r, w.heap.size = r := ⟨_, rfl⟩
  have hwg := hok.size
  rw [hg, hr] at hwg
  rw [hg] at hS0 ⊢
  rw [hr] at hR ⊢
  have hrg := hR.lt
  rw [hg] at hrg
  have hR0 := hR.alloc (.cells #[.int .i64 (-2305843009213693952), .int .i64 2305843009213693952] 28)
  have hok0 := hok.alloc (.cells #[.int .i64 (-2305843009213693952), .int .i64 2305843009213693952] 28)
  clear hR hok
  go_loopw [9] (fun i wr => ∃ k : Nat, k ≤ l.length ∧ i = .int .i64 k ∧ Slab wr g (Sat.clip (Span.mLo (l.take k))) (Sat.clip (Span.mHi (l.take k))) ∧ Slab wr r 0 0 ∧ Ok w wr) (fun i _ => l.length - (intOf i).toNat)
  case atStart => exact ⟨0, Nat.zero_le _, rfl, hS0, hR0, hok0⟩
  case round =>
    obtain ⟨k, hk, rfl, hS, hR, hok⟩ := hrel
    clear hS0 hR0 hok0
    have c0 := hS.c0
    have c1 := hS.c1
    have hgl := hS.lt
    by_cases hlt : k < l.length
    · obtain ⟨b, off, hA, hb, p0, p1⟩ := h.below hok k hlt
      subst hA
      have e1 := Lib.hid (Span.mLo_snoc (l.take k) l[k])
      have e2 := Lib.hid (Span.mHi_snoc (l.take k) l[k])
      have e3 := Lib.hid (Span.clip_max (Span.mLo (l.take k)) l[k].1)
      have e4 := Lib.hid (Span.clip_min (Span.mHi (l.take k)) l[k].2)
      by_cases d1 : Sat.clip (Span.mLo (l.take k)) < l[k].1 <;> by_cases d2 : l[k].2 < Sat.clip (Span.mHi (l.take k))
      all_goals
        go_wp2_with (go_at_call 18; refine (spanOf _ _ _).mono ?_; rintro e w2 ⟨rfl, hb2⟩; replace hS := (hS.alloc _).next hb2; replace hR := (hR.alloc _).next hb2; replace hok := (hok.alloc _).trans hb2; clear hb2 c0 c1; have c0 := hS.c0; have c1 := hS.c1; have f0 := hS.f0; have f1 := hS.f1)
        go_roundw
        case rel =>
          refine ⟨k + 1, by omega, by go_num, ?_, (hR.setOther (by show r ≠ g; omega) _).setOther (by show r ≠ g; omega) _, (hok.setCell (by show w.heap.size ≤ g; omega) _).setCell (by show w.heap.size ≤ g; omega) _⟩
          rw [take_more hlt, e1.out, e2.out, ← e3.out, ← e4.out]
          first | rw [Int.max_eq_right (by omega : Sat.clip (Span.mLo (l.take k)) ≤ l[k].1)] | rw [Int.max_eq_left (by omega : l[k].1 ≤ Sat.clip (Span.mLo (l.take k)))]
          first | rw [Int.min_eq_right (by omega : l[k].2 ≤ Sat.clip (Span.mHi (l.take k)))] | rw [Int.min_eq_left (by omega : Sat.clip (Span.mHi (l.take k)) ≤ l[k].2)]
          exact hS.set _ _
        case measure => simp [intOf]; omega
    · have r0 := hR.c0
      have r1 := hR.c1
      have f0 := hR.f0
      have f1 := hR.f1
      have hrl := hR.lt
      have ek : l.take k = l := List.take_of_length_le (by omega)
      rw [ek] at c0 c1
      clear ek
      go_wp2
      have hF := hR.set (Sat.clip (Span.mLo l)) (Sat.clip (Span.mHi l))
      have hok2 := (hok.setCell (p := ⟨r, 0, none⟩) (by show w.heap.size ≤ r; omega) (.int .i64 (Sat.clip (Span.mLo l)))).setCell (p := ⟨r, 1, none⟩) (by show w.heap.size ≤ r; omega) (.int .i64 (Sat.clip (Span.mHi l)))
      generalize (wr.setCell ⟨r, 0, none⟩ (.int .i64 (Sat.clip (Span.mLo l)))).setCell ⟨r, 1, none⟩ (.int .i64 (Sat.clip (Span.mHi l))) = W at hF hok2 ⊢
      have q0 := hF.c0
      have q1 := hF.c1
      exact bodyPost_ret (v := spanV (Sat.clip (Span.mLo l)) (Sat.clip (Span.mHi l))) (by simp [results, Try.results16, go_sem, q0, q1]) rfl ⟨rfl, hok2⟩
set_option maxHeartbeats 800000 in
theorem ref3Meet (A : Option Addr) (l : List (Int × Int)) (cap : Nat) (w : World) (h : PairsAt w A l) (hl : l.length ≤ 9223372036854775807) :
    Calls Try.prog 30 #[.slice A l.length cap] w fun e w' => e = .returned (spanV (Sat.clip (Span.mLo l)) (Sat.clip (Span.mHi l))) ∧ Ok w w' := by
  have hok := Ok.refl w
  go_enter Try.func30, Try.ntmps30
  go_wp2
  have hR0 := Slab.new w 0 0 28 rfl
  have hok0 := hok.alloc (.cells #[.int .i64 0, .int .i64 0] 28)
  obtain ⟨r, hr⟩ : ∃ r, w.heap.size = r := ⟨_, rfl⟩
  rw [hr] at hR0 ⊢
  clear hok
  go_loopw [3, 4, 9] (fun s t i wr => ∃ k : Nat, k ≤ l.length ∧ i = .int .i64 k ∧ s = .int .i64 (Span.mLo (l.take k)) ∧ t = .int .i64 (Span.mHi (l.take k)) ∧ Slab wr r 0 0 ∧ Ok w wr) (fun _ _ i _ => l.length - (intOf i).toNat)
  case atStart => exact ⟨0, Nat.zero_le _, rfl, rfl, rfl, hR0, hok0⟩
  case round =>
    obtain ⟨k, hk, rfl, rfl, rfl, hR, hok⟩ := hrel
    clear hR0 hok0
    by_cases hlt : k < l.length
    · obtain ⟨b, off, hA, hb, c0, c1⟩ := h.below hok k hlt
      subst hA
      have e1 := Lib.hid (Span.mLo_snoc (l.take k) l[k])
      have e2 := Lib.hid (Span.mHi_snoc (l.take k) l[k])
      by_cases d1 : Span.mLo (l.take k) < l[k].1 <;> by_cases d2 : l[k].2 < Span.mHi (l.take k)
      all_goals
        go_wp2
        go_roundw
        case rel =>
          refine ⟨k + 1, by omega, by go_num, ?_, ?_, hR.alloc _, hok.alloc _⟩
          · rw [take_more hlt, e1.out]
            first | rw [Int.max_eq_right (by omega : Span.mLo (l.take k) ≤ l[k].1)] | rw [Int.max_eq_left (by omega : l[k].1 ≤ Span.mLo (l.take k))]
          · rw [take_more hlt, e2.out]
            first | rw [Int.min_eq_right (by omega : l[k].2 ≤ Span.mHi (l.take k))] | rw [Int.min_eq_left (by omega : Span.mHi (l.take k) ≤ l[k].2)]
        case measure => simp [intOf]; omega
    · have ek : l.take k = l := List.take_of_length_le (by omega)
      rw [ek]
      clear ek
      go_wp2_with (go_at_call 38; refine (ref3Of _ _ _).mono ?_; rintro e w2 ⟨rfl, hb2⟩; replace hR := hR.next hb2; replace hok := hok.trans hb2; clear hb2; have f0 := hR.f0; have f1 := hR.f1; have r0 := hR.c0; have r1 := hR.c1; have hrl := hR.lt)
      have hF := hR.set (Sat.clip (Span.mLo l)) (Sat.clip (Span.mHi l))
      have hok2 := (hok.setCell (p := ⟨r, 0, none⟩) (by show w.heap.size ≤ r; omega) (.int .i64 (Sat.clip (Span.mLo l)))).setCell (p := ⟨r, 1, none⟩) (by show w.heap.size ≤ r; omega) (.int .i64 (Sat.clip (Span.mHi l)))
      generalize (w2.setCell ⟨r, 0, none⟩ (.int .i64 (Sat.clip (Span.mLo l)))).setCell ⟨r, 1, none⟩ (.int .i64 (Sat.clip (Span.mHi l))) = W at hF hok2 ⊢
      have q0 := hF.c0
      have q1 := hF.c1
      exact bodyPost_ret (v := spanV (Sat.clip (Span.mLo l)) (Sat.clip (Span.mHi l))) (by simp [results, Try.results30, go_sem, q0, q1]) rfl ⟨rfl, hok2⟩
end Go.Proofs.Ytfhagccelkjflaa
