/- Contracts of layer 9: two lists that are the same; the law's alive. -/
import Derived.Test.YtfankcoomfmjlaaC09o
namespace Go.Proofs.Ytfankcoomfmjlaa
open Go.RowKit
set_option maxRecDepth 100000
set_option maxHeartbeats 800000 in
theorem sameTrue (A B : Option Addr) (l : List Int) (n c c' : Nat) (w : World) (hn : l.length = n) (hA : IntsAt w A l) (hB : IntsAt w B l) (hl : n ≤ 1000000) :
    Calls Try.prog 13 #[.slice A n c, .slice B n c'] w fun e w' => e = .returned (.bool true) ∧ Ok w w' := by
  subst hn
  have HA := Lib.hid (And.intro hA hB)
  have hok := Ok.refl w
  have hd : ((l.length : Int) != (l.length : Int)) = false := by simp
  clear hA hB
  go_enter Try.func13, Try.ntmps13
  go_wp2_with fail
  go_loopw [13] (fun v wr => ∃ k : Nat, k ≤ l.length ∧ v = .int .i64 k ∧ Ok w wr) (fun v _ => l.length - (intOf v).toNat)
  case atStart => exact ⟨0, Nat.zero_le _, rfl, hok⟩
  case round =>
    obtain ⟨k, hk, rfl, hok1⟩ := hrel
    clear hok
    by_cases hlt : k < l.length
    · obtain ⟨b, off, hAe, _, hc⟩ := hok1.ints HA.out.1 k hlt
      obtain ⟨b', off', hBe, _, hc'⟩ := hok1.ints HA.out.2 k hlt
      subst hAe
      subst hBe
      generalize l[k] = x at hc hc'
      have hx : (x != x) = false := by simp
      go_wp2_with fail
      go_quiet (fail)
      go_wp2_with fail
      go_roundw
      case rel => exact ⟨k + 1, by omega, by go_num, hok1.drewN _⟩
      case measure => simp [intOf]; omega
    · go_wp2_with fail
      go_ret
      exact ⟨rfl, hok1⟩
/-- A table that was made behind w. -/
structure Mine (T : TypeId) (w W : World) (g r : Nat) (L : List Tm) : Prop where
  ok : Ok w W
  hg : w.heap.size ≤ g
  hr : w.heap.size ≤ r
  tab : TabAt T W g r L
namespace Mine
variable {T : TypeId} {w W W1 : World} {g r : Nat} {L L' : List Tm}
theorem next (h : Mine T w W g r L) (k : Ok W W1) : Mine T w W1 g r L := ⟨h.ok.trans k, h.hg, h.hr, h.tab.next k⟩
theorem far (h : Mine T w W g r L) (k : Far (Pr g r) W W1) {r' : Nat} (hr' : r' = r ∨ r' = g ∨ W.heap.size ≤ r') (hT : TabAt T W1 g r' L') : Mine T w W1 g r' L' := by
  have := h.ok.size
  have := h.hg
  have := h.hr
  exact ⟨Far.then_ok h.ok k fun j hj => by rcases hj with rfl | rfl <;> assumption, h.hg, by rcases hr' with rfl | rfl | h <;> omega, hT⟩
theorem step (h : Mine T w W g r L) (k : TabStep T g r L' W W1) : ∃ r', Mine T w W1 g r' L' := by
  obtain ⟨r', h1, h2, h3⟩ := k
  exact ⟨r', h.far h2 h1 h3⟩
end Mine
theorem setTo_is {i t : Int} {L E L' : List Tm} (h : SetTo i t L L') (h7 : Alarm.setE i L ≠ 7) (hE : Alarm.Good E) (hp : E.Perm (⟨i, t⟩ :: Alarm.drop i L)) : L' = E := by
  obtain ⟨h1, h2⟩ := h
  rw [if_neg h7] at h2
  exact h1.same hE (h2.trans hp.symm)
def tA : Tm := ⟨1, 5⟩
def tB : Tm := ⟨2, 3⟩
def tC : Tm := ⟨1, 9⟩
theorem good1 (x : Tm) : Alarm.Good [x] := ⟨by simp, by simp, by simp⟩
theorem good2 {x y : Tm} (h : Alarm.lt x y) (hi : x.id ≠ y.id) : Alarm.Good [x, y] := ⟨by simpa using h, by simpa using hi, by simp⟩
set_option maxHeartbeats 1600000 in
theorem alarmAlive (w : World) : Calls Try.prog 7 #[] w fun e w' => e = .returned (.bool true) ∧ Ok w w' := by
  have K1 : ∀ W g r, Mine 50 w W g r [] → Calls Try.prog 9 #[.pointer (some ⟨g, 0, none⟩), .int .i64 1, .int .i64 5] W fun e w' => e = .returned (.int .i64 0) ∧ ∃ r', Mine 50 w w' g r' [tA] := fun W g r h =>
    (tabSet g r 1 5 [] W h.tab Alarm.Good.nil).mono fun e w' ⟨h1, L', h2, h3⟩ => by
      obtain rfl := setTo_is (E := [tA]) h2 (by decide) (good1 _) (List.Perm.refl _)
      exact ⟨h1, h.step h3⟩
  have K2 : ∀ W g r, Mine 50 w W g r [tA] → Calls Try.prog 9 #[.pointer (some ⟨g, 0, none⟩), .int .i64 2, .int .i64 3] W fun e w' => e = .returned (.int .i64 0) ∧ ∃ r', Mine 50 w w' g r' [tB, tA] := fun W g r h =>
    (tabSet g r 2 3 [tA] W h.tab (good1 _)).mono fun e w' ⟨h1, L', h2, h3⟩ => by
      obtain rfl := setTo_is (E := [tB, tA]) h2 (by decide) (good2 (.inl (by decide)) (by decide)) (List.Perm.refl _)
      exact ⟨h1, h.step h3⟩
  have K3 : ∀ W g r, Mine 50 w W g r [tB, tA] → Calls Try.prog 9 #[.pointer (some ⟨g, 0, none⟩), .int .i64 1, .int .i64 9] W fun e w' => e = .returned (.int .i64 0) ∧ ∃ r', Mine 50 w w' g r' [tB, tC] := fun W g r h =>
    (tabSet g r 1 9 [tB, tA] W h.tab (good2 (.inl (by decide)) (by decide))).mono fun e w' ⟨h1, L', h2, h3⟩ => by
      obtain rfl := setTo_is (E := [tB, tC]) h2 (by decide) (good2 (.inl (by decide)) (by decide)) (List.Perm.swap _ _ _)
      exact ⟨h1, h.step h3⟩
  have K4 : ∀ W g r, Mine 50 w W g r [tB, tC] → Calls Try.prog 14 #[.pointer (some ⟨g, 0, none⟩), .int .i64 5] W fun e w' => ∃ b off c r', e = .returned (.slice (some ⟨b, off, none⟩) 1 c) ∧ w'.cell? ⟨b, off, none⟩ = some (.int .i64 2) ∧ Mine 50 w w' g r' [tC] := fun W g r h =>
    (tabDue g r 5 [tB, tC] W h.tab (good2 (.inl (by decide)) (by decide))).mono fun e w' ⟨A, c, r', h1, h2, h3, h4, h5, h6⟩ => by
      obtain ⟨b, off, hA, _, hc⟩ := h2 0 (by decide)
      subst hA
      exact ⟨b, off, c, r', h1, hc, h.far h5 h4 h6⟩
  have K5 : ∀ W g r, Mine 50 w W g r [tC] → Calls Try.prog 16 #[.pointer (some ⟨g, 0, none⟩)] W fun e w' => e = .returned (.tuple #[.int .i64 9, .bool true]) ∧ W = w' := fun W g r h => tabNext g r [tC] W h.tab (by decide)
  have H1 := Lib.hid K1
  have H2 := Lib.hid K2
  have H3 := Lib.hid K3
  have H4 := Lib.hid K4
  have H5 := Lib.hid K5
  clear K1 K2 K3 K4 K5
  go_enter Try.func7, Try.ntmps7
  go_wp2_with (first
    | (go_at_call 8; (with_reducible refine (tabNew _).mono ?_); rintro e w1 ⟨rfl, hok, hL0⟩; have hL1 : Mine 50 w w1 w.heap.size w.heap.size [] := ⟨hok, Nat.le_refl _, Nat.le_refl _, hL0⟩; clear hok hL0)
    | (go_at_call 9; (with_reducible refine (H1.out _ _ _ hL1).mono ?_); rintro e w2 ⟨rfl, r2, hL2⟩)
    | (go_at_call 9; (with_reducible refine (H2.out _ _ _ hL2).mono ?_); rintro e w3 ⟨rfl, r3, hL3⟩)
    | (go_at_call 9; (with_reducible refine (H3.out _ _ _ hL3).mono ?_); rintro e w4 ⟨rfl, r4, hL4⟩)
    | (go_at_call 14; (with_reducible refine (H4.out _ _ _ hL4).mono ?_); rintro e w5 ⟨b5, o5, c5, r5, rfl, d5, hL5⟩)
    | (go_at_call 16; (with_reducible refine (H5.out _ _ _ hL5).mono ?_); rintro e w6 ⟨rfl, rfl⟩))
  go_ret
  exact ⟨rfl, hL5.ok⟩
end Go.Proofs.Ytfankcoomfmjlaa
