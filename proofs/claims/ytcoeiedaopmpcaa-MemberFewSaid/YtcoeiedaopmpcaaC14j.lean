/- Contracts of layer 14: two lists that are the same; a table of one's own; alive. -/
import Derived.Test.YtcoeiedaopmpcaaC14f
import Derived.BigQuiet
namespace Go.Proofs.Ytcoeiedaopmpcaa
open Go.RowKit
set_option maxRecDepth 100000
attribute [local go_sem ↓] Go.wp_at_zero Go.wp_at_succ
set_option maxHeartbeats 800000 in
theorem sameTrue (A B : Option Addr) (l : List Int) (n c c' : Nat) (w : World) (hn : l.length = n) (hA : IntsAt w A l) (hB : IntsAt w B l) (hl : n ≤ 1000000) :
    Calls Try.prog 11 #[.slice A n c, .slice B n c'] w fun e w' => e = .returned (.bool true) ∧ Ok w w' := by
  subst hn
  have HA := Lib.hid (And.intro hA hB)
  have hok := Ok.refl w
  have hd : ((l.length : Int) != (l.length : Int)) = false := by simp
  clear hA hB
  go_enter Try.func11, Try.ntmps11
  go_wp2_with fail
  go_loopw [13] (fun v wr => ∃ k : Nat, k ≤ l.length ∧ v = .int .i64 k ∧ Ok w wr) (fun v _ => l.length - (intOf v).toNat)
  case atStart => exact ⟨0, Nat.zero_le _, rfl, hok⟩
  case round =>
    obtain ⟨k, hk, rfl, hok1⟩ := hrel
    clear hok
    by_cases hlt : k < l.length
    · obtain ⟨b, off, hAe, _, hc⟩ := hok1.ints HA.out.1 k hlt
      obtain ⟨b', off', hBe, _, hc'⟩ := hok1.ints HA.out.2 k hlt
      subst hAe
      subst hBe
      generalize l[k] = x at hc hc'
      have hx : (x != x) = false := by simp
      go_wp2_with fail
      go_quiet (fail)
      go_wp2_with fail
      go_roundw
      case rel => exact ⟨k + 1, by omega, by go_num, hok1.drewN _⟩
      case measure => simp [intOf]; omega
    · go_wp2_with fail
      go_ret
      exact ⟨rfl, hok1⟩
/-- A table that was made behind w. -/
structure MineM (w W : World) (g b : Nat) (f : NF) : Prop where
  ok : Ok w W
  hg : w.heap.size ≤ g
  hb : w.heap.size ≤ b
  tab : TabM W g b f
  good : Mem.Good f
namespace MineM
variable {w W W1 : World} {g b : Nat} {f f' : NF}
theorem next (h : MineM w W g b f) (k : Ok W W1) : MineM w W1 g b f := ⟨h.ok.trans k, h.hg, h.hb, h.tab.next k, h.good⟩
theorem step (h : MineM w W g b f) (k : Only b W W1) (hT : TabM W1 g b f') (hG : Mem.Good f') : MineM w W1 g b f' := ⟨Only.then_ok h.ok k h.hb, h.hg, h.hb, hT, hG⟩
theorem made (hok : Ok w W) (hk : Ok W W1) (hT : TabM W1 (W.heap.size + 1) W.heap.size Mem.nobody) : MineM w W1 (W.heap.size + 1) W.heap.size Mem.nobody := ⟨hok.trans hk, by have := hok.size; omega, hok.size, hT, Mem.Good.nobody⟩
theorem hear (h : MineM w W g b f) {x : Int} (hx : (Lit.int .i64 x).wf = true) : Calls Try.prog 9 #[.pointer (some ⟨g, 0, none⟩), .int .i64 x] W fun e w' => e = .returned (.int .i64 (Mem.hearE f x)) ∧ MineM w w' g b (Mem.hear f x) ∧ Only b W w' :=
  (memHear g b f x W h.tab h.good hx).mono fun _ _ ⟨h1, h2, h3⟩ => ⟨h1, h.step h2 h3 (h.good.hear x), h2⟩
theorem tick (h : MineM w W g b f) {m : Int} (hm : (Lit.int .i64 m).wf = true) : Calls Try.prog 12 #[.pointer (some ⟨g, 0, none⟩), .int .i64 m] W fun e w' => ∃ A c, e = .returned (.slice A (Mem.gone m f).length c) ∧ IntsAt w' A (Mem.ints (Mem.gone m f)) ∧ (∀ a, A = some a → W.heap.size ≤ a.block) ∧ MineM w w' g b (Mem.tick m f) ∧ Only b W w' :=
  (memTick g b m f W h.tab h.good hm).mono fun _ _ ⟨A, c, h1, h2, h3, h4, h5⟩ => ⟨A, c, h1, h2, h3, h.step h4 h5 (h.good.tick m), h4⟩
theorem drop (h : MineM w W g b f) {x : Int} (hx : (Lit.int .i64 x).wf = true) : Calls Try.prog 14 #[.pointer (some ⟨g, 0, none⟩), .int .i64 x] W fun e w' => e = .returned (.tuple #[]) ∧ MineM w w' g b (Mem.dropI f x) ∧ Only b W w' :=
  (memDrop g b f x W h.tab hx).mono fun _ _ ⟨h1, h2, h3⟩ => ⟨h1, h.step h2 h3 (h.good.dropI x), h2⟩
theorem near (h : MineM w W g b f) : Calls Try.prog 15 #[.pointer (some ⟨g, 0, none⟩)] W fun e w' => ∃ A c, e = .returned (.slice A (Mem.nums f).length c) ∧ IntsAt w' A (Mem.ints (Mem.nums f)) ∧ MineM w w' g b f ∧ Ok W w' :=
  (memNear g b f W h.tab h.good).mono fun _ _ ⟨A, c, h1, h2, _, h4⟩ => ⟨A, c, h1, h2, h.next h4, h4⟩
theorem age (h : MineM w W g b f) {x : Int} (hx : (Lit.int .i64 x).wf = true) : Calls Try.prog 17 #[.pointer (some ⟨g, 0, none⟩), .int .i64 x] W fun e w' => e = .returned (.tuple #[.int .i64 (Mem.age (Mem.look f x)), .bool (Mem.look f x).isSome]) ∧ MineM w w' g b f ∧ Ok W w' :=
  (memAge g b f x W h.tab hx).mono fun _ _ ⟨h1, h2⟩ => ⟨h1, h.next h2, h2⟩
end MineM
abbrev fA : NF := Mem.hear Mem.nobody 3
abbrev fB : NF := Mem.tick 1 fA
abbrev fC : NF := Mem.tick 1 fB
abbrev fD : NF := Mem.tick 1 fC
set_option maxHeartbeats 1600000 in
theorem memAlive (w : World) : Calls Try.prog 7 #[] w fun e w' => e = .returned (.bool true) ∧ Ok w w' := by
  have e1 : Mem.hearE Mem.nobody 3 = 0 := by decide +kernel
  have e2 : (Mem.gone 1 fA).length = 0 := by decide +kernel
  have e3 : Mem.age (Mem.look fB 3) = 1 := by decide +kernel
  have e4 : (Mem.look fB 3).isSome = true := by decide +kernel
  have e5 : (Mem.gone 1 fB).length = 0 := by decide +kernel
  have e6 : (Mem.gone 1 fC).length = 1 := by decide +kernel
  have e7 : (Mem.nums fD).length = 0 := by decide +kernel
  have K1 : Hid (∀ W g b, MineM w W g b Mem.nobody → Calls Try.prog 9 #[.pointer (some ⟨g, 0, none⟩), .int .i64 3] W fun e w' => e = .returned (.int .i64 0) ∧ MineM w w' g b fA) := Lib.hid fun W g b h => (h.hear (by decide)).mono fun e w' ⟨h1, h2, _⟩ => ⟨by rw [h1, e1], h2⟩
  have K2 : Hid (∀ W g b, MineM w W g b fA → Calls Try.prog 12 #[.pointer (some ⟨g, 0, none⟩), .int .i64 1] W fun e w' => ∃ A c, e = .returned (.slice A 0 c) ∧ MineM w w' g b fB) := Lib.hid fun W g b h => (h.tick (by decide)).mono fun e w' ⟨A, c, h1, _, _, h4, _⟩ => ⟨A, c, by rw [h1, e2], h4⟩
  have K3 : Hid (∀ W g b, MineM w W g b fB → Calls Try.prog 17 #[.pointer (some ⟨g, 0, none⟩), .int .i64 3] W fun e w' => e = .returned (.tuple #[.int .i64 1, .bool true]) ∧ MineM w w' g b fB) := Lib.hid fun W g b h => (h.age (by decide)).mono fun e w' ⟨h1, h2, _⟩ => ⟨by rw [h1, e3, e4], h2⟩
  have K4 : Hid (∀ W g b, MineM w W g b fB → Calls Try.prog 12 #[.pointer (some ⟨g, 0, none⟩), .int .i64 1] W fun e w' => ∃ A c, e = .returned (.slice A 0 c) ∧ MineM w w' g b fC) := Lib.hid fun W g b h => (h.tick (by decide)).mono fun e w' ⟨A, c, h1, _, _, h4, _⟩ => ⟨A, c, by rw [h1, e5], h4⟩
  have K5 : Hid (∀ W g b, MineM w W g b fC → Calls Try.prog 12 #[.pointer (some ⟨g, 0, none⟩), .int .i64 1] W fun e w' => ∃ A c, e = .returned (.slice A 1 c) ∧ MineM w w' g b fD) := Lib.hid fun W g b h => (h.tick (by decide)).mono fun e w' ⟨A, c, h1, _, _, h4, _⟩ => ⟨A, c, by rw [h1, e6], h4⟩
  have K6 : Hid (∀ W g b, MineM w W g b fD → Calls Try.prog 15 #[.pointer (some ⟨g, 0, none⟩)] W fun e w' => ∃ A c, e = .returned (.slice A 0 c) ∧ MineM w w' g b fD) := Lib.hid fun W g b h => h.near.mono fun e w' ⟨A, c, h1, _, h4, _⟩ => ⟨A, c, by rw [h1, e7], h4⟩
  clear e1 e2 e3 e4 e5 e6 e7
  go_enter Try.func7, Try.ntmps7
  go_wp2_with (first
    | (go_at_call 8; (with_reducible refine (memNew _).mono ?_); rintro e w1 ⟨rfl, hk, hT⟩; have hM1 := MineM.made (Ok.refl w) hk hT; clear hk hT)
    | (go_at_call 9; (with_reducible refine (K1.out _ _ _ hM1).mono ?_); rintro e w2 ⟨rfl, hM2⟩)
    | (go_at_call 12; (with_reducible refine (K2.out _ _ _ hM2).mono ?_); rintro e w3 ⟨A3, c3, rfl, hM3⟩)
    | (go_at_call 17; (with_reducible refine (K3.out _ _ _ hM3).mono ?_); rintro e w4 ⟨rfl, hM4⟩)
    | (go_at_call 12; (with_reducible refine (K4.out _ _ _ hM4).mono ?_); rintro e w5 ⟨A5, c5, rfl, hM5⟩)
    | (go_at_call 12; (with_reducible refine (K5.out _ _ _ hM5).mono ?_); rintro e w6 ⟨A6, c6, rfl, hM6⟩)
    | (go_at_call 15; (with_reducible refine (K6.out _ _ _ hM6).mono ?_); rintro e w7 ⟨A7, c7, rfl, hM7⟩))
  go_ret
  exact ⟨rfl, hM7.ok⟩
end Go.Proofs.Ytcoeiedaopmpcaa
