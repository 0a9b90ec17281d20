/- RouteBest: for every fabric's numbers and all messages the law answers true: what is chosen is usable, and nothing usable is better. No condition. -/
import Derived.Test.YtgkcmiaagbgajaaC15f
import Derived.Test.YtgkcmiaagbgajaaW06
namespace Go.Proofs.Ytgkcmiaagbgajaa.routeBest
open Go.ChangeShapes Go.WideShapes Go.ChangeAt Go.RowKit
set_option linter.unusedVariables false
set_option maxRecDepth 100000
attribute [local go_sem ↓] Go.wp_at_zero Go.wp_at_succ
set_option maxHeartbeats 6400000 in
theorem walk (w : World) (p : Par) (wp : ParWf p) (A : Option Addr) (l : List MA) (c : Nat) (hA : MsgsAt w A l) (hl : l.length ≤ 9223372036854775807) (hw : ∀ x ∈ l, Mfit x) :
    Calls Try.prog 5 #[parV p, .slice A l.length c] w fun e w' => e = .returned (.bool true) ∧ Below w.heap.size w w' := by
  have HP := Lib.hid (Own.new w (parCells p) 23 rfl)
  have KO := Lib.hid fun w => route15odd p w
  by_cases h0 : p.d < 0 ∨ 16 < p.d
  · rw [decide_eq_true h0] at KO
    clear h0 hA hw
    go_enter Try.func5, Try.ntmps5
    go_wp2_with (first | (go_at_call 8; (with_reducible refine (law15Alive _).mono ?_); rintro e w1 ⟨rfl, hb1⟩; have hP := HP.out.next hb1; have hok := ((Ok.refl w).alloc (.cells (parCells p) 23)).trans hb1; clear hb1; obtain ⟨p0, p1, p2, p3, p4, p5, p6, p7, p8, p9, p10, p11⟩ := hP.pars; have hpl := hP.lt) | (go_at_call 9; (with_reducible refine (KO.out _).mono ?_); rintro e w2 ⟨rfl, hb2⟩; replace hP := hP.next hb2; replace hok := hok.trans hb2; clear hb2 p0 p1 p2 p3 p4 p5 p6 p7 p8 p9 p10 p11 hpl; obtain ⟨p0, p1, p2, p3, p4, p5, p6, p7, p8, p9, p10, p11⟩ := hP.pars; have hpl := hP.lt))
    go_ret
    exact ⟨rfl, hok⟩
  rw [decide_eq_false h0] at KO
  by_cases h1 : 256 < l.length
  · have h2 : (256 : Int) < (l.length : Int) := by omega
    clear h0 hA hw
    go_enter Try.func5, Try.ntmps5
    go_wp2_with (first | (go_at_call 8; (with_reducible refine (law15Alive _).mono ?_); rintro e w1 ⟨rfl, hb1⟩; have hP := HP.out.next hb1; have hok := ((Ok.refl w).alloc (.cells (parCells p) 23)).trans hb1; clear hb1; obtain ⟨p0, p1, p2, p3, p4, p5, p6, p7, p8, p9, p10, p11⟩ := hP.pars; have hpl := hP.lt) | (go_at_call 9; (with_reducible refine (KO.out _).mono ?_); rintro e w2 ⟨rfl, hb2⟩; replace hP := hP.next hb2; replace hok := hok.trans hb2; clear hb2 p0 p1 p2 p3 p4 p5 p6 p7 p8 p9 p10 p11 hpl; obtain ⟨p0, p1, p2, p3, p4, p5, p6, p7, p8, p9, p10, p11⟩ := hP.pars; have hpl := hP.lt))
    go_ret
    exact ⟨rfl, hok⟩
  have h2 : ¬ (256 : Int) < (l.length : Int) := by omega
  have h3 : 0 ≤ p.d ∧ p.d ≤ 16 := by omega
  have hl2 : l.length ≤ 256 := by omega
  have HF : Hid (∀ x ∈ l, x.m.table.length ≤ 8796093022208) := Lib.hid fun x hx => (hw x hx).2.2.2
  have HA := Lib.hid hA
  clear h0 h1 hA hw hl
  have KC := Lib.hid fun w1 (k : Ok w w1) => routeChoose p A l c w1 (HA.out.below k) (by omega) HF.out
  unfold ChooseEnd at KC
  have HBst : Hid (∀ r, chosen p.d l l.length = r → (r = none → ∀ i, i < l.length → Route.may p.d (nth l i).m = false) ∧ ∀ j, r = some j → Route.may p.d (bestOf l r).m = true ∧ ∀ i, i < l.length → Route.may p.d (nth l i).m = true → ¬ Route.lt3 (nth l i).m (bestOf l r).m) := Lib.hid fun r hr => ⟨fun e => by subst e; exact Route.pick_none hr, fun j e => by subst e; exact ⟨Route.pick_may hr, Route.pick_best hr⟩⟩
  obtain ⟨r, hr⟩ : ∃ r, chosen p.d l l.length = r := ⟨_, rfl⟩
  rw [hr] at KC
  replace HBst := Lib.hid (HBst.out r hr)
  clear hr
  obtain ⟨b, hb⟩ : ∃ b, bestOf l r = b := ⟨_, rfl⟩
  rw [hb] at KC HBst
  clear hb
  obtain ⟨b, B0, c0⟩ := b
  simp only at KC HBst
  unfold msgV at KC
  have KU := Lib.hid fun m A c w => routeUsable p m A c w
  unfold msgV at KU
  obtain ⟨fd, hfd⟩ : ∃ fd, Option.isSome r = fd := ⟨_, rfl⟩
  rw [hfd] at KC
  go_enter Try.func5, Try.ntmps5
  go_upto_region 6 with (first | (go_at_call 8; (with_reducible refine (law15Alive _).mono ?_); rintro e w1 ⟨rfl, hb1⟩; have hP := HP.out.next hb1; have hok := ((Ok.refl w).alloc (.cells (parCells p) 23)).trans hb1; clear hb1; obtain ⟨p0, p1, p2, p3, p4, p5, p6, p7, p8, p9, p10, p11⟩ := hP.pars; have hpl := hP.lt) | (go_at_call 9; (with_reducible refine (KO.out _).mono ?_); rintro e w2 ⟨rfl, hb2⟩; replace hP := hP.next hb2; replace hok := hok.trans hb2; clear hb2 p0 p1 p2 p3 p4 p5 p6 p7 p8 p9 p10 p11 hpl; obtain ⟨p0, p1, p2, p3, p4, p5, p6, p7, p8, p9, p10, p11⟩ := hP.pars; have hpl := hP.lt) | (go_at_call 15; (with_reducible refine (KC.out _ hok).mono ?_); rintro e w3 ⟨B, d, rfl, hPB, hb3⟩; replace hP := hP.next hb3; replace hok := hok.trans hb3; clear hb3 hPB p0 p1 p2 p3 p4 p5 p6 p7 p8 p9 p10 p11 hpl))
  have hM : Own (w3.alloc (.cells #[.int .i64 b.kind, .int .i64 b.frm, .int .i64 b.lo, .int .i64 b.hi, .int .i64 b.held, .int .i64 b.hops, .bool b.good, .bool b.ref, .int .i64 b.slo, .int .i64 b.shi, .int .i64 b.pulse, .int .i64 b.time, .int .i64 b.num, .slice B b.table.length d] 38)) w3.heap.size (msgCells b B d) := Own.new w3 _ 38 rfl
  replace hP := hP.alloc (.cells #[.int .i64 b.kind, .int .i64 b.frm, .int .i64 b.lo, .int .i64 b.hi, .int .i64 b.held, .int .i64 b.hops, .bool b.good, .bool b.ref, .int .i64 b.slo, .int .i64 b.shi, .int .i64 b.pulse, .int .i64 b.time, .int .i64 b.num, .slice B b.table.length d] 38)
  replace hok := hok.alloc (.cells #[.int .i64 b.kind, .int .i64 b.frm, .int .i64 b.lo, .int .i64 b.hi, .int .i64 b.held, .int .i64 b.hops, .bool b.good, .bool b.ref, .int .i64 b.slo, .int .i64 b.shi, .int .i64 b.pulse, .int .i64 b.time, .int .i64 b.num, .slice B b.table.length d] 38)
  generalize w3.alloc (.cells #[.int .i64 b.kind, .int .i64 b.frm, .int .i64 b.lo, .int .i64 b.hi, .int .i64 b.held, .int .i64 b.hops, .bool b.good, .bool b.ref, .int .i64 b.slo, .int .i64 b.shi, .int .i64 b.pulse, .int .i64 b.time, .int .i64 b.num, .slice B b.table.length d] 38) = W at hM hP hok ⊢
  obtain ⟨g, hg⟩ : ∃ g, w3.heap.size = g := ⟨_, rfl⟩
  rw [hg] at hM ⊢
  clear hg KC KO HF
  generalize w.heap.size = P at HP hP ⊢
  have hmay : fd = true → Route.may p.d b = true := fun e => by
    subst e
    cases r with
    | none => cases hfd
    | some j => exact (HBst.out.2 j rfl).1
  have HX : Hid (∀ i, i < l.length → Route.may p.d (nth l i).m = false ∨ (fd = true ∧ ¬ Route.lt3 (nth l i).m b)) := Lib.hid fun i hi => by
    cases r with
    | none => exact Or.inl (HBst.out.1 rfl i hi)
    | some j =>
      cases hm : Route.may p.d (nth l i).m
      · exact Or.inl rfl
      · exact Or.inr ⟨hfd.symm.trans rfl ▸ rfl, (HBst.out.2 j rfl).2 i hi hm⟩
  clear hfd HBst
  have hmid : Calls Try.prog 13 #[parV p, .agg #[.int .i64 b.kind, .int .i64 b.frm, .int .i64 b.lo, .int .i64 b.hi, .int .i64 b.held, .int .i64 b.hops, .bool b.good, .bool b.ref, .int .i64 b.slo, .int .i64 b.shi, .int .i64 b.pulse, .int .i64 b.time, .int .i64 b.num, .slice B b.table.length d]] W fun e w' => e = .returned (.bool (Route.may p.d b)) ∧ Ok W w' := KU.out b B d W
  have HMid := Lib.hid hmid
  clear hmid
  obtain ⟨p0, p1, p2, p3, p4, p5, p6, p7, p8, p9, p10, p11⟩ := hP.pars
  have hpl := hP.lt
  obtain ⟨z0, z1, z2, z3, z4, z5, z6, z7, z8, z9, z10, z11, z12, z13⟩ := hM.msg
  have hml := hM.lt
  cases fd
  · clear hmay HMid
    go_wp2_with (fail)
    go_loopw [33] (fun i wr => ∃ k : Nat, k ≤ l.length ∧ i = .int .i64 k ∧ Own wr P (parCells p) ∧ Own wr g (msgCells b B d) ∧ Ok w wr) (fun i _ => l.length - (intOf i).toNat)
    case atStart => exact ⟨0, Nat.zero_le _, rfl, hP, hM, hok⟩
    case round =>
      clear hP hM hok z0 z1 z2 z3 z4 z5 z6 z7 z8 z9 z10 z11 z12 z13 p0 p1 p2 p3 p4 p5 p6 p7 p8 p9 p10 p11 hpl
      obtain ⟨k, hk, rfl, hP, hM, hok⟩ := hrel
      by_cases hlt : k < l.length
      · obtain ⟨b0, off, hBe, hbl, x0, x1, x2, x3, x4, x5, x6, x7, x8, x9, x10, x11, x12, x13⟩ := (HA.out.below hok).nthAt k hlt
        subst hBe
        have hx0 := HX.out k hlt
        obtain ⟨x, hx⟩ : ∃ x, nth l k = x := ⟨_, rfl⟩
        rw [hx] at hx0 x0 x1 x2 x3 x4 x5 x6 x7 x8 x9 x10 x11 x12 x13
        clear hx
        obtain ⟨m, A, c'⟩ := x
        simp only at hx0 x0 x1 x2 x3 x4 x5 x6 x7 x8 x9 x10 x11 x12 x13
        have HKU := Lib.hid fun w => KU.out m A c' w
        have HXX : Hid (Own (wr.alloc (.cells #[.int .i64 m.kind, .int .i64 m.frm, .int .i64 m.lo, .int .i64 m.hi, .int .i64 m.held, .int .i64 m.hops, .bool m.good, .bool m.ref, .int .i64 m.slo, .int .i64 m.shi, .int .i64 m.pulse, .int .i64 m.time, .int .i64 m.num, .slice A m.table.length c'] 38)) wr.heap.size (msgCells m A c')) := Lib.hid (Own.new wr _ 38 rfl)
        have HP1 := Lib.hid (hP.alloc (.cells #[.int .i64 m.kind, .int .i64 m.frm, .int .i64 m.lo, .int .i64 m.hi, .int .i64 m.held, .int .i64 m.hops, .bool m.good, .bool m.ref, .int .i64 m.slo, .int .i64 m.shi, .int .i64 m.pulse, .int .i64 m.time, .int .i64 m.num, .slice A m.table.length c'] 38))
        have HM1 := Lib.hid (hM.alloc (.cells #[.int .i64 m.kind, .int .i64 m.frm, .int .i64 m.lo, .int .i64 m.hi, .int .i64 m.held, .int .i64 m.hops, .bool m.good, .bool m.ref, .int .i64 m.slo, .int .i64 m.shi, .int .i64 m.pulse, .int .i64 m.time, .int .i64 m.num, .slice A m.table.length c'] 38))
        have HOK := Lib.hid (hok.alloc (.cells #[.int .i64 m.kind, .int .i64 m.frm, .int .i64 m.lo, .int .i64 m.hi, .int .i64 m.held, .int .i64 m.hops, .bool m.good, .bool m.ref, .int .i64 m.slo, .int .i64 m.shi, .int .i64 m.pulse, .int .i64 m.time, .int .i64 m.num, .slice A m.table.length c'] 38))
        obtain ⟨p0, p1, p2, p3, p4, p5, p6, p7, p8, p9, p10, p11⟩ := hP.pars
        have hpl := hP.lt
        have hml := hM.lt
        clear hP hM hok
        rcases hx0 with hx0 | ⟨hx0, _⟩
        · rw [hx0] at HKU
          clear hx0
          go_wp2_with (go_at_call 13; (with_reducible refine (HKU.out _).mono ?_); rintro e w5 ⟨rfl, hb5⟩; have hP5 := HP1.out.next hb5; have hM5 := HM1.out.next hb5; have hX5 := HXX.out.next hb5; have hok5 := HOK.out.trans hb5; clear hb5 p0 p1 p2 p3 p4 p5 p6 p7 p8 p9 p10 p11 hpl x0 x1 x2 x3 x4 x5 x6 x7 x8 x9 x10 x11 x12 x13; have y4 := hX5.cell 4 (v := .int .i64 m.held) rfl; have y5 := hX5.cell 5 (v := .int .i64 m.hops) rfl; have z4 := hM5.cell 4 (v := .int .i64 b.held) rfl; have z5 := hM5.cell 5 (v := .int .i64 b.hops) rfl; have hxl := hX5.lt; have hml5 := hM5.lt)
          go_roundw
          case rel => exact ⟨k + 1, by omega, by go_num, hP5, hM5, hok5⟩
          case measure => simp [intOf]; omega
        · cases hx0
      · obtain rfl : k = l.length := by omega
        clear hlt hk
        go_wp2
        go_ret
        exact ⟨rfl, hok⟩
  · rw [hmay rfl] at HMid
    clear hmay
    go_wp2_with (go_at_call 13; (with_reducible refine HMid.out.mono ?_); rintro e w4 ⟨rfl, hb4⟩; replace hP := hP.next hb4; replace hM := hM.next hb4; replace hok := hok.trans hb4; clear hb4 p0 p1 p2 p3 p4 p5 p6 p7 p8 p9 p10 p11 hpl z0 z1 z2 z3 z4 z5 z6 z7 z8 z9 z10 z11 z12 z13 hml; obtain ⟨p0, p1, p2, p3, p4, p5, p6, p7, p8, p9, p10, p11⟩ := hP.pars; have hpl := hP.lt; obtain ⟨z0, z1, z2, z3, z4, z5, z6, z7, z8, z9, z10, z11, z12, z13⟩ := hM.msg)
    go_loopw [33] (fun i wr => ∃ k : Nat, k ≤ l.length ∧ i = .int .i64 k ∧ Own wr P (parCells p) ∧ Own wr g (msgCells b B d) ∧ Ok w wr) (fun i _ => l.length - (intOf i).toNat)
    case atStart => exact ⟨0, Nat.zero_le _, rfl, hP, hM, hok⟩
    case round =>
      clear hP hM hok z0 z1 z2 z3 z4 z5 z6 z7 z8 z9 z10 z11 z12 z13 p0 p1 p2 p3 p4 p5 p6 p7 p8 p9 p10 p11 hpl
      obtain ⟨k, hk, rfl, hP, hM, hok⟩ := hrel
      by_cases hlt : k < l.length
      · obtain ⟨b0, off, hBe, hbl, x0, x1, x2, x3, x4, x5, x6, x7, x8, x9, x10, x11, x12, x13⟩ := (HA.out.below hok).nthAt k hlt
        subst hBe
        have hx0 := HX.out k hlt
        obtain ⟨x, hx⟩ : ∃ x, nth l k = x := ⟨_, rfl⟩
        rw [hx] at hx0 x0 x1 x2 x3 x4 x5 x6 x7 x8 x9 x10 x11 x12 x13
        clear hx
        obtain ⟨m, A, c'⟩ := x
        simp only at hx0 x0 x1 x2 x3 x4 x5 x6 x7 x8 x9 x10 x11 x12 x13
        have HKU := Lib.hid fun w => KU.out m A c' w
        have HXX : Hid (Own (wr.alloc (.cells #[.int .i64 m.kind, .int .i64 m.frm, .int .i64 m.lo, .int .i64 m.hi, .int .i64 m.held, .int .i64 m.hops, .bool m.good, .bool m.ref, .int .i64 m.slo, .int .i64 m.shi, .int .i64 m.pulse, .int .i64 m.time, .int .i64 m.num, .slice A m.table.length c'] 38)) wr.heap.size (msgCells m A c')) := Lib.hid (Own.new wr _ 38 rfl)
        have HP1 := Lib.hid (hP.alloc (.cells #[.int .i64 m.kind, .int .i64 m.frm, .int .i64 m.lo, .int .i64 m.hi, .int .i64 m.held, .int .i64 m.hops, .bool m.good, .bool m.ref, .int .i64 m.slo, .int .i64 m.shi, .int .i64 m.pulse, .int .i64 m.time, .int .i64 m.num, .slice A m.table.length c'] 38))
        have HM1 := Lib.hid (hM.alloc (.cells #[.int .i64 m.kind, .int .i64 m.frm, .int .i64 m.lo, .int .i64 m.hi, .int .i64 m.held, .int .i64 m.hops, .bool m.good, .bool m.ref, .int .i64 m.slo, .int .i64 m.shi, .int .i64 m.pulse, .int .i64 m.time, .int .i64 m.num, .slice A m.table.length c'] 38))
        have HOK := Lib.hid (hok.alloc (.cells #[.int .i64 m.kind, .int .i64 m.frm, .int .i64 m.lo, .int .i64 m.hi, .int .i64 m.held, .int .i64 m.hops, .bool m.good, .bool m.ref, .int .i64 m.slo, .int .i64 m.shi, .int .i64 m.pulse, .int .i64 m.time, .int .i64 m.num, .slice A m.table.length c'] 38))
        obtain ⟨p0, p1, p2, p3, p4, p5, p6, p7, p8, p9, p10, p11⟩ := hP.pars
        have hpl := hP.lt
        have hml := hM.lt
        clear hP hM hok
        rcases hx0 with hx0 | ⟨-, hx0⟩
        · rw [hx0] at HKU
          clear hx0
          go_wp2_with (go_at_call 13; (with_reducible refine (HKU.out _).mono ?_); rintro e w5 ⟨rfl, hb5⟩; have hP5 := HP1.out.next hb5; have hM5 := HM1.out.next hb5; have hX5 := HXX.out.next hb5; have hok5 := HOK.out.trans hb5; clear hb5 p0 p1 p2 p3 p4 p5 p6 p7 p8 p9 p10 p11 hpl x0 x1 x2 x3 x4 x5 x6 x7 x8 x9 x10 x11 x12 x13; have y4 := hX5.cell 4 (v := .int .i64 m.held) rfl; have y5 := hX5.cell 5 (v := .int .i64 m.hops) rfl; have z4 := hM5.cell 4 (v := .int .i64 b.held) rfl; have z5 := hM5.cell 5 (v := .int .i64 b.hops) rfl; have hxl := hX5.lt; have hml5 := hM5.lt)
          go_roundw
          case rel => exact ⟨k + 1, by omega, by go_num, hP5, hM5, hok5⟩
          case measure => simp [intOf]; omega
        · have hh : ¬ m.hops < b.hops ∧ ¬ (m.hops = b.hops ∧ m.held < b.held) := by unfold Route.lt3 at hx0; omega
          obtain ⟨hh1, hh2⟩ := hh
          cases hmm : Route.may p.d m
          · rw [hmm] at HKU
            clear hmm hh1 hh2 hx0
            go_wp2_with (go_at_call 13; (with_reducible refine (HKU.out _).mono ?_); rintro e w5 ⟨rfl, hb5⟩; have hP5 := HP1.out.next hb5; have hM5 := HM1.out.next hb5; have hX5 := HXX.out.next hb5; have hok5 := HOK.out.trans hb5; clear hb5 p0 p1 p2 p3 p4 p5 p6 p7 p8 p9 p10 p11 hpl x0 x1 x2 x3 x4 x5 x6 x7 x8 x9 x10 x11 x12 x13; have y4 := hX5.cell 4 (v := .int .i64 m.held) rfl; have y5 := hX5.cell 5 (v := .int .i64 m.hops) rfl; have z4 := hM5.cell 4 (v := .int .i64 b.held) rfl; have z5 := hM5.cell 5 (v := .int .i64 b.hops) rfl; have hxl := hX5.lt; have hml5 := hM5.lt)
            go_roundw
            case rel => exact ⟨k + 1, by omega, by go_num, hP5, hM5, hok5⟩
            case measure => simp [intOf]; omega
          · rw [hmm] at HKU
            clear hmm hx0
            by_cases he : m.hops = b.hops
            · have hh3 : ¬ m.held < b.held := fun q => hh2 ⟨he, q⟩
              have he2 : (m.hops == b.hops) = true := by rw [he]; simp
              clear hh2 he
              go_wp2_with (go_at_call 13; (with_reducible refine (HKU.out _).mono ?_); rintro e w5 ⟨rfl, hb5⟩; have hP5 := HP1.out.next hb5; have hM5 := HM1.out.next hb5; have hX5 := HXX.out.next hb5; have hok5 := HOK.out.trans hb5; clear hb5 p0 p1 p2 p3 p4 p5 p6 p7 p8 p9 p10 p11 hpl x0 x1 x2 x3 x4 x5 x6 x7 x8 x9 x10 x11 x12 x13; have y4 := hX5.cell 4 (v := .int .i64 m.held) rfl; have y5 := hX5.cell 5 (v := .int .i64 m.hops) rfl; have z4 := hM5.cell 4 (v := .int .i64 b.held) rfl; have z5 := hM5.cell 5 (v := .int .i64 b.hops) rfl; have hxl := hX5.lt; have hml5 := hM5.lt)
              go_roundw
              case rel => exact ⟨k + 1, by omega, by go_num, hP5, hM5, hok5⟩
              case measure => simp [intOf]; omega
            · have he2 : (m.hops == b.hops) = false := by rw [beq_eq_false_iff_ne]; exact he
              clear hh2 he
              go_wp2_with (go_at_call 13; (with_reducible refine (HKU.out _).mono ?_); rintro e w5 ⟨rfl, hb5⟩; have hP5 := HP1.out.next hb5; have hM5 := HM1.out.next hb5; have hX5 := HXX.out.next hb5; have hok5 := HOK.out.trans hb5; clear hb5 p0 p1 p2 p3 p4 p5 p6 p7 p8 p9 p10 p11 hpl x0 x1 x2 x3 x4 x5 x6 x7 x8 x9 x10 x11 x12 x13; have y4 := hX5.cell 4 (v := .int .i64 m.held) rfl; have y5 := hX5.cell 5 (v := .int .i64 m.hops) rfl; have z4 := hM5.cell 4 (v := .int .i64 b.held) rfl; have z5 := hM5.cell 5 (v := .int .i64 b.hops) rfl; have hxl := hX5.lt; have hml5 := hM5.lt)
              go_roundw
              case rel => exact ⟨k + 1, by omega, by go_num, hP5, hM5, hok5⟩
              case measure => simp [intOf]; omega
      · obtain rfl : k = l.length := by omega
        clear hlt hk
        go_wp2
        go_ret
        exact ⟨rfl, hok⟩
theorem own : ownKnob Try.prog.godebug = none := by kernel_rfl
theorem laidOut : laidOutB Try.prog = true := by kernel_rfl
set_option maxRecDepth 100000 in
theorem lifted (os : Os) (started : os.Started) (H : Type) (enc : TypeId × Value → H) :
    ReturnsInHanded {} Try.checked os 5 .any (Rows.routeBestSpec.pre6 enc Try.prog Try.f5 Rows.routeBestRow.domain false) (Rows.routeBestSpec.post enc Try.prog Try.f5 false true false false) := by
  refine returnsInHanded_of_change_sized (C := Try.checked) own started (by kernel_rfl) Try.func5
    (ChangeSpec.witness6 (enc := enc) (C := Try.checked) false ⟨#[], #[.agg #[.int .i64 0, .int .i64 0, .int .i64 0, .int .i64 0, .int .i64 0, .int .i64 0, .int .i64 0, .int .i64 0, .int .i64 0, .int .i64 0, .int .i64 0, .int .i64 0], .slice none 0 0], []⟩ 8 (by kernel_rfl) (by kernel_rfl) (by kernel_rfl) (by kernel_rfl)) ?_
  intro W base args ds gs before hval0 hW _ hsz0 _
  have hsz : (DataW.weightsEach Try.prog (Try.f5.params.toList ++ Rows.routeBestSpec.plain.varTypes Try.prog) (ds ++ gs)).all (· ≤ reachBytes) = true := hsz0
  have hval : ∀ (j : Nat) t v, Try.f5.params[j]? = some t → args[j]? = some v → Value.okWide Try.prog W .any base t v := hval0
  have hW' := hW
  obtain ⟨p, q, hA, hV, rfl, _, _⟩ := hW
  obtain ⟨rfl, rfl⟩ := trodVars_none hV
  replace hA : DataW.TrodAll enc Try.prog W 0 (fun _ => true) true Try.f5.params.toList args.toList ds p := hA
  rw [Try.params5] at hA hval hsz
  obtain ⟨v0, vs0, d0, ds0, p0, q0, hargs, rfl, rfl, h0, r0⟩ := trodAll_cons hA
  obtain ⟨v1, vs1, d1, ds1, p1, q1, rfl, rfl, rfl, h1, r1⟩ := trodAll_cons r0
  obtain ⟨rfl, rfl, rfl⟩ := trodAll_nil r1
  obtain rfl : args = #[v0, v1] := by cases args; simp_all
  obtain ⟨p0, rfl, wp0⟩ := open_par Try.underlying23 rfl (by kernel_rfl) (by kernel_rfl) (by kernel_rfl) (hval 0 23 v0 rfl rfl) h0
  obtain ⟨A1, l1, c1, rfl, hA1, hl1, hw1⟩ := open_msgs (sized_any hsz (j := 1) (t := 31) rfl rfl) (hval 1 31 v1 rfl rfl) h1
  refine (walk W p0 wp0 A1 l1 c1 hA1 hl1 hw1).mono fun e W' ⟨he, hb⟩ => ?_
  subst he
  exact ⟨_, rfl, law_post hW' laidOut (by rw [Try.params5]; exact params_ok (by kernel_rfl)) rfl (by kernel_rfl) Try.underlying4 rfl rfl rfl hb⟩
theorem over : Rows.routeBestRow.holds Try.pinned (OpenSpec.ofChange Rows.routeBestSpec) :=
  OpenClaim.holds_of_wide 5 Try.f5 rfl rfl rfl rfl rfl rfl rfl ⟨rfl, rfl, rfl, rfl, rfl⟩ rfl rfl rfl rfl rfl (by kernel_rfl) Try.func5 (by kernel_rfl)
    (of_decide_eq_true (by kernel_rfl)) (by unfold Func.isWrapper; first | (rw [if_pos (by decide +kernel)]; kernel_rfl) | (rw [if_neg (by decide +kernel)]; exact ⟨rfl, rfl⟩))
    (fun os started H enc _ => lifted os started H enc)
theorem proved : Rows.RouteBestSaid := over
end Go.Proofs.Ytgkcmiaagbgajaa.routeBest
