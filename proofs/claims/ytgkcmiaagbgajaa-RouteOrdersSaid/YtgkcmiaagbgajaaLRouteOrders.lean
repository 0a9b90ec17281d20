/- RouteOrders: for every fabric's numbers and all messages the law answers true: steps do not hang on the order in which neighbours tell them, nor does who is followed, but for what is the same in steps, beats and number. No condition. -/
import Derived.Test.YtgkcmiaagbgajaaC15f
import Derived.Test.YtgkcmiaagbgajaaW36
import Derived.Test.YtgkcmiaagbgajaaW06
namespace Go.Proofs.Ytgkcmiaagbgajaa.routeOrders
open Go.ChangeShapes Go.WideShapes Go.ChangeAt Go.RowKit
set_option linter.unusedVariables false
set_option maxRecDepth 100000
attribute [local go_sem ↓] Go.wp_at_zero Go.wp_at_succ
theorem chosen_facts (D : Int) (l : List MA) : (chosen D l l.length = none ∧ ∀ x ∈ l, Route.may D x.m = false) ∨ (∃ j, chosen D l l.length = some j ∧ nth l j ∈ l ∧ Route.may D (nth l j).m = true ∧ ∀ x ∈ l, Route.may D x.m = true → ¬ Route.lt3 x.m (nth l j).m) := by
  cases hc : chosen D l l.length with
  | none =>
    refine .inl ⟨rfl, fun x hx => ?_⟩
    obtain ⟨i, hi, rfl⟩ := List.mem_iff_getElem.1 hx
    rw [← nth_eq hi]
    exact Route.pick_none hc i hi
  | some j =>
    refine .inr ⟨j, rfl, nth_mem (Route.pick_lt hc), Route.pick_may hc, fun x hx hm => ?_⟩
    obtain ⟨i, hi, rfl⟩ := List.mem_iff_getElem.1 hx
    rw [← nth_eq hi] at hm ⊢
    exact Route.pick_best hc i hi hm
theorem chosen_turned (D : Int) (l : List MA) : (chosen D l.reverse l.reverse.length).isSome = (chosen D l l.length).isSome ∧ (bestOf l.reverse (chosen D l.reverse l.reverse.length)).m.hops = (bestOf l (chosen D l l.length)).m.hops ∧ (bestOf l.reverse (chosen D l.reverse l.reverse.length)).m.held = (bestOf l (chosen D l l.length)).m.held ∧ (bestOf l.reverse (chosen D l.reverse l.reverse.length)).m.frm = (bestOf l (chosen D l l.length)).m.frm := by
  rcases chosen_facts D l with ⟨h1, h2⟩ | ⟨j, h1, h2, h3, h4⟩ <;> rcases chosen_facts D l.reverse with ⟨g1, g2⟩ | ⟨i, g1, g2, g3, g4⟩
  · rw [h1, g1]; exact ⟨rfl, rfl, rfl, rfl⟩
  · have := h2 _ (List.mem_reverse.1 g2)
    rw [g3] at this
    cases this
  · have := g2 _ (List.mem_reverse.2 h2)
    rw [h3] at this
    cases this
  · rw [h1, g1]
    exact ⟨rfl, Route.lt3_neither (h4 _ (List.mem_reverse.1 g2) g3) (g4 _ (List.mem_reverse.2 h2) h3)⟩
theorem rev_more {l : List MA} {k j : Nat} (hk : k < l.length) (hj : (l.length : Int) - 1 - k = j) : l.reverse.take (k + 1) = l.reverse.take k ++ [nth l j] := by
  have hk2 : k < l.reverse.length := by simpa using hk
  have hjl : j < l.length := by omega
  rw [take_more hk2, List.getElem_reverse, nth_eq hjl]
  congr 3
  omega
/-- What each operation leaves. -/
def VMO (p : Par) (b : Msg) (A2 A3 : Option Addr) (L c2 c3 : Nat) (q : Int) (fd : Bool) (P g1 g2 : Nat) (w : World) (v : Value) : Nat → Prop
  | 0 => v = parV p
  | 1 => v = .slice A2 L c2
  | 2 => v = .int .i64 q
  | 3 => v = parV p
  | 4 => v = .slice A3 L c3
  | 5 => v = .int .i64 q
  | 6 => v = .bool true
  | 7 => v = .bool true
  | 8 => v = .bool fd
  | 9 => v = .bool fd
  | 10 => v = .bool true
  | 11 => v = .bool true
  | 12 => v = .bool true
  | 13 => v = .pointer (some ⟨g1, 5, none⟩)
  | 14 => v = .int .i64 b.hops
  | 15 => v = .pointer (some ⟨g2, 5, none⟩)
  | 16 => v = .int .i64 b.hops
  | 17 => v = .bool true
  | 18 => v = .bool true
  | 19 => v = .bool true
  | 20 => v = .pointer (some ⟨g1, 4, none⟩)
  | 21 => v = .int .i64 b.held
  | 22 => v = .pointer (some ⟨g2, 4, none⟩)
  | 23 => v = .int .i64 b.held
  | 24 => v = .bool true
  | 25 => v = .bool true
  | 26 => v = .bool true
  | 27 => v = .pointer (some ⟨g1, 1, none⟩)
  | 28 => v = .int .i64 b.frm
  | 29 => v = .pointer (some ⟨g2, 1, none⟩)
  | 30 => v = .int .i64 b.frm
  | 31 => v = .bool true
  | 32 => v = .bool true
  | 33 => v = .bool true
  | _ => v = .bool true
/-- It stays so. -/
def VCO (p : Par) (b : Msg) (A2 A3 : Option Addr) (L c2 c3 : Nat) (q : Int) (fd : Bool) (P g1 g2 : Nat) (i : Nat) (v : Value) (w : World) : Prop := ∀ w', Ok w w' → VMO p b A2 A3 L c2 c3 q fd P g1 g2 w' v i
set_option maxHeartbeats 6400000 in
theorem walk (w : World) (p : Par) (wp : ParWf p) (A : Option Addr) (l : List MA) (c : Nat) (hA : MsgsAt w A l) (hl : l.length ≤ 9223372036854775807) (hw : ∀ x ∈ l, Mfit x) :
    Calls Try.prog 7 #[parV p, .slice A l.length c] w fun e w' => e = .returned (.bool true) ∧ Below w.heap.size w w' := by
  have HP := Lib.hid (Own.new w (parCells p) 23 rfl)
  have KO := Lib.hid fun w => route15odd p w
  by_cases h0 : p.d < 0 ∨ 16 < p.d
  · rw [decide_eq_true h0] at KO
    clear h0 hA hw
    go_enter Try.func7, Try.ntmps7
    go_wp2_with (first | (go_at_call 8; (with_reducible refine (law15Alive _).mono ?_); rintro e w1 ⟨rfl, hb1⟩; have hP := HP.out.next hb1; have hok := ((Ok.refl w).alloc (.cells (parCells p) 23)).trans hb1; clear hb1; obtain ⟨p0, p1, p2, p3, p4, p5, p6, p7, p8, p9, p10, p11⟩ := hP.pars; have hpl := hP.lt) | (go_at_call 9; (with_reducible refine (KO.out _).mono ?_); rintro e w2 ⟨rfl, hb2⟩; replace hP := hP.next hb2; replace hok := hok.trans hb2; clear hb2 p0 p1 p2 p3 p4 p5 p6 p7 p8 p9 p10 p11 hpl; obtain ⟨p0, p1, p2, p3, p4, p5, p6, p7, p8, p9, p10, p11⟩ := hP.pars; have hpl := hP.lt))
    go_ret
    exact ⟨rfl, hok⟩
  rw [decide_eq_false h0] at KO
  by_cases h1 : 256 < l.length
  · have h2 : (256 : Int) < (l.length : Int) := by omega
    clear h0 hA hw
    go_enter Try.func7, Try.ntmps7
    go_wp2_with (first | (go_at_call 8; (with_reducible refine (law15Alive _).mono ?_); rintro e w1 ⟨rfl, hb1⟩; have hP := HP.out.next hb1; have hok := ((Ok.refl w).alloc (.cells (parCells p) 23)).trans hb1; clear hb1; obtain ⟨p0, p1, p2, p3, p4, p5, p6, p7, p8, p9, p10, p11⟩ := hP.pars; have hpl := hP.lt) | (go_at_call 9; (with_reducible refine (KO.out _).mono ?_); rintro e w2 ⟨rfl, hb2⟩; replace hP := hP.next hb2; replace hok := hok.trans hb2; clear hb2 p0 p1 p2 p3 p4 p5 p6 p7 p8 p9 p10 p11 hpl; obtain ⟨p0, p1, p2, p3, p4, p5, p6, p7, p8, p9, p10, p11⟩ := hP.pars; have hpl := hP.lt))
    go_ret
    exact ⟨rfl, hok⟩
  have h2 : ¬ (256 : Int) < (l.length : Int) := by omega
  have h3 : 0 ≤ p.d ∧ p.d ≤ 16 := by omega
  have hl2 : l.length ≤ 256 := by omega
  have HF : Hid (∀ x ∈ l, x.m.table.length ≤ 8796093022208) := Lib.hid fun x hx => (hw x hx).2.2.2
  have HA := Lib.hid hA
  clear h0 h1 hA hw hl
  have KC := Lib.hid fun w1 (k : Ok w w1) => routeChoose p A l c w1 (HA.out.below k) (by omega) HF.out
  have HF2 : Hid (∀ x ∈ l.reverse, x.m.table.length ≤ 8796093022208) := Lib.hid fun x hx => HF.out x (List.mem_reverse.1 hx)
  have KE := Lib.hid fun w1 B cb (h : MsgsAt w1 B l.reverse) => routeChoose p B l.reverse cb w1 h (by simp; omega) HF2.out
  unfold ChooseEnd at KC KE
  have HQ := Lib.hid (chosen_turned p.d l)
  have hrl : l.reverse.length = l.length := List.length_reverse
  rw [hrl] at KE HQ
  obtain ⟨r1, hr1⟩ : ∃ r, chosen p.d l l.length = r := ⟨_, rfl⟩
  rw [hr1] at KC HQ
  clear hr1
  obtain ⟨r2, hr2⟩ : ∃ r, chosen p.d l.reverse l.length = r := ⟨_, rfl⟩
  rw [hr2] at KE HQ
  clear hr2
  obtain ⟨b, hb⟩ : ∃ b, bestOf l r1 = b := ⟨_, rfl⟩
  rw [hb] at KC HQ
  clear hb
  obtain ⟨b2, hb2⟩ : ∃ b, bestOf l.reverse r2 = b := ⟨_, rfl⟩
  rw [hb2] at KE HQ
  clear hb2
  obtain ⟨b, B0, c0⟩ := b
  obtain ⟨b2, B02, c02⟩ := b2
  simp only at KC KE HQ
  have hfd := HQ.out.1
  rw [hfd] at KE
  replace HQ := Lib.hid HQ.out.2
  clear hfd
  obtain ⟨fd, hfd⟩ : ∃ fd, Option.isSome r1 = fd := ⟨_, rfl⟩
  rw [hfd] at KC KE
  clear hfd
  unfold msgV at KC KE
  have KN : Hid (∀ w1 B cb (ls : List Int), IntsAt w1 B ls → ls.length = l.length → Calls Try.prog 10 #[parV p, .slice B l.length cb] w1 fun e w' => e = .returned (.int .i64 (Route.next p.d ls)) ∧ Ok w1 w') := Lib.hid fun w1 B cb ls h h2 => routeNext p B ls l.length cb w1 h h2 (by omega) h3
  have HT : Hid (Route.next p.d (l.reverse.map (·.m.hops)) = Route.next p.d (l.map (·.m.hops))) := Lib.hid (by rw [List.map_reverse]; exact Route.next_turned h3.1 _)
  go_enter Try.func7, Try.ntmps7
  go_upto_region 7 with (first | (go_at_call 8; (with_reducible refine (law15Alive _).mono ?_); rintro e w1 ⟨rfl, hb1⟩; have hP := HP.out.next hb1; have hok := ((Ok.refl w).alloc (.cells (parCells p) 23)).trans hb1; clear hb1; obtain ⟨p0, p1, p2, p3, p4, p5, p6, p7, p8, p9, p10, p11⟩ := hP.pars; have hpl := hP.lt) | (go_at_call 9; (with_reducible refine (KO.out _).mono ?_); rintro e w2 ⟨rfl, hb2⟩; replace hP := hP.next hb2; replace hok := hok.trans hb2; clear hb2 p0 p1 p2 p3 p4 p5 p6 p7 p8 p9 p10 p11 hpl; obtain ⟨p0, p1, p2, p3, p4, p5, p6, p7, p8, p9, p10, p11⟩ := hP.pars; have hpl := hP.lt))
  have hPK : w.heap.size < w2.heap.size := by have := hok.size; have := hP.lt; omega
  have hD : Trio w2.heap.size w w2 w.heap.size p (.slice none 0 0) (.slice none 0 0) (.slice none 0 0) (l.reverse.take 0) ((l.take 0).map (·.m.hops)) ((l.reverse.take 0).map (·.m.hops)) := Trio.start hP hPK hok.size (Nat.le_refl _) hok
  obtain ⟨K, hK⟩ : ∃ K, w2.heap.size = K := ⟨_, rfl⟩
  rw [hK] at hD
  generalize w.heap.size = P at hD hP HP ⊢
  clear p0 p1 p2 p3 p4 p5 p6 p7 p8 p9 p10 p11 hpl hP hok hK hPK KO HP
  go_wp2
  go_loopw [5, 6, 7, 24] (fun vt va vb i wr => ∃ k : Nat, k ≤ l.length ∧ i = .int .i64 k ∧ Trio K w wr P p vt va vb (l.reverse.take k) ((l.take k).map (·.m.hops)) ((l.reverse.take k).map (·.m.hops))) (fun _ _ _ i _ => l.length - (intOf i).toNat)
  case atStart => exact ⟨0, Nat.zero_le _, rfl, hD⟩
  case round =>
    clear hD
    obtain ⟨k, hk, rfl, hD⟩ := hrel
    by_cases hlt : k < l.length
    · have HD := Lib.hid hD
      obtain ⟨L1, hL1⟩ : ∃ L1 : Nat, (l.length : Int) - 1 = L1 := ⟨l.length - 1, by omega⟩
      obtain ⟨j, hj⟩ : ∃ j : Nat, (L1 : Int) - k = j := ⟨L1 - k, by omega⟩
      have hjl : j < l.length := by omega
      have hjj : (l.length : Int) - 1 - k = j := by omega
      have EN := Lib.hid (rev_more hlt hjj)
      have EK := Lib.hid (show l.take (k + 1) = l.take k ++ [nth l k] by rw [take_more hlt, nth_eq hlt])
      have LT := Lib.hid (show (l.reverse.take k).length = k by simp; omega)
      have LA := Lib.hid (show (l.take k).length = k by simp; omega)
      generalize l.reverse.take k = tr at HD EN LT
      generalize l.take k = ta at HD EK LA
      clear hD hjj
      obtain ⟨b0, off, hBe, hbl, x0, x1, x2, x3, x4, x5, x6, x7, x8, x9, x10, x11, x12, x13⟩ := (HA.out.below HD.out.ok).nthAt j hjl
      subst hBe
      have HHj := Lib.hid fun W' (k : Ok w W') => HA.out.below k
      obtain ⟨x, hx⟩ : ∃ x, nth l j = x := ⟨_, rfl⟩
      have HX := Lib.hid hx
      rw [hx] at EN x0 x1 x2 x3 x4 x5 x6 x7 x8 x9 x10 x11 x12 x13
      obtain ⟨m, A, c'⟩ := x
      simp only at EN x0 x1 x2 x3 x4 x5 x6 x7 x8 x9 x10 x11 x12 x13
      have hD1 := HD.out.alloc (.cells #[.int .i64 m.kind, .int .i64 m.frm, .int .i64 m.lo, .int .i64 m.hi, .int .i64 m.held, .int .i64 m.hops, .bool m.good, .bool m.ref, .int .i64 m.slo, .int .i64 m.shi, .int .i64 m.pulse, .int .i64 m.time, .int .i64 m.num, .slice A m.table.length c'] 38)
      have hO1 : Own (wr.alloc (.cells #[.int .i64 m.kind, .int .i64 m.frm, .int .i64 m.lo, .int .i64 m.hi, .int .i64 m.held, .int .i64 m.hops, .bool m.good, .bool m.ref, .int .i64 m.slo, .int .i64 m.shi, .int .i64 m.pulse, .int .i64 m.time, .int .i64 m.num, .slice A m.table.length c'] 38)) wr.heap.size (msgCells m A c') := Own.new wr _ 38 rfl
      have hj1 : ¬ (l.length : Int) ≤ (j : Int) := by omega
      have hj2 : (j : Int) < (l.length : Int) := by omega
      have hd5 : Hid (∀ W', Ok w W' → W'.cell? ⟨b0, off + k * 14 + 5, none⟩ = some (.int .i64 (nth l k).m.hops) ∧ W'.cell? ⟨b0, off + j * 14 + 5, none⟩ = some (.int .i64 m.hops) ∧ b0 < W'.heap.size) := Lib.hid fun W' q => by
        obtain ⟨b1, o1, e1, g1, g⟩ := (HHj.out W' q).nthAt k hlt
        obtain ⟨b2, o2, e2, g2, f⟩ := (HHj.out W' q).nthAt j hjl
        cases e1
        cases e2
        rw [HX.out] at f
        exact ⟨g.2.2.2.2.2.1, f.2.2.2.2.2.1, g1⟩
      clear hx HHj
      go_upto_region 11 with (at_builtin; refine Trio.listT hD1 rfl (.tmp 27) (.tmp 36) rfl rfl _ 1 rfl ⟨m, A, c'⟩ hO1 (by rw [LT.out]; omega) ?_; intro ga ca W1 D1)
      clear x0 x1 x2 x3 x4 x5 x6 x7 x8 x9 x10 x11 x12 x13 hD1 hO1 HD
      obtain ⟨q1, q2, q3⟩ := hd5.out W1 D1.ok
      go_upto_region 12 with (at_builtin; refine Trio.listA (D1.alloc _) rfl (.tmp 38) (.tmp 44) rfl rfl _ 1 rfl (nth l k).m.hops (by simp) (by rw [List.length_map, LA.out]; omega) ?_; intro gb cb W2 D2)
      clear q1 q2 q3 D1
      obtain ⟨q1, q2, q3⟩ := hd5.out W2 D2.ok
      go_upto_region 13 with (at_builtin; refine Trio.listB (D2.alloc _) rfl (.tmp 46) (.tmp 56) rfl rfl _ 1 rfl m.hops (by simp) (by rw [List.length_map, LT.out]; omega) ?_; intro gc cc W3 D3)
      clear q1 q2 q3 D2 hd5
      have HD3 := Lib.hid D3
      clear D3
      go_wp2_with fail
      go_roundw
      case rel => exact ⟨k + 1, by omega, by go_num, by rw [EN.out, EK.out, List.map_append, List.map_append]; have q := HD3.out; rw [List.length_map, List.length_map] at q; exact q⟩
      case measure => simp [intOf]; omega
    · obtain rfl : k = l.length := by omega
      have e1 : l.reverse.take l.length = l.reverse := List.take_of_length_le (by simp)
      rw [e1, List.take_of_length_le (Nat.le_refl _)] at hD
      clear e1 hlt hk
      obtain ⟨A1, c1, rfl, hM⟩ := hD.msgs (fun x hx => (HA.out.below hD.ok).tabs x (List.mem_reverse.1 hx))
      obtain ⟨A2, c2, rfl, hI2⟩ := hD.intsA
      obtain ⟨A3, c3, rfl, hI3⟩ := hD.intsB
      have KM : Hid (∀ w1 B cb, IntsAt w1 B (l.reverse.map (·.m.hops)) → Calls Try.prog 10 #[parV p, .slice B l.length cb] w1 fun e w' => e = .returned (.int .i64 (Route.next p.d (l.map (·.m.hops)))) ∧ Ok w1 w') := Lib.hid fun w1 B cb h => by
        have := KN.out w1 B cb _ h (by simp)
        rwa [HT.out] at this
      have hP := hD.par
      have hok := hD.ok
      rw [List.length_map, List.length_map, hrl]
      clear hD HA HF HF2 HT hrl
      have HLa : Hid ((l.map (·.m.hops)).length = l.length) := Lib.hid (by simp)
      generalize l.reverse.map (·.m.hops) = lr at hI3 KM
      generalize l.map (·.m.hops) = la at hI2 KM HLa
      obtain ⟨q, hq⟩ : ∃ q, Route.next p.d la = q := ⟨_, rfl⟩
      obtain ⟨p0, p1, p2, p3, p4, p5, p6, p7, p8, p9, p10, p11⟩ := hP.pars
      have hpl := hP.lt
      go_upto_region 16 with (first
        | (go_at_call 15; (with_reducible refine (KC.out _ hok).mono ?_); rintro e w3 ⟨B, d, rfl, _, hb3⟩; replace hM := hM.below (hb3.alloc (.cells #[.int .i64 b.kind, .int .i64 b.frm, .int .i64 b.lo, .int .i64 b.hi, .int .i64 b.held, .int .i64 b.hops, .bool b.good, .bool b.ref, .int .i64 b.slo, .int .i64 b.shi, .int .i64 b.pulse, .int .i64 b.time, .int .i64 b.num, .slice B b.table.length d] 38)); replace hI2 := hI2.below (hb3.alloc (.cells #[.int .i64 b.kind, .int .i64 b.frm, .int .i64 b.lo, .int .i64 b.hi, .int .i64 b.held, .int .i64 b.hops, .bool b.good, .bool b.ref, .int .i64 b.slo, .int .i64 b.shi, .int .i64 b.pulse, .int .i64 b.time, .int .i64 b.num, .slice B b.table.length d] 38)); replace hI3 := hI3.below (hb3.alloc (.cells #[.int .i64 b.kind, .int .i64 b.frm, .int .i64 b.lo, .int .i64 b.hi, .int .i64 b.held, .int .i64 b.hops, .bool b.good, .bool b.ref, .int .i64 b.slo, .int .i64 b.shi, .int .i64 b.pulse, .int .i64 b.time, .int .i64 b.num, .slice B b.table.length d] 38)); replace hP := (hP.next hb3).alloc (.cells #[.int .i64 b.kind, .int .i64 b.frm, .int .i64 b.lo, .int .i64 b.hi, .int .i64 b.held, .int .i64 b.hops, .bool b.good, .bool b.ref, .int .i64 b.slo, .int .i64 b.shi, .int .i64 b.pulse, .int .i64 b.time, .int .i64 b.num, .slice B b.table.length d] 38); replace hok := (hok.trans hb3).alloc (.cells #[.int .i64 b.kind, .int .i64 b.frm, .int .i64 b.lo, .int .i64 b.hi, .int .i64 b.held, .int .i64 b.hops, .bool b.good, .bool b.ref, .int .i64 b.slo, .int .i64 b.shi, .int .i64 b.pulse, .int .i64 b.time, .int .i64 b.num, .slice B b.table.length d] 38); clear hb3 p0 p1 p2 p3 p4 p5 p6 p7 p8 p9 p10 p11 hpl; have hM1 : Own _ w3.heap.size (msgCells b B d) := Own.new w3 #[.int .i64 b.kind, .int .i64 b.frm, .int .i64 b.lo, .int .i64 b.hi, .int .i64 b.held, .int .i64 b.hops, .bool b.good, .bool b.ref, .int .i64 b.slo, .int .i64 b.shi, .int .i64 b.pulse, .int .i64 b.time, .int .i64 b.num, .slice B b.table.length d] 38 rfl; obtain ⟨p0, p1, p2, p3, p4, p5, p6, p7, p8, p9, p10, p11⟩ := hP.pars; have hpl := hP.lt)
        | (go_at_call 15; (with_reducible refine (KE.out _ _ _ hM).mono ?_); rintro e w4 ⟨E, d2, rfl, _, hb4⟩; replace hI2 := hI2.below (hb4.alloc (.cells #[.int .i64 b2.kind, .int .i64 b2.frm, .int .i64 b2.lo, .int .i64 b2.hi, .int .i64 b2.held, .int .i64 b2.hops, .bool b2.good, .bool b2.ref, .int .i64 b2.slo, .int .i64 b2.shi, .int .i64 b2.pulse, .int .i64 b2.time, .int .i64 b2.num, .slice E b2.table.length d2] 38)); replace hI3 := hI3.below (hb4.alloc (.cells #[.int .i64 b2.kind, .int .i64 b2.frm, .int .i64 b2.lo, .int .i64 b2.hi, .int .i64 b2.held, .int .i64 b2.hops, .bool b2.good, .bool b2.ref, .int .i64 b2.slo, .int .i64 b2.shi, .int .i64 b2.pulse, .int .i64 b2.time, .int .i64 b2.num, .slice E b2.table.length d2] 38)); replace hP := (hP.next hb4).alloc (.cells #[.int .i64 b2.kind, .int .i64 b2.frm, .int .i64 b2.lo, .int .i64 b2.hi, .int .i64 b2.held, .int .i64 b2.hops, .bool b2.good, .bool b2.ref, .int .i64 b2.slo, .int .i64 b2.shi, .int .i64 b2.pulse, .int .i64 b2.time, .int .i64 b2.num, .slice E b2.table.length d2] 38); replace hM1 := (hM1.next hb4).alloc (.cells #[.int .i64 b2.kind, .int .i64 b2.frm, .int .i64 b2.lo, .int .i64 b2.hi, .int .i64 b2.held, .int .i64 b2.hops, .bool b2.good, .bool b2.ref, .int .i64 b2.slo, .int .i64 b2.shi, .int .i64 b2.pulse, .int .i64 b2.time, .int .i64 b2.num, .slice E b2.table.length d2] 38); replace hok := (hok.trans hb4).alloc (.cells #[.int .i64 b2.kind, .int .i64 b2.frm, .int .i64 b2.lo, .int .i64 b2.hi, .int .i64 b2.held, .int .i64 b2.hops, .bool b2.good, .bool b2.ref, .int .i64 b2.slo, .int .i64 b2.shi, .int .i64 b2.pulse, .int .i64 b2.time, .int .i64 b2.num, .slice E b2.table.length d2] 38); clear hb4 p0 p1 p2 p3 p4 p5 p6 p7 p8 p9 p10 p11 hpl; have hM2 : Own _ w4.heap.size (msgCells b2 E d2) := Own.new w4 #[.int .i64 b2.kind, .int .i64 b2.frm, .int .i64 b2.lo, .int .i64 b2.hi, .int .i64 b2.held, .int .i64 b2.hops, .bool b2.good, .bool b2.ref, .int .i64 b2.slo, .int .i64 b2.shi, .int .i64 b2.pulse, .int .i64 b2.time, .int .i64 b2.num, .slice E b2.table.length d2] 38 rfl))
      generalize w4.alloc (.cells #[.int .i64 b2.kind, .int .i64 b2.frm, .int .i64 b2.lo, .int .i64 b2.hi, .int .i64 b2.held, .int .i64 b2.hops, .bool b2.good, .bool b2.ref, .int .i64 b2.slo, .int .i64 b2.shi, .int .i64 b2.pulse, .int .i64 b2.time, .int .i64 b2.num, .slice E b2.table.length d2] 38) = W at *
      generalize w3.heap.size = g1 at hM1 ⊢
      generalize w4.heap.size = g2 at hM2 ⊢
      have HP := Lib.hid fun W' (k : Ok W.drew W') => hP.drew.next k
      have HM1 := Lib.hid fun W' (k : Ok W.drew W') => hM1.drew.next k
      have HM2 := Lib.hid fun W' (k : Ok W.drew W') => hM2.drew.next k
      have HI2 := Lib.hid fun W' (k : Ok W.drew W') => hI2.drew.below k
      have HI3 := Lib.hid fun W' (k : Ok W.drew W') => hI3.drew.below k
      clear hP hM1 hM2 hI2 hI3 KC KE
      rw [hq] at KM
      replace KN : Hid (∀ w1 B cb (ls : List Int), IntsAt w1 B la → la.length = l.length → Calls Try.prog 10 #[parV p, .slice B l.length cb] w1 fun e w' => e = .returned (.int .i64 q) ∧ Ok w1 w') := Lib.hid fun w1 B cb ls h h2 => by rw [← hq]; exact KN.out w1 B cb la h h2
      clear hq
      refine wp_region_facts (by kernel_rfl) 104 rfl (VCO p b A2 A3 l.length c2 c3 q fd P g1 g2) Ok (by kernel_rfl) (fun i v w w' h k w'' k' => h w'' (k.trans k')) (fun a b c => Ok.trans) (Ok.refl _) [some 71, some 72, some 73, some 74, some 75, some 76, some 77, some 78, some 79, some 80, some 81, some 82, some 83, some 84, some 85, some 86, some 87, some 88, some 89, some 90, some 91, some 92, some 93, some 94, some 95, some 96, some 97, some 98, some 99, some 100, some 101, some 102, some 103, some 4] rfl 34 rfl ⟨?_, ?_, ?_, ?_, ?_, ?_, ?_, ?_, ?_, ?_, ?_, ?_, ?_, ?_, ?_, ?_, ?_, ?_, ?_, ?_, ?_, ?_, ?_, ?_, ?_, ?_, ?_, ?_, ?_, ?_, ?_, ?_, ?_, ?_, trivial⟩ ?_
      · intro a' w' hF hR
        have e2 : a'.tmps[2]? = some (.pointer (some ⟨P, 0, none⟩)) := hF.slot 2 (by kernel_rfl) rfl
        obtain ⟨p0, p1, p2, p3, p4, p5, p6, p7, p8, p9, p10, p11⟩ := (HP.out _ hR).pars
        refine wpOp_run (v := parV p) rfl rfl ?_ (fun _ _ => rfl) (Ok.refl _)
        clear hF
        go_simp
      · intro a' w' hF hR
        have e6 : a'.tmps[6]? = some (.slice A2 l.length c2) := hF.slot 6 (by kernel_rfl) rfl
        refine wpOp_run (v := .slice A2 l.length c2) rfl rfl ?_ (fun _ _ => rfl) (Ok.refl _)
        clear hF
        go_simp
      · intro a' w' hF hR
        obtain ⟨v0, hv0, e71⟩ := hF.get 0 71 (by kernel_rfl) (by kernel_rfl)
        obtain rfl : v0 = _ := hv0 _ (Ok.refl _)
        obtain ⟨v1, hv1, e72⟩ := hF.get 1 72 (by kernel_rfl) (by kernel_rfl)
        obtain rfl : v1 = _ := hv1 _ (Ok.refl _)
        clear hF
        refine wpOp_call (f := 10) (args := #[parV p, .slice A2 l.length c2]) rfl rfl ?_ ((KN.out _ _ _ [] (HI2.out _ hR) HLa.out).mono ?_)
        · go_simp
        · rintro e w2 ⟨rfl, hb2⟩; exact ⟨_, rfl, fun _ _ => rfl, hb2⟩
      · intro a' w' hF hR
        have e2 : a'.tmps[2]? = some (.pointer (some ⟨P, 0, none⟩)) := hF.slot 2 (by kernel_rfl) rfl
        obtain ⟨p0, p1, p2, p3, p4, p5, p6, p7, p8, p9, p10, p11⟩ := (HP.out _ hR).pars
        refine wpOp_run (v := parV p) rfl rfl ?_ (fun _ _ => rfl) (Ok.refl _)
        clear hF
        go_simp
      · intro a' w' hF hR
        have e7 : a'.tmps[7]? = some (.slice A3 l.length c3) := hF.slot 7 (by kernel_rfl) rfl
        refine wpOp_run (v := .slice A3 l.length c3) rfl rfl ?_ (fun _ _ => rfl) (Ok.refl _)
        clear hF
        go_simp
      · intro a' w' hF hR
        obtain ⟨v3, hv3, e74⟩ := hF.get 3 74 (by kernel_rfl) (by kernel_rfl)
        obtain rfl : v3 = _ := hv3 _ (Ok.refl _)
        obtain ⟨v4, hv4, e75⟩ := hF.get 4 75 (by kernel_rfl) (by kernel_rfl)
        obtain rfl : v4 = _ := hv4 _ (Ok.refl _)
        clear hF
        refine wpOp_call (f := 10) (args := #[parV p, .slice A3 l.length c3]) rfl rfl ?_ ((KM.out _ _ _ (HI3.out _ hR)).mono ?_)
        · go_simp
        · rintro e w2 ⟨rfl, hb2⟩; exact ⟨_, rfl, fun _ _ => rfl, hb2⟩
      · intro a' w' hF hR
        obtain ⟨v2, hv2, e73⟩ := hF.get 2 73 (by kernel_rfl) (by kernel_rfl)
        obtain rfl : v2 = _ := hv2 _ (Ok.refl _)
        obtain ⟨v5, hv5, e76⟩ := hF.get 5 76 (by kernel_rfl) (by kernel_rfl)
        obtain rfl : v5 = _ := hv5 _ (Ok.refl _)
        have hv : (q == q) = true := by simp
        refine wpOp_run (v := .bool true) rfl rfl ?_ (fun _ _ => rfl) (Ok.refl _)
        clear hF
        go_simp
      · intro a' w' hF hR
        obtain ⟨v6, hv6, e77⟩ := hF.get 6 77 (by kernel_rfl) (by kernel_rfl)
        obtain rfl : v6 = _ := hv6 _ (Ok.refl _)
        refine wpOp_run (v := .bool true) rfl rfl ?_ (fun _ _ => rfl) (Ok.refl _)
        clear hF
        go_simp
      · intro a' w' hF hR
        have e10 : a'.tmps[10]? = some (.bool fd) := hF.slot 10 (by kernel_rfl) rfl
        obtain ⟨vg, hvg, eg⟩ := hF.get 7 78 (by kernel_rfl) (by kernel_rfl)
        obtain rfl : vg = _ := hvg _ (Ok.refl _)
        refine wpOp_runG (v := .bool fd) rfl (wanted_yes rfl (by kernel_rfl) eg) ?_ (fun _ _ => rfl) (Ok.refl _)
        clear hF
        go_simp
      · intro a' w' hF hR
        have e12 : a'.tmps[12]? = some (.bool fd) := hF.slot 12 (by kernel_rfl) rfl
        obtain ⟨vg, hvg, eg⟩ := hF.get 7 78 (by kernel_rfl) (by kernel_rfl)
        obtain rfl : vg = _ := hvg _ (Ok.refl _)
        refine wpOp_runG (v := .bool fd) rfl (wanted_yes rfl (by kernel_rfl) eg) ?_ (fun _ _ => rfl) (Ok.refl _)
        clear hF
        go_simp
      · intro a' w' hF hR
        obtain ⟨v8, hv8, e79⟩ := hF.get 8 79 (by kernel_rfl) (by kernel_rfl)
        obtain rfl : v8 = _ := hv8 _ (Ok.refl _)
        obtain ⟨v9, hv9, e80⟩ := hF.get 9 80 (by kernel_rfl) (by kernel_rfl)
        obtain rfl : v9 = _ := hv9 _ (Ok.refl _)
        obtain ⟨vg, hvg, eg⟩ := hF.get 7 78 (by kernel_rfl) (by kernel_rfl)
        obtain rfl : vg = _ := hvg _ (Ok.refl _)
        have hv : (fd == fd) = true := by simp
        refine wpOp_runG (v := .bool true) rfl (wanted_yes rfl (by kernel_rfl) eg) ?_ (fun _ _ => rfl) (Ok.refl _)
        clear hF
        go_simp
      · intro a' w' hF hR
        obtain ⟨v7, hv7, e78⟩ := hF.get 7 78 (by kernel_rfl) (by kernel_rfl)
        obtain rfl : v7 = _ := hv7 _ (Ok.refl _)
        obtain ⟨v10, hv10, e81⟩ := hF.get 10 81 (by kernel_rfl) (by kernel_rfl)
        obtain rfl : v10 = _ := hv10 _ (Ok.refl _)
        refine wpOp_run (v := .bool true) rfl rfl ?_ (fun _ _ => rfl) (Ok.refl _)
        clear hF
        go_simp
      · intro a' w' hF hR
        obtain ⟨v11, hv11, e82⟩ := hF.get 11 82 (by kernel_rfl) (by kernel_rfl)
        obtain rfl : v11 = _ := hv11 _ (Ok.refl _)
        refine wpOp_run (v := .bool true) rfl rfl ?_ (fun _ _ => rfl) (Ok.refl _)
        clear hF
        go_simp
      · intro a' w' hF hR
        have e9 : a'.tmps[9]? = some (.pointer (some ⟨g1, 0, none⟩)) := hF.slot 9 (by kernel_rfl) rfl
        obtain ⟨vg, hvg, eg⟩ := hF.get 12 83 (by kernel_rfl) (by kernel_rfl)
        obtain rfl : vg = _ := hvg _ (Ok.refl _)
        refine wpOp_runG (v := .pointer (some ⟨g1, 5, none⟩)) rfl (wanted_yes rfl (by kernel_rfl) eg) ?_ (fun _ _ => rfl) (Ok.refl _)
        clear hF
        go_simp
      · intro a' w' hF hR
        obtain ⟨v13, hv13, e84⟩ := hF.get 13 84 (by kernel_rfl) (by kernel_rfl)
        obtain rfl : v13 = _ := hv13 _ (Ok.refl _)
        obtain ⟨vg, hvg, eg⟩ := hF.get 12 83 (by kernel_rfl) (by kernel_rfl)
        obtain rfl : vg = _ := hvg _ (Ok.refl _)
        have z := (HM1.out _ hR).cell 5 (v := .int .i64 b.hops) rfl
        refine wpOp_runG (v := .int .i64 b.hops) rfl (wanted_yes rfl (by kernel_rfl) eg) ?_ (fun _ _ => rfl) (Ok.refl _)
        clear hF
        go_simp
      · intro a' w' hF hR
        have e11 : a'.tmps[11]? = some (.pointer (some ⟨g2, 0, none⟩)) := hF.slot 11 (by kernel_rfl) rfl
        obtain ⟨vg, hvg, eg⟩ := hF.get 12 83 (by kernel_rfl) (by kernel_rfl)
        obtain rfl : vg = _ := hvg _ (Ok.refl _)
        refine wpOp_runG (v := .pointer (some ⟨g2, 5, none⟩)) rfl (wanted_yes rfl (by kernel_rfl) eg) ?_ (fun _ _ => rfl) (Ok.refl _)
        clear hF
        go_simp
      · intro a' w' hF hR
        obtain ⟨v15, hv15, e86⟩ := hF.get 15 86 (by kernel_rfl) (by kernel_rfl)
        obtain rfl : v15 = _ := hv15 _ (Ok.refl _)
        obtain ⟨vg, hvg, eg⟩ := hF.get 12 83 (by kernel_rfl) (by kernel_rfl)
        obtain rfl : vg = _ := hvg _ (Ok.refl _)
        have z := (HM2.out _ hR).cell 5 (v := .int .i64 b2.hops) rfl
        rw [HQ.out.1] at z
        refine wpOp_runG (v := .int .i64 b.hops) rfl (wanted_yes rfl (by kernel_rfl) eg) ?_ (fun _ _ => rfl) (Ok.refl _)
        clear hF
        go_simp
      · intro a' w' hF hR
        obtain ⟨v14, hv14, e85⟩ := hF.get 14 85 (by kernel_rfl) (by kernel_rfl)
        obtain rfl : v14 = _ := hv14 _ (Ok.refl _)
        obtain ⟨v16, hv16, e87⟩ := hF.get 16 87 (by kernel_rfl) (by kernel_rfl)
        obtain rfl : v16 = _ := hv16 _ (Ok.refl _)
        obtain ⟨vg, hvg, eg⟩ := hF.get 12 83 (by kernel_rfl) (by kernel_rfl)
        obtain rfl : vg = _ := hvg _ (Ok.refl _)
        have hv : (b.hops == b.hops) = true := by simp
        refine wpOp_runG (v := .bool true) rfl (wanted_yes rfl (by kernel_rfl) eg) ?_ (fun _ _ => rfl) (Ok.refl _)
        clear hF
        go_simp
      · intro a' w' hF hR
        obtain ⟨v12, hv12, e83⟩ := hF.get 12 83 (by kernel_rfl) (by kernel_rfl)
        obtain rfl : v12 = _ := hv12 _ (Ok.refl _)
        obtain ⟨v17, hv17, e88⟩ := hF.get 17 88 (by kernel_rfl) (by kernel_rfl)
        obtain rfl : v17 = _ := hv17 _ (Ok.refl _)
        refine wpOp_run (v := .bool true) rfl rfl ?_ (fun _ _ => rfl) (Ok.refl _)
        clear hF
        go_simp
      · intro a' w' hF hR
        obtain ⟨v18, hv18, e89⟩ := hF.get 18 89 (by kernel_rfl) (by kernel_rfl)
        obtain rfl : v18 = _ := hv18 _ (Ok.refl _)
        refine wpOp_run (v := .bool true) rfl rfl ?_ (fun _ _ => rfl) (Ok.refl _)
        clear hF
        go_simp
      · intro a' w' hF hR
        have e9 : a'.tmps[9]? = some (.pointer (some ⟨g1, 0, none⟩)) := hF.slot 9 (by kernel_rfl) rfl
        obtain ⟨vg, hvg, eg⟩ := hF.get 19 90 (by kernel_rfl) (by kernel_rfl)
        obtain rfl : vg = _ := hvg _ (Ok.refl _)
        refine wpOp_runG (v := .pointer (some ⟨g1, 4, none⟩)) rfl (wanted_yes rfl (by kernel_rfl) eg) ?_ (fun _ _ => rfl) (Ok.refl _)
        clear hF
        go_simp
      · intro a' w' hF hR
        obtain ⟨v20, hv20, e91⟩ := hF.get 20 91 (by kernel_rfl) (by kernel_rfl)
        obtain rfl : v20 = _ := hv20 _ (Ok.refl _)
        obtain ⟨vg, hvg, eg⟩ := hF.get 19 90 (by kernel_rfl) (by kernel_rfl)
        obtain rfl : vg = _ := hvg _ (Ok.refl _)
        have z := (HM1.out _ hR).cell 4 (v := .int .i64 b.held) rfl
        refine wpOp_runG (v := .int .i64 b.held) rfl (wanted_yes rfl (by kernel_rfl) eg) ?_ (fun _ _ => rfl) (Ok.refl _)
        clear hF
        go_simp
      · intro a' w' hF hR
        have e11 : a'.tmps[11]? = some (.pointer (some ⟨g2, 0, none⟩)) := hF.slot 11 (by kernel_rfl) rfl
        obtain ⟨vg, hvg, eg⟩ := hF.get 19 90 (by kernel_rfl) (by kernel_rfl)
        obtain rfl : vg = _ := hvg _ (Ok.refl _)
        refine wpOp_runG (v := .pointer (some ⟨g2, 4, none⟩)) rfl (wanted_yes rfl (by kernel_rfl) eg) ?_ (fun _ _ => rfl) (Ok.refl _)
        clear hF
        go_simp
      · intro a' w' hF hR
        obtain ⟨v22, hv22, e93⟩ := hF.get 22 93 (by kernel_rfl) (by kernel_rfl)
        obtain rfl : v22 = _ := hv22 _ (Ok.refl _)
        obtain ⟨vg, hvg, eg⟩ := hF.get 19 90 (by kernel_rfl) (by kernel_rfl)
        obtain rfl : vg = _ := hvg _ (Ok.refl _)
        have z := (HM2.out _ hR).cell 4 (v := .int .i64 b2.held) rfl
        rw [HQ.out.2.1] at z
        refine wpOp_runG (v := .int .i64 b.held) rfl (wanted_yes rfl (by kernel_rfl) eg) ?_ (fun _ _ => rfl) (Ok.refl _)
        clear hF
        go_simp
      · intro a' w' hF hR
        obtain ⟨v21, hv21, e92⟩ := hF.get 21 92 (by kernel_rfl) (by kernel_rfl)
        obtain rfl : v21 = _ := hv21 _ (Ok.refl _)
        obtain ⟨v23, hv23, e94⟩ := hF.get 23 94 (by kernel_rfl) (by kernel_rfl)
        obtain rfl : v23 = _ := hv23 _ (Ok.refl _)
        obtain ⟨vg, hvg, eg⟩ := hF.get 19 90 (by kernel_rfl) (by kernel_rfl)
        obtain rfl : vg = _ := hvg _ (Ok.refl _)
        have hv : (b.held == b.held) = true := by simp
        refine wpOp_runG (v := .bool true) rfl (wanted_yes rfl (by kernel_rfl) eg) ?_ (fun _ _ => rfl) (Ok.refl _)
        clear hF
        go_simp
      · intro a' w' hF hR
        obtain ⟨v19, hv19, e90⟩ := hF.get 19 90 (by kernel_rfl) (by kernel_rfl)
        obtain rfl : v19 = _ := hv19 _ (Ok.refl _)
        obtain ⟨v24, hv24, e95⟩ := hF.get 24 95 (by kernel_rfl) (by kernel_rfl)
        obtain rfl : v24 = _ := hv24 _ (Ok.refl _)
        refine wpOp_run (v := .bool true) rfl rfl ?_ (fun _ _ => rfl) (Ok.refl _)
        clear hF
        go_simp
      · intro a' w' hF hR
        obtain ⟨v25, hv25, e96⟩ := hF.get 25 96 (by kernel_rfl) (by kernel_rfl)
        obtain rfl : v25 = _ := hv25 _ (Ok.refl _)
        refine wpOp_run (v := .bool true) rfl rfl ?_ (fun _ _ => rfl) (Ok.refl _)
        clear hF
        go_simp
      · intro a' w' hF hR
        have e9 : a'.tmps[9]? = some (.pointer (some ⟨g1, 0, none⟩)) := hF.slot 9 (by kernel_rfl) rfl
        obtain ⟨vg, hvg, eg⟩ := hF.get 26 97 (by kernel_rfl) (by kernel_rfl)
        obtain rfl : vg = _ := hvg _ (Ok.refl _)
        refine wpOp_runG (v := .pointer (some ⟨g1, 1, none⟩)) rfl (wanted_yes rfl (by kernel_rfl) eg) ?_ (fun _ _ => rfl) (Ok.refl _)
        clear hF
        go_simp
      · intro a' w' hF hR
        obtain ⟨v27, hv27, e98⟩ := hF.get 27 98 (by kernel_rfl) (by kernel_rfl)
        obtain rfl : v27 = _ := hv27 _ (Ok.refl _)
        obtain ⟨vg, hvg, eg⟩ := hF.get 26 97 (by kernel_rfl) (by kernel_rfl)
        obtain rfl : vg = _ := hvg _ (Ok.refl _)
        have z := (HM1.out _ hR).cell 1 (v := .int .i64 b.frm) rfl
        refine wpOp_runG (v := .int .i64 b.frm) rfl (wanted_yes rfl (by kernel_rfl) eg) ?_ (fun _ _ => rfl) (Ok.refl _)
        clear hF
        go_simp
      · intro a' w' hF hR
        have e11 : a'.tmps[11]? = some (.pointer (some ⟨g2, 0, none⟩)) := hF.slot 11 (by kernel_rfl) rfl
        obtain ⟨vg, hvg, eg⟩ := hF.get 26 97 (by kernel_rfl) (by kernel_rfl)
        obtain rfl : vg = _ := hvg _ (Ok.refl _)
        refine wpOp_runG (v := .pointer (some ⟨g2, 1, none⟩)) rfl (wanted_yes rfl (by kernel_rfl) eg) ?_ (fun _ _ => rfl) (Ok.refl _)
        clear hF
        go_simp
      · intro a' w' hF hR
        obtain ⟨v29, hv29, e100⟩ := hF.get 29 100 (by kernel_rfl) (by kernel_rfl)
        obtain rfl : v29 = _ := hv29 _ (Ok.refl _)
        obtain ⟨vg, hvg, eg⟩ := hF.get 26 97 (by kernel_rfl) (by kernel_rfl)
        obtain rfl : vg = _ := hvg _ (Ok.refl _)
        have z := (HM2.out _ hR).cell 1 (v := .int .i64 b2.frm) rfl
        rw [HQ.out.2.2] at z
        refine wpOp_runG (v := .int .i64 b.frm) rfl (wanted_yes rfl (by kernel_rfl) eg) ?_ (fun _ _ => rfl) (Ok.refl _)
        clear hF
        go_simp
      · intro a' w' hF hR
        obtain ⟨v28, hv28, e99⟩ := hF.get 28 99 (by kernel_rfl) (by kernel_rfl)
        obtain rfl : v28 = _ := hv28 _ (Ok.refl _)
        obtain ⟨v30, hv30, e101⟩ := hF.get 30 101 (by kernel_rfl) (by kernel_rfl)
        obtain rfl : v30 = _ := hv30 _ (Ok.refl _)
        obtain ⟨vg, hvg, eg⟩ := hF.get 26 97 (by kernel_rfl) (by kernel_rfl)
        obtain rfl : vg = _ := hvg _ (Ok.refl _)
        have hv : (b.frm == b.frm) = true := by simp
        refine wpOp_runG (v := .bool true) rfl (wanted_yes rfl (by kernel_rfl) eg) ?_ (fun _ _ => rfl) (Ok.refl _)
        clear hF
        go_simp
      · intro a' w' hF hR
        obtain ⟨v26, hv26, e97⟩ := hF.get 26 97 (by kernel_rfl) (by kernel_rfl)
        obtain rfl : v26 = _ := hv26 _ (Ok.refl _)
        obtain ⟨v31, hv31, e102⟩ := hF.get 31 102 (by kernel_rfl) (by kernel_rfl)
        obtain rfl : v31 = _ := hv31 _ (Ok.refl _)
        refine wpOp_run (v := .bool true) rfl rfl ?_ (fun _ _ => rfl) (Ok.refl _)
        clear hF
        go_simp
      · intro a' w' hF hR
        obtain ⟨v32, hv32, e103⟩ := hF.get 32 103 (by kernel_rfl) (by kernel_rfl)
        obtain rfl : v32 = _ := hv32 _ (Ok.refl _)
        refine wpOp_run (v := .bool true) rfl rfl ?_ (fun _ _ => rfl) (Ok.refl _)
        clear hF
        go_simp
      intro vs w5 hV hR
      have e33 : vs 33 = .bool true := hV 33 (by decide) _ (Ok.refl _)
      have hok2 := hok.trans ((Ok.refl W).drew.trans hR)
      clear hV HP HM1 HM2 HI2 HI3 KN KM
      simp only [putFrom, e33]
      simp only [Act.put, List.setIfInBounds_toArray, List.set_cons_zero, List.set_cons_succ]
      go_wp2
      go_ret
      exact ⟨rfl, hok2⟩
theorem own : ownKnob Try.prog.godebug = none := by kernel_rfl
theorem laidOut : laidOutB Try.prog = true := by kernel_rfl
set_option maxRecDepth 100000 in
theorem lifted (os : Os) (started : os.Started) (H : Type) (enc : TypeId × Value → H) :
    ReturnsInHanded {} Try.checked os 7 .any (Rows.routeOrdersSpec.pre6 enc Try.prog Try.f7 Rows.routeOrdersRow.domain false) (Rows.routeOrdersSpec.post enc Try.prog Try.f7 false true false false) := by
  refine returnsInHanded_of_change_sized (C := Try.checked) own started (by kernel_rfl) Try.func7
    (ChangeSpec.witness6 (enc := enc) (C := Try.checked) false ⟨#[], #[.agg #[.int .i64 0, .int .i64 0, .int .i64 0, .int .i64 0, .int .i64 0, .int .i64 0, .int .i64 0, .int .i64 0, .int .i64 0, .int .i64 0, .int .i64 0, .int .i64 0], .slice none 0 0], []⟩ 8 (by kernel_rfl) (by kernel_rfl) (by kernel_rfl) (by kernel_rfl)) ?_
  intro W base args ds gs before hval0 hW _ hsz0 _
  have hsz : (DataW.weightsEach Try.prog (Try.f7.params.toList ++ Rows.routeOrdersSpec.plain.varTypes Try.prog) (ds ++ gs)).all (· ≤ reachBytes) = true := hsz0
  have hval : ∀ (j : Nat) t v, Try.f7.params[j]? = some t → args[j]? = some v → Value.okWide Try.prog W .any base t v := hval0
  have hW' := hW
  obtain ⟨p, q, hA, hV, rfl, _, _⟩ := hW
  obtain ⟨rfl, rfl⟩ := trodVars_none hV
  replace hA : DataW.TrodAll enc Try.prog W 0 (fun _ => true) true Try.f7.params.toList args.toList ds p := hA
  rw [Try.params7] at hA hval hsz
  obtain ⟨v0, vs0, d0, ds0, p0, q0, hargs, rfl, rfl, h0, r0⟩ := trodAll_cons hA
  obtain ⟨v1, vs1, d1, ds1, p1, q1, rfl, rfl, rfl, h1, r1⟩ := trodAll_cons r0
  obtain ⟨rfl, rfl, rfl⟩ := trodAll_nil r1
  obtain rfl : args = #[v0, v1] := by cases args; simp_all
  obtain ⟨p0, rfl, wp0⟩ := open_par Try.underlying23 rfl (by kernel_rfl) (by kernel_rfl) (by kernel_rfl) (hval 0 23 v0 rfl rfl) h0
  obtain ⟨A1, l1, c1, rfl, hA1, hl1, hw1⟩ := open_msgs (sized_any hsz (j := 1) (t := 31) rfl rfl) (hval 1 31 v1 rfl rfl) h1
  refine (walk W p0 wp0 A1 l1 c1 hA1 hl1 hw1).mono fun e W' ⟨he, hb⟩ => ?_
  subst he
  exact ⟨_, rfl, law_post hW' laidOut (by rw [Try.params7]; exact params_ok (by kernel_rfl)) rfl (by kernel_rfl) Try.underlying4 rfl rfl rfl hb⟩
theorem over : Rows.routeOrdersRow.holds Try.pinned (OpenSpec.ofChange Rows.routeOrdersSpec) :=
  OpenClaim.holds_of_wide 7 Try.f7 rfl rfl rfl rfl rfl rfl rfl ⟨rfl, rfl, rfl, rfl, rfl⟩ rfl rfl rfl rfl rfl (by kernel_rfl) Try.func7 (by kernel_rfl)
    (of_decide_eq_true (by kernel_rfl)) (by unfold Func.isWrapper; first | (rw [if_pos (by decide +kernel)]; kernel_rfl) | (rw [if_neg (by decide +kernel)]; exact ⟨rfl, rfl⟩))
    (fun os started H enc _ => lifted os started H enc)
theorem proved : Rows.RouteOrdersSaid := over
end Go.Proofs.Ytgkcmiaagbgajaa.routeOrders
