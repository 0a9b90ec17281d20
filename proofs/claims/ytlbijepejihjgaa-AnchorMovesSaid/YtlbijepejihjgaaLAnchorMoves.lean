/- AnchorMoves: for all numbers of a fabric, every slice of spans and every number of ticks the law answers true: what is told later by the same ticks is fused to what is later by these. No condition. -/
import Derived.Test.YtlbijepejihjgaaC16c
import Derived.Test.YtlbijepejihjgaaW16
import Derived.Test.YtlbijepejihjgaaW18
namespace Go.Proofs.Ytlbijepejihjgaa.anchorMoves
open Go.ChangeShapes Go.WideShapes Go.ChangeAt Go.RowKit
set_option linter.unusedVariables false
set_option maxRecDepth 100000
/-- A span later by d. -/
def later (d : Int) (s : Int × Int) : Int × Int := (s.1 + d, s.2 + d)
def Mild (s : Int × Int) : Prop := (-288230376151711744 ≤ s.1 ∧ s.1 ≤ 288230376151711744) ∧ -288230376151711744 ≤ s.2 ∧ s.2 ≤ 288230376151711744
theorem pick_later {k : Nat} {l : List Int} {v : Int} (d : Int) (h : Trim.Pick k l v) : Trim.Pick k (l.map (· + d)) (v + d) := by
  refine ⟨List.mem_map.2 ⟨v, h.1, rfl⟩, ?_, ?_⟩
  · unfold Trim.lt
    rw [List.countP_map]
    refine Nat.le_trans (Trim.countP_mono fun y _ hy => ?_) h.2.1
    simp at *; omega
  · unfold Trim.le
    rw [List.countP_map]
    refine Nat.lt_of_lt_of_le h.2.2 (Trim.countP_mono fun y _ hy => ?_)
    simp at *; omega
theorem val_later {k : Int} {l : List Int} (d : Int) (h : 0 ≤ k ∧ k < l.length) : Trim.val k (l.map (· + d)) = Trim.val k l + d :=
  Trim.val_of_pick (by rw [List.length_map]; exact h) (pick_later d (Trim.val_pick h))
theorem lo_later {f : Int} {l : List (Int × Int)} (d : Int) (h : 0 ≤ f ∧ f < l.length) : fLo f (l.map (later d)) = fLo f l + d := by
  unfold fLo
  rw [List.length_map, List.map_map, show ((·.1) ∘ later d : Int × Int → Int) = (· + d) ∘ (·.1) from rfl, ← List.map_map]
  exact val_later d (by rw [List.length_map]; omega)
theorem hi_later {f : Int} {l : List (Int × Int)} (d : Int) (h : 0 ≤ f ∧ f < l.length) : fHi f (l.map (later d)) = fHi f l + d := by
  unfold fHi
  rw [List.map_map, show ((·.2) ∘ later d : Int × Int → Int) = (· + d) ∘ (·.2) from rfl, ← List.map_map]
  exact val_later d (by rw [List.length_map]; omega)
theorem many_in {f : Int} {n : Nat} (h : Trim.many f n = true) : 0 ≤ f ∧ f < n := by
  have := of_decide_eq_true h
  omega
theorem left_later (f : Int) (l : List (Int × Int)) (d : Int) : fLeft f (l.map (later d)) = fLeft f l := by
  unfold fLeft
  rw [List.length_map]
  cases hm : Trim.many f l.length
  · rfl
  · rw [lo_later d (many_in hm), hi_later d (many_in hm)]
    congr 2
    exact decide_eq_decide.2 (by omega)
theorem fused_later {f : Int} {l : List (Int × Int)} {d : Int} (hd : -288230376151711744 ≤ d ∧ d ≤ 288230376151711744) (hl : ∀ s ∈ l, Mild s) (h : fLeft f l = true) :
    (fz f (l.map (later d))).1 = (fz f l).1 + d ∧ (fz f (l.map (later d))).2 = (fz f l).2 + d ∧ Mild (fz f l) := by
  have hm : Trim.many f l.length = true := by
    unfold fLeft at h
    cases e : Trim.many f l.length
    · rw [e] at h; cases h
    · rfl
  have hk := many_in hm
  have h2 : fLeft f (l.map (later d)) = true := by rw [left_later]; exact h
  have m1 : fLo f l ∈ l.map (·.1) := Trim.val_mem (by rw [List.length_map]; omega)
  have m2 : fHi f l ∈ l.map (·.2) := Trim.val_mem (by rw [List.length_map]; omega)
  obtain ⟨s, hs, e1⟩ := List.mem_map.1 m1
  obtain ⟨t, ht, e2⟩ := List.mem_map.1 m2
  have b1 := (hl s hs).1
  have b2 := (hl t ht).2
  rw [e1] at b1
  rw [e2] at b2
  have z1 : fz f l = (fLo f l, fHi f l) := by
    unfold fz
    rw [if_pos h, Sat.clip_in (by omega) (by omega), Sat.clip_in (by omega) (by omega)]
  have z2 : fz f (l.map (later d)) = (fLo f l + d, fHi f l + d) := by
    unfold fz
    rw [if_pos h2, lo_later d hk, hi_later d hk, Sat.clip_in (by omega) (by omega), Sat.clip_in (by omega) (by omega)]
  rw [z1, z2]
  exact ⟨rfl, rfl, b1, b2⟩
theorem later_snoc (d : Int) {l : List (Int × Int)} {k : Nat} (h : k < l.length) : (l.take (k + 1)).map (later d) = (l.take k).map (later d) ++ [(l[k].1 + d, l[k].2 + d)] := by
  rw [take_more h, List.map_append]; rfl
/-- What is moved so far. -/
def Moved (W : World) (B : Nat) (v : Value) (xs : List (Int × Int)) : Prop := W.ownsRow B 28 2 v xs.length (cellsOfPairs xs)
theorem spanInfo : (Try.prog.info? 28).map (fun i => (i.zero, i.size, i.bytes)) = some (some (.agg #[.int .i64 0, .int .i64 0]), 2, 16) := by kernel_rfl
set_option maxHeartbeats 3200000 in
theorem walk (w : World) (p : Par) (wp : ParWf p) (A : Option Addr) (l : List (Int × Int)) (c : Nat) (hA : PairsAt w A l) (hl : l.length ≤ 9223372036854775807) (hw : ∀ s ∈ l, (Lit.int .i64 s.1).wf = true ∧ (Lit.int .i64 s.2).wf = true) (d : Int) (wd : (Lit.int .i64 d).wf = true) :
    Calls Try.prog 6 #[parV p, .slice A l.length c, .int .i64 d] w fun e w' => e = .returned (.bool true) ∧ Below w.heap.size w w' := by
  show Calls Try.prog 6 #[parV p, .slice A l.length c, .int .i64 d] w fun e w' => e = .returned (.bool true) ∧ Ok w w'
  have hf := wf_bd wp.2.1
  clear hw wd wp
  have hok := (Ok.refl w).alloc (.cells (parCells p) 23)
  have hP := Own.new w (parCells p) 23 rfl
  replace hA := hA.below hok
  by_cases hbig : (256 < l.length ∨ 288230376151711744 < d) ∨ d < -288230376151711744
  · clear hf
    go_enter Try.func6, Try.ntmps6
    go_wp2_with (go_at_call 7; refine (law16Alive _).mono ?_; rintro e w1 ⟨rfl, hb1⟩; replace hok := hok.trans hb1; clear hb1)
    all_goals first
      | (exfalso; omega)
      | (go_ret; exact ⟨rfl, hok⟩)
  · have h1 : l.length ≤ 256 := by omega
    have h2 : d ≤ 288230376151711744 := by omega
    have h3 : -288230376151711744 ≤ d := by omega
    clear hbig hl
    have KA := Lib.hid fun w h => anchorFuse p A l c w h (by omega) hf
    have KB := Lib.hid fun A2 c2 w h => anchorFuse p A2 (l.map (later d)) c2 w h (by rw [List.length_map]; omega) hf
    have HL := Lib.hid (left_later p.f l d)
    have HF := Lib.hid fun h k => fused_later (f := p.f) (l := l) (d := d) ⟨h3, h2⟩ h k
    clear hf
    go_enter Try.func6, Try.ntmps6
    go_upto_region 1 with fail
    generalize w.alloc (.cells (parCells p) 23) = W at hP hok hA ⊢
    obtain ⟨g, hg⟩ : ∃ r, w.heap.size = r := ⟨_, rfl⟩
    rw [hg] at hP ⊢
    clear hg
    go_wp2_with (go_at_call 7; refine (law16Alive _).mono ?_; rintro e w0 ⟨rfl, hb1⟩; replace hP := hP.next hb1; replace hA := hA.below hb1; replace hok := hok.trans hb1; clear hb1)
    go_loopw [7, 29] (fun v i wr => ∃ k : Nat, k ≤ l.length ∧ i = .int .i64 k ∧ Moved wr w0.heap.size v ((l.take k).map (later d)) ∧ Ok w0 wr ∧ ∀ s ∈ l.take k, Mild s) (fun _ i _ => l.length - (intOf i).toNat)
    case atStart => exact ⟨0, Nat.zero_le _, rfl, World.ownsRow_nil _ _ _ _, Ok.refl _, fun s hs => by simp at hs⟩
    case round =>
      obtain ⟨k, hk, rfl, hM, hok2, hmild⟩ := hrel
      by_cases hlt : k < l.length
      · obtain ⟨b, off, hA2, hb, p0, p1⟩ := hA.below hok2 k hlt
        subst hA2
        have HS := Lib.hid (later_snoc d hlt)
        have HN := Lib.hid (show Mild l[k] → ∀ s ∈ l.take (k + 1), Mild s from fun h s hs => by
          rw [take_more hlt] at hs
          rcases List.mem_append.1 hs with h' | h'
          · exact hmild s h'
          · rw [List.mem_singleton.1 h']; exact h)
        have HX := Lib.hid (show Mild l[k] ↔ (-288230376151711744 ≤ l[k].1 ∧ l[k].1 ≤ 288230376151711744) ∧ -288230376151711744 ≤ l[k].2 ∧ l[k].2 ≤ 288230376151711744 from Iff.rfl)
        have hlen : ((l.take k).map (later d)).length = k := by simp; omega
        have HLn := Lib.hid hlen
        clear hmild KA KB HL HF hlen
        generalize l[k].1 = x at p0 HS HX
        generalize l[k].2 = y at p1 HS HX
        generalize (l.take k).map (later d) = xs at hM HS HLn
        by_cases hn : ((288230376151711744 < x ∨ x < -288230376151711744) ∨ 288230376151711744 < y) ∨ y < -288230376151711744
        · replace hok := hok.trans hok2
          clear HS HN HX HLn hM
          go_wp2_with fail
          all_goals first
            | (exfalso; omega)
            | (go_ret; exact ⟨rfl, hok.alloc _⟩)
        · have n1 : x ≤ 288230376151711744 := by omega
          have n2 : -288230376151711744 ≤ x := by omega
          have n3 : y ≤ 288230376151711744 := by omega
          have n4 : -288230376151711744 ≤ y := by omega
          clear hn
          replace HN := Lib.hid (HN.out (HX.out.2 ⟨⟨n2, n1⟩, n4, n3⟩))
          have hM2 := Lib.hid hM
          have hrow := fun g hg => (World.ownsRow.lt hM g hg).1
          have HW := Lib.hid hrow
          have hsz := hok2.size
          clear hM hrow HX
          go_wp2_with (at_builtin; refine wpList_append_pairs rfl _ _ 25 rfl w0.heap.size 28 Try.underlying25 spanInfo _ xs xs.length rfl (by first | rfl | simp) (World.ownsRow.alloc (World.ownsRow.alloc hM2.out _) _) (some ⟨wr.heap.size + 1, 0, none⟩) [(x + d, y + d)] 1 1 rfl rfl (pairs_new _ [(x + d, y + d)] _ _ rfl (by simp)) (by rw [HLn.out]; simp; omega) (by simp; omega) ?_; intro v2 w2 hown hgrow)
          have hb1 : Ok w0 w2 := Below.grown ((hok2.alloc _).alloc _) hgrow (by simp; omega) HW.out
          rw [← HS.out] at hown
          go_wp2_with fail
          go_roundw
          case rel => exact ⟨k + 1, by omega, by go_num, hown, hb1, HN.out⟩
          case measure => simp [intOf]; omega
      · have ek : l.take k = l := List.take_of_length_le (by omega)
        rw [ek] at hM hmild
        clear ek
        obtain ⟨A2, c2, rfl, hI⟩ := PairsAt.of_own hM
        clear hM
        rw [List.length_map]
        have KC := Lib.hid (KB.out A2 c2)
        clear KB
        rw [List.length_map, HL.out] at KC
        replace hA := hA.below hok2
        replace hP := hP.next hok2
        replace hok := hok.trans hok2
        clear hok2
        obtain ⟨q, hq⟩ : ∃ q, fLeft p.f l = q := ⟨_, rfl⟩
        rw [hq] at KC KA
        cases q
        · clear HF HL hq
          generalize (fz p.f l).1 = x1 at KA
          generalize (fz p.f l).2 = y1 at KA
          generalize (fz p.f (l.map (later d))).1 = x2 at KC
          generalize (fz p.f (l.map (later d))).2 = y2 at KC
          obtain ⟨c0, c1, c2', c3, c4, c5, c6, c7, c8, c9, c10, c11⟩ := hP.pars
          have hPl := hP.lt
          go_wp2_with (go_at_call 12; first | ((with_reducible refine (KA.out _ hA).mono ?_); rintro e w3 ⟨rfl, hb1⟩; replace hb1 := hb1.alloc (.cells #[.int .i64 x1, .int .i64 y1] 28); replace hP := hP.next hb1; replace hI := hI.below hb1; replace hok := hok.trans hb1; clear hb1 hA c0 c1 c2' c3 c4 c5 c6 c7 c8 c9 c10 c11 hPl; obtain ⟨c0, c1, c2', c3, c4, c5, c6, c7, c8, c9, c10, c11⟩ := hP.pars; have hPl := hP.lt) | ((with_reducible refine (KC.out _ hI).mono ?_); rintro e w4 ⟨rfl, hb1⟩; replace hok := hok.trans hb1; clear hb1))
          go_ret
          exact ⟨rfl, hok.alloc _⟩
        · obtain ⟨e1, e2, ⟨b1, b2⟩, b3, b4⟩ := HF.out hmild hq
          rw [e1, e2] at KC
          clear HF HL hq e1 e2 hmild
          generalize (fz p.f l).1 = x1 at KA KC b1 b2
          generalize (fz p.f l).2 = y1 at KA KC b3 b4
          obtain ⟨c0, c1, c2', c3, c4, c5, c6, c7, c8, c9, c10, c11⟩ := hP.pars
          have hPl := hP.lt
          go_wp2_with (go_at_call 12; first | ((with_reducible refine (KA.out _ hA).mono ?_); rintro e w3 ⟨rfl, hb1⟩; replace hb1 := hb1.alloc (.cells #[.int .i64 x1, .int .i64 y1] 28); have S1 := Own.new w3 #[.int .i64 x1, .int .i64 y1] 28 rfl; replace hP := hP.next hb1; replace hI := hI.below hb1; replace hok := hok.trans hb1; clear hb1 hA c0 c1 c2' c3 c4 c5 c6 c7 c8 c9 c10 c11 hPl; obtain ⟨c0, c1, c2', c3, c4, c5, c6, c7, c8, c9, c10, c11⟩ := hP.pars; have hPl := hP.lt) | ((with_reducible refine (KC.out _ hI).mono ?_); rintro e w4 ⟨rfl, hb1⟩; replace S1 := S1.next hb1; replace hok := hok.trans hb1; clear hb1 c0 c1 c2' c3 c4 c5 c6 c7 c8 c9 c10 c11 hPl; have s0 := S1.cell 0 rfl; have s1 := S1.cell 1 rfl; have hSl := S1.lt))
          go_ret
          exact ⟨rfl, hok.alloc _⟩
theorem own : ownKnob Try.prog.godebug = none := by kernel_rfl
theorem laidOut : laidOutB Try.prog = true := by kernel_rfl
set_option maxRecDepth 100000 in
theorem lifted (os : Os) (started : os.Started) (H : Type) (enc : TypeId × Value → H) :
    ReturnsInHanded {} Try.checked os 6 .any (Rows.anchorMovesSpec.pre6 enc Try.prog Try.f6 Rows.anchorMovesRow.domain false) (Rows.anchorMovesSpec.post enc Try.prog Try.f6 false true false false) := by
  refine returnsInHanded_of_change (C := Try.checked) own started (by kernel_rfl) Try.func6
    (ChangeSpec.witness6 (enc := enc) (C := Try.checked) false ⟨#[], #[.agg #[.int .i64 0, .int .i64 0, .int .i64 0, .int .i64 0, .int .i64 0, .int .i64 0, .int .i64 0, .int .i64 0, .int .i64 0, .int .i64 0, .int .i64 0, .int .i64 0], .slice none 0 0, .int .i64 0], []⟩ 8 (by kernel_rfl) (by kernel_rfl) (by kernel_rfl) (by kernel_rfl)) ?_
  intro W base args ds gs before hval0 hW _ _
  have hval : ∀ (j : Nat) t v, Try.f6.params[j]? = some t → args[j]? = some v → Value.okWide Try.prog W .any base t v := hval0
  have hW' := hW
  obtain ⟨p, q, hA, hV, rfl, _, _⟩ := hW
  obtain ⟨rfl, rfl⟩ := trodVars_none hV
  replace hA : DataW.TrodAll enc Try.prog W 0 (fun _ => true) true Try.f6.params.toList args.toList ds p := hA
  rw [Try.params6] at hA hval
  obtain ⟨v0, vs0, d0, ds0, p0, q0, hargs, rfl, rfl, h0, r0⟩ := trodAll_cons hA
  obtain ⟨v1, vs1, d1, ds1, p1, q1, rfl, rfl, rfl, h1, r1⟩ := trodAll_cons r0
  obtain ⟨v2, vs2, d2, ds2, p2, q2, rfl, rfl, rfl, h2, r2⟩ := trodAll_cons r1
  obtain ⟨rfl, rfl, rfl⟩ := trodAll_nil r2
  obtain rfl : args = #[v0, v1, v2] := by cases args; simp_all
  obtain ⟨p0, rfl, wp0⟩ := open_par Try.underlying23 rfl (by kernel_rfl) (by kernel_rfl) (by kernel_rfl) (hval 0 23 v0 rfl rfl) h0
  obtain ⟨A1, l1, c1, rfl, hA1, hl1, hw1⟩ := open_slice_pairs Try.underlying25 Try.underlying28 (by kernel_rfl) (by kernel_rfl) (by kernel_rfl) (by kernel_rfl) (hval 1 25 v1 rfl rfl) h1
  obtain ⟨a2, rfl, rfl, rfl, w2⟩ := open_int Try.underlying3 (hval 2 3 v2 rfl rfl) h2
  refine (walk W p0 wp0 A1 l1 c1 hA1 hl1 hw1 a2 w2).mono fun e W' ⟨he, hb⟩ => ?_
  subst he
  exact ⟨_, rfl, law_post hW' laidOut (by rw [Try.params6]; exact params_ok (by kernel_rfl)) rfl (by kernel_rfl) Try.underlying4 rfl rfl rfl hb⟩
theorem over : Rows.anchorMovesRow.holds Try.pinned (OpenSpec.ofChange Rows.anchorMovesSpec) :=
  OpenClaim.holds_of_wide 6 Try.f6 rfl rfl rfl rfl rfl rfl rfl ⟨rfl, rfl, rfl, rfl, rfl⟩ rfl rfl rfl rfl rfl (by kernel_rfl) Try.func6 (by kernel_rfl)
    (of_decide_eq_true (by kernel_rfl)) (by unfold Func.isWrapper; first | (rw [if_pos (by decide +kernel)]; kernel_rfl) | (rw [if_neg (by decide +kernel)]; exact ⟨rfl, rfl⟩))
    (fun os started H enc _ => lifted os started H enc)
theorem proved : Rows.AnchorMovesSaid := over
end Go.Proofs.Ytlbijepejihjgaa.anchorMoves
