/- SpanOrders: for every slice of spans the law answers true: Meet and Hull don't hang on the order, nor on one that stands twice; Meet is within each. No condition. -/
import Derived.Test.YtpbgfjfodojlaaaC03c
import Derived.Test.YtpbgfjfodojlaaaC03d
import Derived.Deep.RegionHeld3
import Derived.Deep.DrawnRows
namespace Go.Proofs.Ytpbgfjfodojlaaa.spanOrders
open Go.ChangeShapes Go.WideShapes Go.ChangeAt Go.RowKit
set_option linter.unusedVariables false
set_option maxRecDepth 100000
attribute [local go_sem ↓] Go.wp_at_zero Go.wp_at_succ

/-- The list turned, each twice. -/
def twice (l : List (Int × Int)) : List (Int × Int) := l.flatMap fun s => [s, s]
theorem twice_snoc (l : List (Int × Int)) (s : Int × Int) : twice (l ++ [s]) = twice l ++ [s, s] := by simp [twice]
theorem twice_len (l : List (Int × Int)) : (twice l).length = 2 * l.length := by
  induction l with
  | nil => rfl
  | cons s l ih => show (s :: s :: twice l).length = _; simp [ih]; omega
theorem twice_mem (l : List (Int × Int)) (s : Int × Int) : s ∈ twice l ↔ s ∈ l := by simp [twice]
theorem cells_append (l k : List (Int × Int)) : cellsOfPairs (l ++ k) = cellsOfPairs l ++ cellsOfPairs k := by simp [cellsOfPairs]
def Near (s : Int × Int) : Prop := (-2305843009213693952 ≤ s.1 ∧ s.1 ≤ 2305843009213693952) ∧ (-2305843009213693952 ≤ s.2 ∧ s.2 ≤ 2305843009213693952)
theorem rev_at (l : List (Int × Int)) (j : Nat) (h : j < l.length) : l.reverse.take (j + 1) = l.reverse.take j ++ [l[l.length - 1 - j]] := by
  rw [take_more (by simpa using h), List.getElem_reverse]
/-- Spans that are one's own row. -/
def Row2 (w : World) (B : Nat) (v : Value) (l : List (Int × Int)) : Prop := w.ownsRow B 23 2 v l.length (cellsOfPairs l)
/-- What the region of the two turned calls keeps: the two spans, the turned list. -/
def St (g : Nat) (w : World) (a1 a2 a3 a4 : Int) (A : Option Addr) (t : List (Int × Int)) (w' : World) : Prop :=
  w'.cell? ⟨g, 0, none⟩ = some (.int .i64 a1) ∧ w'.cell? ⟨g, 1, none⟩ = some (.int .i64 a2) ∧ w'.cell? ⟨g + 1, 0, none⟩ = some (.int .i64 a3) ∧ w'.cell? ⟨g + 1, 1, none⟩ = some (.int .i64 a4) ∧ g + 1 < w'.heap.size ∧ PairsAt w' A t ∧ Ok w w'
theorem St.pairs {g : Nat} {w w' : World} {a1 a2 a3 a4 : Int} {A : Option Addr} {t : List (Int × Int)} (h : St g w a1 a2 a3 a4 A t w') : PairsAt w' A t := h.2.2.2.2.2.1
theorem St.next {g : Nat} {w w' w1 : World} {a1 a2 a3 a4 : Int} {A : Option Addr} {t : List (Int × Int)} (k : Ok w' w1) (h : St g w a1 a2 a3 a4 A t w') : St g w a1 a2 a3 a4 A t w1 := by
  obtain ⟨c0, c1, c2, c3, hs, hp, ho⟩ := h
  exact ⟨(k.cell (p := ⟨g, 0, none⟩) (by show g < _; omega)).trans c0, (k.cell (p := ⟨g, 1, none⟩) (by show g < _; omega)).trans c1, (k.cell (p := ⟨g + 1, 0, none⟩) hs).trans c2, (k.cell (p := ⟨g + 1, 1, none⟩) hs).trans c3, Nat.lt_of_lt_of_le hs k.size, hp.below k, ho.trans k⟩
theorem St.drew {g : Nat} {w w' : World} {a1 a2 a3 a4 : Int} {A : Option Addr} {t : List (Int × Int)} (h : St g w a1 a2 a3 a4 A t w') : St g w a1 a2 a3 a4 A t w'.drew := h.next (Ok.refl w').drew
theorem St.start {g : Nat} {w w' : World} {a1 a2 a3 a4 : Int} {A : Option Addr} {t : List (Int × Int)} (T : TypeId) (hg : w'.heap.size = g) (hp : PairsAt w' A t) (ho : Ok w w') :
    St g w a1 a2 a3 a4 A t ((w'.alloc (.cells #[.int .i64 a1, .int .i64 a2] T)).alloc (.cells #[.int .i64 a3, .int .i64 a4] T)) := by
  subst hg
  have h1 := (Slab.new w' a1 a2 T rfl).alloc (.cells #[.int .i64 a3, .int .i64 a4] T)
  have h2 := Slab.new (w'.alloc (.cells #[.int .i64 a1, .int .i64 a2] T)) a3 a4 T (g := w'.heap.size + 1) (by simp)
  exact ⟨h1.c0, h1.c1, h2.c0, h2.c1, h2.lt, (hp.alloc _).alloc _, (ho.alloc _).alloc _⟩
theorem infoSpan : (Try.prog.info? 23).map (fun i => (i.zero, i.size, i.bytes)) = some (some (.agg #[.int .i64 0, .int .i64 0]), 2, 16) := by kernel_rfl
theorem within {l : List (Int × Int)} (h : ∀ s ∈ l, Near s) : ∀ s ∈ l, s.1 ≤ Sat.clip (Span.mLo l) ∧ Sat.clip (Span.mHi l) ≤ s.2 := by
  intro s hs
  have k1 := ((Span.mLo_iff l _).1 (Int.le_refl _)).2 s hs
  have k2 := ((Span.mHi_iff l _).1 (Int.le_refl _)).2 s hs
  have k3 := Sat.clip_mono k1
  have k4 := Sat.clip_mono k2
  obtain ⟨⟨n1, n2⟩, n3, n4⟩ := h s hs
  rw [Sat.clip_in n1 n2] at k3
  rw [Sat.clip_in n3 n4] at k4
  exact ⟨k3, k4⟩
theorem same_twice (l : List (Int × Int)) : Span.mLo (twice l.reverse) = Span.mLo l ∧ Span.mHi (twice l.reverse) = Span.mHi l ∧ Span.hLo (twice l.reverse) = Span.hLo l ∧ Span.hHi (twice l.reverse) = Span.hHi l :=
  Span.same fun s => by rw [twice_mem, List.mem_reverse]
set_option maxHeartbeats 3200000 in
theorem walk (w : World) (A : Option Addr) (l : List (Int × Int)) (c : Nat) (hA : PairsAt w A l) (hl : l.length ≤ 9223372036854775807) (hw : ∀ s ∈ l, (Lit.int .i64 s.1).wf = true ∧ (Lit.int .i64 s.2).wf = true) :
    Calls Try.prog 8 #[.slice A l.length c] w fun e w' => e = .returned (.bool true) ∧ Below w.heap.size w w' := by
  clear hw
  have hok := Ok.refl w
  by_cases hbig : 256 < l.length
  · go_enter Try.func8, Try.ntmps8
    go_wp2_with (go_at_call 21; refine (law3Alive _).mono ?_; rintro e w1 ⟨rfl, hb1⟩; replace hok := hok.trans hb1; clear hb1)
    go_ret
    exact ⟨rfl, hok⟩
  · go_enter Try.func8, Try.ntmps8
    go_wp2_with (go_at_call 21; refine (law3Alive _).mono ?_; rintro e w1 ⟨rfl, hb1⟩; replace hok := hok.trans hb1; clear hb1)
    obtain ⟨i0, hi, hz0, hz1, hz2⟩ := info_parts infoSpan
    have hM := Lib.hid hi
    have hM0 := Lib.hid hz0
    have hM1 := Lib.hid hz1
    have hM2 := Lib.hid hz2
    clear hi hz0 hz1 hz2
    go_loopw [3, 4] (fun v i wr => ∃ r : Nat, r ≤ l.length ∧ i = .int .i64 ((r : Int) - 1) ∧ Row2 wr w.heap.size v (twice (l.reverse.take (l.length - r))) ∧ (∀ s ∈ l.reverse.take (l.length - r), Near s) ∧ Ok w wr) (fun _ i _ => (intOf i + 1).toNat)
    case atStart => exact ⟨l.length, Nat.le_refl _, rfl, by rw [Nat.sub_self]; exact World.ownsRow_nil _ _ _ _, by simp, hok⟩
    case round =>
      obtain ⟨r, hr, rfl, hown, hnear, hok2⟩ := hrel
      clear hok
      have hsz := hok2.size
      cases r with
      | succ r =>
        have ei : (((r + 1 : Nat) : Int) - 1) = (r : Int) := by omega
        rw [ei]
        clear ei
        have hlt : r < l.length := by omega
        obtain ⟨b, off, hA2, hb, p0, p1⟩ := hA.below hok2 r hlt
        subst hA2
        have hl1 : l.length ≤ 256 := by omega
        have et : l.reverse.take (l.length - r) = l.reverse.take (l.length - (r + 1)) ++ [l[r]] := by
          have := rev_at l (l.length - (r + 1)) (by omega)
          rw [show l.length - (r + 1) + 1 = l.length - r by omega] at this
          rw [this]
          congr 3
          omega
        have hlen : (twice (l.reverse.take (l.length - (r + 1)))).length = 2 * (l.length - (r + 1)) := by rw [twice_len]; simp <;> omega
        have hn2 : Near l[r] → ∀ s ∈ l.reverse.take (l.length - r), Near s := by
          intro h s hs
          rw [et] at hs
          rcases List.mem_append.1 hs with h' | h'
          · exact hnear s h'
          · rw [List.mem_singleton.1 h']; exact h
        have N := Lib.hid hn2
        have T := Lib.hid et
        have L := Lib.hid hlen
        clear hnear hn2 et hlen
        by_cases hn : ((2305843009213693952 < l[r].1 ∨ l[r].1 < -2305843009213693952) ∨ 2305843009213693952 < l[r].2) ∨ l[r].2 < -2305843009213693952
        · go_wp2_with fail
          all_goals first
            | (go_ret; exact ⟨rfl, hok2.alloc _⟩)
            | (exfalso; omega)
        · have n1 : l[r].1 ≤ 2305843009213693952 := by omega
          have n2 : -2305843009213693952 ≤ l[r].1 := by omega
          have n3 : l[r].2 ≤ 2305843009213693952 := by omega
          have n4 : -2305843009213693952 ≤ l[r].2 := by omega
          clear hn
          replace N := Lib.hid (N.out ⟨⟨n2, n1⟩, n4, n3⟩)
          go_wp2_with (at_builtin; refine wpList_append_own _ rfl _ _ 31 rfl w.heap.size 23 i0 (.agg #[.int .i64 0, .int .i64 0]) 2 16 Try.underlying31 hM.out hM0.out hM1.out hM2.out rfl (by decide) _ _ _ rfl (World.ownsRow.alloc (World.ownsRow.alloc hown _) _) ⟨wr.heap.size + 1, 0, none⟩ 2 2 [.int .i64 l[r].1, .int .i64 l[r].2, .int .i64 l[r].1, .int .i64 l[r].2] rfl rfl ?c1 ?c2 ?c3 ?c4 ?c5 ?_)
          case c1 =>
            intro j u hj
            match j, hj with
            | 0, hj => simp at hj; subst hj; simp [Addr.add]
            | 1, hj => simp at hj; subst hj; simp [Addr.add]
            | 2, hj => simp at hj; subst hj; simp [Addr.add]
            | 3, hj => simp at hj; subst hj; simp [Addr.add]
          case c2 => intro u hu; simp at hu; rcases hu with rfl | rfl | rfl | rfl <;> rfl
          case c3 => rw [L.out]; unfold maxLen; omega
          case c4 => rw [L.out]; omega
          case c5 => simp; omega
          intro v' w2 hown' hgrow _
          have hb1 : Ok w w2 := Below.grown ((hok2.alloc _).alloc _) hgrow (by simp; omega) (fun g hg => (World.ownsRow.lt hown g hg).1)
          have hown2 : Row2 w2 w.heap.size v' (twice (l.reverse.take (l.length - r))) := by
            unfold Row2
            rw [T.out, twice_snoc, cells_append, List.length_append]
            exact hown'
          clear hown' hgrow hown hok2 hsz
          go_wp2
          go_roundw
          case rel => exact ⟨r, by omega, by go_num, hown2, N.out, hb1⟩
          case measure => simp [intOf]
      | zero =>
        rw [Nat.sub_zero, show l.reverse.take l.length = l.reverse from List.take_of_length_le (by simp)] at hown hnear
        obtain ⟨A2, cap2, hv, hI⟩ := PairsAt.of_own hown
        subst hv
        have hnear' : ∀ s ∈ l, Near s := fun s hs => hnear s (List.mem_reverse.2 hs)
        have W := Lib.hid (within hnear')
        have hl2 : (twice l.reverse).length ≤ 9223372036854775807 := by rw [twice_len, List.length_reverse]; omega
        obtain ⟨s1, s2, s3, s4⟩ := same_twice l
        have KM := Lib.hid fun w h => spanMeet A l c w h hl
        have KH := Lib.hid fun w h => spanHull A l c w h hl
        have TM := Lib.hid fun w h => spanMeet A2 (twice l.reverse) cap2 w h hl2
        have TH := Lib.hid fun w h => spanHull A2 (twice l.reverse) cap2 w h hl2
        rw [s1, s2] at TM
        rw [s3, s4] at TH
        clear s1 s2 s3 s4 hnear hnear' hown hl2
        generalize Sat.clip (Span.mLo l) = a1 at KM TM W
        generalize Sat.clip (Span.mHi l) = a2 at KM TM W
        generalize Sat.clip (Span.hLo l) = a3 at KH TH
        generalize Sat.clip (Span.hHi l) = a4 at KH TH
        obtain ⟨t, ht⟩ : ∃ t, twice l.reverse = t := ⟨_, rfl⟩
        rw [ht] at hI TM TH ⊢
        clear ht
        go_wp2_with fail
        refine (KM.out _ (hA.below hok2)).mono ?_
        rintro e w2 ⟨rfl, hb⟩
        replace hI := hI.below hb
        replace hok2 := hok2.trans hb
        clear hb KM
        go_wp2_with fail
        refine (KH.out _ (hA.below hok2)).mono ?_
        rintro e w3 ⟨rfl, hb⟩
        replace hI := hI.below hb
        replace hok2 := hok2.trans hb
        clear hb KH
        go_wp2_with fail
        obtain ⟨g, hg⟩ : ∃ g, w3.heap.size = g := ⟨_, rfl⟩
        have hB := St.start (a1 := a1) (a2 := a2) (a3 := a3) (a4 := a4) 23 hg hI hok2
        rw [hg]
        generalize (w3.alloc (.cells #[.int .i64 a1, .int .i64 a2] 23)).alloc (.cells #[.int .i64 a3, .int .i64 a4] 23) = w4 at hB ⊢
        have hl3 : l.length ≤ 256 := by omega
        clear hI hok2 hM hM0 hM1 hM2 hsz hr hg hbig
        go_region_held3 (fun w' => w'.cell? ⟨g, 0, none⟩ = some (.int .i64 a1) ∧ w'.cell? ⟨g, 1, none⟩ = some (.int .i64 a2) ∧ w'.cell? ⟨g + 1, 0, none⟩ = some (.int .i64 a3) ∧ w'.cell? ⟨g + 1, 1, none⟩ = some (.int .i64 a4) ∧ g + 1 < w'.heap.size ∧ PairsAt w' A2 t ∧ Ok w w')
          (first | assumption | exact hB.drew | exact St.next (by assumption) hB.drew | exact St.next (by assumption) (by assumption))
          (first
            | (go_at_call 22; refine (TM.out _ ?_).mono ?_; (focus (first | exact St.pairs hB.drew | exact St.pairs (by assumption))); rintro e w5 ⟨rfl, hb2⟩)
            | (go_at_call 24; refine (TH.out _ ?_).mono ?_; (focus (first | exact St.pairs hB.drew | exact St.pairs (by assumption))); rintro e w6 ⟨rfl, hb2⟩))
        rename_i hS
        have hB2 : Box1 g w a1 a2 w6 := ⟨hS.1, hS.2.1, by have := hS.2.2.2.2.1; omega, hS.2.2.2.2.2.2⟩
        clear hS hB hb2 TM TH
        go_wp2_with fail
        go_loopw [65] (fun i wx => ∃ k : Nat, k ≤ l.length ∧ i = .int .i64 k ∧ Box1 g w a1 a2 wx) (fun i _ => l.length - (intOf i).toNat)
        case atStart => exact ⟨0, Nat.zero_le _, rfl, hB2⟩
        case round =>
          obtain ⟨k, hk, rfl, hB3⟩ := hrel
          clear hB2
          obtain ⟨c0, c1, hgl, hok⟩ := hB3
          by_cases hlt : k < l.length
          · obtain ⟨b, off, hA3, hb, p0, p1⟩ := hA.below hok k hlt
            obtain ⟨k1, k2⟩ := W.out l[k] (List.getElem_mem hlt)
            subst hA3
            by_cases he : a2 < a1
            · go_wp2_with (go_at_call 13; refine (spanEmptyT _ _ (by omega) _).mono ?_; rintro e w7 ⟨rfl, hb2⟩; obtain ⟨s0, s1, hs⟩ := (Box.new _ _ _ _ rfl).next hb2; have hM := ((Box.mk c0 c1 hgl).next ((Ok.refl _).alloc _)).next hb2; replace hok := (hok.alloc _).trans hb2; clear hb2 c0 c1 hgl; obtain ⟨c0, c1, hgl⟩ := hM)
              go_roundw
              case rel => exact ⟨k + 1, by omega, by go_num, c0, c1, hgl, hok⟩
              case measure => simp [intOf]; omega
            · go_wp2_with (go_at_call 13; refine (spanEmptyF _ _ (by omega) _).mono ?_; rintro e w7 ⟨rfl, hb2⟩; obtain ⟨s0, s1, hs⟩ := (Box.new _ _ _ _ rfl).next hb2; have hM := ((Box.mk c0 c1 hgl).next ((Ok.refl _).alloc _)).next hb2; replace hok := (hok.alloc _).trans hb2; clear hb2 c0 c1 hgl; obtain ⟨c0, c1, hgl⟩ := hM)
              go_roundw
              case rel => exact ⟨k + 1, by omega, by go_num, c0, c1, hgl, hok⟩
              case measure => simp [intOf]; omega
          · go_wp2_with fail
            go_ret
            exact ⟨rfl, hok⟩
theorem own : ownKnob Try.prog.godebug = none := by kernel_rfl
theorem laidOut : laidOutB Try.prog = true := by kernel_rfl
set_option maxRecDepth 100000 in
theorem lifted (os : Os) (started : os.Started) (H : Type) (enc : TypeId × Value → H) :
    ReturnsInHanded {} Try.checked os 8 .any (Rows.spanOrdersSpec.pre6 enc Try.prog Try.f8 Rows.spanOrdersRow.domain false) (Rows.spanOrdersSpec.post enc Try.prog Try.f8 false true false false) := by
  refine returnsInHanded_of_change (C := Try.checked) own started (by kernel_rfl) Try.func8
    (ChangeSpec.witness6 (enc := enc) (C := Try.checked) false ⟨#[], #[.slice none 0 0], []⟩ 8 (by kernel_rfl) (by kernel_rfl) (by kernel_rfl) (by kernel_rfl)) ?_
  intro W base args ds gs before hval0 hW _ _
  have hval : ∀ (j : Nat) t v, Try.f8.params[j]? = some t → args[j]? = some v → Value.okWide Try.prog W .any base t v := hval0
  have hW' := hW
  obtain ⟨p, q, hA, hV, rfl, _, _⟩ := hW
  obtain ⟨rfl, rfl⟩ := trodVars_none hV
  replace hA : DataW.TrodAll enc Try.prog W 0 (fun _ => true) true Try.f8.params.toList args.toList ds p := hA
  rw [Try.params8] at hA hval
  obtain ⟨v0, vs0, d0, ds0, p0, q0, hargs, rfl, rfl, h0, r0⟩ := trodAll_cons hA
  obtain ⟨rfl, rfl, rfl⟩ := trodAll_nil r0
  obtain rfl : args = #[v0] := by cases args; simp_all
  obtain ⟨A0, l0, c0, rfl, hA0, hl0, hw0⟩ := open_slice_pairs Try.underlying31 Try.underlying23 (by kernel_rfl) (by kernel_rfl) (by kernel_rfl) (by kernel_rfl) (hval 0 31 v0 rfl rfl) h0
  refine (walk W A0 l0 c0 hA0 hl0 hw0).mono fun e W' ⟨he, hb⟩ => ?_
  subst he
  exact ⟨_, rfl, law_post hW' laidOut (by rw [Try.params8]; exact params_ok (by kernel_rfl)) rfl (by kernel_rfl) Try.underlying4 rfl rfl rfl hb⟩
theorem over : Rows.spanOrdersRow.holds Try.pinned (OpenSpec.ofChange Rows.spanOrdersSpec) :=
  OpenClaim.holds_of_wide 8 Try.f8 rfl rfl rfl rfl rfl rfl rfl ⟨rfl, rfl, rfl, rfl, rfl⟩ rfl rfl rfl rfl rfl (by kernel_rfl) Try.func8 (by kernel_rfl)
    (of_decide_eq_true (by kernel_rfl)) (by unfold Func.isWrapper; first | (rw [if_pos (by decide +kernel)]; kernel_rfl) | (rw [if_neg (by decide +kernel)]; exact ⟨rfl, rfl⟩))
    (fun os started H enc _ => lifted os started H enc)
theorem proved : Rows.SpanOrdersSaid := over
end Go.Proofs.Ytpbgfjfodojlaaa.spanOrders
