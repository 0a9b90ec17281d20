/- ProbeNarrows: for every fabric's numbers, every slice of trips and one trip more the law answers true: the best isn't wider than what any of them tells, and one more never makes it wider. No condition. -/
import Derived.Test.YtfhagccelkjflaaC10c
import Derived.Test.YtfhagccelkjflaaW06
import Derived.Test.YtfhagccelkjflaaW18
import Derived.Test.YtfhagccelkjflaaW23
import Derived.Test.YtfhagccelkjflaaW30
namespace Go.Proofs.Ytfhagccelkjflaa.probeNarrows
open Go.ChangeShapes Go.WideShapes Go.ChangeAt Go.RowKit
set_option linter.unusedVariables false
set_option maxRecDepth 100000
attribute [local go_sem ↓] Go.wp_at_zero Go.wp_at_succ
/-- What each operation leaves. -/
def VMNn (T : Nat) (p : Par) (t : Trp) (x y b1 b2 wx wb : Int) (w : World) (v : Value) : Nat → Prop
  | 0 => v = parV p
  | 1 => v = tripV t
  | 2 => v = .bool false
  | 3 => v = .bool false
  | 4 => v = undef
  | 5 => v = undef
  | 6 => v = undef
  | 7 => v = undef
  | 8 => v = undef
  | 9 => v = undef
  | 10 => v = undef
  | 11 => v = undef
  | 12 => v = undef
  | 13 => v = .bool false
  | _ => v = .bool true
/-- It stays so. -/
def VCNn (T : Nat) (p : Par) (t : Trp) (x y b1 b2 wx wb : Int) (i : Nat) (v : Value) (w : World) : Prop := ∀ w', Ok w w' → VMNn T p t x y b1 b2 wx wb w' v i
/-- What each operation leaves. -/
def VMNy (T : Nat) (p : Par) (t : Trp) (x y b1 b2 wx wb : Int) (w : World) (v : Value) : Nat → Prop
  | 0 => v = parV p
  | 1 => v = tripV t
  | 2 => v = .bool true
  | 3 => v = .bool true
  | 4 => v = .bool true
  | 5 => v = .bool false
  | 6 => v = .bool false
  | 7 => v = spanV b1 b2
  | 8 => v = .int .i64 wb
  | 9 => v = spanV x y
  | 10 => v = .int .i64 wx
  | 11 => v = .bool false
  | 12 => v = .bool false
  | 13 => v = .bool false
  | _ => v = .bool true
/-- It stays so. -/
def VCNy (T : Nat) (p : Par) (t : Trp) (x y b1 b2 wx wb : Int) (i : Nat) (v : Value) (w : World) : Prop := ∀ w', Ok w w' → VMNy T p t x y b1 b2 wx wb w' v i
def VM13 (p : Par) (mo : Trp) (l : List Trp) (A : Option Addr) (cap K : Nat) (x y : Int) (isok : Bool) (w : World) (v : Value) : Nat → Prop
  | 0 => v = parV p
  | 1 => ∃ g : Nat, v = .slice (some ⟨g, 0, none⟩) 0 0 ∧ K ≤ g ∧ w.heap[g]? = some (.cells #[] 25 (0, 0))
  | 2 => v = .slice A l.length cap
  | 3 => ∃ A' c', v = .slice A' l.length c' ∧ w.ownsRow K 25 4 (.slice A' l.length c') l.length (l.flatMap tripL) ∧ (l.length = 0 → c' = 0)
  | 4 => v = tripV mo
  | 5 => ∃ g : Nat, v = .slice (some ⟨g, 0, none⟩) 1 1 ∧ Own w g (tripCells mo)
  | 6 => ∃ A' c', v = .slice A' (l.length + 1) c' ∧ CellsAt w A' ((l ++ [mo]).flatMap tripL)
  | 7 => v = .tuple #[spanV x y, .bool isok]
  | 8 => v = .tuple #[spanV x y, .bool isok]
  | 9 => v = spanV x y
  | 10 => v = .bool isok
  | 11 => ∃ g : Nat, v = .pointer (some ⟨g, 0, none⟩) ∧ K ≤ g ∧ w.heap[g]? = some (.cells #[.int .i64 0, .int .i64 0] 28 (0, 0))
  | _ => True
def V13 (p : Par) (mo : Trp) (l : List Trp) (A : Option Addr) (cap K : Nat) (x y : Int) (isok : Bool) (i : Nat) (v : Value) (w : World) : Prop := VM13 p mo l A cap K x y isok w v i
def c13 : Nat → Nat
  | 1 => 3
  | 3 => 6
  | 5 => 6
  | 6 => 7
  | _ => 99
def RK13 (K N : Nat) : Nat → World → World → Prop
  | 6 => Keep K N 25
  | _ => Ok
theorem RK13.keep {K N : Nat} {w w' : World} : ∀ {k : Nat}, RK13 K N k w w' → Keep K N 25 w w' := fun {k} h => by
  unfold RK13 at h
  split at h
  · exact h
  · exact Keep.of_ok h
theorem RK13.ok {K N : Nat} {w w' : World} {k : Nat} (h : RK13 K N k w w') (hk : k ≠ 6) : Ok w w' := by
  unfold RK13 at h
  split at h
  · exact absurd rfl hk
  · exact h
theorem row_ok {w w' : World} {B k n : Nat} {e : TypeId} {v : Value} {xs : List Value} (hR : w.ownsRow B e k v n xs) (h : Ok w w') : w'.ownsRow B e k v n xs := by
  refine ⟨hR.1, ?_⟩
  rcases hR.2 with ⟨e1, e2⟩ | ⟨g, cap, cur, e1, e2, e3, e4⟩
  · exact .inl ⟨e1, e2⟩
  · exact .inr ⟨g, cap, cur, e1, e2, (h.below.block g (Array.getElem?_eq_some_iff.1 e3).1).trans e3, e4⟩
theorem heap_ok {w w' : World} {g : Nat} {x : Obj} (h : Ok w w') (e : w.heap[g]? = some x) : w'.heap[g]? = some x := (h.below.block g (Array.getElem?_eq_some_iff.1 e).1).trans e
theorem V13.stays {p : Par} {mo : Trp} {l : List Trp} {A : Option Addr} {cap K N : Nat} {x y : Int} {isok : Bool} : ∀ (i k : Nat) (v : Value) (w w' : World), i ≠ k → c13 i ≠ k → V13 p mo l A cap K x y isok i v w → RK13 K N k w w' → V13 p mo l A cap K x y isok i v w' := by
  intro i k v w w' hik hck hv hR
  unfold V13 at hv ⊢
  match i, hik, hck, hv with
  | 0, _, _, hv => exact hv
  | 1, _, _, ⟨g, e, h1, h2⟩ => exact ⟨g, e, h1, hR.keep.small h2 (Nat.zero_le _)⟩
  | 2, _, _, hv => exact hv
  | 3, _, hck, ⟨A', c', e, h1, h2⟩ => exact ⟨A', c', e, row_ok h1 (hR.ok (fun h => hck h.symm)), h2⟩
  | 4, _, _, hv => exact hv
  | 5, _, hck, ⟨g, e, h1⟩ => exact ⟨g, e, h1.next (hR.ok (fun h => hck h.symm))⟩
  | 6, hik, _, ⟨A', c', e, h1⟩ => exact ⟨A', c', e, h1.below (hR.ok (fun h => hik h.symm))⟩
  | 7, _, _, hv => exact hv
  | 8, _, _, hv => exact hv
  | 9, _, _, hv => exact hv
  | 10, _, _, hv => exact hv
  | 11, _, _, ⟨g, e, h1, h2⟩ => exact ⟨g, e, h1, hR.keep.other h2 (by decide)⟩
  | _ + 12, _, _, _ => exact trivial
theorem tripInfo : (Try.prog.info? 25).map (fun i => (i.zero, i.size, i.bytes)) = some (some (.agg #[.int .i64 0, .int .i64 0, .int .i64 0, .int .i64 0]), 4, 32) := by kernel_rfl
theorem trip_one (l : List Trp) : ∀ u ∈ l.flatMap tripL, u.oneCell' = true := by
  intro u hu
  obtain ⟨t, _, ht⟩ := List.mem_flatMap.1 hu
  simp only [tripL, List.mem_cons, List.not_mem_nil, or_false] at ht
  rcases ht with rfl | rfl | rfl | rfl <;> rfl
/-- What each operation leaves. -/
def VMU0 (x y b1 b2 wu wb : Int) (w : World) (v : Value) : Nat → Prop
  | 0 => v = .bool false
  | 1 => v = .bool true
  | 2 => v = .bool true
  | 3 => v = undef
  | 4 => v = undef
  | 5 => v = undef
  | 6 => v = undef
  | 7 => v = undef
  | 8 => v = undef
  | 9 => v = undef
  | 10 => v = undef
  | 11 => v = .bool true
  | 12 => v = .bool true
  | _ => v = .bool true
/-- It stays so. -/
def VCU0 (x y b1 b2 wu wb : Int) (i : Nat) (v : Value) (w : World) : Prop := ∀ w', Ok w w' → VMU0 x y b1 b2 wu wb w' v i
/-- What each operation leaves. -/
def VMU1 (x y b1 b2 wu wb : Int) (w : World) (v : Value) : Nat → Prop
  | 0 => v = .bool true
  | 1 => v = .bool false
  | 2 => v = .bool false
  | 3 => v = .bool true
  | 4 => v = .bool true
  | 5 => v = spanV x y
  | 6 => v = .int .i64 wu
  | 7 => v = spanV b1 b2
  | 8 => v = .int .i64 wb
  | 9 => v = .bool true
  | 10 => v = .bool true
  | 11 => v = .bool true
  | 12 => v = .bool true
  | _ => v = .bool true
/-- It stays so. -/
def VCU1 (x y b1 b2 wu wb : Int) (i : Nat) (v : Value) (w : World) : Prop := ∀ w', Ok w w' → VMU1 x y b1 b2 wu wb w' v i
set_option maxHeartbeats 3200000 in
theorem walk (w : World) (p : Par) (wp : ParWf p) (A : Option Addr) (l : List Trp) (cap : Nat) (h : CellsAt w A (l.flatMap tripL)) (hl : l.length ≤ 9223372036854775807) (hw : ∀ t ∈ l, tripok t) (s0 s1 s2 s3 : Int) (ws0 : (Lit.int .i64 s0).wf = true) (ws1 : (Lit.int .i64 s1).wf = true) (ws2 : (Lit.int .i64 s2).wf = true) (ws3 : (Lit.int .i64 s3).wf = true) :
    Calls Try.prog 6 #[parV p, .slice A l.length cap, .agg #[.int .i64 s0, .int .i64 s1, .int .i64 s2, .int .i64 s3]] w fun e w' => e = .returned (.bool true) ∧ Below w.heap.size w w' := by
  clear wp hw ws0 ws1 ws2 ws3
  obtain ⟨mo, hmo⟩ : ∃ t : Trp, t = ⟨s0, s1, s2, s3⟩ := ⟨_, rfl⟩
  show Calls Try.prog _ #[parV p, .slice A l.length cap, tripV ⟨s0, s1, s2, s3⟩] w _
  rw [← hmo]
  clear hmo
  have hP := (Own.new w (parCells p) 23 rfl).alloc (.cells (tripCells mo) 25)
  have hM := Own.new (w.alloc (.cells (parCells p) 23)) (tripCells mo) 25 (g := w.heap.size + 1) (by simp)
  have hok := ((Ok.refl w).alloc (.cells (parCells p) 23)).alloc (.cells (tripCells mo) 25)
  have HP0 := Lib.hid hP
  have HM0 := Lib.hid hM
  have HK0 := Lib.hid hok
  clear hP hM hok
  by_cases hbig : 256 < l.length
  · go_enter Try.func6, Try.ntmps6
    go_wp2_with (go_at_call 7; (with_reducible refine (law10Alive _).mono ?_); rintro e w1 ⟨rfl, hb1⟩; have hok := HK0.out.trans hb1; clear hb1)
    go_ret
    exact ⟨rfl, hok⟩
  have KB := Lib.hid fun W (h : CellsAt W A (l.flatMap tripL)) => probeBest p A l cap W h hl
  have HLE := Lib.hid (Probe.best_le p l)
  have HSN := Lib.hid (Probe.best_snoc p l mo)
  have HSL := Lib.hid (Probe.bstep_le p (Probe.best p l) mo)
  obtain ⟨bs, hbs⟩ : ∃ bs, Probe.best p l = bs := ⟨_, rfl⟩
  rw [hbs] at KB HLE HSN HSL
  clear hbs
  obtain ⟨⟨b1, b2⟩, ok⟩ := bs
  simp only at KB
  have H := Lib.hid h
  clear h
  go_enter Try.func6, Try.ntmps6
  go_wp2_with (first | (go_at_call 7; (with_reducible refine (law10Alive _).mono ?_); rintro e w1 ⟨rfl, hb1⟩; have hP := HP0.out.next hb1; have hM := HM0.out.next hb1; have hok := HK0.out.trans hb1; clear hb1 HP0 HK0 HM0; obtain ⟨c0, c1, c2, c3, c4, c5, c6, c7, c8, c9, c10, c11⟩ := hP.pars) | (go_at_call 12; (with_reducible refine (KB.out _ (H.out.below hok)).mono ?_); rintro e w2 ⟨rfl, hb2⟩; clear c0 c1 c2 c3 c4 c5 c6 c7 c8 c9 c10 c11; replace hP := hP.next hb2; replace hM := hM.next hb2; replace hok := hok.trans hb2; clear hb2))
  clear KB
  have hB := Slab.new w2 b1 b2 28 rfl
  have hBl := hP.lt
  have hMl := hM.lt
  replace hP := hP.alloc (.cells #[.int .i64 b1, .int .i64 b2] 28)
  replace hM := hM.alloc (.cells #[.int .i64 b1, .int .i64 b2] 28)
  replace hok := hok.alloc (.cells #[.int .i64 b1, .int .i64 b2] 28)
  obtain ⟨W0, hW0⟩ : ∃ W, w2.alloc (.cells #[.int .i64 b1, .int .i64 b2] 28) = W := ⟨_, rfl⟩
  rw [hW0] at hP hM hB hok ⊢
  obtain ⟨b, hb⟩ : ∃ b, w2.heap.size = b := ⟨_, rfl⟩
  obtain ⟨M, hMe⟩ : ∃ b, w.heap.size + 1 = b := ⟨_, rfl⟩
  obtain ⟨B, hBe⟩ : ∃ b, w.heap.size = b := ⟨_, rfl⟩
  rw [hb] at hB ⊢
  rw [hMe] at hM ⊢
  rw [hBe] at hP ⊢
  clear hb hBe hW0 hBl hMl hMe
  go_loopw [27] (fun i wr => ∃ k : Nat, k ≤ l.length ∧ i = .int .i64 k ∧ Own wr B (parCells p) ∧ Slab wr b b1 b2 ∧ Own wr M (tripCells mo) ∧ Ok w wr) (fun i _ => l.length - (intOf i).toNat)
  case atStart => exact ⟨0, Nat.zero_le _, rfl, hP, hB, hM, hok⟩
  case round =>
    clear hP hB hM hok
    obtain ⟨k, hk, rfl, hP, hB, hM, hok⟩ := hrel
    by_cases hlt : k < l.length
    · obtain ⟨a, off, hA, ha, t0, t1, t2, t3⟩ := trip_at (H.out.below hok) k hlt
      subst hA
      have hle := HLE.out l[k] (List.getElem_mem hlt)
      obtain ⟨t, ht⟩ : ∃ t, l[k] = t := ⟨_, rfl⟩
      rw [ht] at t0 t1 t2 t3 hle
      have KA := Lib.hid fun w => probeAhead p t w
      have KR := Lib.hid fun w => probeRight p t w
      clear ht HLE HSN HSL
      obtain ⟨x, y, hxy⟩ : ∃ x y, Probe.ah p t = (x, y) := ⟨_, _, rfl⟩
      rw [hxy] at KA KR hle
      clear hxy
      have HLE := Lib.hid hle
      clear hle
      obtain ⟨p0, p1, p2, p3, p4, p5, p6, p7, p8, p9, p10, p11⟩ := hP.pars
      have hPl := hP.lt
      go_upto_region 10 with (go_at_call 9; (with_reducible refine (KA.out _).mono ?_); rintro e w1 ⟨rfl, hb1⟩)
      have hX := Slab.new w1 x y 28 rfl
      have hT := ((Own.new wr (tripCells t) 25 rfl).next hb1).alloc (.cells #[.int .i64 x, .int .i64 y] 28)
      have hoW := (((Ok.refl wr).alloc (.cells (tripCells t) 25)).trans hb1).alloc (.cells #[.int .i64 x, .int .i64 y] 28)
      replace hP := hP.next hoW
      replace hB := hB.next hoW
      replace hM := hM.next hoW
      replace hok := hok.trans hoW
      clear hb1 hoW KA p0 p1 p2 p3 p4 p5 p6 p7 p8 p9 p10 p11 t0 t1 t2 t3
      generalize w1.alloc (.cells #[.int .i64 x, .int .i64 y] 28) = W at hP hB hM hX hT hok ⊢
      obtain ⟨hh, hhe⟩ : ∃ g, w1.heap.size = g := ⟨_, rfl⟩
      rw [hhe] at hX ⊢
      clear hhe
      obtain ⟨T, hTe⟩ : ∃ g, wr.heap.size = g := ⟨_, rfl⟩
      rw [hTe] at hT ⊢
      clear hTe
      have HP := Lib.hid fun W' (k : Ok W.drew W') => hP.drew.next k
      have HB := Lib.hid fun W' (k : Ok W.drew W') => hB.drew.next k
      have HM := Lib.hid fun W' (k : Ok W.drew W') => hM.drew.next k
      have HX := Lib.hid fun W' (k : Ok W.drew W') => hX.drew.next k
      have HT := Lib.hid fun W' (k : Ok W.drew W') => hT.drew.next k
      clear hP hB hM hX hT
      have KW : Hid (∀ w, Calls Try.prog 11 #[spanV x y] w fun e w' => e = .returned (.int .i64 (Probe.wide (x, y))) ∧ Ok w w') := Lib.hid fun w => ref3Wide x y w
      have KV : Hid (∀ w, Calls Try.prog 11 #[spanV b1 b2] w fun e w' => e = .returned (.int .i64 (Probe.wide (b1, b2))) ∧ Ok w w') := Lib.hid fun w => ref3Wide b1 b2 w
      obtain ⟨wx, hwx⟩ : ∃ v, Probe.wide (x, y) = v := ⟨_, rfl⟩
      obtain ⟨wb, hwb⟩ : ∃ v, Probe.wide (b1, b2) = v := ⟨_, rfl⟩
      rw [hwx] at KW HLE
      rw [hwb] at KV HLE
      clear hwx hwb
      by_cases hE : x ≤ y
      rotate_left
      · rw [decide_eq_false hE] at KR
        clear hE HLE
        refine wp_region_facts (by kernel_rfl) 72 rfl (VCNn T p t x y b1 b2 wx wb) Ok (by kernel_rfl) (fun i v w w' h k w'' k' => h w'' (k.trans k')) (fun a b c => Ok.trans) (Ok.refl _) [some 34, some 35, some 36, some 37, some 38, some 39, some 40, some 41, some 42, some 43, some 44, some 45, some 46, some 47] rfl 14 rfl ⟨?_, ?_, ?_, ?_, ?_, ?_, ?_, ?_, ?_, ?_, ?_, ?_, ?_, ?_, trivial⟩ ?_
        · intro a' w' hF hR
          have e3 : a'.tmps[3]? = some (.pointer (some ⟨B, 0, none⟩)) := hF.slot 3 (by kernel_rfl) rfl
          obtain ⟨c0, c1, c2, c3, c4, c5, c6, c7, c8, c9, c10, c11⟩ := (HP.out _ hR).pars
          refine wpOp_run (v := parV p) rfl rfl ?_ (fun _ _ => rfl) (Ok.refl _)
          clear hF
          go_simp
        · intro a' w' hF hR
          have e10 : a'.tmps[10]? = some (.pointer (some ⟨T, 0, none⟩)) := hF.slot 10 (by kernel_rfl) rfl
          have d0 := (HT.out _ hR).cell 0 (v := .int .i64 t.asked) rfl
          have d1 := (HT.out _ hR).cell 1 (v := .int .i64 t.got) rfl
          have d2 := (HT.out _ hR).cell 2 (v := .int .i64 t.said) rfl
          have d3 := (HT.out _ hR).cell 3 (v := .int .i64 t.heard) rfl
          refine wpOp_run (v := tripV t) rfl rfl ?_ (fun _ _ => rfl) (Ok.refl _)
          clear hF
          go_simp
        · intro a' w' hF hR
          obtain ⟨v0, hv0, e34⟩ := hF.get 0 34 (by kernel_rfl) (by kernel_rfl)
          obtain rfl : v0 = _ := hv0 _ (Ok.refl _)
          obtain ⟨v1, hv1, e35⟩ := hF.get 1 35 (by kernel_rfl) (by kernel_rfl)
          obtain rfl : v1 = _ := hv1 _ (Ok.refl _)
          clear hF
          refine wpOp_call (f := 10) (args := #[parV p, tripV t]) rfl rfl ?_ ((KR.out _).mono ?_)
          · go_simp
          · rintro e w2 ⟨rfl, hb2⟩; exact ⟨_, rfl, fun _ _ => rfl, hb2⟩
        · intro a' w' hF hR
          obtain ⟨v2, hv2, e36⟩ := hF.get 2 36 (by kernel_rfl) (by kernel_rfl)
          obtain rfl : v2 = _ := hv2 _ (Ok.refl _)
          refine wpOp_run (v := .bool false) rfl rfl ?_ (fun _ _ => rfl) (Ok.refl _)
          clear hF
          go_simp
        · intro a' w' hF hR
          obtain ⟨vg, hvg, eg⟩ := hF.get 3 37 (by kernel_rfl) (by kernel_rfl)
          obtain rfl : vg = _ := hvg _ (Ok.refl _)
          exact wpOp_skip rfl (wanted_not rfl (by kernel_rfl) eg (by simp)) (fun _ _ => rfl) (Ok.refl _)
        · intro a' w' hF hR
          obtain ⟨vg, hvg, eg⟩ := hF.get 3 37 (by kernel_rfl) (by kernel_rfl)
          obtain rfl : vg = _ := hvg _ (Ok.refl _)
          exact wpOp_skip rfl (wanted_not rfl (by kernel_rfl) eg (by simp)) (fun _ _ => rfl) (Ok.refl _)
        · intro a' w' hF hR
          obtain ⟨vg, hvg, eg⟩ := hF.get 3 37 (by kernel_rfl) (by kernel_rfl)
          obtain rfl : vg = _ := hvg _ (Ok.refl _)
          exact wpOp_skip rfl (wanted_not rfl (by kernel_rfl) eg (by simp)) (fun _ _ => rfl) (Ok.refl _)
        · intro a' w' hF hR
          obtain ⟨vg, hvg, eg⟩ := hF.get 6 40 (by kernel_rfl) (by kernel_rfl)
          obtain rfl : vg = _ := hvg _ (Ok.refl _)
          exact wpOp_skip rfl (wanted_not rfl (by kernel_rfl) eg (by simp [undef])) (fun _ _ => rfl) (Ok.refl _)
        · intro a' w' hF hR
          obtain ⟨vg, hvg, eg⟩ := hF.get 6 40 (by kernel_rfl) (by kernel_rfl)
          obtain rfl : vg = _ := hvg _ (Ok.refl _)
          exact wpOp_skip rfl (wanted_not rfl (by kernel_rfl) eg (by simp [undef])) (fun _ _ => rfl) (Ok.refl _)
        · intro a' w' hF hR
          obtain ⟨vg, hvg, eg⟩ := hF.get 6 40 (by kernel_rfl) (by kernel_rfl)
          obtain rfl : vg = _ := hvg _ (Ok.refl _)
          exact wpOp_skip rfl (wanted_not rfl (by kernel_rfl) eg (by simp [undef])) (fun _ _ => rfl) (Ok.refl _)
        · intro a' w' hF hR
          obtain ⟨vg, hvg, eg⟩ := hF.get 6 40 (by kernel_rfl) (by kernel_rfl)
          obtain rfl : vg = _ := hvg _ (Ok.refl _)
          exact wpOp_skip rfl (wanted_not rfl (by kernel_rfl) eg (by simp [undef])) (fun _ _ => rfl) (Ok.refl _)
        · intro a' w' hF hR
          obtain ⟨vg, hvg, eg⟩ := hF.get 6 40 (by kernel_rfl) (by kernel_rfl)
          obtain rfl : vg = _ := hvg _ (Ok.refl _)
          exact wpOp_skip rfl (wanted_not rfl (by kernel_rfl) eg (by simp [undef])) (fun _ _ => rfl) (Ok.refl _)
        · intro a' w' hF hR
          obtain ⟨vg, hvg, eg⟩ := hF.get 3 37 (by kernel_rfl) (by kernel_rfl)
          obtain rfl : vg = _ := hvg _ (Ok.refl _)
          exact wpOp_skip rfl (wanted_not rfl (by kernel_rfl) eg (by simp)) (fun _ _ => rfl) (Ok.refl _)
        · intro a' w' hF hR
          obtain ⟨v3, hv3, e37⟩ := hF.get 3 37 (by kernel_rfl) (by kernel_rfl)
          obtain rfl : v3 = _ := hv3 _ (Ok.refl _)
          obtain ⟨v12, hv12, e46⟩ := hF.get 12 46 (by kernel_rfl) (by kernel_rfl)
          obtain rfl : v12 = _ := hv12 _ (Ok.refl _)
          refine wpOp_run (v := .bool false) rfl rfl ?_ (fun _ _ => rfl) (Ok.refl _)
          clear hF
          go_simp
        · intro vs w' hV hR
          have e13 : vs 13 = .bool false := hV 13 (by decide) _ (Ok.refl _)
          have hok2 := hok.trans ((Ok.refl W).drew.trans hR)
          have hP2 := HP.out _ hR
          have hM2 := HM.out _ hR
          have hB2 := HB.out _ hR
          clear hV HP HX HB HT HM KW KV KR
          simp only [putFrom, e13]
          simp only [Act.put, List.setIfInBounds_toArray, List.set_cons_zero, List.set_cons_succ]
          clear e13
          go_wp2
          go_roundw
          case rel => exact ⟨k + 1, by omega, by go_num, hP2, hB2, hM2, hok2⟩
          case measure => simp [intOf]; omega
      · rw [decide_eq_true hE] at KR
        obtain ⟨hok1, hle⟩ := HLE.out hE
        change ok = true at hok1
        subst hok1
        have hdw := decide_eq_false (show ¬ wx < wb by omega)
        clear hE HLE hle
        refine wp_region_facts (by kernel_rfl) 72 rfl (VCNy T p t x y b1 b2 wx wb) Ok (by kernel_rfl) (fun i v w w' h k w'' k' => h w'' (k.trans k')) (fun a b c => Ok.trans) (Ok.refl _) [some 34, some 35, some 36, some 37, some 38, some 39, some 40, some 41, some 42, some 43, some 44, some 45, some 46, some 47] rfl 14 rfl ⟨?_, ?_, ?_, ?_, ?_, ?_, ?_, ?_, ?_, ?_, ?_, ?_, ?_, ?_, trivial⟩ ?_
        · intro a' w' hF hR
          have e3 : a'.tmps[3]? = some (.pointer (some ⟨B, 0, none⟩)) := hF.slot 3 (by kernel_rfl) rfl
          obtain ⟨c0, c1, c2, c3, c4, c5, c6, c7, c8, c9, c10, c11⟩ := (HP.out _ hR).pars
          refine wpOp_run (v := parV p) rfl rfl ?_ (fun _ _ => rfl) (Ok.refl _)
          clear hF
          go_simp
        · intro a' w' hF hR
          have e10 : a'.tmps[10]? = some (.pointer (some ⟨T, 0, none⟩)) := hF.slot 10 (by kernel_rfl) rfl
          have d0 := (HT.out _ hR).cell 0 (v := .int .i64 t.asked) rfl
          have d1 := (HT.out _ hR).cell 1 (v := .int .i64 t.got) rfl
          have d2 := (HT.out _ hR).cell 2 (v := .int .i64 t.said) rfl
          have d3 := (HT.out _ hR).cell 3 (v := .int .i64 t.heard) rfl
          refine wpOp_run (v := tripV t) rfl rfl ?_ (fun _ _ => rfl) (Ok.refl _)
          clear hF
          go_simp
        · intro a' w' hF hR
          obtain ⟨v0, hv0, e34⟩ := hF.get 0 34 (by kernel_rfl) (by kernel_rfl)
          obtain rfl : v0 = _ := hv0 _ (Ok.refl _)
          obtain ⟨v1, hv1, e35⟩ := hF.get 1 35 (by kernel_rfl) (by kernel_rfl)
          obtain rfl : v1 = _ := hv1 _ (Ok.refl _)
          clear hF
          refine wpOp_call (f := 10) (args := #[parV p, tripV t]) rfl rfl ?_ ((KR.out _).mono ?_)
          · go_simp
          · rintro e w2 ⟨rfl, hb2⟩; exact ⟨_, rfl, fun _ _ => rfl, hb2⟩
        · intro a' w' hF hR
          obtain ⟨v2, hv2, e36⟩ := hF.get 2 36 (by kernel_rfl) (by kernel_rfl)
          obtain rfl : v2 = _ := hv2 _ (Ok.refl _)
          refine wpOp_run (v := .bool true) rfl rfl ?_ (fun _ _ => rfl) (Ok.refl _)
          clear hF
          go_simp
        · intro a' w' hF hR
          have e8 : a'.tmps[8]? = some (.bool true) := hF.slot 8 (by kernel_rfl) rfl
          obtain ⟨vg, hvg, eg⟩ := hF.get 3 37 (by kernel_rfl) (by kernel_rfl)
          obtain rfl : vg = _ := hvg _ (Ok.refl _)
          refine wpOp_runG (v := .bool true) rfl (wanted_yes rfl (by kernel_rfl) eg) ?_ (fun _ _ => rfl) (Ok.refl _)
          clear hF
          go_simp
        · intro a' w' hF hR
          obtain ⟨v4, hv4, e38⟩ := hF.get 4 38 (by kernel_rfl) (by kernel_rfl)
          obtain rfl : v4 = _ := hv4 _ (Ok.refl _)
          obtain ⟨vg, hvg, eg⟩ := hF.get 3 37 (by kernel_rfl) (by kernel_rfl)
          obtain rfl : vg = _ := hvg _ (Ok.refl _)
          refine wpOp_runG (v := .bool false) rfl (wanted_yes rfl (by kernel_rfl) eg) ?_ (fun _ _ => rfl) (Ok.refl _)
          clear hF
          go_simp
        · intro a' w' hF hR
          obtain ⟨v5, hv5, e39⟩ := hF.get 5 39 (by kernel_rfl) (by kernel_rfl)
          obtain rfl : v5 = _ := hv5 _ (Ok.refl _)
          obtain ⟨vg, hvg, eg⟩ := hF.get 3 37 (by kernel_rfl) (by kernel_rfl)
          obtain rfl : vg = _ := hvg _ (Ok.refl _)
          refine wpOp_runG (v := .bool false) rfl (wanted_yes rfl (by kernel_rfl) eg) ?_ (fun _ _ => rfl) (Ok.refl _)
          clear hF
          go_simp
        · intro a' w' hF hR
          have e7 : a'.tmps[7]? = some (.pointer (some ⟨b, 0, none⟩)) := hF.slot 7 (by kernel_rfl) rfl
          obtain ⟨vg, hvg, eg⟩ := hF.get 6 40 (by kernel_rfl) (by kernel_rfl)
          obtain rfl : vg = _ := hvg _ (Ok.refl _)
          have e0 := (HB.out _ hR).c0
          have e1 := (HB.out _ hR).c1
          refine wpOp_runG (v := spanV b1 b2) rfl (wanted_yes rfl (by kernel_rfl) eg) ?_ (fun _ _ => rfl) (Ok.refl _)
          clear hF
          go_simp
        · intro a' w' hF hR
          obtain ⟨v7, hv7, e41⟩ := hF.get 7 41 (by kernel_rfl) (by kernel_rfl)
          obtain rfl : v7 = _ := hv7 _ (Ok.refl _)
          obtain ⟨vg, hvg, eg⟩ := hF.get 6 40 (by kernel_rfl) (by kernel_rfl)
          obtain rfl : vg = _ := hvg _ (Ok.refl _)
          refine wpOp_callG (f := 11) (args := #[spanV b1 b2]) rfl (wanted_yes rfl (by kernel_rfl) eg) ?_ ((KV.out _).mono ?_)
          · go_simp
          · rintro e w2 ⟨rfl, hb2⟩; exact ⟨_, rfl, fun _ _ => rfl, hb2⟩
        · intro a' w' hF hR
          have e11 : a'.tmps[11]? = some (.pointer (some ⟨hh, 0, none⟩)) := hF.slot 11 (by kernel_rfl) rfl
          obtain ⟨vg, hvg, eg⟩ := hF.get 6 40 (by kernel_rfl) (by kernel_rfl)
          obtain rfl : vg = _ := hvg _ (Ok.refl _)
          have e0 := (HX.out _ hR).c0
          have e1 := (HX.out _ hR).c1
          refine wpOp_runG (v := spanV x y) rfl (wanted_yes rfl (by kernel_rfl) eg) ?_ (fun _ _ => rfl) (Ok.refl _)
          clear hF
          go_simp
        · intro a' w' hF hR
          obtain ⟨v9, hv9, e43⟩ := hF.get 9 43 (by kernel_rfl) (by kernel_rfl)
          obtain rfl : v9 = _ := hv9 _ (Ok.refl _)
          obtain ⟨vg, hvg, eg⟩ := hF.get 6 40 (by kernel_rfl) (by kernel_rfl)
          obtain rfl : vg = _ := hvg _ (Ok.refl _)
          refine wpOp_callG (f := 11) (args := #[spanV x y]) rfl (wanted_yes rfl (by kernel_rfl) eg) ?_ ((KW.out _).mono ?_)
          · go_simp
          · rintro e w2 ⟨rfl, hb2⟩; exact ⟨_, rfl, fun _ _ => rfl, hb2⟩
        · intro a' w' hF hR
          obtain ⟨v8, hv8, e42⟩ := hF.get 8 42 (by kernel_rfl) (by kernel_rfl)
          obtain rfl : v8 = _ := hv8 _ (Ok.refl _)
          obtain ⟨v10, hv10, e44⟩ := hF.get 10 44 (by kernel_rfl) (by kernel_rfl)
          obtain rfl : v10 = _ := hv10 _ (Ok.refl _)
          obtain ⟨vg, hvg, eg⟩ := hF.get 6 40 (by kernel_rfl) (by kernel_rfl)
          obtain rfl : vg = _ := hvg _ (Ok.refl _)
          refine wpOp_runG (v := .bool false) rfl (wanted_yes rfl (by kernel_rfl) eg) ?_ (fun _ _ => rfl) (Ok.refl _)
          clear hF
          go_simp
        · intro a' w' hF hR
          obtain ⟨v6, hv6, e40⟩ := hF.get 6 40 (by kernel_rfl) (by kernel_rfl)
          obtain rfl : v6 = _ := hv6 _ (Ok.refl _)
          obtain ⟨v11, hv11, e45⟩ := hF.get 11 45 (by kernel_rfl) (by kernel_rfl)
          obtain rfl : v11 = _ := hv11 _ (Ok.refl _)
          obtain ⟨vg, hvg, eg⟩ := hF.get 3 37 (by kernel_rfl) (by kernel_rfl)
          obtain rfl : vg = _ := hvg _ (Ok.refl _)
          refine wpOp_runG (v := .bool false) rfl (wanted_yes rfl (by kernel_rfl) eg) ?_ (fun _ _ => rfl) (Ok.refl _)
          clear hF
          go_simp
        · intro a' w' hF hR
          obtain ⟨v3, hv3, e37⟩ := hF.get 3 37 (by kernel_rfl) (by kernel_rfl)
          obtain rfl : v3 = _ := hv3 _ (Ok.refl _)
          obtain ⟨v12, hv12, e46⟩ := hF.get 12 46 (by kernel_rfl) (by kernel_rfl)
          obtain rfl : v12 = _ := hv12 _ (Ok.refl _)
          refine wpOp_run (v := .bool false) rfl rfl ?_ (fun _ _ => rfl) (Ok.refl _)
          clear hF
          go_simp
        · intro vs w' hV hR
          have e13 : vs 13 = .bool false := hV 13 (by decide) _ (Ok.refl _)
          have hok2 := hok.trans ((Ok.refl W).drew.trans hR)
          have hP2 := HP.out _ hR
          have hM2 := HM.out _ hR
          have hB2 := HB.out _ hR
          clear hV HP HX HB HT HM KW KV KR
          simp only [putFrom, e13]
          simp only [Act.put, List.setIfInBounds_toArray, List.set_cons_zero, List.set_cons_succ]
          clear e13
          go_wp2
          go_roundw
          case rel => exact ⟨k + 1, by omega, by go_num, hP2, hB2, hM2, hok2⟩
          case measure => simp [intOf]; omega
    · clear HLE
      obtain rfl : k = l.length := by omega
      have HP0 := hP.lt
      have hBK : B < wr.heap.size := hP.lt
      have hMK : M < wr.heap.size := hM.lt
      have hbK : b < wr.heap.size := hB.lt
      have KB0 : ∀ A' c' W (h : CellsAt W A' ((l ++ [mo]).flatMap tripL)), Calls Try.prog 12 #[parV p, .slice A' (l.length + 1) c'] W fun e w' => e = .returned (.tuple #[spanV (Probe.best p (l ++ [mo])).1.1 (Probe.best p (l ++ [mo])).1.2, .bool (Probe.best p (l ++ [mo])).2]) ∧ Ok W w' := fun A' c' W h => by
        have := probeBest p A' (l ++ [mo]) c' W h (by rw [List.length_append]; show l.length + 1 ≤ _; omega)
        rwa [List.length_append] at this
      rw [HSN.out] at KB0
      obtain ⟨⟨⟨x, y⟩, isok⟩, hbs⟩ : ∃ bs, Probe.bstep p ((b1, b2), ok) mo = bs := ⟨_, rfl⟩
      have hsl := HSL.out
      rw [hbs] at KB0 hsl
      have KB := Lib.hid KB0
      clear hbs KB0 HSN HSL
      have KU : Hid (∀ w, Calls Try.prog 11 #[spanV x y] w fun e w' => e = .returned (.int .i64 (Probe.wide (x, y))) ∧ Ok w w') := Lib.hid fun w => ref3Wide x y w
      have KV : Hid (∀ w, Calls Try.prog 11 #[spanV b1 b2] w fun e w' => e = .returned (.int .i64 (Probe.wide (b1, b2))) ∧ Ok w w') := Lib.hid fun w => ref3Wide b1 b2 w
      simp only at hsl
      obtain ⟨wu, hwu⟩ : ∃ v, Probe.wide (x, y) = v := ⟨_, rfl⟩
      obtain ⟨wb, hwb⟩ : ∃ v, Probe.wide (b1, b2) = v := ⟨_, rfl⟩
      rw [hwu] at KU hsl
      rw [hwb] at KV hsl
      clear hwu hwb
      have HIS := Lib.hid fun h => (hsl h).1
      have HLE := Lib.hid fun h => (hsl h).2
      clear hsl
      obtain ⟨N, hN1, hN⟩ : ∃ N, l.length * 4 ≤ N ∧ (N ≤ l.length * 4 ∨ l.length = 0) := ⟨l.length * 4, Nat.le_refl _, .inl (Nat.le_refl _)⟩
      clear hN1 hlt hk HP0
      go_upto_region 13 with fail
      refine wp_region_facts_uses (by kernel_rfl) 72 rfl (V13 p mo l A cap wr.heap.size x y isok) c13 (RK13 wr.heap.size N) (Keep wr.heap.size N 25) 12 10 rfl (by decide) _ _ rfl rfl (by kernel_rfl) (by kernel_rfl) _ _ rfl rfl rfl (by kernel_rfl) (by kernel_rfl) V13.stays (fun a b c k h1 h2 => h1.trans h2.keep) (Keep.refl _) [some 50, some 51, some 52, some 53, some 54, some 55, some 56, some 57, some 49, some 58, some 59, some 12] [some 50, some 51, some 52, some 53, some 54, some 55, some 56, some 57, some 49, some 58, none, some 12] rfl rfl ⟨?_, ?_, ?_, ?_, ?_, ?_, ?_, ?_, ?_, ?_, ?_, ?_, trivial⟩ ?_ ?_
      · intro a' w' hF hR
        have e3 : a'.tmps[3]? = some (.pointer (some ⟨B, 0, none⟩)) := hF.slot 3 (by kernel_rfl) rfl
        obtain ⟨c0, c1, c2, c3, c4, c5, c6, c7, c8, c9, c10, c11⟩ := (hR.own hP.drew hBK).pars
        refine wpOp_ran (v := parV p) rfl rfl ?_ rfl (Ok.refl _)
        clear hF
        go_simp
      · intro a' w' hF hR
        have hKs : wr.heap.size ≤ w'.heap.size := hR.size
        refine wpOp_ran (v := .slice (some ⟨w'.heap.size, 0, none⟩) 0 0) (w' := w'.alloc (.cells #[] 25)) rfl rfl ?_ ⟨_, rfl, hKs, (MapKept.heap_alloc w' _).1⟩ ((Ok.refl _).alloc _)
        clear hF
        go_simp
      · intro a' w' hF hR
        have e1 : a'.tmps[1]? = some (.slice A l.length cap) := hF.slot 1 (by kernel_rfl) rfl
        refine wpOp_ran (v := .slice A l.length cap) rfl rfl ?_ rfl (Ok.refl _)
        clear hF
        go_simp
      · intro a' w' hF hR
        obtain ⟨v1, hv1, e51⟩ := hF.get 1 51 (by kernel_rfl) (by kernel_rfl)
        obtain ⟨g1, rfl, hg1, hh1⟩ := hv1 (.inl rfl)
        obtain ⟨v2, hv2, e52⟩ := hF.get 2 52 (by kernel_rfl) (by kernel_rfl)
        obtain rfl : v2 = _ := hv2 (.inr (by decide))
        have hKs : wr.heap.size ≤ w'.heap.size := hR.size
        have hcA : CellsAt w' A (l.flatMap tripL) := H.out.below (Below.trans hok.drew (Below.mono (hR.low (Nat.le_refl _)) hok.size))
        obtain ⟨A', c', w2, hr, h2, h3, h4⟩ := run_append_first (P := Try.prog) (t := 31) Try.underlying31 tripInfo rfl (by decide) (by decide) hh1 hg1 (by rw [flatMap_length tripL 4 tripL_len]) hcA (trip_one l) (by omega) 31 (c := cap)
        refine wpOp_ran (v := .slice A' l.length c') (w' := w2) rfl rfl ?_ ⟨A', c', rfl, h2, h4⟩ h3
        clear hF hcA
        exact exec_append rfl (eval_tmp e51) (eval_tmp e52) hr
      · intro a' w' hF hR
        have e5 : a'.tmps[5]? = some (.pointer (some ⟨M, 0, none⟩)) := hF.slot 5 (by kernel_rfl) rfl
        have hM1 := hR.own hM.drew hMK
        have d0 := hM1.cell 0 (v := .int .i64 mo.asked) rfl
        have d1 := hM1.cell 1 (v := .int .i64 mo.got) rfl
        have d2 := hM1.cell 2 (v := .int .i64 mo.said) rfl
        have d3 := hM1.cell 3 (v := .int .i64 mo.heard) rfl
        refine wpOp_ran (v := tripV mo) rfl rfl ?_ rfl (Ok.refl _)
        clear hF
        go_simp
      · intro a' w' hF hR
        obtain ⟨v4, hv4, e54⟩ := hF.get 4 54 (by kernel_rfl) (by kernel_rfl)
        obtain rfl : v4 = _ := hv4 (.inr (by decide))
        refine wpOp_ran (v := .slice (some ⟨w'.heap.size, 0, none⟩) 1 1) (w' := w'.alloc (.cells (tripCells mo) 25)) rfl rfl ?_ ⟨_, rfl, Own.new _ _ _ rfl⟩ ((Ok.refl _).alloc _)
        clear hF
        go_simp
      · intro a' w' hF hR
        obtain ⟨v3, hv3, e53⟩ := hF.get 3 53 (by kernel_rfl) (by kernel_rfl)
        obtain ⟨A3, c3, rfl, hr3, hc3⟩ := hv3 (.inl rfl)
        obtain ⟨v5, hv5, e55⟩ := hF.get 5 55 (by kernel_rfl) (by kernel_rfl)
        obtain ⟨g5, rfl, hg5⟩ := hv5 (.inl rfl)
        have hKs : wr.heap.size ≤ w'.heap.size := hR.size
        obtain ⟨A6, c6, w2, hr, h2, h3⟩ := run_append_keep (P := Try.prog) (t := 31) Try.underlying31 tripInfo rfl (by decide) (by decide) hKs hr3 (N := N) (by rcases hN with h | h; exact .inl h; exact .inr ⟨h, hc3 h⟩) hg5 rfl (by intro u hu; exact trip_one [mo] u (by simpa [tripL] using hu)) (by omega) 31
        have hcs : CellsAt w2 A6 ((l ++ [mo]).flatMap tripL) := by
          obtain ⟨A7, c7, e7, h7⟩ := CellsAt.of_own h2 (by rw [List.length_append, flatMap_length tripL 4 tripL_len]; show (l.length + 1) * 4 = l.length * 4 + 4; omega) (by decide)
          cases e7
          rw [List.flatMap_append]
          exact h7
        refine wpOp_ran (v := .slice A6 (l.length + 1) c6) (w' := w2) rfl rfl ?_ ⟨A6, c6, rfl, hcs⟩ h3
        clear hF hcs
        exact exec_append rfl (eval_tmp e53) (eval_tmp e55) hr
      · intro a' w' hF hR
        obtain ⟨v0, hv0, e50⟩ := hF.get 0 50 (by kernel_rfl) (by kernel_rfl)
        obtain rfl : v0 = _ := hv0 (.inr (by decide))
        obtain ⟨v6, hv6, e56⟩ := hF.get 6 56 (by kernel_rfl) (by kernel_rfl)
        obtain ⟨A6, c6, rfl, hc6⟩ := hv6 (.inl rfl)
        clear hF
        refine wpOp_call (R := Ok) (f := 12) (args := #[parV p, .slice A6 (l.length + 1) c6]) rfl rfl ?_ ((KB.out A6 c6 _ hc6).mono ?_)
        · go_simp
        · rintro e w2 ⟨rfl, hb2⟩; exact ⟨_, rfl, rfl, hb2⟩
      · intro a' w' hF hR
        obtain ⟨v7, hv7, e57⟩ := hF.get 7 57 (by kernel_rfl) (by kernel_rfl)
        obtain rfl : v7 = _ := hv7 (.inr (by decide))
        refine wpOp_ran (v := .tuple #[spanV x y, .bool isok]) rfl rfl ?_ rfl (Ok.refl _)
        clear hF
        go_simp
      · intro a' w' hF hR
        obtain ⟨v8, hv8, e49⟩ := hF.get 8 49 (by kernel_rfl) (by kernel_rfl)
        obtain rfl : v8 = _ := hv8 (.inr (by decide))
        refine wpOp_ran (v := spanV x y) rfl rfl ?_ rfl (Ok.refl _)
        clear hF
        go_simp
      · intro a' w' hF hR
        obtain ⟨v8, hv8, e49⟩ := hF.get 8 49 (by kernel_rfl) (by kernel_rfl)
        obtain rfl : v8 = _ := hv8 (.inr (by decide))
        refine wpOp_ran (v := .bool isok) rfl rfl ?_ rfl (Ok.refl _)
        clear hF
        go_simp
      · intro a' w' hF hR
        have hKs : wr.heap.size ≤ w'.heap.size := hR.size
        have hzero : Sem.run Try.prog (zeroValue 28) w' = .ok (.agg #[.int .i64 0, .int .i64 0]) w' := by kernel_rfl
        refine wpOp_ran (v := .pointer (some ⟨w'.heap.size, 0, none⟩)) (w' := w'.alloc (.cells #[.int .i64 0, .int .i64 0] 28)) rfl rfl ?_ ⟨_, rfl, hKs, (MapKept.heap_alloc w' _).1⟩ ((Ok.refl _).alloc _)
        clear hF
        go_simp
      · intro vs W1 hvs hR
        have e9 : vs 9 = spanV x y := (hvs 9 (by decide)).resolve_left (by decide)
        have e10 : vs 10 = .bool isok := (hvs 10 (by decide)).resolve_left (by decide)
        obtain ⟨g, e11, hgK, hgh⟩ := (hvs 11 (by decide)).resolve_left (by decide)
        have hG : Slab W1 g 0 0 := ⟨⟨_, hgh⟩⟩
        have f0 := hG.f0
        have f1 := hG.f1
        have c0 := hG.c0
        have c1 := hG.c1
        have hb1 : Slab W1 b b1 b2 := ⟨(hR.own (⟨hB.drew.blk⟩ : Own _ b _) hbK).blk⟩
        have hok1 : Ok w W1 := Below.trans hok.drew (Below.mono (hR.low (Nat.le_refl _)) hok.size)
        clear hvs hgh
        simp only [putFrom, e9, e10, e11]
        simp only [Act.put, List.setIfInBounds_toArray, List.set_cons_zero, List.set_cons_succ]
        refine wpOp_store (w' := (W1.setCell ⟨g, 0, none⟩ (.int .i64 x)).setCell ⟨g, 1, none⟩ (.int .i64 y)) rfl rfl rfl ?_ ?_
        · go_simp
        have hwg : w.heap.size ≤ g := Nat.le_trans hok.size hgK
        have hne : b ≠ g := fun e => by (rw [e] at hbK; exact absurd hgK (Nat.not_le.2 hbK))
        have hF := hG.set x y
        have hb3 := (hb1.setOther (a := ⟨g, 0, none⟩) hne (.int .i64 x)).setOther (a := ⟨g, 1, none⟩) hne (.int .i64 y)
        have hok3 := (hok1.setCell (p := ⟨g, 0, none⟩) hwg (.int .i64 x)).setCell (p := ⟨g, 1, none⟩) hwg (.int .i64 y)
        clear c0 c1 f0 f1 hG hb1 hok1 hR e9 e11 hgK hne hwg
        generalize (W1.setCell ⟨g, 0, none⟩ (.int .i64 x)).setCell ⟨g, 1, none⟩ (.int .i64 y) = W2 at hF hb3 hok3 ⊢
        refine wpOp_leaves (v := .bool isok) (w' := W2) rfl rfl ?_ ?_
        · go_simp
        simp only [Act.put, List.setIfInBounds_toArray]
        have HX := Lib.hid fun W' (k : Ok W2.drew W') => hF.drew.next k
        have HB := Lib.hid fun W' (k : Ok W2.drew W') => hb3.drew.next k
        have HOK := Lib.hid hok3
        clear hF hb3 hok3 e10
        try generalize vs (0 + 1 + 1 + 1 + 1 + 1 + 1 + 1 + 1 + 1 + 1 + 1) = z11
        try generalize vs (0 + 1 + 1 + 1 + 1 + 1 + 1 + 1 + 1 + 1 + 1) = z10
        try generalize vs (0 + 1 + 1 + 1 + 1 + 1 + 1 + 1 + 1 + 1) = z9
        try generalize vs (0 + 1 + 1 + 1 + 1 + 1 + 1 + 1 + 1) = z8
        try generalize vs (0 + 1 + 1 + 1 + 1 + 1 + 1 + 1) = z7
        try generalize vs (0 + 1 + 1 + 1 + 1 + 1 + 1) = z6
        try generalize vs (0 + 1 + 1 + 1 + 1 + 1) = z5
        try generalize vs (0 + 1 + 1 + 1 + 1) = z4
        try generalize vs (0 + 1 + 1 + 1) = z3
        try generalize vs (0 + 1 + 1) = z2
        try generalize vs (0 + 1) = z1
        try generalize vs 0 = z0
        cases ok with
        | false =>
          go_wp2_with fail
          refine wp_region_facts (by kernel_rfl) 72 rfl (VCU0 x y b1 b2 wu wb) Ok (by kernel_rfl) (fun i v w w' h k w'' k' => h w'' (k.trans k')) (fun a b c => Ok.trans) (Ok.refl _) [some 60, some 61, some 62, some 63, some 64, some 65, some 66, some 67, some 68, some 69, some 70, some 71, some 6] rfl 13 rfl ⟨?_, ?_, ?_, ?_, ?_, ?_, ?_, ?_, ?_, ?_, ?_, ?_, ?_, trivial⟩ ?_
          · intro a' w' hF hR
            have e8 : a'.tmps[8]? = some (.bool false) := hF.slot 8 (by kernel_rfl) rfl
            refine wpOp_run (v := .bool false) rfl rfl ?_ (fun _ _ => rfl) (Ok.refl _)
            clear hF
            go_simp
          · intro a' w' hF hR
            obtain ⟨v0, hv0, e60⟩ := hF.get 0 60 (by kernel_rfl) (by kernel_rfl)
            obtain rfl : v0 = _ := hv0 _ (Ok.refl _)
            refine wpOp_run (v := .bool true) rfl rfl ?_ (fun _ _ => rfl) (Ok.refl _)
            clear hF
            go_simp
          · intro a' w' hF hR
            obtain ⟨v1, hv1, e61⟩ := hF.get 1 61 (by kernel_rfl) (by kernel_rfl)
            obtain rfl : v1 = _ := hv1 _ (Ok.refl _)
            refine wpOp_run (v := .bool true) rfl rfl ?_ (fun _ _ => rfl) (Ok.refl _)
            clear hF
            go_simp
          · intro a' w' hF hR
            obtain ⟨vg, hvg, eg⟩ := hF.get 2 62 (by kernel_rfl) (by kernel_rfl)
            obtain rfl : vg = _ := hvg _ (Ok.refl _)
            exact wpOp_skip rfl (wanted_not rfl (by kernel_rfl) eg (by simp)) (fun _ _ => rfl) (Ok.refl _)
          · intro a' w' hF hR
            obtain ⟨vg, hvg, eg⟩ := hF.get 2 62 (by kernel_rfl) (by kernel_rfl)
            obtain rfl : vg = _ := hvg _ (Ok.refl _)
            exact wpOp_skip rfl (wanted_not rfl (by kernel_rfl) eg (by simp)) (fun _ _ => rfl) (Ok.refl _)
          · intro a' w' hF hR
            obtain ⟨vg, hvg, eg⟩ := hF.get 4 64 (by kernel_rfl) (by kernel_rfl)
            obtain rfl : vg = _ := hvg _ (Ok.refl _)
            exact wpOp_skip rfl (wanted_not rfl (by kernel_rfl) eg (by simp [undef])) (fun _ _ => rfl) (Ok.refl _)
          · intro a' w' hF hR
            obtain ⟨vg, hvg, eg⟩ := hF.get 4 64 (by kernel_rfl) (by kernel_rfl)
            obtain rfl : vg = _ := hvg _ (Ok.refl _)
            exact wpOp_skip rfl (wanted_not rfl (by kernel_rfl) eg (by simp [undef])) (fun _ _ => rfl) (Ok.refl _)
          · intro a' w' hF hR
            obtain ⟨vg, hvg, eg⟩ := hF.get 4 64 (by kernel_rfl) (by kernel_rfl)
            obtain rfl : vg = _ := hvg _ (Ok.refl _)
            exact wpOp_skip rfl (wanted_not rfl (by kernel_rfl) eg (by simp [undef])) (fun _ _ => rfl) (Ok.refl _)
          · intro a' w' hF hR
            obtain ⟨vg, hvg, eg⟩ := hF.get 4 64 (by kernel_rfl) (by kernel_rfl)
            obtain rfl : vg = _ := hvg _ (Ok.refl _)
            exact wpOp_skip rfl (wanted_not rfl (by kernel_rfl) eg (by simp [undef])) (fun _ _ => rfl) (Ok.refl _)
          · intro a' w' hF hR
            obtain ⟨vg, hvg, eg⟩ := hF.get 4 64 (by kernel_rfl) (by kernel_rfl)
            obtain rfl : vg = _ := hvg _ (Ok.refl _)
            exact wpOp_skip rfl (wanted_not rfl (by kernel_rfl) eg (by simp [undef])) (fun _ _ => rfl) (Ok.refl _)
          · intro a' w' hF hR
            obtain ⟨vg, hvg, eg⟩ := hF.get 2 62 (by kernel_rfl) (by kernel_rfl)
            obtain rfl : vg = _ := hvg _ (Ok.refl _)
            exact wpOp_skip rfl (wanted_not rfl (by kernel_rfl) eg (by simp)) (fun _ _ => rfl) (Ok.refl _)
          · intro a' w' hF hR
            obtain ⟨v2, hv2, e62⟩ := hF.get 2 62 (by kernel_rfl) (by kernel_rfl)
            obtain rfl : v2 = _ := hv2 _ (Ok.refl _)
            obtain ⟨v10, hv10, e70⟩ := hF.get 10 70 (by kernel_rfl) (by kernel_rfl)
            obtain rfl : v10 = _ := hv10 _ (Ok.refl _)
            refine wpOp_run (v := .bool true) rfl rfl ?_ (fun _ _ => rfl) (Ok.refl _)
            clear hF
            go_simp
          · intro a' w' hF hR
            obtain ⟨v11, hv11, e71⟩ := hF.get 11 71 (by kernel_rfl) (by kernel_rfl)
            obtain rfl : v11 = _ := hv11 _ (Ok.refl _)
            refine wpOp_run (v := .bool true) rfl rfl ?_ (fun _ _ => rfl) (Ok.refl _)
            clear hF
            go_simp
          · intro vs2 w4 hV hR2
            have e12 : vs2 12 = .bool true := hV 12 (by decide) _ (Ok.refl _)
            have hok4 := HOK.out.trans ((Ok.refl W2).drew.trans hR2)
            clear hV HX HB KU KV HLE
            simp only [putFrom, e12]
            simp only [Act.put, List.setIfInBounds_toArray, List.set_cons_zero, List.set_cons_succ]
            go_wp2
            go_ret
            exact ⟨rfl, hok4⟩
        | true =>
          obtain rfl := HIS.out rfl
          replace HLE := Lib.hid (HLE.out rfl)
          go_wp2_with fail
          refine wp_region_facts (by kernel_rfl) 72 rfl (VCU1 x y b1 b2 wu wb) Ok (by kernel_rfl) (fun i v w w' h k w'' k' => h w'' (k.trans k')) (fun a b c => Ok.trans) (Ok.refl _) [some 60, some 61, some 62, some 63, some 64, some 65, some 66, some 67, some 68, some 69, some 70, some 71, some 6] rfl 13 rfl ⟨?_, ?_, ?_, ?_, ?_, ?_, ?_, ?_, ?_, ?_, ?_, ?_, ?_, trivial⟩ ?_
          · intro a' w' hF hR
            have e8 : a'.tmps[8]? = some (.bool true) := hF.slot 8 (by kernel_rfl) rfl
            refine wpOp_run (v := .bool true) rfl rfl ?_ (fun _ _ => rfl) (Ok.refl _)
            clear hF
            go_simp
          · intro a' w' hF hR
            obtain ⟨v0, hv0, e60⟩ := hF.get 0 60 (by kernel_rfl) (by kernel_rfl)
            obtain rfl : v0 = _ := hv0 _ (Ok.refl _)
            refine wpOp_run (v := .bool false) rfl rfl ?_ (fun _ _ => rfl) (Ok.refl _)
            clear hF
            go_simp
          · intro a' w' hF hR
            obtain ⟨v1, hv1, e61⟩ := hF.get 1 61 (by kernel_rfl) (by kernel_rfl)
            obtain rfl : v1 = _ := hv1 _ (Ok.refl _)
            refine wpOp_run (v := .bool false) rfl rfl ?_ (fun _ _ => rfl) (Ok.refl _)
            clear hF
            go_simp
          · intro a' w' hF hR
            have e13 : a'.tmps[13]? = some (.bool true) := hF.slot 13 (by kernel_rfl) rfl
            obtain ⟨vg, hvg, eg⟩ := hF.get 2 62 (by kernel_rfl) (by kernel_rfl)
            obtain rfl : vg = _ := hvg _ (Ok.refl _)
            refine wpOp_runG (v := .bool true) rfl (wanted_yes rfl (by kernel_rfl) eg) ?_ (fun _ _ => rfl) (Ok.refl _)
            clear hF
            go_simp
          · intro a' w' hF hR
            obtain ⟨v3, hv3, e63⟩ := hF.get 3 63 (by kernel_rfl) (by kernel_rfl)
            obtain rfl : v3 = _ := hv3 _ (Ok.refl _)
            obtain ⟨vg, hvg, eg⟩ := hF.get 2 62 (by kernel_rfl) (by kernel_rfl)
            obtain rfl : vg = _ := hvg _ (Ok.refl _)
            refine wpOp_runG (v := .bool true) rfl (wanted_yes rfl (by kernel_rfl) eg) ?_ (fun _ _ => rfl) (Ok.refl _)
            clear hF
            go_simp
          · intro a' w' hF hR
            have e12 : a'.tmps[12]? = some (.pointer (some ⟨g, 0, none⟩)) := hF.slot 12 (by kernel_rfl) rfl
            obtain ⟨vg, hvg, eg⟩ := hF.get 4 64 (by kernel_rfl) (by kernel_rfl)
            obtain rfl : vg = _ := hvg _ (Ok.refl _)
            have e0 := (HX.out _ hR).c0
            have e1 := (HX.out _ hR).c1
            refine wpOp_runG (v := spanV x y) rfl (wanted_yes rfl (by kernel_rfl) eg) ?_ (fun _ _ => rfl) (Ok.refl _)
            clear hF
            go_simp
          · intro a' w' hF hR
            obtain ⟨v5, hv5, e65⟩ := hF.get 5 65 (by kernel_rfl) (by kernel_rfl)
            obtain rfl : v5 = _ := hv5 _ (Ok.refl _)
            obtain ⟨vg, hvg, eg⟩ := hF.get 4 64 (by kernel_rfl) (by kernel_rfl)
            obtain rfl : vg = _ := hvg _ (Ok.refl _)
            refine wpOp_callG (f := 11) (args := #[spanV x y]) rfl (wanted_yes rfl (by kernel_rfl) eg) ?_ ((KU.out _).mono ?_)
            · go_simp
            · rintro e w2 ⟨rfl, hb2⟩; exact ⟨_, rfl, fun _ _ => rfl, hb2⟩
          · intro a' w' hF hR
            have e7 : a'.tmps[7]? = some (.pointer (some ⟨b, 0, none⟩)) := hF.slot 7 (by kernel_rfl) rfl
            obtain ⟨vg, hvg, eg⟩ := hF.get 4 64 (by kernel_rfl) (by kernel_rfl)
            obtain rfl : vg = _ := hvg _ (Ok.refl _)
            have e0 := (HB.out _ hR).c0
            have e1 := (HB.out _ hR).c1
            refine wpOp_runG (v := spanV b1 b2) rfl (wanted_yes rfl (by kernel_rfl) eg) ?_ (fun _ _ => rfl) (Ok.refl _)
            clear hF
            go_simp
          · intro a' w' hF hR
            obtain ⟨v7, hv7, e67⟩ := hF.get 7 67 (by kernel_rfl) (by kernel_rfl)
            obtain rfl : v7 = _ := hv7 _ (Ok.refl _)
            obtain ⟨vg, hvg, eg⟩ := hF.get 4 64 (by kernel_rfl) (by kernel_rfl)
            obtain rfl : vg = _ := hvg _ (Ok.refl _)
            refine wpOp_callG (f := 11) (args := #[spanV b1 b2]) rfl (wanted_yes rfl (by kernel_rfl) eg) ?_ ((KV.out _).mono ?_)
            · go_simp
            · rintro e w2 ⟨rfl, hb2⟩; exact ⟨_, rfl, fun _ _ => rfl, hb2⟩
          · intro a' w' hF hR
            obtain ⟨v6, hv6, e66⟩ := hF.get 6 66 (by kernel_rfl) (by kernel_rfl)
            obtain rfl : v6 = _ := hv6 _ (Ok.refl _)
            obtain ⟨v8, hv8, e68⟩ := hF.get 8 68 (by kernel_rfl) (by kernel_rfl)
            obtain rfl : v8 = _ := hv8 _ (Ok.refl _)
            obtain ⟨vg, hvg, eg⟩ := hF.get 4 64 (by kernel_rfl) (by kernel_rfl)
            obtain rfl : vg = _ := hvg _ (Ok.refl _)
            have hle := HLE.out
            refine wpOp_runG (v := .bool true) rfl (wanted_yes rfl (by kernel_rfl) eg) ?_ (fun _ _ => rfl) (Ok.refl _)
            clear hF
            go_simp
          · intro a' w' hF hR
            obtain ⟨v4, hv4, e64⟩ := hF.get 4 64 (by kernel_rfl) (by kernel_rfl)
            obtain rfl : v4 = _ := hv4 _ (Ok.refl _)
            obtain ⟨v9, hv9, e69⟩ := hF.get 9 69 (by kernel_rfl) (by kernel_rfl)
            obtain rfl : v9 = _ := hv9 _ (Ok.refl _)
            obtain ⟨vg, hvg, eg⟩ := hF.get 2 62 (by kernel_rfl) (by kernel_rfl)
            obtain rfl : vg = _ := hvg _ (Ok.refl _)
            refine wpOp_runG (v := .bool true) rfl (wanted_yes rfl (by kernel_rfl) eg) ?_ (fun _ _ => rfl) (Ok.refl _)
            clear hF
            go_simp
          · intro a' w' hF hR
            obtain ⟨v2, hv2, e62⟩ := hF.get 2 62 (by kernel_rfl) (by kernel_rfl)
            obtain rfl : v2 = _ := hv2 _ (Ok.refl _)
            obtain ⟨v10, hv10, e70⟩ := hF.get 10 70 (by kernel_rfl) (by kernel_rfl)
            obtain rfl : v10 = _ := hv10 _ (Ok.refl _)
            refine wpOp_run (v := .bool true) rfl rfl ?_ (fun _ _ => rfl) (Ok.refl _)
            clear hF
            go_simp
          · intro a' w' hF hR
            obtain ⟨v11, hv11, e71⟩ := hF.get 11 71 (by kernel_rfl) (by kernel_rfl)
            obtain rfl : v11 = _ := hv11 _ (Ok.refl _)
            refine wpOp_run (v := .bool true) rfl rfl ?_ (fun _ _ => rfl) (Ok.refl _)
            clear hF
            go_simp
          · intro vs2 w4 hV hR2
            have e12 : vs2 12 = .bool true := hV 12 (by decide) _ (Ok.refl _)
            have hok4 := HOK.out.trans ((Ok.refl W2).drew.trans hR2)
            clear hV HX HB KU KV HLE
            simp only [putFrom, e12]
            simp only [Act.put, List.setIfInBounds_toArray, List.set_cons_zero, List.set_cons_succ]
            go_wp2
            go_ret
            exact ⟨rfl, hok4⟩
      · intro vs W1 hvs hR
        have e9 : vs 9 = spanV x y := (hvs 9 (by decide) (by decide)).resolve_left (by decide)
        have e8 : vs 8 = .tuple #[spanV x y, .bool isok] := (hvs 8 (by decide) (by decide)).resolve_left (by decide)
        obtain ⟨g, e11, hgK, hgh⟩ := (hvs 11 (by decide) (by decide)).resolve_left (by decide)
        have hG : Slab W1 g 0 0 := ⟨⟨_, hgh⟩⟩
        have f0 := hG.f0
        have f1 := hG.f1
        have c0 := hG.c0
        have c1 := hG.c1
        have hb1 : Slab W1 b b1 b2 := ⟨(hR.own (⟨hB.drew.blk⟩ : Own _ b _) hbK).blk⟩
        have hok1 : Ok w W1 := Below.trans hok.drew (Below.mono (hR.low (Nat.le_refl _)) hok.size)
        clear hvs hgh
        simp only [putFrom, e9, e8, e11]
        simp only [Act.put, List.setIfInBounds_toArray, List.set_cons_zero, List.set_cons_succ]
        refine wpOp_store (w' := (W1.setCell ⟨g, 0, none⟩ (.int .i64 x)).setCell ⟨g, 1, none⟩ (.int .i64 y)) rfl rfl rfl ?_ ?_
        · go_simp
        have hwg : w.heap.size ≤ g := Nat.le_trans hok.size hgK
        have hne : b ≠ g := fun e => by (rw [e] at hbK; exact absurd hgK (Nat.not_le.2 hbK))
        have hF := hG.set x y
        have hb3 := (hb1.setOther (a := ⟨g, 0, none⟩) hne (.int .i64 x)).setOther (a := ⟨g, 1, none⟩) hne (.int .i64 y)
        have hok3 := (hok1.setCell (p := ⟨g, 0, none⟩) hwg (.int .i64 x)).setCell (p := ⟨g, 1, none⟩) hwg (.int .i64 y)
        clear c0 c1 f0 f1 hG hb1 hok1 hR e9 e11 hgK hne hwg
        generalize (W1.setCell ⟨g, 0, none⟩ (.int .i64 x)).setCell ⟨g, 1, none⟩ (.int .i64 y) = W2 at hF hb3 hok3 ⊢
        refine wpOp_leaves (v := .bool isok) (w' := W2) rfl rfl ?_ ?_
        · go_simp
        simp only [Act.put, List.setIfInBounds_toArray]
        refine wpOp_leaves (v := .bool isok) (w' := W2) rfl rfl ?_ ?_
        · go_simp
        simp only [Act.put]
        have HX := Lib.hid fun W' (k : Ok W2.drew W') => hF.drew.next k
        have HB := Lib.hid fun W' (k : Ok W2.drew W') => hb3.drew.next k
        have HOK := Lib.hid hok3
        clear hF hb3 hok3 e8
        try generalize vs (0 + 1 + 1 + 1 + 1 + 1 + 1 + 1 + 1 + 1 + 1 + 1) = z11
        try generalize vs (0 + 1 + 1 + 1 + 1 + 1 + 1 + 1 + 1 + 1 + 1) = z10
        try generalize vs (0 + 1 + 1 + 1 + 1 + 1 + 1 + 1 + 1 + 1) = z9
        try generalize vs (0 + 1 + 1 + 1 + 1 + 1 + 1 + 1 + 1) = z8
        try generalize vs (0 + 1 + 1 + 1 + 1 + 1 + 1 + 1) = z7
        try generalize vs (0 + 1 + 1 + 1 + 1 + 1 + 1) = z6
        try generalize vs (0 + 1 + 1 + 1 + 1 + 1) = z5
        try generalize vs (0 + 1 + 1 + 1 + 1) = z4
        try generalize vs (0 + 1 + 1 + 1) = z3
        try generalize vs (0 + 1 + 1) = z2
        try generalize vs (0 + 1) = z1
        try generalize vs 0 = z0
        cases ok with
        | false =>
          go_wp2_with fail
          refine wp_region_facts (by kernel_rfl) 72 rfl (VCU0 x y b1 b2 wu wb) Ok (by kernel_rfl) (fun i v w w' h k w'' k' => h w'' (k.trans k')) (fun a b c => Ok.trans) (Ok.refl _) [some 60, some 61, some 62, some 63, some 64, some 65, some 66, some 67, some 68, some 69, some 70, some 71, some 6] rfl 13 rfl ⟨?_, ?_, ?_, ?_, ?_, ?_, ?_, ?_, ?_, ?_, ?_, ?_, ?_, trivial⟩ ?_
          · intro a' w' hF hR
            have e8 : a'.tmps[8]? = some (.bool false) := hF.slot 8 (by kernel_rfl) rfl
            refine wpOp_run (v := .bool false) rfl rfl ?_ (fun _ _ => rfl) (Ok.refl _)
            clear hF
            go_simp
          · intro a' w' hF hR
            obtain ⟨v0, hv0, e60⟩ := hF.get 0 60 (by kernel_rfl) (by kernel_rfl)
            obtain rfl : v0 = _ := hv0 _ (Ok.refl _)
            refine wpOp_run (v := .bool true) rfl rfl ?_ (fun _ _ => rfl) (Ok.refl _)
            clear hF
            go_simp
          · intro a' w' hF hR
            obtain ⟨v1, hv1, e61⟩ := hF.get 1 61 (by kernel_rfl) (by kernel_rfl)
            obtain rfl : v1 = _ := hv1 _ (Ok.refl _)
            refine wpOp_run (v := .bool true) rfl rfl ?_ (fun _ _ => rfl) (Ok.refl _)
            clear hF
            go_simp
          · intro a' w' hF hR
            obtain ⟨vg, hvg, eg⟩ := hF.get 2 62 (by kernel_rfl) (by kernel_rfl)
            obtain rfl : vg = _ := hvg _ (Ok.refl _)
            exact wpOp_skip rfl (wanted_not rfl (by kernel_rfl) eg (by simp)) (fun _ _ => rfl) (Ok.refl _)
          · intro a' w' hF hR
            obtain ⟨vg, hvg, eg⟩ := hF.get 2 62 (by kernel_rfl) (by kernel_rfl)
            obtain rfl : vg = _ := hvg _ (Ok.refl _)
            exact wpOp_skip rfl (wanted_not rfl (by kernel_rfl) eg (by simp)) (fun _ _ => rfl) (Ok.refl _)
          · intro a' w' hF hR
            obtain ⟨vg, hvg, eg⟩ := hF.get 4 64 (by kernel_rfl) (by kernel_rfl)
            obtain rfl : vg = _ := hvg _ (Ok.refl _)
            exact wpOp_skip rfl (wanted_not rfl (by kernel_rfl) eg (by simp [undef])) (fun _ _ => rfl) (Ok.refl _)
          · intro a' w' hF hR
            obtain ⟨vg, hvg, eg⟩ := hF.get 4 64 (by kernel_rfl) (by kernel_rfl)
            obtain rfl : vg = _ := hvg _ (Ok.refl _)
            exact wpOp_skip rfl (wanted_not rfl (by kernel_rfl) eg (by simp [undef])) (fun _ _ => rfl) (Ok.refl _)
          · intro a' w' hF hR
            obtain ⟨vg, hvg, eg⟩ := hF.get 4 64 (by kernel_rfl) (by kernel_rfl)
            obtain rfl : vg = _ := hvg _ (Ok.refl _)
            exact wpOp_skip rfl (wanted_not rfl (by kernel_rfl) eg (by simp [undef])) (fun _ _ => rfl) (Ok.refl _)
          · intro a' w' hF hR
            obtain ⟨vg, hvg, eg⟩ := hF.get 4 64 (by kernel_rfl) (by kernel_rfl)
            obtain rfl : vg = _ := hvg _ (Ok.refl _)
            exact wpOp_skip rfl (wanted_not rfl (by kernel_rfl) eg (by simp [undef])) (fun _ _ => rfl) (Ok.refl _)
          · intro a' w' hF hR
            obtain ⟨vg, hvg, eg⟩ := hF.get 4 64 (by kernel_rfl) (by kernel_rfl)
            obtain rfl : vg = _ := hvg _ (Ok.refl _)
            exact wpOp_skip rfl (wanted_not rfl (by kernel_rfl) eg (by simp [undef])) (fun _ _ => rfl) (Ok.refl _)
          · intro a' w' hF hR
            obtain ⟨vg, hvg, eg⟩ := hF.get 2 62 (by kernel_rfl) (by kernel_rfl)
            obtain rfl : vg = _ := hvg _ (Ok.refl _)
            exact wpOp_skip rfl (wanted_not rfl (by kernel_rfl) eg (by simp)) (fun _ _ => rfl) (Ok.refl _)
          · intro a' w' hF hR
            obtain ⟨v2, hv2, e62⟩ := hF.get 2 62 (by kernel_rfl) (by kernel_rfl)
            obtain rfl : v2 = _ := hv2 _ (Ok.refl _)
            obtain ⟨v10, hv10, e70⟩ := hF.get 10 70 (by kernel_rfl) (by kernel_rfl)
            obtain rfl : v10 = _ := hv10 _ (Ok.refl _)
            refine wpOp_run (v := .bool true) rfl rfl ?_ (fun _ _ => rfl) (Ok.refl _)
            clear hF
            go_simp
          · intro a' w' hF hR
            obtain ⟨v11, hv11, e71⟩ := hF.get 11 71 (by kernel_rfl) (by kernel_rfl)
            obtain rfl : v11 = _ := hv11 _ (Ok.refl _)
            refine wpOp_run (v := .bool true) rfl rfl ?_ (fun _ _ => rfl) (Ok.refl _)
            clear hF
            go_simp
          · intro vs2 w4 hV hR2
            have e12 : vs2 12 = .bool true := hV 12 (by decide) _ (Ok.refl _)
            have hok4 := HOK.out.trans ((Ok.refl W2).drew.trans hR2)
            clear hV HX HB KU KV HLE
            simp only [putFrom, e12]
            simp only [Act.put, List.setIfInBounds_toArray, List.set_cons_zero, List.set_cons_succ]
            go_wp2
            go_ret
            exact ⟨rfl, hok4⟩
        | true =>
          obtain rfl := HIS.out rfl
          replace HLE := Lib.hid (HLE.out rfl)
          go_wp2_with fail
          refine wp_region_facts (by kernel_rfl) 72 rfl (VCU1 x y b1 b2 wu wb) Ok (by kernel_rfl) (fun i v w w' h k w'' k' => h w'' (k.trans k')) (fun a b c => Ok.trans) (Ok.refl _) [some 60, some 61, some 62, some 63, some 64, some 65, some 66, some 67, some 68, some 69, some 70, some 71, some 6] rfl 13 rfl ⟨?_, ?_, ?_, ?_, ?_, ?_, ?_, ?_, ?_, ?_, ?_, ?_, ?_, trivial⟩ ?_
          · intro a' w' hF hR
            have e8 : a'.tmps[8]? = some (.bool true) := hF.slot 8 (by kernel_rfl) rfl
            refine wpOp_run (v := .bool true) rfl rfl ?_ (fun _ _ => rfl) (Ok.refl _)
            clear hF
            go_simp
          · intro a' w' hF hR
            obtain ⟨v0, hv0, e60⟩ := hF.get 0 60 (by kernel_rfl) (by kernel_rfl)
            obtain rfl : v0 = _ := hv0 _ (Ok.refl _)
            refine wpOp_run (v := .bool false) rfl rfl ?_ (fun _ _ => rfl) (Ok.refl _)
            clear hF
            go_simp
          · intro a' w' hF hR
            obtain ⟨v1, hv1, e61⟩ := hF.get 1 61 (by kernel_rfl) (by kernel_rfl)
            obtain rfl : v1 = _ := hv1 _ (Ok.refl _)
            refine wpOp_run (v := .bool false) rfl rfl ?_ (fun _ _ => rfl) (Ok.refl _)
            clear hF
            go_simp
          · intro a' w' hF hR
            have e13 : a'.tmps[13]? = some (.bool true) := hF.slot 13 (by kernel_rfl) rfl
            obtain ⟨vg, hvg, eg⟩ := hF.get 2 62 (by kernel_rfl) (by kernel_rfl)
            obtain rfl : vg = _ := hvg _ (Ok.refl _)
            refine wpOp_runG (v := .bool true) rfl (wanted_yes rfl (by kernel_rfl) eg) ?_ (fun _ _ => rfl) (Ok.refl _)
            clear hF
            go_simp
          · intro a' w' hF hR
            obtain ⟨v3, hv3, e63⟩ := hF.get 3 63 (by kernel_rfl) (by kernel_rfl)
            obtain rfl : v3 = _ := hv3 _ (Ok.refl _)
            obtain ⟨vg, hvg, eg⟩ := hF.get 2 62 (by kernel_rfl) (by kernel_rfl)
            obtain rfl : vg = _ := hvg _ (Ok.refl _)
            refine wpOp_runG (v := .bool true) rfl (wanted_yes rfl (by kernel_rfl) eg) ?_ (fun _ _ => rfl) (Ok.refl _)
            clear hF
            go_simp
          · intro a' w' hF hR
            have e12 : a'.tmps[12]? = some (.pointer (some ⟨g, 0, none⟩)) := hF.slot 12 (by kernel_rfl) rfl
            obtain ⟨vg, hvg, eg⟩ := hF.get 4 64 (by kernel_rfl) (by kernel_rfl)
            obtain rfl : vg = _ := hvg _ (Ok.refl _)
            have e0 := (HX.out _ hR).c0
            have e1 := (HX.out _ hR).c1
            refine wpOp_runG (v := spanV x y) rfl (wanted_yes rfl (by kernel_rfl) eg) ?_ (fun _ _ => rfl) (Ok.refl _)
            clear hF
            go_simp
          · intro a' w' hF hR
            obtain ⟨v5, hv5, e65⟩ := hF.get 5 65 (by kernel_rfl) (by kernel_rfl)
            obtain rfl : v5 = _ := hv5 _ (Ok.refl _)
            obtain ⟨vg, hvg, eg⟩ := hF.get 4 64 (by kernel_rfl) (by kernel_rfl)
            obtain rfl : vg = _ := hvg _ (Ok.refl _)
            refine wpOp_callG (f := 11) (args := #[spanV x y]) rfl (wanted_yes rfl (by kernel_rfl) eg) ?_ ((KU.out _).mono ?_)
            · go_simp
            · rintro e w2 ⟨rfl, hb2⟩; exact ⟨_, rfl, fun _ _ => rfl, hb2⟩
          · intro a' w' hF hR
            have e7 : a'.tmps[7]? = some (.pointer (some ⟨b, 0, none⟩)) := hF.slot 7 (by kernel_rfl) rfl
            obtain ⟨vg, hvg, eg⟩ := hF.get 4 64 (by kernel_rfl) (by kernel_rfl)
            obtain rfl : vg = _ := hvg _ (Ok.refl _)
            have e0 := (HB.out _ hR).c0
            have e1 := (HB.out _ hR).c1
            refine wpOp_runG (v := spanV b1 b2) rfl (wanted_yes rfl (by kernel_rfl) eg) ?_ (fun _ _ => rfl) (Ok.refl _)
            clear hF
            go_simp
          · intro a' w' hF hR
            obtain ⟨v7, hv7, e67⟩ := hF.get 7 67 (by kernel_rfl) (by kernel_rfl)
            obtain rfl : v7 = _ := hv7 _ (Ok.refl _)
            obtain ⟨vg, hvg, eg⟩ := hF.get 4 64 (by kernel_rfl) (by kernel_rfl)
            obtain rfl : vg = _ := hvg _ (Ok.refl _)
            refine wpOp_callG (f := 11) (args := #[spanV b1 b2]) rfl (wanted_yes rfl (by kernel_rfl) eg) ?_ ((KV.out _).mono ?_)
            · go_simp
            · rintro e w2 ⟨rfl, hb2⟩; exact ⟨_, rfl, fun _ _ => rfl, hb2⟩
          · intro a' w' hF hR
            obtain ⟨v6, hv6, e66⟩ := hF.get 6 66 (by kernel_rfl) (by kernel_rfl)
            obtain rfl : v6 = _ := hv6 _ (Ok.refl _)
            obtain ⟨v8, hv8, e68⟩ := hF.get 8 68 (by kernel_rfl) (by kernel_rfl)
            obtain rfl : v8 = _ := hv8 _ (Ok.refl _)
            obtain ⟨vg, hvg, eg⟩ := hF.get 4 64 (by kernel_rfl) (by kernel_rfl)
            obtain rfl : vg = _ := hvg _ (Ok.refl _)
            have hle := HLE.out
            refine wpOp_runG (v := .bool true) rfl (wanted_yes rfl (by kernel_rfl) eg) ?_ (fun _ _ => rfl) (Ok.refl _)
            clear hF
            go_simp
          · intro a' w' hF hR
            obtain ⟨v4, hv4, e64⟩ := hF.get 4 64 (by kernel_rfl) (by kernel_rfl)
            obtain rfl : v4 = _ := hv4 _ (Ok.refl _)
            obtain ⟨v9, hv9, e69⟩ := hF.get 9 69 (by kernel_rfl) (by kernel_rfl)
            obtain rfl : v9 = _ := hv9 _ (Ok.refl _)
            obtain ⟨vg, hvg, eg⟩ := hF.get 2 62 (by kernel_rfl) (by kernel_rfl)
            obtain rfl : vg = _ := hvg _ (Ok.refl _)
            refine wpOp_runG (v := .bool true) rfl (wanted_yes rfl (by kernel_rfl) eg) ?_ (fun _ _ => rfl) (Ok.refl _)
            clear hF
            go_simp
          · intro a' w' hF hR
            obtain ⟨v2, hv2, e62⟩ := hF.get 2 62 (by kernel_rfl) (by kernel_rfl)
            obtain rfl : v2 = _ := hv2 _ (Ok.refl _)
            obtain ⟨v10, hv10, e70⟩ := hF.get 10 70 (by kernel_rfl) (by kernel_rfl)
            obtain rfl : v10 = _ := hv10 _ (Ok.refl _)
            refine wpOp_run (v := .bool true) rfl rfl ?_ (fun _ _ => rfl) (Ok.refl _)
            clear hF
            go_simp
          · intro a' w' hF hR
            obtain ⟨v11, hv11, e71⟩ := hF.get 11 71 (by kernel_rfl) (by kernel_rfl)
            obtain rfl : v11 = _ := hv11 _ (Ok.refl _)
            refine wpOp_run (v := .bool true) rfl rfl ?_ (fun _ _ => rfl) (Ok.refl _)
            clear hF
            go_simp
          · intro vs2 w4 hV hR2
            have e12 : vs2 12 = .bool true := hV 12 (by decide) _ (Ok.refl _)
            have hok4 := HOK.out.trans ((Ok.refl W2).drew.trans hR2)
            clear hV HX HB KU KV HLE
            simp only [putFrom, e12]
            simp only [Act.put, List.setIfInBounds_toArray, List.set_cons_zero, List.set_cons_succ]
            go_wp2
            go_ret
            exact ⟨rfl, hok4⟩
theorem own : ownKnob Try.prog.godebug = none := by kernel_rfl
theorem laidOut : laidOutB Try.prog = true := by kernel_rfl
set_option maxRecDepth 100000 in
theorem lifted (os : Os) (started : os.Started) (H : Type) (enc : TypeId × Value → H) :
    ReturnsInHanded {} Try.checked os 6 .any (Rows.probeNarrowsSpec.pre6 enc Try.prog Try.f6 Rows.probeNarrowsRow.domain false) (Rows.probeNarrowsSpec.post enc Try.prog Try.f6 false true false false) := by
  refine returnsInHanded_of_change (C := Try.checked) own started (by kernel_rfl) Try.func6
    (ChangeSpec.witness6 (enc := enc) (C := Try.checked) false ⟨#[], #[.agg #[.int .i64 0, .int .i64 0, .int .i64 0, .int .i64 0, .int .i64 0, .int .i64 0, .int .i64 0, .int .i64 0, .int .i64 0, .int .i64 0, .int .i64 0, .int .i64 0], .slice none 0 0, .agg #[.int .i64 0, .int .i64 0, .int .i64 0, .int .i64 0]], []⟩ 8 (by kernel_rfl) (by kernel_rfl) (by kernel_rfl) (by kernel_rfl)) ?_
  intro W base args ds gs before hval0 hW _ _
  have hval : ∀ (j : Nat) t v, Try.f6.params[j]? = some t → args[j]? = some v → Value.okWide Try.prog W .any base t v := hval0
  have hW' := hW
  obtain ⟨p, q, hA, hV, rfl, _, _⟩ := hW
  obtain ⟨rfl, rfl⟩ := trodVars_none hV
  replace hA : DataW.TrodAll enc Try.prog W 0 (fun _ => true) true Try.f6.params.toList args.toList ds p := hA
  rw [Try.params6] at hA hval
  obtain ⟨v0, vs0, d0, ds0, p0, q0, hargs, rfl, rfl, h0, r0⟩ := trodAll_cons hA
  obtain ⟨v1, vs1, d1, ds1, p1, q1, rfl, rfl, rfl, h1, r1⟩ := trodAll_cons r0
  obtain ⟨v2, vs2, d2, ds2, p2, q2, rfl, rfl, rfl, h2, r2⟩ := trodAll_cons r1
  obtain ⟨rfl, rfl, rfl⟩ := trodAll_nil r2
  obtain rfl : args = #[v0, v1, v2] := by cases args; simp_all
  obtain ⟨p0, rfl, wp0⟩ := open_par Try.underlying23 rfl (by kernel_rfl) (by kernel_rfl) (by kernel_rfl) (hval 0 23 v0 rfl rfl) h0
  obtain ⟨A1, l1, c1, rfl, hA1, hl1, hw1⟩ := open_slice_rows tripcells tripok tripkinds triplen tripof (by decide) Try.underlying31 Try.underlying25 (by kernel_rfl) (by kernel_rfl) (by kernel_rfl) (hval 1 31 v1 rfl rfl) h1
  obtain ⟨s2_0, s2_1, s2_2, s2_3, rfl, ws2_0, ws2_1, ws2_2, ws2_3⟩ := open_four Try.underlying25 (by kernel_rfl) (by kernel_rfl) (by kernel_rfl) (by kernel_rfl) (by kernel_rfl) (by kernel_rfl) (hval 2 25 v2 rfl rfl) h2
  refine (walk W p0 wp0 A1 l1 c1 hA1 hl1 hw1 s2_0 s2_1 s2_2 s2_3 ws2_0 ws2_1 ws2_2 ws2_3).mono fun e W' ⟨he, hb⟩ => ?_
  subst he
  exact ⟨_, rfl, law_post hW' laidOut (by rw [Try.params6]; exact params_ok (by kernel_rfl)) rfl (by kernel_rfl) Try.underlying4 rfl rfl rfl hb⟩
theorem over : Rows.probeNarrowsRow.holds Try.pinned (OpenSpec.ofChange Rows.probeNarrowsSpec) :=
  OpenClaim.holds_of_wide 6 Try.f6 rfl rfl rfl rfl rfl rfl rfl ⟨rfl, rfl, rfl, rfl, rfl⟩ rfl rfl rfl rfl rfl (by kernel_rfl) Try.func6 (by kernel_rfl)
    (of_decide_eq_true (by kernel_rfl)) (by unfold Func.isWrapper; first | (rw [if_pos (by decide +kernel)]; kernel_rfl) | (rw [if_neg (by decide +kernel)]; exact ⟨rfl, rfl⟩))
    (fun os started H enc _ => lifted os started H enc)
theorem proved : Rows.ProbeNarrowsSaid := over
end Go.Proofs.Ytfhagccelkjflaa.probeNarrows
