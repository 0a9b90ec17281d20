/- AnchorHolds: for all numbers of a fabric, every time, all that gateways see and all lies the law answers true: whoever lies, the time is in what is fused, and that isn't wider than twice the error and a hop. No condition. -/
import Derived.Test.YtlbijepejihjgaaC16c
import Derived.Test.YtlbijepejihjgaaC04d
import Derived.Test.YtlbijepejihjgaaC11a
import Derived.Test.YtlbijepejihjgaaM32
import Derived.Test.YtlbijepejihjgaaW16
import Derived.Test.YtlbijepejihjgaaW18
import Derived.Test.YtlbijepejihjgaaW20
namespace Go.Proofs.Ytlbijepejihjgaa.anchorHolds
open Go.ChangeShapes Go.WideShapes Go.ChangeAt Go.RowKit
set_option linter.unusedVariables false
set_option maxRecDepth 100000
attribute [local go_sem ↓] Go.wp_at_zero Go.wp_at_succ
def tldcells (t : Tld) : List Value := [.int .i64 t.err, .int .i64 t.way, .int .i64 t.off]
theorem tldcells_len : ∀ t, (tldcells t).length = 3 := fun _ => rfl
def tldok (t : Tld) : Prop := (Lit.int .i64 t.err).wf = true ∧ (Lit.int .i64 t.way).wf = true ∧ (Lit.int .i64 t.off).wf = true
def tldkinds : List Kind := [.int, .int, .int]
theorem tldlen : ∀ t, (tldcells t).length = tldkinds.length := fun _ => rfl
theorem tldof : ∀ r, Kind.rows tldkinds r → ∃ t, r = tldcells t ∧ tldok t
  | [x, y, z], ⟨⟨a, ha, ha'⟩, ⟨b, hb, hb'⟩, ⟨c, hc, hc'⟩, _⟩ => ⟨⟨a, b, c⟩, by rw [ha, hb, hc]; rfl, ha', hb', hc'⟩
  | [], h => h.elim
  | [_], h => h.2.elim
  | [_, _], h => h.2.2.elim
  | _ :: _ :: _ :: _ :: _, h => h.2.2.2.elim
theorem tld_at {w : World} {A : Option Addr} {l : List Tld} (h : CellsAt w A (l.flatMap tldcells)) (k : Nat) (hk : k < l.length) :
    ∃ b off, A = some ⟨b, off, none⟩ ∧ b < w.heap.size ∧ w.cell? ⟨b, off + k * 3, none⟩ = some (.int .i64 l[k].err) ∧ w.cell? ⟨b, off + k * 3 + 1, none⟩ = some (.int .i64 l[k].way) ∧ w.cell? ⟨b, off + k * 3 + 2, none⟩ = some (.int .i64 l[k].off) := by
  obtain ⟨b, off, e, hlt, hc⟩ := h.at tldcells_len (by decide) k hk
  exact ⟨b, off, e, hlt, hc 0 _ rfl, hc 1 _ rfl, hc 2 _ rfl⟩
theorem spanInfo : (Try.prog.info? 28).map (fun i => (i.zero, i.size, i.bytes)) = some (some (.agg #[.int .i64 0, .int .i64 0]), 2, 16) := by kernel_rfl
theorem row_ok {w w1 : World} {B n sz : Nat} {e : TypeId} {v : Value} {xs : List Value} (h : w.ownsRow B e sz v n xs) (k : Ok w w1) : w1.ownsRow B e sz v n xs :=
  h.kept (w' := w1) (row := none) ⟨k.below.os, k.below.tape, k.below.output, k.size, fun i hi _ => k.below.block i hi⟩ (by cases v.ownBlock <;> simp)
/-- The spans so far. -/
def Told (W : World) (B : Nat) (v : Value) (xs : List (Int × Int)) : Prop := W.ownsRow B 28 2 v xs.length (cellsOfPairs xs)
theorem fused {f : Nat} {l : List (Int × Int)} {x W : Int} (hx : -2305843009213693952 ≤ x ∧ x ≤ 2305843009213693952) (hf : f < l.length) (hm : 2 * f + 1 ≤ l.length) (hw : l.countP (fun s => !decide (s.1 ≤ x ∧ x ≤ s.2)) ≤ f) (hr : 2 * f + 1 ≤ l.countP (Anchor.right x W)) :
    fLeft f l = true ∧ (fz f l).1 ≤ x ∧ x ≤ (fz f l).2 ∧ (fz f l).2 - (fz f l).1 ≤ W ∧ -2305843009213693952 ≤ (fz f l).1 ∧ (fz f l).2 ≤ 2305843009213693952 := by
  have hlo : Trim.PickMost f (l.map (·.1)) (fLo f l) := by
    unfold Trim.PickMost fLo
    have := Trim.val_pick (k := (l.length : Int) - 1 - f) (l := l.map (·.1)) (by rw [List.length_map]; omega)
    rw [List.length_map]
    rwa [show ((l.length : Int) - 1 - f).toNat = l.length - 1 - f by omega] at this
  have hhi : Trim.Pick f (l.map (·.2)) (fHi f l) := by
    have := Trim.val_pick (k := (f : Int)) (l := l.map (·.2)) (by rw [List.length_map]; omega)
    rwa [Int.toNat_natCast] at this
  obtain ⟨h1, h2, s, hs, k0, k1, k2⟩ := Trim.fuse_by hf hlo hhi hw (Anchor.right x W) hr
  obtain ⟨⟨s1, s2⟩, s3, s4, s5⟩ := of_decide_eq_true k0
  obtain ⟨h4, h5⟩ := fLeft_t (f := (f : Int)) (l := l) (decide_eq_true (by omega)) (Int.le_trans h1 h2)
  rw [h5, Sat.clip_in (x := fLo f l) (by omega) (by omega), Sat.clip_in (x := fHi f l) (by omega) (by omega)]
  exact ⟨h4, h1, h2, by simp only; omega, by simp only; omega, by simp only; omega⟩
theorem fused_told {p : Par} (h : Lim.May p) {now : Int} (hn : -576460752303423488 ≤ now ∧ now ≤ 576460752303423488) {l : List Tld} (hl : ∀ t ∈ l, Anchor.Fine p t) {q : List (Int × Int)} (hq : (q.length : Int) ≤ p.f) (h2 : 2 * p.f + 1 ≤ (l.length : Int)) :
    fLeft p.f (q ++ l.map (Anchor.carried p now)) = true ∧ (fz p.f (q ++ l.map (Anchor.carried p now))).1 ≤ now + p.beat ∧ now + p.beat ≤ (fz p.f (q ++ l.map (Anchor.carried p now))).2 ∧
    (fz p.f (q ++ l.map (Anchor.carried p now))).2 - (fz p.f (q ++ l.map (Anchor.carried p now))).1 ≤ 2 * p.eps + Lim.hop p ∧ -2305843009213693952 ≤ (fz p.f (q ++ l.map (Anchor.carried p now))).1 ∧ (fz p.f (q ++ l.map (Anchor.carried p now))).2 ≤ 2305843009213693952 := by
  have ha := Anchor.all_right h hn hl
  obtain ⟨b1, r1, d1, j1, e1⟩ := Lim.May.bds h
  obtain ⟨n, hf⟩ : ∃ n : Nat, p.f = n := ⟨p.f.toNat, by have := h.1.2.1; omega⟩
  rw [hf] at hq h2 ⊢
  have hlen : (q ++ l.map (Anchor.carried p now)).length = q.length + l.length := by simp
  have hz : (l.map (Anchor.carried p now)).countP (fun s => !decide (s.1 ≤ now + p.beat ∧ now + p.beat ≤ s.2)) = 0 := by
    rw [List.countP_eq_zero]
    intro s hs
    have := (of_decide_eq_true (ha s hs)).1
    simp [this]
  have hr : (l.map (Anchor.carried p now)).countP (Anchor.right (now + p.beat) (2 * p.eps + Lim.hop p)) = l.length := by
    rw [List.countP_eq_length.2 ha, List.length_map]
  have hc : q.countP (fun s => !decide (s.1 ≤ now + p.beat ∧ now + p.beat ≤ s.2)) ≤ q.length := List.countP_le_length
  refine fused (by omega) (by omega) (by omega) ?_ ?_
  · rw [List.countP_append, hz]; omega
  · rw [List.countP_append, hr]; omega
theorem told_snoc (p : Par) (now : Int) {l : List Tld} {k : Nat} (h : k < l.length) (q : List (Int × Int)) : q ++ (l.take (k + 1)).map (Anchor.carried p now) = (q ++ (l.take k).map (Anchor.carried p now)) ++ [Carry.way p (Anchor.seen p (now + l[k].err)) (p.beat - l[k].way + l[k].off)] := by
  rw [take_more h, List.map_append, List.append_assoc]; rfl
theorem no0 (w : World) (p : Par) (now : Int) (A : Option Addr) (l : List Tld) (c : Nat) (B : Option Addr) (q : List (Int × Int)) (cq : Nat) (hm : ¬ Lim.May p) : Calls Try.prog 4 #[parV p, .int .i64 now, .slice A l.length c, .slice B q.length cq] w fun e w' => e = .returned (.bool true) ∧ Ok w w' := by
  have hP := Own.new w (parCells p) 23 rfl
  have hok := (Ok.refl w).alloc (.cells (parCells p) 23)
  have KC := Lib.hid fun w => limCheck p w
  rw [show Lim.check p = 1 from if_neg hm] at KC
  clear hm
  go_enter Try.func4, Try.ntmps4
  go_upto_region 1 with fail
  generalize w.alloc (.cells (parCells p) 23) = W at hP hok ⊢
  obtain ⟨g, hg⟩ : ∃ r, w.heap.size = r := ⟨_, rfl⟩
  rw [hg] at hP ⊢
  clear hg
  go_wp2_with (first | (go_at_call 7; (with_reducible refine (law16Alive _).mono ?_); rintro e w1 ⟨rfl, hb1⟩; replace hP := hP.next hb1; replace hok := hok.trans hb1; clear hb1; obtain ⟨c0, c1, c2, c3, c4, c5, c6, c7, c8, c9, c10, c11⟩ := hP.pars; have hPl := hP.lt) | (go_at_call 16; (with_reducible refine (KC.out _).mono ?_); rintro e w2 ⟨rfl, hb1⟩; replace hP := hP.next hb1; replace hok := hok.trans hb1; clear hb1; clear c0 c1 c2 c3 c4 c5 c6 c7 c8 c9 c10 c11 hPl; obtain ⟨c0, c1, c2, c3, c4, c5, c6, c7, c8, c9, c10, c11⟩ := hP.pars; have hPl := hP.lt))
  go_ret
  exact ⟨rfl, hok⟩
theorem no1 (w : World) (p : Par) (now : Int) (A : Option Addr) (l : List Tld) (c : Nat) (B : Option Addr) (q : List (Int × Int)) (cq : Nat) (hm : Lim.May p) (hbig : (((576460752303423488 < now ∨ now < -576460752303423488) ∨ 16 < l.length) ∨ p.f < (q.length : Int)) ∨ (l.length : Int) < 2 * p.f + 1) (hl : l.length ≤ 9223372036854775807) (hq : q.length ≤ 9223372036854775807) : Calls Try.prog 4 #[parV p, .int .i64 now, .slice A l.length c, .slice B q.length cq] w fun e w' => e = .returned (.bool true) ∧ Ok w w' := by
  have hP := Own.new w (parCells p) 23 rfl
  have hok := (Ok.refl w).alloc (.cells (parCells p) 23)
  have KC := Lib.hid fun w => limCheck p w
  rw [show Lim.check p = 0 from if_pos hm] at KC
  have hf : 0 ≤ p.f ∧ p.f ≤ 5 := by have := hm.1; unfold Lim.Gates at this; omega
  obtain ⟨f0, f1⟩ := hf
  clear hm
  go_enter Try.func4, Try.ntmps4
  go_upto_region 1 with fail
  generalize w.alloc (.cells (parCells p) 23) = W at hP hok ⊢
  obtain ⟨g, hg⟩ : ∃ r, w.heap.size = r := ⟨_, rfl⟩
  rw [hg] at hP ⊢
  clear hg
  go_wp2_with (first | (go_at_call 7; (with_reducible refine (law16Alive _).mono ?_); rintro e w1 ⟨rfl, hb1⟩; replace hP := hP.next hb1; replace hok := hok.trans hb1; clear hb1; obtain ⟨c0, c1, c2, c3, c4, c5, c6, c7, c8, c9, c10, c11⟩ := hP.pars; have hPl := hP.lt) | (go_at_call 16; (with_reducible refine (KC.out _).mono ?_); rintro e w2 ⟨rfl, hb1⟩; replace hP := hP.next hb1; replace hok := hok.trans hb1; clear hb1; clear c0 c1 c2 c3 c4 c5 c6 c7 c8 c9 c10 c11 hPl; obtain ⟨c0, c1, c2, c3, c4, c5, c6, c7, c8, c9, c10, c11⟩ := hP.pars; have hPl := hP.lt))
  all_goals first
    | (exfalso; omega)
    | (go_ret; exact ⟨rfl, hok⟩)
/-- What each operation leaves. -/
def VMAH (B S : Nat) (p : Par) (lo hi nx h : Int) (w : World) (v : Value) : Nat → Prop
  | 0 => v = .bool true
  | 1 => v = .bool true
  | 2 => v = .pointer (some ⟨S, 0, none⟩)
  | 3 => v = .int .i64 lo
  | 4 => v = .int .i64 nx
  | 5 => v = .bool true
  | 6 => v = .bool true
  | 7 => v = .bool true
  | 8 => v = .int .i64 nx
  | 9 => v = .pointer (some ⟨S, 1, none⟩)
  | 10 => v = .int .i64 hi
  | 11 => v = .bool true
  | 12 => v = .bool true
  | 13 => v = .bool true
  | 14 => v = .pointer (some ⟨S, 1, none⟩)
  | 15 => v = .int .i64 hi
  | 16 => v = .pointer (some ⟨S, 0, none⟩)
  | 17 => v = .int .i64 lo
  | 18 => v = .int .i64 (hi - lo)
  | 19 => v = .pointer (some ⟨B, 7, none⟩)
  | 20 => v = .int .i64 p.eps
  | 21 => v = .int .i64 (2 * p.eps)
  | 22 => v = parV p
  | 23 => v = .int .i64 h
  | 24 => v = .int .i64 (2 * p.eps + h)
  | 25 => v = .bool true
  | 26 => v = .bool true
  | 27 => v = .bool true
  | _ => v = .bool true
/-- It stays so. -/
def VCAH (B S : Nat) (p : Par) (lo hi nx h : Int) (i : Nat) (v : Value) (w : World) : Prop := ∀ w', Ok w w' → VMAH B S p lo hi nx h w' v i
set_option maxHeartbeats 3200000 in
theorem yes (w : World) (p : Par) (now : Int) (A : Option Addr) (l : List Tld) (c : Nat) (B : Option Addr) (q : List (Int × Int)) (cq : Nat) (hA : CellsAt w A (l.flatMap tldcells)) (hB : PairsAt w B q) (hm : Lim.May p) (h1 : now ≤ 576460752303423488) (h2 : -576460752303423488 ≤ now) (h3 : l.length ≤ 16) (h4 : (q.length : Int) ≤ p.f) (h5 : 2 * p.f + 1 ≤ (l.length : Int)) : Calls Try.prog 4 #[parV p, .int .i64 now, .slice A l.length c, .slice B q.length cq] w fun e w' => e = .returned (.bool true) ∧ Ok w w' := by
  have hP := Own.new w (parCells p) 23 rfl
  have hok := (Ok.refl w).alloc (.cells (parCells p) 23)
  have KC := Lib.hid fun w => limCheck p w
  rw [show Lim.check p = 0 from if_pos hm] at KC
  have hf : 0 ≤ p.f ∧ p.f ≤ 5 := by have := hm.1; unfold Lim.Gates at this; omega
  obtain ⟨f0, f1⟩ := hf
  replace hA := hA.below hok
  replace hB := hB.below hok
  have HT := Lib.hid fun hl => fused_told hm ⟨h2, h1⟩ (l := l) hl (q := q) h4 h5
  have HM := Lib.hid hm
  clear hm
  go_enter Try.func4, Try.ntmps4
  go_upto_region 1 with fail
  generalize w.alloc (.cells (parCells p) 23) = W at hP hok hA hB ⊢
  obtain ⟨g, hg⟩ : ∃ r, w.heap.size = r := ⟨_, rfl⟩
  rw [hg] at hP ⊢
  clear hg
  go_upto_region 5 with (first | (go_at_call 7; (with_reducible refine (law16Alive _).mono ?_); rintro e w1 ⟨rfl, hb1⟩; replace hP := hP.next hb1; replace hA := hA.below hb1; replace hB := hB.below hb1; replace hok := hok.trans hb1; clear hb1; obtain ⟨c0, c1, c2, c3, c4, c5, c6, c7, c8, c9, c10, c11⟩ := hP.pars; have hPl := hP.lt) | (go_at_call 16; (with_reducible refine (KC.out _).mono ?_); rintro e w2 ⟨rfl, hb1⟩; replace hP := hP.next hb1; replace hA := hA.below hb1; replace hB := hB.below hb1; replace hok := hok.trans hb1; clear hb1; clear c0 c1 c2 c3 c4 c5 c6 c7 c8 c9 c10 c11 hPl; obtain ⟨c0, c1, c2, c3, c4, c5, c6, c7, c8, c9, c10, c11⟩ := hP.pars; have hPl := hP.lt))
  clear KC
  go_upto_region 6 with (at_builtin; refine wpList_append_pairs rfl _ _ 25 rfl w2.heap.size 28 Try.underlying25 spanInfo _ [] 0 rfl rfl (World.ownsRow_made w2 #[] 0 (Nat.le_refl _) (Nat.zero_le _) rfl) B q q.length cq rfl rfl (hB.alloc _) (by simp; omega) (by simp) ?_; intro v1 w3 hown1 hgrow1; rw [List.nil_append] at hown1)
  have hgrow2 : (w2.alloc (.cells #[] 28)).grownBy w3 (some w2.heap.size) := hgrow1
  have hk3 : Ok w2 w3 := Below.grown ((Ok.refl w2).alloc _) hgrow2 (by simp) (fun k hk => by cases hk; exact Nat.le_refl _)
  have hs3 := hk3.size
  clear hgrow1 hgrow2 hB c0 c1 c2 c3 c4 c5 c6 c7 c8 c9 c10 c11 hPl
  go_wp2_with fail
  go_loopw [9, 56] (fun v i wr => ∃ k : Nat, k ≤ l.length ∧ i = .int .i64 k ∧ Told wr w2.heap.size v (q ++ (l.take k).map (Anchor.carried p now)) ∧ Ok w2 wr ∧ ∀ t ∈ l.take k, Anchor.Fine p t) (fun _ i _ => l.length - (intOf i).toNat)
  case atStart => exact ⟨0, Nat.zero_le _, rfl, by rw [List.take_zero, List.map_nil, List.append_nil]; exact hown1, hk3, fun t ht => by simp at ht⟩
  case round =>
    obtain ⟨k, hk, rfl, hM, hok2, hfine⟩ := hrel
    clear hown1 hk3 hs3
    by_cases hlt : k < l.length
    · obtain ⟨b, off, hA2, hb, t0, t1, t2⟩ := tld_at (hA.below hok2) k hlt
      subst hA2
      have HS := Lib.hid (told_snoc p now hlt q)
      have HN := Lib.hid (show Anchor.Fine p l[k] → ∀ t ∈ l.take (k + 1), Anchor.Fine p t from fun h t ht => by
        rw [take_more hlt] at ht
        rcases List.mem_append.1 ht with h' | h'
        · exact hfine t h'
        · rw [List.mem_singleton.1 h']; exact h)
      have HX := Lib.hid (show Anchor.Fine p l[k] ↔ (-p.eps ≤ l[k].err ∧ l[k].err ≤ p.eps) ∧ (p.delay - p.jit ≤ l[k].way ∧ l[k].way ≤ p.delay) ∧ -p.rho ≤ l[k].off ∧ l[k].off ≤ p.rho from Iff.rfl)
      have hlen : (q ++ (l.take k).map (Anchor.carried p now)).length ≤ 32 := by simp; omega
      have HLn := Lib.hid hlen
      obtain ⟨b1, r1, d1, j1, e1⟩ := Lim.May.bds HM.out
      clear hfine HT hlen
      generalize l[k].err = er at t0 HS HX
      generalize l[k].way = wy at t1 HS HX
      generalize l[k].off = of at t2 HS HX
      generalize q ++ (l.take k).map (Anchor.carried p now) = xs at hM HS HLn
      replace hP := hP.next hok2
      obtain ⟨c0, c1, c2, c3, c4, c5, c6, c7, c8, c9, c10, c11⟩ := hP.pars
      have hPl := hP.lt
      have hsz := hok2.size
      by_cases hn : ((((p.eps < er ∨ er < -p.eps) ∨ p.delay < wy) ∨ wy < p.delay - p.jit) ∨ p.rho < of) ∨ of < -p.rho
      · replace hok := hok.trans hok2
        clear HS HN HX HLn hM HM
        go_wp2_with fail
        all_goals first
          | (exfalso; omega)
          | (go_ret; exact ⟨rfl, hok.alloc _⟩)
      · have n1 : er ≤ p.eps := by omega
        have n2 : -p.eps ≤ er := by omega
        have n3 : wy ≤ p.delay := by omega
        have n4 : p.delay - p.jit ≤ wy := by omega
        have n5 : of ≤ p.rho := by omega
        have n6 : -p.rho ≤ of := by omega
        clear hn
        replace HN := Lib.hid (HN.out (HX.out.2 ⟨⟨n2, n1⟩, ⟨n4, n3⟩, n6, n5⟩))
        have KS := Lib.hid fun w => anchorSeen p (now + er) w
        rw [(Anchor.seen_in HM.out (x := now + er) (by omega)).1] at KS
        obtain ⟨sx, sy, hs⟩ : ∃ sx sy, Anchor.seen p (now + er) = (sx, sy) := ⟨_, _, rfl⟩
        rw [hs] at KS HS
        clear hs
        have KW := Lib.hid fun w => carryWay p sx sy (p.beat - wy + of) w
        obtain ⟨u, v, hv⟩ : ∃ u v, Carry.way p (sx, sy) (p.beat - wy + of) = (u, v) := ⟨_, _, rfl⟩
        rw [hv] at KW HS
        clear hv HX HM
        simp only at KS KW
        have hrow := fun g hg => (World.ownsRow.lt hM g hg).1
        have HW := Lib.hid hrow
        clear hrow
        go_upto_region 9 with fail
        have hX := Own.new wr #[.int .i64 er, .int .i64 wy, .int .i64 of] 42 rfl
        replace hok2 := hok2.alloc (.cells #[.int .i64 er, .int .i64 wy, .int .i64 of] 42)
        replace hP := hP.alloc (.cells #[.int .i64 er, .int .i64 wy, .int .i64 of] 42)
        replace hM := World.ownsRow.alloc hM (.cells #[.int .i64 er, .int .i64 wy, .int .i64 of] 42)
        obtain ⟨X, hXe⟩ : ∃ X, wr.heap.size = X := ⟨_, rfl⟩
        rw [hXe] at hX ⊢
        generalize wr.alloc (.cells #[.int .i64 er, .int .i64 wy, .int .i64 of] 42) = W3 at hX hok2 hP hM ⊢
        clear t0 t1 t2 hb hsz hXe c0 c1 c2 c3 c4 c5 c6 c7 c8 c9 c10 c11 hPl
        have x0 := hX.cell 0 rfl
        have x1 := hX.cell 1 rfl
        have x2 := hX.cell 2 rfl
        have hXl := hX.lt
        obtain ⟨c0, c1, c2, c3, c4, c5, c6, c7, c8, c9, c10, c11⟩ := hP.pars
        have hPl := hP.lt
        go_wp2_with (first
          | (go_at_call 8; (with_reducible refine (KS.out _).mono ?_); rintro e w4 ⟨rfl, hb1⟩; replace hb1 := hb1.alloc (.cells #[.int .i64 sx, .int .i64 sy] 28); replace hP := hP.next hb1; replace hX := hX.next hb1; replace hM := row_ok hM hb1; replace hok2 := hok2.trans hb1; clear hb1 x0 x1 x2 hXl c0 c1 c2 c3 c4 c5 c6 c7 c8 c9 c10 c11 hPl; have x0 := hX.cell 0 rfl; have x1 := hX.cell 1 rfl; have x2 := hX.cell 2 rfl; have hXl := hX.lt; obtain ⟨c0, c1, c2, c3, c4, c5, c6, c7, c8, c9, c10, c11⟩ := hP.pars; have hPl := hP.lt)
          | (go_at_call 17; (with_reducible refine (KW.out _).mono ?_); rintro e w5 ⟨rfl, hb1⟩; replace hM := row_ok hM hb1; replace hok2 := hok2.trans hb1; have hsz := hok2.size; clear hb1 hP hX x0 x1 x2 hXl c0 c1 c2 c3 c4 c5 c6 c7 c8 c9 c10 c11 hPl)
          | (at_builtin; refine wpList_append_pairs rfl _ _ 25 rfl w2.heap.size 28 Try.underlying25 spanInfo _ xs xs.length rfl (by first | rfl | simp) (World.ownsRow.alloc hM _) (some ⟨w5.heap.size, 0, none⟩) [(u, v)] 1 1 rfl rfl (pairs_new _ [(u, v)] _ _ rfl (by simp)) (by have := HLn.out; simp; omega) (by simp; omega) ?_; intro v2 w6 hown hgrow))
        have hb1 : Ok w2 w6 := Below.grown (hok2.alloc _) hgrow (by simp; omega) HW.out
        rw [← HS.out] at hown
        go_wp2_with fail
        go_roundw
        case rel => exact ⟨k + 1, by omega, by go_num, hown, hb1, HN.out⟩
        case measure => simp [intOf]; omega
    · have ek : l.take k = l := List.take_of_length_le (by omega)
      rw [ek] at hM hfine
      clear ek
      obtain ⟨g1, g2, g3, g4, g5, g6⟩ := HT.out hfine
      have hlen : (q ++ l.map (Anchor.carried p now)).length ≤ 1099511627776 := by simp; omega
      obtain ⟨b1, r1, d1, j1, e1⟩ := Lim.May.bds HM.out
      have hhop := Lim.hop_in (Lim.May.small HM.out)
      clear HT hfine
      generalize q ++ l.map (Anchor.carried p now) = xs at hM g1 g2 g3 g4 g5 g6 hlen
      obtain ⟨A2, ca, rfl, hI⟩ := PairsAt.of_own hM
      clear hM
      have KF := Lib.hid fun w h => anchorFuse p A2 xs ca w h hlen ⟨by omega, by omega⟩
      have KH := Lib.hid fun w => limHop p w
      rw [g1] at KF
      clear g1 hlen
      generalize (fz p.f xs).1 = lo at KF g2 g4 g5
      generalize (fz p.f xs).2 = hi at KF g3 g4 g6
      obtain ⟨nx, hnx⟩ : ∃ nx, now + p.beat = nx := ⟨_, rfl⟩
      obtain ⟨h, hh⟩ : ∃ h, Lim.hop p = h := ⟨_, rfl⟩
      rw [hh] at KH g4 hhop
      have HB := Lib.hid (show lo ≤ nx ∧ nx ≤ hi ∧ hi - lo ≤ 2 * p.eps + h ∧ -2305843009213693952 ≤ lo ∧ hi ≤ 2305843009213693952 ∧ (0 ≤ p.eps ∧ p.eps ≤ 1099511627776) ∧ (0 ≤ h ∧ h ≤ 4398046511104) ∧ (-1152921504606846976 ≤ nx ∧ nx ≤ 1152921504606846976) by omega)
      replace hP := hP.next hok2
      replace hok := hok.trans hok2
      clear hok2 hhop hh g2 g3 g4 g5 g6 HM
      obtain ⟨c0, c1, c2, c3, c4, c5, c6, c7, c8, c9, c10, c11⟩ := hP.pars
      have hPl := hP.lt
      have HNX := Lib.hid hnx
      clear hnx
      go_upto_region 18 with (go_at_call 12; (with_reducible refine (KF.out _ hI).mono ?_); rintro e w4 ⟨rfl, hb1⟩; replace hb1 := hb1.alloc (.cells #[.int .i64 lo, .int .i64 hi] 28); have hS := Own.new w4 #[.int .i64 lo, .int .i64 hi] 28 rfl; replace hP := hP.next hb1; replace hok := hok.trans hb1; clear hb1 hI c0 c1 c2 c3 c4 c5 c6 c7 c8 c9 c10 c11 hPl)
      rw [HNX.out]
      clear HNX KF
      obtain ⟨S, hSe⟩ : ∃ S, w4.heap.size = S := ⟨_, rfl⟩
      rw [hSe] at hS ⊢
      clear hSe
      generalize w4.alloc (.cells #[.int .i64 lo, .int .i64 hi] 28) = W at hS hP hok ⊢
      have HP := Lib.hid fun W' (k : Ok W.drew W') => hP.drew.next k
      have HS := Lib.hid fun W' (k : Ok W.drew W') => hS.drew.next k
      have HOK := Lib.hid hok
      clear hP hS hok b1 r1 d1 j1 e1
      refine wp_region_facts (by kernel_rfl) 168 rfl (VCAH g S p lo hi nx h) Ok (by kernel_rfl) (fun i v w w' h k w'' k' => h w'' (k.trans k')) (fun a b c => Ok.trans) (Ok.refl _) [some 141, some 142, some 143, some 144, some 145, some 146, some 147, some 148, some 149, some 150, some 151, some 152, some 153, some 154, some 155, some 156, some 157, some 158, some 159, some 160, some 161, some 162, some 163, some 164, some 165, some 166, some 167, some 8] rfl 28 rfl ⟨?_, ?_, ?_, ?_, ?_, ?_, ?_, ?_, ?_, ?_, ?_, ?_, ?_, ?_, ?_, ?_, ?_, ?_, ?_, ?_, ?_, ?_, ?_, ?_, ?_, ?_, ?_, ?_, trivial⟩ ?_
      · intro a' w' hF hR
        have e16 : a'.tmps[16]? = some (.bool true) := hF.slot 16 (by kernel_rfl) rfl
        refine wpOp_run (v := .bool true) rfl rfl ?_ (fun _ _ => rfl) (Ok.refl _)
        clear hF
        go_simp
      · intro a' w' hF hR
        obtain ⟨v0, hv0, e141⟩ := hF.get 0 141 (by kernel_rfl) (by kernel_rfl)
        obtain rfl : v0 = _ := hv0 _ (Ok.refl _)
        refine wpOp_run (v := .bool true) rfl rfl ?_ (fun _ _ => rfl) (Ok.refl _)
        clear hF
        go_simp
      · intro a' w' hF hR
        have e15 : a'.tmps[15]? = some (.pointer (some ⟨S, 0, none⟩)) := hF.slot 15 (by kernel_rfl) rfl
        obtain ⟨vg, hvg, eg⟩ := hF.get 1 142 (by kernel_rfl) (by kernel_rfl)
        obtain rfl : vg = _ := hvg _ (Ok.refl _)
        refine wpOp_runG (v := .pointer (some ⟨S, 0, none⟩)) rfl (wanted_yes rfl (by kernel_rfl) eg) ?_ (fun _ _ => rfl) (Ok.refl _)
        clear hF
        go_simp
      · intro a' w' hF hR
        obtain ⟨v2, hv2, e143⟩ := hF.get 2 143 (by kernel_rfl) (by kernel_rfl)
        obtain rfl : v2 = _ := hv2 _ (Ok.refl _)
        obtain ⟨vg, hvg, eg⟩ := hF.get 1 142 (by kernel_rfl) (by kernel_rfl)
        obtain rfl : vg = _ := hvg _ (Ok.refl _)
        have s0 := (HS.out _ hR).cell 0 rfl
        have s1 := (HS.out _ hR).cell 1 rfl
        refine wpOp_runG (v := .int .i64 lo) rfl (wanted_yes rfl (by kernel_rfl) eg) ?_ (fun _ _ => rfl) (Ok.refl _)
        clear hF
        go_simp
      · intro a' w' hF hR
        have e14 : a'.tmps[14]? = some (.int .i64 nx) := hF.slot 14 (by kernel_rfl) rfl
        obtain ⟨vg, hvg, eg⟩ := hF.get 1 142 (by kernel_rfl) (by kernel_rfl)
        obtain rfl : vg = _ := hvg _ (Ok.refl _)
        refine wpOp_runG (v := .int .i64 nx) rfl (wanted_yes rfl (by kernel_rfl) eg) ?_ (fun _ _ => rfl) (Ok.refl _)
        clear hF
        go_simp
      · intro a' w' hF hR
        obtain ⟨v3, hv3, e144⟩ := hF.get 3 144 (by kernel_rfl) (by kernel_rfl)
        obtain rfl : v3 = _ := hv3 _ (Ok.refl _)
        obtain ⟨v4, hv4, e145⟩ := hF.get 4 145 (by kernel_rfl) (by kernel_rfl)
        obtain rfl : v4 = _ := hv4 _ (Ok.refl _)
        obtain ⟨vg, hvg, eg⟩ := hF.get 1 142 (by kernel_rfl) (by kernel_rfl)
        obtain rfl : vg = _ := hvg _ (Ok.refl _)
        obtain ⟨b1, b2, b3, b4, b5, b6, b7, b8⟩ := HB.out
        refine wpOp_runG (v := .bool true) rfl (wanted_yes rfl (by kernel_rfl) eg) ?_ (fun _ _ => rfl) (Ok.refl _)
        clear hF
        go_simp
      · intro a' w' hF hR
        obtain ⟨v1, hv1, e142⟩ := hF.get 1 142 (by kernel_rfl) (by kernel_rfl)
        obtain rfl : v1 = _ := hv1 _ (Ok.refl _)
        obtain ⟨v5, hv5, e146⟩ := hF.get 5 146 (by kernel_rfl) (by kernel_rfl)
        obtain rfl : v5 = _ := hv5 _ (Ok.refl _)
        refine wpOp_run (v := .bool true) rfl rfl ?_ (fun _ _ => rfl) (Ok.refl _)
        clear hF
        go_simp
      · intro a' w' hF hR
        obtain ⟨v6, hv6, e147⟩ := hF.get 6 147 (by kernel_rfl) (by kernel_rfl)
        obtain rfl : v6 = _ := hv6 _ (Ok.refl _)
        refine wpOp_run (v := .bool true) rfl rfl ?_ (fun _ _ => rfl) (Ok.refl _)
        clear hF
        go_simp
      · intro a' w' hF hR
        have e14 : a'.tmps[14]? = some (.int .i64 nx) := hF.slot 14 (by kernel_rfl) rfl
        obtain ⟨vg, hvg, eg⟩ := hF.get 7 148 (by kernel_rfl) (by kernel_rfl)
        obtain rfl : vg = _ := hvg _ (Ok.refl _)
        refine wpOp_runG (v := .int .i64 nx) rfl (wanted_yes rfl (by kernel_rfl) eg) ?_ (fun _ _ => rfl) (Ok.refl _)
        clear hF
        go_simp
      · intro a' w' hF hR
        have e15 : a'.tmps[15]? = some (.pointer (some ⟨S, 0, none⟩)) := hF.slot 15 (by kernel_rfl) rfl
        obtain ⟨vg, hvg, eg⟩ := hF.get 7 148 (by kernel_rfl) (by kernel_rfl)
        obtain rfl : vg = _ := hvg _ (Ok.refl _)
        refine wpOp_runG (v := .pointer (some ⟨S, 1, none⟩)) rfl (wanted_yes rfl (by kernel_rfl) eg) ?_ (fun _ _ => rfl) (Ok.refl _)
        clear hF
        go_simp
      · intro a' w' hF hR
        obtain ⟨v9, hv9, e150⟩ := hF.get 9 150 (by kernel_rfl) (by kernel_rfl)
        obtain rfl : v9 = _ := hv9 _ (Ok.refl _)
        obtain ⟨vg, hvg, eg⟩ := hF.get 7 148 (by kernel_rfl) (by kernel_rfl)
        obtain rfl : vg = _ := hvg _ (Ok.refl _)
        have s0 := (HS.out _ hR).cell 0 rfl
        have s1 := (HS.out _ hR).cell 1 rfl
        refine wpOp_runG (v := .int .i64 hi) rfl (wanted_yes rfl (by kernel_rfl) eg) ?_ (fun _ _ => rfl) (Ok.refl _)
        clear hF
        go_simp
      · intro a' w' hF hR
        obtain ⟨v8, hv8, e149⟩ := hF.get 8 149 (by kernel_rfl) (by kernel_rfl)
        obtain rfl : v8 = _ := hv8 _ (Ok.refl _)
        obtain ⟨v10, hv10, e151⟩ := hF.get 10 151 (by kernel_rfl) (by kernel_rfl)
        obtain rfl : v10 = _ := hv10 _ (Ok.refl _)
        obtain ⟨vg, hvg, eg⟩ := hF.get 7 148 (by kernel_rfl) (by kernel_rfl)
        obtain rfl : vg = _ := hvg _ (Ok.refl _)
        obtain ⟨b1, b2, b3, b4, b5, b6, b7, b8⟩ := HB.out
        refine wpOp_runG (v := .bool true) rfl (wanted_yes rfl (by kernel_rfl) eg) ?_ (fun _ _ => rfl) (Ok.refl _)
        clear hF
        go_simp
      · intro a' w' hF hR
        obtain ⟨v7, hv7, e148⟩ := hF.get 7 148 (by kernel_rfl) (by kernel_rfl)
        obtain rfl : v7 = _ := hv7 _ (Ok.refl _)
        obtain ⟨v11, hv11, e152⟩ := hF.get 11 152 (by kernel_rfl) (by kernel_rfl)
        obtain rfl : v11 = _ := hv11 _ (Ok.refl _)
        refine wpOp_run (v := .bool true) rfl rfl ?_ (fun _ _ => rfl) (Ok.refl _)
        clear hF
        go_simp
      · intro a' w' hF hR
        obtain ⟨v12, hv12, e153⟩ := hF.get 12 153 (by kernel_rfl) (by kernel_rfl)
        obtain rfl : v12 = _ := hv12 _ (Ok.refl _)
        refine wpOp_run (v := .bool true) rfl rfl ?_ (fun _ _ => rfl) (Ok.refl _)
        clear hF
        go_simp
      · intro a' w' hF hR
        have e15 : a'.tmps[15]? = some (.pointer (some ⟨S, 0, none⟩)) := hF.slot 15 (by kernel_rfl) rfl
        obtain ⟨vg, hvg, eg⟩ := hF.get 13 154 (by kernel_rfl) (by kernel_rfl)
        obtain rfl : vg = _ := hvg _ (Ok.refl _)
        refine wpOp_runG (v := .pointer (some ⟨S, 1, none⟩)) rfl (wanted_yes rfl (by kernel_rfl) eg) ?_ (fun _ _ => rfl) (Ok.refl _)
        clear hF
        go_simp
      · intro a' w' hF hR
        obtain ⟨v14, hv14, e155⟩ := hF.get 14 155 (by kernel_rfl) (by kernel_rfl)
        obtain rfl : v14 = _ := hv14 _ (Ok.refl _)
        obtain ⟨vg, hvg, eg⟩ := hF.get 13 154 (by kernel_rfl) (by kernel_rfl)
        obtain rfl : vg = _ := hvg _ (Ok.refl _)
        have s0 := (HS.out _ hR).cell 0 rfl
        have s1 := (HS.out _ hR).cell 1 rfl
        refine wpOp_runG (v := .int .i64 hi) rfl (wanted_yes rfl (by kernel_rfl) eg) ?_ (fun _ _ => rfl) (Ok.refl _)
        clear hF
        go_simp
      · intro a' w' hF hR
        have e15 : a'.tmps[15]? = some (.pointer (some ⟨S, 0, none⟩)) := hF.slot 15 (by kernel_rfl) rfl
        obtain ⟨vg, hvg, eg⟩ := hF.get 13 154 (by kernel_rfl) (by kernel_rfl)
        obtain rfl : vg = _ := hvg _ (Ok.refl _)
        refine wpOp_runG (v := .pointer (some ⟨S, 0, none⟩)) rfl (wanted_yes rfl (by kernel_rfl) eg) ?_ (fun _ _ => rfl) (Ok.refl _)
        clear hF
        go_simp
      · intro a' w' hF hR
        obtain ⟨v16, hv16, e157⟩ := hF.get 16 157 (by kernel_rfl) (by kernel_rfl)
        obtain rfl : v16 = _ := hv16 _ (Ok.refl _)
        obtain ⟨vg, hvg, eg⟩ := hF.get 13 154 (by kernel_rfl) (by kernel_rfl)
        obtain rfl : vg = _ := hvg _ (Ok.refl _)
        have s0 := (HS.out _ hR).cell 0 rfl
        have s1 := (HS.out _ hR).cell 1 rfl
        refine wpOp_runG (v := .int .i64 lo) rfl (wanted_yes rfl (by kernel_rfl) eg) ?_ (fun _ _ => rfl) (Ok.refl _)
        clear hF
        go_simp
      · intro a' w' hF hR
        obtain ⟨v15, hv15, e156⟩ := hF.get 15 156 (by kernel_rfl) (by kernel_rfl)
        obtain rfl : v15 = _ := hv15 _ (Ok.refl _)
        obtain ⟨v17, hv17, e158⟩ := hF.get 17 158 (by kernel_rfl) (by kernel_rfl)
        obtain rfl : v17 = _ := hv17 _ (Ok.refl _)
        obtain ⟨vg, hvg, eg⟩ := hF.get 13 154 (by kernel_rfl) (by kernel_rfl)
        obtain rfl : vg = _ := hvg _ (Ok.refl _)
        obtain ⟨b1, b2, b3, b4, b5, b6, b7, b8⟩ := HB.out
        refine wpOp_runG (v := .int .i64 (hi - lo)) rfl (wanted_yes rfl (by kernel_rfl) eg) ?_ (fun _ _ => rfl) (Ok.refl _)
        clear hF
        go_simp; exact IntWalk.i64_in _ ⟨by omega, by omega⟩
      · intro a' w' hF hR
        have e4 : a'.tmps[4]? = some (.pointer (some ⟨g, 0, none⟩)) := hF.slot 4 (by kernel_rfl) rfl
        obtain ⟨vg, hvg, eg⟩ := hF.get 13 154 (by kernel_rfl) (by kernel_rfl)
        obtain rfl : vg = _ := hvg _ (Ok.refl _)
        refine wpOp_runG (v := .pointer (some ⟨g, 7, none⟩)) rfl (wanted_yes rfl (by kernel_rfl) eg) ?_ (fun _ _ => rfl) (Ok.refl _)
        clear hF
        go_simp
      · intro a' w' hF hR
        obtain ⟨v19, hv19, e160⟩ := hF.get 19 160 (by kernel_rfl) (by kernel_rfl)
        obtain rfl : v19 = _ := hv19 _ (Ok.refl _)
        obtain ⟨vg, hvg, eg⟩ := hF.get 13 154 (by kernel_rfl) (by kernel_rfl)
        obtain rfl : vg = _ := hvg _ (Ok.refl _)
        obtain ⟨c0, c1, c2, c3, c4, c5, c6, c7, c8, c9, c10, c11⟩ := (HP.out _ hR).pars
        refine wpOp_runG (v := .int .i64 p.eps) rfl (wanted_yes rfl (by kernel_rfl) eg) ?_ (fun _ _ => rfl) (Ok.refl _)
        clear hF
        go_simp
      · intro a' w' hF hR
        obtain ⟨v20, hv20, e161⟩ := hF.get 20 161 (by kernel_rfl) (by kernel_rfl)
        obtain rfl : v20 = _ := hv20 _ (Ok.refl _)
        obtain ⟨vg, hvg, eg⟩ := hF.get 13 154 (by kernel_rfl) (by kernel_rfl)
        obtain rfl : vg = _ := hvg _ (Ok.refl _)
        obtain ⟨b1, b2, b3, b4, b5, b6, b7, b8⟩ := HB.out
        refine wpOp_runG (v := .int .i64 (2 * p.eps)) rfl (wanted_yes rfl (by kernel_rfl) eg) ?_ (fun _ _ => rfl) (Ok.refl _)
        clear hF
        go_simp; exact IntWalk.i64_in _ ⟨by omega, by omega⟩
      · intro a' w' hF hR
        have e4 : a'.tmps[4]? = some (.pointer (some ⟨g, 0, none⟩)) := hF.slot 4 (by kernel_rfl) rfl
        obtain ⟨vg, hvg, eg⟩ := hF.get 13 154 (by kernel_rfl) (by kernel_rfl)
        obtain rfl : vg = _ := hvg _ (Ok.refl _)
        obtain ⟨c0, c1, c2, c3, c4, c5, c6, c7, c8, c9, c10, c11⟩ := (HP.out _ hR).pars
        have hPl := (HP.out _ hR).lt
        refine wpOp_runG (v := parV p) rfl (wanted_yes rfl (by kernel_rfl) eg) ?_ (fun _ _ => rfl) (Ok.refl _)
        clear hF
        go_simp
      · intro a' w' hF hR
        obtain ⟨v22, hv22, e163⟩ := hF.get 22 163 (by kernel_rfl) (by kernel_rfl)
        obtain rfl : v22 = _ := hv22 _ (Ok.refl _)
        obtain ⟨vg, hvg, eg⟩ := hF.get 13 154 (by kernel_rfl) (by kernel_rfl)
        obtain rfl : vg = _ := hvg _ (Ok.refl _)
        refine wpOp_callG (f := 18) (args := #[parV p]) rfl (wanted_yes rfl (by kernel_rfl) eg) ?_ ((KH.out _).mono ?_)
        · go_simp
        · rintro e w2 ⟨rfl, hb2⟩; exact ⟨_, rfl, fun _ _ => rfl, hb2⟩
      · intro a' w' hF hR
        obtain ⟨v21, hv21, e162⟩ := hF.get 21 162 (by kernel_rfl) (by kernel_rfl)
        obtain rfl : v21 = _ := hv21 _ (Ok.refl _)
        obtain ⟨v23, hv23, e164⟩ := hF.get 23 164 (by kernel_rfl) (by kernel_rfl)
        obtain rfl : v23 = _ := hv23 _ (Ok.refl _)
        obtain ⟨vg, hvg, eg⟩ := hF.get 13 154 (by kernel_rfl) (by kernel_rfl)
        obtain rfl : vg = _ := hvg _ (Ok.refl _)
        obtain ⟨b1, b2, b3, b4, b5, b6, b7, b8⟩ := HB.out
        refine wpOp_runG (v := .int .i64 (2 * p.eps + h)) rfl (wanted_yes rfl (by kernel_rfl) eg) ?_ (fun _ _ => rfl) (Ok.refl _)
        clear hF
        go_simp; exact IntWalk.i64_in _ ⟨by omega, by omega⟩
      · intro a' w' hF hR
        obtain ⟨v18, hv18, e159⟩ := hF.get 18 159 (by kernel_rfl) (by kernel_rfl)
        obtain rfl : v18 = _ := hv18 _ (Ok.refl _)
        obtain ⟨v24, hv24, e165⟩ := hF.get 24 165 (by kernel_rfl) (by kernel_rfl)
        obtain rfl : v24 = _ := hv24 _ (Ok.refl _)
        obtain ⟨vg, hvg, eg⟩ := hF.get 13 154 (by kernel_rfl) (by kernel_rfl)
        obtain rfl : vg = _ := hvg _ (Ok.refl _)
        obtain ⟨b1, b2, b3, b4, b5, b6, b7, b8⟩ := HB.out
        refine wpOp_runG (v := .bool true) rfl (wanted_yes rfl (by kernel_rfl) eg) ?_ (fun _ _ => rfl) (Ok.refl _)
        clear hF
        go_simp
      · intro a' w' hF hR
        obtain ⟨v13, hv13, e154⟩ := hF.get 13 154 (by kernel_rfl) (by kernel_rfl)
        obtain rfl : v13 = _ := hv13 _ (Ok.refl _)
        obtain ⟨v25, hv25, e166⟩ := hF.get 25 166 (by kernel_rfl) (by kernel_rfl)
        obtain rfl : v25 = _ := hv25 _ (Ok.refl _)
        refine wpOp_run (v := .bool true) rfl rfl ?_ (fun _ _ => rfl) (Ok.refl _)
        clear hF
        go_simp
      · intro a' w' hF hR
        obtain ⟨v26, hv26, e167⟩ := hF.get 26 167 (by kernel_rfl) (by kernel_rfl)
        obtain rfl : v26 = _ := hv26 _ (Ok.refl _)
        refine wpOp_run (v := .bool true) rfl rfl ?_ (fun _ _ => rfl) (Ok.refl _)
        clear hF
        go_simp
      intro vs W' hvs hR
      have e27 : vs 27 = .bool true := hvs 27 (by decide) _ (Ok.refl _)
      have hok4 := HOK.out.trans ((Ok.refl W).drew.trans hR)
      clear hvs HP HS KH HB HOK
      simp only [putFrom, e27]
      simp only [Act.put, List.setIfInBounds_toArray, List.set_cons_zero, List.set_cons_succ]
      go_wp2
      go_ret
      exact ⟨rfl, hok4⟩
theorem walk (w : World) (p : Par) (wp : ParWf p) (now : Int) (wn : (Lit.int .i64 now).wf = true) (A : Option Addr) (l : List Tld) (c : Nat) (hA : CellsAt w A (l.flatMap tldcells)) (hl : l.length ≤ 9223372036854775807) (hw : ∀ x ∈ l, tldok x) (B : Option Addr) (q : List (Int × Int)) (cq : Nat) (hB : PairsAt w B q) (hl2 : q.length ≤ 9223372036854775807) (hw2 : ∀ s ∈ q, (Lit.int .i64 s.1).wf = true ∧ (Lit.int .i64 s.2).wf = true) :
    Calls Try.prog 4 #[parV p, .int .i64 now, .slice A l.length c, .slice B q.length cq] w fun e w' => e = .returned (.bool true) ∧ Below w.heap.size w w' := by
  show Calls Try.prog 4 #[parV p, .int .i64 now, .slice A l.length c, .slice B q.length cq] w fun e w' => e = .returned (.bool true) ∧ Ok w w' 
  by_cases hm : Lim.May p
  rotate_left
  · exact no0 w p now A l c B q cq hm
  by_cases hbig : (((576460752303423488 < now ∨ now < -576460752303423488) ∨ 16 < l.length) ∨ p.f < (q.length : Int)) ∨ (l.length : Int) < 2 * p.f + 1
  · exact no1 w p now A l c B q cq hm hbig hl hl2
  · exact yes w p now A l c B q cq hA hB hm (by omega) (by omega) (by omega) (by omega) (by omega)
theorem own : ownKnob Try.prog.godebug = none := by kernel_rfl
theorem laidOut : laidOutB Try.prog = true := by kernel_rfl
set_option maxRecDepth 100000 in
theorem lifted (os : Os) (started : os.Started) (H : Type) (enc : TypeId × Value → H) :
    ReturnsInHanded {} Try.checked os 4 .any (Rows.anchorHoldsSpec.pre6 enc Try.prog Try.f4 Rows.anchorHoldsRow.domain false) (Rows.anchorHoldsSpec.post enc Try.prog Try.f4 false true false false) := by
  refine returnsInHanded_of_change (C := Try.checked) own started (by kernel_rfl) Try.func4
    (ChangeSpec.witness6 (enc := enc) (C := Try.checked) false ⟨#[], #[.agg #[.int .i64 0, .int .i64 0, .int .i64 0, .int .i64 0, .int .i64 0, .int .i64 0, .int .i64 0, .int .i64 0, .int .i64 0, .int .i64 0, .int .i64 0, .int .i64 0], .int .i64 0, .slice none 0 0, .slice none 0 0], []⟩ 8 (by kernel_rfl) (by kernel_rfl) (by kernel_rfl) (by kernel_rfl)) ?_
  intro W base args ds gs before hval0 hW _ _
  have hval : ∀ (j : Nat) t v, Try.f4.params[j]? = some t → args[j]? = some v → Value.okWide Try.prog W .any base t v := hval0
  have hW' := hW
  obtain ⟨p, q, hA, hV, rfl, _, _⟩ := hW
  obtain ⟨rfl, rfl⟩ := trodVars_none hV
  replace hA : DataW.TrodAll enc Try.prog W 0 (fun _ => true) true Try.f4.params.toList args.toList ds p := hA
  rw [Try.params4] at hA hval
  obtain ⟨v0, vs0, d0, ds0, p0, q0, hargs, rfl, rfl, h0, r0⟩ := trodAll_cons hA
  obtain ⟨v1, vs1, d1, ds1, p1, q1, rfl, rfl, rfl, h1, r1⟩ := trodAll_cons r0
  obtain ⟨v2, vs2, d2, ds2, p2, q2, rfl, rfl, rfl, h2, r2⟩ := trodAll_cons r1
  obtain ⟨v3, vs3, d3, ds3, p3, q3, rfl, rfl, rfl, h3, r3⟩ := trodAll_cons r2
  obtain ⟨rfl, rfl, rfl⟩ := trodAll_nil r3
  obtain rfl : args = #[v0, v1, v2, v3] := by cases args; simp_all
  obtain ⟨p0, rfl, wp0⟩ := open_par Try.underlying23 rfl (by kernel_rfl) (by kernel_rfl) (by kernel_rfl) (hval 0 23 v0 rfl rfl) h0
  obtain ⟨a1, rfl, rfl, rfl, w1⟩ := open_int Try.underlying3 (hval 1 3 v1 rfl rfl) h1
  obtain ⟨A2, l2, c2, rfl, hA2, hl2, hw2⟩ := open_slice_rows tldcells tldok tldkinds tldlen tldof (by decide) Try.underlying38 Try.underlying42 (by kernel_rfl) (by kernel_rfl) (by kernel_rfl) (hval 2 38 v2 rfl rfl) h2
  obtain ⟨A3, l3, c3, rfl, hA3, hl3, hw3⟩ := open_slice_pairs Try.underlying25 Try.underlying28 (by kernel_rfl) (by kernel_rfl) (by kernel_rfl) (by kernel_rfl) (hval 3 25 v3 rfl rfl) h3
  refine (walk W p0 wp0 a1 w1 A2 l2 c2 hA2 hl2 hw2 A3 l3 c3 hA3 hl3 hw3).mono fun e W' ⟨he, hb⟩ => ?_
  subst he
  exact ⟨_, rfl, law_post hW' laidOut (by rw [Try.params4]; exact params_ok (by kernel_rfl)) rfl (by kernel_rfl) Try.underlying4 rfl rfl rfl hb⟩
theorem over : Rows.anchorHoldsRow.holds Try.pinned (OpenSpec.ofChange Rows.anchorHoldsSpec) :=
  OpenClaim.holds_of_wide 4 Try.f4 rfl rfl rfl rfl rfl rfl rfl ⟨rfl, rfl, rfl, rfl, rfl⟩ rfl rfl rfl rfl rfl (by kernel_rfl) Try.func4 (by kernel_rfl)
    (of_decide_eq_true (by kernel_rfl)) (by unfold Func.isWrapper; first | (rw [if_pos (by decide +kernel)]; kernel_rfl) | (rw [if_neg (by decide +kernel)]; exact ⟨rfl, rfl⟩))
    (fun os started H enc _ => lifted os started H enc)
theorem proved : Rows.AnchorHoldsSaid := over
end Go.Proofs.Ytlbijepejihjgaa.anchorHolds
