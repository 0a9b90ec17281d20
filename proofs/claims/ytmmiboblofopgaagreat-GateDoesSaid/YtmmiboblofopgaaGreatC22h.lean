/- Contracts of layer 22: a gateway's beat; all that the laws ask of the program. -/
import Derived.Test.YtmmiboblofopgaaGreatC22g
import Derived.Test.YtmmiboblofopgaaGreatC22s
import Derived.Test.YtmmiboblofopgaaGreatC22n
import Derived.Test.YtmmiboblofopgaaGreatC22p
import Derived.Test.YtmmiboblofopgaaGreatW46
import Derived.Deep.CutRange
namespace Go.Proofs.YtmmiboblofopgaaGreat
open Go.RowKit
set_option linter.unusedVariables false
set_option maxRecDepth 100000
attribute [local go_sem ↓] Go.wp_at_zero Go.wp_at_succ
theorem Gate.left_perm {f : Int} {l m : List (Int × Int)} (h : l.Perm m) : Gate.left f l = Gate.left f m := by
  unfold Gate.left
  rw [h.length_eq, Trim.val_perm (h.map (·.2)), Trim.val_perm (h.map (·.1))]
theorem Gate.fused_perm {f : Int} {l m : List (Int × Int)} (h : l.Perm m) : Gate.fused f l = Gate.fused f m := by
  unfold Gate.fused
  rw [Gate.left_perm h, h.length_eq, Trim.val_perm (h.map (·.2)), Trim.val_perm (h.map (·.1))]
theorem Gate.next_perm {p : Par} {s : Sta} {ticks : Int} {l m : List (Int × Int)} (h : l.Perm m) (g : Bool) (tb : List (Int × Int)) : Gate.next p s ticks l g tb = Gate.next p s ticks m g tb := by
  unfold Gate.next
  rw [Gate.left_perm h, Gate.fused_perm h]
/-- What each operation leaves. -/
def VMBeaS (G X n2 cc : Nat) (C : Option Addr) (p : Par) (me : Int) (s u : Sta) (x : In) (w : World) (v : Value) : Nat → Prop
  | 0 => v = .pointer (some ⟨G, 0, none⟩)
  | 1 => v = .pointer (some ⟨G, 0, none⟩)
  | 2 => v = .pointer (some ⟨G, 0, none⟩)
  | 3 => v = .pointer (some ⟨X, 0, none⟩)
  | 4 => v = .int .i64 x.ticks
  | 5 => v = .pointer (some ⟨G, 0, none⟩)
  | 6 => v = .agg #[.int .i64 x.ticks, .slice x.B x.heard.length x.hcap, .bool x.ref, .int .i64 x.reading, .bool x.given, .slice x.T x.table.length x.tcap]
  | 7 => v = .slice C n2 cc
  | 8 => ∃ (A2 : Option Addr) (c2 : Nat), v = staV u A2 c2 ∧ PairsAt w A2 u.table
  | _ => v = .bool true
/-- It stays so. -/
def VCBeaS (G X n2 cc : Nat) (C : Option Addr) (p : Par) (me : Int) (s u : Sta) (x : In) (i : Nat) (v : Value) (w : World) : Prop := ∀ w', Ok w w' → VMBeaS G X n2 cc C p me s u x w' v i
/-- What each operation leaves. -/
def VMBeaY (G X E : Nat) (me q1 q2 : Int) (rd : Bool) (w : World) (v : Value) : Nat → Prop
  | 0 => v = .pointer (some ⟨G, 0, none⟩)
  | 1 => v = .pointer (some ⟨G, 0, none⟩)
  | 2 => v = .pointer (some ⟨G, 0, none⟩)
  | 3 => v = .pointer (some ⟨G, 0, none⟩)
  | 4 => v = .pointer (some ⟨G, 0, none⟩)
  | 5 => v = .pointer (some ⟨G, 23, none⟩)
  | 6 => v = .int .i64 me
  | 7 => v = .bool rd
  | 8 => v = .agg #[.int .i64 q1, .int .i64 q2]
  | _ => v = .bool true
/-- It stays so. -/
def VCBeaY (G X E : Nat) (me q1 q2 : Int) (rd : Bool) (i : Nat) (v : Value) (w : World) : Prop := ∀ w', Ok w w' → VMBeaY G X E me q1 q2 rd w' v i
/-- Where a table of one's own lies. -/
theorem row_lt22 {K : Nat} {w : World} {A : Option Addr} {cap : Nat} {l : List (Int × Int)} (h : TabRow K w A cap l) : ∀ a, A = some a → K ≤ a.block ∧ a.block < w.heap.size := fun a ha => by
  rcases h.2 with ⟨e, _⟩ | ⟨g, c2, cur, e, hb, hh, _⟩
  · injection e with e1 _ _; rw [e1] at ha; cases ha
  · injection e with e1 _ _; rw [e1] at ha; cases ha; exact ⟨hb, (Array.getElem?_eq_some_iff.1 hh).1⟩
theorem saneTable22 (p : Par) (u : Sta) : (Health.sane p u).table.length ≤ 1000 := by
  show (if Leap.good u.table = true then u.table else []).length ≤ 1000
  split
  · next h =>
    unfold Leap.good Wire.tab at h
    simp only [Bool.and_eq_true, decide_eq_true_eq] at h
    omega
  · simp
theorem stepTable22 (p : Par) (s : Sta) (t : Int) (u : Sta) : (Health.step p s t u).table.length ≤ 1000 := by
  rw [Gate.step_table]
  exact saneTable22 p u
set_option maxHeartbeats 12800000 in
theorem gateBeat (G : Nat) (p : Par) (me : Int) (s : Sta) (A : Option Addr) (cap : Nat) (x : In) (w : World) (hO : Own w G (gateCells me p s A cap)) (hA : PairsAt w A s.table) (hAG : ∀ a, A = some a → a.block ≠ G) (hl : s.table.length ≤ 9223372036854775807) (hx : InAt w x) (hh : x.heard.length ≤ 1000) (ht : x.table.length ≤ 9223372036854775807) (hf : -9223372036854775808 ≤ p.f ∧ p.f ≤ 9223372036854775807) (hd : ∀ h ∈ x.heard, h.m.table.length ≤ 8796093022208) : Calls Tryz.prog 16 #[.pointer (some ⟨G, 0, none⟩), inV x] w fun e w' => ∃ (A3 : Option Addr) (c3 : Nat) (A2 : Option Addr) (c2 : Nat), e = .returned (msgV (Gate.tells p me s x) A3 c3) ∧ Own w' G (gateCells me p (Gate.after p me s x) A2 c2) ∧ TabRow w.heap.size w' A2 c2 (Gate.after p me s x).table ∧ TabRow w.heap.size w' A3 c3 (Gate.after p me s x).table ∧ Only G w w' ∧ (∀ a b, A2 = some a → A3 = some b → a.block ≠ b.block) := by
  obtain ⟨rd, hrd⟩ : ∃ b, Gate.reads p x.ref x.reading = b := ⟨_, rfl⟩
  obtain ⟨LW, hLW⟩ : ∃ y, Gate.ways p (Gate.told p me x.hds) = y := ⟨_, rfl⟩
  have hLWl : LW.length ≤ 16 := by
    have h1 := Gate.ways_few p (Gate.told p me x.hds)
    have h2 := Gate.told_cnt p me x.hds
    rw [hLW] at h1
    omega
  have KS : Hid (∀ w', Own w' G (gateCells me p s A cap) → Calls Tryz.prog 38 #[.pointer (some ⟨G, 0, none⟩), .agg #[.int .i64 x.ticks, .slice x.B x.heard.length x.hcap, .bool x.ref, .int .i64 x.reading, .bool x.given, .slice x.T x.table.length x.tcap]] w' fun e w2 => ∃ q1 q2 : Int, e = .returned (.tuple #[spanV q1 q2, .bool rd]) ∧ (rd = true → Anchor.seen p x.reading = (q1, q2)) ∧ Ok w' w2) := Lib.hid fun w' h => by rw [← hrd]; exact gateSees G p me s A cap x w' h
  have KW : Hid (∀ w', Ok w w' → Own w' G (gateCells me p s A cap) → Calls Tryz.prog 39 #[.pointer (some ⟨G, 0, none⟩), .slice x.B x.heard.length x.hcap] w' fun e w2 => ∃ (C : Option Addr) (c : Nat), e = .returned (.slice C LW.length c) ∧ WaysRow w'.heap.size w2 (.slice C LW.length c) LW ∧ Ok w' w2) := Lib.hid fun w' k h => by rw [← hLW]; exact gateWays G p me s A cap x.B x.heard x.hcap w' h (hx.heard.below k) hh hd
  have HFO := Lib.hid fun (C : Option Addr) (l : List (Int × Int)) (cc : Nat) (w' : World) (k : Ok w w') (h : Own w' G (gateCells me p s A cap)) (hC : PairsAt w' C l) (hl : l.length ≤ 100000) => gateFollows G p me s A cap x C l cc w' h (hA.below k) (hx.table.below k) hC hl hf
  have HNP : Hid (∀ l2 : List (Int × Int), l2 = (if rd = true then LW ++ [Anchor.seen p x.reading] else LW) → Gate.next p s x.ticks l2 x.given x.table = Gate.next p s x.ticks (Gate.spans p me x.ref x.reading x.hds) x.given x.table) := Lib.hid fun l2 h => by
    refine Gate.next_perm ?_ _ _
    unfold Gate.spans
    rw [h, hrd, hLW]
    cases rd
    · simp
    · simp only [if_true]; exact List.perm_append_comm
  have HUT : Hid ((Gate.next p s x.ticks (Gate.spans p me x.ref x.reading x.hds) x.given x.table).table.length ≤ 9223372036854775807) := Lib.hid (by
    show (if x.given = true then x.table else s.table).length ≤ _
    split <;> assumption)
  obtain ⟨s2, hs2⟩ : ∃ y, Gate.state p me s x.ticks x.ref x.reading x.hds x.given x.table = y := ⟨_, rfl⟩
  have HS2 := Lib.hid hs2
  have HSL : Hid (s2.table.length ≤ 8796093022208) := Lib.hid (by
    rw [← hs2]
    exact Nat.le_trans (stepTable22 p s x.ticks _) (by decide))
  have HFIN : Hid (∀ (q1 q2 : Int) (mm : Msg), (rd = true → Anchor.seen p x.reading = (q1, q2)) → Gate.say p s2 1 me rd (if rd = true then (q1, q2) else (0, 0)) = mm → ∀ (A3 : Option Addr) (c3 : Nat) (A4 : Option Addr) (c4 : Nat) (W9 : World), Own W9 G (frontCellsR [.int .i64 me] p (Health.stamped s2) A4 c4) → TabRow w.heap.size W9 A4 c4 s2.table → TabRow w.heap.size W9 A3 c3 s2.table → Only G w W9 → (∀ a b, A4 = some a → A3 = some b → a.block ≠ b.block) →
      ∃ (A3' : Option Addr) (c3' : Nat) (A2 : Option Addr) (c2 : Nat), Ending.returned (msgV mm A3 c3) = .returned (msgV (Gate.tells p me s x) A3' c3') ∧ Own W9 G (gateCells me p (Gate.after p me s x) A2 c2) ∧ TabRow w.heap.size W9 A2 c2 (Gate.after p me s x).table ∧ TabRow w.heap.size W9 A3' c3' (Gate.after p me s x).table ∧ Only G w W9 ∧ (∀ a b, A2 = some a → A3' = some b → a.block ≠ b.block)) := Lib.hid fun q1 q2 mm hq hm A3 c3 A4 c4 W9 h1 h2 h3 h4 h5 => by
    refine ⟨A3, c3, A4, c4, ?_, ?_, ?_, ?_, h4, h5⟩
    · congr 2
      rw [← hm]
      unfold Gate.tells Gate.sees
      rw [hs2, hrd]
      cases rd
      · rfl
      · simp only [if_true]; rw [hq rfl]
    · unfold Gate.after; rw [hs2]; exact h1
    · unfold Gate.after; rw [hs2]; exact h2
    · unfold Gate.after; rw [hs2]; exact h3
  have HLWl := Lib.hid hLWl
  clear hLW hrd hs2 hLWl hA hx hh ht hf hd hl
  have hX := (Own.new w (inCells x) 44 rfl).alloc (.cells #[.int .i64 0, .int .i64 0, .int .i64 0, .int .i64 0, .int .i64 0, .int .i64 0, .bool false, .bool false, .int .i64 0, .int .i64 0, .int .i64 0, .int .i64 0, .int .i64 0, .slice none 0 0] 47)
  have hM := Own.new (w.alloc (.cells (inCells x) 44)) #[.int .i64 0, .int .i64 0, .int .i64 0, .int .i64 0, .int .i64 0, .int .i64 0, .bool false, .bool false, .int .i64 0, .int .i64 0, .int .i64 0, .int .i64 0, .int .i64 0, .slice none 0 0] 47 (g := w.heap.size + 1) (by simp)
  have hok := ((Ok.refl w).alloc (.cells (inCells x) 44)).alloc (.cells #[.int .i64 0, .int .i64 0, .int .i64 0, .int .i64 0, .int .i64 0, .int .i64 0, .bool false, .bool false, .int .i64 0, .int .i64 0, .int .i64 0, .int .i64 0, .int .i64 0, .slice none 0 0] 47)
  have hQ := (hO.alloc (.cells (inCells x) 44)).alloc (.cells #[.int .i64 0, .int .i64 0, .int .i64 0, .int .i64 0, .int .i64 0, .int .i64 0, .bool false, .bool false, .int .i64 0, .int .i64 0, .int .i64 0, .int .i64 0, .int .i64 0, .slice none 0 0] 47)
  have hGl := hO.lt
  clear hO hAG
  unfold inV
  go_enter Tryz.func16, Tryz.ntmps16
  go_upto_region 1 with fail
  change Code.wp _ _ _ _ ((w.alloc (.cells (inCells x) 44)).alloc (.cells #[.int .i64 0, .int .i64 0, .int .i64 0, .int .i64 0, .int .i64 0, .int .i64 0, .bool false, .bool false, .int .i64 0, .int .i64 0, .int .i64 0, .int .i64 0, .int .i64 0, .slice none 0 0] 47))
  generalize (w.alloc (.cells (inCells x) 44)).alloc (.cells #[.int .i64 0, .int .i64 0, .int .i64 0, .int .i64 0, .int .i64 0, .int .i64 0, .bool false, .bool false, .int .i64 0, .int .i64 0, .int .i64 0, .int .i64 0, .int .i64 0, .slice none 0 0] 47) = W0 at hX hM hok hQ ⊢
  obtain ⟨M, hMe⟩ : ∃ r, w.heap.size + 1 = r := ⟨_, rfl⟩
  obtain ⟨X, hXe⟩ : ∃ r, w.heap.size = r := ⟨_, rfl⟩
  have HD0 : Hid (X ≠ G ∧ M ≠ G ∧ w.heap.size ≤ M ∧ G < w.heap.size) := Lib.hid ⟨by omega, by omega, by omega, hGl⟩
  rw [hMe] at hM
  rw [hXe] at hX
  rw [hMe, hXe]
  clear hMe hXe hGl
  obtain ⟨i0, i1, i2, i3, i4, i5⟩ := hX.inp
  have hxl := hX.lt
  go_upto_region 4 with (go_at_call 38; refine (KS.out _ hQ).mono ?_; rintro e w3 ⟨q1, q2, rfl, hq, hb1⟩; clear i0 i1 i2 i3 i4 i5 hxl; replace hX := hX.next hb1; replace hM := hM.next hb1; replace hQ := hQ.next hb1; replace hok := hok.trans hb1; clear hb1)
  have HFIN := Lib.hid (fun mm => HFIN.out q1 q2 mm hq)
  have hw3 := hok.size
  have hE := Own.new w3 #[.int .i64 q1, .int .i64 q2] 25 rfl
  replace hX := hX.alloc (.cells #[.int .i64 q1, .int .i64 q2] 25)
  replace hM := hM.alloc (.cells #[.int .i64 q1, .int .i64 q2] 25)
  replace hQ := hQ.alloc (.cells #[.int .i64 q1, .int .i64 q2] 25)
  replace hok := hok.alloc (.cells #[.int .i64 q1, .int .i64 q2] 25)
  change Code.wp _ _ _ _ (w3.alloc (.cells #[.int .i64 q1, .int .i64 q2] 25))
  have hGE : G < w3.heap.size := Nat.lt_of_lt_of_le HD0.out.2.2.2 hw3
  generalize w3.alloc (.cells #[.int .i64 q1, .int .i64 q2] 25) = W1 at hE hX hM hQ hok ⊢
  obtain ⟨E, hEe⟩ : ∃ r, w3.heap.size = r := ⟨_, rfl⟩
  rw [hEe] at hE hGE
  rw [hEe]
  have HD : Hid (G ≠ X ∧ G ≠ E ∧ G ≠ M ∧ w.heap.size ≤ M) := Lib.hid ⟨Ne.symm HD0.out.1, by omega, Ne.symm HD0.out.2.1, HD0.out.2.2.1⟩
  clear hEe hGE hw3
  have i1 := hX.cell 1 (v := .slice x.B x.heard.length x.hcap) rfl
  have hxl := hX.lt
  go_upto_region 5 with (go_at_call 39; refine (KW.out _ hok hQ).mono ?_; rintro e w4 ⟨C, cc, rfl, hrow, hb1⟩; have hlts := And.intro hX.lt (And.intro hM.lt (And.intro hQ.lt hE.lt)); have hKw := hb1.size; clear i1 hxl; replace hX := hX.next hb1; replace hM := hM.next hb1; replace hQ := hQ.next hb1; replace hE := hE.next hb1; have hwK := hok.size; replace hok := hok.trans hb1; clear hb1)
  obtain ⟨K, hKe⟩ : ∃ r, W1.heap.size = r := ⟨_, rfl⟩
  rw [hKe] at hrow hlts hKw hwK
  have HLT := Lib.hid hlts
  have HKW := Lib.hid (And.intro hKw hwK)
  clear hKe hlts hKw hwK
  have hrow' : w4.ownsRow K 25 2 (.slice C LW.length cc) LW.length (cellsOfPairs LW) := hrow
  clear hrow
  go_upto_if 21 with fail
  go_cut [7] from 22 to 25 (fun v wx => ∃ (l2 : List (Int × Int)) (C2 : Option Addr) (c2 : Nat), v = .slice C2 l2.length c2 ∧ l2 = (if rd = true then LW ++ [Anchor.seen p x.reading] else LW) ∧ PairsAt wx C2 l2 ∧ l2.length ≤ 17 ∧ Own wx X (inCells x) ∧ Own wx E #[.int .i64 q1, .int .i64 q2] ∧ Own wx M #[.int .i64 0, .int .i64 0, .int .i64 0, .int .i64 0, .int .i64 0, .int .i64 0, .bool false, .bool false, .int .i64 0, .int .i64 0, .int .i64 0, .int .i64 0, .int .i64 0, .slice none 0 0] ∧ Own wx G (gateCells me p s A cap) ∧ Ok w wx)
  case first =>
    cases rd with
    | true =>
      have hqq := hq rfl
      have e0 := hE.cell 0 (v := .int .i64 q1) rfl
      have e1 := hE.cell 1 (v := .int .i64 q2) rfl
      have hel := hE.lt
      have HR := Lib.hid (row_far22 hrow')
      clear hq
      go_wp2_with (at_builtin; refine wpList_append_pairs rfl _ _ 90 rfl K 25 Tryz.underlying90 spanInfo22 (.slice C LW.length cc) LW LW.length rfl rfl (World.ownsRow.alloc hrow' _) _ [(q1, q2)] 1 1 rfl rfl (pairs_new _ [(q1, q2)] _ _ rfl (by simp)) (by have := HLWl.out; simp; omega) (by have := HKW.out.1; simp; omega) ?_; intro v8 w8 hown hgrow)
      go_meet
      obtain ⟨C8, c8, rfl, hp8⟩ := PairsAt.of_own hown
      refine ⟨LW ++ [(q1, q2)], C8, c8, rfl, by simp [hqq], hp8, by rw [List.length_append]; have := HLWl.out; simp; omega, own_grown22t (hX.alloc _) hgrow ?_, own_grown22t (hE.alloc _) hgrow ?_, own_grown22t (hM.alloc _) hgrow ?_, own_grown22t (hQ.alloc _) hgrow ?_, Below.grown (hok.alloc _) hgrow (hok.alloc _).size ?_⟩
      · intro e; have := HR.out _ e; have := HLT.out; omega
      · intro e; have := HR.out _ e; have := HLT.out; omega
      · intro e; have := HR.out _ e; have := HLT.out; omega
      · intro e; have := HR.out _ e; have := HLT.out; omega
      · intro g e; have := HR.out _ e; have := HKW.out; omega
    | false =>
      obtain ⟨C8, c8, e8, hp8⟩ := PairsAt.of_own hrow'
      cases e8
      go_wp2_with fail
      go_meet
      exact ⟨LW, C, cc, rfl, by simp, hp8, by have := HLWl.out; omega, hX, hE, hM, hQ, hok⟩
  case rest =>
  clear hX hE hM hQ hok hrow' hq
  obtain ⟨l2, C, cc, rfl, hl2, hp2, hl17, hX, hE, hM, hQ, hok⟩ := hcut
  obtain ⟨u, hu⟩ : ∃ y, Gate.next p s x.ticks l2 x.given x.table = y := ⟨_, rfl⟩
  have hu2 := hu
  rw [HNP.out l2 hl2] at hu2
  have HSN : Hid (Health.step p s x.ticks u = s2) := Lib.hid (by rw [← HS2.out, ← hu2]; rfl)
  have HUL : Hid (u.table.length ≤ 9223372036854775807) := Lib.hid (hu2 ▸ HUT.out)
  obtain ⟨n2, hn2⟩ : ∃ y, l2.length = y := ⟨_, rfl⟩
  obtain ⟨mm, hmm⟩ : ∃ y, Gate.say p s2 1 me rd (if rd = true then (q1, q2) else (0, 0)) = y := ⟨_, rfl⟩
  have HMM := Lib.hid hmm
  replace HFIN := Lib.hid (HFIN.out mm hmm)
  go_upto_region 7 with fail
  obtain ⟨W, hWe⟩ : ∃ y, wc = y := ⟨_, rfl⟩
  subst hWe
  have KF := Lib.hid fun W' (k : Ok wc.drew W') => HFO.out C l2 cc W' (hok.trans ((Ok.refl wc).drew.trans k)) (hQ.drew.next k) (hp2.below ((Ok.refl wc).drew.trans k)) (by omega)
  rw [hn2, hu] at KF
  rw [hn2]
  unfold inV at KF
  have HQ := Lib.hid fun W' (k : Ok wc.drew W') => hQ.drew.next k
  have HX := Lib.hid fun W' (k : Ok wc.drew W') => hX.drew.next k
  have HE := Lib.hid fun W' (k : Ok wc.drew W') => hE.drew.next k
  have HM := Lib.hid fun W' (k : Ok wc.drew W') => hM.drew.next k
  have HOK := Lib.hid hok
  clear hX hE hM hQ hok hp2 hl2 hl17 hu hu2 hn2 hmm HFO HNP
  refine wp_region_facts_chain (by kernel_rfl) 5 46 rfl (VCBeaS G X n2 cc C p me s u x) Ok _ 9 rfl rfl (by decide) (by kernel_rfl) (by kernel_rfl) (by kernel_rfl) (by kernel_rfl) (fun i v w w' h k w'' k' => h w'' (k.trans k')) (fun a b c => Ok.trans) (Ok.refl _) [some 26, some 27, some 28, some 29, some 30, some 31, some 32, some 33, some 34] rfl _ rfl ⟨?_, ?_, ?_, ?_, ?_, ?_, ?_, ?_, ?_, trivial⟩ ?_
  · intro a' w' hF hR
    have e0 : a'.tmps[0]? = some (.pointer (some ⟨G, 0, none⟩)) := hF.slot 0 (by kernel_rfl) rfl
    refine wpOp_run (v := .pointer (some ⟨G, 0, none⟩)) rfl rfl ?_ (fun _ _ => rfl) (Ok.refl _)
    clear hF
    go_simp
  · intro a' w' hF hR
    obtain ⟨v0, hv0, e26⟩ := hF.get 0 26 (by kernel_rfl) (by kernel_rfl)
    obtain rfl : v0 = _ := hv0 _ (Ok.refl _)
    refine wpOp_run (v := .pointer (some ⟨G, 0, none⟩)) rfl rfl ?_ (fun _ _ => rfl) (Ok.refl _)
    clear hF
    go_simp
  · intro a' w' hF hR
    obtain ⟨v1, hv1, e27⟩ := hF.get 1 27 (by kernel_rfl) (by kernel_rfl)
    obtain rfl : v1 = _ := hv1 _ (Ok.refl _)
    refine wpOp_run (v := .pointer (some ⟨G, 0, none⟩)) rfl rfl ?_ (fun _ _ => rfl) (Ok.refl _)
    clear hF
    go_simp
  · intro a' w' hF hR
    have e3 : a'.tmps[3]? = some (.pointer (some ⟨X, 0, none⟩)) := hF.slot 3 (by kernel_rfl) rfl
    refine wpOp_run (v := .pointer (some ⟨X, 0, none⟩)) rfl rfl ?_ (fun _ _ => rfl) (Ok.refl _)
    clear hF
    go_simp
  · intro a' w' hF hR
    obtain ⟨v3, hv3, e29⟩ := hF.get 3 29 (by kernel_rfl) (by kernel_rfl)
    obtain rfl : v3 = _ := hv3 _ (Ok.refl _)
    obtain ⟨i0, i1, i2, i3, i4, i5⟩ := (HX.out _ hR).inp
    have hxl := (HX.out _ hR).lt
    refine wpOp_run (v := .int .i64 x.ticks) rfl rfl ?_ (fun _ _ => rfl) (Ok.refl _)
    clear hF
    go_simp
  · intro a' w' hF hR
    have e0 : a'.tmps[0]? = some (.pointer (some ⟨G, 0, none⟩)) := hF.slot 0 (by kernel_rfl) rfl
    refine wpOp_run (v := .pointer (some ⟨G, 0, none⟩)) rfl rfl ?_ (fun _ _ => rfl) (Ok.refl _)
    clear hF
    go_simp
  · intro a' w' hF hR
    have e3 : a'.tmps[3]? = some (.pointer (some ⟨X, 0, none⟩)) := hF.slot 3 (by kernel_rfl) rfl
    obtain ⟨i0, i1, i2, i3, i4, i5⟩ := (HX.out _ hR).inp
    have hxl := (HX.out _ hR).lt
    refine wpOp_run (v := .agg #[.int .i64 x.ticks, .slice x.B x.heard.length x.hcap, .bool x.ref, .int .i64 x.reading, .bool x.given, .slice x.T x.table.length x.tcap]) rfl rfl ?_ (fun _ _ => rfl) (Ok.refl _)
    clear hF
    go_simp
  · intro a' w' hF hR
    have e7 : a'.tmps[7]? = some (.slice C n2 cc) := hF.slot 7 (by kernel_rfl) rfl
    refine wpOp_run (v := .slice C n2 cc) rfl rfl ?_ (fun _ _ => rfl) (Ok.refl _)
    clear hF
    go_simp
  · intro a' w' hF hR
    obtain ⟨v5, hv5, e31⟩ := hF.get 5 31 (by kernel_rfl) (by kernel_rfl)
    obtain rfl : v5 = _ := hv5 _ (Ok.refl _)
    obtain ⟨v6, hv6, e32⟩ := hF.get 6 32 (by kernel_rfl) (by kernel_rfl)
    obtain rfl : v6 = _ := hv6 _ (Ok.refl _)
    obtain ⟨v7, hv7, e33⟩ := hF.get 7 33 (by kernel_rfl) (by kernel_rfl)
    obtain rfl : v7 = _ := hv7 _ (Ok.refl _)
    clear hF
    refine wpOp_call (f := 41) (args := #[.pointer (some ⟨G, 0, none⟩), .agg #[.int .i64 x.ticks, .slice x.B x.heard.length x.hcap, .bool x.ref, .int .i64 x.reading, .bool x.given, .slice x.T x.table.length x.tcap], .slice C n2 cc]) rfl rfl ?_ ((KF.out _ hR).mono ?_)
    · go_simp
    · rintro e w2 ⟨A2, c2, rfl, hI2, hb2⟩; exact ⟨_, rfl, fun w3 k => ⟨A2, c2, rfl, hI2.below k⟩, hb2⟩
  intro vs W' hvs hR
  have e2 : vs 2 = .pointer (some ⟨G, 0, none⟩) := hvs 2 (by decide) _ (Ok.refl _)
  have e4 : vs 4 = .int .i64 x.ticks := hvs 4 (by decide) _ (Ok.refl _)
  obtain ⟨A2, c2, e8, hPu⟩ := hvs 8 (by decide) _ (Ok.refl _)
  have hQ := HQ.out _ hR
  have hX := HX.out _ hR
  have hE := HE.out _ hR
  have hM := HM.out _ hR
  have hok := (HOK.out.trans (Ok.refl wc).drew).trans hR
  clear hvs HQ HX HE HM HOK KF
  simp only [putFrom, e2, e4, e8]
  simp only [Act.put, List.setIfInBounds_toArray, List.set_cons_zero, List.set_cons_succ]
  refine wpOp_enters (o := ⟨some 35, _, _, _, _, none⟩) (f := 40) (args := #[.pointer (some ⟨G, 0, none⟩), .int .i64 x.ticks, staV u A2 c2]) rfl rfl ?_ ((frontStep [.int .i64 me] G p s A cap x.ticks u A2 c2 W' hQ hPu HUL.out).mono ?_)
  · go_simp
  rintro e w5 ⟨rfl, A4, c4, hQ5, hT5, hon5⟩
  refine ⟨_, rfl, ?_⟩
  simp only [TailFrom, Act.put, List.setIfInBounds_toArray, List.set_cons_zero, List.set_cons_succ]
  have hon := (Only.of_ok (r := G) hok).trans hon5
  have HK5 : Hid (w.heap.size ≤ W'.heap.size ∧ G < W'.heap.size ∧ M < W'.heap.size) := Lib.hid ⟨hok.size, hQ.lt, hM.lt⟩
  replace hX := hon5.own hX (Ne.symm HD.out.1)
  replace hE := hon5.own hE (Ne.symm HD.out.2.1)
  replace hM := hon5.own hM (Ne.symm HD.out.2.2.1)
  clear hok hon5 hQ hPu e2 e4 e8
  rw [HSN.out] at hQ5 hT5
  obtain ⟨K5, hK5⟩ : ∃ y, W'.heap.size = y := ⟨_, rfl⟩
  rw [hK5] at hT5 HK5
  clear hK5
  generalize vs 0 = x20
  generalize vs 1 = x21
  generalize vs 3 = x23
  generalize vs 5 = x25
  generalize vs 6 = x26
  generalize vs 7 = x27
  clear hR vs
  go_upto_region 8 with fail
  have hT4 : TabRow K5 w5 A4 c4 s2.table := hT5
  have HQ := Lib.hid fun W' (k : Ok w5.drew W') => hQ5.drew.next k
  have HE := Lib.hid fun W' (k : Ok w5.drew W') => hE.drew.next k
  have HM := Lib.hid fun W' (k : Ok w5.drew W') => hM.drew.next k
  have HT4 := Lib.hid fun W' (k : Ok w5.drew W') => hT4.next ((Ok.refl w5).drew.trans k)
  have HON := Lib.hid hon
  clear hQ5 hE hM hX hT4 hT5 hon
  refine wp_region_facts_chain (by kernel_rfl) 5 46 rfl (VCBeaY G X E me q1 q2 rd) Ok _ 9 rfl rfl (by decide) (by kernel_rfl) (by kernel_rfl) (by kernel_rfl) (by kernel_rfl) (fun i v w w' h k w'' k' => h w'' (k.trans k')) (fun a b c => Ok.trans) (Ok.refl _) [some 36, some 37, some 38, some 39, some 40, some 41, some 42, some 43, some 44] rfl _ rfl ⟨?_, ?_, ?_, ?_, ?_, ?_, ?_, ?_, ?_, trivial⟩ ?_
  · intro a' w' hF hR
    have e0 : a'.tmps[0]? = some (.pointer (some ⟨G, 0, none⟩)) := hF.slot 0 (by kernel_rfl) rfl
    refine wpOp_run (v := .pointer (some ⟨G, 0, none⟩)) rfl rfl ?_ (fun _ _ => rfl) (Ok.refl _)
    clear hF
    go_simp
  · intro a' w' hF hR
    obtain ⟨v0, hv0, e36⟩ := hF.get 0 36 (by kernel_rfl) (by kernel_rfl)
    obtain rfl : v0 = _ := hv0 _ (Ok.refl _)
    refine wpOp_run (v := .pointer (some ⟨G, 0, none⟩)) rfl rfl ?_ (fun _ _ => rfl) (Ok.refl _)
    clear hF
    go_simp
  · intro a' w' hF hR
    obtain ⟨v1, hv1, e37⟩ := hF.get 1 37 (by kernel_rfl) (by kernel_rfl)
    obtain rfl : v1 = _ := hv1 _ (Ok.refl _)
    refine wpOp_run (v := .pointer (some ⟨G, 0, none⟩)) rfl rfl ?_ (fun _ _ => rfl) (Ok.refl _)
    clear hF
    go_simp
  · intro a' w' hF hR
    have e0 : a'.tmps[0]? = some (.pointer (some ⟨G, 0, none⟩)) := hF.slot 0 (by kernel_rfl) rfl
    refine wpOp_run (v := .pointer (some ⟨G, 0, none⟩)) rfl rfl ?_ (fun _ _ => rfl) (Ok.refl _)
    clear hF
    go_simp
  · intro a' w' hF hR
    obtain ⟨v3, hv3, e39⟩ := hF.get 3 39 (by kernel_rfl) (by kernel_rfl)
    obtain rfl : v3 = _ := hv3 _ (Ok.refl _)
    refine wpOp_run (v := .pointer (some ⟨G, 0, none⟩)) rfl rfl ?_ (fun _ _ => rfl) (Ok.refl _)
    clear hF
    go_simp
  · intro a' w' hF hR
    obtain ⟨v4, hv4, e40⟩ := hF.get 4 40 (by kernel_rfl) (by kernel_rfl)
    obtain rfl : v4 = _ := hv4 _ (Ok.refl _)
    refine wpOp_run (v := .pointer (some ⟨G, 23, none⟩)) rfl rfl ?_ (fun _ _ => rfl) (Ok.refl _)
    clear hF
    go_simp
  · intro a' w' hF hR
    obtain ⟨v5, hv5, e41⟩ := hF.get 5 41 (by kernel_rfl) (by kernel_rfl)
    obtain rfl : v5 = _ := hv5 _ (Ok.refl _)
    have c23 := (HQ.out _ hR).atL 23 (v := .int .i64 me) rfl
    have hgl := (HQ.out _ hR).lt
    refine wpOp_run (v := .int .i64 me) rfl rfl ?_ (fun _ _ => rfl) (Ok.refl _)
    clear hF
    go_simp
  · intro a' w' hF hR
    have e6 : a'.tmps[6]? = some (.bool rd) := hF.slot 6 (by kernel_rfl) rfl
    refine wpOp_run (v := .bool rd) rfl rfl ?_ (fun _ _ => rfl) (Ok.refl _)
    clear hF
    go_simp
  · intro a' w' hF hR
    have e5 : a'.tmps[5]? = some (.pointer (some ⟨E, 0, none⟩)) := hF.slot 5 (by kernel_rfl) rfl
    have q0 := (HE.out _ hR).cell 0 (v := .int .i64 q1) rfl
    have q1' := (HE.out _ hR).cell 1 (v := .int .i64 q2) rfl
    have hel := (HE.out _ hR).lt
    refine wpOp_run (v := .agg #[.int .i64 q1, .int .i64 q2]) rfl rfl ?_ (fun _ _ => rfl) (Ok.refl _)
    clear hF
    go_simp
  intro vs W' hvs hR
  have e2 : vs 2 = .pointer (some ⟨G, 0, none⟩) := hvs 2 (by decide) _ (Ok.refl _)
  have e6 : vs 6 = .int .i64 me := hvs 6 (by decide) _ (Ok.refl _)
  have e7 : vs 7 = .bool rd := hvs 7 (by decide) _ (Ok.refl _)
  have e8 : vs 8 = .agg #[.int .i64 q1, .int .i64 q2] := hvs 8 (by decide) _ (Ok.refl _)
  have hQ := HQ.out _ hR
  have hM := HM.out _ hR
  have hT4 := HT4.out _ hR
  have hon := HON.out.ok ((Ok.refl w5).drew.trans hR)
  clear hvs HQ HE HM HON HT4
  simp only [putFrom, e2, e6, e7, e8]
  simp only [Act.put, List.setIfInBounds_toArray, List.set_cons_zero, List.set_cons_succ]
  refine wpOp_enters (o := ⟨some 45, _, _, _, _, none⟩) (f := 18) (args := #[.pointer (some ⟨G, 0, none⟩), .int .i64 1, .int .i64 me, .bool rd, .agg #[.int .i64 q1, .int .i64 q2]]) rfl rfl ?_ ((gateSay [.int .i64 me] G p s2 A4 c4 1 me rd q1 q2 K5 W' hQ hT4 HK5.out.2.1 HSL.out).mono ?_)
  · go_simp
  rintro e w6 ⟨A3, c3, rfl, hQ6, hT6, hon6⟩
  have HDIS := Lib.hid (show ∀ a b, A4 = some a → A3 = some b → a.block ≠ b.block from fun a b ha hb => by have h1 := (row_lt22 hT4 a ha).2; have h2 := (row_lt22 hT6 b hb).1; omega)
  refine ⟨_, rfl, ?_⟩
  simp only [Act.put, List.setIfInBounds_toArray, List.set_cons_zero, List.set_cons_succ]
  have hWl : w.heap.size ≤ W'.heap.size ∧ M < W'.heap.size := ⟨hon.size, hM.lt⟩
  replace hM := hon6.own hM (Ne.symm HD.out.2.2.1)
  replace hT4 := hT4.only hon6 HK5.out.2.1
  replace hon := hon.trans hon6
  clear hon6 hQ e2 e6 e7 e8
  rw [HMM.out]
  unfold msgV
  have m0 := hM.cell 0 rfl
  have m1 := hM.cell 1 rfl
  have m2 := hM.cell 2 rfl
  have m3 := hM.cell 3 rfl
  have m4 := hM.cell 4 rfl
  have m5 := hM.cell 5 rfl
  have m6 := hM.cell 6 rfl
  have m7 := hM.cell 7 rfl
  have m8 := hM.cell 8 rfl
  have m9 := hM.cell 9 rfl
  have m10 := hM.cell 10 rfl
  have m11 := hM.cell 11 rfl
  have m12 := hM.cell 12 rfl
  have m13 := hM.cell 13 rfl
  have f0 := hM.frozen 0
  have f1 := hM.frozen 1
  have f2 := hM.frozen 2
  have f3 := hM.frozen 3
  have f4 := hM.frozen 4
  have f5 := hM.frozen 5
  have f6 := hM.frozen 6
  have f7 := hM.frozen 7
  have f8 := hM.frozen 8
  have f9 := hM.frozen 9
  have f10 := hM.frozen 10
  have f11 := hM.frozen 11
  have f12 := hM.frozen 12
  have f13 := hM.frozen 13
  have hml := hM.lt
  refine wpOp_store (w' := ((((((((((((((w6.setCell ⟨M, 0, none⟩ (.int .i64 mm.kind)).setCell ⟨M, 1, none⟩ (.int .i64 mm.frm)).setCell ⟨M, 2, none⟩ (.int .i64 mm.lo)).setCell ⟨M, 3, none⟩ (.int .i64 mm.hi)).setCell ⟨M, 4, none⟩ (.int .i64 mm.held)).setCell ⟨M, 5, none⟩ (.int .i64 mm.hops)).setCell ⟨M, 6, none⟩ (.bool mm.good)).setCell ⟨M, 7, none⟩ (.bool mm.ref)).setCell ⟨M, 8, none⟩ (.int .i64 mm.slo)).setCell ⟨M, 9, none⟩ (.int .i64 mm.shi)).setCell ⟨M, 10, none⟩ (.int .i64 mm.pulse)).setCell ⟨M, 11, none⟩ (.int .i64 mm.time)).setCell ⟨M, 12, none⟩ (.int .i64 mm.num)).setCell ⟨M, 13, none⟩ (.slice A3 mm.table.length c3))) rfl rfl rfl ?_ ?_
  · go_simp
  simp only [TailFrom]
  clear m0 f0 m1 f1 m2 f2 m3 f3 m4 f4 m5 f5 m6 f6 m7 f7 m8 f8 m9 f9 m10 f10 m11 f11 m12 f12 m13 f13 hml
  replace hM := own_over14 hM (.int .i64 mm.kind) (.int .i64 mm.frm) (.int .i64 mm.lo) (.int .i64 mm.hi) (.int .i64 mm.held) (.int .i64 mm.hops) (.bool mm.good) (.bool mm.ref) (.int .i64 mm.slo) (.int .i64 mm.shi) (.int .i64 mm.pulse) (.int .i64 mm.time) (.int .i64 mm.num) (.slice A3 mm.table.length c3)
  replace hQ6 := ((((((((((((((hQ6.setOther (a := ⟨M, 0, none⟩) HD.out.2.2.1 (.int .i64 mm.kind)).setOther (a := ⟨M, 1, none⟩) HD.out.2.2.1 (.int .i64 mm.frm)).setOther (a := ⟨M, 2, none⟩) HD.out.2.2.1 (.int .i64 mm.lo)).setOther (a := ⟨M, 3, none⟩) HD.out.2.2.1 (.int .i64 mm.hi)).setOther (a := ⟨M, 4, none⟩) HD.out.2.2.1 (.int .i64 mm.held)).setOther (a := ⟨M, 5, none⟩) HD.out.2.2.1 (.int .i64 mm.hops)).setOther (a := ⟨M, 6, none⟩) HD.out.2.2.1 (.bool mm.good)).setOther (a := ⟨M, 7, none⟩) HD.out.2.2.1 (.bool mm.ref)).setOther (a := ⟨M, 8, none⟩) HD.out.2.2.1 (.int .i64 mm.slo)).setOther (a := ⟨M, 9, none⟩) HD.out.2.2.1 (.int .i64 mm.shi)).setOther (a := ⟨M, 10, none⟩) HD.out.2.2.1 (.int .i64 mm.pulse)).setOther (a := ⟨M, 11, none⟩) HD.out.2.2.1 (.int .i64 mm.time)).setOther (a := ⟨M, 12, none⟩) HD.out.2.2.1 (.int .i64 mm.num)).setOther (a := ⟨M, 13, none⟩) HD.out.2.2.1 (.slice A3 mm.table.length c3))
  replace hon := ((((((((((((((hon.setN HD.out.2.2.2 0 (.int .i64 mm.kind)).setN HD.out.2.2.2 1 (.int .i64 mm.frm)).setN HD.out.2.2.2 2 (.int .i64 mm.lo)).setN HD.out.2.2.2 3 (.int .i64 mm.hi)).setN HD.out.2.2.2 4 (.int .i64 mm.held)).setN HD.out.2.2.2 5 (.int .i64 mm.hops)).setN HD.out.2.2.2 6 (.bool mm.good)).setN HD.out.2.2.2 7 (.bool mm.ref)).setN HD.out.2.2.2 8 (.int .i64 mm.slo)).setN HD.out.2.2.2 9 (.int .i64 mm.shi)).setN HD.out.2.2.2 10 (.int .i64 mm.pulse)).setN HD.out.2.2.2 11 (.int .i64 mm.time)).setN HD.out.2.2.2 12 (.int .i64 mm.num)).setN HD.out.2.2.2 13 (.slice A3 mm.table.length c3))
  replace hT6 := (TabRow.set (TabRow.set (TabRow.set (TabRow.set (TabRow.set (TabRow.set (TabRow.set (TabRow.set (TabRow.set (TabRow.set (TabRow.set (TabRow.set (TabRow.set (TabRow.set hT6 (p := ⟨M, 0, none⟩) hWl.2 (.int .i64 mm.kind)) (p := ⟨M, 1, none⟩) hWl.2 (.int .i64 mm.frm)) (p := ⟨M, 2, none⟩) hWl.2 (.int .i64 mm.lo)) (p := ⟨M, 3, none⟩) hWl.2 (.int .i64 mm.hi)) (p := ⟨M, 4, none⟩) hWl.2 (.int .i64 mm.held)) (p := ⟨M, 5, none⟩) hWl.2 (.int .i64 mm.hops)) (p := ⟨M, 6, none⟩) hWl.2 (.bool mm.good)) (p := ⟨M, 7, none⟩) hWl.2 (.bool mm.ref)) (p := ⟨M, 8, none⟩) hWl.2 (.int .i64 mm.slo)) (p := ⟨M, 9, none⟩) hWl.2 (.int .i64 mm.shi)) (p := ⟨M, 10, none⟩) hWl.2 (.int .i64 mm.pulse)) (p := ⟨M, 11, none⟩) hWl.2 (.int .i64 mm.time)) (p := ⟨M, 12, none⟩) hWl.2 (.int .i64 mm.num)) (p := ⟨M, 13, none⟩) hWl.2 (.slice A3 mm.table.length c3))
  replace hT4 := (TabRow.set (TabRow.set (TabRow.set (TabRow.set (TabRow.set (TabRow.set (TabRow.set (TabRow.set (TabRow.set (TabRow.set (TabRow.set (TabRow.set (TabRow.set (TabRow.set hT4 (p := ⟨M, 0, none⟩) HK5.out.2.2 (.int .i64 mm.kind)) (p := ⟨M, 1, none⟩) HK5.out.2.2 (.int .i64 mm.frm)) (p := ⟨M, 2, none⟩) HK5.out.2.2 (.int .i64 mm.lo)) (p := ⟨M, 3, none⟩) HK5.out.2.2 (.int .i64 mm.hi)) (p := ⟨M, 4, none⟩) HK5.out.2.2 (.int .i64 mm.held)) (p := ⟨M, 5, none⟩) HK5.out.2.2 (.int .i64 mm.hops)) (p := ⟨M, 6, none⟩) HK5.out.2.2 (.bool mm.good)) (p := ⟨M, 7, none⟩) HK5.out.2.2 (.bool mm.ref)) (p := ⟨M, 8, none⟩) HK5.out.2.2 (.int .i64 mm.slo)) (p := ⟨M, 9, none⟩) HK5.out.2.2 (.int .i64 mm.shi)) (p := ⟨M, 10, none⟩) HK5.out.2.2 (.int .i64 mm.pulse)) (p := ⟨M, 11, none⟩) HK5.out.2.2 (.int .i64 mm.time)) (p := ⟨M, 12, none⟩) HK5.out.2.2 (.int .i64 mm.num)) (p := ⟨M, 13, none⟩) HK5.out.2.2 (.slice A3 mm.table.length c3))
  generalize ((((((((((((((w6.setCell ⟨M, 0, none⟩ (.int .i64 mm.kind)).setCell ⟨M, 1, none⟩ (.int .i64 mm.frm)).setCell ⟨M, 2, none⟩ (.int .i64 mm.lo)).setCell ⟨M, 3, none⟩ (.int .i64 mm.hi)).setCell ⟨M, 4, none⟩ (.int .i64 mm.held)).setCell ⟨M, 5, none⟩ (.int .i64 mm.hops)).setCell ⟨M, 6, none⟩ (.bool mm.good)).setCell ⟨M, 7, none⟩ (.bool mm.ref)).setCell ⟨M, 8, none⟩ (.int .i64 mm.slo)).setCell ⟨M, 9, none⟩ (.int .i64 mm.shi)).setCell ⟨M, 10, none⟩ (.int .i64 mm.pulse)).setCell ⟨M, 11, none⟩ (.int .i64 mm.time)).setCell ⟨M, 12, none⟩ (.int .i64 mm.num)).setCell ⟨M, 13, none⟩ (.slice A3 mm.table.length c3)) = W9 at hM hQ6 hon hT6 hT4 ⊢
  generalize vs 0 = x20
  generalize vs 1 = x21
  generalize vs 3 = x23
  generalize vs 4 = x24
  generalize vs 5 = x25
  clear hR vs
  have m0 := hM.cell 0 rfl
  have m1 := hM.cell 1 rfl
  have m2 := hM.cell 2 rfl
  have m3 := hM.cell 3 rfl
  have m4 := hM.cell 4 rfl
  have m5 := hM.cell 5 rfl
  have m6 := hM.cell 6 rfl
  have m7 := hM.cell 7 rfl
  have m8 := hM.cell 8 rfl
  have m9 := hM.cell 9 rfl
  have m10 := hM.cell 10 rfl
  have m11 := hM.cell 11 rfl
  have m12 := hM.cell 12 rfl
  have m13 := hM.cell 13 rfl
  have hml := hM.lt
  go_wp2_with fail
  exact bodyPost_ret (v := .agg #[.int .i64 mm.kind, .int .i64 mm.frm, .int .i64 mm.lo, .int .i64 mm.hi, .int .i64 mm.held, .int .i64 mm.hops, .bool mm.good, .bool mm.ref, .int .i64 mm.slo, .int .i64 mm.shi, .int .i64 mm.pulse, .int .i64 mm.time, .int .i64 mm.num, .slice A3 mm.table.length c3]) (by simp [results, Tryz.results16, go_sem, m0, m1, m2, m3, m4, m5, m6, m7, m8, m9, m10, m11, m12, m13]) rfl (HFIN.out A3 c3 A4 c4 W9 hQ6 (hT4.mono HK5.out.1) (hT6.mono hWl.1) hon HDIS.out)
theorem works22 : GateWorks where
  new := gateNew
  beat G p me s A cap x w hO hA hAG hl hx hh ht hf hd := (gateBeat G p me s A cap x w hO hA hAG hl hx hh ht hf hd).mono fun _ _ ⟨A3, c3, A2, c2, h1, h2, h3, h4, h5, _⟩ => ⟨A3, c3, A2, c2, h1, h2, h3, h4, h5⟩
end Go.Proofs.YtmmiboblofopgaaGreat
