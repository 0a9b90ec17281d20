/- Contracts of layer 22: the document's beat. -/
import Derived.Test.YtmmiboblofopgaaGreatC22i
import Derived.Test.YtmmiboblofopgaaGreatC22j
import Derived.Test.YtmmiboblofopgaaGreatC22h
import Derived.Test.YtmmiboblofopgaaGreatB09
import Derived.Test.YtmmiboblofopgaaGreatB07
import Derived.Test.YtmmiboblofopgaaGreatB15
import Derived.Test.YtmmiboblofopgaaGreatB12
import Derived.Deep.CutRange
namespace Go.Proofs.YtmmiboblofopgaaGreat
open Go.RowKit
set_option linter.unusedVariables false
set_option maxRecDepth 100000
attribute [local go_sem ↓] Go.wp_at_zero Go.wp_at_succ
theorem pairs_only22 {r : Nat} {w w1 : World} {A : Option Addr} {l : List (Int × Int)} (h : PairsAt w A l) (k : Only r w w1) (hA : ∀ a, A = some a → a.block ≠ r) : PairsAt w1 A l := fun j hj => by
  obtain ⟨b, off, e, hlt, hc, hd⟩ := h j hj
  exact ⟨b, off, e, Nat.lt_of_lt_of_le hlt k.size, (k.cell (p := ⟨b, off + j * 2, none⟩) hlt (show b ≠ r from hA _ e)).trans hc, (k.cell (p := ⟨b, off + j * 2 + 1, none⟩) hlt (show b ≠ r from hA _ e)).trans hd⟩
/-- What the document's beat keeps in blocks of its own. -/
structure RBox (BP BS X R8 R9 E : Nat) (p : Par) (s : Sta) (A : Option Addr) (cap : Nat) (x : In) (z1 z2 : Int) (w : World) : Prop where
  p : Own w BP (parCells p)
  s : Own w BS (staCells s A cap)
  x : Own w X (inCells x)
  r8 : Own w R8 (staCells zeroSta none 0)
  r9 : Own w R9 (msgCells zeroMsg none 0)
  e : Own w E #[.int .i64 z1, .int .i64 z2]
namespace RBox
variable {BP BS X R8 R9 E : Nat} {p : Par} {s : Sta} {A : Option Addr} {cap : Nat} {x : In} {z1 z2 : Int} {w w1 : World}
theorem next (h : RBox BP BS X R8 R9 E p s A cap x z1 z2 w) (k : Ok w w1) : RBox BP BS X R8 R9 E p s A cap x z1 z2 w1 := ⟨h.p.next k, h.s.next k, h.x.next k, h.r8.next k, h.r9.next k, h.e.next k⟩
theorem only {r : Nat} (h : RBox BP BS X R8 R9 E p s A cap x z1 z2 w) (k : Only r w w1) (n : BP < r ∧ BS < r ∧ X < r ∧ R8 < r ∧ R9 < r ∧ E < r) : RBox BP BS X R8 R9 E p s A cap x z1 z2 w1 := ⟨k.own h.p (by omega), k.own h.s (by omega), k.own h.x (by omega), k.own h.r8 (by omega), k.own h.r9 (by omega), k.own h.e (by omega)⟩
theorem grown {row : Option Nat} (h : RBox BP BS X R8 R9 E p s A cap x z1 z2 w) (k : w.grownBy w1 row) {K : Nat} (hr : ∀ g, row = some g → K ≤ g) (n : BP < K ∧ BS < K ∧ X < K ∧ R8 < K ∧ R9 < K ∧ E < K) : RBox BP BS X R8 R9 E p s A cap x z1 z2 w1 :=
  ⟨own_grown22t h.p k (fun e => by have := hr _ e; omega), own_grown22t h.s k (fun e => by have := hr _ e; omega), own_grown22t h.x k (fun e => by have := hr _ e; omega), own_grown22t h.r8 k (fun e => by have := hr _ e; omega), own_grown22t h.r9 k (fun e => by have := hr _ e; omega), own_grown22t h.e k (fun e => by have := hr _ e; omega)⟩
theorem lts (h : RBox BP BS X R8 R9 E p s A cap x z1 z2 w) : BP < w.heap.size ∧ BS < w.heap.size ∧ X < w.heap.size ∧ R8 < w.heap.size ∧ R9 < w.heap.size ∧ E < w.heap.size := ⟨h.p.lt, h.s.lt, h.x.lt, h.r8.lt, h.r9.lt, h.e.lt⟩
end RBox
/-- What each operation leaves. -/
def VMRBeat (BP BS X E N N2 : Nat) (p : Par) (s s2 s3 u : Sta) (A A2 : Option Addr) (cap c2 : Nat) (x : In) (me z1 z2 : Int) (rd : Bool) (mm : Msg) (w : World) (v : Value) : Nat → Prop
  | 0 => v = parV p
  | 1 => v = parV p
  | 2 => v = .agg #[.int .i64 s.lo, .int .i64 s.hi, .int .i64 s.time, .bool s.set, .int .i64 s.held, .int .i64 s.hops, .bool s.good, .slice A s.table.length cap, .int .i64 s.st, .int .i64 s.sn, .int .i64 s.life]
  | 3 => v = .pointer (some ⟨X, 0, none⟩)
  | 4 => v = .int .i64 x.ticks
  | 5 => v = .agg #[.int .i64 u.lo, .int .i64 u.hi, .int .i64 u.time, .bool u.set, .int .i64 u.held, .int .i64 u.hops, .bool u.good, .slice A2 u.table.length c2, .int .i64 u.st, .int .i64 u.sn, .int .i64 u.life]
  | 6 => ∃ (A6 : Option Addr) (c6 : Nat), v = staV s2 A6 c6 ∧ PairsOf N2 w A6 s2.table
  | 7 => v = .int .i64 me
  | 8 => v = .bool rd
  | 9 => v = .agg #[.int .i64 z1, .int .i64 z2]
  | 10 => ∃ (A4 : Option Addr) (c4 : Nat) (A3 : Option Addr) (c3 : Nat), v = .tuple #[staV s3 A4 c4, msgV mm A3 c3] ∧ PairsOf N2 w A4 s3.table ∧ PairsOf N2 w A3 s3.table
  | 11 => ∃ (A4 : Option Addr) (c4 : Nat), v = staV s3 A4 c4 ∧ PairsOf N2 w A4 s3.table
  | 12 => ∃ (A3 : Option Addr) (c3 : Nat), v = msgV mm A3 c3 ∧ PairsOf N2 w A3 s3.table
  | _ => v = .bool true
/-- It stays so. -/
def VCRBeat (BP BS X E N N2 : Nat) (p : Par) (s s2 s3 u : Sta) (A A2 : Option Addr) (cap c2 : Nat) (x : In) (me z1 z2 : Int) (rd : Bool) (mm : Msg) (i : Nat) (v : Value) (w : World) : Prop := ∀ w', Ok w w' → VMRBeat BP BS X E N N2 p s s2 s3 u A A2 cap c2 x me z1 z2 rd mm w' v i
set_option maxHeartbeats 25600000 in
theorem ref22Beat (p : Par) (me : Int) (s : Sta) (A : Option Addr) (cap : Nat) (x : In) (w : World) (hA : PairsAt w A s.table) (hl : s.table.length ≤ 9223372036854775807) (hx : InAt w x) (hh : x.heard.length ≤ 1000) (ht : x.table.length ≤ 9223372036854775807) :
    Calls Tryz.prog 17 #[parV p, .int .i64 me, staV s A cap, inV x] w fun e w' => ∃ (A2 : Option Addr) (c2 : Nat) (A3 : Option Addr) (c3 : Nat), e = .returned (.tuple #[staV (Gate.after p me s x) A2 c2, msgV (Gate.tells p me s x) A3 c3]) ∧ PairsOf w.heap.size w' A2 (Gate.after p me s x).table ∧ PairsOf w.heap.size w' A3 (Gate.after p me s x).table ∧ Ok w w' := by
  obtain ⟨rd, hrd⟩ : ∃ b, Gate.reads p x.ref x.reading = b := ⟨_, rfl⟩
  obtain ⟨isb, hisb⟩ : ∃ b, Anchor.is p x.reading = b := ⟨_, rfl⟩
  obtain ⟨⟨a1, a2⟩, hsn⟩ : ∃ y, Anchor.seen p x.reading = y := ⟨_, rfl⟩
  obtain ⟨⟨z1, z2⟩, hz⟩ : ∃ y, Gate.sees p x.ref x.reading = y := ⟨_, rfl⟩
  obtain ⟨L, hL⟩ : ∃ L, Gate.told p me x.hds = L := ⟨_, rfl⟩
  obtain ⟨l2, hl2⟩ : ∃ y, Gate.spans p me x.ref x.reading x.hds = y := ⟨_, rfl⟩
  obtain ⟨SP0, hSP0⟩ : ∃ y, (if rd = true then [(a1, a2)] else ([] : List (Int × Int))) = y := ⟨_, rfl⟩
  have HL2 : Hid (l2 = SP0 ++ Gate.ways p L) := Lib.hid (by
    rw [← hl2, ← hSP0]; unfold Gate.spans; rw [hrd, hL, hsn])
  have HL17 : Hid (l2.length ≤ 17) := Lib.hid (hl2 ▸ Gate.spans_few p me x.ref x.reading x.hds)
  have HRD : Hid (rd = (isb && x.ref)) := Lib.hid (by rw [← hrd, ← hisb]; rfl)
  have HZT : Hid (rd = true → a1 = z1 ∧ a2 = z2 ∧ SP0 = [(a1, a2)]) := Lib.hid fun h => by
    unfold Gate.sees at hz
    rw [hrd, if_pos h, hsn] at hz
    injection hz with q1 q2
    exact ⟨q1, q2, by rw [← hSP0, if_pos h]⟩
  have HZF : Hid (rd = false → z1 = 0 ∧ z2 = 0 ∧ SP0 = []) := Lib.hid fun h => by
    unfold Gate.sees at hz
    rw [hrd, h] at hz
    injection hz with q1 q2
    exact ⟨q1.symm, q2.symm, by rw [← hSP0, h]; rfl⟩
  have KSN : Hid (∀ w, Calls Tryz.prog 42 #[parV p, .int .i64 x.reading] w fun e w' => e = .returned (.tuple #[spanV a1 a2, .bool isb]) ∧ Ok w w') := Lib.hid fun w => by
    have k := ref16Seen p x.reading w
    rw [hsn, hisb] at k
    exact k
  have HXH := Lib.hid hx.heard
  have KTD := Lib.hid fun W' (k : Ok w W') => ref22Told p me x.B x.heard x.hcap W' (hx.heard.below k) hh
  have KFU := Lib.hid fun C cc W' (h : PairsAt W' C l2) => ref7Fuse p.f C l2 cc W' h (by have := HL17.out; omega)
  have KHO := Lib.hid fun w => ref11Hold p s.lo s.hi x.ticks w
  have KMO := Lib.hid fun w => ref16More s.held w
  have KWY := Lib.hid fun a b m w => ref11Way p a b m w
  rw [left22, fz22] at KFU
  obtain ⟨u, hu⟩ : ∃ u, Gate.next p s x.ticks l2 x.given x.table = u := ⟨_, rfl⟩
  obtain ⟨s2, hs2⟩ : ∃ y, Health.step p s x.ticks u = y := ⟨_, rfl⟩
  obtain ⟨s3, hs3⟩ : ∃ y, Health.stamped s2 = y := ⟨_, rfl⟩
  obtain ⟨mm, hmm⟩ : ∃ y, Gate.say p s2 1 me rd (z1, z2) = y := ⟨_, rfl⟩
  have hst : Gate.state p me s x.ticks x.ref x.reading x.hds x.given x.table = s2 := by rw [← hs2, ← hu, ← hl2]; rfl
  have haf : Gate.after p me s x = s3 := by unfold Gate.after; rw [hst, hs3]
  have hte : Gate.tells p me s x = mm := by unfold Gate.tells; rw [hst, hrd, hz, hmm]
  rw [haf, hte]
  have HFIN : Hid (∀ (A4 : Option Addr) (c4 : Nat) (A3 : Option Addr) (c3 : Nat) (W9 : World), PairsOf w.heap.size W9 A4 s3.table → PairsOf w.heap.size W9 A3 s3.table → Ok w W9 → ∃ (A2 : Option Addr) (c2 : Nat) (A3' : Option Addr) (c3' : Nat), Ending.returned (.tuple #[staV s3 A4 c4, msgV mm A3 c3]) = .returned (.tuple #[staV s3 A2 c2, msgV mm A3' c3']) ∧ PairsOf w.heap.size W9 A2 s3.table ∧ PairsOf w.heap.size W9 A3' s3.table ∧ Ok w W9) := Lib.hid fun A4 c4 A3 c3 W9 h1 h2 h3 => ⟨A4, c4, A3, c3, rfl, h1, h2, h3⟩
  have HS3 : Hid (Health.stamped s2 = s3 ∧ s3.table = s2.table ∧ Gate.say p s2 1 me rd (z1, z2) = mm) := Lib.hid ⟨hs3, by rw [← hs3]; rfl, hmm⟩
  have HSL : Hid (s2.table.length ≤ 1000000) := Lib.hid (by rw [← hs2]; exact Nat.le_trans (stepTable22 p s x.ticks u) (by decide))
  have hut : u.table.length ≤ 9223372036854775807 := by
    rw [← hu]
    show (if x.given = true then x.table else s.table).length ≤ _
    split <;> assumption
  have KST0 := Lib.hid fun A2 c2 W' (h : PairsAt W' A2 u.table) => ref21Step p s A cap x.ticks u A2 c2 W' h hut
  have KSY0 := Lib.hid fun A6 c6 W' (h : PairsAt W' A6 s2.table) => ref22Say p s2 A6 c6 1 me rd z1 z2 W' h HSL.out
  rw [hs2] at KST0
  unfold Gate.next at hu
  obtain ⟨lf, hlf⟩ : ∃ b, Gate.left p.f l2 = b := ⟨_, rfl⟩
  obtain ⟨⟨f1, f2⟩, hfz⟩ : ∃ y, Gate.fused p.f l2 = y := ⟨_, rfl⟩
  obtain ⟨⟨h1, h2⟩, hho⟩ : ∃ y, Carry.hold p (s.lo, s.hi) x.ticks = y := ⟨_, rfl⟩
  obtain ⟨h3, hmo⟩ : ∃ y, Anchor.more s.held = y := ⟨_, rfl⟩
  rw [hlf, hfz, hho, hmo] at hu
  rw [hlf, hfz] at KFU
  rw [hho] at KHO
  rw [hmo] at KMO
  simp only at KFU KHO
  have HUA : Hid (∀ A2 c2, (#[.int .i64 u.lo, .int .i64 u.hi, .int .i64 s.time, .bool s.set, .int .i64 u.held, .int .i64 0, .bool u.good, .slice A2 u.table.length c2, .int .i64 s.st, .int .i64 s.sn, .int .i64 s.life] : Array Value) = staCells u A2 c2) := Lib.hid fun A2 c2 => by rw [← hu]; rfl
  have HUT : Hid ((x.given = true → u.table = x.table) ∧ (x.given = false → u.table = s.table)) := Lib.hid ⟨fun h => by rw [← hu]; simp [h], fun h => by rw [← hu]; simp [h]⟩
  have HUF : Hid (lf = true → u.lo = f1 ∧ u.hi = f2 ∧ u.held = 0 ∧ u.good = true) := Lib.hid fun h => by rw [← hu]; simp [h]
  have HUN : Hid (lf = false → u.lo = h1 ∧ u.hi = h2 ∧ u.held = h3 ∧ u.good = s.good) := Lib.hid fun h => by rw [← hu]; simp [h]
  have HAA := Lib.hid hA
  have HT := Lib.hid hx.table
  have HLL := Lib.hid hL
  clear hu hlf hfz hho hmo hA hl hx hh ht hrd hisb hsn hz hL hl2 hSP0 hs2 hs3 hmm hst haf hte hut
  have hP := ((((Own.new w (parCells p) 23 rfl).alloc (.cells (staCells s A cap) 30)).alloc (.cells (inCells x) 44)).alloc (.cells (staCells zeroSta none 0) 30)).alloc (.cells (msgCells zeroMsg none 0) 47)
  have hS := (((Own.new (w.alloc (.cells (parCells p) 23)) (staCells s A cap) 30 (g := w.heap.size + 1) (by simp)).alloc (.cells (inCells x) 44)).alloc (.cells (staCells zeroSta none 0) 30)).alloc (.cells (msgCells zeroMsg none 0) 47)
  have hX := ((Own.new ((w.alloc (.cells (parCells p) 23)).alloc (.cells (staCells s A cap) 30)) (inCells x) 44 (g := w.heap.size + 2) (by simp)).alloc (.cells (staCells zeroSta none 0) 30)).alloc (.cells (msgCells zeroMsg none 0) 47)
  have h8 := (Own.new (((w.alloc (.cells (parCells p) 23)).alloc (.cells (staCells s A cap) 30)).alloc (.cells (inCells x) 44)) (staCells zeroSta none 0) 30 (g := w.heap.size + 3) (by simp)).alloc (.cells (msgCells zeroMsg none 0) 47)
  have h9 := Own.new ((((w.alloc (.cells (parCells p) 23)).alloc (.cells (staCells s A cap) 30)).alloc (.cells (inCells x) 44)).alloc (.cells (staCells zeroSta none 0) 30)) (msgCells zeroMsg none 0) 47 (g := w.heap.size + 4) (by simp)
  have hok := (((((Ok.refl w).alloc (.cells (parCells p) 23)).alloc (.cells (staCells s A cap) 30)).alloc (.cells (inCells x) 44)).alloc (.cells (staCells zeroSta none 0) 30)).alloc (.cells (msgCells zeroMsg none 0) 47)
  unfold staV inV
  go_enter Tryz.func17, Tryz.ntmps17
  go_upto_region 1 with fail
  change Code.wp _ _ _ _ (((((w.alloc (.cells (parCells p) 23)).alloc (.cells (staCells s A cap) 30)).alloc (.cells (inCells x) 44)).alloc (.cells (staCells zeroSta none 0) 30)).alloc (.cells (msgCells zeroMsg none 0) 47))
  generalize ((((w.alloc (.cells (parCells p) 23)).alloc (.cells (staCells s A cap) 30)).alloc (.cells (inCells x) 44)).alloc (.cells (staCells zeroSta none 0) 30)).alloc (.cells (msgCells zeroMsg none 0) 47) = W0 at hP hS hX h8 h9 hok ⊢
  obtain ⟨R9, hR9⟩ : ∃ r, w.heap.size + 4 = r := ⟨_, rfl⟩
  obtain ⟨R8, hR8⟩ : ∃ r, w.heap.size + 3 = r := ⟨_, rfl⟩
  obtain ⟨X, hXe⟩ : ∃ r, w.heap.size + 2 = r := ⟨_, rfl⟩
  obtain ⟨BS, hBS⟩ : ∃ r, w.heap.size + 1 = r := ⟨_, rfl⟩
  obtain ⟨BP, hBP⟩ : ∃ r, w.heap.size = r := ⟨_, rfl⟩
  have HD0 : Hid (w.heap.size ≤ R8 ∧ w.heap.size ≤ R9 ∧ R9 ≠ R8) := Lib.hid ⟨by omega, by omega, by omega⟩
  rw [hR9] at h9
  rw [hR8] at h8
  rw [hXe] at hX
  rw [hBS] at hS
  rw [hBP] at hP
  rw [hR9, hR8, hXe, hBS, hBP]
  clear hR9 hR8 hXe hBS hBP
  obtain ⟨c0, c1, c2, c3, c4, c5, c6, c7, c8, c9, c10, c11⟩ := hP.pars; have hPl := hP.lt
  have i3 := hX.cell 3 (v := .int .i64 x.reading) rfl
  have hxl := hX.lt
  go_upto_region 2 with (go_at_call 42; refine (KSN.out _).mono ?_; rintro e w3 ⟨rfl, hb1⟩; clear c0 c1 c2 c3 c4 c5 c6 c7 c8 c9 c10 c11 hPl i3 hxl; replace hP := hP.next hb1; replace hS := hS.next hb1; replace hX := hX.next hb1; replace h8 := h8.next hb1; replace h9 := h9.next hb1; replace hok := hok.trans hb1; clear hb1)
  have hE := Own.new w3 #[.int .i64 a1, .int .i64 a2] 25 rfl
  have hB0 : RBox BP BS X R8 R9 w3.heap.size p s A cap x a1 a2 (w3.alloc (.cells #[.int .i64 a1, .int .i64 a2] 25)) := ⟨hP.alloc _, hS.alloc _, hX.alloc _, h8.alloc _, h9.alloc _, hE⟩
  have hnE : BP < w3.heap.size ∧ BS < w3.heap.size ∧ X < w3.heap.size ∧ R8 < w3.heap.size ∧ R9 < w3.heap.size := ⟨hP.lt, hS.lt, hX.lt, h8.lt, h9.lt⟩
  have hwE := hok.size
  replace hok := hok.alloc (.cells #[.int .i64 a1, .int .i64 a2] 25)
  change Code.wp _ _ _ _ (w3.alloc (.cells #[.int .i64 a1, .int .i64 a2] 25))
  clear hP hS hX h8 h9 hE
  generalize w3.alloc (.cells #[.int .i64 a1, .int .i64 a2] 25) = W1 at hB0 hok ⊢
  obtain ⟨E, hEe⟩ : ∃ r, w3.heap.size = r := ⟨_, rfl⟩
  rw [hEe] at hB0 hnE hwE
  rw [hEe]
  have HNE := Lib.hid (And.intro hnE hwE)
  clear hEe hnE hwE
  obtain ⟨K, hK⟩ : ∃ r, W1.heap.size = r := ⟨_, rfl⟩
  have HK : Hid (w.heap.size ≤ K ∧ (BP < K ∧ BS < K ∧ X < K ∧ R8 < K ∧ R9 < K ∧ E < K) ∧ ∀ w', Ok W1 w' → K ≤ w'.heap.size) := Lib.hid ⟨hK ▸ hok.size, hK ▸ hB0.lts, fun w' j => hK ▸ j.size⟩
  have hi2 := hB0.x.cell 2 (v := .bool x.ref) rfl
  have hxl := hB0.x.lt
  clear hK
  go_upto_region 3 with fail
  go_cut [29] from 25 to 29 (fun v wx => v = .bool rd ∧ wx = W1)
  case first =>
    have hrd := HRD.out
    cases isb with
    | true =>
      simp only [Bool.true_and] at hrd
      subst hrd
      go_wp2_with fail
      go_meet
      exact ⟨rfl, rfl⟩
    | false =>
      simp only [Bool.false_and] at hrd
      subst hrd
      go_wp2_with fail
      go_meet
      exact ⟨rfl, rfl⟩
  case rest =>
  obtain ⟨rfl, rfl⟩ := hcut
  clear hi2 hxl
  have hok1 := Ok.refl wc
  go_upto_if 29 with fail
  go_cut [11, 12] from 30 to 34 (fun v11 v wx => v11 = .bool rd ∧ WaysRow K wx v SP0 ∧ RBox BP BS X R8 R9 E p s A cap x z1 z2 wx ∧ Ok w wx ∧ K ≤ wx.heap.size)
  case first =>
    have hKK := HK.out.2.2 wc (Ok.refl wc)
    cases rd with
    | true =>
      obtain ⟨q1, q2, q3⟩ := HZT.out rfl
      subst q1 q2
      have e0 := hB0.e.cell 0 (v := .int .i64 a1) rfl
      have e1 := hB0.e.cell 1 (v := .int .i64 a2) rfl
      have hel := hB0.e.lt
      go_wp2_with (at_builtin; refine wpList_append_pairs rfl _ _ 90 rfl K 25 Tryz.underlying90 spanInfo22 (.slice none 0 0) [] 0 rfl rfl (World.ownsRow_nil _ _ _ _) _ [(a1, a2)] 1 1 rfl rfl (pairs_new _ [(a1, a2)] _ _ rfl (by simp)) (by simp) (by simp; omega) ?_; intro v8 w8 hown hgrow)
      go_meet
      have hk8 := Below.grown (hok.alloc _) hgrow (hok.alloc _).size (fun g e => by cases e)
      exact ⟨by rw [show isb = true by have h := HRD.out; revert h; clear HRD; cases isb <;> simp], by rw [q3]; exact hown, (hB0.next ((Ok.refl wc).alloc _)).grown hgrow (K := K) (fun g e => by cases e) HK.out.2.1, hk8, Nat.le_trans hKK (Nat.le_trans ((Ok.refl wc).alloc _).size hgrow.size)⟩
    | false =>
      obtain ⟨q1, q2, q3⟩ := HZF.out rfl
      subst q1 q2
      have e0 := hB0.e.cell 0 (v := .int .i64 a1) rfl
      have e1 := hB0.e.cell 1 (v := .int .i64 a2) rfl
      have y0 := hB0.e.frozen 0
      have y1 := hB0.e.frozen 1
      have hel := hB0.e.lt
      go_wp2_with fail
      go_meet
      have hne := HNE.out
      refine ⟨rfl, by rw [q3]; exact World.ownsRow_nil _ _ _ _, ?_, (hok.setCell (p := ⟨E, 0, none⟩) hne.2 (.int .i64 0)).setCell (p := ⟨E, 1, none⟩) hne.2 (.int .i64 0), by simpa using hKK⟩
      have hon : Only E wc ((wc.setCell ⟨E, 0, none⟩ (.int .i64 0)).setCell ⟨E, 1, none⟩ (.int .i64 0)) := ((Only.refl E wc).setR 0 (.int .i64 0)).setR 1 (.int .i64 0)
      exact ⟨hon.own hB0.p (by omega), hon.own hB0.s (by omega), hon.own hB0.x (by omega), hon.own hB0.r8 (by omega), hon.own hB0.r9 (by omega), (hB0.e.set 0 (.int .i64 0)).set 1 (.int .i64 0)⟩
  case rest =>
  clear hB0 hok hok1 HZT HZF HRD KSN
  obtain ⟨rfl, hrow, hB, hok, hKw⟩ := hcut
  obtain ⟨c0, c1, c2, c3, c4, c5, c6, c7, c8, c9, c10, c11⟩ := hB.p.pars; have hPl := hB.p.lt
  have i1 := hB.x.cell 1 (v := .slice x.B x.heard.length x.hcap) rfl
  have hxl := hB.x.lt
  go_wp2_with (go_at_call 14; refine (KTD.out _ hok).mono ?_; rintro e w4 ⟨C, cc, os, rfl, hos, hmem, hOR, hb1⟩; clear c0 c1 c2 c3 c4 c5 c6 c7 c8 c9 c10 c11 hPl i1 hxl; replace hB := hB.next hb1; replace hrow := row_next19 hrow hb1; replace hok := hok.trans hb1; replace hKw := Nat.le_trans hKw hb1.size; clear hb1)
  have HBT := Lib.hid fun W' (j : Ok w W') (y : HA) (hy : y ∈ os) => (HXH.out.below j).tabs y (hmem y hy)
  have hOR0 := row_low19 hOR (Nat.zero_le _)
  have HOS : Hid (os.map HA.hd = L) := Lib.hid (hos.trans HLL.out)
  clear hOR hos hmem KTD HXH
  have hokw := Ok.refl w4
  have hex0 : SP0 ++ Gate.ways p (L.take 0) = SP0 := by rw [List.take_zero]; exact List.append_nil _
  have hN16 : os.length ≤ 16 := by
    have h1 := congrArg List.length HOS.out
    rw [List.length_map, ← HLL.out] at h1
    have := Gate.told_cnt p me x.hds
    omega
  go_loopw [12, 41] (fun v i wr => ∃ k : Nat, k ≤ os.length ∧ i = .int .i64 k ∧ WaysRow K wr v (SP0 ++ Gate.ways p (L.take k)) ∧ RBox BP BS X R8 R9 E p s A cap x z1 z2 wr ∧ Ok w wr ∧ K ≤ wr.heap.size ∧ wr.ownsRow 0 49 15 (.slice C os.length cc) os.length (os.flatMap haL)) (fun _ i _ => os.length - (intOf i).toNat)
  case atStart => exact ⟨0, Nat.zero_le _, rfl, by rw [hex0]; exact hrow, hB, hok, hKw, hOR0⟩
  case round =>
  clear hrow hex0 hB hok hKw hokw hOR0
  obtain ⟨k, hk, rfl, hrow, hB, hok, hKw, hOR⟩ := hrel
  by_cases hlt : k < os.length
  · obtain ⟨C', cc', e', hHH⟩ := heards_of_row rfl hOR (HBT.out _ hok)
    cases e'
    obtain ⟨b, off, hA2, hb, hcx⟩ := hHH.nthAt k hlt
    obtain ⟨y, hy⟩ : ∃ y, os[k] = y := ⟨_, rfl⟩
    have HSN : Hid (Gate.ways p (L.take (k + 1)) = if y.m.ref = true then Gate.ways p (L.take k) ++ [Gate.way p y.hd] else Gate.ways p (L.take k)) := Lib.hid (by
      have hkl : k < L.length := by rw [← HOS.out, List.length_map]; exact hlt
      rw [List.take_succ_eq_append_getElem hkl, Gate.ways_snoc]
      have : L[k] = y.hd := by rw [← hy]; simp [← HOS.out]
      rw [this]
      rfl)
    have HWL : Hid ((SP0 ++ Gate.ways p (L.take k)).length ≤ 1000) := Lib.hid (by
      have h1 := Gate.ways_few p (L.take k)
      rw [List.length_take] at h1
      have h2 := HL17.out
      rw [HL2.out, List.length_append] at h2
      rw [List.length_append]
      omega)
    obtain ⟨t0, t1, t2, t3, t4, t5, t6, t7, t8, t9, t10, t11, t12, t13, t14⟩ := hcx y hy
    subst hA2
    clear hcx hy hHH
    go_upto_region 10 with fail
    clear t0 t1 t2 t3 t4 t5 t6 t7 t8 t9 t10 t11 t12 t13 t14 hb
    have hZ := Own.new wr #[.int .i64 y.m.kind, .int .i64 y.m.frm, .int .i64 y.m.lo, .int .i64 y.m.hi, .int .i64 y.m.held, .int .i64 y.m.hops, .bool y.m.good, .bool y.m.ref, .int .i64 y.m.slo, .int .i64 y.m.shi, .int .i64 y.m.pulse, .int .i64 y.m.time, .int .i64 y.m.num, .slice y.A y.m.table.length y.cap, .int .i64 y.age] 49 rfl
    have hk1 : Ok wr (wr.alloc (.cells #[.int .i64 y.m.kind, .int .i64 y.m.frm, .int .i64 y.m.lo, .int .i64 y.m.hi, .int .i64 y.m.held, .int .i64 y.m.hops, .bool y.m.good, .bool y.m.ref, .int .i64 y.m.slo, .int .i64 y.m.shi, .int .i64 y.m.pulse, .int .i64 y.m.time, .int .i64 y.m.num, .slice y.A y.m.table.length y.cap, .int .i64 y.age] 49)) := (Ok.refl wr).alloc (.cells #[.int .i64 y.m.kind, .int .i64 y.m.frm, .int .i64 y.m.lo, .int .i64 y.m.hi, .int .i64 y.m.held, .int .i64 y.m.hops, .bool y.m.good, .bool y.m.ref, .int .i64 y.m.slo, .int .i64 y.m.shi, .int .i64 y.m.pulse, .int .i64 y.m.time, .int .i64 y.m.num, .slice y.A y.m.table.length y.cap, .int .i64 y.age] 49)
    replace hrow := row_next19 hrow hk1
    replace hB := hB.next hk1
    replace hok := hok.trans hk1
    replace hKw := Nat.le_trans hKw hk1.size
    replace hOR := row_next19 hOR hk1
    clear hk1
    change Code.wp _ _ _ _ (wr.alloc (.cells #[.int .i64 y.m.kind, .int .i64 y.m.frm, .int .i64 y.m.lo, .int .i64 y.m.hi, .int .i64 y.m.held, .int .i64 y.m.hops, .bool y.m.good, .bool y.m.ref, .int .i64 y.m.slo, .int .i64 y.m.shi, .int .i64 y.m.pulse, .int .i64 y.m.time, .int .i64 y.m.num, .slice y.A y.m.table.length y.cap, .int .i64 y.age] 49))
    generalize wr.alloc (.cells #[.int .i64 y.m.kind, .int .i64 y.m.frm, .int .i64 y.m.lo, .int .i64 y.m.hi, .int .i64 y.m.held, .int .i64 y.m.hops, .bool y.m.good, .bool y.m.ref, .int .i64 y.m.slo, .int .i64 y.m.shi, .int .i64 y.m.pulse, .int .i64 y.m.time, .int .i64 y.m.num, .slice y.A y.m.table.length y.cap, .int .i64 y.age] 49) = W3 at hZ hrow hB hok hKw hOR ⊢
    generalize wr.heap.size = Z at hZ ⊢
    have z7 := hZ.cell 7 rfl
    have hZl := hZ.lt
    cases href : y.m.ref with
    | false =>
      rw [href] at z7
      have hex : Gate.ways p (L.take k) = Gate.ways p (L.take (k + 1)) := by rw [HSN.out, href]; simp
      rw [hex] at hrow
      clear HSN HWL
      go_wp2_with fail
      go_roundw
      case rel => exact ⟨k + 1, hlt, by go_num, hrow, hB, hok, hKw, hOR⟩
      case measure => simp [intOf]; omega
    | true =>
      rw [href] at z7
      have hex : SP0 ++ Gate.ways p (L.take (k + 1)) = (SP0 ++ Gate.ways p (L.take k)) ++ [Gate.way p y.hd] := by rw [HSN.out, href]; simp
      go_upto_region 11 with fail
      clear z7 hZl
      obtain ⟨⟨y1, y2⟩, hyy⟩ : ∃ z, Gate.way p y.hd = z := ⟨_, rfl⟩
      have KW := Lib.hid fun w => KWY.out y.m.slo y.m.shi y.age w
      rw [show Carry.way p (y.m.slo, y.m.shi) y.age = (y1, y2) from hyy] at KW
      rw [hyy] at hex
      have HEX := Lib.hid hex
      obtain ⟨SK, hSK⟩ : ∃ z, SP0 ++ Gate.ways p (L.take k) = z := ⟨_, rfl⟩
      rw [hSK] at hrow HEX HWL
      have hrow' : W3.ownsRow K 25 2 _ SK.length (cellsOfPairs SK) := hrow
      clear hrow hyy hex hSK HSN
      obtain ⟨A5, q5, rfl, -⟩ := PairsAt.of_own hrow'
      obtain ⟨c0, c1, c2, c3, c4, c5, c6, c7, c8, c9, c10, c11⟩ := hB.p.pars; have hPl := hB.p.lt
      have z8 := hZ.cell 8 rfl
      have z9 := hZ.cell 9 rfl
      have z14 := hZ.cell 14 rfl
      have hZl := hZ.lt
      go_upto_region 12 with (first
        | (go_at_call 43; refine (KW.out _).mono ?_; rintro e w5 ⟨rfl, hb1⟩; clear c0 c1 c2 c3 c4 c5 c6 c7 c8 c9 c10 c11 hPl z8 z9 z14 hZl; replace hrow' := row_next19 hrow' hb1; replace hB := hB.next hb1; replace hok := hok.trans hb1; replace hKw := Nat.le_trans hKw hb1.size; replace hOR := row_next19 hOR hb1; clear hb1 hZ)
        | (at_builtin; refine wpList_append_pairs rfl _ _ 90 rfl K 25 Tryz.underlying90 spanInfo22 (.slice A5 SK.length q5) SK SK.length rfl rfl (World.ownsRow.alloc hrow' _) _ [(y1, y2)] 1 1 rfl rfl (pairs_new _ [(y1, y2)] _ _ rfl (by simp)) (by have := HWL.out; simp; omega) (by simp; omega) ?_; intro v8 w8 hown hgrow))
      have HR := Lib.hid (row_far22 hrow')
      have hB8 := (hB.next ((Ok.refl _).alloc _)).grown hgrow HR.out HK.out.2.1
      have hok8 := Below.grown (hok.alloc _) hgrow (hok.alloc _).size (fun g e => Nat.le_trans HK.out.1 (HR.out _ e))
      have hKw8 := Nat.le_trans hKw (Nat.le_trans ((Ok.refl _).alloc _).size hgrow.size)
      have hH8 := row_other22 (World.ownsRow.alloc hOR _) (World.ownsRow.alloc hrow' _) (by decide) hgrow
      have hrow8 : WaysRow K w8 v8 (SP0 ++ Gate.ways p (L.take (k + 1))) := by rw [HEX.out]; exact hown
      clear hB hok hKw hown hgrow hrow' hOR
      go_wp2_with fail
      go_roundw
      case rel => exact ⟨k + 1, hlt, by go_num, hrow8, hB8, hok8, hKw8, hH8⟩
      case measure => simp [intOf]; omega
  · have hkN : k = os.length := by omega
    have hex : SP0 ++ Gate.ways p (L.take k) = l2 := by
      rw [HL2.out, hkN, show os.length = L.length by rw [← HOS.out, List.length_map], List.take_length]
    rw [hex] at hrow
    have hrow' : wr.ownsRow K 25 2 _ l2.length (cellsOfPairs l2) := hrow
    obtain ⟨C2, cc2, rfl, hC2⟩ := PairsAt.of_own hrow'
    have HC2N : Hid (∀ a, C2 = some a → a.block < wr.heap.size) := Lib.hid fun a ha => by subst ha; exact (World.ownsRow.lt hrow' _ rfl).2
    clear hrow hrow' hex hOR hlt hk
    obtain ⟨s0, s1, s2', s3', s4, s5, s6, s7, s8, s9, s10⟩ := hB.s.sta; have hsl := hB.s.lt
    go_upto_region 14 with fail
    clear s0 s1 s2' s3' s4 s5 s6 s7 s8 s9 s10 hsl
    have hN := Own.new wr #[.int .i64 s.lo, .int .i64 s.hi, .int .i64 s.time, .bool s.set, .int .i64 s.held, .int .i64 s.hops, .bool s.good, .slice A s.table.length cap, .int .i64 s.st, .int .i64 s.sn, .int .i64 s.life] 30 rfl
    have hk1 : Ok wr (wr.alloc (.cells #[.int .i64 s.lo, .int .i64 s.hi, .int .i64 s.time, .bool s.set, .int .i64 s.held, .int .i64 s.hops, .bool s.good, .slice A s.table.length cap, .int .i64 s.st, .int .i64 s.sn, .int .i64 s.life] 30)) := (Ok.refl wr).alloc (.cells #[.int .i64 s.lo, .int .i64 s.hi, .int .i64 s.time, .bool s.set, .int .i64 s.held, .int .i64 s.hops, .bool s.good, .slice A s.table.length cap, .int .i64 s.st, .int .i64 s.sn, .int .i64 s.life] 30)
    have hlts := hB.lts
    replace hB := hB.next hk1
    have hwN := hok.size
    replace hok := hok.trans hk1
    replace hC2 := hC2.below hk1
    clear hk1 hKw
    change Code.wp _ _ _ _ (wr.alloc (.cells #[.int .i64 s.lo, .int .i64 s.hi, .int .i64 s.time, .bool s.set, .int .i64 s.held, .int .i64 s.hops, .bool s.good, .slice A s.table.length cap, .int .i64 s.st, .int .i64 s.sn, .int .i64 s.life] 30))
    generalize wr.alloc (.cells #[.int .i64 s.lo, .int .i64 s.hi, .int .i64 s.time, .bool s.set, .int .i64 s.held, .int .i64 s.hops, .bool s.good, .slice A s.table.length cap, .int .i64 s.st, .int .i64 s.sn, .int .i64 s.life] 30) = W3 at hN hB hok hC2 ⊢
    obtain ⟨N, hNe⟩ : ∃ r, wr.heap.size = r := ⟨_, rfl⟩
    rw [hNe] at hN hlts hwN
    rw [hNe]
    have HBN := Lib.hid hlts
    have HNW := Lib.hid hwN
    rw [hNe] at HC2N
    clear hNe hlts hwN
    have n5 := hN.cell 5 rfl
    have y5 := hN.frozen 5
    have hnl := hN.lt
    go_upto_region 15 with fail
    clear n5 y5 hnl
    replace hC2 := pairs_only22 hC2 ((Only.refl N W3).setR 5 (.int .i64 0)) (fun a ha => Nat.ne_of_lt (HC2N.out a ha))
    replace hB := hB.only ((Only.refl N W3).setR 5 (.int .i64 0)) HBN.out
    replace hok := hok.setCell (p := ⟨N, 5, none⟩) HNW.out (.int .i64 0)
    replace hN := hN.set 5 (.int .i64 0)
    change Own _ N #[.int .i64 s.lo, .int .i64 s.hi, .int .i64 s.time, .bool s.set, .int .i64 s.held, .int .i64 0, .bool s.good, .slice A s.table.length cap, .int .i64 s.st, .int .i64 s.sn, .int .i64 s.life] at hN
    change Code.wp _ _ _ _ (W3.setCell ⟨N, 5, none⟩ (.int .i64 0))
    generalize W3.setCell ⟨N, 5, none⟩ (.int .i64 0) = W4 at hN hB hok hC2 ⊢
    have c1 := hB.p.cell 1 (v := .int .i64 p.f) rfl
    have hPl := hB.p.lt
    go_upto_region 16 with (go_at_call 44; refine (KFU.out _ _ _ hC2).mono ?_; rintro e w5 ⟨rfl, hb1⟩; clear c1 hPl; replace hB := hB.next hb1; replace hN := hN.next hb1; replace hok := hok.trans hb1; clear hb1 hC2)
    have hF := Own.new w5 #[.int .i64 f1, .int .i64 f2] 25 rfl
    have hk1 : Ok w5 (w5.alloc (.cells #[.int .i64 f1, .int .i64 f2] 25)) := (Ok.refl w5).alloc (.cells #[.int .i64 f1, .int .i64 f2] 25)
    replace hB := hB.next hk1
    replace hN := hN.next hk1
    replace hok := hok.trans hk1
    clear hk1
    change Code.wp _ _ _ _ (w5.alloc (.cells #[.int .i64 f1, .int .i64 f2] 25))
    generalize w5.alloc (.cells #[.int .i64 f1, .int .i64 f2] 25) = W6 at hF hN hB hok ⊢
    generalize w5.heap.size = FB at hF ⊢
    go_upto_if 68 with fail
    go_cut [] from 69 to 83 (fun wx => Own wx N #[.int .i64 u.lo, .int .i64 u.hi, .int .i64 s.time, .bool s.set, .int .i64 u.held, .int .i64 0, .bool u.good, .slice A s.table.length cap, .int .i64 s.st, .int .i64 s.sn, .int .i64 s.life] ∧ RBox BP BS X R8 R9 E p s A cap x z1 z2 wx ∧ Ok w wx)
    case first =>
      cases lf with
      | true =>
        obtain ⟨q1, q2, q3, q4⟩ := HUF.out rfl
        have HU1 : Hid ((#[.int .i64 u.lo, .int .i64 u.hi, .int .i64 s.time, .bool s.set, .int .i64 u.held, .int .i64 0, .bool u.good, .slice A s.table.length cap, .int .i64 s.st, .int .i64 s.sn, .int .i64 s.life] : Array Value) = #[.int .i64 f1, .int .i64 f2, .int .i64 s.time, .bool s.set, .int .i64 0, .int .i64 0, .bool true, .slice A s.table.length cap, .int .i64 s.st, .int .i64 s.sn, .int .i64 s.life]) := Lib.hid (by rw [q1, q2, q3, q4])
        clear q1 q2 q3 q4
        have n0 := hN.cell 0 rfl
        have n1 := hN.cell 1 rfl
        have n4 := hN.cell 4 rfl
        have n6 := hN.cell 6 rfl
        have y0 := hN.frozen 0
        have y1 := hN.frozen 1
        have y4 := hN.frozen 4
        have y6 := hN.frozen 6
        have hnl := hN.lt
        have b0 := hF.cell 0 (v := .int .i64 f1) rfl
        have b1 := hF.cell 1 (v := .int .i64 f2) rfl
        have hfl := hF.lt
        go_wp2_with fail
        go_meet
        refine ⟨?_, hB.only (((((Only.refl N _).setR 0 (.int .i64 f1)).setR 1 (.int .i64 f2)).setR 4 (.int .i64 0)).setR 6 (.bool true)) HBN.out, ((((hok.setCell (p := ⟨N, 0, none⟩) HNW.out (.int .i64 f1)).setCell (p := ⟨N, 1, none⟩) HNW.out (.int .i64 f2)).setCell (p := ⟨N, 4, none⟩) HNW.out (.int .i64 0)).setCell (p := ⟨N, 6, none⟩) HNW.out (.bool true))⟩
        rw [HU1.out]
        exact ((((hN.set 0 (.int .i64 f1)).set 1 (.int .i64 f2)).set 4 (.int .i64 0)).set 6 (.bool true))
      | false =>
        obtain ⟨q1, q2, q3, q4⟩ := HUN.out rfl
        have HU1 : Hid ((#[.int .i64 u.lo, .int .i64 u.hi, .int .i64 s.time, .bool s.set, .int .i64 u.held, .int .i64 0, .bool u.good, .slice A s.table.length cap, .int .i64 s.st, .int .i64 s.sn, .int .i64 s.life] : Array Value) = #[.int .i64 h1, .int .i64 h2, .int .i64 s.time, .bool s.set, .int .i64 h3, .int .i64 0, .bool s.good, .slice A s.table.length cap, .int .i64 s.st, .int .i64 s.sn, .int .i64 s.life]) := Lib.hid (by rw [q1, q2, q3, q4])
        clear q1 q2 q3 q4 hF
        obtain ⟨c0, c1, c2, c3, c4, c5, c6, c7, c8, c9, c10, c11⟩ := hB.p.pars; have hPl := hB.p.lt
        have s0 := hB.s.cell 0 (v := .int .i64 s.lo) rfl
        have s1 := hB.s.cell 1 (v := .int .i64 s.hi) rfl
        have hsl := hB.s.lt
        have i0 := hB.x.cell 0 (v := .int .i64 x.ticks) rfl
        have hxl := hB.x.lt
        go_upto_region 21 with (go_at_call 45; refine (KHO.out _).mono ?_; rintro e w7 ⟨rfl, hb1⟩; clear c0 c1 c2 c3 c4 c5 c6 c7 c8 c9 c10 c11 hPl s0 s1 hsl i0 hxl; replace hB := hB.next hb1; replace hN := hN.next hb1; replace hok := hok.trans hb1; clear hb1; have n0 := hN.cell 0 rfl; have n1 := hN.cell 1 rfl; have y0 := hN.frozen 0; have y1 := hN.frozen 1; have hnl := hN.lt)
        clear n0 n1 y0 y1 hnl
        replace hB := hB.only (((Only.refl N _).setR 0 (.int .i64 h1)).setR 1 (.int .i64 h2)) HBN.out
        replace hok := ((hok.setCell (p := ⟨N, 0, none⟩) HNW.out (.int .i64 h1)).setCell (p := ⟨N, 1, none⟩) HNW.out (.int .i64 h2))
        replace hN := ((hN.set 0 (.int .i64 h1)).set 1 (.int .i64 h2))
        generalize (w7.setCell ⟨N, 0, none⟩ (.int .i64 h1)).setCell ⟨N, 1, none⟩ (.int .i64 h2) = W8 at hN hB hok ⊢
        have s4 := hB.s.cell 4 (v := .int .i64 s.held) rfl
        have hsl := hB.s.lt
        go_wp2_with (go_at_call 46; refine (KMO.out _).mono ?_; rintro e w9 ⟨rfl, hb1⟩; clear s4 hsl; replace hB := hB.next hb1; replace hN := hN.next hb1; replace hok := hok.trans hb1; clear hb1; have n4 := hN.cell 4 (v := .int .i64 s.held) rfl; have y4 := hN.frozen 4; have hnl := hN.lt)
        go_meet
        refine ⟨?_, hB.only ((Only.refl N _).setR 4 (.int .i64 h3)) HBN.out, hok.setCell (p := ⟨N, 4, none⟩) HNW.out (.int .i64 h3)⟩
        rw [HU1.out]
        exact hN.set 4 (.int .i64 h3)
    case rest =>
    clear hN hB hok hF KHO KMO HUF HUN KFU
    obtain ⟨hN, hB, hok⟩ := hcut
    have g4 := hB.x.cell 4 (v := .bool x.given) rfl
    have hxl := hB.x.lt
    go_upto_if 85 with fail
    clear g4 hxl
    obtain ⟨gv, hgv⟩ : ∃ b, x.given = b := ⟨_, rfl⟩
    rw [hgv]
    have HGV := Lib.hid hgv
    clear hgv
    go_cut [] from 86 to 88 (fun wx => ∃ (A2 : Option Addr) (c2 : Nat), PairsAt w A2 u.table ∧ Own wx N #[.int .i64 u.lo, .int .i64 u.hi, .int .i64 s.time, .bool s.set, .int .i64 u.held, .int .i64 0, .bool u.good, .slice A2 u.table.length c2, .int .i64 s.st, .int .i64 s.sn, .int .i64 s.life] ∧ RBox BP BS X R8 R9 E p s A cap x z1 z2 wx ∧ Ok w wx)
    case first =>
      cases gv with
      | true =>
        have g5 := hB.x.cell 5 (v := .slice x.T x.table.length x.tcap) rfl
        have hxl := hB.x.lt
        have n7 := hN.cell 7 rfl
        have y7 := hN.frozen 7
        have hnl := hN.lt
        go_wp2_with fail
        go_meet
        have hut := HUT.out.1 HGV.out
        refine ⟨x.T, x.tcap, by rw [hut]; exact HT.out, ?_, hB.only ((Only.refl N _).setR 7 (.slice x.T x.table.length x.tcap)) HBN.out, hok.setCell (p := ⟨N, 7, none⟩) HNW.out (.slice x.T x.table.length x.tcap)⟩
        rw [hut]
        exact hN.set 7 (.slice x.T x.table.length x.tcap)
      | false =>
        go_wp2_with fail
        go_meet
        have hut := HUT.out.2 HGV.out
        exact ⟨A, cap, by rw [hut]; exact HAA.out, by rw [hut]; exact hN, hB, hok⟩
    case rest =>
    clear hN hB hok
    obtain ⟨A2, c2, hPu, hN, hB, hok⟩ := hcut
    rw [HUA.out] at hN
    go_upto_region 24 with fail
    obtain ⟨N2, hN2⟩ : ∃ r, wc.drew.heap.size = r := ⟨_, rfl⟩
    have HN2 := Lib.hid hN2
    have HD : Hid (w.heap.size ≤ R8 ∧ w.heap.size ≤ R9 ∧ R9 ≠ R8 ∧ R8 < N2 ∧ R9 < N2) := Lib.hid ⟨HD0.out.1, HD0.out.2.1, HD0.out.2.2, hN2 ▸ hB.r8.drew.lt, hN2 ▸ hB.r9.drew.lt⟩
    have KST := Lib.hid fun W' (k : Ok wc.drew W') => KST0.out A2 c2 W' (hPu.below (hok.trans ((Ok.refl wc).drew.trans k)))
    unfold staV at KST
    have KSY := Lib.hid KSY0.out
    have HB := Lib.hid fun W' (k : Ok wc.drew W') => hB.next ((Ok.refl wc).drew.trans k)
    have HN := Lib.hid fun W' (k : Ok wc.drew W') => hN.drew.next k
    have HOK := Lib.hid hok
    clear hN hB hok hPu hN2 KST0 KSY0
    refine wp_region_facts_float (by kernel_rfl) 102 rfl (VCRBeat BP BS X E N N2 p s s2 s3 u A A2 cap c2 x me z1 z2 rd mm) Ok 13 12 rfl (by decide) _ _ rfl rfl (by kernel_rfl) (by kernel_rfl) _ _ rfl rfl rfl (by kernel_rfl) (by kernel_rfl) (fun i v w w' h k w'' k' => h w'' (k.trans k')) (fun a b c => Ok.trans) (Ok.refl _) [some 89, some 90, some 91, some 92, some 93, some 94, some 95, some 96, some 97, some 98, some 99, some 100, some 101] [some 89, some 90, some 91, some 92, some 93, some 94, some 95, some 96, some 97, some 98, some 99, some 100, none] rfl rfl ⟨?_, ?_, ?_, ?_, ?_, ?_, ?_, ?_, ?_, ?_, ?_, ?_, ?_, trivial⟩ ?_ ?_
    · intro a' w' hF hR
      have e4 : a'.tmps[4]? = some (.pointer (some ⟨BP, 0, none⟩)) := hF.slot 4 (by kernel_rfl) rfl
      obtain ⟨p0, p1, p2, p3, p4, p5, p6, p7, p8, p9, p10, p11⟩ := (HB.out _ hR).p.pars
      have hpl := (HB.out _ hR).p.lt
      refine wpOp_run (v := parV p) rfl rfl ?_ (fun _ _ => rfl) (Ok.refl _)
      clear hF
      go_simp
    · intro a' w' hF hR
      have e4 : a'.tmps[4]? = some (.pointer (some ⟨BP, 0, none⟩)) := hF.slot 4 (by kernel_rfl) rfl
      obtain ⟨p0, p1, p2, p3, p4, p5, p6, p7, p8, p9, p10, p11⟩ := (HB.out _ hR).p.pars
      have hpl := (HB.out _ hR).p.lt
      refine wpOp_run (v := parV p) rfl rfl ?_ (fun _ _ => rfl) (Ok.refl _)
      clear hF
      go_simp
    · intro a' w' hF hR
      have e6 : a'.tmps[6]? = some (.pointer (some ⟨BS, 0, none⟩)) := hF.slot 6 (by kernel_rfl) rfl
      obtain ⟨s0, s1, s2', s3', s4, s5, s6, s7, s8, s9, s10⟩ := (HB.out _ hR).s.sta
      have hsl := (HB.out _ hR).s.lt
      refine wpOp_run (v := .agg #[.int .i64 s.lo, .int .i64 s.hi, .int .i64 s.time, .bool s.set, .int .i64 s.held, .int .i64 s.hops, .bool s.good, .slice A s.table.length cap, .int .i64 s.st, .int .i64 s.sn, .int .i64 s.life]) rfl rfl ?_ (fun _ _ => rfl) (Ok.refl _)
      clear hF
      go_simp
    · intro a' w' hF hR
      have e7 : a'.tmps[7]? = some (.pointer (some ⟨X, 0, none⟩)) := hF.slot 7 (by kernel_rfl) rfl
      refine wpOp_run (v := .pointer (some ⟨X, 0, none⟩)) rfl rfl ?_ (fun _ _ => rfl) (Ok.refl _)
      clear hF
      go_simp
    · intro a' w' hF hR
      obtain ⟨v3, hv3, e92⟩ := hF.get 3 92 (by kernel_rfl) (by kernel_rfl)
      obtain rfl : v3 = _ := hv3 _ (Ok.refl _)
      have i0 := (HB.out _ hR).x.cell 0 (v := .int .i64 x.ticks) rfl
      have hxl := (HB.out _ hR).x.lt
      refine wpOp_run (v := .int .i64 x.ticks) rfl rfl ?_ (fun _ _ => rfl) (Ok.refl _)
      clear hF
      go_simp
    · intro a' w' hF hR
      have e15 : a'.tmps[15]? = some (.pointer (some ⟨N, 0, none⟩)) := hF.slot 15 (by kernel_rfl) rfl
      obtain ⟨n0, n1, n2, n3, n4, n5, n6, n7, n8, n9, n10⟩ := (HN.out _ hR).sta
      have hnl := (HN.out _ hR).lt
      refine wpOp_run (v := .agg #[.int .i64 u.lo, .int .i64 u.hi, .int .i64 u.time, .bool u.set, .int .i64 u.held, .int .i64 u.hops, .bool u.good, .slice A2 u.table.length c2, .int .i64 u.st, .int .i64 u.sn, .int .i64 u.life]) rfl rfl ?_ (fun _ _ => rfl) (Ok.refl _)
      clear hF
      go_simp
    · intro a' w' hF hR
      obtain ⟨v1, hv1, e90⟩ := hF.get 1 90 (by kernel_rfl) (by kernel_rfl)
      obtain rfl : v1 = _ := hv1 _ (Ok.refl _)
      obtain ⟨v2, hv2, e91⟩ := hF.get 2 91 (by kernel_rfl) (by kernel_rfl)
      obtain rfl : v2 = _ := hv2 _ (Ok.refl _)
      obtain ⟨v4, hv4, e93⟩ := hF.get 4 93 (by kernel_rfl) (by kernel_rfl)
      obtain rfl : v4 = _ := hv4 _ (Ok.refl _)
      obtain ⟨v5, hv5, e94⟩ := hF.get 5 94 (by kernel_rfl) (by kernel_rfl)
      obtain rfl : v5 = _ := hv5 _ (Ok.refl _)
      clear hF
      refine wpOp_call (f := 48) (args := #[parV p, .agg #[.int .i64 s.lo, .int .i64 s.hi, .int .i64 s.time, .bool s.set, .int .i64 s.held, .int .i64 s.hops, .bool s.good, .slice A s.table.length cap, .int .i64 s.st, .int .i64 s.sn, .int .i64 s.life], .int .i64 x.ticks, .agg #[.int .i64 u.lo, .int .i64 u.hi, .int .i64 u.time, .bool u.set, .int .i64 u.held, .int .i64 u.hops, .bool u.good, .slice A2 u.table.length c2, .int .i64 u.st, .int .i64 u.sn, .int .i64 u.life]]) rfl rfl ?_ ((KST.out _ hR).mono ?_)
      · go_simp
      · rintro e w2 ⟨A6, c6, rfl, hI2, hb2⟩; exact ⟨_, rfl, fun w3 k => ⟨A6, c6, rfl, hI2.1.below k, fun a ha => Nat.le_trans (HN2.out ▸ hR.size) (hI2.2 a ha)⟩, hb2⟩
    · intro a' w' hF hR
      have e1 : a'.tmps[1]? = some (.int .i64 me) := hF.slot 1 (by kernel_rfl) rfl
      refine wpOp_run (v := .int .i64 me) rfl rfl ?_ (fun _ _ => rfl) (Ok.refl _)
      clear hF
      go_simp
    · intro a' w' hF hR
      have e11 : a'.tmps[11]? = some (.bool rd) := hF.slot 11 (by kernel_rfl) rfl
      refine wpOp_run (v := .bool rd) rfl rfl ?_ (fun _ _ => rfl) (Ok.refl _)
      clear hF
      go_simp
    · intro a' w' hF hR
      have e10 : a'.tmps[10]? = some (.pointer (some ⟨E, 0, none⟩)) := hF.slot 10 (by kernel_rfl) rfl
      have q0 := (HB.out _ hR).e.cell 0 (v := .int .i64 z1) rfl
      have q1 := (HB.out _ hR).e.cell 1 (v := .int .i64 z2) rfl
      have hel := (HB.out _ hR).e.lt
      refine wpOp_run (v := .agg #[.int .i64 z1, .int .i64 z2]) rfl rfl ?_ (fun _ _ => rfl) (Ok.refl _)
      clear hF
      go_simp
    · intro a' w' hF hR
      obtain ⟨v0, hv0, e89⟩ := hF.get 0 89 (by kernel_rfl) (by kernel_rfl)
      obtain rfl : v0 = _ := hv0 _ (Ok.refl _)
      obtain ⟨v6, hv6, e95⟩ := hF.get 6 95 (by kernel_rfl) (by kernel_rfl)
      obtain ⟨v7, hv7, e96⟩ := hF.get 7 96 (by kernel_rfl) (by kernel_rfl)
      obtain rfl : v7 = _ := hv7 _ (Ok.refl _)
      obtain ⟨v8, hv8, e97⟩ := hF.get 8 97 (by kernel_rfl) (by kernel_rfl)
      obtain rfl : v8 = _ := hv8 _ (Ok.refl _)
      obtain ⟨v9, hv9, e98⟩ := hF.get 9 98 (by kernel_rfl) (by kernel_rfl)
      obtain rfl : v9 = _ := hv9 _ (Ok.refl _)
      obtain ⟨A6, c6, rfl, h6⟩ := hv6 _ (Ok.refl _)
      clear hF
      refine wpOp_call (f := 47) (args := #[parV p, staV s2 A6 c6, .int .i64 1, .int .i64 me, .bool rd, .agg #[.int .i64 z1, .int .i64 z2]]) rfl rfl ?_ ((KSY.out A6 c6 _ h6.1).mono ?_)
      · go_simp
      · rintro e w2 ⟨A3, c3, rfl, hT3, hb2⟩
        rw [HS3.out.1, HS3.out.2.2]
        have h4 : PairsOf N2 w2 A6 s3.table := by rw [HS3.out.2.1]; exact ⟨h6.1.below hb2, h6.2⟩
        have h3 : PairsOf N2 w2 A3 s3.table := by rw [HS3.out.2.1]; exact ⟨(TabRow.pairs hT3).1, fun a ha => Nat.le_trans (HN2.out ▸ hR.size) ((TabRow.pairs hT3).2 a ha)⟩
        exact ⟨_, rfl, fun w3 k => ⟨A6, c6, A3, c3, rfl, ⟨h4.1.below k, h4.2⟩, ⟨h3.1.below k, h3.2⟩⟩, hb2⟩
    · intro a' w' hF hR
      obtain ⟨v10, hv10, e99⟩ := hF.get 10 99 (by kernel_rfl) (by kernel_rfl)
      obtain ⟨A4, c4, A3, c3, rfl, h4, h3⟩ := hv10 _ (Ok.refl _)
      refine wpOp_run (v := staV s3 A4 c4) rfl rfl ?_ (fun w'' k => ⟨A4, c4, rfl, h4.1.below k, h4.2⟩) (Ok.refl _)
      clear hF
      go_simp
    · intro a' w' hF hR
      obtain ⟨v10, hv10, e99⟩ := hF.get 10 99 (by kernel_rfl) (by kernel_rfl)
      obtain ⟨A4, c4, A3, c3, rfl, h4, h3⟩ := hv10 _ (Ok.refl _)
      refine wpOp_run (v := msgV mm A3 c3) rfl rfl ?_ (fun w'' k => ⟨A3, c3, rfl, h3.1.below k, h3.2⟩) (Ok.refl _)
      clear hF
      go_simp
    · intro vs W' hvs hR
      obtain ⟨A4, c4, e11, h4⟩ := hvs 11 (by decide) _ (Ok.refl _)
      obtain ⟨A3, c3, e12, h3⟩ := hvs 12 (by decide) _ (Ok.refl _)
      have hB := HB.out _ hR
      have hok := (HOK.out.trans (Ok.refl wc).drew).trans hR
      have h8 := hB.r8
      have h9 := hB.r9
      clear hvs HB HN HOK KST KSY
      obtain ⟨z0, z1', z2', z3, z4, z5, z6, z7, z8, z9, z10⟩ := h8.sta
      obtain ⟨y0, y1, y2, y3, y4, y5, y6, y7, y8, y9, y10⟩ := frozenSta h8
      have hzl := h8.lt
      simp only [putFrom, e11, e12]
      simp only [Act.put, List.setIfInBounds_toArray, List.set_cons_zero, List.set_cons_succ]
      unfold staV
      refine wpOp_store (w' := (((((((((((W'.setCell ⟨R8, 0, none⟩ (.int .i64 s3.lo)).setCell ⟨R8, 1, none⟩ (.int .i64 s3.hi)).setCell ⟨R8, 2, none⟩ (.int .i64 s3.time)).setCell ⟨R8, 3, none⟩ (.bool s3.set)).setCell ⟨R8, 4, none⟩ (.int .i64 s3.held)).setCell ⟨R8, 5, none⟩ (.int .i64 s3.hops)).setCell ⟨R8, 6, none⟩ (.bool s3.good)).setCell ⟨R8, 7, none⟩ (.slice A4 s3.table.length c4)).setCell ⟨R8, 8, none⟩ (.int .i64 s3.st)).setCell ⟨R8, 9, none⟩ (.int .i64 s3.sn)).setCell ⟨R8, 10, none⟩ (.int .i64 s3.life))) rfl rfl rfl ?_ ?_
      · go_simp
      clear z0 z1' z2' z3 z4 z5 z6 z7 z8 z9 z10 y0 y1 y2 y3 y4 y5 y6 y7 y8 y9 y10 hzl
      replace h8 := own_set11 h8 s3 A4 c4
      replace hok := ok_set11 hok HD.out.1 s3 A4 c4
      replace h4 := h4.only (only_set11 (Only.refl R8 W') (.inl rfl) s3 A4 c4) HD.out.2.2.2.1
      replace h3 := h3.only (only_set11 (Only.refl R8 W') (.inl rfl) s3 A4 c4) HD.out.2.2.2.1
      replace h9 := (((((((((((h9.setOther (a := ⟨R8, 0, none⟩) HD.out.2.2.1 (.int .i64 s3.lo)).setOther (a := ⟨R8, 1, none⟩) HD.out.2.2.1 (.int .i64 s3.hi)).setOther (a := ⟨R8, 2, none⟩) HD.out.2.2.1 (.int .i64 s3.time)).setOther (a := ⟨R8, 3, none⟩) HD.out.2.2.1 (.bool s3.set)).setOther (a := ⟨R8, 4, none⟩) HD.out.2.2.1 (.int .i64 s3.held)).setOther (a := ⟨R8, 5, none⟩) HD.out.2.2.1 (.int .i64 s3.hops)).setOther (a := ⟨R8, 6, none⟩) HD.out.2.2.1 (.bool s3.good)).setOther (a := ⟨R8, 7, none⟩) HD.out.2.2.1 (.slice A4 s3.table.length c4)).setOther (a := ⟨R8, 8, none⟩) HD.out.2.2.1 (.int .i64 s3.st)).setOther (a := ⟨R8, 9, none⟩) HD.out.2.2.1 (.int .i64 s3.sn)).setOther (a := ⟨R8, 10, none⟩) HD.out.2.2.1 (.int .i64 s3.life))
      generalize (((((((((((W'.setCell ⟨R8, 0, none⟩ (.int .i64 s3.lo)).setCell ⟨R8, 1, none⟩ (.int .i64 s3.hi)).setCell ⟨R8, 2, none⟩ (.int .i64 s3.time)).setCell ⟨R8, 3, none⟩ (.bool s3.set)).setCell ⟨R8, 4, none⟩ (.int .i64 s3.held)).setCell ⟨R8, 5, none⟩ (.int .i64 s3.hops)).setCell ⟨R8, 6, none⟩ (.bool s3.good)).setCell ⟨R8, 7, none⟩ (.slice A4 s3.table.length c4)).setCell ⟨R8, 8, none⟩ (.int .i64 s3.st)).setCell ⟨R8, 9, none⟩ (.int .i64 s3.sn)).setCell ⟨R8, 10, none⟩ (.int .i64 s3.life)) = W8 at h8 h9 hok h3 h4 ⊢
      have m0 := h9.cell 0 rfl
      have m1 := h9.cell 1 rfl
      have m2 := h9.cell 2 rfl
      have m3 := h9.cell 3 rfl
      have m4 := h9.cell 4 rfl
      have m5 := h9.cell 5 rfl
      have m6 := h9.cell 6 rfl
      have m7 := h9.cell 7 rfl
      have m8 := h9.cell 8 rfl
      have m9 := h9.cell 9 rfl
      have m10 := h9.cell 10 rfl
      have m11 := h9.cell 11 rfl
      have m12 := h9.cell 12 rfl
      have m13 := h9.cell 13 rfl
      have f0 := h9.frozen 0
      have f1 := h9.frozen 1
      have f2 := h9.frozen 2
      have f3 := h9.frozen 3
      have f4 := h9.frozen 4
      have f5 := h9.frozen 5
      have f6 := h9.frozen 6
      have f7 := h9.frozen 7
      have f8 := h9.frozen 8
      have f9 := h9.frozen 9
      have f10 := h9.frozen 10
      have f11 := h9.frozen 11
      have f12 := h9.frozen 12
      have f13 := h9.frozen 13
      have hml := h9.lt
      unfold msgV
      refine wpOp_store (w' := ((((((((((((((W8.setCell ⟨R9, 0, none⟩ (.int .i64 mm.kind)).setCell ⟨R9, 1, none⟩ (.int .i64 mm.frm)).setCell ⟨R9, 2, none⟩ (.int .i64 mm.lo)).setCell ⟨R9, 3, none⟩ (.int .i64 mm.hi)).setCell ⟨R9, 4, none⟩ (.int .i64 mm.held)).setCell ⟨R9, 5, none⟩ (.int .i64 mm.hops)).setCell ⟨R9, 6, none⟩ (.bool mm.good)).setCell ⟨R9, 7, none⟩ (.bool mm.ref)).setCell ⟨R9, 8, none⟩ (.int .i64 mm.slo)).setCell ⟨R9, 9, none⟩ (.int .i64 mm.shi)).setCell ⟨R9, 10, none⟩ (.int .i64 mm.pulse)).setCell ⟨R9, 11, none⟩ (.int .i64 mm.time)).setCell ⟨R9, 12, none⟩ (.int .i64 mm.num)).setCell ⟨R9, 13, none⟩ (.slice A3 mm.table.length c3))) rfl rfl rfl ?_ ?_
      · go_simp
      clear m0 f0 m1 f1 m2 f2 m3 f3 m4 f4 m5 f5 m6 f6 m7 f7 m8 f8 m9 f9 m10 f10 m11 f11 m12 f12 m13 f13 hml
      have hon9 : Only R9 W8 ((((((((((((((W8.setCell ⟨R9, 0, none⟩ (.int .i64 mm.kind)).setCell ⟨R9, 1, none⟩ (.int .i64 mm.frm)).setCell ⟨R9, 2, none⟩ (.int .i64 mm.lo)).setCell ⟨R9, 3, none⟩ (.int .i64 mm.hi)).setCell ⟨R9, 4, none⟩ (.int .i64 mm.held)).setCell ⟨R9, 5, none⟩ (.int .i64 mm.hops)).setCell ⟨R9, 6, none⟩ (.bool mm.good)).setCell ⟨R9, 7, none⟩ (.bool mm.ref)).setCell ⟨R9, 8, none⟩ (.int .i64 mm.slo)).setCell ⟨R9, 9, none⟩ (.int .i64 mm.shi)).setCell ⟨R9, 10, none⟩ (.int .i64 mm.pulse)).setCell ⟨R9, 11, none⟩ (.int .i64 mm.time)).setCell ⟨R9, 12, none⟩ (.int .i64 mm.num)).setCell ⟨R9, 13, none⟩ (.slice A3 mm.table.length c3)) := (((((((((((((((Only.refl R9 W8).setR 0 (.int .i64 mm.kind)).setR 1 (.int .i64 mm.frm)).setR 2 (.int .i64 mm.lo)).setR 3 (.int .i64 mm.hi)).setR 4 (.int .i64 mm.held)).setR 5 (.int .i64 mm.hops)).setR 6 (.bool mm.good)).setR 7 (.bool mm.ref)).setR 8 (.int .i64 mm.slo)).setR 9 (.int .i64 mm.shi)).setR 10 (.int .i64 mm.pulse)).setR 11 (.int .i64 mm.time)).setR 12 (.int .i64 mm.num)).setR 13 (.slice A3 mm.table.length c3))
      replace h9 := own_over14 h9 (.int .i64 mm.kind) (.int .i64 mm.frm) (.int .i64 mm.lo) (.int .i64 mm.hi) (.int .i64 mm.held) (.int .i64 mm.hops) (.bool mm.good) (.bool mm.ref) (.int .i64 mm.slo) (.int .i64 mm.shi) (.int .i64 mm.pulse) (.int .i64 mm.time) (.int .i64 mm.num) (.slice A3 mm.table.length c3)
      replace h8 := hon9.own h8 (Ne.symm HD.out.2.2.1)
      replace hok := Only.then_ok hok hon9 HD.out.2.1
      replace h3 := h3.only hon9 HD.out.2.2.2.2
      replace h4 := h4.only hon9 HD.out.2.2.2.2
      clear hon9 hB e11 e12
      generalize ((((((((((((((W8.setCell ⟨R9, 0, none⟩ (.int .i64 mm.kind)).setCell ⟨R9, 1, none⟩ (.int .i64 mm.frm)).setCell ⟨R9, 2, none⟩ (.int .i64 mm.lo)).setCell ⟨R9, 3, none⟩ (.int .i64 mm.hi)).setCell ⟨R9, 4, none⟩ (.int .i64 mm.held)).setCell ⟨R9, 5, none⟩ (.int .i64 mm.hops)).setCell ⟨R9, 6, none⟩ (.bool mm.good)).setCell ⟨R9, 7, none⟩ (.bool mm.ref)).setCell ⟨R9, 8, none⟩ (.int .i64 mm.slo)).setCell ⟨R9, 9, none⟩ (.int .i64 mm.shi)).setCell ⟨R9, 10, none⟩ (.int .i64 mm.pulse)).setCell ⟨R9, 11, none⟩ (.int .i64 mm.time)).setCell ⟨R9, 12, none⟩ (.int .i64 mm.num)).setCell ⟨R9, 13, none⟩ (.slice A3 mm.table.length c3)) = W9 at h8 h9 hok h3 h4 ⊢
      try generalize vs 0 = x20
      try generalize vs 1 = x21
      try generalize vs 2 = x22
      try generalize vs 3 = x23
      try generalize vs 4 = x24
      try generalize vs 5 = x25
      try generalize vs 6 = x26
      try generalize vs 7 = x27
      try generalize vs 8 = x28
      try generalize vs 9 = x29
      try generalize vs 10 = x30
      try generalize vs 11 = x31
      try generalize vs 12 = x32
      clear hR vs
      have m0 := h9.cell 0 rfl
      have m1 := h9.cell 1 rfl
      have m2 := h9.cell 2 rfl
      have m3 := h9.cell 3 rfl
      have m4 := h9.cell 4 rfl
      have m5 := h9.cell 5 rfl
      have m6 := h9.cell 6 rfl
      have m7 := h9.cell 7 rfl
      have m8 := h9.cell 8 rfl
      have m9 := h9.cell 9 rfl
      have m10 := h9.cell 10 rfl
      have m11 := h9.cell 11 rfl
      have m12 := h9.cell 12 rfl
      have m13 := h9.cell 13 rfl
      have hml := h9.lt
      obtain ⟨z0, z1', z2', z3, z4, z5, z6, z7, z8, z9, z10⟩ := h8.sta
      have hzl := h8.lt
      go_wp2_with fail
      exact bodyPost_ret (v := .tuple #[staV s3 A4 c4, msgV mm A3 c3]) (by simp [results, Tryz.results17, go_sem, staV, msgV, z0, z1', z2', z3, z4, z5, z6, z7, z8, z9, z10, m0, m1, m2, m3, m4, m5, m6, m7, m8, m9, m10, m11, m12, m13]) rfl (HFIN.out A4 c4 A3 c3 W9 ⟨h4.1, fun a ha => by have h1 := h4.2 a ha; have h2 := HD.out; omega⟩ ⟨h3.1, fun a ha => by have h1 := h3.2 a ha; have h2 := HD.out; omega⟩ hok)
    · intro vs W' hvs hR
      obtain ⟨A4, c4, e11, h4⟩ := hvs 11 (by decide) (by decide) _ (Ok.refl _)
      obtain ⟨A5, c5, A3, c3, e12, -, h3⟩ := hvs 10 (by decide) (by decide) _ (Ok.refl _)
      have hB := HB.out _ hR
      have hok := (HOK.out.trans (Ok.refl wc).drew).trans hR
      have h8 := hB.r8
      have h9 := hB.r9
      clear hvs HB HN HOK KST KSY
      obtain ⟨z0, z1', z2', z3, z4, z5, z6, z7, z8, z9, z10⟩ := h8.sta
      obtain ⟨y0, y1, y2, y3, y4, y5, y6, y7, y8, y9, y10⟩ := frozenSta h8
      have hzl := h8.lt
      simp only [putFrom, e11, e12]
      simp only [Act.put, List.setIfInBounds_toArray, List.set_cons_zero, List.set_cons_succ]
      unfold staV
      refine wpOp_store (w' := (((((((((((W'.setCell ⟨R8, 0, none⟩ (.int .i64 s3.lo)).setCell ⟨R8, 1, none⟩ (.int .i64 s3.hi)).setCell ⟨R8, 2, none⟩ (.int .i64 s3.time)).setCell ⟨R8, 3, none⟩ (.bool s3.set)).setCell ⟨R8, 4, none⟩ (.int .i64 s3.held)).setCell ⟨R8, 5, none⟩ (.int .i64 s3.hops)).setCell ⟨R8, 6, none⟩ (.bool s3.good)).setCell ⟨R8, 7, none⟩ (.slice A4 s3.table.length c4)).setCell ⟨R8, 8, none⟩ (.int .i64 s3.st)).setCell ⟨R8, 9, none⟩ (.int .i64 s3.sn)).setCell ⟨R8, 10, none⟩ (.int .i64 s3.life))) rfl rfl rfl ?_ ?_
      · go_simp
      clear z0 z1' z2' z3 z4 z5 z6 z7 z8 z9 z10 y0 y1 y2 y3 y4 y5 y6 y7 y8 y9 y10 hzl
      replace h8 := own_set11 h8 s3 A4 c4
      replace hok := ok_set11 hok HD.out.1 s3 A4 c4
      replace h4 := h4.only (only_set11 (Only.refl R8 W') (.inl rfl) s3 A4 c4) HD.out.2.2.2.1
      replace h3 := h3.only (only_set11 (Only.refl R8 W') (.inl rfl) s3 A4 c4) HD.out.2.2.2.1
      replace h9 := (((((((((((h9.setOther (a := ⟨R8, 0, none⟩) HD.out.2.2.1 (.int .i64 s3.lo)).setOther (a := ⟨R8, 1, none⟩) HD.out.2.2.1 (.int .i64 s3.hi)).setOther (a := ⟨R8, 2, none⟩) HD.out.2.2.1 (.int .i64 s3.time)).setOther (a := ⟨R8, 3, none⟩) HD.out.2.2.1 (.bool s3.set)).setOther (a := ⟨R8, 4, none⟩) HD.out.2.2.1 (.int .i64 s3.held)).setOther (a := ⟨R8, 5, none⟩) HD.out.2.2.1 (.int .i64 s3.hops)).setOther (a := ⟨R8, 6, none⟩) HD.out.2.2.1 (.bool s3.good)).setOther (a := ⟨R8, 7, none⟩) HD.out.2.2.1 (.slice A4 s3.table.length c4)).setOther (a := ⟨R8, 8, none⟩) HD.out.2.2.1 (.int .i64 s3.st)).setOther (a := ⟨R8, 9, none⟩) HD.out.2.2.1 (.int .i64 s3.sn)).setOther (a := ⟨R8, 10, none⟩) HD.out.2.2.1 (.int .i64 s3.life))
      generalize (((((((((((W'.setCell ⟨R8, 0, none⟩ (.int .i64 s3.lo)).setCell ⟨R8, 1, none⟩ (.int .i64 s3.hi)).setCell ⟨R8, 2, none⟩ (.int .i64 s3.time)).setCell ⟨R8, 3, none⟩ (.bool s3.set)).setCell ⟨R8, 4, none⟩ (.int .i64 s3.held)).setCell ⟨R8, 5, none⟩ (.int .i64 s3.hops)).setCell ⟨R8, 6, none⟩ (.bool s3.good)).setCell ⟨R8, 7, none⟩ (.slice A4 s3.table.length c4)).setCell ⟨R8, 8, none⟩ (.int .i64 s3.st)).setCell ⟨R8, 9, none⟩ (.int .i64 s3.sn)).setCell ⟨R8, 10, none⟩ (.int .i64 s3.life)) = W8 at h8 h9 hok h3 h4 ⊢
      refine wpOp_leaves (o := ⟨some 101, _, _, _, _, none⟩) (v := msgV mm A3 c3) (w' := W8) rfl rfl ?_ ?_
      · go_simp
      simp only [Act.put, List.setIfInBounds_toArray, List.set_cons_zero, List.set_cons_succ]
      have m0 := h9.cell 0 rfl
      have m1 := h9.cell 1 rfl
      have m2 := h9.cell 2 rfl
      have m3 := h9.cell 3 rfl
      have m4 := h9.cell 4 rfl
      have m5 := h9.cell 5 rfl
      have m6 := h9.cell 6 rfl
      have m7 := h9.cell 7 rfl
      have m8 := h9.cell 8 rfl
      have m9 := h9.cell 9 rfl
      have m10 := h9.cell 10 rfl
      have m11 := h9.cell 11 rfl
      have m12 := h9.cell 12 rfl
      have m13 := h9.cell 13 rfl
      have f0 := h9.frozen 0
      have f1 := h9.frozen 1
      have f2 := h9.frozen 2
      have f3 := h9.frozen 3
      have f4 := h9.frozen 4
      have f5 := h9.frozen 5
      have f6 := h9.frozen 6
      have f7 := h9.frozen 7
      have f8 := h9.frozen 8
      have f9 := h9.frozen 9
      have f10 := h9.frozen 10
      have f11 := h9.frozen 11
      have f12 := h9.frozen 12
      have f13 := h9.frozen 13
      have hml := h9.lt
      unfold msgV
      refine wpOp_store (w' := ((((((((((((((W8.setCell ⟨R9, 0, none⟩ (.int .i64 mm.kind)).setCell ⟨R9, 1, none⟩ (.int .i64 mm.frm)).setCell ⟨R9, 2, none⟩ (.int .i64 mm.lo)).setCell ⟨R9, 3, none⟩ (.int .i64 mm.hi)).setCell ⟨R9, 4, none⟩ (.int .i64 mm.held)).setCell ⟨R9, 5, none⟩ (.int .i64 mm.hops)).setCell ⟨R9, 6, none⟩ (.bool mm.good)).setCell ⟨R9, 7, none⟩ (.bool mm.ref)).setCell ⟨R9, 8, none⟩ (.int .i64 mm.slo)).setCell ⟨R9, 9, none⟩ (.int .i64 mm.shi)).setCell ⟨R9, 10, none⟩ (.int .i64 mm.pulse)).setCell ⟨R9, 11, none⟩ (.int .i64 mm.time)).setCell ⟨R9, 12, none⟩ (.int .i64 mm.num)).setCell ⟨R9, 13, none⟩ (.slice A3 mm.table.length c3))) rfl rfl rfl ?_ ?_
      · go_simp
      clear m0 f0 m1 f1 m2 f2 m3 f3 m4 f4 m5 f5 m6 f6 m7 f7 m8 f8 m9 f9 m10 f10 m11 f11 m12 f12 m13 f13 hml
      have hon9 : Only R9 W8 ((((((((((((((W8.setCell ⟨R9, 0, none⟩ (.int .i64 mm.kind)).setCell ⟨R9, 1, none⟩ (.int .i64 mm.frm)).setCell ⟨R9, 2, none⟩ (.int .i64 mm.lo)).setCell ⟨R9, 3, none⟩ (.int .i64 mm.hi)).setCell ⟨R9, 4, none⟩ (.int .i64 mm.held)).setCell ⟨R9, 5, none⟩ (.int .i64 mm.hops)).setCell ⟨R9, 6, none⟩ (.bool mm.good)).setCell ⟨R9, 7, none⟩ (.bool mm.ref)).setCell ⟨R9, 8, none⟩ (.int .i64 mm.slo)).setCell ⟨R9, 9, none⟩ (.int .i64 mm.shi)).setCell ⟨R9, 10, none⟩ (.int .i64 mm.pulse)).setCell ⟨R9, 11, none⟩ (.int .i64 mm.time)).setCell ⟨R9, 12, none⟩ (.int .i64 mm.num)).setCell ⟨R9, 13, none⟩ (.slice A3 mm.table.length c3)) := (((((((((((((((Only.refl R9 W8).setR 0 (.int .i64 mm.kind)).setR 1 (.int .i64 mm.frm)).setR 2 (.int .i64 mm.lo)).setR 3 (.int .i64 mm.hi)).setR 4 (.int .i64 mm.held)).setR 5 (.int .i64 mm.hops)).setR 6 (.bool mm.good)).setR 7 (.bool mm.ref)).setR 8 (.int .i64 mm.slo)).setR 9 (.int .i64 mm.shi)).setR 10 (.int .i64 mm.pulse)).setR 11 (.int .i64 mm.time)).setR 12 (.int .i64 mm.num)).setR 13 (.slice A3 mm.table.length c3))
      replace h9 := own_over14 h9 (.int .i64 mm.kind) (.int .i64 mm.frm) (.int .i64 mm.lo) (.int .i64 mm.hi) (.int .i64 mm.held) (.int .i64 mm.hops) (.bool mm.good) (.bool mm.ref) (.int .i64 mm.slo) (.int .i64 mm.shi) (.int .i64 mm.pulse) (.int .i64 mm.time) (.int .i64 mm.num) (.slice A3 mm.table.length c3)
      replace h8 := hon9.own h8 (Ne.symm HD.out.2.2.1)
      replace hok := Only.then_ok hok hon9 HD.out.2.1
      replace h3 := h3.only hon9 HD.out.2.2.2.2
      replace h4 := h4.only hon9 HD.out.2.2.2.2
      clear hon9 hB e11 e12
      generalize ((((((((((((((W8.setCell ⟨R9, 0, none⟩ (.int .i64 mm.kind)).setCell ⟨R9, 1, none⟩ (.int .i64 mm.frm)).setCell ⟨R9, 2, none⟩ (.int .i64 mm.lo)).setCell ⟨R9, 3, none⟩ (.int .i64 mm.hi)).setCell ⟨R9, 4, none⟩ (.int .i64 mm.held)).setCell ⟨R9, 5, none⟩ (.int .i64 mm.hops)).setCell ⟨R9, 6, none⟩ (.bool mm.good)).setCell ⟨R9, 7, none⟩ (.bool mm.ref)).setCell ⟨R9, 8, none⟩ (.int .i64 mm.slo)).setCell ⟨R9, 9, none⟩ (.int .i64 mm.shi)).setCell ⟨R9, 10, none⟩ (.int .i64 mm.pulse)).setCell ⟨R9, 11, none⟩ (.int .i64 mm.time)).setCell ⟨R9, 12, none⟩ (.int .i64 mm.num)).setCell ⟨R9, 13, none⟩ (.slice A3 mm.table.length c3)) = W9 at h8 h9 hok h3 h4 ⊢
      try generalize vs 0 = x20
      try generalize vs 1 = x21
      try generalize vs 2 = x22
      try generalize vs 3 = x23
      try generalize vs 4 = x24
      try generalize vs 5 = x25
      try generalize vs 6 = x26
      try generalize vs 7 = x27
      try generalize vs 8 = x28
      try generalize vs 9 = x29
      try generalize vs 10 = x30
      try generalize vs 11 = x31
      try generalize vs 12 = x32
      clear hR vs
      have m0 := h9.cell 0 rfl
      have m1 := h9.cell 1 rfl
      have m2 := h9.cell 2 rfl
      have m3 := h9.cell 3 rfl
      have m4 := h9.cell 4 rfl
      have m5 := h9.cell 5 rfl
      have m6 := h9.cell 6 rfl
      have m7 := h9.cell 7 rfl
      have m8 := h9.cell 8 rfl
      have m9 := h9.cell 9 rfl
      have m10 := h9.cell 10 rfl
      have m11 := h9.cell 11 rfl
      have m12 := h9.cell 12 rfl
      have m13 := h9.cell 13 rfl
      have hml := h9.lt
      obtain ⟨z0, z1', z2', z3, z4, z5, z6, z7, z8, z9, z10⟩ := h8.sta
      have hzl := h8.lt
      go_wp2_with fail
      exact bodyPost_ret (v := .tuple #[staV s3 A4 c4, msgV mm A3 c3]) (by simp [results, Tryz.results17, go_sem, staV, msgV, z0, z1', z2', z3, z4, z5, z6, z7, z8, z9, z10, m0, m1, m2, m3, m4, m5, m6, m7, m8, m9, m10, m11, m12, m13]) rfl (HFIN.out A4 c4 A3 c3 W9 ⟨h4.1, fun a ha => by have h1 := h4.2 a ha; have h2 := HD.out; omega⟩ ⟨h3.1, fun a ha => by have h1 := h3.2 a ha; have h2 := HD.out; omega⟩ hok)
end Go.Proofs.YtmmiboblofopgaaGreat
