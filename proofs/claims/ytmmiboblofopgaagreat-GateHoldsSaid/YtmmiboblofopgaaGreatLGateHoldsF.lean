/- GateHolds: for every fabric, state, time, whatever the others see and whoever lies, the law answers true. No condition. -/
import Derived.Test.YtmmiboblofopgaaGreatC22b
import Derived.Test.YtmmiboblofopgaaGreatB00
import Derived.Test.YtmmiboblofopgaaGreatB02
import Derived.Test.YtmmiboblofopgaaGreatMA
import Derived.Test.YtmmiboblofopgaaGreatW44
import Derived.Test.YtmmiboblofopgaaGreatW16
import Derived.Test.YtmmiboblofopgaaGreatWX
import Derived.Test.YtmmiboblofopgaaGreatB09
import Derived.Deep.CutRange
import Derived.BigQuiet
namespace Go.Proofs.YtmmiboblofopgaaGreat.gateHolds
open Go.ChangeShapes Go.WideShapes Go.ChangeAt Go.RowKit
set_option linter.unusedVariables false
set_option maxRecDepth 100000
attribute [local go_sem ↓] Go.wp_at_zero Go.wp_at_succ
def tldcells (t : Tld) : List Value := [.int .i64 t.err, .int .i64 t.way, .int .i64 t.off]
theorem tldcells_len : ∀ t, (tldcells t).length = 3 := fun _ => rfl
def tldok (t : Tld) : Prop := (Lit.int .i64 t.err).wf = true ∧ (Lit.int .i64 t.way).wf = true ∧ (Lit.int .i64 t.off).wf = true
def tldkinds : List Kind := [.int, .int, .int]
theorem tldlen : ∀ t, (tldcells t).length = tldkinds.length := fun _ => rfl
theorem tldof : ∀ r, Kind.rows tldkinds r → ∃ t, r = tldcells t ∧ tldok t
  | [x, y, z], ⟨⟨a, ha, ha'⟩, ⟨b, hb, hb'⟩, ⟨c, hc, hc'⟩, _⟩ => ⟨⟨a, b, c⟩, by rw [ha, hb, hc]; rfl, ha', hb', hc'⟩
  | [], h => h.elim
  | [_], h => h.2.elim
  | [_, _], h => h.2.2.elim
  | _ :: _ :: _ :: _ :: _, h => h.2.2.2.elim
theorem tld_at {w : World} {A : Option Addr} {l : List Tld} (h : CellsAt w A (l.flatMap tldcells)) (k : Nat) (hk : k < l.length) :
    ∃ b off, A = some ⟨b, off, none⟩ ∧ b < w.heap.size ∧ w.cell? ⟨b, off + k * 3, none⟩ = some (.int .i64 l[k].err) ∧ w.cell? ⟨b, off + k * 3 + 1, none⟩ = some (.int .i64 l[k].way) ∧ w.cell? ⟨b, off + k * 3 + 2, none⟩ = some (.int .i64 l[k].off) := by
  obtain ⟨b, off, e, hlt, hc⟩ := h.at tldcells_len (by decide) k hk
  exact ⟨b, off, e, hlt, hc 0 _ rfl, hc 1 _ rfl, hc 2 _ rfl⟩
/-- What gateway i tells, that sees the time so; and its row. -/
def honA (p : Par) (now : Int) (t : Tld) (i : Nat) : HA := ⟨(Gate.hon p now t i).m, none, 0, (Gate.hon p now t i).age⟩
def honAs (p : Par) (now : Int) (ts : List Tld) (m : Nat) : List HA := (List.range' 1 m).map fun i => honA p now (ts.getD i Gate.noT) i
/-- Whatever it is, told by gateway n + j; and its row. -/
def lieA (n : Nat) (h : HA) (j : Nat) : HA := ⟨{ h.m with frm := (n + j : Nat) }, h.A, h.cap, h.age⟩
def noA : HA := ⟨Gate.noH.m, none, 0, Gate.noH.age⟩
def lieAs (n : Nat) (l : List HA) (m : Nat) : List HA := (List.range m).map fun j => lieA n (l.getD j noA) j
theorem honAs_next (p : Par) (now : Int) (ts : List Tld) (m : Nat) : honAs p now ts (m + 1) = honAs p now ts m ++ [honA p now (ts.getD (m + 1) Gate.noT) (m + 1)] := by
  unfold honAs
  rw [List.range'_concat, List.map_append]
  simp [Nat.add_comm]
theorem lieAs_next (n : Nat) (l : List HA) (m : Nat) : lieAs n l (m + 1) = lieAs n l m ++ [lieA n (l.getD m noA) m] := by
  unfold lieAs
  rw [List.range_succ, List.map_append]
  rfl
theorem honAs_len (p : Par) (now : Int) (ts : List Tld) (m : Nat) : (honAs p now ts m).length = m := by simp [honAs]
theorem lieAs_len (n : Nat) (l : List HA) (m : Nat) : (lieAs n l m).length = m := by simp [lieAs]
theorem getD_in {X : Type} {l : List X} {j : Nat} (hj : j < l.length) (d : X) : l.getD j d = l[j] := by simp [List.getD, hj]
theorem heardAs (p : Par) (now : Int) (ts : List Tld) (l : List HA) : (honAs p now ts (ts.length - 1) ++ lieAs ts.length l l.length).map HA.hd = Gate.heard p now ts (l.map HA.hd) := by
  unfold Gate.heard Gate.hons Gate.liars honAs lieAs
  rw [List.map_append, List.map_map, List.map_map, List.length_map]
  congr 1
  refine List.map_congr_left fun j hj => ?_
  have hj := List.mem_range.1 hj
  rw [Function.comp, getD_in hj, getD_in (by rw [List.length_map]; exact hj), List.getElem_map]
  rfl
theorem honAs_tab (p : Par) (now : Int) (ts : List Tld) (m : Nat) (w : World) : ∀ x ∈ honAs p now ts m, PairsAt w x.A x.m.table := fun x hx => by
  obtain ⟨i, -, rfl⟩ := List.mem_map.1 hx
  exact PairsAt.empty _ _
theorem lieAs_tab {w : World} {l : List HA} (h : ∀ x ∈ l, PairsAt w x.A x.m.table) (n : Nat) : ∀ x ∈ lieAs n l l.length, PairsAt w x.A x.m.table := fun x hx => by
  obtain ⟨j, hj, rfl⟩ := List.mem_map.1 hx
  have hj := List.mem_range.1 hj
  rw [getD_in hj]
  exact h l[j] (List.getElem_mem hj)
/-- What is read: the first's. -/
def rdAt (p : Par) (now : Int) (ts : List Tld) (k : Nat) : Int := if k = 0 then 0 else now + p.beat + (ts.getD 0 Gate.noT).err
theorem rdAt_one (p : Par) (now : Int) (ts : List Tld) (k : Nat) : rdAt p now ts (k + 1) = now + p.beat + (ts.getD 0 Gate.noT).err := if_neg (by omega)
theorem own_grown22 {w w1 : World} {g : Nat} {cs : Array Value} {row : Option Nat} (h : Own w g cs) (k : w.grownBy w1 row) (hr : row ≠ some g) : Own w1 g cs := by
  have hl := h.lt
  obtain ⟨t, ht⟩ := h
  exact ⟨t, (k.block g hl fun e => hr e.symm).trans ht⟩
theorem row_far {w : World} {B n k : Nat} {e : TypeId} {v : Value} {xs : List Value} (h : w.ownsRow B e k v n xs) : ∀ g, v.ownBlock = some g → B ≤ g := fun g hg => by
  rcases h.2 with ⟨e, _⟩ | ⟨a, c2, cur, e, hb, _⟩
  · rw [e] at hg; cases hg
  · rw [e] at hg; cases hg; exact hb
theorem row_slice {w : World} {B n k : Nat} {e : TypeId} {v : Value} {xs : List Value} (h : w.ownsRow B e k v n xs) : ∃ A m c, v = .slice A m c := by
  rcases h.2 with ⟨e, _⟩ | ⟨a, c2, cur, e, hb, _⟩
  · exact ⟨_, _, _, e⟩
  · exact ⟨_, _, _, e⟩
theorem row_set {w : World} {B n k : Nat} {e : TypeId} {v : Value} {xs : List Value} (h : w.ownsRow B e k v n xs) (a : Addr) (u : Value) (hne : v.ownBlock ≠ some a.block) : (w.setCell a u).ownsRow B e k v n xs :=
  World.ownsRow.kept h (w' := w.setCell a u) (row := some a.block) ⟨rfl, rfl, rfl, by simp, fun i hi hn => Below.heap_setCell w a u i (by intro e; exact hn (by rw [e]))⟩ (.inr hne)
/-- What each operation leaves. -/
def VMGH (Bp G X MB : Nat) (p : Par) (lo hi nx h : Int) (w : World) (v : Value) : Nat → Prop
  | 0 => v = .pointer (some ⟨X, 0, none⟩)
  | 1 => v = .int .i64 lo
  | 2 => v = .int .i64 nx
  | 3 => v = .bool false
  | 4 => v = .bool false
  | 5 => v = .pointer (some ⟨X, 1, none⟩)
  | 6 => v = .int .i64 hi
  | 7 => v = .int .i64 nx
  | 8 => v = .bool false
  | 9 => v = .bool false
  | 10 => v = .bool false
  | 11 => v = .pointer (some ⟨X, 1, none⟩)
  | 12 => v = .int .i64 hi
  | 13 => v = .pointer (some ⟨X, 0, none⟩)
  | 14 => v = .int .i64 lo
  | 15 => v = .int .i64 (hi - lo)
  | 16 => v = .pointer (some ⟨Bp, 7, none⟩)
  | 17 => v = .int .i64 p.eps
  | 18 => v = .int .i64 (2 * p.eps)
  | 19 => v = parV p
  | 20 => v = .int .i64 h
  | 21 => v = .int .i64 (2 * p.eps + h)
  | 22 => v = .bool false
  | 23 => v = .bool false
  | 24 => v = .bool false
  | 25 => v = .pointer (some ⟨G, 0, none⟩)
  | 26 => v = .pointer (some ⟨G, 0, none⟩)
  | 27 => v = .pointer (some ⟨G, 0, none⟩)
  | 28 => v = .pointer (some ⟨G, 12, none⟩)
  | 29 => v = .pointer (some ⟨G, 16, none⟩)
  | 30 => v = .int .i64 0
  | 31 => v = .bool false
  | 32 => v = .bool false
  | 33 => v = .bool false
  | 34 => v = .pointer (some ⟨G, 0, none⟩)
  | 35 => v = .pointer (some ⟨G, 0, none⟩)
  | 36 => v = .pointer (some ⟨G, 0, none⟩)
  | 37 => v = .int .i64 1
  | 38 => v = .bool false
  | 39 => v = .bool false
  | 40 => v = .bool false
  | 41 => v = .pointer (some ⟨MB, 2, none⟩)
  | 42 => v = .agg #[.int .i64 lo, .int .i64 hi]
  | 43 => v = .agg #[.int .i64 lo, .int .i64 hi]
  | 44 => v = .bool false
  | 45 => v = .bool false
  | 46 => v = .bool false
  | 47 => v = .pointer (some ⟨MB, 7, none⟩)
  | 48 => v = .bool true
  | 49 => v = .bool false
  | 50 => v = .bool false
  | _ => v = .bool true
/-- It stays so. -/
def VCGH (Bp G X MB : Nat) (p : Par) (lo hi nx h : Int) (i : Nat) (v : Value) (w : World) : Prop := ∀ w', Ok w w' → VMGH Bp G X MB p lo hi nx h w' v i
/-- What each operation leaves. -/
def VMGZ (Bp H G X : Nat) (p : Par) (s S0 : Sta) (A : Option Addr) (cap : Nat) (hs lo hi tm : Int) (w : World) (v : Value) : Nat → Prop
  | 0 => v = parV p
  | 1 => v = parV p
  | 2 => v = staV s A cap
  | 3 => ∃ A c, v = staV (S0) A c ∧ PairsAt w A (S0).table
  | 4 => v = .int .i64 hs
  | 5 => v = .bool false
  | 6 => v = .bool false
  | 7 => v = .pointer (some ⟨G, 0, none⟩)
  | 8 => v = .pointer (some ⟨G, 0, none⟩)
  | 9 => v = .pointer (some ⟨G, 0, none⟩)
  | 10 => v = .pointer (some ⟨G, 12, none⟩)
  | 11 => v = .pointer (some ⟨G, 14, none⟩)
  | 12 => v = .int .i64 tm
  | 13 => v = .pointer (some ⟨X, 0, none⟩)
  | 14 => v = .int .i64 lo
  | 15 => v = .bool true
  | 16 => v = .bool true
  | 17 => v = .pointer (some ⟨G, 0, none⟩)
  | 18 => v = .pointer (some ⟨G, 0, none⟩)
  | 19 => v = .pointer (some ⟨G, 0, none⟩)
  | 20 => v = .pointer (some ⟨G, 12, none⟩)
  | 21 => v = .pointer (some ⟨G, 14, none⟩)
  | 22 => v = .int .i64 tm
  | 23 => v = .pointer (some ⟨X, 1, none⟩)
  | 24 => v = .int .i64 hi
  | 25 => v = .bool true
  | 26 => v = .bool true
  | 27 => v = .bool true
  | 28 => v = .bool true
  | _ => v = .bool true
/-- It stays so. -/
def VCGZ (Bp H G X : Nat) (p : Par) (s S0 : Sta) (A : Option Addr) (cap : Nat) (hs lo hi tm : Int) (i : Nat) (v : Value) (w : World) : Prop := ∀ w', Ok w w' → VMGZ Bp H G X p s S0 A cap hs lo hi tm w' v i
/-- What each operation leaves. -/
def VMGN (Bp H G X : Nat) (p : Par) (s S0 : Sta) (A : Option Addr) (cap : Nat) (hs lo hi tm : Int) (w : World) (v : Value) : Nat → Prop
  | 0 => v = parV p
  | 1 => v = parV p
  | 2 => v = staV s A cap
  | 3 => ∃ A c, v = staV (S0) A c ∧ PairsAt w A (S0).table
  | 4 => v = .int .i64 hs
  | 5 => v = .bool true
  | 6 => v = .bool true
  | 7 => v = undef
  | 8 => v = undef
  | 9 => v = undef
  | 10 => v = undef
  | 11 => v = undef
  | 12 => v = undef
  | 13 => v = undef
  | 14 => v = undef
  | 15 => v = undef
  | 16 => v = undef
  | 17 => v = undef
  | 18 => v = undef
  | 19 => v = undef
  | 20 => v = undef
  | 21 => v = undef
  | 22 => v = undef
  | 23 => v = undef
  | 24 => v = undef
  | 25 => v = undef
  | 26 => v = undef
  | 27 => v = .bool true
  | 28 => v = .bool true
  | _ => v = .bool true
/-- It stays so. -/
def VCGN (Bp H G X : Nat) (p : Par) (s S0 : Sta) (A : Option Addr) (cap : Nat) (hs lo hi tm : Int) (i : Nat) (v : Value) (w : World) : Prop := ∀ w', Ok w w' → VMGN Bp H G X p s S0 A cap hs lo hi tm w' v i
set_option maxHeartbeats 12800000 in
theorem walkF (F : GateWorks) (w : World) (p : Par) (s : Sta) (A : Option Addr) (cap : Nat) (now : Int) (T : Option Addr) (ts : List Tld) (cT : Nat) (B : Option Addr) (l : List HA) (cB : Nat) (err : Int) (hA : PairsAt w A s.table) (hl : s.table.length ≤ 9223372036854775807) (hT : CellsAt w T (ts.flatMap tldcells)) (htl : ts.length ≤ 9223372036854775807) (hB : HeardsAt w B l) (hll : l.length ≤ 9223372036854775807) :
    Calls Tryz.prog 4 #[parV p, staV s A cap, .int .i64 now, .slice T ts.length cT, .slice B l.length cB, .int .i64 err] w fun e w' => e = .returned (.bool true) ∧ Ok w w' := by
  have KAL := Lib.hid fun w => law22AliveF F w
  have KCH := Lib.hid fun w => limCheck p w
  obtain ⟨in1, hin1⟩ : ∃ x : In, (⟨0, B, l, cB, false, 0, false, none, [], 0⟩ : In) = x := ⟨_, rfl⟩
  obtain ⟨lg, hlg⟩ : ∃ b, great22 s [in1] = b := ⟨_, rfl⟩
  have HI1 := Lib.hid fun (W' : World) (k : Ok w W') => show InAt W' in1 from hin1 ▸ ⟨hB.below k, PairsAt.empty _ _⟩
  have KG : Hid (∀ (W' : World) (b : Addr), InsAt W' (some b) [in1] → Calls Tryz.prog 9 #[staV s A cap, .slice (some b) 1 1] W' fun e w' => e = .returned (.bool lg) ∧ Ok W' w') := Lib.hid fun W' b h => by
    have k := law22Great s A cap (some b) [in1] 1 W' h (by simp) (fun x hx => by rw [List.mem_singleton] at hx; subst hx; rw [← hin1]; exact hll)
    rw [hlg] at k
    exact k
  have HLG := Lib.hid fun (h : lg = false) => great_few (hlg.trans h)
  subst hin1
  have HAA := Lib.hid hA
  have HBB := Lib.hid hB
  have HTT := Lib.hid hT
  have HSL := Lib.hid hl
  clear hlg hA hB hT hl
  have hP := (Own.new w (parCells p) 23 rfl).alloc (.cells (staCells s A cap) 30)
  have hS := Own.new (w.alloc (.cells (parCells p) 23)) (staCells s A cap) 30 (g := w.heap.size + 1) (by simp)
  have hok := ((Ok.refl w).alloc (.cells (parCells p) 23)).alloc (.cells (staCells s A cap) 30)
  go_enter Tryz.func4, Tryz.ntmps4
  go_upto_region 1 with fail
  change Code.wp _ _ _ _ ((w.alloc (.cells (parCells p) 23)).alloc (.cells (staCells s A cap) 30))
  generalize (w.alloc (.cells (parCells p) 23)).alloc (.cells (staCells s A cap) 30) = W at hP hS hok ⊢
  obtain ⟨H, hH⟩ : ∃ r, w.heap.size + 1 = r := ⟨_, rfl⟩
  obtain ⟨Bp, hB⟩ : ∃ r, w.heap.size = r := ⟨_, rfl⟩
  rw [hH] at hS
  rw [hB] at hP
  rw [hH, hB]
  clear hH hB
  go_upto_region 3 with (go_at_call 8; (with_reducible refine (KAL.out _).mono ?_); rintro e w1 ⟨rfl, hb1⟩; replace hP := hP.next hb1; replace hS := hS.next hb1; replace hok := hok.trans hb1; clear hb1)
  go_cut [72] from 25 to 72 (fun v wx => ∃ b, v = .bool b ∧ (b = false → (Lim.May p ∧ lg = false ∧ ¬ (1125899906842624 < now) ∧ ¬ (now < -1125899906842624) ∧ (ts.length : Int) = p.n - p.f ∧ ¬ (p.f < (l.length : Int)) ∧ ¬ (p.rho < err) ∧ ¬ (err < -p.rho))) ∧ Own wx Bp (parCells p) ∧ Own wx H (staCells s A cap) ∧ Ok w wx)
  case first =>
    obtain ⟨s0, s1, s2, s3, s4, s5, s6, s7, s8, s9, s10⟩ := hS.sta; have hsl := hS.lt
    obtain ⟨c0, c1, c2, c3, c4, c5, c6, c7, c8, c9, c10, c11⟩ := hP.pars; have hPl := hP.lt
    by_cases h0 : Lim.May p
    · rw [show Lim.check p = 0 from if_pos h0] at KCH
      have HM := Lib.hid h0
      have hf := h0.1.2
      have hr0 := h0.2.1.2.1
      have hr1 := h0.2.1.1
      have hn0 := h0.1.1
      have hk1 : IntKind.i64.wrap (p.n - p.f) = p.n - p.f := IntWalk.i64_in _ ⟨by omega, by omega⟩
      have hk2 : IntKind.i64.wrap (-p.rho) = -p.rho := IntWalk.i64_in _ ⟨by omega, by omega⟩
      clear h0
      cases lg with
      | true =>
        go_wp2_with (first | (go_at_call 19; refine (KCH.out _).mono ?_; rintro e w2 ⟨rfl, hb1⟩; clear s0 s1 s2 s3 s4 s5 s6 s7 s8 s9 s10 hsl; clear c0 c1 c2 c3 c4 c5 c6 c7 c8 c9 c10 c11 hPl; replace hP := hP.next hb1; replace hS := hS.next hb1; replace hok := hok.trans hb1; clear hb1; obtain ⟨s0, s1, s2, s3, s4, s5, s6, s7, s8, s9, s10⟩ := hS.sta; have hsl := hS.lt; obtain ⟨c0, c1, c2, c3, c4, c5, c6, c7, c8, c9, c10, c11⟩ := hP.pars; have hPl := hP.lt) | (go_at_call 9; refine (KG.out _ _ (InsAt.new _ _ (HI1.out _ hok) _ rfl)).mono ?_; rintro e w3 ⟨rfl, hb1⟩; clear s0 s1 s2 s3 s4 s5 s6 s7 s8 s9 s10 hsl; clear c0 c1 c2 c3 c4 c5 c6 c7 c8 c9 c10 c11 hPl; replace hb1 := ((Ok.refl _).alloc _).trans hb1; replace hP := hP.next hb1; replace hS := hS.next hb1; replace hok := hok.trans hb1; clear hb1; obtain ⟨s0, s1, s2, s3, s4, s5, s6, s7, s8, s9, s10⟩ := hS.sta; have hsl := hS.lt; obtain ⟨c0, c1, c2, c3, c4, c5, c6, c7, c8, c9, c10, c11⟩ := hP.pars; have hPl := hP.lt))
        go_meet
        exact ⟨true, rfl, fun h => by (cases h), hP, hS, hok⟩
      | false =>
        by_cases h1 : 1125899906842624 < now
        · have e1 : decide (1125899906842624 < now) = true := decide_eq_true h1
          go_wp2_with (first | (go_at_call 19; refine (KCH.out _).mono ?_; rintro e w2 ⟨rfl, hb1⟩; clear s0 s1 s2 s3 s4 s5 s6 s7 s8 s9 s10 hsl; clear c0 c1 c2 c3 c4 c5 c6 c7 c8 c9 c10 c11 hPl; replace hP := hP.next hb1; replace hS := hS.next hb1; replace hok := hok.trans hb1; clear hb1; obtain ⟨s0, s1, s2, s3, s4, s5, s6, s7, s8, s9, s10⟩ := hS.sta; have hsl := hS.lt; obtain ⟨c0, c1, c2, c3, c4, c5, c6, c7, c8, c9, c10, c11⟩ := hP.pars; have hPl := hP.lt) | (go_at_call 9; refine (KG.out _ _ (InsAt.new _ _ (HI1.out _ hok) _ rfl)).mono ?_; rintro e w3 ⟨rfl, hb1⟩; clear s0 s1 s2 s3 s4 s5 s6 s7 s8 s9 s10 hsl; clear c0 c1 c2 c3 c4 c5 c6 c7 c8 c9 c10 c11 hPl; replace hb1 := ((Ok.refl _).alloc _).trans hb1; replace hP := hP.next hb1; replace hS := hS.next hb1; replace hok := hok.trans hb1; clear hb1; obtain ⟨s0, s1, s2, s3, s4, s5, s6, s7, s8, s9, s10⟩ := hS.sta; have hsl := hS.lt; obtain ⟨c0, c1, c2, c3, c4, c5, c6, c7, c8, c9, c10, c11⟩ := hP.pars; have hPl := hP.lt))
          go_meet
          exact ⟨true, rfl, fun h => by (cases h), hP, hS, hok⟩
        · have e1 : decide (1125899906842624 < now) = false := decide_eq_false h1
          by_cases h2 : now < -1125899906842624
          · have e2 : decide (now < -1125899906842624) = true := decide_eq_true h2
            go_wp2_with (first | (go_at_call 19; refine (KCH.out _).mono ?_; rintro e w2 ⟨rfl, hb1⟩; clear s0 s1 s2 s3 s4 s5 s6 s7 s8 s9 s10 hsl; clear c0 c1 c2 c3 c4 c5 c6 c7 c8 c9 c10 c11 hPl; replace hP := hP.next hb1; replace hS := hS.next hb1; replace hok := hok.trans hb1; clear hb1; obtain ⟨s0, s1, s2, s3, s4, s5, s6, s7, s8, s9, s10⟩ := hS.sta; have hsl := hS.lt; obtain ⟨c0, c1, c2, c3, c4, c5, c6, c7, c8, c9, c10, c11⟩ := hP.pars; have hPl := hP.lt) | (go_at_call 9; refine (KG.out _ _ (InsAt.new _ _ (HI1.out _ hok) _ rfl)).mono ?_; rintro e w3 ⟨rfl, hb1⟩; clear s0 s1 s2 s3 s4 s5 s6 s7 s8 s9 s10 hsl; clear c0 c1 c2 c3 c4 c5 c6 c7 c8 c9 c10 c11 hPl; replace hb1 := ((Ok.refl _).alloc _).trans hb1; replace hP := hP.next hb1; replace hS := hS.next hb1; replace hok := hok.trans hb1; clear hb1; obtain ⟨s0, s1, s2, s3, s4, s5, s6, s7, s8, s9, s10⟩ := hS.sta; have hsl := hS.lt; obtain ⟨c0, c1, c2, c3, c4, c5, c6, c7, c8, c9, c10, c11⟩ := hP.pars; have hPl := hP.lt))
            go_meet
            exact ⟨true, rfl, fun h => by (cases h), hP, hS, hok⟩
          · have e2 : decide (now < -1125899906842624) = false := decide_eq_false h2
            by_cases h3 : (ts.length : Int) = p.n - p.f
            rotate_left
            · have e3 : ((ts.length : Int) != p.n - p.f) = true := by simpa using h3
              have f3 : ((ts.length : Int) == p.n - p.f) = false := by simpa using h3
              go_wp2_with (first | (go_at_call 19; refine (KCH.out _).mono ?_; rintro e w2 ⟨rfl, hb1⟩; clear s0 s1 s2 s3 s4 s5 s6 s7 s8 s9 s10 hsl; clear c0 c1 c2 c3 c4 c5 c6 c7 c8 c9 c10 c11 hPl; replace hP := hP.next hb1; replace hS := hS.next hb1; replace hok := hok.trans hb1; clear hb1; obtain ⟨s0, s1, s2, s3, s4, s5, s6, s7, s8, s9, s10⟩ := hS.sta; have hsl := hS.lt; obtain ⟨c0, c1, c2, c3, c4, c5, c6, c7, c8, c9, c10, c11⟩ := hP.pars; have hPl := hP.lt) | (go_at_call 9; refine (KG.out _ _ (InsAt.new _ _ (HI1.out _ hok) _ rfl)).mono ?_; rintro e w3 ⟨rfl, hb1⟩; clear s0 s1 s2 s3 s4 s5 s6 s7 s8 s9 s10 hsl; clear c0 c1 c2 c3 c4 c5 c6 c7 c8 c9 c10 c11 hPl; replace hb1 := ((Ok.refl _).alloc _).trans hb1; replace hP := hP.next hb1; replace hS := hS.next hb1; replace hok := hok.trans hb1; clear hb1; obtain ⟨s0, s1, s2, s3, s4, s5, s6, s7, s8, s9, s10⟩ := hS.sta; have hsl := hS.lt; obtain ⟨c0, c1, c2, c3, c4, c5, c6, c7, c8, c9, c10, c11⟩ := hP.pars; have hPl := hP.lt))
              go_meet
              exact ⟨true, rfl, fun h => by (cases h), hP, hS, hok⟩
            · have e3 : ((ts.length : Int) != p.n - p.f) = false := by simpa using h3
              have f3 : ((ts.length : Int) == p.n - p.f) = true := by simpa using h3
              by_cases h4 : p.f < (l.length : Int)
              · have e4 : decide (p.f < (l.length : Int)) = true := decide_eq_true h4
                go_wp2_with (first | (go_at_call 19; refine (KCH.out _).mono ?_; rintro e w2 ⟨rfl, hb1⟩; clear s0 s1 s2 s3 s4 s5 s6 s7 s8 s9 s10 hsl; clear c0 c1 c2 c3 c4 c5 c6 c7 c8 c9 c10 c11 hPl; replace hP := hP.next hb1; replace hS := hS.next hb1; replace hok := hok.trans hb1; clear hb1; obtain ⟨s0, s1, s2, s3, s4, s5, s6, s7, s8, s9, s10⟩ := hS.sta; have hsl := hS.lt; obtain ⟨c0, c1, c2, c3, c4, c5, c6, c7, c8, c9, c10, c11⟩ := hP.pars; have hPl := hP.lt) | (go_at_call 9; refine (KG.out _ _ (InsAt.new _ _ (HI1.out _ hok) _ rfl)).mono ?_; rintro e w3 ⟨rfl, hb1⟩; clear s0 s1 s2 s3 s4 s5 s6 s7 s8 s9 s10 hsl; clear c0 c1 c2 c3 c4 c5 c6 c7 c8 c9 c10 c11 hPl; replace hb1 := ((Ok.refl _).alloc _).trans hb1; replace hP := hP.next hb1; replace hS := hS.next hb1; replace hok := hok.trans hb1; clear hb1; obtain ⟨s0, s1, s2, s3, s4, s5, s6, s7, s8, s9, s10⟩ := hS.sta; have hsl := hS.lt; obtain ⟨c0, c1, c2, c3, c4, c5, c6, c7, c8, c9, c10, c11⟩ := hP.pars; have hPl := hP.lt))
                go_meet
                exact ⟨true, rfl, fun h => by (cases h), hP, hS, hok⟩
              · have e4 : decide (p.f < (l.length : Int)) = false := decide_eq_false h4
                by_cases h5 : p.rho < err
                · have e5 : decide (p.rho < err) = true := decide_eq_true h5
                  go_wp2_with (first | (go_at_call 19; refine (KCH.out _).mono ?_; rintro e w2 ⟨rfl, hb1⟩; clear s0 s1 s2 s3 s4 s5 s6 s7 s8 s9 s10 hsl; clear c0 c1 c2 c3 c4 c5 c6 c7 c8 c9 c10 c11 hPl; replace hP := hP.next hb1; replace hS := hS.next hb1; replace hok := hok.trans hb1; clear hb1; obtain ⟨s0, s1, s2, s3, s4, s5, s6, s7, s8, s9, s10⟩ := hS.sta; have hsl := hS.lt; obtain ⟨c0, c1, c2, c3, c4, c5, c6, c7, c8, c9, c10, c11⟩ := hP.pars; have hPl := hP.lt) | (go_at_call 9; refine (KG.out _ _ (InsAt.new _ _ (HI1.out _ hok) _ rfl)).mono ?_; rintro e w3 ⟨rfl, hb1⟩; clear s0 s1 s2 s3 s4 s5 s6 s7 s8 s9 s10 hsl; clear c0 c1 c2 c3 c4 c5 c6 c7 c8 c9 c10 c11 hPl; replace hb1 := ((Ok.refl _).alloc _).trans hb1; replace hP := hP.next hb1; replace hS := hS.next hb1; replace hok := hok.trans hb1; clear hb1; obtain ⟨s0, s1, s2, s3, s4, s5, s6, s7, s8, s9, s10⟩ := hS.sta; have hsl := hS.lt; obtain ⟨c0, c1, c2, c3, c4, c5, c6, c7, c8, c9, c10, c11⟩ := hP.pars; have hPl := hP.lt))
                  go_meet
                  exact ⟨true, rfl, fun h => by (cases h), hP, hS, hok⟩
                · have e5 : decide (p.rho < err) = false := decide_eq_false h5
                  by_cases h6 : err < -p.rho
                  · have e6 : decide (err < -p.rho) = true := decide_eq_true h6
                    go_wp2_with (first | (go_at_call 19; refine (KCH.out _).mono ?_; rintro e w2 ⟨rfl, hb1⟩; clear s0 s1 s2 s3 s4 s5 s6 s7 s8 s9 s10 hsl; clear c0 c1 c2 c3 c4 c5 c6 c7 c8 c9 c10 c11 hPl; replace hP := hP.next hb1; replace hS := hS.next hb1; replace hok := hok.trans hb1; clear hb1; obtain ⟨s0, s1, s2, s3, s4, s5, s6, s7, s8, s9, s10⟩ := hS.sta; have hsl := hS.lt; obtain ⟨c0, c1, c2, c3, c4, c5, c6, c7, c8, c9, c10, c11⟩ := hP.pars; have hPl := hP.lt) | (go_at_call 9; refine (KG.out _ _ (InsAt.new _ _ (HI1.out _ hok) _ rfl)).mono ?_; rintro e w3 ⟨rfl, hb1⟩; clear s0 s1 s2 s3 s4 s5 s6 s7 s8 s9 s10 hsl; clear c0 c1 c2 c3 c4 c5 c6 c7 c8 c9 c10 c11 hPl; replace hb1 := ((Ok.refl _).alloc _).trans hb1; replace hP := hP.next hb1; replace hS := hS.next hb1; replace hok := hok.trans hb1; clear hb1; obtain ⟨s0, s1, s2, s3, s4, s5, s6, s7, s8, s9, s10⟩ := hS.sta; have hsl := hS.lt; obtain ⟨c0, c1, c2, c3, c4, c5, c6, c7, c8, c9, c10, c11⟩ := hP.pars; have hPl := hP.lt))
                    go_meet
                    exact ⟨true, rfl, fun h => by (cases h), hP, hS, hok⟩
                  · have e6 : decide (err < -p.rho) = false := decide_eq_false h6
                    go_wp2_with (first | (go_at_call 19; refine (KCH.out _).mono ?_; rintro e w2 ⟨rfl, hb1⟩; clear s0 s1 s2 s3 s4 s5 s6 s7 s8 s9 s10 hsl; clear c0 c1 c2 c3 c4 c5 c6 c7 c8 c9 c10 c11 hPl; replace hP := hP.next hb1; replace hS := hS.next hb1; replace hok := hok.trans hb1; clear hb1; obtain ⟨s0, s1, s2, s3, s4, s5, s6, s7, s8, s9, s10⟩ := hS.sta; have hsl := hS.lt; obtain ⟨c0, c1, c2, c3, c4, c5, c6, c7, c8, c9, c10, c11⟩ := hP.pars; have hPl := hP.lt) | (go_at_call 9; refine (KG.out _ _ (InsAt.new _ _ (HI1.out _ hok) _ rfl)).mono ?_; rintro e w3 ⟨rfl, hb1⟩; clear s0 s1 s2 s3 s4 s5 s6 s7 s8 s9 s10 hsl; clear c0 c1 c2 c3 c4 c5 c6 c7 c8 c9 c10 c11 hPl; replace hb1 := ((Ok.refl _).alloc _).trans hb1; replace hP := hP.next hb1; replace hS := hS.next hb1; replace hok := hok.trans hb1; clear hb1; obtain ⟨s0, s1, s2, s3, s4, s5, s6, s7, s8, s9, s10⟩ := hS.sta; have hsl := hS.lt; obtain ⟨c0, c1, c2, c3, c4, c5, c6, c7, c8, c9, c10, c11⟩ := hP.pars; have hPl := hP.lt))
                    go_meet
                    exact ⟨false, rfl, fun _ => ⟨HM.out, by first | rfl | trivial, h1, h2, h3, h4, h5, h6⟩, hP, hS, hok⟩
    · rw [show Lim.check p = 1 from if_neg h0] at KCH
      clear h0
      go_wp2_with (first | (go_at_call 19; refine (KCH.out _).mono ?_; rintro e w2 ⟨rfl, hb1⟩; clear s0 s1 s2 s3 s4 s5 s6 s7 s8 s9 s10 hsl; clear c0 c1 c2 c3 c4 c5 c6 c7 c8 c9 c10 c11 hPl; replace hP := hP.next hb1; replace hS := hS.next hb1; replace hok := hok.trans hb1; clear hb1; obtain ⟨s0, s1, s2, s3, s4, s5, s6, s7, s8, s9, s10⟩ := hS.sta; have hsl := hS.lt; obtain ⟨c0, c1, c2, c3, c4, c5, c6, c7, c8, c9, c10, c11⟩ := hP.pars; have hPl := hP.lt) | (go_at_call 9; refine (KG.out _ _ (InsAt.new _ _ (HI1.out _ hok) _ rfl)).mono ?_; rintro e w3 ⟨rfl, hb1⟩; clear s0 s1 s2 s3 s4 s5 s6 s7 s8 s9 s10 hsl; clear c0 c1 c2 c3 c4 c5 c6 c7 c8 c9 c10 c11 hPl; replace hb1 := ((Ok.refl _).alloc _).trans hb1; replace hP := hP.next hb1; replace hS := hS.next hb1; replace hok := hok.trans hb1; clear hb1; obtain ⟨s0, s1, s2, s3, s4, s5, s6, s7, s8, s9, s10⟩ := hS.sta; have hsl := hS.lt; obtain ⟨c0, c1, c2, c3, c4, c5, c6, c7, c8, c9, c10, c11⟩ := hP.pars; have hPl := hP.lt))
      go_meet
      exact ⟨true, rfl, fun h => by (cases h), hP, hS, hok⟩
  case rest =>
  clear hP hS hok KCH KG
  obtain ⟨b, rfl, hc1, hP, hS, hok⟩ := hcut
  cases b with
  | true =>
    go_wp2_with fail
    go_ret
    exact ⟨rfl, hok⟩
  | false =>
  have HC1 := Lib.hid (hc1 rfl)
  clear hc1 htl
  go_upto_region 5 with fail
  have hk1 : IntKind.i64.wrap (p.beat + err) = p.beat + err := by
    obtain ⟨hm, -, -, -, -, -, b4, b5⟩ := HC1.out
    have hr0 := hm.2.1.2.1
    have hr1 := hm.2.1.1
    exact IntWalk.i64_in _ ⟨by omega, by omega⟩
  obtain ⟨tk, htk⟩ : ∃ x, p.beat + err = x := ⟨_, rfl⟩
  rw [htk] at hk1
  have c3 := hP.cell 3 (v := .int .i64 p.beat) rfl
  have hPl := hP.lt
  go_upto_region 6 with fail
  clear c3 hPl
  have hI := Own.new wc #[.int .i64 tk, .slice none 0 0, .bool true, .int .i64 0, .bool false, .slice none 0 0] 44 rfl
  have hBI := hP.lt
  have hHI := hS.lt
  have hokr := (Ok.refl wc).alloc (.cells #[.int .i64 tk, .slice none 0 0, .bool true, .int .i64 0, .bool false, .slice none 0 0] 44)
  have hrow : (wc.alloc (.cells #[.int .i64 tk, .slice none 0 0, .bool true, .int .i64 0, .bool false, .slice none 0 0] 44)).ownsRow (wc.heap.size + 1) 49 15 (.slice none 0 0) 0 [] := World.ownsRow_nil _ _ _ _
  change Code.wp _ _ _ _ (wc.alloc (.cells #[.int .i64 tk, .slice none 0 0, .bool true, .int .i64 0, .bool false, .slice none 0 0] 44))
  generalize wc.alloc (.cells #[.int .i64 tk, .slice none 0 0, .bool true, .int .i64 0, .bool false, .slice none 0 0] 44) = W1 at hI hokr hrow ⊢
  obtain ⟨IN, hIN⟩ : ∃ r, wc.heap.size = r := ⟨_, rfl⟩
  rw [hIN] at hI hBI hHI hrow ⊢
  have hts : (ts.length : Int) ≤ 16 := by
    obtain ⟨hm, -, -, -, b3, -⟩ := HC1.out
    have := hm.1
    unfold Lim.Gates at this
    omega
  have hts1 : 1 ≤ ts.length := by
    obtain ⟨hm, -, -, -, b3, -⟩ := HC1.out
    have := hm.1
    unfold Lim.Gates at this
    omega
  go_wp2_with fail
  go_loopw [80] (fun i wr => ∃ (k : Nat) (v : Value), k ≤ ts.length ∧ i = .int .i64 k ∧ Own wr IN #[.int .i64 tk, v, .bool true, .int .i64 (rdAt p now ts k), .bool false, .slice none 0 0] ∧ wr.ownsRow (IN + 1) 49 15 v (k - 1) ((honAs p now ts (k - 1)).flatMap haL) ∧ Ok wc wr ∧ ∀ t ∈ ts.take k, Anchor.Fine p t) (fun i _ => ts.length - (intOf i).toNat)
  case atStart => exact ⟨0, .slice none 0 0, Nat.zero_le _, rfl, hI, hrow, hokr, fun t ht => by simp at ht⟩
  case round =>
    clear hI hrow hokr
    obtain ⟨k, v, hk, rfl, hI, hrow, hokr, hfine⟩ := hrel
    by_cases hlt : k < ts.length
    · obtain ⟨b, off, hT2, hb, t0, t1, t2⟩ := tld_at ((HTT.out.below hok).below hokr) k hlt
      subst hT2
      have HN := Lib.hid (show Anchor.Fine p ts[k] → ∀ t ∈ ts.take (k + 1), Anchor.Fine p t from fun h t ht => by
        rw [take_more hlt] at ht
        rcases List.mem_append.1 ht with h' | h'
        · exact hfine t h'
        · rw [List.mem_singleton.1 h']; exact h)
      have HX := Lib.hid (show Anchor.Fine p ts[k] ↔ (-p.eps ≤ ts[k].err ∧ ts[k].err ≤ p.eps) ∧ (p.delay - p.jit ≤ ts[k].way ∧ ts[k].way ≤ p.delay) ∧ -p.rho ≤ ts[k].off ∧ ts[k].off ≤ p.rho from Iff.rfl)
      have HD : Hid (ts.getD k Gate.noT = ⟨ts[k].err, ts[k].way, ts[k].off⟩) := Lib.hid (getD_in hlt _)
      have hpw : p.delay - p.jit ≤ p.delay ∧ (-1152921504606846976 ≤ p.eps ∧ p.eps ≤ 1152921504606846976) ∧ (-1152921504606846976 ≤ p.rho ∧ p.rho ≤ 1152921504606846976) ∧ (-1152921504606846976 ≤ p.delay ∧ p.delay ≤ 1152921504606846976) ∧ (-1152921504606846976 ≤ p.jit ∧ p.jit ≤ 1152921504606846976) ∧ (-1152921504606846976 ≤ p.beat ∧ p.beat ≤ 1152921504606846976) ∧ (-1125899906842624 ≤ now ∧ now ≤ 1125899906842624) := by
        obtain ⟨hm, -, a1, a2, -⟩ := HC1.out
        obtain ⟨b1, r1, d1, j1, e1⟩ := Lim.May.bds hm
        omega
      have HPW := Lib.hid hpw
      clear hfine
      generalize ts[k].err = er at t0 HX HD
      generalize ts[k].way = wy at t1 HX HD
      generalize ts[k].off = of at t2 HX HD
      have hZI := hI.lt
      go_upto_region 9 with fail
      have hZ := Own.new wr #[.int .i64 er, .int .i64 wy, .int .i64 of] 61 rfl
      replace hI := hI.alloc (.cells #[.int .i64 er, .int .i64 wy, .int .i64 of] 61)
      replace hrow := World.ownsRow.alloc hrow (.cells #[.int .i64 er, .int .i64 wy, .int .i64 of] 61)
      replace hokr := hokr.alloc (.cells #[.int .i64 er, .int .i64 wy, .int .i64 of] 61)
      change Code.wp _ _ _ _ (wr.alloc (.cells #[.int .i64 er, .int .i64 wy, .int .i64 of] 61))
      generalize wr.alloc (.cells #[.int .i64 er, .int .i64 wy, .int .i64 of] 61) = W3 at hZ hI hrow hokr ⊢
      generalize wr.heap.size = Z at hZ hZI ⊢
      clear t0 t1 t2 hb hpw
      go_cut [129] from 85 to 129 (fun v wx => ∃ b, v = .bool b ∧ (b = false → (¬ (p.eps < er) ∧ ¬ (er < -p.eps) ∧ ¬ (p.delay < wy) ∧ ¬ (wy < p.delay - p.jit) ∧ ¬ (p.rho < of) ∧ ¬ (of < -p.rho))) ∧ wx = W3)
      case first =>
        obtain ⟨c0, c1, c2, c3, c4, c5, c6, c7, c8, c9, c10, c11⟩ := (hP.next hokr).pars; have hPl := (hP.next hokr).lt
        have z0 := hZ.cell 0 rfl
        have z1 := hZ.cell 1 rfl
        have z2 := hZ.cell 2 rfl
        have hZl := hZ.lt
        obtain ⟨q1, q2, q3, q4, q5, q6, q7⟩ := HPW.out
        have hk2 : IntKind.i64.wrap (-p.eps) = -p.eps := IntWalk.i64_in _ ⟨by omega, by omega⟩
        have hk3 : IntKind.i64.wrap (-p.rho) = -p.rho := IntWalk.i64_in _ ⟨by omega, by omega⟩
        have hk4 : IntKind.i64.wrap (p.delay - p.jit) = p.delay - p.jit := IntWalk.i64_in _ ⟨by omega, by omega⟩
        clear q1 q2 q3 q4 q5 q6 q7 hrow hI
        by_cases h0 : p.eps < er
        · have e0 : decide (p.eps < er) = true := decide_eq_true h0
          go_wp2_with fail
          go_meet
          exact ⟨true, rfl, fun h => by (cases h), rfl⟩
        · have e0 : decide (p.eps < er) = false := decide_eq_false h0
          by_cases h1 : er < -p.eps
          · have e1 : decide (er < -p.eps) = true := decide_eq_true h1
            go_wp2_with fail
            go_meet
            exact ⟨true, rfl, fun h => by (cases h), rfl⟩
          · have e1 : decide (er < -p.eps) = false := decide_eq_false h1
            by_cases h2 : p.delay < wy
            · have e2 : decide (p.delay < wy) = true := decide_eq_true h2
              go_wp2_with fail
              go_meet
              exact ⟨true, rfl, fun h => by (cases h), rfl⟩
            · have e2 : decide (p.delay < wy) = false := decide_eq_false h2
              by_cases h3 : wy < p.delay - p.jit
              · have e3 : decide (wy < p.delay - p.jit) = true := decide_eq_true h3
                go_wp2_with fail
                go_meet
                exact ⟨true, rfl, fun h => by (cases h), rfl⟩
              · have e3 : decide (wy < p.delay - p.jit) = false := decide_eq_false h3
                by_cases h4 : p.rho < of
                · have e4 : decide (p.rho < of) = true := decide_eq_true h4
                  go_wp2_with fail
                  go_meet
                  exact ⟨true, rfl, fun h => by (cases h), rfl⟩
                · have e4 : decide (p.rho < of) = false := decide_eq_false h4
                  by_cases h5 : of < -p.rho
                  · have e5 : decide (of < -p.rho) = true := decide_eq_true h5
                    go_wp2_with fail
                    go_meet
                    exact ⟨true, rfl, fun h => by (cases h), rfl⟩
                  · have e5 : decide (of < -p.rho) = false := decide_eq_false h5
                    go_wp2_with fail
                    go_meet
                    exact ⟨false, rfl, fun _ => ⟨h0, h1, h2, h3, h4, h5⟩, rfl⟩
      case rest =>
      obtain ⟨bb, rfl, hc2, rfl⟩ := hcut
      cases bb with
      | true =>
        go_wp2_with fail
        go_ret
        exact ⟨rfl, hok.trans hokr⟩
      | false =>
      obtain ⟨g0, g1, g2, g3, g4, g5⟩ := hc2 rfl
      replace HN := Lib.hid (HN.out (HX.out.2 ⟨⟨by omega, by omega⟩, ⟨by omega, by omega⟩, by omega, by omega⟩))
      obtain ⟨q1, q2, q3, q4, q5, q6, q7⟩ := HPW.out
      have z0 := hZ.cell 0 (v := .int .i64 er) rfl
      have z1 := hZ.cell 1 (v := .int .i64 wy) rfl
      have z2 := hZ.cell 2 (v := .int .i64 of) rfl
      have hZl := hZ.lt
      have c3 := (hP.next hokr).cell 3 (v := .int .i64 p.beat) rfl
      have c7 := (hP.next hokr).cell 7 (v := .int .i64 p.eps) rfl
      have hPl := (hP.next hokr).lt
      have hw1 : IntKind.i64.wrap (now + p.beat) = now + p.beat := IntWalk.i64_in _ ⟨by omega, by omega⟩
      have hw2 : IntKind.i64.wrap (now + p.beat + er) = now + p.beat + er := IntWalk.i64_in _ ⟨by omega, by omega⟩
      have hw3 : IntKind.i64.wrap (now + er) = now + er := IntWalk.i64_in _ ⟨by omega, by omega⟩
      have hw4 : IntKind.i64.wrap (now + er - p.eps) = now + er - p.eps := IntWalk.i64_in _ ⟨by omega, by omega⟩
      have hw5 : IntKind.i64.wrap (now + er + p.eps) = now + er + p.eps := IntWalk.i64_in _ ⟨by omega, by omega⟩
      have hw6 : IntKind.i64.wrap (p.beat - wy) = p.beat - wy := IntWalk.i64_in _ ⟨by omega, by omega⟩
      have hw7 : IntKind.i64.wrap (p.beat - wy + of) = p.beat - wy + of := IntWalk.i64_in _ ⟨by omega, by omega⟩
      clear hc2 HX g0 g1 g2 g3 g4 g5 q1 q2 q3 q4 q5 q6 q7 HPW
      by_cases hk0 : k = 0
      · subst hk0
        have i3 := hI.cell 3 rfl
        have i3f := hI.frozen 3
        have hIl := hI.lt
        go_wp2_with fail
        go_roundw
        case rel =>
          refine ⟨1, v, hlt, rfl, ?_, row_only hrow ((Only.refl IN _).setR 3 _) (Nat.lt_succ_self _), hokr.setCell (p := ⟨IN, 3, none⟩) (by rw [hIN]; exact Nat.le_refl _) _, HN.out⟩
          have hI3 := hI.set 3 (.int .i64 (now + p.beat + er))
          rw [show rdAt p now ts 1 = now + p.beat + er by rw [rdAt_one, HD.out]]
          exact hI3
        case measure => simp [intOf]; omega
      · have hk1' : 1 ≤ k := by omega
        have hex : honAs p now ts (k - 1) ++ [honA p now ⟨er, wy, of⟩ k] = honAs p now ts k := by
          obtain ⟨m, rfl⟩ : ∃ m, k = m + 1 := ⟨k - 1, by omega⟩
          rw [honAs_next, HD.out]
          rfl
        have hrd : rdAt p now ts (k + 1) = rdAt p now ts k := by
          obtain ⟨m, rfl⟩ : ∃ m, k = m + 1 := ⟨k - 1, by omega⟩
          rw [rdAt_one, rdAt_one]
        go_upto_region 14 with fail
        clear z0 z1 z2 hZl c3 c7 hPl
        have hY := Own.new wc #[.int .i64 (now + er - p.eps), .int .i64 (now + er + p.eps)] 25 rfl
        replace hI := hI.alloc (.cells #[.int .i64 (now + er - p.eps), .int .i64 (now + er + p.eps)] 25)
        replace hZ := hZ.alloc (.cells #[.int .i64 (now + er - p.eps), .int .i64 (now + er + p.eps)] 25)
        replace hrow := World.ownsRow.alloc hrow (.cells #[.int .i64 (now + er - p.eps), .int .i64 (now + er + p.eps)] 25)
        replace hokr := hokr.alloc (.cells #[.int .i64 (now + er - p.eps), .int .i64 (now + er + p.eps)] 25)
        change Code.wp _ _ _ _ (wc.alloc (.cells #[.int .i64 (now + er - p.eps), .int .i64 (now + er + p.eps)] 25))
        generalize wc.alloc (.cells #[.int .i64 (now + er - p.eps), .int .i64 (now + er + p.eps)] 25) = W4 at hY hZ hI hrow hokr ⊢
        generalize wc.heap.size = Y at hY ⊢
        have z1 := hZ.cell 1 (v := .int .i64 wy) rfl
        have z2 := hZ.cell 2 (v := .int .i64 of) rfl
        have hZl := hZ.lt
        have y0 := hY.cell 0 (v := .int .i64 (now + er - p.eps)) rfl
        have y1 := hY.cell 1 (v := .int .i64 (now + er + p.eps)) rfl
        have hYl := hY.lt
        have c3 := (hP.next hokr).cell 3 (v := .int .i64 p.beat) rfl
        have hPl := (hP.next hokr).lt
        have i1 := hI.cell 1 (v := v) rfl
        have hIl := hI.lt
        have HR := Lib.hid (row_far hrow)
        go_upto_region 15 with (at_builtin; refine wpList_append_heard rfl _ _ rfl (IN + 1) v (honAs p now ts (k - 1)) (k - 1) rfl (World.ownsRow.alloc hrow _) _ (honA p now ⟨er, wy, of⟩ k) rfl (Own.new _ _ _ rfl) (by omega) (by simp; omega) ?_; intro v2 w6 hown hgrow; obtain ⟨A3, m3, q3, rfl⟩ := row_slice hown; have hI6 := own_grown22 (hI.alloc _) hgrow (fun e => by have := HR.out _ e; omega); have hok6 := Below.grown (hokr.alloc _) hgrow (by simp; omega) (fun g e => by have := HR.out _ e; omega); clear i1 hIl; have i1 := hI6.cell 1 (v := v) rfl; have i1f := hI6.frozen 1; have hIl := hI6.lt)
        rw [hex, show k - 1 + 1 = k from by omega] at hown
        clear i1 i1f hIl z1 z2 hZl y0 y1 hYl c3 hPl
        go_wp2_with fail
        go_roundw
        case rel =>
          refine ⟨k + 1, .slice A3 m3 q3, hlt, by go_num, ?_, row_only hown ((Only.refl IN _).setR 1 _) (Nat.lt_succ_self _), hok6.setCell (p := ⟨IN, 1, none⟩) (by rw [hIN]; exact Nat.le_refl _) _, HN.out⟩
          rw [hrd]
          exact hI6.set 1 (.slice A3 m3 q3)
        case measure => simp [intOf]; omega
    · have ek : k = ts.length := by omega
      subst ek
      rw [List.take_length] at hfine
      have HFI := Lib.hid hfine
      have hrd : rdAt p now ts ts.length = now + p.beat + (ts.getD 0 Gate.noT).err := by
        obtain ⟨m, hm⟩ : ∃ m, ts.length = m + 1 := ⟨ts.length - 1, by omega⟩
        rw [hm, rdAt_one]
      obtain ⟨rd, hrde⟩ : ∃ x, rdAt p now ts ts.length = x := ⟨_, rfl⟩
      rw [hrde] at hI hrd
      clear hrde hfine hlt hk
      go_wp2_with fail
      go_loopw [175] (fun i wr => ∃ (k : Nat) (v : Value), k ≤ l.length ∧ i = .int .i64 k ∧ Own wr IN #[.int .i64 tk, v, .bool true, .int .i64 rd, .bool false, .slice none 0 0] ∧ wr.ownsRow (IN + 1) 49 15 v (ts.length - 1 + k) ((honAs p now ts (ts.length - 1) ++ lieAs ts.length l k).flatMap haL) ∧ Ok wc wr) (fun i _ => l.length - (intOf i).toNat)
      case atStart => exact ⟨0, v, Nat.zero_le _, rfl, hI, by rw [show lieAs ts.length l 0 = [] from rfl, List.append_nil]; exact hrow, hokr⟩
      case round =>
      clear hI hrow hokr
      obtain ⟨k, v, hk, rfl, hI, hrow, hokr⟩ := hrel
      by_cases hlt : k < l.length
      · obtain ⟨b, off, hB2, hb, hcx⟩ := ((HBB.out.below hok).below hokr).nthAt k hlt
        obtain ⟨x, hx⟩ : ∃ x, l[k] = x := ⟨_, rfl⟩
        obtain ⟨t0, t1, t2, t3, t4, t5, t6, t7, t8, t9, t10, t11, t12, t13, t14⟩ := hcx x hx
        have hgx : l.getD k noA = x := by rw [getD_in hlt, hx]
        have hll2 : (l.length : Int) ≤ 16 := by
          obtain ⟨hm, -, -, -, b3, b4, -⟩ := HC1.out
          have := hm.1
          unfold Lim.Gates at this
          omega
        clear hcx hx
        subst hB2
        have hZI := hI.lt
        have hrl := fun g hg => (World.ownsRow.lt hrow g hg).2
        go_upto_region 19 with fail
        clear t0 t1 t2 t3 t4 t5 t6 t7 t8 t9 t10 t11 t12 t13 t14 hb
        have hZ := Own.new wr #[.int .i64 x.m.kind, .int .i64 x.m.frm, .int .i64 x.m.lo, .int .i64 x.m.hi, .int .i64 x.m.held, .int .i64 x.m.hops, .bool x.m.good, .bool x.m.ref, .int .i64 x.m.slo, .int .i64 x.m.shi, .int .i64 x.m.pulse, .int .i64 x.m.time, .int .i64 x.m.num, .slice x.A x.m.table.length x.cap, .int .i64 x.age] 49 rfl
        replace hI := hI.alloc (.cells #[.int .i64 x.m.kind, .int .i64 x.m.frm, .int .i64 x.m.lo, .int .i64 x.m.hi, .int .i64 x.m.held, .int .i64 x.m.hops, .bool x.m.good, .bool x.m.ref, .int .i64 x.m.slo, .int .i64 x.m.shi, .int .i64 x.m.pulse, .int .i64 x.m.time, .int .i64 x.m.num, .slice x.A x.m.table.length x.cap, .int .i64 x.age] 49)
        replace hrow := World.ownsRow.alloc hrow (.cells #[.int .i64 x.m.kind, .int .i64 x.m.frm, .int .i64 x.m.lo, .int .i64 x.m.hi, .int .i64 x.m.held, .int .i64 x.m.hops, .bool x.m.good, .bool x.m.ref, .int .i64 x.m.slo, .int .i64 x.m.shi, .int .i64 x.m.pulse, .int .i64 x.m.time, .int .i64 x.m.num, .slice x.A x.m.table.length x.cap, .int .i64 x.age] 49)
        replace hokr := hokr.alloc (.cells #[.int .i64 x.m.kind, .int .i64 x.m.frm, .int .i64 x.m.lo, .int .i64 x.m.hi, .int .i64 x.m.held, .int .i64 x.m.hops, .bool x.m.good, .bool x.m.ref, .int .i64 x.m.slo, .int .i64 x.m.shi, .int .i64 x.m.pulse, .int .i64 x.m.time, .int .i64 x.m.num, .slice x.A x.m.table.length x.cap, .int .i64 x.age] 49)
        change Code.wp _ _ _ _ (wr.alloc (.cells #[.int .i64 x.m.kind, .int .i64 x.m.frm, .int .i64 x.m.lo, .int .i64 x.m.hi, .int .i64 x.m.held, .int .i64 x.m.hops, .bool x.m.good, .bool x.m.ref, .int .i64 x.m.slo, .int .i64 x.m.shi, .int .i64 x.m.pulse, .int .i64 x.m.time, .int .i64 x.m.num, .slice x.A x.m.table.length x.cap, .int .i64 x.age] 49))
        generalize wr.alloc (.cells #[.int .i64 x.m.kind, .int .i64 x.m.frm, .int .i64 x.m.lo, .int .i64 x.m.hi, .int .i64 x.m.held, .int .i64 x.m.hops, .bool x.m.good, .bool x.m.ref, .int .i64 x.m.slo, .int .i64 x.m.shi, .int .i64 x.m.pulse, .int .i64 x.m.time, .int .i64 x.m.num, .slice x.A x.m.table.length x.cap, .int .i64 x.age] 49) = W3 at hZ hI hrow hokr ⊢
        generalize wr.heap.size = Z at hZ hZI hrl ⊢
        have hw1 : IntKind.i64.wrap ((ts.length : Int) + (k : Int)) = (ts.length : Int) + (k : Int) := IntWalk.i64_in _ ⟨by omega, by omega⟩
        have z1 := hZ.cell 1 rfl
        have z1f := hZ.frozen 1
        have hZl := hZ.lt
        go_upto_region 20 with fail
        clear z1 z1f hZl
        replace hZ := hZ.set 1 (.int .i64 ((ts.length : Int) + (k : Int)))
        change Own _ Z #[.int .i64 x.m.kind, .int .i64 ((ts.length : Int) + (k : Int)), .int .i64 x.m.lo, .int .i64 x.m.hi, .int .i64 x.m.held, .int .i64 x.m.hops, .bool x.m.good, .bool x.m.ref, .int .i64 x.m.slo, .int .i64 x.m.shi, .int .i64 x.m.pulse, .int .i64 x.m.time, .int .i64 x.m.num, .slice x.A x.m.table.length x.cap, .int .i64 x.age] at hZ
        replace hI := hI.setOther (a := ⟨Z, 1, none⟩) (show IN ≠ Z by omega) (.int .i64 ((ts.length : Int) + (k : Int)))
        replace hrow := row_set hrow ⟨Z, 1, none⟩ (.int .i64 ((ts.length : Int) + (k : Int))) (fun e => by have := hrl _ e; simp at this)
        replace hokr := hokr.setCell (p := ⟨Z, 1, none⟩) (by rw [hIN]; exact Nat.le_of_lt hZI) (.int .i64 ((ts.length : Int) + (k : Int)))
        change Code.wp _ _ _ _ (W3.setCell ⟨Z, 1, none⟩ (.int .i64 ((ts.length : Int) + (k : Int))))
        generalize W3.setCell ⟨Z, 1, none⟩ (.int .i64 ((ts.length : Int) + (k : Int))) = W4 at hZ hI hrow hokr ⊢
        have z0 := hZ.cell 0 rfl
        have z1 := hZ.cell 1 rfl
        have z2 := hZ.cell 2 rfl
        have z3 := hZ.cell 3 rfl
        have z4 := hZ.cell 4 rfl
        have z5 := hZ.cell 5 rfl
        have z6 := hZ.cell 6 rfl
        have z7 := hZ.cell 7 rfl
        have z8 := hZ.cell 8 rfl
        have z9 := hZ.cell 9 rfl
        have z10 := hZ.cell 10 rfl
        have z11 := hZ.cell 11 rfl
        have z12 := hZ.cell 12 rfl
        have z13 := hZ.cell 13 rfl
        have z14 := hZ.cell 14 rfl
        have hZl := hZ.lt
        have i1 := hI.cell 1 (v := v) rfl
        have hIl := hI.lt
        have HR := Lib.hid (row_far hrow)
        have hex : (honAs p now ts (ts.length - 1) ++ lieAs ts.length l k) ++ [lieA ts.length x k] = honAs p now ts (ts.length - 1) ++ lieAs ts.length l (k + 1) := by
          rw [lieAs_next, hgx, List.append_assoc]
        go_upto_region 21 with (at_builtin; refine wpList_append_heard rfl _ _ rfl (IN + 1) v (honAs p now ts (ts.length - 1) ++ lieAs ts.length l k) (ts.length - 1 + k) rfl (World.ownsRow.alloc hrow _) _ (lieA ts.length x k) rfl (Own.new _ _ _ rfl) (by omega) (by simp; omega) ?_; intro v2 w6 hown hgrow; obtain ⟨A3, m3, q3, rfl⟩ := row_slice hown; have hI6 := own_grown22 (hI.alloc _) hgrow (fun e => by have := HR.out _ e; omega); have hok6 := Below.grown (hokr.alloc _) hgrow (by simp; omega) (fun g e => by have := HR.out _ e; omega); clear i1 hIl; have i1 := hI6.cell 1 (v := v) rfl; have i1f := hI6.frozen 1; have hIl := hI6.lt)
        rw [hex] at hown
        clear i1 i1f hIl z0 z1 z2 z3 z4 z5 z6 z7 z8 z9 z10 z11 z12 z13 z14 hZl
        go_wp2_with fail
        go_roundw
        case rel => exact ⟨k + 1, .slice A3 m3 q3, hlt, by go_num, hI6.set 1 (.slice A3 m3 q3), row_only hown ((Only.refl IN _).setR 1 _) (Nat.lt_succ_self _), hok6.setCell (p := ⟨IN, 1, none⟩) (by rw [hIN]; exact Nat.le_refl _) _⟩
        case measure => simp [intOf]; omega
      · have ek : k = l.length := by omega
        subst ek
        obtain ⟨LL, hLL⟩ : ∃ x, honAs p now ts (ts.length - 1) ++ lieAs ts.length l l.length = x := ⟨_, rfl⟩
        have hLh : LL.map HA.hd = Gate.heard p now ts (l.map HA.hd) := by rw [← hLL]; exact heardAs p now ts l
        have hLn : ts.length - 1 + l.length = LL.length := by rw [← hLL, List.length_append, honAs_len, lieAs_len]
        obtain ⟨B2, q2, rfl, hH⟩ := heards_of_row (by rw [hLL]; exact hLn) hrow (fun x hx => by
          rcases List.mem_append.1 hx with h | h
          · exact honAs_tab p now ts _ _ x h
          · exact lieAs_tab ((HBB.out.below hok).below hokr).tabs _ x h)
        rw [hLL] at hI hH
        have hL40 : LL.length ≤ 40 := by
          obtain ⟨hm, -, -, -, b3, b4, -⟩ := HC1.out
          have := hm.1
          unfold Lim.Gates at this
          omega
        have HT8 : Hid (∀ h ∈ LL, h.m.table.length ≤ 8796093022208) := Lib.hid fun h hh => by
          rw [← hLL] at hh
          rcases List.mem_append.1 hh with hh | hh
          · obtain ⟨i, -, rfl⟩ := List.mem_map.1 hh
            exact Nat.zero_le _
          · obtain ⟨j, hj, rfl⟩ := List.mem_map.1 hh
            have hj := List.mem_range.1 hj
            rw [getD_in hj]
            exact Nat.le_trans ((HLG.out HC1.out.2.1).told _ (List.mem_singleton.2 rfl) l[j] (List.getElem_mem hj)) (by decide)
        clear hLL hLn hrow hlt hk
        obtain ⟨hm, -, b1, b2, b3, b4, b5, b6⟩ := HC1.out
        obtain ⟨Y, hY⟩ : ∃ Y, Gate.state p 0 (Health.sane p s) tk true rd (Gate.heard p now ts (l.map HA.hd)) false [] = Y := ⟨_, rfl⟩
        obtain ⟨y0, ⟨y1, y2⟩, y3, ⟨y4, y5⟩, y6, y7, y8⟩ := Gate.holds hm ⟨by omega, by omega⟩ b3 HFI.out (l.map HA.hd) (Health.sane p s) tk [] Y (by rw [← hY, hrd])
        rw [← hrd] at y0
        have htl : (Health.sane p s).table.length ≤ 9223372036854775807 := by
          unfold Health.sane
          simp only
          split
          · exact HSL.out
          · simp
        have hf := hm.1.2
        obtain ⟨X, hX⟩ : ∃ X, (⟨tk, B2, LL, q2, true, rd, false, none, [], 0⟩ : In) = X := ⟨_, rfl⟩
        have hst : Gate.state p 0 (Health.sane p s) X.ticks X.ref X.reading X.hds X.given X.table = Y := by
          rw [← hX]
          show Gate.state p 0 (Health.sane p s) tk true rd (LL.map HA.hd) false [] = Y
          rw [hLh, hY]
        have ha : Gate.after p 0 (Health.sane p s) X = Health.stamped Y := by unfold Gate.after; rw [hst]
        have hsy : ∃ m : Msg, Gate.tells p 0 (Health.sane p s) X = m ∧ m.lo = Y.lo ∧ m.hi = Y.hi ∧ m.ref = true := by
          refine ⟨_, rfl, ?_, ?_, ?_⟩
          · unfold Gate.tells; rw [hst]; rfl
          · unfold Gate.tells; rw [hst]; rfl
          · unfold Gate.tells; rw [hst, ← hX]; exact y0
        obtain ⟨mm, hmm, n1, n2, n3⟩ := hsy
        have KN := Lib.hid fun w h => F.new p 0 s A cap w h HSL.out
        have KB : Hid (∀ (W : World) (G : Nat) (A2 : Option Addr) (c2 : Nat), Own W G (gateCells 0 p (Health.sane p s) A2 c2) → PairsAt W A2 (Health.sane p s).table → (∀ a, A2 = some a → a.block ≠ G) → HeardsAt W B2 LL → Calls Tryz.prog 16 #[.pointer (some ⟨G, 0, none⟩), .agg #[.int .i64 tk, .slice B2 LL.length q2, .bool true, .int .i64 rd, .bool false, .slice none 0 0]] W fun e w' => ∃ A3 c3 A4 c4, e = .returned (.agg #[.int .i64 mm.kind, .int .i64 mm.frm, .int .i64 Y.lo, .int .i64 Y.hi, .int .i64 mm.held, .int .i64 mm.hops, .bool mm.good, .bool true, .int .i64 mm.slo, .int .i64 mm.shi, .int .i64 mm.pulse, .int .i64 mm.time, .int .i64 mm.num, .slice A3 mm.table.length c3]) ∧ Own w' G (gateCells 0 p (Health.stamped Y) A4 c4) ∧ Only G W w') := Lib.hid fun W G A2 c2 h1 h2 h3 h4 => by
          have k := F.beat G p 0 (Health.sane p s) A2 c2 X W h1 h2 h3 htl (by rw [← hX]; exact ⟨h4, PairsAt.empty _ _⟩) (by rw [← hX]; simp only; omega) (by rw [← hX]; simp) ⟨by omega, by omega⟩ (by rw [← hX]; exact HT8.out)
          rw [← hX] at k
          refine k.mono ?_
          rintro e w' ⟨A3, c3, A4, c4, rfl, q1, -, -, q2⟩
          rw [hX, ha] at q1
          rw [hX, hmm]
          refine ⟨A3, c3, A4, c4, ?_, q1, q2⟩
          unfold msgV
          rw [n1, n2, n3]
        have KSN := Lib.hid fun w h => front21.healthSane p s A cap w h HSL.out
        have KSO := Lib.hid fun A c w => front21.healthOf p (Health.sane p s) A c w
        have KFH := Lib.hid fun w G A c h => front21.frontHealth [.int .i64 0] G p (Health.stamped Y) A c w h
        rw [show Health.of p (Health.stamped Y) = 1 from y7] at KFH
        have KHO := Lib.hid fun w => limHop p w
        have hhop := Lim.hop_in (Lim.May.small hm)
        obtain ⟨_, r1, d1, j1, e1⟩ := Lim.May.bds hm
        have hh0 : 0 ≤ Lim.hop p ∧ Lim.hop p ≤ 4398046511104 := by omega
        have q14 : ∀ A4 c4, (gateCells 0 p (Health.stamped Y) A4 c4)[14]? = some (.int .i64 Y.time) := fun _ _ => rfl
        have q16 : ∀ A4 c4, (gateCells 0 p (Health.stamped Y) A4 c4)[16]? = some (.int .i64 0) := fun _ _ => by rw [← y6]; rfl
        have q12 : ∀ A4 c4, (gateCells 0 p (Health.stamped Y) A4 c4)[12]? = some (.int .i64 Y.lo) := fun _ _ => rfl
        have q13 : ∀ A4 c4, (gateCells 0 p (Health.stamped Y) A4 c4)[13]? = some (.int .i64 Y.hi) := fun _ _ => rfl
        clear hhop ha hst n1 n2 n3 hmm hX hY y0 y6 y7 htl hLh hL40 r1 d1 j1 hk1 htk hf
        obtain ⟨YY, hYY⟩ : ∃ z, Health.stamped Y = z := ⟨_, rfl⟩
        rw [hYY] at KB KFH q12 q13 q14 q16
        clear hYY
        generalize Health.sane p s = S0 at KN KB KSN KSO y8
        generalize Health.of p S0 = hs at KSO y8
        obtain ⟨h, hh⟩ : ∃ h, Lim.hop p = h := ⟨_, rfl⟩
        rw [hh] at KHO y3 hh0
        generalize Y.time = tm at y8 q14
        generalize Y.lo = lo at y1 y3 y4 y8 q12 KB
        generalize Y.hi = hi at y2 y3 y5 y8 q13 KB
        have e1' : 0 ≤ p.eps ∧ p.eps ≤ 1099511627776 := by omega
        obtain ⟨nx, hnx⟩ : ∃ nx, now + p.beat = nx := ⟨_, rfl⟩
        have hw1 : IntKind.i64.wrap (now + p.beat) = nx := by rw [hnx]; have := Lim.May.bds hm; exact IntWalk.i64_in _ ⟨by omega, by omega⟩
        rw [hnx] at y1 y2
        have HB := Lib.hid (show lo ≤ nx ∧ nx ≤ hi ∧ hi - lo ≤ 2 * p.eps + h ∧ -2305843009213693952 ≤ lo ∧ hi ≤ 2305843009213693952 ∧ (0 ≤ p.eps ∧ p.eps ≤ 1099511627776) ∧ (0 ≤ h ∧ h ≤ 4398046511104) from ⟨y1, y2, y3, y4, y5, e1', hh0⟩)
        have HY8 := Lib.hid y8
        clear hnx hh hh0 e1 e1' y1 y2 y3 y4 y5 y8 b1 b2 b3 b4 b5 b6 hm
        replace hP := hP.next hokr
        replace hS := hS.next hokr
        replace hok := hok.trans hokr
        clear hokr
        obtain ⟨s0, s1, s2, s3, s4, s5, s6, s7, s8, s9, s10⟩ := hS.sta; have hsl := hS.lt
        obtain ⟨c0, c1, c2, c3, c4, c5, c6, c7, c8, c9, c10, c11⟩ := hP.pars; have hPl := hP.lt
        replace q12 := Lib.hid q12
        replace q13 := Lib.hid q13
        replace q14 := Lib.hid q14
        replace q16 := Lib.hid q16
        clear hrd hts hts1 hll
        go_upto_region 22 with fail
        go_upto_region 23 with (go_at_call 10; refine (KN.out _ (HAA.out.below hok)).mono ?_; rintro e w4 ⟨G, A2, q5, rfl, hO, hT, hG, hAG, hb1⟩; clear s0 s1 s2 s3 s4 s5 s6 s7 s8 s9 s10 hsl; clear c0 c1 c2 c3 c4 c5 c6 c7 c8 c9 c10 c11 hPl; have hGB : Bp < G := Nat.lt_of_lt_of_le hP.lt hG; have hGH : H < G := Nat.lt_of_lt_of_le hS.lt hG; have hGI : IN < G := Nat.lt_of_lt_of_le hI.lt hG; have hwG := Nat.le_trans hok.size hG; replace hP := hP.next hb1; replace hS := hS.next hb1; replace hI := hI.next hb1; replace hH := hH.below hb1; replace hok := hok.trans hb1; clear hb1; clear hG)
        have hA2 := hT.pairs.1
        clear hT
        have i0 := hI.cell 0 (v := .int .i64 tk) rfl
        have i1 := hI.cell 1 (v := .slice B2 LL.length q2) rfl
        have i2 := hI.cell 2 (v := .bool true) rfl
        have i3 := hI.cell 3 (v := .int .i64 rd) rfl
        have i4 := hI.cell 4 (v := .bool false) rfl
        have i5 := hI.cell 5 (v := .slice none 0 0) rfl
        have hIl := hI.lt
        go_upto_region 24 with (go_at_call 16; refine (KB.out _ _ _ _ hO hA2 hAG hH).mono ?_; rintro e w5 ⟨A3, c3, A4, c4', rfl, hO2, hon⟩; clear i0 i1 i2 i3 i4 i5 hIl; replace hP := hon.own hP (by omega); replace hS := hon.own hS (by omega); replace hok := hon.then_ok hok hwG; clear hon hO hA2 hAG hH)
        have hM := Own.new w5 #[.int .i64 mm.kind, .int .i64 mm.frm, .int .i64 lo, .int .i64 hi, .int .i64 mm.held, .int .i64 mm.hops, .bool mm.good, .bool true, .int .i64 mm.slo, .int .i64 mm.shi, .int .i64 mm.pulse, .int .i64 mm.time, .int .i64 mm.num, .slice A3 mm.table.length c3] 47 rfl
        replace hP := hP.alloc (.cells #[.int .i64 mm.kind, .int .i64 mm.frm, .int .i64 lo, .int .i64 hi, .int .i64 mm.held, .int .i64 mm.hops, .bool mm.good, .bool true, .int .i64 mm.slo, .int .i64 mm.shi, .int .i64 mm.pulse, .int .i64 mm.time, .int .i64 mm.num, .slice A3 mm.table.length c3] 47)
        replace hS := hS.alloc (.cells #[.int .i64 mm.kind, .int .i64 mm.frm, .int .i64 lo, .int .i64 hi, .int .i64 mm.held, .int .i64 mm.hops, .bool mm.good, .bool true, .int .i64 mm.slo, .int .i64 mm.shi, .int .i64 mm.pulse, .int .i64 mm.time, .int .i64 mm.num, .slice A3 mm.table.length c3] 47)
        replace hO2 := hO2.alloc (.cells #[.int .i64 mm.kind, .int .i64 mm.frm, .int .i64 lo, .int .i64 hi, .int .i64 mm.held, .int .i64 mm.hops, .bool mm.good, .bool true, .int .i64 mm.slo, .int .i64 mm.shi, .int .i64 mm.pulse, .int .i64 mm.time, .int .i64 mm.num, .slice A3 mm.table.length c3] 47)
        replace hok := hok.alloc (.cells #[.int .i64 mm.kind, .int .i64 mm.frm, .int .i64 lo, .int .i64 hi, .int .i64 mm.held, .int .i64 mm.hops, .bool mm.good, .bool true, .int .i64 mm.slo, .int .i64 mm.shi, .int .i64 mm.pulse, .int .i64 mm.time, .int .i64 mm.num, .slice A3 mm.table.length c3] 47)
        change Code.wp _ _ _ _ (w5.alloc (.cells #[.int .i64 mm.kind, .int .i64 mm.frm, .int .i64 lo, .int .i64 hi, .int .i64 mm.held, .int .i64 mm.hops, .bool mm.good, .bool true, .int .i64 mm.slo, .int .i64 mm.shi, .int .i64 mm.pulse, .int .i64 mm.time, .int .i64 mm.num, .slice A3 mm.table.length c3] 47))
        generalize w5.alloc (.cells #[.int .i64 mm.kind, .int .i64 mm.frm, .int .i64 lo, .int .i64 hi, .int .i64 mm.held, .int .i64 mm.hops, .bool mm.good, .bool true, .int .i64 mm.slo, .int .i64 mm.shi, .int .i64 mm.pulse, .int .i64 mm.time, .int .i64 mm.num, .slice A3 mm.table.length c3] 47) = W5 at hM hP hS hO2 hok ⊢
        generalize w5.heap.size = MB at hM ⊢
        have c3' := hP.cell 3 (v := .int .i64 p.beat) rfl
        have hPl := hP.lt
        go_upto_region 25 with fail
        clear c3' hPl
        have q12' := hO2.cell 12 (q12.out A4 c4')
        have q13' := hO2.cell 13 (q13.out A4 c4')
        have hGl := hO2.lt
        go_upto_region 26 with fail
        clear q12' q13' hGl
        have hX := Own.new W5 #[.int .i64 lo, .int .i64 hi] 25 rfl
        replace hP := hP.alloc (.cells #[.int .i64 lo, .int .i64 hi] 25)
        replace hS := hS.alloc (.cells #[.int .i64 lo, .int .i64 hi] 25)
        replace hO2 := hO2.alloc (.cells #[.int .i64 lo, .int .i64 hi] 25)
        replace hM := hM.alloc (.cells #[.int .i64 lo, .int .i64 hi] 25)
        replace hok := hok.alloc (.cells #[.int .i64 lo, .int .i64 hi] 25)
        change Code.wp _ _ _ _ (W5.alloc (.cells #[.int .i64 lo, .int .i64 hi] 25))
        generalize W5.alloc (.cells #[.int .i64 lo, .int .i64 hi] 25) = W6 at hX hP hS hO2 hM hok ⊢
        generalize W5.heap.size = X at hX ⊢
        clear hI hGB hGH hGI hwG KB KN
        have HP := Lib.hid fun W' (k : Ok W6.drew W') => hP.drew.next k
        have HX := Lib.hid fun W' (k : Ok W6.drew W') => hX.drew.next k
        have HG := Lib.hid fun W' (k : Ok W6.drew W') => hO2.drew.next k
        have HM := Lib.hid fun W' (k : Ok W6.drew W') => hM.drew.next k
        have HG16 := Lib.hid fun W' (k : Ok W6.drew W') => (hO2.drew.next k).cell 16 (q16.out A4 c4')
        have HG14 := Lib.hid (q14.out A4 c4')
        have HAS := Lib.hid (HAA.out.below hok)
        have HOK := Lib.hid hok
        have HS := Lib.hid hS
        have HP0 := Lib.hid hP
        have HX0 := Lib.hid hX
        have HG0 := Lib.hid hO2
        clear hP hX hO2 hM hS hok q12 q13 q14 q16 hw1
        refine wp_region_facts (by as_aux_lemma => kernel_rfl) 288 rfl (VCGH Bp G X MB p lo hi nx h) Ok (by as_aux_lemma => kernel_rfl) (fun i v w w' h k w'' k' => h w'' (k.trans k')) (fun a b c => Ok.trans) (Ok.refl _) [some 209, some 210, some 211, some 212, some 213, some 214, some 215, some 216, some 217, some 218, some 219, some 220, some 221, some 222, some 223, some 224, some 225, some 226, some 227, some 228, some 229, some 230, some 231, some 232, some 233, some 234, some 235, some 236, some 237, some 238, some 239, some 240, some 241, some 242, some 243, some 244, some 245, some 246, some 247, some 248, some 249, some 250, some 251, some 252, some 253, some 254, some 255, some 256, some 257, some 258, some 259] rfl 51 rfl ⟨?_, ?_, ?_, ?_, ?_, ?_, ?_, ?_, ?_, ?_, ?_, ?_, ?_, ?_, ?_, ?_, ?_, ?_, ?_, ?_, ?_, ?_, ?_, ?_, ?_, ?_, ?_, ?_, ?_, ?_, ?_, ?_, ?_, ?_, ?_, ?_, ?_, ?_, ?_, ?_, ?_, ?_, ?_, ?_, ?_, ?_, ?_, ?_, ?_, ?_, ?_, trivial⟩ ?_
        · intro a' w' hF hR
          have e22 : a'.tmps[22]? = some (.pointer (some ⟨X, 0, none⟩)) := hF.slot 22 (by as_aux_lemma => kernel_rfl) rfl
          refine wpOp_run (v := .pointer (some ⟨X, 0, none⟩)) rfl rfl ?_ (fun _ _ => rfl) (Ok.refl _)
          clear hF
          go_simp
        · intro a' w' hF hR
          obtain ⟨v0, hv0, e209⟩ := hF.get 0 209 (by as_aux_lemma => kernel_rfl) (by as_aux_lemma => kernel_rfl)
          obtain rfl : v0 = _ := hv0 _ (Ok.refl _)
          have s0 := (HX.out _ hR).cell 0 rfl
          have s1 := (HX.out _ hR).cell 1 rfl
          have hXl := (HX.out _ hR).lt
          refine wpOp_run (v := .int .i64 lo) rfl rfl ?_ (fun _ _ => rfl) (Ok.refl _)
          clear hF
          go_simp
        · intro a' w' hF hR
          have e21 : a'.tmps[21]? = some (.int .i64 nx) := hF.slot 21 (by as_aux_lemma => kernel_rfl) rfl
          refine wpOp_run (v := .int .i64 nx) rfl rfl ?_ (fun _ _ => rfl) (Ok.refl _)
          clear hF
          go_simp
        · intro a' w' hF hR
          obtain ⟨v1, hv1, e210⟩ := hF.get 1 210 (by as_aux_lemma => kernel_rfl) (by as_aux_lemma => kernel_rfl)
          obtain rfl : v1 = _ := hv1 _ (Ok.refl _)
          obtain ⟨v2, hv2, e211⟩ := hF.get 2 211 (by as_aux_lemma => kernel_rfl) (by as_aux_lemma => kernel_rfl)
          obtain rfl : v2 = _ := hv2 _ (Ok.refl _)
          obtain ⟨b1, b2, b3, b4, b5, b6, b7⟩ := HB.out
          refine wpOp_run (v := .bool false) rfl rfl ?_ (fun _ _ => rfl) (Ok.refl _)
          clear hF
          go_simp
        · intro a' w' hF hR
          obtain ⟨v3, hv3, e212⟩ := hF.get 3 212 (by as_aux_lemma => kernel_rfl) (by as_aux_lemma => kernel_rfl)
          obtain rfl : v3 = _ := hv3 _ (Ok.refl _)
          refine wpOp_run (v := .bool false) rfl rfl ?_ (fun _ _ => rfl) (Ok.refl _)
          clear hF
          go_simp
        · intro a' w' hF hR
          have e22 : a'.tmps[22]? = some (.pointer (some ⟨X, 0, none⟩)) := hF.slot 22 (by as_aux_lemma => kernel_rfl) rfl
          obtain ⟨vg, hvg, eg⟩ := hF.get 4 213 (by as_aux_lemma => kernel_rfl) (by as_aux_lemma => kernel_rfl)
          obtain rfl : vg = _ := hvg _ (Ok.refl _)
          refine wpOp_runG (v := .pointer (some ⟨X, 1, none⟩)) rfl (wanted_yes rfl (by as_aux_lemma => kernel_rfl) eg) ?_ (fun _ _ => rfl) (Ok.refl _)
          clear hF
          go_simp
        · intro a' w' hF hR
          obtain ⟨v5, hv5, e214⟩ := hF.get 5 214 (by as_aux_lemma => kernel_rfl) (by as_aux_lemma => kernel_rfl)
          obtain rfl : v5 = _ := hv5 _ (Ok.refl _)
          obtain ⟨vg, hvg, eg⟩ := hF.get 4 213 (by as_aux_lemma => kernel_rfl) (by as_aux_lemma => kernel_rfl)
          obtain rfl : vg = _ := hvg _ (Ok.refl _)
          have s0 := (HX.out _ hR).cell 0 rfl
          have s1 := (HX.out _ hR).cell 1 rfl
          have hXl := (HX.out _ hR).lt
          refine wpOp_runG (v := .int .i64 hi) rfl (wanted_yes rfl (by as_aux_lemma => kernel_rfl) eg) ?_ (fun _ _ => rfl) (Ok.refl _)
          clear hF
          go_simp
        · intro a' w' hF hR
          have e21 : a'.tmps[21]? = some (.int .i64 nx) := hF.slot 21 (by as_aux_lemma => kernel_rfl) rfl
          obtain ⟨vg, hvg, eg⟩ := hF.get 4 213 (by as_aux_lemma => kernel_rfl) (by as_aux_lemma => kernel_rfl)
          obtain rfl : vg = _ := hvg _ (Ok.refl _)
          refine wpOp_runG (v := .int .i64 nx) rfl (wanted_yes rfl (by as_aux_lemma => kernel_rfl) eg) ?_ (fun _ _ => rfl) (Ok.refl _)
          clear hF
          go_simp
        · intro a' w' hF hR
          obtain ⟨v6, hv6, e215⟩ := hF.get 6 215 (by as_aux_lemma => kernel_rfl) (by as_aux_lemma => kernel_rfl)
          obtain rfl : v6 = _ := hv6 _ (Ok.refl _)
          obtain ⟨v7, hv7, e216⟩ := hF.get 7 216 (by as_aux_lemma => kernel_rfl) (by as_aux_lemma => kernel_rfl)
          obtain rfl : v7 = _ := hv7 _ (Ok.refl _)
          obtain ⟨vg, hvg, eg⟩ := hF.get 4 213 (by as_aux_lemma => kernel_rfl) (by as_aux_lemma => kernel_rfl)
          obtain rfl : vg = _ := hvg _ (Ok.refl _)
          obtain ⟨b1, b2, b3, b4, b5, b6, b7⟩ := HB.out
          refine wpOp_runG (v := .bool false) rfl (wanted_yes rfl (by as_aux_lemma => kernel_rfl) eg) ?_ (fun _ _ => rfl) (Ok.refl _)
          clear hF
          go_simp
        · intro a' w' hF hR
          obtain ⟨v4, hv4, e213⟩ := hF.get 4 213 (by as_aux_lemma => kernel_rfl) (by as_aux_lemma => kernel_rfl)
          obtain rfl : v4 = _ := hv4 _ (Ok.refl _)
          obtain ⟨v8, hv8, e217⟩ := hF.get 8 217 (by as_aux_lemma => kernel_rfl) (by as_aux_lemma => kernel_rfl)
          obtain rfl : v8 = _ := hv8 _ (Ok.refl _)
          refine wpOp_run (v := .bool false) rfl rfl ?_ (fun _ _ => rfl) (Ok.refl _)
          clear hF
          go_simp
        · intro a' w' hF hR
          obtain ⟨v9, hv9, e218⟩ := hF.get 9 218 (by as_aux_lemma => kernel_rfl) (by as_aux_lemma => kernel_rfl)
          obtain rfl : v9 = _ := hv9 _ (Ok.refl _)
          refine wpOp_run (v := .bool false) rfl rfl ?_ (fun _ _ => rfl) (Ok.refl _)
          clear hF
          go_simp
        · intro a' w' hF hR
          have e22 : a'.tmps[22]? = some (.pointer (some ⟨X, 0, none⟩)) := hF.slot 22 (by as_aux_lemma => kernel_rfl) rfl
          obtain ⟨vg, hvg, eg⟩ := hF.get 10 219 (by as_aux_lemma => kernel_rfl) (by as_aux_lemma => kernel_rfl)
          obtain rfl : vg = _ := hvg _ (Ok.refl _)
          refine wpOp_runG (v := .pointer (some ⟨X, 1, none⟩)) rfl (wanted_yes rfl (by as_aux_lemma => kernel_rfl) eg) ?_ (fun _ _ => rfl) (Ok.refl _)
          clear hF
          go_simp
        · intro a' w' hF hR
          obtain ⟨v11, hv11, e220⟩ := hF.get 11 220 (by as_aux_lemma => kernel_rfl) (by as_aux_lemma => kernel_rfl)
          obtain rfl : v11 = _ := hv11 _ (Ok.refl _)
          obtain ⟨vg, hvg, eg⟩ := hF.get 10 219 (by as_aux_lemma => kernel_rfl) (by as_aux_lemma => kernel_rfl)
          obtain rfl : vg = _ := hvg _ (Ok.refl _)
          have s0 := (HX.out _ hR).cell 0 rfl
          have s1 := (HX.out _ hR).cell 1 rfl
          have hXl := (HX.out _ hR).lt
          refine wpOp_runG (v := .int .i64 hi) rfl (wanted_yes rfl (by as_aux_lemma => kernel_rfl) eg) ?_ (fun _ _ => rfl) (Ok.refl _)
          clear hF
          go_simp
        · intro a' w' hF hR
          have e22 : a'.tmps[22]? = some (.pointer (some ⟨X, 0, none⟩)) := hF.slot 22 (by as_aux_lemma => kernel_rfl) rfl
          obtain ⟨vg, hvg, eg⟩ := hF.get 10 219 (by as_aux_lemma => kernel_rfl) (by as_aux_lemma => kernel_rfl)
          obtain rfl : vg = _ := hvg _ (Ok.refl _)
          refine wpOp_runG (v := .pointer (some ⟨X, 0, none⟩)) rfl (wanted_yes rfl (by as_aux_lemma => kernel_rfl) eg) ?_ (fun _ _ => rfl) (Ok.refl _)
          clear hF
          go_simp
        · intro a' w' hF hR
          obtain ⟨v13, hv13, e222⟩ := hF.get 13 222 (by as_aux_lemma => kernel_rfl) (by as_aux_lemma => kernel_rfl)
          obtain rfl : v13 = _ := hv13 _ (Ok.refl _)
          obtain ⟨vg, hvg, eg⟩ := hF.get 10 219 (by as_aux_lemma => kernel_rfl) (by as_aux_lemma => kernel_rfl)
          obtain rfl : vg = _ := hvg _ (Ok.refl _)
          have s0 := (HX.out _ hR).cell 0 rfl
          have s1 := (HX.out _ hR).cell 1 rfl
          have hXl := (HX.out _ hR).lt
          refine wpOp_runG (v := .int .i64 lo) rfl (wanted_yes rfl (by as_aux_lemma => kernel_rfl) eg) ?_ (fun _ _ => rfl) (Ok.refl _)
          clear hF
          go_simp
        · intro a' w' hF hR
          obtain ⟨v12, hv12, e221⟩ := hF.get 12 221 (by as_aux_lemma => kernel_rfl) (by as_aux_lemma => kernel_rfl)
          obtain rfl : v12 = _ := hv12 _ (Ok.refl _)
          obtain ⟨v14, hv14, e223⟩ := hF.get 14 223 (by as_aux_lemma => kernel_rfl) (by as_aux_lemma => kernel_rfl)
          obtain rfl : v14 = _ := hv14 _ (Ok.refl _)
          obtain ⟨vg, hvg, eg⟩ := hF.get 10 219 (by as_aux_lemma => kernel_rfl) (by as_aux_lemma => kernel_rfl)
          obtain rfl : vg = _ := hvg _ (Ok.refl _)
          obtain ⟨b1, b2, b3, b4, b5, b6, b7⟩ := HB.out
          refine wpOp_runG (v := .int .i64 (hi - lo)) rfl (wanted_yes rfl (by as_aux_lemma => kernel_rfl) eg) ?_ (fun _ _ => rfl) (Ok.refl _)
          clear hF
          go_simp; exact IntWalk.i64_in _ ⟨by omega, by omega⟩
        · intro a' w' hF hR
          have e6 : a'.tmps[6]? = some (.pointer (some ⟨Bp, 0, none⟩)) := hF.slot 6 (by as_aux_lemma => kernel_rfl) rfl
          obtain ⟨vg, hvg, eg⟩ := hF.get 10 219 (by as_aux_lemma => kernel_rfl) (by as_aux_lemma => kernel_rfl)
          obtain rfl : vg = _ := hvg _ (Ok.refl _)
          refine wpOp_runG (v := .pointer (some ⟨Bp, 7, none⟩)) rfl (wanted_yes rfl (by as_aux_lemma => kernel_rfl) eg) ?_ (fun _ _ => rfl) (Ok.refl _)
          clear hF
          go_simp
        · intro a' w' hF hR
          obtain ⟨v16, hv16, e225⟩ := hF.get 16 225 (by as_aux_lemma => kernel_rfl) (by as_aux_lemma => kernel_rfl)
          obtain rfl : v16 = _ := hv16 _ (Ok.refl _)
          obtain ⟨vg, hvg, eg⟩ := hF.get 10 219 (by as_aux_lemma => kernel_rfl) (by as_aux_lemma => kernel_rfl)
          obtain rfl : vg = _ := hvg _ (Ok.refl _)
          obtain ⟨c0, c1, c2, c3, c4, c5, c6, c7, c8, c9, c10, c11⟩ := (HP.out _ hR).pars
          refine wpOp_runG (v := .int .i64 p.eps) rfl (wanted_yes rfl (by as_aux_lemma => kernel_rfl) eg) ?_ (fun _ _ => rfl) (Ok.refl _)
          clear hF
          go_simp
        · intro a' w' hF hR
          obtain ⟨v17, hv17, e226⟩ := hF.get 17 226 (by as_aux_lemma => kernel_rfl) (by as_aux_lemma => kernel_rfl)
          obtain rfl : v17 = _ := hv17 _ (Ok.refl _)
          obtain ⟨vg, hvg, eg⟩ := hF.get 10 219 (by as_aux_lemma => kernel_rfl) (by as_aux_lemma => kernel_rfl)
          obtain rfl : vg = _ := hvg _ (Ok.refl _)
          obtain ⟨b1, b2, b3, b4, b5, b6, b7⟩ := HB.out
          refine wpOp_runG (v := .int .i64 (2 * p.eps)) rfl (wanted_yes rfl (by as_aux_lemma => kernel_rfl) eg) ?_ (fun _ _ => rfl) (Ok.refl _)
          clear hF
          go_simp; exact IntWalk.i64_in _ ⟨by omega, by omega⟩
        · intro a' w' hF hR
          have e6 : a'.tmps[6]? = some (.pointer (some ⟨Bp, 0, none⟩)) := hF.slot 6 (by as_aux_lemma => kernel_rfl) rfl
          obtain ⟨vg, hvg, eg⟩ := hF.get 10 219 (by as_aux_lemma => kernel_rfl) (by as_aux_lemma => kernel_rfl)
          obtain rfl : vg = _ := hvg _ (Ok.refl _)
          obtain ⟨c0, c1, c2, c3, c4, c5, c6, c7, c8, c9, c10, c11⟩ := (HP.out _ hR).pars
          have hPl := (HP.out _ hR).lt
          refine wpOp_runG (v := parV p) rfl (wanted_yes rfl (by as_aux_lemma => kernel_rfl) eg) ?_ (fun _ _ => rfl) (Ok.refl _)
          clear hF
          go_simp
        · intro a' w' hF hR
          obtain ⟨v19, hv19, e228⟩ := hF.get 19 228 (by as_aux_lemma => kernel_rfl) (by as_aux_lemma => kernel_rfl)
          obtain rfl : v19 = _ := hv19 _ (Ok.refl _)
          obtain ⟨vg, hvg, eg⟩ := hF.get 10 219 (by as_aux_lemma => kernel_rfl) (by as_aux_lemma => kernel_rfl)
          obtain rfl : vg = _ := hvg _ (Ok.refl _)
          refine wpOp_callG (f := 20) (args := #[parV p]) rfl (wanted_yes rfl (by as_aux_lemma => kernel_rfl) eg) ?_ ((KHO.out _).mono ?_)
          · go_simp
          · rintro e w2 ⟨rfl, hb2⟩; exact ⟨_, rfl, fun _ _ => rfl, hb2⟩
        · intro a' w' hF hR
          obtain ⟨v18, hv18, e227⟩ := hF.get 18 227 (by as_aux_lemma => kernel_rfl) (by as_aux_lemma => kernel_rfl)
          obtain rfl : v18 = _ := hv18 _ (Ok.refl _)
          obtain ⟨v20, hv20, e229⟩ := hF.get 20 229 (by as_aux_lemma => kernel_rfl) (by as_aux_lemma => kernel_rfl)
          obtain rfl : v20 = _ := hv20 _ (Ok.refl _)
          obtain ⟨vg, hvg, eg⟩ := hF.get 10 219 (by as_aux_lemma => kernel_rfl) (by as_aux_lemma => kernel_rfl)
          obtain rfl : vg = _ := hvg _ (Ok.refl _)
          obtain ⟨b1, b2, b3, b4, b5, b6, b7⟩ := HB.out
          refine wpOp_runG (v := .int .i64 (2 * p.eps + h)) rfl (wanted_yes rfl (by as_aux_lemma => kernel_rfl) eg) ?_ (fun _ _ => rfl) (Ok.refl _)
          clear hF
          go_simp; exact IntWalk.i64_in _ ⟨by omega, by omega⟩
        · intro a' w' hF hR
          obtain ⟨v15, hv15, e224⟩ := hF.get 15 224 (by as_aux_lemma => kernel_rfl) (by as_aux_lemma => kernel_rfl)
          obtain rfl : v15 = _ := hv15 _ (Ok.refl _)
          obtain ⟨v21, hv21, e230⟩ := hF.get 21 230 (by as_aux_lemma => kernel_rfl) (by as_aux_lemma => kernel_rfl)
          obtain rfl : v21 = _ := hv21 _ (Ok.refl _)
          obtain ⟨vg, hvg, eg⟩ := hF.get 10 219 (by as_aux_lemma => kernel_rfl) (by as_aux_lemma => kernel_rfl)
          obtain rfl : vg = _ := hvg _ (Ok.refl _)
          obtain ⟨b1, b2, b3, b4, b5, b6, b7⟩ := HB.out
          refine wpOp_runG (v := .bool false) rfl (wanted_yes rfl (by as_aux_lemma => kernel_rfl) eg) ?_ (fun _ _ => rfl) (Ok.refl _)
          clear hF
          go_simp
        · intro a' w' hF hR
          obtain ⟨v10, hv10, e219⟩ := hF.get 10 219 (by as_aux_lemma => kernel_rfl) (by as_aux_lemma => kernel_rfl)
          obtain rfl : v10 = _ := hv10 _ (Ok.refl _)
          obtain ⟨v22, hv22, e231⟩ := hF.get 22 231 (by as_aux_lemma => kernel_rfl) (by as_aux_lemma => kernel_rfl)
          obtain rfl : v22 = _ := hv22 _ (Ok.refl _)
          refine wpOp_run (v := .bool false) rfl rfl ?_ (fun _ _ => rfl) (Ok.refl _)
          clear hF
          go_simp
        · intro a' w' hF hR
          obtain ⟨v23, hv23, e232⟩ := hF.get 23 232 (by as_aux_lemma => kernel_rfl) (by as_aux_lemma => kernel_rfl)
          obtain rfl : v23 = _ := hv23 _ (Ok.refl _)
          refine wpOp_run (v := .bool false) rfl rfl ?_ (fun _ _ => rfl) (Ok.refl _)
          clear hF
          go_simp
        · intro a' w' hF hR
          have e19 : a'.tmps[19]? = some (.pointer (some ⟨G, 0, none⟩)) := hF.slot 19 (by as_aux_lemma => kernel_rfl) rfl
          obtain ⟨vg, hvg, eg⟩ := hF.get 24 233 (by as_aux_lemma => kernel_rfl) (by as_aux_lemma => kernel_rfl)
          obtain rfl : vg = _ := hvg _ (Ok.refl _)
          refine wpOp_runG (v := .pointer (some ⟨G, 0, none⟩)) rfl (wanted_yes rfl (by as_aux_lemma => kernel_rfl) eg) ?_ (fun _ _ => rfl) (Ok.refl _)
          clear hF
          go_simp
        · intro a' w' hF hR
          obtain ⟨v25, hv25, e234⟩ := hF.get 25 234 (by as_aux_lemma => kernel_rfl) (by as_aux_lemma => kernel_rfl)
          obtain rfl : v25 = _ := hv25 _ (Ok.refl _)
          obtain ⟨vg, hvg, eg⟩ := hF.get 24 233 (by as_aux_lemma => kernel_rfl) (by as_aux_lemma => kernel_rfl)
          obtain rfl : vg = _ := hvg _ (Ok.refl _)
          refine wpOp_runG (v := .pointer (some ⟨G, 0, none⟩)) rfl (wanted_yes rfl (by as_aux_lemma => kernel_rfl) eg) ?_ (fun _ _ => rfl) (Ok.refl _)
          clear hF
          go_simp
        · intro a' w' hF hR
          obtain ⟨v26, hv26, e235⟩ := hF.get 26 235 (by as_aux_lemma => kernel_rfl) (by as_aux_lemma => kernel_rfl)
          obtain rfl : v26 = _ := hv26 _ (Ok.refl _)
          obtain ⟨vg, hvg, eg⟩ := hF.get 24 233 (by as_aux_lemma => kernel_rfl) (by as_aux_lemma => kernel_rfl)
          obtain rfl : vg = _ := hvg _ (Ok.refl _)
          refine wpOp_runG (v := .pointer (some ⟨G, 0, none⟩)) rfl (wanted_yes rfl (by as_aux_lemma => kernel_rfl) eg) ?_ (fun _ _ => rfl) (Ok.refl _)
          clear hF
          go_simp
        · intro a' w' hF hR
          obtain ⟨v27, hv27, e236⟩ := hF.get 27 236 (by as_aux_lemma => kernel_rfl) (by as_aux_lemma => kernel_rfl)
          obtain rfl : v27 = _ := hv27 _ (Ok.refl _)
          obtain ⟨vg, hvg, eg⟩ := hF.get 24 233 (by as_aux_lemma => kernel_rfl) (by as_aux_lemma => kernel_rfl)
          obtain rfl : vg = _ := hvg _ (Ok.refl _)
          refine wpOp_runG (v := .pointer (some ⟨G, 12, none⟩)) rfl (wanted_yes rfl (by as_aux_lemma => kernel_rfl) eg) ?_ (fun _ _ => rfl) (Ok.refl _)
          clear hF
          go_simp
        · intro a' w' hF hR
          obtain ⟨v28, hv28, e237⟩ := hF.get 28 237 (by as_aux_lemma => kernel_rfl) (by as_aux_lemma => kernel_rfl)
          obtain rfl : v28 = _ := hv28 _ (Ok.refl _)
          obtain ⟨vg, hvg, eg⟩ := hF.get 24 233 (by as_aux_lemma => kernel_rfl) (by as_aux_lemma => kernel_rfl)
          obtain rfl : vg = _ := hvg _ (Ok.refl _)
          refine wpOp_runG (v := .pointer (some ⟨G, 16, none⟩)) rfl (wanted_yes rfl (by as_aux_lemma => kernel_rfl) eg) ?_ (fun _ _ => rfl) (Ok.refl _)
          clear hF
          go_simp
        · intro a' w' hF hR
          obtain ⟨v29, hv29, e238⟩ := hF.get 29 238 (by as_aux_lemma => kernel_rfl) (by as_aux_lemma => kernel_rfl)
          obtain rfl : v29 = _ := hv29 _ (Ok.refl _)
          obtain ⟨vg, hvg, eg⟩ := hF.get 24 233 (by as_aux_lemma => kernel_rfl) (by as_aux_lemma => kernel_rfl)
          obtain rfl : vg = _ := hvg _ (Ok.refl _)
          have g16 := HG16.out _ hR
          have hGl := (HG.out _ hR).lt
          refine wpOp_runG (v := .int .i64 0) rfl (wanted_yes rfl (by as_aux_lemma => kernel_rfl) eg) ?_ (fun _ _ => rfl) (Ok.refl _)
          clear hF
          go_simp
        · intro a' w' hF hR
          obtain ⟨v30, hv30, e239⟩ := hF.get 30 239 (by as_aux_lemma => kernel_rfl) (by as_aux_lemma => kernel_rfl)
          obtain rfl : v30 = _ := hv30 _ (Ok.refl _)
          obtain ⟨vg, hvg, eg⟩ := hF.get 24 233 (by as_aux_lemma => kernel_rfl) (by as_aux_lemma => kernel_rfl)
          obtain rfl : vg = _ := hvg _ (Ok.refl _)
          refine wpOp_runG (v := .bool false) rfl (wanted_yes rfl (by as_aux_lemma => kernel_rfl) eg) ?_ (fun _ _ => rfl) (Ok.refl _)
          clear hF
          go_simp
        · intro a' w' hF hR
          obtain ⟨v24, hv24, e233⟩ := hF.get 24 233 (by as_aux_lemma => kernel_rfl) (by as_aux_lemma => kernel_rfl)
          obtain rfl : v24 = _ := hv24 _ (Ok.refl _)
          obtain ⟨v31, hv31, e240⟩ := hF.get 31 240 (by as_aux_lemma => kernel_rfl) (by as_aux_lemma => kernel_rfl)
          obtain rfl : v31 = _ := hv31 _ (Ok.refl _)
          refine wpOp_run (v := .bool false) rfl rfl ?_ (fun _ _ => rfl) (Ok.refl _)
          clear hF
          go_simp
        · intro a' w' hF hR
          obtain ⟨v32, hv32, e241⟩ := hF.get 32 241 (by as_aux_lemma => kernel_rfl) (by as_aux_lemma => kernel_rfl)
          obtain rfl : v32 = _ := hv32 _ (Ok.refl _)
          refine wpOp_run (v := .bool false) rfl rfl ?_ (fun _ _ => rfl) (Ok.refl _)
          clear hF
          go_simp
        · intro a' w' hF hR
          have e19 : a'.tmps[19]? = some (.pointer (some ⟨G, 0, none⟩)) := hF.slot 19 (by as_aux_lemma => kernel_rfl) rfl
          obtain ⟨vg, hvg, eg⟩ := hF.get 33 242 (by as_aux_lemma => kernel_rfl) (by as_aux_lemma => kernel_rfl)
          obtain rfl : vg = _ := hvg _ (Ok.refl _)
          refine wpOp_runG (v := .pointer (some ⟨G, 0, none⟩)) rfl (wanted_yes rfl (by as_aux_lemma => kernel_rfl) eg) ?_ (fun _ _ => rfl) (Ok.refl _)
          clear hF
          go_simp
        · intro a' w' hF hR
          obtain ⟨v34, hv34, e243⟩ := hF.get 34 243 (by as_aux_lemma => kernel_rfl) (by as_aux_lemma => kernel_rfl)
          obtain rfl : v34 = _ := hv34 _ (Ok.refl _)
          obtain ⟨vg, hvg, eg⟩ := hF.get 33 242 (by as_aux_lemma => kernel_rfl) (by as_aux_lemma => kernel_rfl)
          obtain rfl : vg = _ := hvg _ (Ok.refl _)
          refine wpOp_runG (v := .pointer (some ⟨G, 0, none⟩)) rfl (wanted_yes rfl (by as_aux_lemma => kernel_rfl) eg) ?_ (fun _ _ => rfl) (Ok.refl _)
          clear hF
          go_simp
        · intro a' w' hF hR
          obtain ⟨v35, hv35, e244⟩ := hF.get 35 244 (by as_aux_lemma => kernel_rfl) (by as_aux_lemma => kernel_rfl)
          obtain rfl : v35 = _ := hv35 _ (Ok.refl _)
          obtain ⟨vg, hvg, eg⟩ := hF.get 33 242 (by as_aux_lemma => kernel_rfl) (by as_aux_lemma => kernel_rfl)
          obtain rfl : vg = _ := hvg _ (Ok.refl _)
          refine wpOp_runG (v := .pointer (some ⟨G, 0, none⟩)) rfl (wanted_yes rfl (by as_aux_lemma => kernel_rfl) eg) ?_ (fun _ _ => rfl) (Ok.refl _)
          clear hF
          go_simp
        · intro a' w' hF hR
          obtain ⟨v36, hv36, e245⟩ := hF.get 36 245 (by as_aux_lemma => kernel_rfl) (by as_aux_lemma => kernel_rfl)
          obtain rfl : v36 = _ := hv36 _ (Ok.refl _)
          obtain ⟨vg, hvg, eg⟩ := hF.get 33 242 (by as_aux_lemma => kernel_rfl) (by as_aux_lemma => kernel_rfl)
          obtain rfl : vg = _ := hvg _ (Ok.refl _)
          refine wpOp_callG (f := 21) (args := #[.pointer (some ⟨G, 0, none⟩)]) rfl (wanted_yes rfl (by as_aux_lemma => kernel_rfl) eg) ?_ ((KFH.out _ _ _ _ (HG.out _ hR)).mono ?_)
          · go_simp
          · rintro e w2 ⟨rfl, hb2⟩; exact ⟨_, rfl, fun _ _ => rfl, hb2⟩
        · intro a' w' hF hR
          obtain ⟨v37, hv37, e246⟩ := hF.get 37 246 (by as_aux_lemma => kernel_rfl) (by as_aux_lemma => kernel_rfl)
          obtain rfl : v37 = _ := hv37 _ (Ok.refl _)
          obtain ⟨vg, hvg, eg⟩ := hF.get 33 242 (by as_aux_lemma => kernel_rfl) (by as_aux_lemma => kernel_rfl)
          obtain rfl : vg = _ := hvg _ (Ok.refl _)
          refine wpOp_runG (v := .bool false) rfl (wanted_yes rfl (by as_aux_lemma => kernel_rfl) eg) ?_ (fun _ _ => rfl) (Ok.refl _)
          clear hF
          go_simp
        · intro a' w' hF hR
          obtain ⟨v33, hv33, e242⟩ := hF.get 33 242 (by as_aux_lemma => kernel_rfl) (by as_aux_lemma => kernel_rfl)
          obtain rfl : v33 = _ := hv33 _ (Ok.refl _)
          obtain ⟨v38, hv38, e247⟩ := hF.get 38 247 (by as_aux_lemma => kernel_rfl) (by as_aux_lemma => kernel_rfl)
          obtain rfl : v38 = _ := hv38 _ (Ok.refl _)
          refine wpOp_run (v := .bool false) rfl rfl ?_ (fun _ _ => rfl) (Ok.refl _)
          clear hF
          go_simp
        · intro a' w' hF hR
          obtain ⟨v39, hv39, e248⟩ := hF.get 39 248 (by as_aux_lemma => kernel_rfl) (by as_aux_lemma => kernel_rfl)
          obtain rfl : v39 = _ := hv39 _ (Ok.refl _)
          refine wpOp_run (v := .bool false) rfl rfl ?_ (fun _ _ => rfl) (Ok.refl _)
          clear hF
          go_simp
        · intro a' w' hF hR
          have e20 : a'.tmps[20]? = some (.pointer (some ⟨MB, 0, none⟩)) := hF.slot 20 (by as_aux_lemma => kernel_rfl) rfl
          obtain ⟨vg, hvg, eg⟩ := hF.get 40 249 (by as_aux_lemma => kernel_rfl) (by as_aux_lemma => kernel_rfl)
          obtain rfl : vg = _ := hvg _ (Ok.refl _)
          refine wpOp_runG (v := .pointer (some ⟨MB, 2, none⟩)) rfl (wanted_yes rfl (by as_aux_lemma => kernel_rfl) eg) ?_ (fun _ _ => rfl) (Ok.refl _)
          clear hF
          go_simp
        · intro a' w' hF hR
          obtain ⟨v41, hv41, e250⟩ := hF.get 41 250 (by as_aux_lemma => kernel_rfl) (by as_aux_lemma => kernel_rfl)
          obtain rfl : v41 = _ := hv41 _ (Ok.refl _)
          obtain ⟨vg, hvg, eg⟩ := hF.get 40 249 (by as_aux_lemma => kernel_rfl) (by as_aux_lemma => kernel_rfl)
          obtain rfl : vg = _ := hvg _ (Ok.refl _)
          have m2 := (HM.out _ hR).cell 2 rfl
          have m3 := (HM.out _ hR).cell 3 rfl
          have m7 := (HM.out _ hR).cell 7 rfl
          have hMl := (HM.out _ hR).lt
          refine wpOp_runG (v := .agg #[.int .i64 lo, .int .i64 hi]) rfl (wanted_yes rfl (by as_aux_lemma => kernel_rfl) eg) ?_ (fun _ _ => rfl) (Ok.refl _)
          clear hF
          go_simp
        · intro a' w' hF hR
          have e22 : a'.tmps[22]? = some (.pointer (some ⟨X, 0, none⟩)) := hF.slot 22 (by as_aux_lemma => kernel_rfl) rfl
          obtain ⟨vg, hvg, eg⟩ := hF.get 40 249 (by as_aux_lemma => kernel_rfl) (by as_aux_lemma => kernel_rfl)
          obtain rfl : vg = _ := hvg _ (Ok.refl _)
          have s0 := (HX.out _ hR).cell 0 rfl
          have s1 := (HX.out _ hR).cell 1 rfl
          have hXl := (HX.out _ hR).lt
          refine wpOp_runG (v := .agg #[.int .i64 lo, .int .i64 hi]) rfl (wanted_yes rfl (by as_aux_lemma => kernel_rfl) eg) ?_ (fun _ _ => rfl) (Ok.refl _)
          clear hF
          go_simp
        · intro a' w' hF hR
          obtain ⟨v42, hv42, e251⟩ := hF.get 42 251 (by as_aux_lemma => kernel_rfl) (by as_aux_lemma => kernel_rfl)
          obtain rfl : v42 = _ := hv42 _ (Ok.refl _)
          obtain ⟨v43, hv43, e252⟩ := hF.get 43 252 (by as_aux_lemma => kernel_rfl) (by as_aux_lemma => kernel_rfl)
          obtain rfl : v43 = _ := hv43 _ (Ok.refl _)
          obtain ⟨vg, hvg, eg⟩ := hF.get 40 249 (by as_aux_lemma => kernel_rfl) (by as_aux_lemma => kernel_rfl)
          obtain rfl : vg = _ := hvg _ (Ok.refl _)
          refine wpOp_runG (v := .bool false) rfl (wanted_yes rfl (by as_aux_lemma => kernel_rfl) eg) ?_ (fun _ _ => rfl) (Ok.refl _)
          clear hF
          go_simp
        · intro a' w' hF hR
          obtain ⟨v40, hv40, e249⟩ := hF.get 40 249 (by as_aux_lemma => kernel_rfl) (by as_aux_lemma => kernel_rfl)
          obtain rfl : v40 = _ := hv40 _ (Ok.refl _)
          obtain ⟨v44, hv44, e253⟩ := hF.get 44 253 (by as_aux_lemma => kernel_rfl) (by as_aux_lemma => kernel_rfl)
          obtain rfl : v44 = _ := hv44 _ (Ok.refl _)
          refine wpOp_run (v := .bool false) rfl rfl ?_ (fun _ _ => rfl) (Ok.refl _)
          clear hF
          go_simp
        · intro a' w' hF hR
          obtain ⟨v45, hv45, e254⟩ := hF.get 45 254 (by as_aux_lemma => kernel_rfl) (by as_aux_lemma => kernel_rfl)
          obtain rfl : v45 = _ := hv45 _ (Ok.refl _)
          refine wpOp_run (v := .bool false) rfl rfl ?_ (fun _ _ => rfl) (Ok.refl _)
          clear hF
          go_simp
        · intro a' w' hF hR
          have e20 : a'.tmps[20]? = some (.pointer (some ⟨MB, 0, none⟩)) := hF.slot 20 (by as_aux_lemma => kernel_rfl) rfl
          obtain ⟨vg, hvg, eg⟩ := hF.get 46 255 (by as_aux_lemma => kernel_rfl) (by as_aux_lemma => kernel_rfl)
          obtain rfl : vg = _ := hvg _ (Ok.refl _)
          refine wpOp_runG (v := .pointer (some ⟨MB, 7, none⟩)) rfl (wanted_yes rfl (by as_aux_lemma => kernel_rfl) eg) ?_ (fun _ _ => rfl) (Ok.refl _)
          clear hF
          go_simp
        · intro a' w' hF hR
          obtain ⟨v47, hv47, e256⟩ := hF.get 47 256 (by as_aux_lemma => kernel_rfl) (by as_aux_lemma => kernel_rfl)
          obtain rfl : v47 = _ := hv47 _ (Ok.refl _)
          obtain ⟨vg, hvg, eg⟩ := hF.get 46 255 (by as_aux_lemma => kernel_rfl) (by as_aux_lemma => kernel_rfl)
          obtain rfl : vg = _ := hvg _ (Ok.refl _)
          have m2 := (HM.out _ hR).cell 2 rfl
          have m3 := (HM.out _ hR).cell 3 rfl
          have m7 := (HM.out _ hR).cell 7 rfl
          have hMl := (HM.out _ hR).lt
          refine wpOp_runG (v := .bool true) rfl (wanted_yes rfl (by as_aux_lemma => kernel_rfl) eg) ?_ (fun _ _ => rfl) (Ok.refl _)
          clear hF
          go_simp
        · intro a' w' hF hR
          obtain ⟨v48, hv48, e257⟩ := hF.get 48 257 (by as_aux_lemma => kernel_rfl) (by as_aux_lemma => kernel_rfl)
          obtain rfl : v48 = _ := hv48 _ (Ok.refl _)
          obtain ⟨vg, hvg, eg⟩ := hF.get 46 255 (by as_aux_lemma => kernel_rfl) (by as_aux_lemma => kernel_rfl)
          obtain rfl : vg = _ := hvg _ (Ok.refl _)
          refine wpOp_runG (v := .bool false) rfl (wanted_yes rfl (by as_aux_lemma => kernel_rfl) eg) ?_ (fun _ _ => rfl) (Ok.refl _)
          clear hF
          go_simp
        · intro a' w' hF hR
          obtain ⟨v46, hv46, e255⟩ := hF.get 46 255 (by as_aux_lemma => kernel_rfl) (by as_aux_lemma => kernel_rfl)
          obtain rfl : v46 = _ := hv46 _ (Ok.refl _)
          obtain ⟨v49, hv49, e258⟩ := hF.get 49 258 (by as_aux_lemma => kernel_rfl) (by as_aux_lemma => kernel_rfl)
          obtain rfl : v49 = _ := hv49 _ (Ok.refl _)
          refine wpOp_run (v := .bool false) rfl rfl ?_ (fun _ _ => rfl) (Ok.refl _)
          clear hF
          go_simp
        intro vs W7 hvs hR
        have e50 : vs 50 = .bool false := hvs 50 (by decide) _ (Ok.refl _)
        simp only [putFrom, e50]
        simp only [Act.put, List.setIfInBounds_toArray, List.set_cons_zero, List.set_cons_succ]
        clear hvs
        have hS7 := HS.out.drew.next hR
        have HS2 := Lib.hid fun W2 (k : Ok W7.drew W2) => hS7.drew.next k
        have HAS2 := Lib.hid fun W2 (k : Ok W7.drew W2) => HAS.out.below (((Ok.refl W6).drew.trans hR).drew.trans k)
        have hG7 := HG.out _ hR
        have hP7 := HP.out _ hR
        have hX7 := HX.out _ hR
        have hg14 := HG14.out
        clear HG HP HX HG14 HG16 HM HS
        have HG14 := Lib.hid fun W2 (k : Ok W7.drew W2) => (hG7.drew.next k).cell 14 hg14
        have HG := Lib.hid fun W2 (k : Ok W7.drew W2) => hG7.drew.next k
        have HP := Lib.hid fun W2 (k : Ok W7.drew W2) => hP7.drew.next k
        have HX := Lib.hid fun W2 (k : Ok W7.drew W2) => hX7.drew.next k
        have hok4 := HOK.out.trans ((Ok.refl W6).drew.trans hR)
        replace HOK := Lib.hid hok4
        clear hG7 hP7 hX7 hg14 hok4 hS7 hR HAS HP0 HX0 HG0
        go_upto_region 28 with fail
        by_cases hz : hs = 0
        · have HZ := Lib.hid hz
          have HT := Lib.hid (HY8.out hz)
          clear hz HY8
          refine wp_region_facts (by as_aux_lemma => kernel_rfl) 288 rfl (VCGZ Bp H G X p s S0 A cap hs lo hi tm) Ok (by as_aux_lemma => kernel_rfl) (fun i v w w' h k w'' k' => h w'' (k.trans k')) (fun a b c => Ok.trans) (Ok.refl _) [some 260, some 261, some 262, some 263, some 264, some 265, some 266, some 267, some 268, some 269, some 270, some 271, some 272, some 273, some 274, some 275, some 276, some 277, some 278, some 279, some 280, some 281, some 282, some 283, some 284, some 285, some 286, some 287, some 12] rfl 29 rfl ⟨?_, ?_, ?_, ?_, ?_, ?_, ?_, ?_, ?_, ?_, ?_, ?_, ?_, ?_, ?_, ?_, ?_, ?_, ?_, ?_, ?_, ?_, ?_, ?_, ?_, ?_, ?_, ?_, ?_, trivial⟩ ?_
          · intro a' w' hF hR
            have e6 : a'.tmps[6]? = some (.pointer (some ⟨Bp, 0, none⟩)) := hF.slot 6 (by as_aux_lemma => kernel_rfl) rfl
            obtain ⟨c0, c1, c2, c3, c4, c5, c6, c7, c8, c9, c10, c11⟩ := (HP.out _ hR).pars
            have hPl := (HP.out _ hR).lt
            refine wpOp_run (v := parV p) rfl rfl ?_ (fun _ _ => rfl) (Ok.refl _)
            clear hF
            go_simp
          · intro a' w' hF hR
            have e6 : a'.tmps[6]? = some (.pointer (some ⟨Bp, 0, none⟩)) := hF.slot 6 (by as_aux_lemma => kernel_rfl) rfl
            obtain ⟨c0, c1, c2, c3, c4, c5, c6, c7, c8, c9, c10, c11⟩ := (HP.out _ hR).pars
            have hPl := (HP.out _ hR).lt
            refine wpOp_run (v := parV p) rfl rfl ?_ (fun _ _ => rfl) (Ok.refl _)
            clear hF
            go_simp
          · intro a' w' hF hR
            have e7 : a'.tmps[7]? = some (.pointer (some ⟨H, 0, none⟩)) := hF.slot 7 (by as_aux_lemma => kernel_rfl) rfl
            obtain ⟨s0, s1, s2, s3, s4, s5, s6, s7, s8, s9, s10⟩ := (HS2.out _ hR).sta
            have hsl := (HS2.out _ hR).lt
            refine wpOp_run (v := staV s A cap) rfl rfl ?_ (fun _ _ => rfl) (Ok.refl _)
            clear hF
            go_simp; rfl
          · intro a' w' hF hR
            obtain ⟨v1, hv1, e261⟩ := hF.get 1 261 (by as_aux_lemma => kernel_rfl) (by as_aux_lemma => kernel_rfl)
            obtain rfl : v1 = _ := hv1 _ (Ok.refl _)
            obtain ⟨v2, hv2, e262⟩ := hF.get 2 262 (by as_aux_lemma => kernel_rfl) (by as_aux_lemma => kernel_rfl)
            obtain rfl : v2 = _ := hv2 _ (Ok.refl _)
            clear hF
            refine wpOp_call (f := 23) (args := #[parV p, staV s A cap]) rfl rfl ?_ ((KSN.out _ (HAS2.out _ hR)).mono ?_)
            · go_simp
            · rintro e w2 ⟨A2, c2, rfl, hI2, hb2⟩; exact ⟨_, rfl, fun w3 k => ⟨A2, c2, rfl, hI2.1.below k⟩, hb2⟩
          · intro a' w' hF hR
            obtain ⟨v0, hv0, e260⟩ := hF.get 0 260 (by as_aux_lemma => kernel_rfl) (by as_aux_lemma => kernel_rfl)
            obtain rfl : v0 = _ := hv0 _ (Ok.refl _)
            obtain ⟨v3, hv3, e263⟩ := hF.get 3 263 (by as_aux_lemma => kernel_rfl) (by as_aux_lemma => kernel_rfl)
            obtain ⟨A3, c3, rfl, hp3⟩ := hv3 _ (Ok.refl _)
            clear hF
            refine wpOp_call (f := 22) (args := #[parV p, staV S0 A3 c3]) rfl rfl ?_ ((KSO.out _ _ _).mono ?_)
            · go_simp
            · rintro e w2 ⟨rfl, hb2⟩; exact ⟨_, rfl, fun _ _ => rfl, hb2⟩
          · intro a' w' hF hR
            obtain ⟨v4, hv4, e264⟩ := hF.get 4 264 (by as_aux_lemma => kernel_rfl) (by as_aux_lemma => kernel_rfl)
            obtain rfl : v4 = _ := hv4 _ (Ok.refl _)
            have hz := HZ.out
            refine wpOp_run (v := .bool false) rfl rfl ?_ (fun _ _ => rfl) (Ok.refl _)
            clear hF
            go_simp
          · intro a' w' hF hR
            obtain ⟨v5, hv5, e265⟩ := hF.get 5 265 (by as_aux_lemma => kernel_rfl) (by as_aux_lemma => kernel_rfl)
            obtain rfl : v5 = _ := hv5 _ (Ok.refl _)
            refine wpOp_run (v := .bool false) rfl rfl ?_ (fun _ _ => rfl) (Ok.refl _)
            clear hF
            go_simp
          · intro a' w' hF hR
            have e19 : a'.tmps[19]? = some (.pointer (some ⟨G, 0, none⟩)) := hF.slot 19 (by as_aux_lemma => kernel_rfl) rfl
            obtain ⟨vg, hvg, eg⟩ := hF.get 6 266 (by as_aux_lemma => kernel_rfl) (by as_aux_lemma => kernel_rfl)
            obtain rfl : vg = _ := hvg _ (Ok.refl _)
            refine wpOp_runG (v := .pointer (some ⟨G, 0, none⟩)) rfl (wanted_yes rfl (by as_aux_lemma => kernel_rfl) eg) ?_ (fun _ _ => rfl) (Ok.refl _)
            clear hF
            go_simp
          · intro a' w' hF hR
            obtain ⟨v7, hv7, e267⟩ := hF.get 7 267 (by as_aux_lemma => kernel_rfl) (by as_aux_lemma => kernel_rfl)
            obtain rfl : v7 = _ := hv7 _ (Ok.refl _)
            obtain ⟨vg, hvg, eg⟩ := hF.get 6 266 (by as_aux_lemma => kernel_rfl) (by as_aux_lemma => kernel_rfl)
            obtain rfl : vg = _ := hvg _ (Ok.refl _)
            refine wpOp_runG (v := .pointer (some ⟨G, 0, none⟩)) rfl (wanted_yes rfl (by as_aux_lemma => kernel_rfl) eg) ?_ (fun _ _ => rfl) (Ok.refl _)
            clear hF
            go_simp
          · intro a' w' hF hR
            obtain ⟨v8, hv8, e268⟩ := hF.get 8 268 (by as_aux_lemma => kernel_rfl) (by as_aux_lemma => kernel_rfl)
            obtain rfl : v8 = _ := hv8 _ (Ok.refl _)
            obtain ⟨vg, hvg, eg⟩ := hF.get 6 266 (by as_aux_lemma => kernel_rfl) (by as_aux_lemma => kernel_rfl)
            obtain rfl : vg = _ := hvg _ (Ok.refl _)
            refine wpOp_runG (v := .pointer (some ⟨G, 0, none⟩)) rfl (wanted_yes rfl (by as_aux_lemma => kernel_rfl) eg) ?_ (fun _ _ => rfl) (Ok.refl _)
            clear hF
            go_simp
          · intro a' w' hF hR
            obtain ⟨v9, hv9, e269⟩ := hF.get 9 269 (by as_aux_lemma => kernel_rfl) (by as_aux_lemma => kernel_rfl)
            obtain rfl : v9 = _ := hv9 _ (Ok.refl _)
            obtain ⟨vg, hvg, eg⟩ := hF.get 6 266 (by as_aux_lemma => kernel_rfl) (by as_aux_lemma => kernel_rfl)
            obtain rfl : vg = _ := hvg _ (Ok.refl _)
            refine wpOp_runG (v := .pointer (some ⟨G, 12, none⟩)) rfl (wanted_yes rfl (by as_aux_lemma => kernel_rfl) eg) ?_ (fun _ _ => rfl) (Ok.refl _)
            clear hF
            go_simp
          · intro a' w' hF hR
            obtain ⟨v10, hv10, e270⟩ := hF.get 10 270 (by as_aux_lemma => kernel_rfl) (by as_aux_lemma => kernel_rfl)
            obtain rfl : v10 = _ := hv10 _ (Ok.refl _)
            obtain ⟨vg, hvg, eg⟩ := hF.get 6 266 (by as_aux_lemma => kernel_rfl) (by as_aux_lemma => kernel_rfl)
            obtain rfl : vg = _ := hvg _ (Ok.refl _)
            refine wpOp_runG (v := .pointer (some ⟨G, 14, none⟩)) rfl (wanted_yes rfl (by as_aux_lemma => kernel_rfl) eg) ?_ (fun _ _ => rfl) (Ok.refl _)
            clear hF
            go_simp
          · intro a' w' hF hR
            obtain ⟨v11, hv11, e271⟩ := hF.get 11 271 (by as_aux_lemma => kernel_rfl) (by as_aux_lemma => kernel_rfl)
            obtain rfl : v11 = _ := hv11 _ (Ok.refl _)
            obtain ⟨vg, hvg, eg⟩ := hF.get 6 266 (by as_aux_lemma => kernel_rfl) (by as_aux_lemma => kernel_rfl)
            obtain rfl : vg = _ := hvg _ (Ok.refl _)
            have g14 := HG14.out _ hR
            have hGl := (HG.out _ hR).lt
            refine wpOp_runG (v := .int .i64 tm) rfl (wanted_yes rfl (by as_aux_lemma => kernel_rfl) eg) ?_ (fun _ _ => rfl) (Ok.refl _)
            clear hF
            go_simp
          · intro a' w' hF hR
            have e22 : a'.tmps[22]? = some (.pointer (some ⟨X, 0, none⟩)) := hF.slot 22 (by as_aux_lemma => kernel_rfl) rfl
            obtain ⟨vg, hvg, eg⟩ := hF.get 6 266 (by as_aux_lemma => kernel_rfl) (by as_aux_lemma => kernel_rfl)
            obtain rfl : vg = _ := hvg _ (Ok.refl _)
            refine wpOp_runG (v := .pointer (some ⟨X, 0, none⟩)) rfl (wanted_yes rfl (by as_aux_lemma => kernel_rfl) eg) ?_ (fun _ _ => rfl) (Ok.refl _)
            clear hF
            go_simp
          · intro a' w' hF hR
            obtain ⟨v13, hv13, e273⟩ := hF.get 13 273 (by as_aux_lemma => kernel_rfl) (by as_aux_lemma => kernel_rfl)
            obtain rfl : v13 = _ := hv13 _ (Ok.refl _)
            obtain ⟨vg, hvg, eg⟩ := hF.get 6 266 (by as_aux_lemma => kernel_rfl) (by as_aux_lemma => kernel_rfl)
            obtain rfl : vg = _ := hvg _ (Ok.refl _)
            have s0 := (HX.out _ hR).cell 0 rfl
            have s1 := (HX.out _ hR).cell 1 rfl
            have hXl := (HX.out _ hR).lt
            refine wpOp_runG (v := .int .i64 lo) rfl (wanted_yes rfl (by as_aux_lemma => kernel_rfl) eg) ?_ (fun _ _ => rfl) (Ok.refl _)
            clear hF
            go_simp
          · intro a' w' hF hR
            obtain ⟨v12, hv12, e272⟩ := hF.get 12 272 (by as_aux_lemma => kernel_rfl) (by as_aux_lemma => kernel_rfl)
            obtain rfl : v12 = _ := hv12 _ (Ok.refl _)
            obtain ⟨v14, hv14, e274⟩ := hF.get 14 274 (by as_aux_lemma => kernel_rfl) (by as_aux_lemma => kernel_rfl)
            obtain rfl : v14 = _ := hv14 _ (Ok.refl _)
            obtain ⟨vg, hvg, eg⟩ := hF.get 6 266 (by as_aux_lemma => kernel_rfl) (by as_aux_lemma => kernel_rfl)
            obtain rfl : vg = _ := hvg _ (Ok.refl _)
            obtain ⟨k1, k2⟩ := HT.out
            refine wpOp_runG (v := .bool true) rfl (wanted_yes rfl (by as_aux_lemma => kernel_rfl) eg) ?_ (fun _ _ => rfl) (Ok.refl _)
            clear hF
            go_simp
          · intro a' w' hF hR
            obtain ⟨v15, hv15, e275⟩ := hF.get 15 275 (by as_aux_lemma => kernel_rfl) (by as_aux_lemma => kernel_rfl)
            obtain rfl : v15 = _ := hv15 _ (Ok.refl _)
            obtain ⟨vg, hvg, eg⟩ := hF.get 6 266 (by as_aux_lemma => kernel_rfl) (by as_aux_lemma => kernel_rfl)
            obtain rfl : vg = _ := hvg _ (Ok.refl _)
            refine wpOp_runG (v := .bool true) rfl (wanted_yes rfl (by as_aux_lemma => kernel_rfl) eg) ?_ (fun _ _ => rfl) (Ok.refl _)
            clear hF
            go_simp
          · intro a' w' hF hR
            have e19 : a'.tmps[19]? = some (.pointer (some ⟨G, 0, none⟩)) := hF.slot 19 (by as_aux_lemma => kernel_rfl) rfl
            obtain ⟨vg, hvg, eg⟩ := hF.get 16 276 (by as_aux_lemma => kernel_rfl) (by as_aux_lemma => kernel_rfl)
            obtain rfl : vg = _ := hvg _ (Ok.refl _)
            refine wpOp_runG (v := .pointer (some ⟨G, 0, none⟩)) rfl (wanted_yes rfl (by as_aux_lemma => kernel_rfl) eg) ?_ (fun _ _ => rfl) (Ok.refl _)
            clear hF
            go_simp
          · intro a' w' hF hR
            obtain ⟨v17, hv17, e277⟩ := hF.get 17 277 (by as_aux_lemma => kernel_rfl) (by as_aux_lemma => kernel_rfl)
            obtain rfl : v17 = _ := hv17 _ (Ok.refl _)
            obtain ⟨vg, hvg, eg⟩ := hF.get 16 276 (by as_aux_lemma => kernel_rfl) (by as_aux_lemma => kernel_rfl)
            obtain rfl : vg = _ := hvg _ (Ok.refl _)
            refine wpOp_runG (v := .pointer (some ⟨G, 0, none⟩)) rfl (wanted_yes rfl (by as_aux_lemma => kernel_rfl) eg) ?_ (fun _ _ => rfl) (Ok.refl _)
            clear hF
            go_simp
          · intro a' w' hF hR
            obtain ⟨v18, hv18, e278⟩ := hF.get 18 278 (by as_aux_lemma => kernel_rfl) (by as_aux_lemma => kernel_rfl)
            obtain rfl : v18 = _ := hv18 _ (Ok.refl _)
            obtain ⟨vg, hvg, eg⟩ := hF.get 16 276 (by as_aux_lemma => kernel_rfl) (by as_aux_lemma => kernel_rfl)
            obtain rfl : vg = _ := hvg _ (Ok.refl _)
            refine wpOp_runG (v := .pointer (some ⟨G, 0, none⟩)) rfl (wanted_yes rfl (by as_aux_lemma => kernel_rfl) eg) ?_ (fun _ _ => rfl) (Ok.refl _)
            clear hF
            go_simp
          · intro a' w' hF hR
            obtain ⟨v19, hv19, e279⟩ := hF.get 19 279 (by as_aux_lemma => kernel_rfl) (by as_aux_lemma => kernel_rfl)
            obtain rfl : v19 = _ := hv19 _ (Ok.refl _)
            obtain ⟨vg, hvg, eg⟩ := hF.get 16 276 (by as_aux_lemma => kernel_rfl) (by as_aux_lemma => kernel_rfl)
            obtain rfl : vg = _ := hvg _ (Ok.refl _)
            refine wpOp_runG (v := .pointer (some ⟨G, 12, none⟩)) rfl (wanted_yes rfl (by as_aux_lemma => kernel_rfl) eg) ?_ (fun _ _ => rfl) (Ok.refl _)
            clear hF
            go_simp
          · intro a' w' hF hR
            obtain ⟨v20, hv20, e280⟩ := hF.get 20 280 (by as_aux_lemma => kernel_rfl) (by as_aux_lemma => kernel_rfl)
            obtain rfl : v20 = _ := hv20 _ (Ok.refl _)
            obtain ⟨vg, hvg, eg⟩ := hF.get 16 276 (by as_aux_lemma => kernel_rfl) (by as_aux_lemma => kernel_rfl)
            obtain rfl : vg = _ := hvg _ (Ok.refl _)
            refine wpOp_runG (v := .pointer (some ⟨G, 14, none⟩)) rfl (wanted_yes rfl (by as_aux_lemma => kernel_rfl) eg) ?_ (fun _ _ => rfl) (Ok.refl _)
            clear hF
            go_simp
          · intro a' w' hF hR
            obtain ⟨v21, hv21, e281⟩ := hF.get 21 281 (by as_aux_lemma => kernel_rfl) (by as_aux_lemma => kernel_rfl)
            obtain rfl : v21 = _ := hv21 _ (Ok.refl _)
            obtain ⟨vg, hvg, eg⟩ := hF.get 16 276 (by as_aux_lemma => kernel_rfl) (by as_aux_lemma => kernel_rfl)
            obtain rfl : vg = _ := hvg _ (Ok.refl _)
            have g14 := HG14.out _ hR
            have hGl := (HG.out _ hR).lt
            refine wpOp_runG (v := .int .i64 tm) rfl (wanted_yes rfl (by as_aux_lemma => kernel_rfl) eg) ?_ (fun _ _ => rfl) (Ok.refl _)
            clear hF
            go_simp
          · intro a' w' hF hR
            have e22 : a'.tmps[22]? = some (.pointer (some ⟨X, 0, none⟩)) := hF.slot 22 (by as_aux_lemma => kernel_rfl) rfl
            obtain ⟨vg, hvg, eg⟩ := hF.get 16 276 (by as_aux_lemma => kernel_rfl) (by as_aux_lemma => kernel_rfl)
            obtain rfl : vg = _ := hvg _ (Ok.refl _)
            refine wpOp_runG (v := .pointer (some ⟨X, 1, none⟩)) rfl (wanted_yes rfl (by as_aux_lemma => kernel_rfl) eg) ?_ (fun _ _ => rfl) (Ok.refl _)
            clear hF
            go_simp
          · intro a' w' hF hR
            obtain ⟨v23, hv23, e283⟩ := hF.get 23 283 (by as_aux_lemma => kernel_rfl) (by as_aux_lemma => kernel_rfl)
            obtain rfl : v23 = _ := hv23 _ (Ok.refl _)
            obtain ⟨vg, hvg, eg⟩ := hF.get 16 276 (by as_aux_lemma => kernel_rfl) (by as_aux_lemma => kernel_rfl)
            obtain rfl : vg = _ := hvg _ (Ok.refl _)
            have s0 := (HX.out _ hR).cell 0 rfl
            have s1 := (HX.out _ hR).cell 1 rfl
            have hXl := (HX.out _ hR).lt
            refine wpOp_runG (v := .int .i64 hi) rfl (wanted_yes rfl (by as_aux_lemma => kernel_rfl) eg) ?_ (fun _ _ => rfl) (Ok.refl _)
            clear hF
            go_simp
          · intro a' w' hF hR
            obtain ⟨v22, hv22, e282⟩ := hF.get 22 282 (by as_aux_lemma => kernel_rfl) (by as_aux_lemma => kernel_rfl)
            obtain rfl : v22 = _ := hv22 _ (Ok.refl _)
            obtain ⟨v24, hv24, e284⟩ := hF.get 24 284 (by as_aux_lemma => kernel_rfl) (by as_aux_lemma => kernel_rfl)
            obtain rfl : v24 = _ := hv24 _ (Ok.refl _)
            obtain ⟨vg, hvg, eg⟩ := hF.get 16 276 (by as_aux_lemma => kernel_rfl) (by as_aux_lemma => kernel_rfl)
            obtain rfl : vg = _ := hvg _ (Ok.refl _)
            obtain ⟨k1, k2⟩ := HT.out
            refine wpOp_runG (v := .bool true) rfl (wanted_yes rfl (by as_aux_lemma => kernel_rfl) eg) ?_ (fun _ _ => rfl) (Ok.refl _)
            clear hF
            go_simp
          · intro a' w' hF hR
            obtain ⟨v16, hv16, e276⟩ := hF.get 16 276 (by as_aux_lemma => kernel_rfl) (by as_aux_lemma => kernel_rfl)
            obtain rfl : v16 = _ := hv16 _ (Ok.refl _)
            obtain ⟨v25, hv25, e285⟩ := hF.get 25 285 (by as_aux_lemma => kernel_rfl) (by as_aux_lemma => kernel_rfl)
            obtain rfl : v25 = _ := hv25 _ (Ok.refl _)
            obtain ⟨vg, hvg, eg⟩ := hF.get 6 266 (by as_aux_lemma => kernel_rfl) (by as_aux_lemma => kernel_rfl)
            obtain rfl : vg = _ := hvg _ (Ok.refl _)
            refine wpOp_runG (v := .bool true) rfl (wanted_yes rfl (by as_aux_lemma => kernel_rfl) eg) ?_ (fun _ _ => rfl) (Ok.refl _)
            clear hF
            go_simp
          · intro a' w' hF hR
            obtain ⟨v6, hv6, e266⟩ := hF.get 6 266 (by as_aux_lemma => kernel_rfl) (by as_aux_lemma => kernel_rfl)
            obtain rfl : v6 = _ := hv6 _ (Ok.refl _)
            obtain ⟨v26, hv26, e286⟩ := hF.get 26 286 (by as_aux_lemma => kernel_rfl) (by as_aux_lemma => kernel_rfl)
            obtain rfl : v26 = _ := hv26 _ (Ok.refl _)
            refine wpOp_run (v := .bool true) rfl rfl ?_ (fun _ _ => rfl) (Ok.refl _)
            clear hF
            go_simp
          · intro a' w' hF hR
            obtain ⟨v27, hv27, e287⟩ := hF.get 27 287 (by as_aux_lemma => kernel_rfl) (by as_aux_lemma => kernel_rfl)
            obtain rfl : v27 = _ := hv27 _ (Ok.refl _)
            refine wpOp_run (v := .bool true) rfl rfl ?_ (fun _ _ => rfl) (Ok.refl _)
            clear hF
            go_simp
          intro vs W8 hvs hR
          have e28 : vs 28 = .bool true := hvs 28 (by decide) _ (Ok.refl _)
          have hok4 := HOK.out.trans ((Ok.refl W7).drew.trans hR)
          simp only [putFrom, e28]
          simp only [Act.put, List.setIfInBounds_toArray, List.set_cons_zero, List.set_cons_succ]
          clear hvs
          go_wp2
          go_ret
          exact ⟨rfl, hok4⟩
        · have HZ := Lib.hid hz
          clear hz HY8
          refine wp_region_facts (by as_aux_lemma => kernel_rfl) 288 rfl (VCGN Bp H G X p s S0 A cap hs lo hi tm) Ok (by as_aux_lemma => kernel_rfl) (fun i v w w' h k w'' k' => h w'' (k.trans k')) (fun a b c => Ok.trans) (Ok.refl _) [some 260, some 261, some 262, some 263, some 264, some 265, some 266, some 267, some 268, some 269, some 270, some 271, some 272, some 273, some 274, some 275, some 276, some 277, some 278, some 279, some 280, some 281, some 282, some 283, some 284, some 285, some 286, some 287, some 12] rfl 29 rfl ⟨?_, ?_, ?_, ?_, ?_, ?_, ?_, ?_, ?_, ?_, ?_, ?_, ?_, ?_, ?_, ?_, ?_, ?_, ?_, ?_, ?_, ?_, ?_, ?_, ?_, ?_, ?_, ?_, ?_, trivial⟩ ?_
          · intro a' w' hF hR
            have e6 : a'.tmps[6]? = some (.pointer (some ⟨Bp, 0, none⟩)) := hF.slot 6 (by as_aux_lemma => kernel_rfl) rfl
            obtain ⟨c0, c1, c2, c3, c4, c5, c6, c7, c8, c9, c10, c11⟩ := (HP.out _ hR).pars
            have hPl := (HP.out _ hR).lt
            refine wpOp_run (v := parV p) rfl rfl ?_ (fun _ _ => rfl) (Ok.refl _)
            clear hF
            go_simp
          · intro a' w' hF hR
            have e6 : a'.tmps[6]? = some (.pointer (some ⟨Bp, 0, none⟩)) := hF.slot 6 (by as_aux_lemma => kernel_rfl) rfl
            obtain ⟨c0, c1, c2, c3, c4, c5, c6, c7, c8, c9, c10, c11⟩ := (HP.out _ hR).pars
            have hPl := (HP.out _ hR).lt
            refine wpOp_run (v := parV p) rfl rfl ?_ (fun _ _ => rfl) (Ok.refl _)
            clear hF
            go_simp
          · intro a' w' hF hR
            have e7 : a'.tmps[7]? = some (.pointer (some ⟨H, 0, none⟩)) := hF.slot 7 (by as_aux_lemma => kernel_rfl) rfl
            obtain ⟨s0, s1, s2, s3, s4, s5, s6, s7, s8, s9, s10⟩ := (HS2.out _ hR).sta
            have hsl := (HS2.out _ hR).lt
            refine wpOp_run (v := staV s A cap) rfl rfl ?_ (fun _ _ => rfl) (Ok.refl _)
            clear hF
            go_simp; rfl
          · intro a' w' hF hR
            obtain ⟨v1, hv1, e261⟩ := hF.get 1 261 (by as_aux_lemma => kernel_rfl) (by as_aux_lemma => kernel_rfl)
            obtain rfl : v1 = _ := hv1 _ (Ok.refl _)
            obtain ⟨v2, hv2, e262⟩ := hF.get 2 262 (by as_aux_lemma => kernel_rfl) (by as_aux_lemma => kernel_rfl)
            obtain rfl : v2 = _ := hv2 _ (Ok.refl _)
            clear hF
            refine wpOp_call (f := 23) (args := #[parV p, staV s A cap]) rfl rfl ?_ ((KSN.out _ (HAS2.out _ hR)).mono ?_)
            · go_simp
            · rintro e w2 ⟨A2, c2, rfl, hI2, hb2⟩; exact ⟨_, rfl, fun w3 k => ⟨A2, c2, rfl, hI2.1.below k⟩, hb2⟩
          · intro a' w' hF hR
            obtain ⟨v0, hv0, e260⟩ := hF.get 0 260 (by as_aux_lemma => kernel_rfl) (by as_aux_lemma => kernel_rfl)
            obtain rfl : v0 = _ := hv0 _ (Ok.refl _)
            obtain ⟨v3, hv3, e263⟩ := hF.get 3 263 (by as_aux_lemma => kernel_rfl) (by as_aux_lemma => kernel_rfl)
            obtain ⟨A3, c3, rfl, hp3⟩ := hv3 _ (Ok.refl _)
            clear hF
            refine wpOp_call (f := 22) (args := #[parV p, staV S0 A3 c3]) rfl rfl ?_ ((KSO.out _ _ _).mono ?_)
            · go_simp
            · rintro e w2 ⟨rfl, hb2⟩; exact ⟨_, rfl, fun _ _ => rfl, hb2⟩
          · intro a' w' hF hR
            obtain ⟨v4, hv4, e264⟩ := hF.get 4 264 (by as_aux_lemma => kernel_rfl) (by as_aux_lemma => kernel_rfl)
            obtain rfl : v4 = _ := hv4 _ (Ok.refl _)
            have hz := HZ.out
            refine wpOp_run (v := .bool true) rfl rfl ?_ (fun _ _ => rfl) (Ok.refl _)
            clear hF
            go_simp
          · intro a' w' hF hR
            obtain ⟨v5, hv5, e265⟩ := hF.get 5 265 (by as_aux_lemma => kernel_rfl) (by as_aux_lemma => kernel_rfl)
            obtain rfl : v5 = _ := hv5 _ (Ok.refl _)
            refine wpOp_run (v := .bool true) rfl rfl ?_ (fun _ _ => rfl) (Ok.refl _)
            clear hF
            go_simp
          · intro a' w' hF hR
            obtain ⟨vg, hvg, eg⟩ := hF.get 6 266 (by as_aux_lemma => kernel_rfl) (by as_aux_lemma => kernel_rfl)
            obtain rfl : vg = _ := hvg _ (Ok.refl _)
            exact wpOp_skip rfl (wanted_not rfl (by as_aux_lemma => kernel_rfl) eg (by simp)) (fun _ _ => rfl) (Ok.refl _)
          · intro a' w' hF hR
            obtain ⟨vg, hvg, eg⟩ := hF.get 6 266 (by as_aux_lemma => kernel_rfl) (by as_aux_lemma => kernel_rfl)
            obtain rfl : vg = _ := hvg _ (Ok.refl _)
            exact wpOp_skip rfl (wanted_not rfl (by as_aux_lemma => kernel_rfl) eg (by simp)) (fun _ _ => rfl) (Ok.refl _)
          · intro a' w' hF hR
            obtain ⟨vg, hvg, eg⟩ := hF.get 6 266 (by as_aux_lemma => kernel_rfl) (by as_aux_lemma => kernel_rfl)
            obtain rfl : vg = _ := hvg _ (Ok.refl _)
            exact wpOp_skip rfl (wanted_not rfl (by as_aux_lemma => kernel_rfl) eg (by simp)) (fun _ _ => rfl) (Ok.refl _)
          · intro a' w' hF hR
            obtain ⟨vg, hvg, eg⟩ := hF.get 6 266 (by as_aux_lemma => kernel_rfl) (by as_aux_lemma => kernel_rfl)
            obtain rfl : vg = _ := hvg _ (Ok.refl _)
            exact wpOp_skip rfl (wanted_not rfl (by as_aux_lemma => kernel_rfl) eg (by simp)) (fun _ _ => rfl) (Ok.refl _)
          · intro a' w' hF hR
            obtain ⟨vg, hvg, eg⟩ := hF.get 6 266 (by as_aux_lemma => kernel_rfl) (by as_aux_lemma => kernel_rfl)
            obtain rfl : vg = _ := hvg _ (Ok.refl _)
            exact wpOp_skip rfl (wanted_not rfl (by as_aux_lemma => kernel_rfl) eg (by simp)) (fun _ _ => rfl) (Ok.refl _)
          · intro a' w' hF hR
            obtain ⟨vg, hvg, eg⟩ := hF.get 6 266 (by as_aux_lemma => kernel_rfl) (by as_aux_lemma => kernel_rfl)
            obtain rfl : vg = _ := hvg _ (Ok.refl _)
            exact wpOp_skip rfl (wanted_not rfl (by as_aux_lemma => kernel_rfl) eg (by simp)) (fun _ _ => rfl) (Ok.refl _)
          · intro a' w' hF hR
            obtain ⟨vg, hvg, eg⟩ := hF.get 6 266 (by as_aux_lemma => kernel_rfl) (by as_aux_lemma => kernel_rfl)
            obtain rfl : vg = _ := hvg _ (Ok.refl _)
            exact wpOp_skip rfl (wanted_not rfl (by as_aux_lemma => kernel_rfl) eg (by simp)) (fun _ _ => rfl) (Ok.refl _)
          · intro a' w' hF hR
            obtain ⟨vg, hvg, eg⟩ := hF.get 6 266 (by as_aux_lemma => kernel_rfl) (by as_aux_lemma => kernel_rfl)
            obtain rfl : vg = _ := hvg _ (Ok.refl _)
            exact wpOp_skip rfl (wanted_not rfl (by as_aux_lemma => kernel_rfl) eg (by simp)) (fun _ _ => rfl) (Ok.refl _)
          · intro a' w' hF hR
            obtain ⟨vg, hvg, eg⟩ := hF.get 6 266 (by as_aux_lemma => kernel_rfl) (by as_aux_lemma => kernel_rfl)
            obtain rfl : vg = _ := hvg _ (Ok.refl _)
            exact wpOp_skip rfl (wanted_not rfl (by as_aux_lemma => kernel_rfl) eg (by simp)) (fun _ _ => rfl) (Ok.refl _)
          · intro a' w' hF hR
            obtain ⟨vg, hvg, eg⟩ := hF.get 6 266 (by as_aux_lemma => kernel_rfl) (by as_aux_lemma => kernel_rfl)
            obtain rfl : vg = _ := hvg _ (Ok.refl _)
            exact wpOp_skip rfl (wanted_not rfl (by as_aux_lemma => kernel_rfl) eg (by simp)) (fun _ _ => rfl) (Ok.refl _)
          · intro a' w' hF hR
            obtain ⟨vg, hvg, eg⟩ := hF.get 16 276 (by as_aux_lemma => kernel_rfl) (by as_aux_lemma => kernel_rfl)
            obtain rfl : vg = _ := hvg _ (Ok.refl _)
            exact wpOp_skip rfl (wanted_not rfl (by as_aux_lemma => kernel_rfl) eg (by simp [undef])) (fun _ _ => rfl) (Ok.refl _)
          · intro a' w' hF hR
            obtain ⟨vg, hvg, eg⟩ := hF.get 16 276 (by as_aux_lemma => kernel_rfl) (by as_aux_lemma => kernel_rfl)
            obtain rfl : vg = _ := hvg _ (Ok.refl _)
            exact wpOp_skip rfl (wanted_not rfl (by as_aux_lemma => kernel_rfl) eg (by simp [undef])) (fun _ _ => rfl) (Ok.refl _)
          · intro a' w' hF hR
            obtain ⟨vg, hvg, eg⟩ := hF.get 16 276 (by as_aux_lemma => kernel_rfl) (by as_aux_lemma => kernel_rfl)
            obtain rfl : vg = _ := hvg _ (Ok.refl _)
            exact wpOp_skip rfl (wanted_not rfl (by as_aux_lemma => kernel_rfl) eg (by simp [undef])) (fun _ _ => rfl) (Ok.refl _)
          · intro a' w' hF hR
            obtain ⟨vg, hvg, eg⟩ := hF.get 16 276 (by as_aux_lemma => kernel_rfl) (by as_aux_lemma => kernel_rfl)
            obtain rfl : vg = _ := hvg _ (Ok.refl _)
            exact wpOp_skip rfl (wanted_not rfl (by as_aux_lemma => kernel_rfl) eg (by simp [undef])) (fun _ _ => rfl) (Ok.refl _)
          · intro a' w' hF hR
            obtain ⟨vg, hvg, eg⟩ := hF.get 16 276 (by as_aux_lemma => kernel_rfl) (by as_aux_lemma => kernel_rfl)
            obtain rfl : vg = _ := hvg _ (Ok.refl _)
            exact wpOp_skip rfl (wanted_not rfl (by as_aux_lemma => kernel_rfl) eg (by simp [undef])) (fun _ _ => rfl) (Ok.refl _)
          · intro a' w' hF hR
            obtain ⟨vg, hvg, eg⟩ := hF.get 16 276 (by as_aux_lemma => kernel_rfl) (by as_aux_lemma => kernel_rfl)
            obtain rfl : vg = _ := hvg _ (Ok.refl _)
            exact wpOp_skip rfl (wanted_not rfl (by as_aux_lemma => kernel_rfl) eg (by simp [undef])) (fun _ _ => rfl) (Ok.refl _)
          · intro a' w' hF hR
            obtain ⟨vg, hvg, eg⟩ := hF.get 16 276 (by as_aux_lemma => kernel_rfl) (by as_aux_lemma => kernel_rfl)
            obtain rfl : vg = _ := hvg _ (Ok.refl _)
            exact wpOp_skip rfl (wanted_not rfl (by as_aux_lemma => kernel_rfl) eg (by simp [undef])) (fun _ _ => rfl) (Ok.refl _)
          · intro a' w' hF hR
            obtain ⟨vg, hvg, eg⟩ := hF.get 16 276 (by as_aux_lemma => kernel_rfl) (by as_aux_lemma => kernel_rfl)
            obtain rfl : vg = _ := hvg _ (Ok.refl _)
            exact wpOp_skip rfl (wanted_not rfl (by as_aux_lemma => kernel_rfl) eg (by simp [undef])) (fun _ _ => rfl) (Ok.refl _)
          · intro a' w' hF hR
            obtain ⟨vg, hvg, eg⟩ := hF.get 16 276 (by as_aux_lemma => kernel_rfl) (by as_aux_lemma => kernel_rfl)
            obtain rfl : vg = _ := hvg _ (Ok.refl _)
            exact wpOp_skip rfl (wanted_not rfl (by as_aux_lemma => kernel_rfl) eg (by simp [undef])) (fun _ _ => rfl) (Ok.refl _)
          · intro a' w' hF hR
            obtain ⟨vg, hvg, eg⟩ := hF.get 6 266 (by as_aux_lemma => kernel_rfl) (by as_aux_lemma => kernel_rfl)
            obtain rfl : vg = _ := hvg _ (Ok.refl _)
            exact wpOp_skip rfl (wanted_not rfl (by as_aux_lemma => kernel_rfl) eg (by simp)) (fun _ _ => rfl) (Ok.refl _)
          · intro a' w' hF hR
            obtain ⟨v6, hv6, e266⟩ := hF.get 6 266 (by as_aux_lemma => kernel_rfl) (by as_aux_lemma => kernel_rfl)
            obtain rfl : v6 = _ := hv6 _ (Ok.refl _)
            obtain ⟨v26, hv26, e286⟩ := hF.get 26 286 (by as_aux_lemma => kernel_rfl) (by as_aux_lemma => kernel_rfl)
            obtain rfl : v26 = _ := hv26 _ (Ok.refl _)
            refine wpOp_run (v := .bool true) rfl rfl ?_ (fun _ _ => rfl) (Ok.refl _)
            clear hF
            go_simp
          · intro a' w' hF hR
            obtain ⟨v27, hv27, e287⟩ := hF.get 27 287 (by as_aux_lemma => kernel_rfl) (by as_aux_lemma => kernel_rfl)
            obtain rfl : v27 = _ := hv27 _ (Ok.refl _)
            refine wpOp_run (v := .bool true) rfl rfl ?_ (fun _ _ => rfl) (Ok.refl _)
            clear hF
            go_simp
          intro vs W8 hvs hR
          have e28 : vs 28 = .bool true := hvs 28 (by decide) _ (Ok.refl _)
          have hok4 := HOK.out.trans ((Ok.refl W7).drew.trans hR)
          simp only [putFrom, e28]
          simp only [Act.put, List.setIfInBounds_toArray, List.set_cons_zero, List.set_cons_succ]
          clear hvs
          go_wp2
          go_ret
          exact ⟨rfl, hok4⟩
end Go.Proofs.YtmmiboblofopgaaGreat.gateHolds
