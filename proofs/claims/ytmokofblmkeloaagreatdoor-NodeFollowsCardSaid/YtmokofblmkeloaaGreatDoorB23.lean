/- Contracts of layer 21: the Front's Step. -/
import Derived.Test.YtmokofblmkeloaaGreatDoorB19
import Derived.Test.YtmokofblmkeloaaGreatDoorB21
import Derived.Test.YtmokofblmkeloaaGreatDoorP24
import Derived.Test.YtmokofblmkeloaaGreatDoorP38
namespace Go.Proofs.YtmokofblmkeloaaGreatDoor
open Go.RowKit
set_option linter.unusedVariables false
set_option maxRecDepth 100000
attribute [local go_sem ↓] Go.wp_at_zero Go.wp_at_succ
theorem own_ne {w : World} {g h : Nat} {cs ds : Array Value} (hg : Own w g cs) (hh : Own w h ds) (e : cs ≠ ds) : g ≠ h := by
  rintro rfl
  obtain ⟨a, h1⟩ := hg
  obtain ⟨b, h2⟩ := hh
  rw [h1] at h2
  injection h2 with h2
  injection h2 with h2
  exact e h2
/-- The Front's state is stored over. -/
theorem own_setF {R : List Value} {w : World} {G : Nat} {p : Par} {s : Sta} {A : Option Addr} {cap : Nat} (h : Own w G (frontCellsR R p s A cap)) (t : Sta) (A2 : Option Addr) (c2 : Nat) : Own (((((((((((w.setCell ⟨G, 12, none⟩ (.int .i64 t.lo)).setCell ⟨G, 13, none⟩ (.int .i64 t.hi)).setCell ⟨G, 14, none⟩ (.int .i64 t.time)).setCell ⟨G, 15, none⟩ (.bool t.set)).setCell ⟨G, 16, none⟩ (.int .i64 t.held)).setCell ⟨G, 17, none⟩ (.int .i64 t.hops)).setCell ⟨G, 18, none⟩ (.bool t.good)).setCell ⟨G, 19, none⟩ (.slice A2 t.table.length c2)).setCell ⟨G, 20, none⟩ (.int .i64 t.st)).setCell ⟨G, 21, none⟩ (.int .i64 t.sn)).setCell ⟨G, 22, none⟩ (.int .i64 t.life)) G (frontCellsR R p t A2 c2) :=
  (((((((((((h.set 12 (.int .i64 t.lo)).set 13 (.int .i64 t.hi)).set 14 (.int .i64 t.time)).set 15 (.bool t.set)).set 16 (.int .i64 t.held)).set 17 (.int .i64 t.hops)).set 18 (.bool t.good)).set 19 (.slice A2 t.table.length c2)).set 20 (.int .i64 t.st)).set 21 (.int .i64 t.sn)).set 22 (.int .i64 t.life)).as (by simp [frontCellsR])
theorem only_setF {w0 w : World} {G : Nat} (h : Only G w0 w) (t : Sta) (A2 : Option Addr) (c2 : Nat) : Only G w0 (((((((((((w.setCell ⟨G, 12, none⟩ (.int .i64 t.lo)).setCell ⟨G, 13, none⟩ (.int .i64 t.hi)).setCell ⟨G, 14, none⟩ (.int .i64 t.time)).setCell ⟨G, 15, none⟩ (.bool t.set)).setCell ⟨G, 16, none⟩ (.int .i64 t.held)).setCell ⟨G, 17, none⟩ (.int .i64 t.hops)).setCell ⟨G, 18, none⟩ (.bool t.good)).setCell ⟨G, 19, none⟩ (.slice A2 t.table.length c2)).setCell ⟨G, 20, none⟩ (.int .i64 t.st)).setCell ⟨G, 21, none⟩ (.int .i64 t.sn)).setCell ⟨G, 22, none⟩ (.int .i64 t.life)) :=
  (((((((((((h.setR 12 (.int .i64 t.lo)).setR 13 (.int .i64 t.hi)).setR 14 (.int .i64 t.time)).setR 15 (.bool t.set)).setR 16 (.int .i64 t.held)).setR 17 (.int .i64 t.hops)).setR 18 (.bool t.good)).setR 19 (.slice A2 t.table.length c2)).setR 20 (.int .i64 t.st)).setR 21 (.int .i64 t.sn)).setR 22 (.int .i64 t.life))
/-- Of the blocks that were there only G may have changed, and there only the cell k, to x. -/
structure Turn (G k : Nat) (x : Value) (w w' : World) : Prop where
  only : Only G w w'
  own : ∀ cs, Own w G cs → Own w' G cs ∨ Own w' G (cs.set! k x)
theorem set_twice21 (cs : Array Value) (k : Nat) (x : Value) : (cs.set! k x).set! k x = cs.set! k x := by
  apply Array.ext_getElem?
  intro i
  simp only [Array.set!_eq_setIfInBounds, Array.getElem?_setIfInBounds, Array.size_setIfInBounds]
  by_cases h : k = i
  · simp [h]
  · simp [h]
namespace Turn
variable {G k : Nat} {x : Value} {w w1 w2 : World}
theorem refl (w : World) : Turn G k x w w := ⟨Only.refl G w, fun _ h => .inl h⟩
theorem trans (h : Turn G k x w w1) (j : Turn G k x w1 w2) : Turn G k x w w2 := ⟨h.only.trans j.only, fun cs c => by
  rcases h.own cs c with c | c
  · exact j.own cs c
  · rcases j.own _ c with c | c
    · exact .inr c
    · rw [set_twice21] at c; exact .inr c⟩
theorem set (w : World) : Turn G k x w (w.setCell ⟨G, k, none⟩ x) := ⟨(Only.refl G w).setR k x, fun _ h => .inr (h.set k x)⟩
theorem kept (h : Turn G k x w w1) {cs : Array Value} (c : Own w G (cs.set! k x)) : Own w1 G (cs.set! k x) := by
  rcases h.own _ c with c | c
  · exact c
  · rw [set_twice21] at c; exact c
end Turn
theorem frozenF {W : World} {g : Nat} {cs : Array Value} (h : Own W g cs) : W.frozen? ⟨g, 12, none⟩ = false ∧ W.frozen? ⟨g, 13, none⟩ = false ∧ W.frozen? ⟨g, 14, none⟩ = false ∧ W.frozen? ⟨g, 15, none⟩ = false ∧ W.frozen? ⟨g, 16, none⟩ = false ∧ W.frozen? ⟨g, 17, none⟩ = false ∧ W.frozen? ⟨g, 18, none⟩ = false ∧ W.frozen? ⟨g, 19, none⟩ = false ∧ W.frozen? ⟨g, 20, none⟩ = false ∧ W.frozen? ⟨g, 21, none⟩ = false ∧ W.frozen? ⟨g, 22, none⟩ = false := ⟨h.frozen 12, h.frozen 13, h.frozen 14, h.frozen 15, h.frozen 16, h.frozen 17, h.frozen 18, h.frozen 19, h.frozen 20, h.frozen 21, h.frozen 22⟩
/-- What each operation leaves. -/
def VMStpB (G H N0 : Nat) (s u : Sta) (A C : Option Addr) (cap cup : Nat) (ticks CK : Int) (w : World) (v : Value) : Nat → Prop
  | 0 => v = .pointer (some ⟨G, 0, none⟩)
  | 1 => v = .pointer (some ⟨G, 0, none⟩)
  | 2 => v = .pointer (some ⟨G, 12, none⟩)
  | 3 => v = .agg #[.int .i64 s.lo, .int .i64 s.hi, .int .i64 s.time, .bool s.set, .int .i64 s.held, .int .i64 s.hops, .bool s.good, .slice A s.table.length cap, .int .i64 s.st, .int .i64 s.sn, .int .i64 s.life]
  | 4 => v = .pointer (some ⟨G, 0, none⟩)
  | 5 => v = .int .i64 ticks
  | 6 => v = .agg #[.int .i64 u.lo, .int .i64 u.hi, .int .i64 u.time, .bool u.set, .int .i64 u.held, .int .i64 u.hops, .bool u.good, .slice C u.table.length cup, .int .i64 u.st, .int .i64 u.sn, .int .i64 u.life]
  | 7 => v = clockV CK true
  | 8 => v = .pointer (some ⟨G, 0, none⟩)
  | 9 => v = .agg #[.int .i64 s.st, .int .i64 s.sn]
  | 10 => ∃ g : Nat, v = .pointer (some ⟨g, 0, none⟩) ∧ Own w g #[.int .i64 0, .int .i64 0, .int .i64 0, .bool false, .int .i64 0, .int .i64 0, .bool false, .slice none 0 0, .int .i64 0, .int .i64 0, .int .i64 0] ∧ N0 ≤ g
  | 11 => ∃ g : Nat, v = .pointer (some ⟨g, 0, none⟩) ∧ Own w g #[.int .i64 0, .bool false] ∧ N0 ≤ g
  | 12 => ∃ g : Nat, v = .pointer (some ⟨g, 0, none⟩) ∧ Own w g #[.int .i64 0, .int .i64 0] ∧ N0 ≤ g
  | _ => v = .bool true
/-- It stays so. -/
def VCStpB (G H N0 : Nat) (s u : Sta) (A C : Option Addr) (cap cup : Nat) (ticks CK : Int) (i : Nat) (v : Value) (w : World) : Prop := ∀ w', Ok w w' → VMStpB G H N0 s u A C cap cup ticks CK w' v i
/-- What each operation leaves. -/
def VMStpC (G H N1 : Nat) (p : Par) (u t : Sta) (C : Option Addr) (cup : Nat) (w : World) (v : Value) : Nat → Prop
  | 0 => v = .pointer (some ⟨G, 0, none⟩)
  | 1 => v = .pointer (some ⟨G, 0, none⟩)
  | 2 => v = .pointer (some ⟨G, 0, none⟩)
  | 3 => v = .pointer (some ⟨G, 0, none⟩)
  | 4 => v = parV p
  | 5 => v = .agg #[.int .i64 u.lo, .int .i64 u.hi, .int .i64 u.time, .bool u.set, .int .i64 u.held, .int .i64 u.hops, .bool u.good, .slice C u.table.length cup, .int .i64 u.st, .int .i64 u.sn, .int .i64 u.life]
  | 6 => ∃ A c, v = staV (t) A c ∧ TabRow N1 w A c (t).table
  | 7 => v = .pointer (some ⟨G, 0, none⟩)
  | 8 => v = .pointer (some ⟨G, 12, none⟩)
  | _ => v = .bool true
/-- It stays so. -/
def VCStpC (G H N1 : Nat) (p : Par) (u t : Sta) (C : Option Addr) (cup : Nat) (i : Nat) (v : Value) (w : World) : Prop := ∀ w', Ok w w' → VMStpC G H N1 p u t C cup w' v i
/-- What each operation leaves. -/
def VMStpD (R : List Value) (G gn : Nat) (CK : Int) (p : Par) (t : Sta) (A2 : Option Addr) (c2 : Nat) (w : World) (v : Value) : Nat → Prop
  | 0 => v = .pointer (some ⟨G, 0, none⟩)
  | 1 => v = .pointer (some ⟨G, 0, none⟩)
  | 2 => v = .pointer (some ⟨gn, 0, none⟩)
  | 3 => v = .int .i64 CK
  | 4 => v = .pointer (some ⟨gn, 1, none⟩)
  | 5 => v = .bool true
  | 6 => v = .pointer (some ⟨G, 0, none⟩)
  | 7 => v = .pointer (some ⟨G, 12, none⟩)
  | 8 => v = .pointer (some ⟨G, 14, none⟩)
  | 9 => Own w G ((frontCellsR R p t A2 c2).set! 14 (.int .i64 CK))
  | _ => v = .bool true
/-- It stays so. -/
def VCStpD (R : List Value) (G gn : Nat) (CK : Int) (p : Par) (t : Sta) (A2 : Option Addr) (c2 : Nat) (i : Nat) (v : Value) (w : World) : Prop := ∀ w', (Turn G 14 (.int .i64 CK)) w w' → VMStpD R G gn CK p t A2 c2 w' v i
/-- What each operation leaves. -/
def VMStpE (G gs gn gm N2 : Nat) (p : Par) (s : Sta) (CK m t1 t2 : Int) (fr : Bool) (w : World) (v : Value) : Nat → Prop
  | 0 => v = .agg #[.int .i64 s.st, .int .i64 s.sn]
  | 1 => v = .pointer (some ⟨gn, 0, none⟩)
  | 2 => v = .int .i64 CK
  | 3 => v = .pointer (some ⟨G, 0, none⟩)
  | 4 => v = .int .i64 m
  | 5 => v = .tuple #[.agg #[.int .i64 t1, .int .i64 t2], .bool fr]
  | 6 => v = .tuple #[.agg #[.int .i64 t1, .int .i64 t2], .bool fr]
  | 7 => v = .agg #[.int .i64 t1, .int .i64 t2]
  | 8 => v = .bool fr
  | 9 => ∃ g : Nat, v = .pointer (some ⟨g, 0, none⟩) ∧ Own w g #[.int .i64 0, .int .i64 0] ∧ N2 ≤ g
  | _ => v = .bool true
/-- It stays so. -/
def VCStpE (G gs gn gm N2 : Nat) (p : Par) (s : Sta) (CK m t1 t2 : Int) (fr : Bool) (i : Nat) (v : Value) (w : World) : Prop := ∀ w', Ok w w' → VMStpE G gs gn gm N2 p s CK m t1 t2 fr w' v i
set_option maxHeartbeats 12800000 in
theorem frontStep (R : List Value) (G : Nat) (p : Par) (s : Sta) (A : Option Addr) (cap : Nat) (ticks : Int) (u : Sta) (C : Option Addr) (cup : Nat) (w : World) (hO : Own w G (frontCellsR R p s A cap)) (hC : PairsAt w C u.table) (hl : u.table.length ≤ 9223372036854775807) :
    Calls Tryz.prog 32 #[.pointer (some ⟨G, 0, none⟩), .int .i64 ticks, staV u C cup] w fun e w' => e = .returned (.tuple #[]) ∧ ∃ (A2 : Option Addr) (c2 : Nat), Own w' G (frontCellsR R p (Health.step p s ticks u) A2 c2) ∧ TabRow w.heap.size w' A2 c2 (Health.step p s ticks u).table ∧ Only G w w' := by
  obtain ⟨t, ht⟩ : ∃ r, Health.sane p u = r := ⟨_, rfl⟩
  obtain ⟨CK, hck⟩ : ∃ r, Health.clock p s ticks u = r := ⟨_, rfl⟩
  obtain ⟨LF, hLF⟩ : ∃ r, Health.life s.life = r := ⟨_, rfl⟩
  obtain ⟨L, hL⟩ : ∃ L : Sta, ({ t with time := CK, set := true, life := LF } : Sta) = L := ⟨_, rfl⟩
  have hled : Health.led p s ticks u = L := by
    unfold Health.led
    rw [hck, ht, ← hL, ← hLF]
  obtain ⟨m, hm⟩ : ∃ r, Health.most p L = r := ⟨_, rfl⟩
  obtain ⟨fr, hfr⟩ : ∃ r, decide (¬ (Hlc.right (s.st, s.sn) = true ∧ (s.st, s.sn).1 ≤ m)) = r := ⟨_, rfl⟩
  obtain ⟨⟨t1, t2⟩, htt⟩ : ∃ r, (if Hlc.right (s.st, s.sn) = true ∧ (s.st, s.sn).1 ≤ m then (s.st, s.sn) else (Sat.clip CK, 0)) = r := ⟨_, rfl⟩
  obtain ⟨⟨k1, k2⟩, hkk⟩ : ∃ r, Hlc.tick (t1, t2) CK = r := ⟨_, rfl⟩
  obtain ⟨l1, hl1⟩ : ∃ r, Sat.sum [LF, 1] = r := ⟨_, rfl⟩
  obtain ⟨l2, hl2⟩ : ∃ r, Health.life l1 = r := ⟨_, rfl⟩
  obtain ⟨LV, hLV⟩ : ∃ r, (if fr = true ∨ CK < s.time then l2 else LF) = r := ⟨_, rfl⟩
  obtain ⟨Y, hY⟩ : ∃ Y : Sta, ({ L with st := k1, sn := k2, life := LV } : Sta) = Y := ⟨_, rfl⟩
  obtain ⟨M1, hM1⟩ : ∃ M : Sta, ({ t with time := CK, set := true } : Sta) = M := ⟨_, rfl⟩
  obtain ⟨M2, hM2⟩ : ∃ M : Sta, ({ M1 with st := k1, sn := k2 } : Sta) = M := ⟨_, rfl⟩
  obtain ⟨M3, hM3⟩ : ∃ M : Sta, ({ M2 with life := LF } : Sta) = M := ⟨_, rfl⟩
  obtain ⟨g2, hg2⟩ : ∃ r, (fr || decide (CK < s.time)) = r := ⟨_, rfl⟩
  have hLV2 : (if g2 = true then l2 else LF) = LV := by rw [← hLV, ← hg2]; cases fr <;> simp
  have hY2 : ({ M3 with life := LV } : Sta) = Y := by rw [← hM3, ← hM2, ← hM1, ← hY, ← hL]
  have hYt : Y.table = t.table := by rw [← hY, ← hL]
  have hM1t : M1.table = t.table := by rw [← hM1]
  have hM2t : M2.table = t.table := by rw [← hM2, ← hM1]
  have hM3t : M3.table = t.table := by rw [← hM3, ← hM2, ← hM1]
  have hm1 : Health.most p M1 = m := by rw [← hm, ← hL, ← hM1]; rfl
  have han : Health.anew m (s.st, s.sn) = fr := by
    unfold Health.anew
    rw [← hfr]
    cases Hlc.right (s.st, s.sn) <;> simp
  have htt2 : (if fr = true then (Sat.clip CK, 0) else (s.st, s.sn)) = (t1, t2) := by
    rw [← htt, ← hfr]
    by_cases h : Hlc.right (s.st, s.sn) = true ∧ (s.st, s.sn).1 ≤ m
    · rw [if_pos h, if_neg (by simpa using h)]
    · rw [if_neg h, if_pos (decide_eq_true h)]
  have hst : Health.step p s ticks u = Y := by
    unfold Health.step Health.mark Health.lives
    rw [hled, hck, hm, han, htt2, hkk, hLF, hl1, hl2, hLV, ← hY]
  rw [hst]
  have KW := Lib.hid fun w h => frontFollow R G p s A cap ticks u C cup w h
  rw [hck] at KW
  have KS := Lib.hid fun w h => frontStamps R G p s A cap w h
  have KN := Lib.hid fun w h => healthSane p u C cup w h hl
  rw [ht] at KN
  have KO := Lib.hid fun A cap w h => frontLatest R G p M1 A cap w h
  rw [hm1] at KO
  have KE := Lib.hid fun w => hlcMend (s.st, s.sn) CK m w
  rw [htt, hfr] at KE
  have KT := Lib.hid fun w => hlcTick (t1, t2) CK w
  rw [hkk] at KT
  have KB := Lib.hid fun w => healthLives s.life w
  rw [hLF] at KB
  have KA := Lib.hid fun w A h => satAdd A [LF, 1] 2 w h (by simp)
  rw [hl1] at KA
  have KB2 := Lib.hid fun w => healthLives l1 w
  rw [hl2] at KB2
  have HG2 := Lib.hid hg2
  have HLV2 := Lib.hid hLV2
  have HY2 := Lib.hid hY2
  have HYT := Lib.hid hYt
  have HM1 := Lib.hid hM1
  have HM2 := Lib.hid hM2
  have HM3 := Lib.hid hM3
  have HCU := Lib.hid hC
  clear hC hl hst htt2 han hm1 hM3t hM2t hM1t hYt hY2 hLV2 hg2 hM3 hM2 hM1 hY hLV hl2 hl1 hkk htt hfr hm hled hL hLF hck ht
  have hH0 := Own.new w (staCells u C cup) 30 rfl
  have hok := (Ok.refl w).alloc (.cells (staCells u C cup) 30)
  have hQ0 := hO.alloc (.cells (staCells u C cup) 30)
  clear hO
  go_enter Tryz.func32, Tryz.ntmps32
  go_upto_region 1 with fail
  change Code.wp _ _ _ _ (w.alloc (.cells (staCells u C cup) 30))
  generalize w.alloc (.cells (staCells u C cup) 30) = W at hH0 hQ0 hok ⊢
  obtain ⟨H, hHe⟩ : ∃ r, w.heap.size = r := ⟨_, rfl⟩
  rw [hHe] at hH0 ⊢
  clear hHe
  go_upto_region 2 with fail
  obtain ⟨N0, hN0⟩ : ∃ r, W.drew.heap.size = r := ⟨_, rfl⟩
  have HN := Lib.hid hN0
  have HN0 : Hid (w.heap.size ≤ N0) := Lib.hid (by have := hok.drew.size; omega)
  have HGN : Hid (G < N0) := Lib.hid (by have := hQ0.drew.lt; omega)
  have HHN : Hid (H < N0) := Lib.hid (by have := hH0.drew.lt; omega)
  have HOK := Lib.hid hok
  have HQ := Lib.hid fun W' (k : Ok W.drew W') => hQ0.drew.next k
  have HH := Lib.hid fun W' (k : Ok W.drew W') => hH0.drew.next k
  clear hQ0 hH0 hok hN0
  refine wp_region_facts_chain (by kernel_rfl) 3 89 rfl (VCStpB G H N0 s u A C cap cup ticks CK) Ok _ 13 rfl rfl (by decide) (by kernel_rfl) (by kernel_rfl) (by kernel_rfl) (by kernel_rfl) (fun i v w w' h k w'' k' => h w'' (k.trans k')) (fun a b c => Ok.trans) (Ok.refl _) [some 13, some 14, some 15, some 16, some 17, some 18, some 19, some 20, some 21, some 22, some 6, some 7, some 8] rfl _ rfl ⟨?_, ?_, ?_, ?_, ?_, ?_, ?_, ?_, ?_, ?_, ?_, ?_, ?_, trivial⟩ ?_
  · intro a' w' hF hR
    have e0 : a'.tmps[0]? = some (.pointer (some ⟨G, 0, none⟩)) := hF.slot 0 (by kernel_rfl) rfl
    refine wpOp_run (v := .pointer (some ⟨G, 0, none⟩)) rfl rfl ?_ (fun _ _ => rfl) (Ok.refl _)
    clear hF
    go_simp
  · intro a' w' hF hR
    obtain ⟨v0, hv0, e13⟩ := hF.get 0 13 (by kernel_rfl) (by kernel_rfl)
    obtain rfl : v0 = _ := hv0 _ (Ok.refl _)
    refine wpOp_run (v := .pointer (some ⟨G, 0, none⟩)) rfl rfl ?_ (fun _ _ => rfl) (Ok.refl _)
    clear hF
    go_simp
  · intro a' w' hF hR
    obtain ⟨v1, hv1, e14⟩ := hF.get 1 14 (by kernel_rfl) (by kernel_rfl)
    obtain rfl : v1 = _ := hv1 _ (Ok.refl _)
    refine wpOp_run (v := .pointer (some ⟨G, 12, none⟩)) rfl rfl ?_ (fun _ _ => rfl) (Ok.refl _)
    clear hF
    go_simp
  · intro a' w' hF hR
    obtain ⟨v2, hv2, e15⟩ := hF.get 2 15 (by kernel_rfl) (by kernel_rfl)
    obtain rfl : v2 = _ := hv2 _ (Ok.refl _)
    obtain ⟨s0, s1, s2, s3, s4, s5, s6, s7, s8, s9, s10⟩ := (HQ.out _ hR).frS
    have hgl := (HQ.out _ hR).lt
    refine wpOp_run (v := .agg #[.int .i64 s.lo, .int .i64 s.hi, .int .i64 s.time, .bool s.set, .int .i64 s.held, .int .i64 s.hops, .bool s.good, .slice A s.table.length cap, .int .i64 s.st, .int .i64 s.sn, .int .i64 s.life]) rfl rfl ?_ (fun _ _ => rfl) (Ok.refl _)
    clear hF
    go_simp
  · intro a' w' hF hR
    have e0 : a'.tmps[0]? = some (.pointer (some ⟨G, 0, none⟩)) := hF.slot 0 (by kernel_rfl) rfl
    refine wpOp_run (v := .pointer (some ⟨G, 0, none⟩)) rfl rfl ?_ (fun _ _ => rfl) (Ok.refl _)
    clear hF
    go_simp
  · intro a' w' hF hR
    have e1 : a'.tmps[1]? = some (.int .i64 ticks) := hF.slot 1 (by kernel_rfl) rfl
    refine wpOp_run (v := .int .i64 ticks) rfl rfl ?_ (fun _ _ => rfl) (Ok.refl _)
    clear hF
    go_simp
  · intro a' w' hF hR
    have e5 : a'.tmps[5]? = some (.pointer (some ⟨H, 0, none⟩)) := hF.slot 5 (by kernel_rfl) rfl
    obtain ⟨n0, n1, n2, n3, n4, n5, n6, n7, n8, n9, n10⟩ := (HH.out _ hR).sta
    have hnl := (HH.out _ hR).lt
    refine wpOp_run (v := .agg #[.int .i64 u.lo, .int .i64 u.hi, .int .i64 u.time, .bool u.set, .int .i64 u.held, .int .i64 u.hops, .bool u.good, .slice C u.table.length cup, .int .i64 u.st, .int .i64 u.sn, .int .i64 u.life]) rfl rfl ?_ (fun _ _ => rfl) (Ok.refl _)
    clear hF
    go_simp
  · intro a' w' hF hR
    obtain ⟨v4, hv4, e17⟩ := hF.get 4 17 (by kernel_rfl) (by kernel_rfl)
    obtain rfl : v4 = _ := hv4 _ (Ok.refl _)
    obtain ⟨v5, hv5, e18⟩ := hF.get 5 18 (by kernel_rfl) (by kernel_rfl)
    obtain rfl : v5 = _ := hv5 _ (Ok.refl _)
    obtain ⟨v6, hv6, e19⟩ := hF.get 6 19 (by kernel_rfl) (by kernel_rfl)
    obtain rfl : v6 = _ := hv6 _ (Ok.refl _)
    clear hF
    refine wpOp_call (f := 72) (args := #[.pointer (some ⟨G, 0, none⟩), .int .i64 ticks, .agg #[.int .i64 u.lo, .int .i64 u.hi, .int .i64 u.time, .bool u.set, .int .i64 u.held, .int .i64 u.hops, .bool u.good, .slice C u.table.length cup, .int .i64 u.st, .int .i64 u.sn, .int .i64 u.life]]) rfl rfl ?_ ((KW.out _ (HQ.out _ hR)).mono ?_)
    · go_simp
    · rintro e w2 ⟨rfl, hb2⟩; exact ⟨_, rfl, fun _ _ => rfl, hb2⟩
  · intro a' w' hF hR
    have e0 : a'.tmps[0]? = some (.pointer (some ⟨G, 0, none⟩)) := hF.slot 0 (by kernel_rfl) rfl
    refine wpOp_run (v := .pointer (some ⟨G, 0, none⟩)) rfl rfl ?_ (fun _ _ => rfl) (Ok.refl _)
    clear hF
    go_simp
  · intro a' w' hF hR
    obtain ⟨v8, hv8, e21⟩ := hF.get 8 21 (by kernel_rfl) (by kernel_rfl)
    obtain rfl : v8 = _ := hv8 _ (Ok.refl _)
    clear hF
    refine wpOp_call (f := 73) (args := #[.pointer (some ⟨G, 0, none⟩)]) rfl rfl ?_ ((KS.out _ (HQ.out _ hR)).mono ?_)
    · go_simp
    · rintro e w2 ⟨rfl, hb2⟩; exact ⟨_, rfl, fun _ _ => rfl, hb2⟩
  · intro a' w' hF hR
    have hzero : Sem.run Tryz.prog (zeroValue 30) w' = .ok (.agg #[.int .i64 0, .int .i64 0, .int .i64 0, .bool false, .int .i64 0, .int .i64 0, .bool false, .slice none 0 0, .int .i64 0, .int .i64 0, .int .i64 0]) w' := by kernel_rfl
    refine wpOp_run (v := .pointer (some ⟨w'.heap.size, 0, none⟩)) (w' := w'.alloc (.cells #[.int .i64 0, .int .i64 0, .int .i64 0, .bool false, .int .i64 0, .int .i64 0, .bool false, .slice none 0 0, .int .i64 0, .int .i64 0, .int .i64 0] 30)) rfl rfl ?_ (fun w'' k => ⟨_, rfl, (Own.new _ _ _ rfl).next k, (HN.out ▸ hR.size)⟩) ((Ok.refl _).alloc _)
    clear hF
    go_simp
  · intro a' w' hF hR
    have hzero : Sem.run Tryz.prog (zeroValue 123) w' = .ok (.agg #[.int .i64 0, .bool false]) w' := by kernel_rfl
    refine wpOp_run (v := .pointer (some ⟨w'.heap.size, 0, none⟩)) (w' := w'.alloc (.cells #[.int .i64 0, .bool false] 123)) rfl rfl ?_ (fun w'' k => ⟨_, rfl, (Own.new _ _ _ rfl).next k, (HN.out ▸ hR.size)⟩) ((Ok.refl _).alloc _)
    clear hF
    go_simp
  · intro a' w' hF hR
    have hzero : Sem.run Tryz.prog (zeroValue 126) w' = .ok (.agg #[.int .i64 0, .int .i64 0]) w' := by kernel_rfl
    refine wpOp_run (v := .pointer (some ⟨w'.heap.size, 0, none⟩)) (w' := w'.alloc (.cells #[.int .i64 0, .int .i64 0] 126)) rfl rfl ?_ (fun w'' k => ⟨_, rfl, (Own.new _ _ _ rfl).next k, (HN.out ▸ hR.size)⟩) ((Ok.refl _).alloc _)
    clear hF
    go_simp
  intro vs W' hvs hR
  have e3 : vs 3 = .agg #[.int .i64 s.lo, .int .i64 s.hi, .int .i64 s.time, .bool s.set, .int .i64 s.held, .int .i64 s.hops, .bool s.good, .slice A s.table.length cap, .int .i64 s.st, .int .i64 s.sn, .int .i64 s.life] := hvs 3 (by decide) _ (Ok.refl _)
  have e7 : vs 7 = clockV CK true := hvs 7 (by decide) _ (Ok.refl _)
  have e9 : vs 9 = .agg #[.int .i64 s.st, .int .i64 s.sn] := hvs 9 (by decide) _ (Ok.refl _)
  obtain ⟨gs, e10, hs, hgs⟩ := hvs 10 (by decide) _ (Ok.refl _)
  obtain ⟨gn, e11, hn, hgn⟩ := hvs 11 (by decide) _ (Ok.refl _)
  obtain ⟨gm, e12, hm, hgm⟩ := hvs 12 (by decide) _ (Ok.refl _)
  have hG := HQ.out _ hR
  have hH := HH.out _ hR
  have hok := HOK.out.trans ((Ok.refl W).drew.trans hR)
  have hws : w.heap.size ≤ gs := Nat.le_trans HN0.out hgs
  have hwn : w.heap.size ≤ gn := Nat.le_trans HN0.out hgn
  have hwm : w.heap.size ≤ gm := Nat.le_trans HN0.out hgm
  have hGs : G ≠ gs := by have := HGN.out; omega
  have hGn : G ≠ gn := by have := HGN.out; omega
  have hGm : G ≠ gm := by have := HGN.out; omega
  have hHs : H ≠ gs := by have := HHN.out; omega
  have hHn : H ≠ gn := by have := HHN.out; omega
  have hHm : H ≠ gm := by have := HHN.out; omega
  have hns : gn ≠ gs := own_ne hn hs (fun e => by simpa using congrArg Array.size e)
  have hms : gm ≠ gs := own_ne hm hs (fun e => by simpa using congrArg Array.size e)
  have hmn : gm ≠ gn := own_ne hm hn (by simp)
  clear hvs HQ HH HOK HN HN0 HGN HHN KW KS hgs hgn hgm hR
  simp only [putFrom, e3, e7, e9, e10, e11, e12]
  simp only [Act.put, List.setIfInBounds_toArray, List.set_cons_zero, List.set_cons_succ]
  clear e3 e7 e9 e10 e11 e12
  have hs0 : Own W' gs (staCells zeroSta none 0) := hs
  obtain ⟨z0, z1, z2, z3, z4, z5, z6, z7, z8, z9, z10⟩ := hs0.sta
  obtain ⟨y0, y1, y2, y3, y4, y5, y6, y7, y8, y9, y10⟩ := frozenSta hs0
  have hzl := hs.lt
  refine wpOp_store (w' := (((((((((((W'.setCell ⟨gs, 0, none⟩ (.int .i64 s.lo)).setCell ⟨gs, 1, none⟩ (.int .i64 s.hi)).setCell ⟨gs, 2, none⟩ (.int .i64 s.time)).setCell ⟨gs, 3, none⟩ (.bool s.set)).setCell ⟨gs, 4, none⟩ (.int .i64 s.held)).setCell ⟨gs, 5, none⟩ (.int .i64 s.hops)).setCell ⟨gs, 6, none⟩ (.bool s.good)).setCell ⟨gs, 7, none⟩ (.slice A s.table.length cap)).setCell ⟨gs, 8, none⟩ (.int .i64 s.st)).setCell ⟨gs, 9, none⟩ (.int .i64 s.sn)).setCell ⟨gs, 10, none⟩ (.int .i64 s.life))) rfl rfl rfl ?_ ?_
  · go_simp
  have k1 := only_set11 (Only.refl gs W') (g := gs) (.inl rfl) s A cap
  have hs1 := own_set11 hs0 s A cap
  clear z0 z1 z2 z3 z4 z5 z6 z7 z8 z9 z10 y0 y1 y2 y3 y4 y5 y6 y7 y8 y9 y10 hzl hs hs0
  generalize (((((((((((W'.setCell ⟨gs, 0, none⟩ (.int .i64 s.lo)).setCell ⟨gs, 1, none⟩ (.int .i64 s.hi)).setCell ⟨gs, 2, none⟩ (.int .i64 s.time)).setCell ⟨gs, 3, none⟩ (.bool s.set)).setCell ⟨gs, 4, none⟩ (.int .i64 s.held)).setCell ⟨gs, 5, none⟩ (.int .i64 s.hops)).setCell ⟨gs, 6, none⟩ (.bool s.good)).setCell ⟨gs, 7, none⟩ (.slice A s.table.length cap)).setCell ⟨gs, 8, none⟩ (.int .i64 s.st)).setCell ⟨gs, 9, none⟩ (.int .i64 s.sn)).setCell ⟨gs, 10, none⟩ (.int .i64 s.life)) = X1 at k1 hs1 ⊢
  replace hG := k1.own hG hGs
  replace hH := k1.own hH hHs
  replace hn := k1.own hn hns
  replace hm := k1.own hm hms
  replace hok := k1.then_ok hok hws
  clear k1
  have z0 := hn.cell 0 (v := .int .i64 0) rfl
  have z1 := hn.cell 1 (v := .bool false) rfl
  have y0 := hn.frozen 0
  have y1 := hn.frozen 1
  have hzl := hn.lt
  refine wpOp_store (w' := (X1.setCell ⟨gn, 0, none⟩ (.int .i64 CK)).setCell ⟨gn, 1, none⟩ (.bool true)) rfl rfl rfl ?_ ?_
  · go_simp
  have k1 := ((Only.refl gn X1).setR 0 (.int .i64 CK)).setR 1 (.bool true)
  have hn1 : Own ((X1.setCell ⟨gn, 0, none⟩ (.int .i64 CK)).setCell ⟨gn, 1, none⟩ (.bool true)) gn #[.int .i64 CK, .bool true] := ((hn.set 0 (.int .i64 CK)).set 1 (.bool true)).as (by simp)
  clear z0 z1 y0 y1 hzl hn
  generalize (X1.setCell ⟨gn, 0, none⟩ (.int .i64 CK)).setCell ⟨gn, 1, none⟩ (.bool true) = X2 at k1 hn1 ⊢
  replace hG := k1.own hG hGn
  replace hH := k1.own hH hHn
  replace hs1 := k1.own hs1 (Ne.symm hns)
  replace hm := k1.own hm hmn
  replace hok := k1.then_ok hok hwn
  clear k1
  have z0 := hm.cell 0 (v := .int .i64 0) rfl
  have z1 := hm.cell 1 (v := .int .i64 0) rfl
  have y0 := hm.frozen 0
  have y1 := hm.frozen 1
  have hzl := hm.lt
  refine wpOp_store (w' := (X2.setCell ⟨gm, 0, none⟩ (.int .i64 s.st)).setCell ⟨gm, 1, none⟩ (.int .i64 s.sn)) rfl rfl rfl ?_ ?_
  · go_simp
  have k1 := ((Only.refl gm X2).setR 0 (.int .i64 s.st)).setR 1 (.int .i64 s.sn)
  have hm1 : Own ((X2.setCell ⟨gm, 0, none⟩ (.int .i64 s.st)).setCell ⟨gm, 1, none⟩ (.int .i64 s.sn)) gm #[.int .i64 s.st, .int .i64 s.sn] := ((hm.set 0 (.int .i64 s.st)).set 1 (.int .i64 s.sn)).as (by simp)
  clear z0 z1 y0 y1 hzl hm
  generalize (X2.setCell ⟨gm, 0, none⟩ (.int .i64 s.st)).setCell ⟨gm, 1, none⟩ (.int .i64 s.sn) = X3 at k1 hm1 ⊢
  replace hG := k1.own hG hGm
  replace hH := k1.own hH hHm
  replace hs1 := k1.own hs1 (Ne.symm hms)
  replace hn1 := k1.own hn1 (Ne.symm hmn)
  replace hok := k1.then_ok hok hwm
  clear k1 hHs hHn hHm hns hms hmn
  try generalize vs 0 = x20
  try generalize vs 1 = x21
  try generalize vs 2 = x22
  try generalize vs 3 = x23
  try generalize vs 4 = x24
  try generalize vs 5 = x25
  try generalize vs 6 = x26
  try generalize vs 7 = x27
  try generalize vs 8 = x28
  try generalize vs 9 = x29
  try generalize vs 10 = x30
  try generalize vs 11 = x31
  try generalize vs 12 = x32
  clear vs
  simp only [TailFrom]
  go_upto_region 3 with fail
  obtain ⟨N1, hN1⟩ : ∃ r, X3.drew.heap.size = r := ⟨_, rfl⟩
  have HN := Lib.hid hN1
  have HB : Hid (w.heap.size ≤ N1 ∧ gs < N1 ∧ gn < N1 ∧ gm < N1) := Lib.hid ⟨by have := hok.drew.size; omega, by have := hs1.drew.lt; omega, by have := hn1.drew.lt; omega, by have := hm1.drew.lt; omega⟩
  have HGN : Hid (G < N1) := Lib.hid (by have := hG.drew.lt; omega)
  have HOK := Lib.hid hok
  have HQ := Lib.hid fun W' (k : Ok X3.drew W') => hG.drew.next k
  have HH := Lib.hid fun W' (k : Ok X3.drew W') => hH.drew.next k
  have HS := Lib.hid fun W' (k : Ok X3.drew W') => hs1.drew.next k
  have HNN := Lib.hid fun W' (k : Ok X3.drew W') => hn1.drew.next k
  have HM := Lib.hid fun W' (k : Ok X3.drew W') => hm1.drew.next k
  have HC := Lib.hid fun W' (k : Ok X3.drew W') => (HCU.out.below hok).below ((Ok.refl X3).drew.trans k)
  clear hN1 hok hG hH hs1 hn1 hm1
  refine wp_region_facts_end (by kernel_rfl) 3 89 rfl (VCStpC G H N1 p u t C cup) Ok _ rfl _ 9 rfl rfl rfl rfl (by kernel_rfl) (by kernel_rfl) (by kernel_rfl) (fun i v w w' h k w'' k' => h w'' (k.trans k')) (fun a b c => Ok.trans) (Ok.refl _) [some 23, some 24, some 25, some 26, some 27, some 28, some 29, some 30, some 31] rfl ⟨?_, ?_, ?_, ?_, ?_, ?_, ?_, ?_, ?_, trivial⟩ ?_
  · intro a' w' hF hR
    have e0 : a'.tmps[0]? = some (.pointer (some ⟨G, 0, none⟩)) := hF.slot 0 (by kernel_rfl) rfl
    refine wpOp_run (v := .pointer (some ⟨G, 0, none⟩)) rfl rfl ?_ (fun _ _ => rfl) (Ok.refl _)
    clear hF
    go_simp
  · intro a' w' hF hR
    have e0 : a'.tmps[0]? = some (.pointer (some ⟨G, 0, none⟩)) := hF.slot 0 (by kernel_rfl) rfl
    refine wpOp_run (v := .pointer (some ⟨G, 0, none⟩)) rfl rfl ?_ (fun _ _ => rfl) (Ok.refl _)
    clear hF
    go_simp
  · intro a' w' hF hR
    obtain ⟨v1, hv1, e24⟩ := hF.get 1 24 (by kernel_rfl) (by kernel_rfl)
    obtain rfl : v1 = _ := hv1 _ (Ok.refl _)
    refine wpOp_run (v := .pointer (some ⟨G, 0, none⟩)) rfl rfl ?_ (fun _ _ => rfl) (Ok.refl _)
    clear hF
    go_simp
  · intro a' w' hF hR
    obtain ⟨v2, hv2, e25⟩ := hF.get 2 25 (by kernel_rfl) (by kernel_rfl)
    obtain rfl : v2 = _ := hv2 _ (Ok.refl _)
    refine wpOp_run (v := .pointer (some ⟨G, 0, none⟩)) rfl rfl ?_ (fun _ _ => rfl) (Ok.refl _)
    clear hF
    go_simp
  · intro a' w' hF hR
    obtain ⟨v3, hv3, e26⟩ := hF.get 3 26 (by kernel_rfl) (by kernel_rfl)
    obtain rfl : v3 = _ := hv3 _ (Ok.refl _)
    obtain ⟨c0, c1, c2, c3, c4, c5, c6, c7, c8, c9, c10, c11⟩ := (HQ.out _ hR).frP
    have hgl := (HQ.out _ hR).lt
    refine wpOp_run (v := parV p) rfl rfl ?_ (fun _ _ => rfl) (Ok.refl _)
    clear hF
    go_simp
  · intro a' w' hF hR
    have e5 : a'.tmps[5]? = some (.pointer (some ⟨H, 0, none⟩)) := hF.slot 5 (by kernel_rfl) rfl
    obtain ⟨n0, n1, n2, n3, n4, n5, n6, n7, n8, n9, n10⟩ := (HH.out _ hR).sta
    have hnl := (HH.out _ hR).lt
    refine wpOp_run (v := .agg #[.int .i64 u.lo, .int .i64 u.hi, .int .i64 u.time, .bool u.set, .int .i64 u.held, .int .i64 u.hops, .bool u.good, .slice C u.table.length cup, .int .i64 u.st, .int .i64 u.sn, .int .i64 u.life]) rfl rfl ?_ (fun _ _ => rfl) (Ok.refl _)
    clear hF
    go_simp
  · intro a' w' hF hR
    obtain ⟨v4, hv4, e27⟩ := hF.get 4 27 (by kernel_rfl) (by kernel_rfl)
    obtain rfl : v4 = _ := hv4 _ (Ok.refl _)
    obtain ⟨v5, hv5, e28⟩ := hF.get 5 28 (by kernel_rfl) (by kernel_rfl)
    obtain rfl : v5 = _ := hv5 _ (Ok.refl _)
    have hbase := (HN.out ▸ hR.size)
    clear hF
    refine wpOp_call (f := 21) (args := #[parV p, .agg #[.int .i64 u.lo, .int .i64 u.hi, .int .i64 u.time, .bool u.set, .int .i64 u.held, .int .i64 u.hops, .bool u.good, .slice C u.table.length cup, .int .i64 u.st, .int .i64 u.sn, .int .i64 u.life]]) rfl rfl ?_ ((KN.out _ (HC.out _ hR)).mono ?_)
    · go_simp
    · rintro e w2 ⟨A2, c2, rfl, hI2, hb2⟩; exact ⟨_, rfl, fun w3 k => ⟨A2, c2, rfl, (hI2.mono hbase).next k⟩, hb2⟩
  · intro a' w' hF hR
    obtain ⟨v0, hv0, e23⟩ := hF.get 0 23 (by kernel_rfl) (by kernel_rfl)
    obtain rfl : v0 = _ := hv0 _ (Ok.refl _)
    refine wpOp_run (v := .pointer (some ⟨G, 0, none⟩)) rfl rfl ?_ (fun _ _ => rfl) (Ok.refl _)
    clear hF
    go_simp
  · intro a' w' hF hR
    obtain ⟨v7, hv7, e30⟩ := hF.get 7 30 (by kernel_rfl) (by kernel_rfl)
    obtain rfl : v7 = _ := hv7 _ (Ok.refl _)
    refine wpOp_run (v := .pointer (some ⟨G, 12, none⟩)) rfl rfl ?_ (fun _ _ => rfl) (Ok.refl _)
    clear hF
    go_simp
  intro vs W' hvs hR
  obtain ⟨A2, c2, e6, hT⟩ := hvs 6 (by decide) _ (Ok.refl _)
  unfold staV at e6
  have e8 : vs 8 = .pointer (some ⟨G, 12, none⟩) := hvs 8 (by decide) _ (Ok.refl _)
  have hG := HQ.out _ hR
  have hs := HS.out _ hR
  have hn := HNN.out _ hR
  have hm := HM.out _ hR
  have hok := HOK.out.trans ((Ok.refl X3).drew.trans hR)
  have hGN := HGN.out
  have hB : w.heap.size ≤ N1 ∧ gs < N1 ∧ gn < N1 ∧ gm < N1 := HB.out
  clear hvs HQ HH HS HNN HM HOK HN HGN HB KN HC hR
  simp only [putFrom, e6, e8]
  simp only [Act.put, List.setIfInBounds_toArray, List.set_cons_zero, List.set_cons_succ]
  clear e6 e8
  obtain ⟨s0, s1, s2, s3, s4, s5, s6, s7, s8, s9, s10⟩ := hG.frS
  obtain ⟨y0, y1, y2, y3, y4, y5, y6, y7, y8, y9, y10⟩ := frozenF hG
  have hgl := hG.lt
  refine wpOp_store (w' := (((((((((((W'.setCell ⟨G, 12, none⟩ (.int .i64 t.lo)).setCell ⟨G, 13, none⟩ (.int .i64 t.hi)).setCell ⟨G, 14, none⟩ (.int .i64 t.time)).setCell ⟨G, 15, none⟩ (.bool t.set)).setCell ⟨G, 16, none⟩ (.int .i64 t.held)).setCell ⟨G, 17, none⟩ (.int .i64 t.hops)).setCell ⟨G, 18, none⟩ (.bool t.good)).setCell ⟨G, 19, none⟩ (.slice A2 t.table.length c2)).setCell ⟨G, 20, none⟩ (.int .i64 t.st)).setCell ⟨G, 21, none⟩ (.int .i64 t.sn)).setCell ⟨G, 22, none⟩ (.int .i64 t.life))) rfl rfl rfl ?_ ?_
  · go_simp
  have k1 := only_setF (Only.refl G W') t A2 c2
  have hG1 := own_setF hG t A2 c2
  clear s0 s1 s2 s3 s4 s5 s6 s7 s8 s9 s10 y0 y1 y2 y3 y4 y5 y6 y7 y8 y9 y10 hgl hG
  generalize (((((((((((W'.setCell ⟨G, 12, none⟩ (.int .i64 t.lo)).setCell ⟨G, 13, none⟩ (.int .i64 t.hi)).setCell ⟨G, 14, none⟩ (.int .i64 t.time)).setCell ⟨G, 15, none⟩ (.bool t.set)).setCell ⟨G, 16, none⟩ (.int .i64 t.held)).setCell ⟨G, 17, none⟩ (.int .i64 t.hops)).setCell ⟨G, 18, none⟩ (.bool t.good)).setCell ⟨G, 19, none⟩ (.slice A2 t.table.length c2)).setCell ⟨G, 20, none⟩ (.int .i64 t.st)).setCell ⟨G, 21, none⟩ (.int .i64 t.sn)).setCell ⟨G, 22, none⟩ (.int .i64 t.life)) = X4 at k1 hG1 ⊢
  replace hs := k1.own hs (Ne.symm hGs)
  replace hn := k1.own hn (Ne.symm hGn)
  replace hm := k1.own hm (Ne.symm hGm)
  replace hT := hT.only k1 hGN
  have hon := (Only.of_ok hok).trans k1
  clear k1 hok
  try generalize vs 0 = x40
  try generalize vs 1 = x41
  try generalize vs 2 = x42
  try generalize vs 3 = x43
  try generalize vs 4 = x44
  try generalize vs 5 = x45
  try generalize vs 6 = x46
  try generalize vs 7 = x47
  try generalize vs 8 = x48
  clear vs
  go_upto_region 4 with fail
  have HQ := Lib.hid fun W' (k : Turn G 14 (.int .i64 CK) X4.drew W') => k.own _ hG1.drew
  have HNN := Lib.hid fun W' (k : Turn G 14 (.int .i64 CK) X4.drew W') => k.only.own hn.drew (Ne.symm hGn)
  have HN4 := Lib.hid hn
  have HS := Lib.hid hs
  have HM := Lib.hid hm
  have HT := Lib.hid hT
  have HON := Lib.hid hon
  clear hG1 hn hm hs hT hon
  refine wp_region_facts_chain (by kernel_rfl) 0 89 rfl (VCStpD R G gn CK p t A2 c2) (Turn G 14 (.int .i64 CK)) _ 10 rfl rfl (by decide) (by kernel_rfl) (by kernel_rfl) (by kernel_rfl) (by kernel_rfl) (fun i v w w' h k w'' k' => h w'' (k.trans k')) (fun a b c => Turn.trans) (Turn.refl _) [some 32, some 33, some 34, some 35, some 36, some 37, some 38, some 39, some 40, none] rfl _ rfl ⟨?_, ?_, ?_, ?_, ?_, ?_, ?_, ?_, ?_, ?_, trivial⟩ ?_
  · intro a' w' hF hR
    have e0 : a'.tmps[0]? = some (.pointer (some ⟨G, 0, none⟩)) := hF.slot 0 (by kernel_rfl) rfl
    refine wpOp_run (v := .pointer (some ⟨G, 0, none⟩)) rfl rfl ?_ (fun _ _ => rfl) (Turn.refl _)
    clear hF
    go_simp
  · intro a' w' hF hR
    have e0 : a'.tmps[0]? = some (.pointer (some ⟨G, 0, none⟩)) := hF.slot 0 (by kernel_rfl) rfl
    refine wpOp_run (v := .pointer (some ⟨G, 0, none⟩)) rfl rfl ?_ (fun _ _ => rfl) (Turn.refl _)
    clear hF
    go_simp
  · intro a' w' hF hR
    have e7 : a'.tmps[7]? = some (.pointer (some ⟨gn, 0, none⟩)) := hF.slot 7 (by kernel_rfl) rfl
    refine wpOp_run (v := .pointer (some ⟨gn, 0, none⟩)) rfl rfl ?_ (fun _ _ => rfl) (Turn.refl _)
    clear hF
    go_simp
  · intro a' w' hF hR
    obtain ⟨v2, hv2, e34⟩ := hF.get 2 34 (by kernel_rfl) (by kernel_rfl)
    obtain rfl : v2 = _ := hv2 _ (Turn.refl _)
    have z0 := (HNN.out _ hR).cell 0 (v := .int .i64 CK) rfl
    have z1 := (HNN.out _ hR).cell 1 (v := .bool true) rfl
    have hzl := (HNN.out _ hR).lt
    refine wpOp_run (v := .int .i64 CK) rfl rfl ?_ (fun _ _ => rfl) (Turn.refl _)
    clear hF
    go_simp
  · intro a' w' hF hR
    have e7 : a'.tmps[7]? = some (.pointer (some ⟨gn, 0, none⟩)) := hF.slot 7 (by kernel_rfl) rfl
    refine wpOp_run (v := .pointer (some ⟨gn, 1, none⟩)) rfl rfl ?_ (fun _ _ => rfl) (Turn.refl _)
    clear hF
    go_simp
  · intro a' w' hF hR
    obtain ⟨v4, hv4, e36⟩ := hF.get 4 36 (by kernel_rfl) (by kernel_rfl)
    obtain rfl : v4 = _ := hv4 _ (Turn.refl _)
    have z0 := (HNN.out _ hR).cell 0 (v := .int .i64 CK) rfl
    have z1 := (HNN.out _ hR).cell 1 (v := .bool true) rfl
    have hzl := (HNN.out _ hR).lt
    refine wpOp_run (v := .bool true) rfl rfl ?_ (fun _ _ => rfl) (Turn.refl _)
    clear hF
    go_simp
  · intro a' w' hF hR
    obtain ⟨v0, hv0, e32⟩ := hF.get 0 32 (by kernel_rfl) (by kernel_rfl)
    obtain rfl : v0 = _ := hv0 _ (Turn.refl _)
    refine wpOp_run (v := .pointer (some ⟨G, 0, none⟩)) rfl rfl ?_ (fun _ _ => rfl) (Turn.refl _)
    clear hF
    go_simp
  · intro a' w' hF hR
    obtain ⟨v6, hv6, e38⟩ := hF.get 6 38 (by kernel_rfl) (by kernel_rfl)
    obtain rfl : v6 = _ := hv6 _ (Turn.refl _)
    refine wpOp_run (v := .pointer (some ⟨G, 12, none⟩)) rfl rfl ?_ (fun _ _ => rfl) (Turn.refl _)
    clear hF
    go_simp
  · intro a' w' hF hR
    obtain ⟨v7, hv7, e39⟩ := hF.get 7 39 (by kernel_rfl) (by kernel_rfl)
    obtain rfl : v7 = _ := hv7 _ (Turn.refl _)
    refine wpOp_run (v := .pointer (some ⟨G, 14, none⟩)) rfl rfl ?_ (fun _ _ => rfl) (Turn.refl _)
    clear hF
    go_simp
  · intro a' w' hF hR
    obtain ⟨v8, hv8, e40⟩ := hF.get 8 40 (by kernel_rfl) (by kernel_rfl)
    obtain rfl : v8 = _ := hv8 _ (Turn.refl _)
    obtain ⟨v3, hv3, e35⟩ := hF.get 3 35 (by kernel_rfl) (by kernel_rfl)
    obtain rfl : v3 = _ := hv3 _ (Turn.refl _)
    rcases HQ.out _ hR with hq | hq
    · have hq2 : Own (w'.setCell ⟨G, 14, none⟩ (.int .i64 CK)) G ((frontCellsR R p t A2 c2).set! 14 (.int .i64 CK)) := hq.set 14 _
      obtain ⟨z, hz⟩ : ∃ z, w'.cell? ⟨G, 14, none⟩ = some z := ⟨_, hq.cell 14 rfl⟩
      have y14 := hq.frozen 14
      have hgl := hq.lt
      clear hF hq
      refine wpOp_store (w' := w'.setCell ⟨G, 14, none⟩ (.int .i64 CK)) rfl rfl rfl ?_ ⟨.bool true, rfl, fun w3 k => k.kept hq2, Turn.set w'⟩
      go_simp
    · have hq2 : Own (w'.setCell ⟨G, 14, none⟩ (.int .i64 CK)) G ((frontCellsR R p t A2 c2).set! 14 (.int .i64 CK)) := by have := hq.set 14 (.int .i64 CK); rw [set_twice21] at this; exact this
      obtain ⟨z, hz⟩ : ∃ z, w'.cell? ⟨G, 14, none⟩ = some z := ⟨_, hq.cell 14 rfl⟩
      have y14 := hq.frozen 14
      have hgl := hq.lt
      clear hF hq
      refine wpOp_store (w' := w'.setCell ⟨G, 14, none⟩ (.int .i64 CK)) rfl rfl rfl ?_ ⟨.bool true, rfl, fun w3 k => k.kept hq2, Turn.set w'⟩
      go_simp
  intro vs W' hvs hR
  have e1 : vs 1 = .pointer (some ⟨G, 0, none⟩) := hvs 1 (by decide) _ (Turn.refl _)
  have e5 : vs 5 = .bool true := hvs 5 (by decide) _ (Turn.refl _)
  have hG : Own W' G ((frontCellsR R p t A2 c2).set! 14 (.int .i64 CK)) := hvs 9 (by decide) _ (Turn.refl _)
  have k0 : Only G X4 W' := (Only.of_ok (Ok.refl X4).drew).trans hR.only
  have hs := k0.own HS.out (Ne.symm hGs)
  have hn := k0.own HN4.out (Ne.symm hGn)
  have hm := k0.own HM.out (Ne.symm hGm)
  have hT := HT.out.only k0 hGN
  have hon := HON.out.trans k0
  clear hvs HQ HS HNN HN4 HM HT HON hR k0
  simp only [putFrom, e1, e5]
  simp only [Act.put, List.setIfInBounds_toArray, List.set_cons_zero, List.set_cons_succ]
  clear e1 e5
  have s3 := hG.cell 15 (v := .bool t.set) rfl
  have y15 := hG.frozen 15
  have hgl := hG.lt
  refine wpOp_leaves (o := ⟨some 41, _, _, _, _, none⟩) (v := .pointer (some ⟨G, 0, none⟩)) (w' := W') rfl rfl ?_ ?_
  · go_simp
  simp only [Act.put, List.setIfInBounds_toArray, List.set_cons_zero, List.set_cons_succ]
  refine wpOp_leaves (o := ⟨some 42, _, _, _, _, none⟩) (v := .pointer (some ⟨G, 12, none⟩)) (w' := W') rfl rfl ?_ ?_
  · go_simp
  simp only [Act.put, List.setIfInBounds_toArray, List.set_cons_zero, List.set_cons_succ]
  refine wpOp_leaves (o := ⟨some 43, _, _, _, _, none⟩) (v := .pointer (some ⟨G, 15, none⟩)) (w' := W') rfl rfl ?_ ?_
  · go_simp
  simp only [Act.put, List.setIfInBounds_toArray, List.set_cons_zero, List.set_cons_succ]
  refine wpOp_store (w' := W'.setCell ⟨G, 15, none⟩ (.bool true)) rfl rfl rfl ?_ ?_
  · go_simp
  have hG2 : Own (W'.setCell ⟨G, 15, none⟩ (.bool true)) G (frontCellsR R p M1 A2 c2) := (hG.set 15 (.bool true)).as (by rw [← HM1.out]; simp [frontCellsR])
  have k1 := (Only.refl G W').setR 15 (.bool true)
  clear s3 y15 hgl hG
  generalize W'.setCell ⟨G, 15, none⟩ (.bool true) = X6 at k1 hG2 ⊢
  replace hs := k1.own hs (Ne.symm hGs)
  replace hn := k1.own hn (Ne.symm hGn)
  replace hm := k1.own hm (Ne.symm hGm)
  replace hT := hT.only k1 hGN
  replace hon := hon.trans k1
  clear k1
  try generalize vs 0 = x60
  try generalize vs 1 = x61
  try generalize vs 2 = x62
  try generalize vs 3 = x63
  try generalize vs 4 = x64
  try generalize vs 5 = x65
  try generalize vs 6 = x66
  try generalize vs 7 = x67
  try generalize vs 8 = x68
  try generalize vs 9 = x69
  clear vs
  simp only [TailFrom]
  go_upto_region 5 with fail
  have HG6 := Lib.hid hG2
  have HN6 := Lib.hid hn
  obtain ⟨N2, hN2⟩ : ∃ r, X6.drew.heap.size = r := ⟨_, rfl⟩
  have HN := Lib.hid hN2
  have HQ := Lib.hid fun W' (k : Ok X6.drew W') => hG2.drew.next k
  have HNN := Lib.hid fun W' (k : Ok X6.drew W') => hn.drew.next k
  have HM := Lib.hid fun W' (k : Ok X6.drew W') => hm.drew.next k
  have HS := Lib.hid hs
  have HT := Lib.hid hT
  have HON := Lib.hid hon
  clear hG2 hn hm hs hT hon hN2
  refine wp_region_facts_float (by kernel_rfl) 89 rfl (VCStpE G gs gn gm N2 p s CK m t1 t2 fr) Ok 10 8 rfl (by decide) _ _ rfl rfl (by kernel_rfl) (by kernel_rfl) _ _ rfl rfl rfl (by kernel_rfl) (by kernel_rfl) (fun i v w w' h k w'' k' => h w'' (k.trans k')) (fun a b c => Ok.trans) (Ok.refl _) [some 45, some 46, some 47, some 48, some 49, some 50, some 44, some 51, some 52, some 9] [some 45, some 46, some 47, some 48, some 49, some 50, some 44, some 51, none, some 9] rfl rfl ⟨?_, ?_, ?_, ?_, ?_, ?_, ?_, ?_, ?_, ?_, trivial⟩ ?_ ?_
  · intro a' w' hF hR
    have e8 : a'.tmps[8]? = some (.pointer (some ⟨gm, 0, none⟩)) := hF.slot 8 (by kernel_rfl) rfl
    have z0 := (HM.out _ hR).cell 0 (v := .int .i64 s.st) rfl
    have z1 := (HM.out _ hR).cell 1 (v := .int .i64 s.sn) rfl
    have hzl := (HM.out _ hR).lt
    refine wpOp_run (v := .agg #[.int .i64 s.st, .int .i64 s.sn]) rfl rfl ?_ (fun _ _ => rfl) (Ok.refl _)
    clear hF
    go_simp
  · intro a' w' hF hR
    have e7 : a'.tmps[7]? = some (.pointer (some ⟨gn, 0, none⟩)) := hF.slot 7 (by kernel_rfl) rfl
    refine wpOp_run (v := .pointer (some ⟨gn, 0, none⟩)) rfl rfl ?_ (fun _ _ => rfl) (Ok.refl _)
    clear hF
    go_simp
  · intro a' w' hF hR
    obtain ⟨v1, hv1, e46⟩ := hF.get 1 46 (by kernel_rfl) (by kernel_rfl)
    obtain rfl : v1 = _ := hv1 _ (Ok.refl _)
    have z0 := (HNN.out _ hR).cell 0 (v := .int .i64 CK) rfl
    have z1 := (HNN.out _ hR).cell 1 (v := .bool true) rfl
    have hzl := (HNN.out _ hR).lt
    refine wpOp_run (v := .int .i64 CK) rfl rfl ?_ (fun _ _ => rfl) (Ok.refl _)
    clear hF
    go_simp
  · intro a' w' hF hR
    have e0 : a'.tmps[0]? = some (.pointer (some ⟨G, 0, none⟩)) := hF.slot 0 (by kernel_rfl) rfl
    refine wpOp_run (v := .pointer (some ⟨G, 0, none⟩)) rfl rfl ?_ (fun _ _ => rfl) (Ok.refl _)
    clear hF
    go_simp
  · intro a' w' hF hR
    obtain ⟨v3, hv3, e48⟩ := hF.get 3 48 (by kernel_rfl) (by kernel_rfl)
    obtain rfl : v3 = _ := hv3 _ (Ok.refl _)
    clear hF
    refine wpOp_call (f := 75) (args := #[.pointer (some ⟨G, 0, none⟩)]) rfl rfl ?_ ((KO.out _ _ _ (HQ.out _ hR)).mono ?_)
    · go_simp
    · rintro e w2 ⟨rfl, hb2⟩; exact ⟨_, rfl, fun _ _ => rfl, hb2⟩
  · intro a' w' hF hR
    obtain ⟨v0, hv0, e45⟩ := hF.get 0 45 (by kernel_rfl) (by kernel_rfl)
    obtain rfl : v0 = _ := hv0 _ (Ok.refl _)
    obtain ⟨v2, hv2, e47⟩ := hF.get 2 47 (by kernel_rfl) (by kernel_rfl)
    obtain rfl : v2 = _ := hv2 _ (Ok.refl _)
    obtain ⟨v4, hv4, e49⟩ := hF.get 4 49 (by kernel_rfl) (by kernel_rfl)
    obtain rfl : v4 = _ := hv4 _ (Ok.refl _)
    clear hF
    refine wpOp_call (f := 74) (args := #[.agg #[.int .i64 s.st, .int .i64 s.sn], .int .i64 CK, .int .i64 m]) rfl rfl ?_ ((KE.out _).mono ?_)
    · go_simp
    · rintro e w2 ⟨rfl, hb2⟩; exact ⟨_, rfl, fun _ _ => rfl, hb2⟩
  · intro a' w' hF hR
    obtain ⟨v5, hv5, e50⟩ := hF.get 5 50 (by kernel_rfl) (by kernel_rfl)
    obtain rfl : v5 = _ := hv5 _ (Ok.refl _)
    refine wpOp_run (v := .tuple #[.agg #[.int .i64 t1, .int .i64 t2], .bool fr]) rfl rfl ?_ (fun _ _ => rfl) (Ok.refl _)
    clear hF
    go_simp
  · intro a' w' hF hR
    obtain ⟨v6, hv6, e44⟩ := hF.get 6 44 (by kernel_rfl) (by kernel_rfl)
    obtain rfl : v6 = _ := hv6 _ (Ok.refl _)
    refine wpOp_run (v := .agg #[.int .i64 t1, .int .i64 t2]) rfl rfl ?_ (fun _ _ => rfl) (Ok.refl _)
    clear hF
    go_simp
  · intro a' w' hF hR
    obtain ⟨v6, hv6, e44⟩ := hF.get 6 44 (by kernel_rfl) (by kernel_rfl)
    obtain rfl : v6 = _ := hv6 _ (Ok.refl _)
    refine wpOp_run (v := .bool fr) rfl rfl ?_ (fun _ _ => rfl) (Ok.refl _)
    clear hF
    go_simp
  · intro a' w' hF hR
    have hzero : Sem.run Tryz.prog (zeroValue 126) w' = .ok (.agg #[.int .i64 0, .int .i64 0]) w' := by kernel_rfl
    refine wpOp_run (v := .pointer (some ⟨w'.heap.size, 0, none⟩)) (w' := w'.alloc (.cells #[.int .i64 0, .int .i64 0] 126)) rfl rfl ?_ (fun w'' k => ⟨_, rfl, (Own.new _ _ _ rfl).next k, (HN.out ▸ hR.size)⟩) ((Ok.refl _).alloc _)
    clear hF
    go_simp
  · intro vs W' hvs hR
    have e7 : vs 7 = .agg #[.int .i64 t1, .int .i64 t2] := hvs 7 (by decide) _ (Ok.refl _)
    have e8 : vs 8 = .bool fr := hvs 8 (by decide) _ (Ok.refl _)
    obtain ⟨gx, e9, hX, hgx⟩ := hvs 9 (by decide) _ (Ok.refl _)
    have k0 := (Ok.refl X6).drew.trans hR
    have hx6 : X6.heap.size ≤ gx := Nat.le_trans (Nat.le_of_eq HN.out) hgx
    have hxx : Slab W' gx 0 0 := ⟨hX.blk⟩
    have f0 := hxx.f0
    have f1 := hxx.f1
    have x0 := hxx.c0
    have x1 := hxx.c1
    clear hvs HQ HNN HM HN KO KE hX hgx hR
    simp only [putFrom, e7, e8, e9]
    simp only [Act.put, List.setIfInBounds_toArray, List.set_cons_zero, List.set_cons_succ]
    refine wpOp_store (w' := (W'.setCell ⟨gx, 0, none⟩ (.int .i64 t1)).setCell ⟨gx, 1, none⟩ (.int .i64 t2)) rfl rfl rfl ?_ ?_
    · go_simp
    have hx2 := hxx.set t1 t2
    have k2 := (k0.setCell (p := ⟨gx, 0, none⟩) hx6 (.int .i64 t1)).setCell (p := ⟨gx, 1, none⟩) hx6 (.int .i64 t2)
    clear f0 f1 x0 x1 hxx k0 e7 e8 e9
    generalize (W'.setCell ⟨gx, 0, none⟩ (.int .i64 t1)).setCell ⟨gx, 1, none⟩ (.int .i64 t2) = X7 at hx2 k2 ⊢
    refine wpOp_leaves (o := ⟨some 10, _, _, _, _, none⟩) (v := .bool fr) (w' := X7) rfl rfl ?_ ?_
    · go_simp
    simp only [Act.put, List.setIfInBounds_toArray, List.set_cons_zero, List.set_cons_succ]
    try generalize vs 0 = x80
    try generalize vs 1 = x81
    try generalize vs 2 = x82
    try generalize vs 3 = x83
    try generalize vs 4 = x84
    try generalize vs 5 = x85
    try generalize vs 6 = x86
    try generalize vs 7 = x87
    try generalize vs 8 = x88
    clear vs
    have hG := HG6.out.next k2
    have hs := HS.out.next k2
    have hn := HN6.out.next k2
    have hT := HT.out.next k2
    have hon := HON.out.ok k2
    have hGx : G ≠ gx := by have := HG6.out.lt; omega
    clear HG6 HS HN6 HT HON k2 hx6
    have x0 := hx2.c0
    have x1 := hx2.c1
    have hxl := hx2.lt
    have z0 := hn.cell 0 (v := .int .i64 CK) rfl
    have hnl := hn.lt
    have hf := clockField (k1, k2)
    go_upto_region 7 with (go_at_call 76; refine (KT.out _).mono ?_; rintro e w7 ⟨rfl, hb1⟩; clear x0 x1 hxl z0 hnl hx2; replace hG := hG.next hb1; replace hs := hs.next hb1; replace hn := hn.next hb1; replace hT := hT.next hb1; replace hon := hon.ok hb1; clear hb1; obtain ⟨s0, s1, s2, s3, s4, s5, s6, s7, s8, s9, s10⟩ := hG.frS; have y20 := hG.frozen 20; have y21 := hG.frozen 21; have hgl := hG.lt)
    have hG2 : Own ((w7.setCell ⟨G, 20, none⟩ (.int .i64 k1)).setCell ⟨G, 21, none⟩ (.int .i64 k2)) G (frontCellsR R p M2 A2 c2) := ((hG.set 20 (.int .i64 k1)).set 21 (.int .i64 k2)).as (by rw [← HM2.out]; simp [frontCellsR])
    have j1 := ((Only.refl G w7).setR 20 (.int .i64 k1)).setR 21 (.int .i64 k2)
    clear s0 s1 s2 s3 s4 s5 s6 s7 s8 s9 s10 y20 y21 hgl hG hf
    generalize (w7.setCell ⟨G, 20, none⟩ (.int .i64 k1)).setCell ⟨G, 21, none⟩ (.int .i64 k2) = X8 at hG2 j1 ⊢
    replace hs := j1.own hs (Ne.symm hGs)
    replace hn := j1.own hn (Ne.symm hGn)
    replace hT := hT.only j1 hGN
    replace hon := hon.trans j1
    clear j1
    have z10 := hs.cell 10 (v := .int .i64 s.life) rfl
    have hsl := hs.lt
    obtain ⟨s0, s1, s2, s3, s4, s5, s6, s7, s8, s9, s10⟩ := hG2.frS
    have y22 := hG2.frozen 22
    have hgl := hG2.lt
    go_upto_region 8 with (go_at_call 58; refine (KB.out _).mono ?_; rintro e w8 ⟨rfl, rfl⟩)
    have hG3 : Own (X8.setCell ⟨G, 22, none⟩ (.int .i64 LF)) G (frontCellsR R p M3 A2 c2) := (hG2.set 22 (.int .i64 LF)).as (by rw [← HM3.out]; simp [frontCellsR])
    have j1 := (Only.refl G X8).setR 22 (.int .i64 LF)
    clear s0 s1 s2 s3 s4 s5 s6 s7 s8 s9 s10 y22 hgl hG2 z10 hsl
    generalize X8.setCell ⟨G, 22, none⟩ (.int .i64 LF) = X9 at hG3 j1 ⊢
    replace hs := j1.own hs (Ne.symm hGs)
    replace hn := j1.own hn (Ne.symm hGn)
    replace hT := hT.only j1 hGN
    replace hon := hon.trans j1
    clear j1
    have z0 := hn.cell 0 (v := .int .i64 CK) rfl
    have z2 := hs.cell 2 (v := .int .i64 s.time) rfl
    have hnl := hn.lt
    have hsl := hs.lt
    go_cut [76] from 69 to 76 (fun v wx => v = .bool g2 ∧ wx = X9)
    case first =>
      cases fr with
      | true =>
        go_wp2_with fail
        go_meet
        exact ⟨by rw [← HG2.out]; rfl, rfl⟩
      | false =>
        go_wp2_with fail
        go_meet
        exact ⟨by rw [← HG2.out]; rfl, rfl⟩
    case rest =>
    obtain ⟨rfl, rfl⟩ := hcut
    clear z0 z2 hnl hsl hs hn
    go_upto_if 76 with fail
    cases g2 with
    | true =>
      obtain rfl : LV = l2 := HLV2.out.symm.trans (if_pos rfl)
      have s10 := hG3.cell 22 (v := .int .i64 LF) (by rw [← HM3.out]; rfl)
      have y22 := hG3.frozen 22
      have hgl := hG3.lt
      go_wp2_with (first | (go_at_call 49; refine (KA.out _ _ (ints_new _ [LF, 1] _ _ rfl rfl)).mono ?_; rintro e w10 ⟨rfl, rfl⟩) | (go_at_call 58; refine (KB2.out _).mono ?_; rintro e w11 ⟨rfl, rfl⟩))
      go_end0
      exact ⟨rfl, A2, c2, ((hG3.set 22 (.int .i64 LV)).as (ds := frontCellsR R p Y A2 c2) (by rw [← HY2.out, ← HM3.out]; simp [frontCellsR])).alloc _, by rw [HYT.out]; exact ((hT.set (p := ⟨G, 22, none⟩) hGN _).next ((Ok.refl _).alloc _)).mono hB.1, (hon.setR 22 _).alloc _⟩
    | false =>
      obtain rfl : LV = LF := HLV2.out.symm.trans (if_neg (by decide))
      go_wp2_with fail
      go_end0
      exact ⟨rfl, A2, c2, hG3.as (by rw [← HY2.out, ← HM3.out]), by rw [HYT.out]; exact hT.mono hB.1, hon⟩
  · intro vs W' hvs hR
    have e7 : vs 7 = .agg #[.int .i64 t1, .int .i64 t2] := hvs 7 (by decide) (by decide) _ (Ok.refl _)
    have e8 : vs 6 = .tuple #[.agg #[.int .i64 t1, .int .i64 t2], .bool fr] := hvs 6 (by decide) (by decide) _ (Ok.refl _)
    obtain ⟨gx, e9, hX, hgx⟩ := hvs 9 (by decide) (by decide) _ (Ok.refl _)
    have k0 := (Ok.refl X6).drew.trans hR
    have hx6 : X6.heap.size ≤ gx := Nat.le_trans (Nat.le_of_eq HN.out) hgx
    have hxx : Slab W' gx 0 0 := ⟨hX.blk⟩
    have f0 := hxx.f0
    have f1 := hxx.f1
    have x0 := hxx.c0
    have x1 := hxx.c1
    clear hvs HQ HNN HM HN KO KE hX hgx hR
    simp only [putFrom, e7, e8, e9]
    simp only [Act.put, List.setIfInBounds_toArray, List.set_cons_zero, List.set_cons_succ]
    refine wpOp_store (w' := (W'.setCell ⟨gx, 0, none⟩ (.int .i64 t1)).setCell ⟨gx, 1, none⟩ (.int .i64 t2)) rfl rfl rfl ?_ ?_
    · go_simp
    have hx2 := hxx.set t1 t2
    have k2 := (k0.setCell (p := ⟨gx, 0, none⟩) hx6 (.int .i64 t1)).setCell (p := ⟨gx, 1, none⟩) hx6 (.int .i64 t2)
    clear f0 f1 x0 x1 hxx k0 e7 e8 e9
    generalize (W'.setCell ⟨gx, 0, none⟩ (.int .i64 t1)).setCell ⟨gx, 1, none⟩ (.int .i64 t2) = X7 at hx2 k2 ⊢
    refine wpOp_leaves (o := ⟨some 52, _, _, _, _, none⟩) (v := .bool fr) (w' := X7) rfl rfl ?_ ?_
    · go_simp
    simp only [Act.put, List.setIfInBounds_toArray, List.set_cons_zero, List.set_cons_succ]
    refine wpOp_leaves (o := ⟨some 10, _, _, _, _, none⟩) (v := .bool fr) (w' := X7) rfl rfl ?_ ?_
    · go_simp
    simp only [Act.put, List.setIfInBounds_toArray, List.set_cons_zero, List.set_cons_succ]
    try generalize vs 0 = x80
    try generalize vs 1 = x81
    try generalize vs 2 = x82
    try generalize vs 3 = x83
    try generalize vs 4 = x84
    try generalize vs 5 = x85
    try generalize vs 6 = x86
    try generalize vs 7 = x87
    try generalize vs 8 = x88
    clear vs
    have hG := HG6.out.next k2
    have hs := HS.out.next k2
    have hn := HN6.out.next k2
    have hT := HT.out.next k2
    have hon := HON.out.ok k2
    have hGx : G ≠ gx := by have := HG6.out.lt; omega
    clear HG6 HS HN6 HT HON k2 hx6
    have x0 := hx2.c0
    have x1 := hx2.c1
    have hxl := hx2.lt
    have z0 := hn.cell 0 (v := .int .i64 CK) rfl
    have hnl := hn.lt
    have hf := clockField (k1, k2)
    go_upto_region 7 with (go_at_call 76; refine (KT.out _).mono ?_; rintro e w7 ⟨rfl, hb1⟩; clear x0 x1 hxl z0 hnl hx2; replace hG := hG.next hb1; replace hs := hs.next hb1; replace hn := hn.next hb1; replace hT := hT.next hb1; replace hon := hon.ok hb1; clear hb1; obtain ⟨s0, s1, s2, s3, s4, s5, s6, s7, s8, s9, s10⟩ := hG.frS; have y20 := hG.frozen 20; have y21 := hG.frozen 21; have hgl := hG.lt)
    have hG2 : Own ((w7.setCell ⟨G, 20, none⟩ (.int .i64 k1)).setCell ⟨G, 21, none⟩ (.int .i64 k2)) G (frontCellsR R p M2 A2 c2) := ((hG.set 20 (.int .i64 k1)).set 21 (.int .i64 k2)).as (by rw [← HM2.out]; simp [frontCellsR])
    have j1 := ((Only.refl G w7).setR 20 (.int .i64 k1)).setR 21 (.int .i64 k2)
    clear s0 s1 s2 s3 s4 s5 s6 s7 s8 s9 s10 y20 y21 hgl hG hf
    generalize (w7.setCell ⟨G, 20, none⟩ (.int .i64 k1)).setCell ⟨G, 21, none⟩ (.int .i64 k2) = X8 at hG2 j1 ⊢
    replace hs := j1.own hs (Ne.symm hGs)
    replace hn := j1.own hn (Ne.symm hGn)
    replace hT := hT.only j1 hGN
    replace hon := hon.trans j1
    clear j1
    have z10 := hs.cell 10 (v := .int .i64 s.life) rfl
    have hsl := hs.lt
    obtain ⟨s0, s1, s2, s3, s4, s5, s6, s7, s8, s9, s10⟩ := hG2.frS
    have y22 := hG2.frozen 22
    have hgl := hG2.lt
    go_upto_region 8 with (go_at_call 58; refine (KB.out _).mono ?_; rintro e w8 ⟨rfl, rfl⟩)
    have hG3 : Own (X8.setCell ⟨G, 22, none⟩ (.int .i64 LF)) G (frontCellsR R p M3 A2 c2) := (hG2.set 22 (.int .i64 LF)).as (by rw [← HM3.out]; simp [frontCellsR])
    have j1 := (Only.refl G X8).setR 22 (.int .i64 LF)
    clear s0 s1 s2 s3 s4 s5 s6 s7 s8 s9 s10 y22 hgl hG2 z10 hsl
    generalize X8.setCell ⟨G, 22, none⟩ (.int .i64 LF) = X9 at hG3 j1 ⊢
    replace hs := j1.own hs (Ne.symm hGs)
    replace hn := j1.own hn (Ne.symm hGn)
    replace hT := hT.only j1 hGN
    replace hon := hon.trans j1
    clear j1
    have z0 := hn.cell 0 (v := .int .i64 CK) rfl
    have z2 := hs.cell 2 (v := .int .i64 s.time) rfl
    have hnl := hn.lt
    have hsl := hs.lt
    go_cut [76] from 69 to 76 (fun v wx => v = .bool g2 ∧ wx = X9)
    case first =>
      cases fr with
      | true =>
        go_wp2_with fail
        go_meet
        exact ⟨by rw [← HG2.out]; rfl, rfl⟩
      | false =>
        go_wp2_with fail
        go_meet
        exact ⟨by rw [← HG2.out]; rfl, rfl⟩
    case rest =>
    obtain ⟨rfl, rfl⟩ := hcut
    clear z0 z2 hnl hsl hs hn
    go_upto_if 76 with fail
    cases g2 with
    | true =>
      obtain rfl : LV = l2 := HLV2.out.symm.trans (if_pos rfl)
      have s10 := hG3.cell 22 (v := .int .i64 LF) (by rw [← HM3.out]; rfl)
      have y22 := hG3.frozen 22
      have hgl := hG3.lt
      go_wp2_with (first | (go_at_call 49; refine (KA.out _ _ (ints_new _ [LF, 1] _ _ rfl rfl)).mono ?_; rintro e w10 ⟨rfl, rfl⟩) | (go_at_call 58; refine (KB2.out _).mono ?_; rintro e w11 ⟨rfl, rfl⟩))
      go_end0
      exact ⟨rfl, A2, c2, ((hG3.set 22 (.int .i64 LV)).as (ds := frontCellsR R p Y A2 c2) (by rw [← HY2.out, ← HM3.out]; simp [frontCellsR])).alloc _, by rw [HYT.out]; exact ((hT.set (p := ⟨G, 22, none⟩) hGN _).next ((Ok.refl _).alloc _)).mono hB.1, (hon.setR 22 _).alloc _⟩
    | false =>
      obtain rfl : LV = LF := HLV2.out.symm.trans (if_neg (by decide))
      go_wp2_with fail
      go_end0
      exact ⟨rfl, A2, c2, hG3.as (by rw [← HY2.out, ← HM3.out]), by rw [HYT.out]; exact hT.mono hB.1, hon⟩
end Go.Proofs.YtmokofblmkeloaaGreatDoor

/- Contracts of layer 21: what the law asks first. -/
namespace Go.Proofs.YtmokofblmkeloaaGreatDoor
open Go.RowKit
set_option linter.unusedVariables false
set_option maxRecDepth 100000
attribute [local go_sem ↓] Go.wp_at_zero Go.wp_at_succ
end Go.Proofs.YtmokofblmkeloaaGreatDoor
