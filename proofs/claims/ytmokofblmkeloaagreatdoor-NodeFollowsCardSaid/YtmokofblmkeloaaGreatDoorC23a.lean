import Derived.Test.YtmokofblmkeloaaGreatDoorC23w
import Derived.Test.YtmokofblmkeloaaGreatDoorP38
import Derived.Test.YtmokofblmkeloaaGreatDoorP24
import Derived.Deep.CutRange
namespace Go.Proofs.YtmokofblmkeloaaGreatDoor
open Go.RowKit
set_option linter.unusedVariables false
set_option maxRecDepth 100000
attribute [local go_sem ↓] Go.wp_at_zero Go.wp_at_succ
theorem makeFn23 : ∀ (fn : Fn) (first cap : Array Value) (w : World), (Instr.makeFunc fn first cap).run Tryz.prog w = .ok (.func fn first cap) w := fun _ _ _ _ => rfl
/-- Where the first message of a number stands. -/
def hIdx (x : Int) (l : List HA) : Int := if l.findIdx (fun k => decide (k.m.frm = x)) < l.length then (l.findIdx (fun k => decide (k.m.frm = x)) : Int) else -1
theorem hIdx_at {x : Int} {l : List HA} {k : Nat} (hk : k < l.length) (hp : l[k].m.frm = x) (hb : ∀ j (hj : j < l.length), j < k → l[j].m.frm ≠ x) : hIdx x l = k := by
  have e : l.findIdx (fun k => decide (k.m.frm = x)) = k := (List.findIdx_eq hk).2 ⟨by simpa using hp, fun j hj => by simpa using hb j (by omega) hj⟩
  unfold hIdx; rw [e, if_pos hk]
theorem hIdx_none {x : Int} {l : List HA} (hb : ∀ j (hj : j < l.length), l[j].m.frm ≠ x) : hIdx x l = -1 := by
  have e : l.findIdx (fun k => decide (k.m.frm = x)) = l.length := List.findIdx_eq_length.2 fun y hy => by
    obtain ⟨j, hj, rfl⟩ := List.mem_iff_getElem.1 hy
    simpa using hb j hj
  unfold hIdx; rw [e, if_neg (Nat.lt_irrefl _)]
theorem hIdx_said (x : Int) (l : List HA) : decide (0 ≤ hIdx x l) = Nod.said HA.hd l x := by
  have key : Nod.said HA.hd l x = decide (l.findIdx (fun k => decide (k.m.frm = x)) < l.length) := by
    unfold Nod.said
    by_cases h : l.findIdx (fun k => decide (k.m.frm = x)) < l.length
    · rw [decide_eq_true h, List.any_eq_true]
      exact ⟨_, List.getElem_mem h, List.findIdx_getElem (w := h)⟩
    · rw [decide_eq_false h, List.any_eq_false]
      intro y hy
      have := List.findIdx_eq_length.1 (Nat.le_antisymm List.findIdx_le_length (Nat.not_lt.1 h)) y hy
      rw [show decide ((HA.hd y).m.frm = x) = false from this]
      simp
  rw [key]
  unfold hIdx
  by_cases h : l.findIdx (fun k => decide (k.m.frm = x)) < l.length
  · rw [if_pos h, decide_eq_true h]; simp
  · rw [if_neg h, decide_eq_false h]; rfl
theorem knownSame (k y : HA) (g : Nat) (w : World) (hO : Own w g #[.int .i64 y.m.kind, .int .i64 y.m.frm, .int .i64 y.m.lo, .int .i64 y.m.hi, .int .i64 y.m.held, .int .i64 y.m.hops, .bool y.m.good, .bool y.m.ref, .int .i64 y.m.slo, .int .i64 y.m.shi, .int .i64 y.m.pulse, .int .i64 y.m.time, .int .i64 y.m.num, .slice y.A y.m.table.length y.cap, .int .i64 y.age]) : Calls Tryz.prog 68 #[.agg #[.int .i64 k.m.kind, .int .i64 k.m.frm, .int .i64 k.m.lo, .int .i64 k.m.hi, .int .i64 k.m.held, .int .i64 k.m.hops, .bool k.m.good, .bool k.m.ref, .int .i64 k.m.slo, .int .i64 k.m.shi, .int .i64 k.m.pulse, .int .i64 k.m.time, .int .i64 k.m.num, .slice k.A k.m.table.length k.cap, .int .i64 k.age], .pointer (some ⟨g, 0, none⟩)] w fun e w' => e = .returned (.bool (decide (k.m.frm = y.m.frm))) ∧ Ok w w' := by
  have hok := (Ok.refl w).alloc (.cells #[.int .i64 k.m.kind, .int .i64 k.m.frm, .int .i64 k.m.lo, .int .i64 k.m.hi, .int .i64 k.m.held, .int .i64 k.m.hops, .bool k.m.good, .bool k.m.ref, .int .i64 k.m.slo, .int .i64 k.m.shi, .int .i64 k.m.pulse, .int .i64 k.m.time, .int .i64 k.m.num, .slice k.A k.m.table.length k.cap, .int .i64 k.age] 65)
  have hK := Own.new w #[.int .i64 k.m.kind, .int .i64 k.m.frm, .int .i64 k.m.lo, .int .i64 k.m.hi, .int .i64 k.m.held, .int .i64 k.m.hops, .bool k.m.good, .bool k.m.ref, .int .i64 k.m.slo, .int .i64 k.m.shi, .int .i64 k.m.pulse, .int .i64 k.m.time, .int .i64 k.m.num, .slice k.A k.m.table.length k.cap, .int .i64 k.age] 65 rfl
  have hO2 := hO.alloc (.cells #[.int .i64 k.m.kind, .int .i64 k.m.frm, .int .i64 k.m.lo, .int .i64 k.m.hi, .int .i64 k.m.held, .int .i64 k.m.hops, .bool k.m.good, .bool k.m.ref, .int .i64 k.m.slo, .int .i64 k.m.shi, .int .i64 k.m.pulse, .int .i64 k.m.time, .int .i64 k.m.num, .slice k.A k.m.table.length k.cap, .int .i64 k.age] 65)
  obtain ⟨R, hR⟩ : ∃ R, decide (k.m.frm = y.m.frm) = R := ⟨_, rfl⟩
  rw [hR]
  clear hO
  go_enter Tryz.func68, Tryz.ntmps68
  go_upto_region 1 with fail
  change Code.wp _ _ _ _ (w.alloc (.cells #[.int .i64 k.m.kind, .int .i64 k.m.frm, .int .i64 k.m.lo, .int .i64 k.m.hi, .int .i64 k.m.held, .int .i64 k.m.hops, .bool k.m.good, .bool k.m.ref, .int .i64 k.m.slo, .int .i64 k.m.shi, .int .i64 k.m.pulse, .int .i64 k.m.time, .int .i64 k.m.num, .slice k.A k.m.table.length k.cap, .int .i64 k.age] 65))
  generalize w.alloc (.cells #[.int .i64 k.m.kind, .int .i64 k.m.frm, .int .i64 k.m.lo, .int .i64 k.m.hi, .int .i64 k.m.held, .int .i64 k.m.hops, .bool k.m.good, .bool k.m.ref, .int .i64 k.m.slo, .int .i64 k.m.shi, .int .i64 k.m.pulse, .int .i64 k.m.time, .int .i64 k.m.num, .slice k.A k.m.table.length k.cap, .int .i64 k.age] 65) = W at hok hK hO2 ⊢
  generalize w.heap.size = Z at hK ⊢
  have k1 := hK.cell 1 (v := .int .i64 k.m.frm) rfl
  have y1 := hO2.cell 1 (v := .int .i64 y.m.frm) rfl
  have hkl := hK.lt
  have hyl := hO2.lt
  have HR := Lib.hid hR
  clear hR
  go_wp2_with fail
  go_ret
  exact ⟨by rw [← HR.out]; rfl, hok⟩
set_option maxHeartbeats 1600000 in
theorem indexKnown (y : HA) (g : Nat) (A : Option Addr) (l : List HA) (cap : Nat) (w : World) (hO : Own w g #[.int .i64 y.m.kind, .int .i64 y.m.frm, .int .i64 y.m.lo, .int .i64 y.m.hi, .int .i64 y.m.held, .int .i64 y.m.hops, .bool y.m.good, .bool y.m.ref, .int .i64 y.m.slo, .int .i64 y.m.shi, .int .i64 y.m.pulse, .int .i64 y.m.time, .int .i64 y.m.num, .slice y.A y.m.table.length y.cap, .int .i64 y.age]) (h : HeardsAt w A l) (hl : l.length ≤ 100000) :
    Calls Tryz.prog 110 #[.slice A l.length cap, .func (.func 68) #[] #[.pointer (some ⟨g, 0, none⟩)]] w fun e w' => e = .returned (.int .i64 (hIdx y.m.frm l)) ∧ Ok w w' := by
  have hok := Ok.refl w
  have KP := Lib.hid h
  have KO := Lib.hid hO
  obtain ⟨R, hR⟩ : ∃ R, hIdx y.m.frm l = R := ⟨_, rfl⟩
  rw [hR]
  have HR := Lib.hid hR
  clear h hO hR
  go_enter Tryz.func110, Tryz.ntmps110
  go_wp2_with fail
  go_loopw [8] (fun v wr => ∃ k : Nat, k ≤ l.length ∧ v = .int .i64 k ∧ Hid (∀ j (hj : j < l.length), j < k → l[j].m.frm ≠ y.m.frm) ∧ Ok w wr) (fun v _ => l.length - (intOf v).toNat)
  case atStart => exact ⟨0, Nat.zero_le _, rfl, Lib.hid (fun j _ h => absurd h (Nat.not_lt_zero _)), hok⟩
  case round =>
    obtain ⟨k, hk, rfl, hrel, hok1⟩ := hrel
    clear hok
    by_cases hlt : k < l.length
    · obtain ⟨b, off, hA, hbs, hcx⟩ := (KP.out.below hok1).nthAt k hlt
      subst hA
      obtain ⟨x, hx⟩ : ∃ x, l[k] = x := ⟨_, rfl⟩
      obtain ⟨t0, t1, t2, t3, t4, t5, t6, t7, t8, t9, t10, t11, t12, t13, t14⟩ := hcx x hx
      have EX := Lib.hid hx
      have K := Lib.hid (knownSame x y g wr (KO.out.next hok1))
      clear hcx hx
      by_cases he : x.m.frm = y.m.frm
      · rw [decide_eq_true he] at K
        have HE : Hid (R = k) := Lib.hid (HR.out ▸ hIdx_at hlt (by rw [EX.out]; exact he) hrel.out)
        clear he hrel HR
        go_wp2_with (go_at_call 68; (with_reducible refine (K.out).mono ?_); rintro e w1 ⟨rfl, hb1⟩)
        go_ret
        exact ⟨by rw [HE.out]; rfl, hok1.trans hb1⟩
      · rw [decide_eq_false he] at K
        have HE := Lib.hid he
        clear he
        go_wp2_with (go_at_call 68; (with_reducible refine (K.out).mono ?_); rintro e w1 ⟨rfl, hb1⟩)
        clear t0 t1 t2 t3 t4 t5 t6 t7 t8 t9 t10 t11 t12 t13 t14
        go_roundw
        case rel =>
          refine ⟨k + 1, by omega, by go_num, Lib.hid fun j hj hjk => ?_, hok1.trans hb1⟩
          by_cases e : j = k
          · subst e; rw [EX.out]; exact HE.out
          · exact hrel.out j hj (by omega)
        case measure => simp [intOf]; omega
    · have HE : Hid (R = -1) := Lib.hid (HR.out ▸ hIdx_none fun j hj => hrel.out j hj (by omega))
      clear HR hrel
      go_wp2_with fail
      go_ret
      exact ⟨by rw [HE.out]; rfl, hok1⟩
theorem containsKnown (y : HA) (g : Nat) (A : Option Addr) (l : List HA) (cap : Nat) (w : World) (hO : Own w g #[.int .i64 y.m.kind, .int .i64 y.m.frm, .int .i64 y.m.lo, .int .i64 y.m.hi, .int .i64 y.m.held, .int .i64 y.m.hops, .bool y.m.good, .bool y.m.ref, .int .i64 y.m.slo, .int .i64 y.m.shi, .int .i64 y.m.pulse, .int .i64 y.m.time, .int .i64 y.m.num, .slice y.A y.m.table.length y.cap, .int .i64 y.age]) (h : HeardsAt w A l) (hl : l.length ≤ 100000) :
    Calls Tryz.prog 67 #[.slice A l.length cap, .func (.func 68) #[] #[.pointer (some ⟨g, 0, none⟩)]] w fun e w' => e = .returned (.bool (Nod.said HA.hd l y.m.frm)) ∧ Ok w w' := by
  have hok := Ok.refl w
  have K := Lib.hid (indexKnown y g A l cap w hO h hl)
  rw [← hIdx_said]
  generalize hIdx y.m.frm l = R at K ⊢
  clear hO h
  go_enter Tryz.func67, Tryz.ntmps67
  go_wp2_with (go_at_call 110; (with_reducible refine (K.out).mono ?_); rintro e w1 ⟨rfl, hb1⟩)
  go_ret
  exact ⟨rfl, hok.trans hb1⟩
namespace Nod
/-- Whether a message counts, if nothing of its sender did. -/
def takes (me : Int) (f : NF) (m : Msg) : Bool := !decide (m.frm = me) && decide (Mem.hearE f m.frm = 0) && counts (Mem.age (Mem.look f m.frm)) m
/-- The neighbours then. -/
def heardOf (me : Int) (f : NF) (m : Msg) : NF := if m.frm = me then f else Mem.hear f m.frm
theorem known1_eq {α : Type} (hd : α → Hd) (me : Int) (o : List α × NF) (h : α) : known1 hd me o h = if said hd o.1 (hd h).m.frm = true then o else (if takes me o.2 (hd h).m = true then o.1 ++ [h] else o.1, heardOf me o.2 (hd h).m) := by
  unfold known1 takes heardOf
  by_cases h1 : said hd o.1 (hd h).m.frm = true
  · rw [if_pos (.inl h1), if_pos h1]
  · rw [if_neg h1]
    by_cases h2 : (hd h).m.frm = me
    · rw [if_pos (.inr h2), if_pos h2, decide_eq_true h2, if_neg (by simp)]
    · rw [if_neg (by intro k; rcases k with k | k; exact h1 k; exact h2 k), if_neg h2, decide_eq_false h2]
      simp only [Bool.not_false, Bool.true_and, Bool.and_eq_true, decide_eq_true_eq]
end Nod
/-- What each operation leaves. -/
def VMKnA (G Z t : Nat) (m : Msg) (a : Int) (q : Bool) (w : World) (v : Value) : Nat → Prop
  | 0 => v = .pointer (some ⟨G, 0, none⟩)
  | 1 => v = .pointer (some ⟨G, 0, none⟩)
  | 2 => v = .pointer (some ⟨G, 24, none⟩)
  | 3 => v = .pointer (some ⟨t, 0, none⟩)
  | 4 => v = .pointer (some ⟨Z, 1, none⟩)
  | 5 => v = .int .i64 m.frm
  | 6 => v = .tuple #[.int .i64 a, .bool q]
  | 7 => v = .tuple #[.int .i64 a, .bool q]
  | 8 => v = .int .i64 a
  | 9 => v = .bool q
  | 10 => v = .int .i64 a
  | 11 => v = .bool q
  | _ => v = .bool true
/-- It stays so. -/
def VCKnA (G Z t : Nat) (m : Msg) (a : Int) (q : Bool) (i : Nat) (v : Value) (w : World) : Prop := ∀ w', Ok w w' → VMKnA G Z t m a q w' v i/-- What each operation leaves. -/
def VMKnE (G Z : Nat) (m : Msg) (me : Int) (w : World) (v : Value) : Nat → Prop
  | 0 => v = .pointer (some ⟨Z, 1, none⟩)
  | 1 => v = .int .i64 m.frm
  | 2 => v = .pointer (some ⟨G, 0, none⟩)
  | 3 => v = .pointer (some ⟨G, 0, none⟩)
  | 4 => v = .pointer (some ⟨G, 23, none⟩)
  | 5 => v = .int .i64 me
  | 6 => v = .bool true
  | 7 => v = .bool true
  | 8 => v = undef
  | 9 => v = undef
  | 10 => v = undef
  | 11 => v = undef
  | 12 => v = undef
  | 13 => v = undef
  | 14 => v = undef
  | 15 => v = undef
  | 16 => v = .bool true
  | _ => v = .bool true
/-- It stays so. -/
def VCKnE (G Z : Nat) (m : Msg) (me : Int) (i : Nat) (v : Value) (w : World) : Prop := ∀ w', Ok w w' → VMKnE G Z m me w' v i/-- What each operation leaves. -/
def VMKnN (G Z t : Nat) (m : Msg) (me : Int) (w : World) (v : Value) : Nat → Prop
  | 0 => v = .pointer (some ⟨Z, 1, none⟩)
  | 1 => v = .int .i64 m.frm
  | 2 => v = .pointer (some ⟨G, 0, none⟩)
  | 3 => v = .pointer (some ⟨G, 0, none⟩)
  | 4 => v = .pointer (some ⟨G, 23, none⟩)
  | 5 => v = .int .i64 me
  | 6 => v = .bool false
  | 7 => v = .bool false
  | 8 => v = .pointer (some ⟨G, 0, none⟩)
  | 9 => v = .pointer (some ⟨G, 0, none⟩)
  | 10 => v = .pointer (some ⟨G, 24, none⟩)
  | 11 => v = .pointer (some ⟨t, 0, none⟩)
  | 12 => v = .pointer (some ⟨Z, 1, none⟩)
  | 13 => v = .int .i64 m.frm
  | _ => v = .bool true
/-- It stays so. -/
def VCKnN (G Z t : Nat) (m : Msg) (me : Int) (i : Nat) (v : Value) (w : World) : Prop := ∀ w', Ok w w' → VMKnN G Z t m me w' v i
set_option maxHeartbeats 3200000 in
theorem nodeKnows (G t b : Nat) (me : Int) (p : Par) (s : Sta) (A : Option Addr) (cap : Nat) (f : NF) (m : Msg) (B : Option Addr) (c : Nat) (w : World) (hN : NodeAt w G t b me p s A cap f) (hx : (Lit.int .i64 m.frm).wf = true) :
    Calls Tryz.prog 69 #[.pointer (some ⟨G, 0, none⟩), msgV m B c] w fun e w' => e = .returned (.bool (Nod.takes me f m)) ∧ Only b w w' ∧ NodeAt w' G t b me p s A cap (Nod.heardOf me f m) := by
  have hM := Own.new w (msgCells m B c) 51 rfl
  have hok := (Ok.refl w).alloc (.cells (msgCells m B c) 51)
  have hN2 := hN.alloc (.cells (msgCells m B c) 51)
  obtain ⟨a, ha⟩ : ∃ y, Mem.age (Mem.look f m.frm) = y := ⟨_, rfl⟩
  obtain ⟨q, hq⟩ : ∃ y, (Mem.look f m.frm).isSome = y := ⟨_, rfl⟩
  have KA := Lib.hid fun W' (h : TabM W' t b f) => memAge t b f m.frm W' h hx
  have KH := Lib.hid fun W' (h : TabM W' t b f) => memHear t b f m.frm W' h hN.good hx
  have HGD := Lib.hid (hN.good.hear m.frm)
  rw [ha, hq] at KA
  have HA_ := Lib.hid ha
  clear ha hq hN
  unfold msgV
  go_enter Tryz.func69, Tryz.ntmps69
  go_upto_region 1 with fail
  change Code.wp _ _ _ _ (w.alloc (.cells (msgCells m B c) 51))
  generalize w.alloc (.cells (msgCells m B c) 51) = W at hM hok hN2 ⊢
  generalize w.heap.size = Z at hM ⊢
  have HM := Lib.hid fun W' (k : Ok W.drew W') => hM.drew.next k
  have HN := Lib.hid fun W' (k : Ok W.drew W') => hN2.next ((Ok.refl W).drew.trans k)
  have HOK := Lib.hid hok
  clear hM hok hN2
  refine wp_region_facts (by kernel_rfl) 47 rfl (VCKnA G Z t m a q) Ok (by kernel_rfl) (fun i v w w' h k w'' k' => h w'' (k.trans k')) (fun a b c => Ok.trans) (Ok.refl _) [some 8, some 9, some 10, some 11, some 12, some 13, some 14, some 7, some 15, some 16, some 5, some 6] rfl 12 rfl ⟨?_, ?_, ?_, ?_, ?_, ?_, ?_, ?_, ?_, ?_, ?_, ?_, trivial⟩ ?_
  · intro a' w' hF hR
    have e0 : a'.tmps[0]? = some (.pointer (some ⟨G, 0, none⟩)) := hF.slot 0 (by kernel_rfl) rfl
    refine wpOp_run (v := .pointer (some ⟨G, 0, none⟩)) rfl rfl ?_ (fun _ _ => rfl) (Ok.refl _)
    clear hF
    go_simp
  · intro a' w' hF hR
    obtain ⟨v0, hv0, e8⟩ := hF.get 0 8 (by kernel_rfl) (by kernel_rfl)
    obtain rfl : v0 = _ := hv0 _ (Ok.refl _)
    refine wpOp_run (v := .pointer (some ⟨G, 0, none⟩)) rfl rfl ?_ (fun _ _ => rfl) (Ok.refl _)
    clear hF
    go_simp
  · intro a' w' hF hR
    obtain ⟨v1, hv1, e9⟩ := hF.get 1 9 (by kernel_rfl) (by kernel_rfl)
    obtain rfl : v1 = _ := hv1 _ (Ok.refl _)
    refine wpOp_run (v := .pointer (some ⟨G, 24, none⟩)) rfl rfl ?_ (fun _ _ => rfl) (Ok.refl _)
    clear hF
    go_simp
  · intro a' w' hF hR
    obtain ⟨v2, hv2, e10⟩ := hF.get 2 10 (by kernel_rfl) (by kernel_rfl)
    obtain rfl : v2 = _ := hv2 _ (Ok.refl _)
    have hn := HN.out _ hR
    have cn := hn.cNear
    have cm := hn.cMe
    have hgl := hn.lt.1
    refine wpOp_run (v := .pointer (some ⟨t, 0, none⟩)) rfl rfl ?_ (fun _ _ => rfl) (Ok.refl _)
    clear hF
    go_simp
  · intro a' w' hF hR
    have e3 : a'.tmps[3]? = some (.pointer (some ⟨Z, 0, none⟩)) := hF.slot 3 (by kernel_rfl) rfl
    refine wpOp_run (v := .pointer (some ⟨Z, 1, none⟩)) rfl rfl ?_ (fun _ _ => rfl) (Ok.refl _)
    clear hF
    go_simp
  · intro a' w' hF hR
    obtain ⟨v4, hv4, e12⟩ := hF.get 4 12 (by kernel_rfl) (by kernel_rfl)
    obtain rfl : v4 = _ := hv4 _ (Ok.refl _)
    have m1 := (HM.out _ hR).cell 1 (v := .int .i64 m.frm) rfl
    have hml := (HM.out _ hR).lt
    refine wpOp_run (v := .int .i64 m.frm) rfl rfl ?_ (fun _ _ => rfl) (Ok.refl _)
    clear hF
    go_simp
  · intro a' w' hF hR
    obtain ⟨v3, hv3, e11⟩ := hF.get 3 11 (by kernel_rfl) (by kernel_rfl)
    obtain rfl : v3 = _ := hv3 _ (Ok.refl _)
    obtain ⟨v5, hv5, e13⟩ := hF.get 5 13 (by kernel_rfl) (by kernel_rfl)
    obtain rfl : v5 = _ := hv5 _ (Ok.refl _)
    clear hF
    refine wpOp_call (f := 111) (args := #[.pointer (some ⟨t, 0, none⟩), .int .i64 m.frm]) rfl rfl ?_ ((KA.out _ (HN.out _ hR).tab).mono ?_)
    · go_simp
    · rintro e w2 ⟨rfl, hb2⟩; exact ⟨_, rfl, fun _ _ => rfl, hb2⟩
  · intro a' w' hF hR
    obtain ⟨v6, hv6, e14⟩ := hF.get 6 14 (by kernel_rfl) (by kernel_rfl)
    obtain rfl : v6 = _ := hv6 _ (Ok.refl _)
    refine wpOp_run (v := .tuple #[.int .i64 a, .bool q]) rfl rfl ?_ (fun _ _ => rfl) (Ok.refl _)
    clear hF
    go_simp
  · intro a' w' hF hR
    obtain ⟨v7, hv7, e7⟩ := hF.get 7 7 (by kernel_rfl) (by kernel_rfl)
    obtain rfl : v7 = _ := hv7 _ (Ok.refl _)
    refine wpOp_run (v := .int .i64 a) rfl rfl ?_ (fun _ _ => rfl) (Ok.refl _)
    clear hF
    go_simp
  · intro a' w' hF hR
    obtain ⟨v7, hv7, e7⟩ := hF.get 7 7 (by kernel_rfl) (by kernel_rfl)
    obtain rfl : v7 = _ := hv7 _ (Ok.refl _)
    refine wpOp_run (v := .bool q) rfl rfl ?_ (fun _ _ => rfl) (Ok.refl _)
    clear hF
    go_simp
  · intro a' w' hF hR
    obtain ⟨v8, hv8, e15⟩ := hF.get 8 15 (by kernel_rfl) (by kernel_rfl)
    obtain rfl : v8 = _ := hv8 _ (Ok.refl _)
    refine wpOp_run (v := .int .i64 a) rfl rfl ?_ (fun _ _ => rfl) (Ok.refl _)
    clear hF
    go_simp
  · intro a' w' hF hR
    obtain ⟨v9, hv9, e16⟩ := hF.get 9 16 (by kernel_rfl) (by kernel_rfl)
    obtain rfl : v9 = _ := hv9 _ (Ok.refl _)
    refine wpOp_run (v := .bool q) rfl rfl ?_ (fun _ _ => rfl) (Ok.refl _)
    clear hF
    go_simp
  intro vs w2 hV hR
  have e10 : vs 10 = .int .i64 a := hV 10 (by decide) _ (Ok.refl _)
  have e11 : vs 11 = .bool q := hV 11 (by decide) _ (Ok.refl _)
  have hM := HM.out _ hR
  have hN2 := HN.out _ hR
  have hok := (HOK.out.trans (Ok.refl W).drew).trans hR
  clear hV HM HN HOK
  simp only [putFrom, e10, e11]
  simp only [Act.put, List.setIfInBounds_toArray, List.set_cons_zero, List.set_cons_succ]
  generalize vs 0 = x20
  generalize vs 1 = x21
  generalize vs 2 = x22
  generalize vs 3 = x23
  generalize vs 4 = x24
  generalize vs 5 = x25
  generalize vs 6 = x26
  generalize vs 7 = x27
  generalize vs 8 = x28
  generalize vs 9 = x29
  clear hR e10 e11 vs
  go_wp2_with fail
  have HM := Lib.hid fun W' (k : Ok w2.drew W') => hM.drew.next k
  have HN := Lib.hid fun W' (k : Ok w2.drew W') => hN2.next ((Ok.refl w2).drew.trans k)
  have HOK := Lib.hid hok
  clear hM hok hN2
  by_cases hme : m.frm = me
  · have HE := Lib.hid hme
    have HR : Hid (Nod.takes me f m = false ∧ Nod.heardOf me f m = f) := Lib.hid ⟨by unfold Nod.takes; rw [decide_eq_true hme]; rfl, by unfold Nod.heardOf; rw [if_pos hme]⟩
    clear hme
    refine wp_region_facts (by kernel_rfl) 47 rfl (VCKnE G Z m me) Ok (by kernel_rfl) (fun i v w w' h k w'' k' => h w'' (k.trans k')) (fun a b c => Ok.trans) (Ok.refl _) [some 17, some 18, some 19, some 20, some 21, some 22, some 23, some 24, some 25, some 26, some 27, some 28, some 29, some 30, some 31, some 32, some 33] rfl 17 rfl ⟨?_, ?_, ?_, ?_, ?_, ?_, ?_, ?_, ?_, ?_, ?_, ?_, ?_, ?_, ?_, ?_, ?_, trivial⟩ ?_
    · intro a' w' hF hR
      have e3 : a'.tmps[3]? = some (.pointer (some ⟨Z, 0, none⟩)) := hF.slot 3 (by kernel_rfl) rfl
      refine wpOp_run (v := .pointer (some ⟨Z, 1, none⟩)) rfl rfl ?_ (fun _ _ => rfl) (Ok.refl _)
      clear hF
      go_simp
    · intro a' w' hF hR
      obtain ⟨v0, hv0, e17⟩ := hF.get 0 17 (by kernel_rfl) (by kernel_rfl)
      obtain rfl : v0 = _ := hv0 _ (Ok.refl _)
      have m1 := (HM.out _ hR).cell 1 (v := .int .i64 m.frm) rfl
      have hml := (HM.out _ hR).lt
      refine wpOp_run (v := .int .i64 m.frm) rfl rfl ?_ (fun _ _ => rfl) (Ok.refl _)
      clear hF
      go_simp
    · intro a' w' hF hR
      have e0 : a'.tmps[0]? = some (.pointer (some ⟨G, 0, none⟩)) := hF.slot 0 (by kernel_rfl) rfl
      refine wpOp_run (v := .pointer (some ⟨G, 0, none⟩)) rfl rfl ?_ (fun _ _ => rfl) (Ok.refl _)
      clear hF
      go_simp
    · intro a' w' hF hR
      obtain ⟨v2, hv2, e19⟩ := hF.get 2 19 (by kernel_rfl) (by kernel_rfl)
      obtain rfl : v2 = _ := hv2 _ (Ok.refl _)
      refine wpOp_run (v := .pointer (some ⟨G, 0, none⟩)) rfl rfl ?_ (fun _ _ => rfl) (Ok.refl _)
      clear hF
      go_simp
    · intro a' w' hF hR
      obtain ⟨v3, hv3, e20⟩ := hF.get 3 20 (by kernel_rfl) (by kernel_rfl)
      obtain rfl : v3 = _ := hv3 _ (Ok.refl _)
      refine wpOp_run (v := .pointer (some ⟨G, 23, none⟩)) rfl rfl ?_ (fun _ _ => rfl) (Ok.refl _)
      clear hF
      go_simp
    · intro a' w' hF hR
      obtain ⟨v4, hv4, e21⟩ := hF.get 4 21 (by kernel_rfl) (by kernel_rfl)
      obtain rfl : v4 = _ := hv4 _ (Ok.refl _)
      have hn := HN.out _ hR
      have cn := hn.cNear
      have cm := hn.cMe
      have hgl := hn.lt.1
      refine wpOp_run (v := .int .i64 me) rfl rfl ?_ (fun _ _ => rfl) (Ok.refl _)
      clear hF
      go_simp
    · intro a' w' hF hR
      obtain ⟨v1, hv1, e18⟩ := hF.get 1 18 (by kernel_rfl) (by kernel_rfl)
      obtain rfl : v1 = _ := hv1 _ (Ok.refl _)
      obtain ⟨v5, hv5, e22⟩ := hF.get 5 22 (by kernel_rfl) (by kernel_rfl)
      obtain rfl : v5 = _ := hv5 _ (Ok.refl _)
      have e2 : (m.frm == me) = true := by simpa using HE.out
      refine wpOp_run (v := .bool true) rfl rfl ?_ (fun _ _ => rfl) (Ok.refl _)
      clear hF
      go_simp
    · intro a' w' hF hR
      obtain ⟨v6, hv6, e23⟩ := hF.get 6 23 (by kernel_rfl) (by kernel_rfl)
      obtain rfl : v6 = _ := hv6 _ (Ok.refl _)
      refine wpOp_run (v := .bool true) rfl rfl ?_ (fun _ _ => rfl) (Ok.refl _)
      clear hF
      go_simp
    · intro a' w' hF hR
      obtain ⟨vg, hvg, eg⟩ := hF.get 7 24 (by kernel_rfl) (by kernel_rfl)
      obtain rfl : vg = _ := hvg _ (Ok.refl _)
      exact wpOp_skip rfl (wanted_not rfl (by kernel_rfl) eg (by simp)) (fun _ _ => rfl) (Ok.refl _)
    · intro a' w' hF hR
      obtain ⟨vg, hvg, eg⟩ := hF.get 7 24 (by kernel_rfl) (by kernel_rfl)
      obtain rfl : vg = _ := hvg _ (Ok.refl _)
      exact wpOp_skip rfl (wanted_not rfl (by kernel_rfl) eg (by simp)) (fun _ _ => rfl) (Ok.refl _)
    · intro a' w' hF hR
      obtain ⟨vg, hvg, eg⟩ := hF.get 7 24 (by kernel_rfl) (by kernel_rfl)
      obtain rfl : vg = _ := hvg _ (Ok.refl _)
      exact wpOp_skip rfl (wanted_not rfl (by kernel_rfl) eg (by simp)) (fun _ _ => rfl) (Ok.refl _)
    · intro a' w' hF hR
      obtain ⟨vg, hvg, eg⟩ := hF.get 7 24 (by kernel_rfl) (by kernel_rfl)
      obtain rfl : vg = _ := hvg _ (Ok.refl _)
      exact wpOp_skip rfl (wanted_not rfl (by kernel_rfl) eg (by simp)) (fun _ _ => rfl) (Ok.refl _)
    · intro a' w' hF hR
      obtain ⟨vg, hvg, eg⟩ := hF.get 7 24 (by kernel_rfl) (by kernel_rfl)
      obtain rfl : vg = _ := hvg _ (Ok.refl _)
      exact wpOp_skip rfl (wanted_not rfl (by kernel_rfl) eg (by simp)) (fun _ _ => rfl) (Ok.refl _)
    · intro a' w' hF hR
      obtain ⟨vg, hvg, eg⟩ := hF.get 7 24 (by kernel_rfl) (by kernel_rfl)
      obtain rfl : vg = _ := hvg _ (Ok.refl _)
      exact wpOp_skip rfl (wanted_not rfl (by kernel_rfl) eg (by simp)) (fun _ _ => rfl) (Ok.refl _)
    · intro a' w' hF hR
      obtain ⟨vg, hvg, eg⟩ := hF.get 7 24 (by kernel_rfl) (by kernel_rfl)
      obtain rfl : vg = _ := hvg _ (Ok.refl _)
      exact wpOp_skip rfl (wanted_not rfl (by kernel_rfl) eg (by simp)) (fun _ _ => rfl) (Ok.refl _)
    · intro a' w' hF hR
      obtain ⟨vg, hvg, eg⟩ := hF.get 7 24 (by kernel_rfl) (by kernel_rfl)
      obtain rfl : vg = _ := hvg _ (Ok.refl _)
      exact wpOp_skip rfl (wanted_not rfl (by kernel_rfl) eg (by simp)) (fun _ _ => rfl) (Ok.refl _)
    · intro a' w' hF hR
      obtain ⟨v7, hv7, e24⟩ := hF.get 7 24 (by kernel_rfl) (by kernel_rfl)
      obtain rfl : v7 = _ := hv7 _ (Ok.refl _)
      obtain ⟨v15, hv15, e32⟩ := hF.get 15 32 (by kernel_rfl) (by kernel_rfl)
      obtain rfl : v15 = _ := hv15 _ (Ok.refl _)
      refine wpOp_run (v := .bool true) rfl rfl ?_ (fun _ _ => rfl) (Ok.refl _)
      clear hF
      go_simp
    intro vs W' hV hR
    have e16 : vs 16 = .bool true := hV 16 (by decide) _ (Ok.refl _)
    have hn := HN.out _ hR
    have hok := (HOK.out.trans (Ok.refl w2).drew).trans hR
    clear hV HM HN HOK KA KH
    simp only [putFrom, e16]
    simp only [Act.put, List.setIfInBounds_toArray, List.set_cons_zero, List.set_cons_succ]
    generalize vs 0 = x50
    generalize vs 1 = x51
    generalize vs 2 = x52
    generalize vs 3 = x53
    generalize vs 4 = x54
    generalize vs 5 = x55
    generalize vs 6 = x56
    generalize vs 7 = x57
    generalize vs 8 = x58
    generalize vs 9 = x59
    generalize vs 10 = x60
    generalize vs 11 = x61
    generalize vs 12 = x62
    generalize vs 13 = x63
    generalize vs 14 = x64
    generalize vs 15 = x65
    clear hR e16 vs
    go_wp2_with fail
    go_ret
    exact ⟨by rw [HR.out.1]; first | done | rfl | trivial, Only.of_ok hok, by rw [HR.out.2]; exact hn⟩
  · have HE := Lib.hid hme
    have HF : Hid (Nod.heardOf me f m = Mem.hear f m.frm) := Lib.hid (by unfold Nod.heardOf; rw [if_neg hme])
    obtain ⟨eb, heb⟩ : ∃ b, (Mem.hearE f m.frm != 0) = b := ⟨_, rfl⟩
    have HEB := Lib.hid heb
    have HB1 : Hid (eb = true → Nod.takes me f m = false) := Lib.hid fun h => by
      have h1 : Mem.hearE f m.frm ≠ 0 := by rw [h] at heb; simpa using heb
      unfold Nod.takes
      rw [decide_eq_false h1]
      simp
    have HB2 : Hid (eb = false → Nod.takes me f m = Nod.counts a m) := Lib.hid fun h => by
      have h1 : Mem.hearE f m.frm = 0 := by rw [h] at heb; simpa using heb
      unfold Nod.takes
      rw [decide_eq_true h1, decide_eq_false hme, HA_.out]
      rfl
    clear hme heb
    refine wp_region_facts_chain (by kernel_rfl) 5 47 rfl (VCKnN G Z t m me) Ok _ 14 rfl rfl (by decide) (by kernel_rfl) (by kernel_rfl) (by kernel_rfl) (by kernel_rfl) (fun i v w w' h k w'' k' => h w'' (k.trans k')) (fun a b c => Ok.trans) (Ok.refl _) [some 17, some 18, some 19, some 20, some 21, some 22, some 23, some 24, some 25, some 26, some 27, some 28, some 29, some 30] rfl _ rfl ⟨?_, ?_, ?_, ?_, ?_, ?_, ?_, ?_, ?_, ?_, ?_, ?_, ?_, ?_, trivial⟩ ?_
    · intro a' w' hF hR
      have e3 : a'.tmps[3]? = some (.pointer (some ⟨Z, 0, none⟩)) := hF.slot 3 (by kernel_rfl) rfl
      refine wpOp_run (v := .pointer (some ⟨Z, 1, none⟩)) rfl rfl ?_ (fun _ _ => rfl) (Ok.refl _)
      clear hF
      go_simp
    · intro a' w' hF hR
      obtain ⟨v0, hv0, e17⟩ := hF.get 0 17 (by kernel_rfl) (by kernel_rfl)
      obtain rfl : v0 = _ := hv0 _ (Ok.refl _)
      have m1 := (HM.out _ hR).cell 1 (v := .int .i64 m.frm) rfl
      have hml := (HM.out _ hR).lt
      refine wpOp_run (v := .int .i64 m.frm) rfl rfl ?_ (fun _ _ => rfl) (Ok.refl _)
      clear hF
      go_simp
    · intro a' w' hF hR
      have e0 : a'.tmps[0]? = some (.pointer (some ⟨G, 0, none⟩)) := hF.slot 0 (by kernel_rfl) rfl
      refine wpOp_run (v := .pointer (some ⟨G, 0, none⟩)) rfl rfl ?_ (fun _ _ => rfl) (Ok.refl _)
      clear hF
      go_simp
    · intro a' w' hF hR
      obtain ⟨v2, hv2, e19⟩ := hF.get 2 19 (by kernel_rfl) (by kernel_rfl)
      obtain rfl : v2 = _ := hv2 _ (Ok.refl _)
      refine wpOp_run (v := .pointer (some ⟨G, 0, none⟩)) rfl rfl ?_ (fun _ _ => rfl) (Ok.refl _)
      clear hF
      go_simp
    · intro a' w' hF hR
      obtain ⟨v3, hv3, e20⟩ := hF.get 3 20 (by kernel_rfl) (by kernel_rfl)
      obtain rfl : v3 = _ := hv3 _ (Ok.refl _)
      refine wpOp_run (v := .pointer (some ⟨G, 23, none⟩)) rfl rfl ?_ (fun _ _ => rfl) (Ok.refl _)
      clear hF
      go_simp
    · intro a' w' hF hR
      obtain ⟨v4, hv4, e21⟩ := hF.get 4 21 (by kernel_rfl) (by kernel_rfl)
      obtain rfl : v4 = _ := hv4 _ (Ok.refl _)
      have hn := HN.out _ hR
      have cn := hn.cNear
      have cm := hn.cMe
      have hgl := hn.lt.1
      refine wpOp_run (v := .int .i64 me) rfl rfl ?_ (fun _ _ => rfl) (Ok.refl _)
      clear hF
      go_simp
    · intro a' w' hF hR
      obtain ⟨v1, hv1, e18⟩ := hF.get 1 18 (by kernel_rfl) (by kernel_rfl)
      obtain rfl : v1 = _ := hv1 _ (Ok.refl _)
      obtain ⟨v5, hv5, e22⟩ := hF.get 5 22 (by kernel_rfl) (by kernel_rfl)
      obtain rfl : v5 = _ := hv5 _ (Ok.refl _)
      have e2 : (m.frm == me) = false := by simpa using HE.out
      refine wpOp_run (v := .bool false) rfl rfl ?_ (fun _ _ => rfl) (Ok.refl _)
      clear hF
      go_simp
    · intro a' w' hF hR
      obtain ⟨v6, hv6, e23⟩ := hF.get 6 23 (by kernel_rfl) (by kernel_rfl)
      obtain rfl : v6 = _ := hv6 _ (Ok.refl _)
      refine wpOp_run (v := .bool false) rfl rfl ?_ (fun _ _ => rfl) (Ok.refl _)
      clear hF
      go_simp
    · intro a' w' hF hR
      have e0 : a'.tmps[0]? = some (.pointer (some ⟨G, 0, none⟩)) := hF.slot 0 (by kernel_rfl) rfl
      obtain ⟨vg, hvg, eg⟩ := hF.get 7 24 (by kernel_rfl) (by kernel_rfl)
      obtain rfl : vg = _ := hvg _ (Ok.refl _)
      refine wpOp_runG (v := .pointer (some ⟨G, 0, none⟩)) rfl (wanted_yes rfl (by kernel_rfl) eg) ?_ (fun _ _ => rfl) (Ok.refl _)
      clear hF
      go_simp
    · intro a' w' hF hR
      obtain ⟨v8, hv8, e25⟩ := hF.get 8 25 (by kernel_rfl) (by kernel_rfl)
      obtain rfl : v8 = _ := hv8 _ (Ok.refl _)
      obtain ⟨vg, hvg, eg⟩ := hF.get 7 24 (by kernel_rfl) (by kernel_rfl)
      obtain rfl : vg = _ := hvg _ (Ok.refl _)
      refine wpOp_runG (v := .pointer (some ⟨G, 0, none⟩)) rfl (wanted_yes rfl (by kernel_rfl) eg) ?_ (fun _ _ => rfl) (Ok.refl _)
      clear hF
      go_simp
    · intro a' w' hF hR
      obtain ⟨v9, hv9, e26⟩ := hF.get 9 26 (by kernel_rfl) (by kernel_rfl)
      obtain rfl : v9 = _ := hv9 _ (Ok.refl _)
      obtain ⟨vg, hvg, eg⟩ := hF.get 7 24 (by kernel_rfl) (by kernel_rfl)
      obtain rfl : vg = _ := hvg _ (Ok.refl _)
      refine wpOp_runG (v := .pointer (some ⟨G, 24, none⟩)) rfl (wanted_yes rfl (by kernel_rfl) eg) ?_ (fun _ _ => rfl) (Ok.refl _)
      clear hF
      go_simp
    · intro a' w' hF hR
      obtain ⟨v10, hv10, e27⟩ := hF.get 10 27 (by kernel_rfl) (by kernel_rfl)
      obtain rfl : v10 = _ := hv10 _ (Ok.refl _)
      obtain ⟨vg, hvg, eg⟩ := hF.get 7 24 (by kernel_rfl) (by kernel_rfl)
      obtain rfl : vg = _ := hvg _ (Ok.refl _)
      have hn := HN.out _ hR
      have cn := hn.cNear
      have cm := hn.cMe
      have hgl := hn.lt.1
      refine wpOp_runG (v := .pointer (some ⟨t, 0, none⟩)) rfl (wanted_yes rfl (by kernel_rfl) eg) ?_ (fun _ _ => rfl) (Ok.refl _)
      clear hF
      go_simp
    · intro a' w' hF hR
      have e3 : a'.tmps[3]? = some (.pointer (some ⟨Z, 0, none⟩)) := hF.slot 3 (by kernel_rfl) rfl
      obtain ⟨vg, hvg, eg⟩ := hF.get 7 24 (by kernel_rfl) (by kernel_rfl)
      obtain rfl : vg = _ := hvg _ (Ok.refl _)
      refine wpOp_runG (v := .pointer (some ⟨Z, 1, none⟩)) rfl (wanted_yes rfl (by kernel_rfl) eg) ?_ (fun _ _ => rfl) (Ok.refl _)
      clear hF
      go_simp
    · intro a' w' hF hR
      obtain ⟨v12, hv12, e29⟩ := hF.get 12 29 (by kernel_rfl) (by kernel_rfl)
      obtain rfl : v12 = _ := hv12 _ (Ok.refl _)
      obtain ⟨vg, hvg, eg⟩ := hF.get 7 24 (by kernel_rfl) (by kernel_rfl)
      obtain rfl : vg = _ := hvg _ (Ok.refl _)
      have m1 := (HM.out _ hR).cell 1 (v := .int .i64 m.frm) rfl
      have hml := (HM.out _ hR).lt
      refine wpOp_runG (v := .int .i64 m.frm) rfl (wanted_yes rfl (by kernel_rfl) eg) ?_ (fun _ _ => rfl) (Ok.refl _)
      clear hF
      go_simp
    intro vs W' hvs hR
    have e7 : vs 7 = .bool false := hvs 7 (by decide) _ (Ok.refl _)
    have e11 : vs 11 = .pointer (some ⟨t, 0, none⟩) := hvs 11 (by decide) _ (Ok.refl _)
    have e13 : vs 13 = .int .i64 m.frm := hvs 13 (by decide) _ (Ok.refl _)
    have hn := HN.out _ hR
    have hM := HM.out _ hR
    have hok := (HOK.out.trans (Ok.refl w2).drew).trans hR
    clear hvs HN HM HOK KA
    simp only [putFrom, e7, e11, e13]
    simp only [Act.put, List.setIfInBounds_toArray, List.set_cons_zero, List.set_cons_succ]
    refine wpOp_entersG (o := ⟨some 31, _, _, _, _, some (7, false)⟩) (f := 112) (args := #[.pointer (some ⟨t, 0, none⟩), .int .i64 m.frm]) rfl (wanted_yes (d := 24) rfl (by kernel_rfl) rfl) ?_ ((KH.out _ hn.tab).mono ?_)
    · go_simp
    rintro e w5 ⟨rfl, hb5, hT5⟩
    refine ⟨_, rfl, ?_⟩
    simp only [TailFrom]
    simp only [Act.put, List.setIfInBounds_toArray, List.set_cons_zero, List.set_cons_succ]
    have hZb := hn.tab.cells_ne hM
    replace hM := hb5.own hM hZb
    replace hn := hn.turn hb5 hT5 HGD.out
    have hon := (Only.of_ok (r := b) hok).trans hb5
    clear hb5 hT5 hok hZb
    refine wpOp_leavesG (o := ⟨some 32, _, _, _, _, some (7, false)⟩) (v := .bool eb) (w' := w5) rfl (wanted_yes (d := 24) rfl (by kernel_rfl) rfl) ?_ ?_
    · have e2 := HEB.out; go_simp
    simp only [Act.put, List.setIfInBounds_toArray, List.set_cons_zero, List.set_cons_succ]
    refine wpOp_leaves (o := ⟨some 33, _, _, _, _, none⟩) (v := .bool eb) (w' := w5) rfl rfl ?_ ?_
    · go_simp
    simp only [Act.put, List.setIfInBounds_toArray, List.set_cons_zero, List.set_cons_succ]
    clear e7 e11 e13 hR
    generalize vs 0 = x50
    generalize vs 1 = x51
    generalize vs 2 = x52
    generalize vs 3 = x53
    generalize vs 4 = x54
    generalize vs 5 = x55
    generalize vs 6 = x56
    generalize vs 7 = x57
    generalize vs 8 = x58
    generalize vs 9 = x59
    generalize vs 10 = x60
    generalize vs 11 = x61
    generalize vs 12 = x62
    generalize vs 13 = x63
    clear vs
    have m1 := hM.cell 1 (v := .int .i64 m.frm) rfl
    have m0 := hM.cell 0 (v := .int .i64 m.kind) rfl
    have hml := hM.lt
    cases eb with
    | true =>
      have HQ1 := Lib.hid (HB1.out rfl)
      clear HB1 HB2
      go_wp2_with fail
      go_ret
      exact ⟨by rw [HQ1.out]; first | done | rfl | trivial, hon, by rw [HF.out]; exact hn⟩
    | false =>
      have HQ2 := Lib.hid (HB2.out rfl)
      clear HB1 HB2
      by_cases h16 : m.frm < 16
      · by_cases hk1 : m.kind = 1
        · have HR : Hid (Nod.takes me f m = true) := Lib.hid (by rw [HQ2.out]; exact decide_eq_true (.inl ⟨h16, hk1⟩))
          rw [hk1] at m0; clear hk1
          go_wp2_with fail
          go_ret
          exact ⟨by rw [HR.out]; first | done | rfl | trivial, hon, by rw [HF.out]; exact hn⟩
        · have HR : Hid (Nod.takes me f m = false) := Lib.hid (by rw [HQ2.out]; exact decide_eq_false (by rintro (g | g); exact hk1 g.2; omega))
          have K1 : Hid ((m.kind == 1) = false) := Lib.hid (by simpa using hk1)
          go_wp2_with fail
          go_ret
          exact ⟨by rw [HR.out]; show Ending.returned (.bool (m.kind == 1)) = _; rw [K1.out], hon, by rw [HF.out]; exact hn⟩
      · by_cases hk2 : m.kind = 2
        · by_cases ha : 0 < a
          · have HR : Hid (Nod.takes me f m = true) := Lib.hid (by rw [HQ2.out]; exact decide_eq_true (.inr ⟨by omega, hk2, ha⟩))
            rw [hk2] at m0; clear hk2
            go_wp2_with fail
            go_ret
            exact ⟨by rw [HR.out]; first | done | rfl | trivial, hon, by rw [HF.out]; exact hn⟩
          · have HR : Hid (Nod.takes me f m = false) := Lib.hid (by rw [HQ2.out]; exact decide_eq_false (by rintro (g | g); exact h16 g.1; exact ha g.2.2))
            rw [hk2] at m0; clear hk2
            go_wp2_with fail
            go_ret
            exact ⟨by rw [HR.out]; first | done | rfl | trivial, hon, by rw [HF.out]; exact hn⟩
        · have HR : Hid (Nod.takes me f m = false) := Lib.hid (by rw [HQ2.out]; exact decide_eq_false (by rintro (g | g); exact h16 g.1; exact hk2 g.2.1))
          have e22 : (m.kind == 2) = false := by simpa using hk2
          go_wp2_with fail
          go_ret
          exact ⟨by rw [HR.out]; first | done | rfl | trivial, hon, by rw [HF.out]; exact hn⟩
end Go.Proofs.YtmokofblmkeloaaGreatDoor
