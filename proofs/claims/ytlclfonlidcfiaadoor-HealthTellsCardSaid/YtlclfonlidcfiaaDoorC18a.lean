/- Contracts of layer 18: where an entry stands, Good, the offset, Next, isCount: the program's. -/
import Derived.Test.YtlclfonlidcfiaaDoorCQ
import Derived.Test.YtlclfonlidcfiaaDoorC02b
import Derived.Test.YtlclfonlidcfiaaDoorC06h
import Derived.Test.YtlclfonlidcfiaaDoorWA
import Derived.Test.YtlclfonlidcfiaaDoorMA
import Derived.Deep.QuietTactic
import Derived.Deep.DrawnRows
import Derived.BigQuiet
namespace Go.Proofs.YtlclfonlidcfiaaDoor
open Go.RowKit
set_option maxRecDepth 100000
attribute [local go_sem ↓] Go.wp_at_zero Go.wp_at_succ
theorem makeFn : ∀ (fn : Fn) (first cap : Array Value) (w : World), (Instr.makeFunc fn first cap).run Tryd.prog w = .ok (.func fn first cap) w := fun _ _ _ _ => rfl
/-- What IndexFunc answers. -/
def Leap.idx (p : Int × Int → Bool) (l : List (Int × Int)) : Int := if l.findIdx p < l.length then (l.findIdx p : Int) else -1
theorem Leap.idx_at {p : Int × Int → Bool} {l : List (Int × Int)} {k : Nat} (hk : k < l.length) (hp : p l[k] = true) (hb : ∀ j (hj : j < l.length), j < k → p l[j] = false) : Leap.idx p l = k := by
  have e : l.findIdx p = k := (List.findIdx_eq hk).2 ⟨hp, fun j hj => hb j (by omega) hj⟩
  unfold Leap.idx; rw [e, if_pos hk]
theorem Leap.idx_none {p : Int × Int → Bool} {l : List (Int × Int)} (hb : ∀ j (hj : j < l.length), p l[j] = false) : Leap.idx p l = -1 := by
  have e : l.findIdx p = l.length := List.findIdx_eq_length.2 fun x hx => by
    obtain ⟨j, hj, rfl⟩ := List.mem_iff_getElem.1 hx
    exact hb j hj
  unfold Leap.idx; rw [e, if_neg (Nat.lt_irrefl _)]
theorem goneIs (a b c : Int) (g : Nat) (w : World) (hc : w.cell? ⟨g, 0, none⟩ = some (.int .i64 c)) (hg : g < w.heap.size) : Calls Tryd.prog 89 #[.agg #[.int .i64 a, .int .i64 b], .pointer (some ⟨g, 0, none⟩)] w fun e w' => e = .returned (.bool (decide (c < a))) ∧ Ok w w' := by
  have hok := Ok.refl w
  have hc1 : (w.alloc (.cells #[.int .i64 a, .int .i64 b] 77)).cell? ⟨g, 0, none⟩ = some (.int .i64 c) := ((below_alloc w _).cell (p := ⟨g, 0, none⟩) hg).trans hc
  go_enter Tryd.func89, Tryd.ntmps89
  go_wp2_with fail
  go_ret
  exact ⟨rfl, hok.alloc _⟩
set_option maxHeartbeats 800000 in
theorem indexGone (c : Int) (g : Nat) (A : Option Addr) (l : List (Int × Int)) (cap : Nat) (w : World) (hc : w.cell? ⟨g, 0, none⟩ = some (.int .i64 c)) (hg : g < w.heap.size) (h : PairsAt w A l) (hl : l.length ≤ 9223372036854775807) :
    Calls Tryd.prog 79 #[.slice A l.length cap, .func (.func 89) #[] #[.pointer (some ⟨g, 0, none⟩)]] w fun e w' => e = .returned (.int .i64 (Leap.idx (fun e => decide (c < e.1)) l)) ∧ Ok w w' := by
  have hok := Ok.refl w
  have KP := Lib.hid h
  have KC := Lib.hid hc
  obtain ⟨R, hR⟩ : ∃ R, Leap.idx (fun e => decide (c < e.1)) l = R := ⟨_, rfl⟩
  rw [hR]
  have HR := Lib.hid hR
  clear h hc hR
  go_enter Tryd.func79, Tryd.ntmps79
  go_wp2_with fail
  go_loopw [8] (fun v wr => ∃ k : Nat, k ≤ l.length ∧ v = .int .i64 k ∧ Hid (∀ j (hj : j < l.length), j < k → decide (c < l[j].1) = false) ∧ Ok w wr) (fun v _ => l.length - (intOf v).toNat)
  case atStart => exact ⟨0, Nat.zero_le _, rfl, Lib.hid (fun j _ h => absurd h (Nat.not_lt_zero _)), hok⟩
  case round =>
    obtain ⟨k, hk, rfl, hrel, hok1⟩ := hrel
    clear hok
    by_cases hlt : k < l.length
    · obtain ⟨b, off, hA, hbs, c1, c2⟩ := KP.out.below hok1 k hlt
      subst hA
      obtain ⟨a, ea⟩ : ∃ x, l[k].1 = x := ⟨_, rfl⟩
      obtain ⟨o, eo⟩ : ∃ x, l[k].2 = x := ⟨_, rfl⟩
      rw [ea] at c1
      rw [eo] at c2
      have EA := Lib.hid ea
      clear eo ea
      have K := Lib.hid (goneIs a o c g wr ((hok1.cell (p := ⟨g, 0, none⟩) hg).trans KC.out) (Nat.lt_of_lt_of_le hg hok1.size))
      by_cases he : c < a
      · rw [decide_eq_true he] at K
        have HE : Hid (R = k) := Lib.hid (HR.out ▸ Leap.idx_at hlt (by rw [EA.out]; exact decide_eq_true he) hrel.out)
        clear he hrel HR
        go_wp2_with (go_at_call 89; (with_reducible refine (K.out).mono ?_); rintro e w1 ⟨rfl, hb1⟩)
        go_ret
        exact ⟨by rw [HE.out]; rfl, hok1.trans hb1⟩
      · rw [decide_eq_false he] at K
        have HE := Lib.hid he
        clear he
        go_wp2_with (go_at_call 89; (with_reducible refine (K.out).mono ?_); rintro e w1 ⟨rfl, hb1⟩)
        go_roundw
        case rel =>
          refine ⟨k + 1, by omega, by go_num, Lib.hid fun j hj hjk => ?_, hok1.trans hb1⟩
          by_cases e : j = k
          · subst e; rw [EA.out]; exact decide_eq_false (by have := HE.out; omega)
          · exact hrel.out j hj (by omega)
        case measure => simp [intOf]; omega
    · have HE : Hid (R = -1) := Lib.hid (HR.out ▸ Leap.idx_none fun j hj => hrel.out j hj (by omega))
      clear HR hrel
      go_wp2_with fail
      go_ret
      exact ⟨by rw [HE.out]; rfl, hok1⟩
theorem leapGone (A : Option Addr) (l : List (Int × Int)) (cap : Nat) (c : Int) (w : World) (h : PairsAt w A l) (hl : l.length ≤ 9223372036854775807) :
    Calls Tryd.prog 80 #[.slice A l.length cap, .int .i64 c] w fun e w' => e = .returned (.int .i64 (Leap.gone c l)) ∧ Ok w w' := by
  have hok := (Ok.refl w).alloc (.cells #[.int .i64 c] 3)
  have hO := Own.new w #[.int .i64 c] 3 rfl
  have q1 := makeFn
  have hle := Leap.gone_le c l
  have K := Lib.hid (indexGone c w.heap.size A l cap _ (hO.cell 0 rfl) hO.lt (h.below hok) hl)
  have e : Leap.idx (fun e => decide (c < e.1)) l = if Leap.gone c l < l.length then (Leap.gone c l : Int) else -1 := rfl
  rw [e] at K
  clear e hO h
  by_cases hlt : Leap.gone c l < l.length
  · rw [if_pos hlt] at K
    generalize Leap.gone c l = n at *
    go_enter Tryd.func80, Tryd.ntmps80
    go_wp2_with (go_at_call 79; (with_reducible refine (K.out).mono ?_); rintro e w1 ⟨rfl, hb1⟩)
    go_ret
    exact ⟨rfl, hok.trans hb1⟩
  · rw [if_neg hlt] at K
    have e : Leap.gone c l = l.length := by omega
    rw [e]
    clear e hlt hle
    go_enter Tryd.func80, Tryd.ntmps80
    go_wp2_with (go_at_call 79; (with_reducible refine (K.out).mono ?_); rintro e w1 ⟨rfl, hb1⟩)
    go_ret
    exact ⟨rfl, hok.trans hb1⟩
theorem leapOffset (A : Option Addr) (l : List (Int × Int)) (cap : Nat) (c : Int) (w : World) (h : PairsAt w A l) (hl : l.length ≤ 9223372036854775807) :
    Calls Tryd.prog 66 #[.slice A l.length cap, .int .i64 c] w fun e w' => e = .returned (.int .i64 (Leap.ofs 0 c l)) ∧ Ok w w' := by
  have hok := Ok.refl w
  have K := Lib.hid (leapGone A l cap c w h hl)
  have hle := Leap.gone_le c l
  unfold Leap.ofs
  generalize Leap.gone c l = n at *
  cases n with
  | zero =>
    clear h
    simp only []
    go_enter Tryd.func66, Tryd.ntmps66
    go_wp2_with (go_at_call 80; (with_reducible refine (K.out).mono ?_); rintro e w1 ⟨rfl, hb1⟩; replace hok := hok.trans hb1; clear hb1)
    go_ret
    exact ⟨rfl, hok⟩
  | succ k =>
    have HP := Lib.hid h
    simp only [List.getElem?_eq_getElem (show k < l.length by omega)]
    obtain ⟨a, ea⟩ : ∃ x, l[k].1 = x := ⟨_, rfl⟩
    obtain ⟨o, eo⟩ : ∃ x, l[k].2 = x := ⟨_, rfl⟩
    obtain ⟨b, off, hA, hbs, c1, c2⟩ := h k (by omega)
    subst hA
    rw [ea] at c1
    rw [eo] at c2 ⊢
    clear h ea eo HP
    go_enter Tryd.func66, Tryd.ntmps66
    go_wp2_with (go_at_call 80; (with_reducible refine (K.out).mono ?_); rintro e w1 ⟨rfl, hb1⟩; replace hok := hok.trans hb1; replace c2 := (hb1.cell (p := ⟨b, off + k * 2 + 1, none⟩) hbs).trans c2; replace hbs := Nat.lt_of_lt_of_le hbs hb1.size; clear hb1)
    go_ret
    exact ⟨rfl, hok⟩
/-- The first entry behind a count, if there is one. -/
def Leap.nx (c : Int) (l : List (Int × Int)) : Int × Int := match l[Leap.gone c l]? with
  | some e => e
  | none => (0, 0)
def Leap.nxIs (c : Int) (l : List (Int × Int)) : Bool := decide (Leap.gone c l < l.length)
set_option maxHeartbeats 800000 in
theorem leapNext (A : Option Addr) (l : List (Int × Int)) (cap : Nat) (c : Int) (w : World) (h : PairsAt w A l) (hl : l.length ≤ 9223372036854775807) :
    Calls Tryd.prog 67 #[.slice A l.length cap, .int .i64 c] w fun e w' => e = .returned (.tuple #[.agg #[.int .i64 (Leap.nx c l).1, .int .i64 (Leap.nx c l).2], .bool (Leap.nxIs c l)]) ∧ Ok w w' := by
  have hok := (Ok.refl w).alloc (.cells #[.int .i64 0, .int .i64 0] 77)
  have hO := Own.new w #[.int .i64 0, .int .i64 0] 77 rfl
  have K := Lib.hid fun W h => leapGone A l cap c W h hl
  have hle := Leap.gone_le c l
  unfold Leap.nx Leap.nxIs
  generalize Leap.gone c l = n at *
  replace h := h.below hok
  by_cases hlt : n < l.length
  · rw [decide_eq_true hlt]
    simp only [List.getElem?_eq_getElem hlt]
    obtain ⟨a, ea⟩ : ∃ x, l[n].1 = x := ⟨_, rfl⟩
    obtain ⟨o, eo⟩ : ∃ x, l[n].2 = x := ⟨_, rfl⟩
    rw [ea, eo]
    obtain ⟨b, off, hA, hbs, c1, c2⟩ := h n hlt
    subst hA
    rw [ea] at c1
    rw [eo] at c2
    clear ea eo
    have HP := Lib.hid h
    have hd : ((n : Int) == (l.length : Int)) = false := by rw [beq_eq_false_iff_ne]; omega
    clear h
    go_enter Tryd.func67, Tryd.ntmps67
    go_upto_region 1 with fail
    generalize hW : w.alloc (.cells #[.int .i64 0, .int .i64 0] 77) = W at *
    obtain ⟨g, hg⟩ : ∃ r, w.heap.size = r := ⟨_, rfl⟩
    have HG := Lib.hid hg
    rw [hg] at hO ⊢
    clear hg hW
    go_wp2_with (go_at_call 80; (with_reducible refine (K.out _ HP.out).mono ?_); rintro e w1 ⟨rfl, hb1⟩; replace hok := hok.trans hb1; replace hO := hO.next hb1; replace c1 := (hb1.cell (p := ⟨b, off + n * 2, none⟩) hbs).trans c1; replace c2 := (hb1.cell (p := ⟨b, off + n * 2 + 1, none⟩) hbs).trans c2; replace hbs := Nat.lt_of_lt_of_le hbs hb1.size; clear hb1; have o0 := hO.cell 0 rfl; have o1 := hO.cell 1 rfl; have f0 := hO.frozen 0; have f1 := hO.frozen 1; have hlo := hO.lt)
    replace hok := (hok.setCell (p := ⟨g, 0, none⟩) (by show _ ≤ g; rw [← HG.out]; exact Nat.le_refl _) (.int .i64 a)).setCell (p := ⟨g, 1, none⟩) (by show _ ≤ g; rw [← HG.out]; exact Nat.le_refl _) (.int .i64 o)
    replace hO := (hO.set 0 (.int .i64 a)).set 1 (.int .i64 o)
    generalize ((_ : World).setCell ⟨g, 0, none⟩ (.int .i64 a)).setCell ⟨g, 1, none⟩ (.int .i64 o) = W9 at hok hO ⊢
    have o0 := hO.cell 0 rfl
    have o1 := hO.cell 1 rfl
    exact bodyPost_ret (v := .tuple #[.agg #[.int .i64 a, .int .i64 o], .bool true]) (by simp [results, Tryd.results67, go_sem, o0, o1]) rfl ⟨rfl, hok⟩
  · have e : n = l.length := by omega
    subst e
    rw [decide_eq_false hlt]
    simp only [List.getElem?_eq_none (Nat.le_refl l.length)]
    have HP := Lib.hid h
    clear h hlt hle
    go_enter Tryd.func67, Tryd.ntmps67
    go_upto_region 1 with fail
    generalize hW : w.alloc (.cells #[.int .i64 0, .int .i64 0] 77) = W at *
    obtain ⟨g, hg⟩ : ∃ r, w.heap.size = r := ⟨_, rfl⟩
    have HG := Lib.hid hg
    rw [hg] at hO ⊢
    clear hg hW
    go_wp2_with (go_at_call 80; (with_reducible refine (K.out _ HP.out).mono ?_); rintro e w1 ⟨rfl, hb1⟩; replace hok := hok.trans hb1; replace hO := hO.next hb1; clear hb1; have o0 := hO.cell 0 rfl; have o1 := hO.cell 1 rfl; have f0 := hO.frozen 0; have f1 := hO.frozen 1; have hlo := hO.lt)
    replace hok := (hok.setCell (p := ⟨g, 0, none⟩) (by show _ ≤ g; rw [← HG.out]; exact Nat.le_refl _) (.int .i64 0)).setCell (p := ⟨g, 1, none⟩) (by show _ ≤ g; rw [← HG.out]; exact Nat.le_refl _) (.int .i64 0)
    replace hO := (hO.set 0 (.int .i64 0)).set 1 (.int .i64 0)
    generalize ((_ : World).setCell ⟨g, 0, none⟩ (.int .i64 0)).setCell ⟨g, 1, none⟩ (.int .i64 0) = W9 at hok hO ⊢
    have o0 := hO.cell 0 rfl
    have o1 := hO.cell 1 rfl
    exact bodyPost_ret (v := .tuple #[.agg #[.int .i64 0, .int .i64 0], .bool false]) (by simp [results, Tryd.results67, go_sem, o0, o1]) rfl ⟨rfl, hok⟩
theorem leapIsCount (c : Int) (w : World) : Calls Tryd.prog 40 #[.int .i64 c] w fun e w' => e = .returned (.bool (decide (Leap.cnt c))) ∧ w = w' := by
  by_cases h1 : -4398046511104 ≤ c <;> by_cases h2 : c ≤ 4398046511104
  all_goals
    first
    | rw [decide_eq_true (show Leap.cnt c from ⟨h1, h2⟩)]
    | rw [decide_eq_false (show ¬ Leap.cnt c from fun h => by unfold Leap.cnt at h; omega)]
    go_enter Tryd.func40, Tryd.ntmps40
    go_wp2
    go_ret
    exact ⟨rfl, rfl⟩
/-- A leap that isn't at the end of a day. -/
def Leap.odd (e : Int × Int) : Bool := !(decide ((e.1 - e.2) % 86400 = 0))
theorem Leap.good_odd (l : List (Int × Int)) : Leap.good l = (Wire.tab l && decide (Leap.idx Leap.odd l < 0)) := by
  unfold Leap.good
  congr 1
  unfold Leap.idx
  by_cases h : l.findIdx Leap.odd < l.length
  · rw [if_pos h, decide_eq_false (by omega)]
    have h1 := List.findIdx_getElem (xs := l) (p := Leap.odd) (w := h)
    rw [List.all_eq_false]
    refine ⟨_, List.getElem_mem h, ?_⟩
    generalize l[l.findIdx Leap.odd] = x at h1 ⊢
    unfold Leap.odd at h1
    simpa using h1
  · rw [if_neg h, decide_eq_true (by omega)]
    have h2 : l.findIdx Leap.odd = l.length := by have := List.findIdx_le_length (xs := l) (p := Leap.odd); omega
    rw [List.all_eq_true]
    intro x hx
    have := List.findIdx_eq_length.1 h2 x hx
    unfold Leap.odd at this
    simpa using this
theorem goodIs (a b : Int) (h1 : 0 ≤ a ∧ a ≤ 1099511627776) (h2 : -32 ≤ b ∧ b ≤ 32) (w : World) : Calls Tryd.prog 65 #[.agg #[.int .i64 a, .int .i64 b]] w fun e w' => e = .returned (.bool (Leap.odd (a, b))) ∧ Ok w w' := by
  have hok := (Ok.refl w).alloc (.cells #[.int .i64 a, .int .i64 b] 77)
  have K := Lib.hid fun w => wideDiv (a - b) 86400 w
  rw [Sat.clip_in (x := a - b) (by omega) (by omega), show Wide.one 86400 = 86400 by decide] at K
  unfold Leap.odd
  show Calls _ _ _ _ fun e w' => e = .returned (.bool (!(decide ((a - b) % 86400 = 0)))) ∧ Ok w w'
  obtain ⟨r, hr⟩ : ∃ r, (a - b) % 86400 = r := ⟨_, rfl⟩
  obtain ⟨q, hq⟩ : ∃ r, (a - b) / 86400 = r := ⟨_, rfl⟩
  rw [hr, hq] at K
  rw [hr]
  clear hr hq
  by_cases h0 : r = 0
  all_goals
    simp only [h0, decide_true, decide_false, Bool.not_true, Bool.not_false]
    go_enter Tryd.func65, Tryd.ntmps65
    go_wp2_with (go_at_call 20; (with_reducible refine (K.out _).mono ?_); rintro e w1 ⟨rfl, hb1⟩; replace hok := hok.trans hb1; clear hb1)
    go_ret
    first | exact ⟨rfl, hok⟩ | exact ⟨by simp [h0], hok⟩
set_option maxHeartbeats 800000 in
theorem indexGood (A : Option Addr) (l : List (Int × Int)) (cap : Nat) (w : World) (h : PairsAt w A l) (hl : l.length ≤ 32) (hb : ∀ e ∈ l, (0 ≤ e.1 ∧ e.1 ≤ 1099511627776) ∧ -32 ≤ e.2 ∧ e.2 ≤ 32) :
    Calls Tryd.prog 79 #[.slice A l.length cap, .func (.func 65) #[] #[]] w fun e w' => e = .returned (.int .i64 (Leap.idx Leap.odd l)) ∧ Ok w w' := by
  have hok := Ok.refl w
  have KP := Lib.hid h
  have HB := Lib.hid hb
  obtain ⟨R, hR⟩ : ∃ R, Leap.idx Leap.odd l = R := ⟨_, rfl⟩
  rw [hR]
  have HR := Lib.hid hR
  clear h hR hb
  go_enter Tryd.func79, Tryd.ntmps79
  go_wp2_with fail
  go_loopw [8] (fun v wr => ∃ k : Nat, k ≤ l.length ∧ v = .int .i64 k ∧ Hid (∀ j (hj : j < l.length), j < k → Leap.odd l[j] = false) ∧ Ok w wr) (fun v _ => l.length - (intOf v).toNat)
  case atStart => exact ⟨0, Nat.zero_le _, rfl, Lib.hid (fun j _ h => absurd h (Nat.not_lt_zero _)), hok⟩
  case round =>
    obtain ⟨k, hk, rfl, hrel, hok1⟩ := hrel
    clear hok
    by_cases hlt : k < l.length
    · obtain ⟨b, off, hA, hbs, c1, c2⟩ := KP.out.below hok1 k hlt
      subst hA
      have hbd := HB.out l[k] (List.getElem_mem hlt)
      obtain ⟨x, hx⟩ : ∃ x, l[k] = x := ⟨_, rfl⟩
      rw [hx] at hbd c1 c2
      have HX := Lib.hid hx
      clear hx
      obtain ⟨a, o⟩ := x
      simp only at hbd c1 c2
      have K := Lib.hid (goodIs a o hbd.1 hbd.2 wr)
      clear hbd
      obtain ⟨r, hr⟩ : ∃ r, Leap.odd (a, o) = r := ⟨_, rfl⟩
      rw [hr] at K
      have HO := Lib.hid hr
      clear hr
      cases r
      · go_wp2_with (go_at_call 65; (with_reducible refine (K.out).mono ?_); rintro e w1 ⟨rfl, hb1⟩)
        go_roundw
        case rel =>
          refine ⟨k + 1, by omega, by go_num, Lib.hid fun j hj hjk => ?_, hok1.trans hb1⟩
          by_cases e : j = k
          · subst e; rw [HX.out]; exact HO.out
          · exact hrel.out j hj (by omega)
        case measure => simp [intOf]; omega
      · have HE : Hid (R = k) := Lib.hid (HR.out ▸ Leap.idx_at hlt (by rw [HX.out]; exact HO.out) hrel.out)
        clear hrel HR
        go_wp2_with (go_at_call 65; (with_reducible refine (K.out).mono ?_); rintro e w1 ⟨rfl, hb1⟩)
        go_ret
        exact ⟨by rw [HE.out]; rfl, hok1.trans hb1⟩
    · have HE : Hid (R = -1) := Lib.hid (HR.out ▸ Leap.idx_none fun j hj => hrel.out j hj (by omega))
      clear HR hrel
      go_wp2_with fail
      go_ret
      exact ⟨by rw [HE.out]; rfl, hok1⟩
theorem containsGood (A : Option Addr) (l : List (Int × Int)) (cap : Nat) (w : World) (h : PairsAt w A l) (hl : l.length ≤ 32) (hb : ∀ e ∈ l, (0 ≤ e.1 ∧ e.1 ≤ 1099511627776) ∧ -32 ≤ e.2 ∧ e.2 ≤ 32) :
    Calls Tryd.prog 64 #[.slice A l.length cap, .func (.func 65) #[] #[]] w fun e w' => e = .returned (.bool (!(decide (Leap.idx Leap.odd l < 0)))) ∧ Ok w w' := by
  have hok := Ok.refl w
  have K := Lib.hid (indexGood A l cap w h hl hb)
  generalize Leap.idx Leap.odd l = R at *
  clear h hb
  by_cases h0 : R < 0
  all_goals
    simp only [h0, decide_true, decide_false, Bool.not_true, Bool.not_false]
    go_enter Tryd.func64, Tryd.ntmps64
    go_wp2_with (go_at_call 79; (with_reducible refine (K.out).mono ?_); rintro e w1 ⟨rfl, hb1⟩; replace hok := hok.trans hb1; clear hb1)
    go_ret
    first | exact ⟨rfl, hok⟩ | exact ⟨by simp; omega, hok⟩
theorem leapGood (A : Option Addr) (l : List (Int × Int)) (cap : Nat) (w : World) (h : PairsAt w A l) (hl : l.length ≤ 9223372036854775807) :
    Calls Tryd.prog 39 #[.slice A l.length cap] w fun e w' => e = .returned (.bool (Leap.good l)) ∧ Ok w w' := by
  have hok := Ok.refl w
  have K := Lib.hid (wireTable A l cap w h hl)
  rw [Leap.good_odd]
  by_cases ht : Wire.tab l = true
  · obtain ⟨t1, t2⟩ := Leap.tab_bd ht
    have KC := Lib.hid fun w h => containsGood A l cap w h t1 t2
    rw [ht] at K ⊢
    rw [Bool.true_and]
    have HP := Lib.hid h
    clear t2 ht h
    obtain ⟨r, hr⟩ : ∃ r, decide (Leap.idx Leap.odd l < 0) = r := ⟨_, rfl⟩
    rw [hr] at KC ⊢
    clear hr
    cases r
    all_goals
      simp only [Bool.not_true, Bool.not_false] at KC
      go_enter Tryd.func39, Tryd.ntmps39
      go_wp2_with (first | (go_at_call 63; (with_reducible refine (K.out).mono ?_); rintro e w1 ⟨rfl, hb1⟩; replace hok := hok.trans hb1; clear hb1) | (go_at_call 64; (with_reducible refine (KC.out _ (HP.out.below hok)).mono ?_); rintro e w1 ⟨rfl, hb1⟩; replace hok := hok.trans hb1; clear hb1))
      go_ret
      exact ⟨rfl, hok⟩
  · have ht' : Wire.tab l = false := by simpa using ht
    rw [ht'] at K ⊢
    rw [Bool.false_and]
    clear ht ht' h
    go_enter Tryd.func39, Tryd.ntmps39
    go_wp2_with (first | (go_at_call 63; (with_reducible refine (K.out).mono ?_); rintro e w1 ⟨rfl, hb1⟩; replace hok := hok.trans hb1; clear hb1))
    go_ret
    exact ⟨rfl, hok⟩
end Go.Proofs.YtlclfonlidcfiaaDoor
