/- Contracts of layer 5: Open. -/
import Derived.Test.YtacnoakbcilmfaaC05g
import Derived.Deep.RegionHeld3
import Derived.Deep.DrawnRows
import Derived.Deep.QuietTactic
import Derived.BigQuiet
namespace Go.Proofs.Ytacnoakbcilmfaa
open Go.RowKit
set_option maxRecDepth 100000
attribute [local go_sem ↓] Go.wp_at_zero Go.wp_at_succ
/-- What Open answers. -/
def opened (l : List Nat) : List Nat := if isSealed l then l.take (l.length - 4) else []
theorem isSealed_iff {p q : List Nat} (h : q.length = 4) : isSealed (p ++ q) = decide (Crc.bytesOf 4 (Crc.check p) = q) := by
  unfold isSealed sealL
  rw [show (p ++ q).length - 4 = p.length by simp; omega, List.take_left, decide_eq_decide]
  constructor
  · rintro ⟨_, h2⟩; exact List.append_cancel_left h2
  · intro h2; exact ⟨by simp; omega, by rw [h2]⟩
theorem nil_own (w : World) (B : Nat) (e : TypeId) : w.ownsRow B e 1 (.slice none 0 0) (List.length ([] : List Nat)) (u8s []) := ⟨rfl, .inl ⟨rfl, rfl⟩⟩
theorem crcOpenShort (A : Option Addr) (l : List Nat) (cap : Nat) (w : World) (hl : l.length < 4) :
    Calls Try.prog 34 #[.slice A l.length cap] w fun e w' => e = .returned (.tuple #[.slice none 0 0, .bool false]) ∧ Ok w w' := by
  have hok := Ok.refl w
  have hd : decide ((l.length : Int) - 4 < 0) = true := decide_eq_true (by omega)
  go_enter Try.func34, Try.ntmps34
  go_wp2_with fail
  go_quiet (fail)
  go_wp2
  go_ret2
  exact ⟨rfl, hok.drewN _⟩
/-- Nothing turned since w; four cells. -/
def Held4 (w : World) (b o : Nat) (v0 v1 v2 v3 : Value) (w' : World) : Prop := Ok w w' ∧ w'.cell? ⟨b, o, none⟩ = some v0 ∧ w'.cell? ⟨b, o + 1, none⟩ = some v1 ∧ w'.cell? ⟨b, o + 2, none⟩ = some v2 ∧ w'.cell? ⟨b, o + 3, none⟩ = some v3
namespace Held4
variable {w w' w2 : World} {b o : Nat} {v0 v1 v2 v3 : Value}
theorem next (h : Held4 w b o v0 v1 v2 v3 w) (hlt : b < w.heap.size) (k : Ok w w') : Held4 w b o v0 v1 v2 v3 w' :=
  ⟨k, (k.cell hlt).trans h.2.1, (k.cell hlt).trans h.2.2.1, (k.cell hlt).trans h.2.2.2.1, (k.cell hlt).trans h.2.2.2.2⟩
theorem step (hK : ∀ w', Ok w w' → Held4 w b o v0 v1 v2 v3 w') (h : Held4 w b o v0 v1 v2 v3 w') (k : Ok w' w2) : Held4 w b o v0 v1 v2 v3 w2 := hK _ (h.1.trans k)
theorem drew (hK : ∀ w', Ok w w' → Held4 w b o v0 v1 v2 v3 w') (h : Held4 w b o v0 v1 v2 v3 w') : Held4 w b o v0 v1 v2 v3 w'.drew := hK _ h.1.drew
theorem alloc (hK : ∀ w', Ok w w' → Held4 w b o v0 v1 v2 v3 w') (h : Held4 w b o v0 v1 v2 v3 w') (x : Obj) : Held4 w b o v0 v1 v2 v3 (w'.alloc x) := hK _ (h.1.alloc x)
theorem ok (h : Held4 w b o v0 v1 v2 v3 w') : Ok w w' := h.1
end Held4
theorem u8s_inj : ∀ {l m : List Nat}, u8s l = u8s m → l = m
  | [], [], _ => rfl
  | [], _ :: _, h => by simp [u8s] at h
  | _ :: _, [], h => by simp [u8s] at h
  | a :: l, b :: m, h => by
    simp only [u8s, List.map_cons, List.cons.injEq, Value.int.injEq, true_and] at h
    rw [show a = b by omega, u8s_inj (l := l) (m := m) h.2]
theorem Ok.grow {w w1 w2 : World} (h : Ok w w1) (g : w1.grownBy w2 none) : Ok w w2 :=
  h.trans ⟨g.os, g.tape, g.output, g.size, fun k hk => g.block k hk (by simp)⟩
set_option maxHeartbeats 1600000 in
theorem crcOpenSame (b off : Nat) (p : List Nat) (q0 q1 q2 q3 : Nat) (cap : Nat) (w : World) (h : BytesAt w (some ⟨b, off, none⟩) (p ++ [q0, q1, q2, q3])) (hb : ∀ x ∈ p, x < 256) (hl : p.length ≤ 1099511627776) (hcap : p.length + 4 ≤ cap)
    (hs : Crc.bytesOf 4 (Crc.check p) = [q0, q1, q2, q3]) :
    Calls Try.prog 34 #[.slice (some ⟨b, off, none⟩) (p.length + 4) cap] w fun e w' => ∃ v, e = .returned (.tuple #[v, .bool true]) ∧ w'.ownsRow w.heap.size 5 1 v p.length (u8s p) ∧ Ok w w' := by
  have hok := Ok.refl w
  have hc := Crc.check_lt hb
  have hp : BytesAt w (some ⟨b, off, none⟩) p := by have := h.cut 0 p.length; simpa using this
  have KS := Lib.hid fun (W : World) (n : Addr) (h : PiecesAt W (some n) [p]) => crcSum (some n) [p] 1 W h (by simpa using hb) (by simp; omega) (by simp)
  simp only [List.flatten_cons, List.flatten_nil, List.append_nil] at KS
  have HT := Lib.hid fun w => crcTail (Crc.check p) w hc
  obtain ⟨c, hce⟩ : ∃ c, Crc.check p = c := ⟨_, rfl⟩
  rw [hce] at KS hc HT hs
  clear hce
  have H4 := cells4_eq c hc
  rw [hs] at H4
  simp only [u8s, List.map_cons, List.map_nil, List.cons.injEq, Value.int.injEq, true_and, and_true] at H4
  obtain ⟨e0, e1, e2, e3⟩ := H4
  rw [← e0, ← e1, ← e2, ← e3] at HT
  clear e0 e1 e2 e3 hs
  have hd : decide (((p.length : Int) + 4) - 4 < 0) = false := decide_eq_false (by omega)
  have hlt : b < w.heap.size := by
    obtain ⟨_, _, e, hlt, _⟩ := h 0 (by simp)
    cases e; exact hlt
  have c0 : w.cell? ⟨b, off + p.length, none⟩ = some (.int .u8 q0) := by
    obtain ⟨_, _, e, _, hc⟩ := h p.length (by simp)
    cases e; simpa using hc
  have c1 : w.cell? ⟨b, off + p.length + 1, none⟩ = some (.int .u8 q1) := by
    obtain ⟨_, _, e, _, hc⟩ := h (p.length + 1) (by simp)
    cases e; simpa [Nat.add_assoc] using hc
  have c2 : w.cell? ⟨b, off + p.length + 2, none⟩ = some (.int .u8 q2) := by
    obtain ⟨_, _, e, _, hc⟩ := h (p.length + 2) (by simp)
    cases e; simpa [Nat.add_assoc] using hc
  have c3 : w.cell? ⟨b, off + p.length + 3, none⟩ = some (.int .u8 q3) := by
    obtain ⟨_, _, e, _, hc⟩ := h (p.length + 3) (by simp)
    cases e; simpa [Nat.add_assoc] using hc
  have HK := Lib.hid fun w' (k : Ok w w') => Held4.next ⟨Ok.refl w, c0, c1, c2, c3⟩ hlt k
  have hS : Held4 w b (off + p.length) (.int .u8 q0) (.int .u8 q1) (.int .u8 q2) (.int .u8 q3) w := HK.out _ (Ok.refl w)
  have HP := Lib.hid fun w' (k : Ok w w') => hp.below k
  clear c0 c1 c2 c3 hp h hb
  have hat : ∀ W, Sem.run Try.prog (Instr.arrayAt 75 (.slice (some ⟨b, off + p.length, none⟩) 4 (cap - p.length))) W = .ok (.pointer (some ⟨b, off + p.length, none⟩)) W := fun W => run_arrayAt W 75 _ 4 _ 4 _ Try.underlying75 (Nat.le_refl _)
  have heq : ∀ W, Sem.run Try.prog (Op.equalIn 10000 75 (.agg #[.int .u8 q0, .int .u8 q1, .int .u8 q2, .int .u8 q3]) (.agg #[.int .u8 q0, .int .u8 q1, .int .u8 q2, .int .u8 q3])) W = .ok true W := fun W => by rw [eqArr4]; simp
  have hd0 : decide ((p.length : Int) < 0) = false := decide_eq_false (by omega)
  have hl4 : (p.length : Int) ≤ (p.length : Int) + 4 := by omega
  have hn4 : ¬ (cap = p.length) := by omega
  have hlc : (p.length : Int) ≤ (cap : Int) := by omega
  have hl0 : (0 : Int) ≤ (p.length : Int) := by omega
  go_enter Try.func34, Try.ntmps34
  go_wp2_with fail
  go_region_held3 (fun w' => Ok w w' ∧ w'.cell? ⟨b, off + p.length, none⟩ = some (.int .u8 q0) ∧ w'.cell? ⟨b, off + p.length + 1, none⟩ = some (.int .u8 q1) ∧ w'.cell? ⟨b, off + p.length + 2, none⟩ = some (.int .u8 q2) ∧ w'.cell? ⟨b, off + p.length + 3, none⟩ = some (.int .u8 q3))
    (first | assumption | exact Held4.drew HK.out (by assumption) | exact Held4.alloc HK.out (by assumption) _ | exact Held4.step HK.out (by assumption) (by assumption) | exact Held4.step HK.out (Held4.drew HK.out (by assumption)) (by assumption) | exact Held4.step HK.out (Held4.alloc HK.out (by assumption) _) (by assumption) | exact Held4.step HK.out (Held4.drew HK.out (Held4.alloc HK.out (by assumption) _)) (by assumption) | exact Held4.step HK.out (Held4.alloc HK.out (Held4.drew HK.out (by assumption)) _) (by assumption))
    (first | (go_at_call 39; (refine (KS.out _ _ ?_).mono ?_); (focus ((repeat (first | (with_reducible refine PiecesAt.drew ?_) | (with_reducible refine PiecesAt.below ?_ (by assumption)) | (refine PiecesAt.new1 ?_ _ _ (by simp)) | (with_reducible refine PiecesAt.alloc ?_ _))); (refine HP.out _ ?_); (first | exact Held4.ok (by assumption) | exact (Held4.ok (w' := _) (by assumption)).drew); done)); rintro e w2 ⟨rfl, hb2⟩) | (go_at_call 38; (with_reducible refine (HT.out _).mono ?_); rintro e w2 ⟨rfl, hb2⟩))
  all_goals
    rename_i hH
    replace hok := hH.1
    have hq := HP.out _ hok
    have HQ := Lib.hid fun (h0 : 0 < p.length) => hq.src h0
    have hsrc := Lib.hid fun j v (hj : (u8s p)[j]? = some v) => (show w2.cell? (Addr.add ⟨b, off, none⟩ j) = some v by
      have hlt : j < p.length := by have := (List.getElem?_eq_some_iff.1 hj).1; rw [u8s_length] at this; exact this
      obtain ⟨ad, e, hs⟩ := HQ.out (by omega)
      cases e
      exact hs j v hj)
    obtain ⟨i0, m0, m1, m2, m3⟩ := info_parts uint8Info
    have M0 := Lib.hid m0
    have M1 := Lib.hid m1
    have M2 := Lib.hid m2
    have M3 := Lib.hid m3
    have hz := hok.size
    clear hH hq HQ HP HK hS hat heq HT KS m0 m1 m2 m3 hd hd0 hl4 hn4 hlt
    go_wp2_with (at_builtin; refine wpList_append_own _ rfl _ _ 41 rfl w.heap.size 5 i0 (.int .u8 0) 1 1 Try.underlying41 M0.out M1.out M2.out M3.out rfl (by decide) _ _ [] rfl (nil_own _ _ _) ⟨b, off, none⟩ p.length cap (u8s p) rfl ?c1 ?c2 ?c3 ?c4 ?c5 ?c6 ?_)
    case c1 => rw [u8s_length, Nat.mul_one]
    case c2 => exact hsrc.out
    case c3 => exact u8s_one _
    case c4 => unfold maxLen; simp; omega
    case c5 => simp; omega
    case c6 => exact hz
    intro v3 w3 hown3 hgrow hv3
    have OW := Lib.hid hown3
    replace hok := hok.grow hgrow
    clear hown3 hgrow hv3 hsrc M0 M1 M2 M3
    go_wp2
    go_ret2
    exact ⟨v3, rfl, by simpa using OW.out, hok⟩
set_option maxHeartbeats 1600000 in
theorem crcOpenOther (b off : Nat) (p : List Nat) (q0 q1 q2 q3 : Nat) (cap : Nat) (w : World) (h : BytesAt w (some ⟨b, off, none⟩) (p ++ [q0, q1, q2, q3])) (hb : ∀ x ∈ p, x < 256) (hl : p.length ≤ 1099511627776) (hcap : p.length + 4 ≤ cap)
    (hs : Crc.bytesOf 4 (Crc.check p) ≠ [q0, q1, q2, q3]) :
    Calls Try.prog 34 #[.slice (some ⟨b, off, none⟩) (p.length + 4) cap] w fun e w' => e = .returned (.tuple #[.slice none 0 0, .bool false]) ∧ Ok w w' := by
  have hok := Ok.refl w
  have hc := Crc.check_lt hb
  have hp : BytesAt w (some ⟨b, off, none⟩) p := by have := h.cut 0 p.length; simpa using this
  have KS := Lib.hid fun (W : World) (n : Addr) (h : PiecesAt W (some n) [p]) => crcSum (some n) [p] 1 W h (by simpa using hb) (by simp; omega) (by simp)
  simp only [List.flatten_cons, List.flatten_nil, List.append_nil] at KS
  have HT := Lib.hid fun w => crcTail (Crc.check p) w hc
  obtain ⟨c, hce⟩ : ∃ c, Crc.check p = c := ⟨_, rfl⟩
  rw [hce] at KS hc HT hs
  clear hce
  have H4 := cells4_eq c hc
  obtain ⟨x0, e0⟩ : ∃ x, (c : Int) % 256 = x := ⟨_, rfl⟩
  obtain ⟨x1, e1⟩ : ∃ x, (c : Int) / 256 % 256 = x := ⟨_, rfl⟩
  obtain ⟨x2, e2⟩ : ∃ x, (c : Int) / 65536 % 256 = x := ⟨_, rfl⟩
  obtain ⟨x3, e3⟩ : ∃ x, (c : Int) / 16777216 = x := ⟨_, rfl⟩
  rw [e0, e1, e2, e3] at HT H4
  have hne : (x0 == (q0 : Int) && x1 == (q1 : Int) && x2 == (q2 : Int) && x3 == (q3 : Int)) = false := by
    rw [Bool.eq_false_iff]
    intro g
    simp only [Bool.and_eq_true, beq_iff_eq] at g
    obtain ⟨⟨⟨g0, g1⟩, g2⟩, g3⟩ := g
    apply hs
    have : u8s (Crc.bytesOf 4 c) = u8s [q0, q1, q2, q3] := by rw [H4, g0, g1, g2, g3]; rfl
    exact u8s_inj this
  clear e0 e1 e2 e3 hs H4
  have hd : decide (((p.length : Int) + 4) - 4 < 0) = false := decide_eq_false (by omega)
  have hlt : b < w.heap.size := by
    obtain ⟨_, _, e, hlt, _⟩ := h 0 (by simp)
    cases e; exact hlt
  have c0 : w.cell? ⟨b, off + p.length, none⟩ = some (.int .u8 q0) := by
    obtain ⟨_, _, e, _, hc⟩ := h p.length (by simp)
    cases e; simpa using hc
  have c1 : w.cell? ⟨b, off + p.length + 1, none⟩ = some (.int .u8 q1) := by
    obtain ⟨_, _, e, _, hc⟩ := h (p.length + 1) (by simp)
    cases e; simpa [Nat.add_assoc] using hc
  have c2 : w.cell? ⟨b, off + p.length + 2, none⟩ = some (.int .u8 q2) := by
    obtain ⟨_, _, e, _, hc⟩ := h (p.length + 2) (by simp)
    cases e; simpa [Nat.add_assoc] using hc
  have c3 : w.cell? ⟨b, off + p.length + 3, none⟩ = some (.int .u8 q3) := by
    obtain ⟨_, _, e, _, hc⟩ := h (p.length + 3) (by simp)
    cases e; simpa [Nat.add_assoc] using hc
  have HK := Lib.hid fun w' (k : Ok w w') => Held4.next ⟨Ok.refl w, c0, c1, c2, c3⟩ hlt k
  have hS : Held4 w b (off + p.length) (.int .u8 q0) (.int .u8 q1) (.int .u8 q2) (.int .u8 q3) w := HK.out _ (Ok.refl w)
  have HP := Lib.hid fun w' (k : Ok w w') => hp.below k
  clear c0 c1 c2 c3 hp h hb
  have hat : ∀ W, Sem.run Try.prog (Instr.arrayAt 75 (.slice (some ⟨b, off + p.length, none⟩) 4 (cap - p.length))) W = .ok (.pointer (some ⟨b, off + p.length, none⟩)) W := fun W => run_arrayAt W 75 _ 4 _ 4 _ Try.underlying75 (Nat.le_refl _)
  have heq : ∀ W, Sem.run Try.prog (Op.equalIn 10000 75 (.agg #[.int .u8 x0, .int .u8 x1, .int .u8 x2, .int .u8 x3]) (.agg #[.int .u8 q0, .int .u8 q1, .int .u8 q2, .int .u8 q3])) W = .ok false W := fun W => by rw [eqArr4, hne]
  have hd0 : decide ((p.length : Int) < 0) = false := decide_eq_false (by omega)
  have hl4 : (p.length : Int) ≤ (p.length : Int) + 4 := by omega
  have hn4 : ¬ (cap = p.length) := by omega
  have hlc : (p.length : Int) ≤ (cap : Int) := by omega
  have hl0 : (0 : Int) ≤ (p.length : Int) := by omega
  go_enter Try.func34, Try.ntmps34
  go_wp2_with fail
  go_region_held3 (fun w' => Ok w w' ∧ w'.cell? ⟨b, off + p.length, none⟩ = some (.int .u8 q0) ∧ w'.cell? ⟨b, off + p.length + 1, none⟩ = some (.int .u8 q1) ∧ w'.cell? ⟨b, off + p.length + 2, none⟩ = some (.int .u8 q2) ∧ w'.cell? ⟨b, off + p.length + 3, none⟩ = some (.int .u8 q3))
    (first | assumption | exact Held4.drew HK.out (by assumption) | exact Held4.alloc HK.out (by assumption) _ | exact Held4.step HK.out (by assumption) (by assumption) | exact Held4.step HK.out (Held4.drew HK.out (by assumption)) (by assumption) | exact Held4.step HK.out (Held4.alloc HK.out (by assumption) _) (by assumption) | exact Held4.step HK.out (Held4.drew HK.out (Held4.alloc HK.out (by assumption) _)) (by assumption) | exact Held4.step HK.out (Held4.alloc HK.out (Held4.drew HK.out (by assumption)) _) (by assumption))
    (first | (go_at_call 39; (refine (KS.out _ _ ?_).mono ?_); (focus ((repeat (first | (with_reducible refine PiecesAt.drew ?_) | (with_reducible refine PiecesAt.below ?_ (by assumption)) | (refine PiecesAt.new1 ?_ _ _ (by simp)) | (with_reducible refine PiecesAt.alloc ?_ _))); (refine HP.out _ ?_); (first | exact Held4.ok (by assumption) | exact (Held4.ok (w' := _) (by assumption)).drew); done)); rintro e w2 ⟨rfl, hb2⟩) | (go_at_call 38; (with_reducible refine (HT.out _).mono ?_); rintro e w2 ⟨rfl, hb2⟩))
  all_goals
    rename_i hH
    replace hok := hH.1
    clear hH HP HK hS hat heq HT KS hd hd0 hl4 hn4 hlt hne
    go_wp2
    go_ret2
    exact ⟨rfl, hok⟩
/-- Open, whatever is handed in. -/
theorem crcOpen (A : Option Addr) (l : List Nat) (cap : Nat) (w : World) (h : BytesAt w A l) (hb : ∀ x ∈ l, x < 256) (hl : l.length ≤ 1099511627776) (hcap : l.length ≤ cap) :
    Calls Try.prog 34 #[.slice A l.length cap] w fun e w' => ∃ v, e = .returned (.tuple #[v, .bool (isSealed l)]) ∧ w'.ownsRow w.heap.size 5 1 v (opened l).length (u8s (opened l)) ∧ Ok w w' := by
  by_cases h4 : l.length < 4
  · have e : isSealed l = false := by unfold isSealed; rw [decide_eq_false]; omega
    unfold opened
    rw [e]
    exact (crcOpenShort A l cap w h4).mono fun _ _ ⟨h1, h2⟩ => ⟨_, h1, nil_own _ _ _, h2⟩
  · obtain ⟨p, q, hpq, hq⟩ : ∃ p q, l = p ++ q ∧ q.length = 4 := ⟨l.take (l.length - 4), l.drop (l.length - 4), (List.take_append_drop _ _).symm, by simp; omega⟩
    subst hpq
    have hlen : (p ++ q).length = p.length + 4 := by simp [hq]
    obtain ⟨b, off, hA, _, _⟩ := h 0 (by omega)
    subst hA
    match q, hq, hlen, h4, hl, hcap, hb, h with
    | [q0, q1, q2, q3], hq, hlen, h4, hl, hcap, hb, h =>
      have ho : opened (p ++ [q0, q1, q2, q3]) = if isSealed (p ++ [q0, q1, q2, q3]) then p else [] := by
        unfold opened
        rw [hlen, show p.length + 4 - 4 = p.length from rfl, List.take_left]
      have hbp : ∀ x ∈ p, x < 256 := fun x hx => hb x (List.mem_append_left _ hx)
      rw [hlen] at hl hcap ⊢
      by_cases hs : Crc.bytesOf 4 (Crc.check p) = [q0, q1, q2, q3]
      · have e : isSealed (p ++ [q0, q1, q2, q3]) = true := by rw [isSealed_iff hq]; exact decide_eq_true hs
        rw [ho, e, if_pos rfl]
        exact crcOpenSame b off p q0 q1 q2 q3 cap w h hbp (by omega) hcap hs
      · have e : isSealed (p ++ [q0, q1, q2, q3]) = false := by rw [isSealed_iff hq]; exact decide_eq_false hs
        rw [ho, e]
        exact (crcOpenOther b off p q0 q1 q2 q3 cap w h hbp (by omega) hcap hs).mono fun _ _ ⟨h1, h2⟩ => ⟨_, h1, nil_own _ _ _, h2⟩
end Go.Proofs.Ytacnoakbcilmfaa
