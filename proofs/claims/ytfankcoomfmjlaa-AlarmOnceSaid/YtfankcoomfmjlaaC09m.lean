/- Contracts of layer 9: the document's table: Set. -/
import Derived.Test.YtfankcoomfmjlaaC09l
namespace Go.Proofs.Ytfankcoomfmjlaa
open Go.RowKit
set_option maxRecDepth 100000
def setM (i t : Int) (M : List Tm) : List Tm := if Alarm.setE i M = 7 then M else Alarm.drop i M ++ [⟨i, t⟩]
/-- A table behind a call of the document's: its row lies in a new block, or nowhere. -/
def RefNext (g : Nat) (M : List Tm) (w w' : World) : Prop := Far (Just g) w w' ∧ ∃ r', (r' = g ∨ w.heap.size ≤ r') ∧ TabAt 52 w' g r' M
def RefSet (g : Nat) (i t : Int) (M : List Tm) (w : World) (e : Ending) (w' : World) : Prop := e = .returned (.int .i64 (Alarm.setE i M)) ∧ RefNext g (setM i t M) w w'
theorem refSet_put {g r1 : Nat} {i t : Int} {M : List Tm} {w w1 w2 : World} {A A' : Option Addr} {c c' : Nat} (hE : Alarm.setE i M ≠ 7) (hF : Far (Just g) w w1) (hg : g < w.heap.size) (hr1 : r1 = g ∨ w.heap.size ≤ r1) (hO : Own w1 g #[.slice A (Alarm.drop i M).length c]) (hA : A = none ∧ r1 = g ∨ A = some ⟨r1, 0, none⟩ ∧ r1 ≠ g)
    (hR : w2.ownsRow 0 52 2 (.slice A' ((Alarm.drop i M).length + 1) c') ((Alarm.drop i M).length + 1) ((Alarm.drop i M).flatMap tmcells ++ tmcells ⟨i, t⟩)) (hG : (w1.alloc (.cells #[.int .i64 i, .int .i64 t] 52)).grownBy w2 (A.map Addr.block)) (hN : Near (w1.alloc (.cells #[.int .i64 i, .int .i64 t] 52)) A A') :
    RefNext g (setM i t M) w (w2.setCell ⟨g, 0, none⟩ (.slice A' ((Alarm.drop i M).length + 1) c')) := by
  have hm : setM i t M = Alarm.drop i M ++ [⟨i, t⟩] := if_neg hE
  rw [hm]
  have hsz := hF.size
  have hO1 := hO.alloc (.cells #[.int .i64 i, .int .i64 t] 52)
  have hne : A.map Addr.block ≠ some g := by
    rcases hA with ⟨rfl, _⟩ | ⟨rfl, h⟩
    · simp
    · simpa using h
  have hO2 : Own w2 g #[.slice A (Alarm.drop i M).length c] := by
    have hl := hO1.lt
    obtain ⟨t, ht⟩ := hO1
    exact ⟨t, (hG.block g hl (Ne.symm hne)).trans ht⟩
  have hA' : ∀ a, A' = some a → (a.block = r1 ∧ r1 ≠ g) ∨ w.heap.size ≤ a.block := fun a ha => by
    rcases hN a ha with h | ⟨_, _, h⟩
    · rcases hA with ⟨rfl, _⟩ | ⟨rfl, hr⟩
      · cases h
      · cases h; exact .inl ⟨rfl, hr⟩
    · simp at h; exact .inr (by omega)
  obtain ⟨r', a1, a2, a3⟩ := tabStored (M := Alarm.drop i M ++ [⟨i, t⟩]) (n := (Alarm.drop i M).length + 1) (by simp) hO2 (by rw [List.flatMap_append]; simpa [tmcells] using hR) fun a ha => by
    rcases hA' a ha with ⟨h, h2⟩ | h
    · rw [h]; exact h2
    · omega
  refine ⟨Far.set (S := Just g) ((hF.alloc _).grow hG fun j hj => ?_) (.inl (show _ = g from rfl)) _, r', ?_, a3⟩
  · rcases hA with ⟨rfl, _⟩ | ⟨rfl, hr⟩
    · cases hj
    · cases hj
      rcases hr1 with h | h
      · exact absurd h hr
      · exact .inr h
  · cases hA2 : A' with
    | none => exact .inl (a2 hA2)
    | some a =>
      have e := a1 a hA2
      rcases hA' a hA2 with ⟨h, h2⟩ | h
      · rw [← e, h]; exact hr1
      · rw [← e]; exact .inr h
set_option maxHeartbeats 1600000 in
theorem refSet (g r : Nat) (i t : Int) (M : List Tm) (w : World) (hT : TabAt 52 w g r M) (hl : M.length ≤ 100000) :
    Calls Try.prog 10 #[.pointer (some ⟨g, 0, none⟩), .int .i64 i, .int .i64 t] w (RefSet g i t M w) := by
  have K := refDrop g r i M w hT hl
  have hgw := hT.lt.1
  have hdl := Alarm.drop_le i M
  by_cases h7 : Alarm.has i M = false ∧ M.length = 64
  · have e1 : Alarm.dropE i M = 9 := by unfold Alarm.dropE; rw [h7.1]; rfl
    have e2 : Alarm.setE i M = 7 := by unfold Alarm.setE; rw [if_pos h7]
    have hm : setM i t M = M := if_pos e2
    unfold RefDrop at K
    rw [e1, Alarm.drop_none h7.1] at K
    unfold RefSet
    rw [e2, hm]
    have K2 : ∀ W r', TabAt 52 W g r' M → ∃ A c, W.cell? ⟨g, 0, none⟩ = some (.slice A 64 c) := fun W r' h => by
      obtain ⟨A, c, hO, -⟩ := h.ex
      exact ⟨A, c, by rw [← h7.2]; exact hO.cell 0 rfl⟩
    have HK := Lib.hid K
    have HK2 := Lib.hid K2
    clear K K2 hT e1 e2 hm h7
    go_enter Try.func10, Try.ntmps10
    go_wp2_with (go_at_call 12; (with_reducible refine HK.out.mono ?_); rintro e w1 ⟨rfl, hF, r1, hr1, hT1⟩; obtain ⟨A, c, c0⟩ := HK2.out w1 r1 hT1; have HT := Lib.hid (And.intro hF (And.intro hr1 hT1)); clear hF hT1 hr1)
    go_ret
    exact ⟨rfl, HT.out.1, r1, HT.out.2⟩
  · have e2 : Alarm.setE i M = 0 := by unfold Alarm.setE; rw [if_neg h7]
    have hE : Alarm.setE i M ≠ 7 := by rw [e2]; decide
    unfold RefDrop at K
    unfold RefSet
    rw [e2]
    obtain ⟨D, hD⟩ : ∃ D, Alarm.drop i M = D := ⟨_, rfl⟩
    obtain ⟨n, hn⟩ : ∃ n, D.length = n := ⟨_, rfl⟩
    rw [hD] at K hdl
    rw [hn] at hdl
    have K2 : ∀ W r', TabAt 52 W g r' D → ∃ A c A' c' w2, W.cell? ⟨g, 0, none⟩ = some (.slice A n c) ∧ w2.cell? ⟨g, 0, none⟩ = some (.slice A n c) ∧ w2.frozen? ⟨g, 0, none⟩ = false ∧
        (Builtin.append_ #[27, 27] 27 #[.slice A n c, .slice (some ⟨W.heap.size, 0, none⟩) 1 1]).run Try.prog (W.alloc (.cells #[.int .i64 i, .int .i64 t] 52)) = .ok (.slice A' (n + 1) c') w2 ∧
        (Far (Just g) w W → (r' = g ∨ w.heap.size ≤ r') → RefNext g (setM i t M) w (w2.setCell ⟨g, 0, none⟩ (.slice A' (n + 1) c'))) := fun W r' h => by
      obtain ⟨A, c, hO, hR, hA⟩ := h.ex
      rw [hn] at hO hR
      obtain ⟨A', c', w2, h1, h2, h3, h4⟩ := run_append_one (P := Try.prog) Try.underlying27 rtInfo rfl (by decide) (by decide) (Nat.zero_le _) (hR.alloc (.cells #[.int .i64 i, .int .i64 t] 52)) (Own.new W #[.int .i64 i, .int .i64 t] 52 rfl) rfl (tm_one ⟨i, t⟩) (by omega) 27
      rw [own_map] at h3
      have hO1 := hO.alloc (.cells #[.int .i64 i, .int .i64 t] 52)
      have hO2 : Own w2 g #[.slice A n c] := by
        have hl := hO1.lt
        obtain ⟨t, ht⟩ := hO1
        refine ⟨t, (h3.block g hl ?_).trans ht⟩
        rcases hA with ⟨rfl, _⟩ | ⟨rfl, h⟩
        · simp
        · simpa using h.symm
      refine ⟨A, c, A', c', w2, hO.cell 0 rfl, hO2.cell 0 rfl, hO2.frozen 0, h1, fun a1 a2 => ?_⟩
      subst hn
      subst hD
      exact refSet_put hE a1 hgw a2 hO hA h2 h3 h4
    have HK2 := Lib.hid K2
    by_cases hh : Alarm.has i M = true
    · have e1 : Alarm.dropE i M = 0 := by unfold Alarm.dropE; rw [if_pos hh]
      rw [e1] at K
      have HK := Lib.hid K
      clear K K2 hT e1 e2 h7 hE hn hD hh
      go_enter Try.func10, Try.ntmps10
      go_wp2_with (first
        | (go_at_call 12; (with_reducible refine HK.out.mono ?_); rintro e w1 ⟨rfl, hF, r1, hr1, hT1⟩; obtain ⟨A, c, A', c', w2, c0, d0, d1, hrun, hend⟩ := HK2.out w1 r1 hT1; have HT := Lib.hid (hend hF hr1); clear hF hT1 hr1 hend)
        | (at_builtin; refine wpList_append_known rfl (.tmp 25) (.tmp 29) 27 27 rfl _ _ rfl rfl hrun ?_))
      go_ret
      exact ⟨rfl, HT.out⟩
    · have e1 : Alarm.dropE i M = 9 := by unfold Alarm.dropE; rw [if_neg hh]
      have hD2 : D = M := by rw [← hD]; exact Alarm.drop_none (by simpa using hh)
      have h64 : n ≠ 64 := fun e => h7 ⟨by simpa using hh, by rw [← hD2, hn]; exact e⟩
      have h3 : ((n : Int) == 64) = false := by rw [beq_eq_false_iff_ne]; omega
      rw [e1] at K
      have HK := Lib.hid K
      clear K K2 hT e1 e2 h7 hE hn hD hh hD2 h64
      go_enter Try.func10, Try.ntmps10
      go_wp2_with (first
        | (go_at_call 12; (with_reducible refine HK.out.mono ?_); rintro e w1 ⟨rfl, hF, r1, hr1, hT1⟩; obtain ⟨A, c, A', c', w2, c0, d0, d1, hrun, hend⟩ := HK2.out w1 r1 hT1; have HT := Lib.hid (hend hF hr1); clear hF hT1 hr1 hend)
        | (at_builtin; refine wpList_append_known rfl (.tmp 25) (.tmp 29) 27 27 rfl _ _ rfl rfl hrun ?_))
      go_ret
      exact ⟨rfl, HT.out⟩
end Go.Proofs.Ytfankcoomfmjlaa
