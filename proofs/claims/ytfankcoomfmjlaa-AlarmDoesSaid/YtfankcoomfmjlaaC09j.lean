/- Contracts of layer 9: the program's table: Set. -/
import Derived.Test.YtfankcoomfmjlaaC09i
namespace Go.Proofs.Ytfankcoomfmjlaa
open Go.RowKit
set_option maxRecDepth 100000
/-- What stands in a table behind Set. -/
def SetTo (i t : Int) (L L' : List Tm) : Prop := Alarm.Good L' ∧ if Alarm.setE i L = 7 then L' = L else L'.Perm (⟨i, t⟩ :: Alarm.drop i L)
/-- What Set leaves. -/
def SetEnd (T : TypeId) (g r : Nat) (i t : Int) (L : List Tm) (w : World) (e : Ending) (w' : World) : Prop :=
  e = .returned (.int .i64 (Alarm.setE i L)) ∧ ∃ L', SetTo i t L L' ∧ TabStep T g r L' w w'
theorem TabStep.after {T : TypeId} {g r : Nat} {L : List Tm} {w w1 w2 : World} (hF : Far (Pr g r) w w1) (h : TabStep T g r L w1 w2) : TabStep T g r L w w2 := by
  obtain ⟨r', h1, h2, h3⟩ := h
  have := hF.size
  exact ⟨r', h1.imp_right (Or.imp_right (by omega)), hF.trans h2 (fun i hi => .inl hi), h3⟩
theorem TabStep.same {T : TypeId} {g r : Nat} {L : List Tm} {w w1 : World} (hF : Far (Pr g r) w w1) (h : TabAt T w1 g r L) : TabStep T g r L w w1 := ⟨r, .inl rfl, hF, h⟩
theorem TabStep.ok {T : TypeId} {g r : Nat} {L : List Tm} {w w1 w2 : World} (h : TabStep T g r L w w1) (k : Ok w1 w2) : TabStep T g r L w w2 := by
  obtain ⟨r', h1, h2, h3⟩ := h
  exact ⟨r', h1, h2.ok k, h3.next k⟩
theorem tabSetNil (i t : Int) (w : World) : Calls Try.prog 9 #[.pointer none, .int .i64 i, .int .i64 t] w fun e w' => e = .returned (.int .i64 2) ∧ w = w' := by
  go_enter Try.func9, Try.ntmps9
  go_wp2
  go_ret
  exact ⟨rfl, rfl⟩
set_option maxHeartbeats 1600000 in
theorem tabSet (g r : Nat) (i t : Int) (L : List Tm) (w : World) (hT : TabAt 50 w g r L) (hG : Alarm.Good L) :
    Calls Try.prog 9 #[.pointer (some ⟨g, 0, none⟩), .int .i64 i, .int .i64 t] w (SetEnd 50 g r i t L w) := by
  have K := tabDrop g r i L w hT hG
  have hfew := hG.few
  by_cases hh : Alarm.has i L = true
  · have e1 : Alarm.dropE i L = 0 := by unfold Alarm.dropE; rw [if_pos hh]
    have e2 : Alarm.setE i L = 0 := by unfold Alarm.setE; rw [if_neg (by rw [hh]; simp)]
    have hdl : (Alarm.drop i L).length < 64 := by
      have h1 := Alarm.drop_le i L
      by_cases e : (Alarm.drop i L).length = L.length
      · have h2 := Alarm.drop_has i L
        have h3 : Alarm.drop i L = L := List.filter_sublist.eq_of_length e
        rw [h3, hh] at h2
        cases h2
      · omega
    unfold DropEnd at K
    rw [e1] at K
    unfold SetEnd
    rw [e2]
    have HK := Lib.hid K
    have HX := Lib.hid (And.intro hG (And.intro e2 hdl))
    clear K hT hG e1 e2 hdl hh
    go_enter Try.func9, Try.ntmps9
    go_wp2_with (go_at_call 11; (with_reducible refine HK.out.mono ?_); rintro e w1 ⟨rfl, hF, hT1⟩; have HT := Lib.hid (And.intro hF hT1); clear hF hT1)
    refine (tabPut g r ⟨i, t⟩ _ _ HT.out.2 (HX.out.1.drop i) (Alarm.drop_has i L) HX.out.2.2).mono ?_
    rintro e w2 ⟨rfl, L', h1, h2, h3⟩
    have HE := Lib.hid (And.intro h1 (And.intro h2 h3))
    clear h1 h2 h3
    go_wp2_with fail
    go_ret
    exact ⟨rfl, L', ⟨HE.out.1, by rw [HX.out.2.1]; exact HE.out.2.1⟩, HE.out.2.2.after HT.out.1⟩
  · replace hh : Alarm.has i L = false := by simpa using hh
    have e1 : Alarm.dropE i L = 9 := by unfold Alarm.dropE; rw [hh]; rfl
    unfold DropEnd at K
    rw [e1] at K
    by_cases h64 : L.length = 64
    · have e2 : Alarm.setE i L = 7 := by unfold Alarm.setE; rw [if_pos ⟨hh, h64⟩]
      unfold SetEnd
      rw [e2]
      have K2 : ∀ W, TabAt 50 W g r L → ∃ A c, W.cell? ⟨g, 0, none⟩ = some (.slice A 64 c) := fun W h => by
        obtain ⟨A, c, hO, -⟩ := h.ex
        exact ⟨A, c, by rw [← h64]; exact hO.cell 0 rfl⟩
      rw [Alarm.drop_none hh] at K
      have HK := Lib.hid K
      have HK2 := Lib.hid K2
      have HX := Lib.hid (And.intro hG e2)
      clear K K2 hT hG e1 e2 hh h64 hfew
      go_enter Try.func9, Try.ntmps9
      go_wp2_with (go_at_call 11; (with_reducible refine HK.out.mono ?_); rintro e w1 ⟨rfl, hF, hT1⟩; obtain ⟨A, c, c0⟩ := HK2.out w1 hT1; have HT := Lib.hid (And.intro hF hT1); clear hF hT1)
      go_ret
      exact ⟨rfl, L, ⟨HX.out.1, by rw [HX.out.2]; rfl⟩, TabStep.same HT.out.1 HT.out.2⟩
    · have e2 : Alarm.setE i L = 0 := by unfold Alarm.setE; rw [if_neg (fun h => h64 h.2)]
      unfold SetEnd
      rw [e2]
      have hd := Alarm.drop_none hh
      rw [hd] at K
      obtain ⟨n, hn⟩ : ∃ n, L.length = n := ⟨_, rfl⟩
      have K2 : ∀ W, TabAt 50 W g r L → ∃ A c, W.cell? ⟨g, 0, none⟩ = some (.slice A n c) := fun W h => by
        obtain ⟨A, c, hO, -⟩ := h.ex
        exact ⟨A, c, by rw [← hn]; exact hO.cell 0 rfl⟩
      have h3 : ((n : Int) == 64) = false := by rw [beq_eq_false_iff_ne]; omega
      have HK := Lib.hid K
      have HK2 := Lib.hid K2
      have HX := Lib.hid (And.intro hG (And.intro e2 (And.intro hh (And.intro hd (show L.length < 64 by omega)))))
      clear K K2 hT hG e1 e2 hh hd hn hfew h64
      go_enter Try.func9, Try.ntmps9
      go_wp2_with (go_at_call 11; (with_reducible refine HK.out.mono ?_); rintro e w1 ⟨rfl, hF, hT1⟩; obtain ⟨A, c, c0⟩ := HK2.out w1 hT1; have HT := Lib.hid (And.intro hF hT1); clear hF hT1)
      refine (tabPut g r ⟨i, t⟩ _ _ HT.out.2 HX.out.1 HX.out.2.2.1 HX.out.2.2.2.2).mono ?_
      rintro e w2 ⟨rfl, L', h1, h2, h3⟩
      have HE := Lib.hid (And.intro h1 (And.intro h2 h3))
      clear h1 h2 h3 c0
      go_wp2_with fail
      go_ret
      exact ⟨rfl, L', ⟨HE.out.1, by rw [HX.out.2.1, HX.out.2.2.2.1]; exact HE.out.2.1⟩, HE.out.2.2.after HT.out.1⟩
end Go.Proofs.Ytfankcoomfmjlaa
