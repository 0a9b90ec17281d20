/- Contracts of layer 9: the program's table: Drop. -/
import Derived.Test.YtfankcoomfmjlaaC09g
namespace Go.Proofs.Ytfankcoomfmjlaa
open Go.RowKit
set_option maxRecDepth 100000
theorem makeF : ∀ (fn : Fn) (first cap : Array Value) (w : World), (Instr.makeFunc fn first cap).run Try.prog w = .ok (.func fn first cap) w := fun _ _ _ _ => rfl
/-- What Drop leaves. -/
def DropEnd (T : TypeId) (g r : Nat) (i : Int) (L : List Tm) (w : World) (e : Ending) (w' : World) : Prop :=
  e = .returned (.int .i64 (Alarm.dropE i L)) ∧ Far (Pr g r) w w' ∧ TabAt T w' g r (Alarm.drop i L)
theorem dropEnd_none {T : TypeId} {g r : Nat} {i : Int} {L : List Tm} {w w' : World} (hT : TabAt T w g r L) (hk : Ok w w') (h : Alarm.has i L = false) : DropEnd T g r i L w (.returned (.int .i64 9)) w' :=
  ⟨by unfold Alarm.dropE; rw [h]; rfl, Far.of_ok hk, by rw [Alarm.drop_none h]; exact hT.next hk⟩
theorem dropEnd_at {g r k c : Nat} {i : Int} {L : List Tm} {w w1 w2 : World} {e : Ending} (hG : (L.map Tm.id).Nodup) (hk : k < L.length) (hid : L[k].id = i) (hok : Ok w w1) (hO : Own w1 g #[.slice (some ⟨r, 0, none⟩) L.length c]) (hne : r ≠ g)
    (hD : DelEnd r c (k + (L.length - (k + 1))) (L.take k ++ L.drop (k + 1)) w1 e w2) : DropEnd 50 g r i L w (.returned (.int .i64 0)) (w2.setCell ⟨g, 0, none⟩ (.slice (some ⟨r, 0, none⟩) (k + (L.length - (k + 1))) c)) := by
  obtain ⟨-, h2, h3⟩ := hD
  have hd := Alarm.drop_at hk hG hid
  have hlen : (Alarm.drop i L).length = k + (L.length - (k + 1)) := by rw [hd, List.length_append, List.length_take, List.length_drop]; omega
  have hO2 : Own w2 g #[.slice (some ⟨r, 0, none⟩) L.length c] := by
    have hl := hO.lt
    obtain ⟨t, ht⟩ := hO
    exact ⟨t, (h2.block g hl (by simpa using fun e => hne e.symm)).trans ht⟩
  refine ⟨by unfold Alarm.dropE; rw [Alarm.has_at hk hid]; rfl, ?_, some ⟨r, 0, none⟩, c, ?_, ?_, .inr ⟨rfl, hne⟩⟩
  · exact ((Far.of_ok hok).grow h2 (fun j hj => by cases hj; exact .inl (.inr rfl))).set (.inl (.inl rfl)) _
  · rw [hlen]
    exact hO2.set 0 _
  · rw [hlen, hd]
    refine h3.kept (w' := w2.setCell _ _) (row := some g) ⟨rfl, rfl, rfl, by simp, fun j _ hj => Below.heap_setCell w2 _ _ j (fun e => hj (by rw [e]))⟩ (.inr ?_)
    simpa [Value.ownBlock] using hne
set_option maxHeartbeats 1600000 in
theorem tabDrop (g r : Nat) (i : Int) (L : List Tm) (w : World) (hT : TabAt 50 w g r L) (hG : Alarm.Good L) : Calls Try.prog 11 #[.pointer (some ⟨g, 0, none⟩), .int .i64 i] w (DropEnd 50 g r i L w) := by
  obtain ⟨A, c, hO, hR, hC, hlc, hc63, hA⟩ := hT.opened
  have hmf := makeF
  have hok := (Ok.refl w).alloc (.cells #[.int .i64 i] 3)
  have hB := Own.new w #[.int .i64 i] 3 rfl
  have hlen := hG.few
  have hO1 := hO.alloc (.cells #[.int .i64 i] 3)
  have c0 := hO1.cell 0 rfl
  have K := Lib.hid (indexDrop i w.heap.size A L c _ (hB.cell 0 rfl) hB.lt (hC.below hok) (by omega))
  have HX := Lib.hid (And.intro hT (And.intro hG (And.intro hO1 (And.intro hR (And.intro hok hA)))))
  clear hT hG hO hR hC hB hA hok hO1
  go_enter Try.func11, Try.ntmps11
  go_wp2_with fail
  refine K.out.mono ?_
  rintro e w1 ⟨hok1, ⟨k, hk, hid, rfl⟩ | ⟨hno, rfl⟩⟩
  · have hA : A = some ⟨r, 0, none⟩ ∧ r ≠ g := by
      rcases HX.out.2.2.2.2.2 with ⟨rfl, _⟩ | h
      · rcases HX.out.2.2.2.1.2 with ⟨h1, h2⟩ | ⟨g', cap, cur, h1, _⟩
        · omega
        · simp at h1
      · exact h
    obtain ⟨rfl, hne⟩ := hA
    have hO2 := HX.out.2.2.1.next hok1
    have c1 := hO2.cell 0 rfl
    have f1 := hO2.frozen 0
    have hR2 := (Far.of_ok (S := fun _ => False) (HX.out.2.2.2.2.1.trans hok1)).row HX.out.2.2.2.1 (fun _ _ h => h)
    have KD := Lib.hid (slicesDelete r c k (k + 1) L w1 hR2 (by omega) hk (by omega))
    have HY := Lib.hid (And.intro hid (And.intro hok1 (And.intro hO2 hne)))
    have hki : IntKind.i64.wrap ((k : Int) + 1) = ((k + 1 : Nat) : Int) := by rw [IntWalk.i64_in _ ⟨by omega, by omega⟩]; rfl
    have hgr : g ≠ r := fun e => hne e.symm
    clear c0 hid hok1 hO2 hR2
    go_wp2_with fail
    refine KD.out.mono ?_
    rintro e w2 ⟨rfl, h2, h3⟩
    have HZ := Lib.hid (And.intro h2 h3)
    have hO3 : Own w2 g #[.slice (some ⟨r, 0, none⟩) L.length c] := by
      have hl := HY.out.2.2.1.lt
      obtain ⟨t, ht⟩ := HY.out.2.2.1
      exact ⟨t, (h2.block g hl (by simpa using hgr)).trans ht⟩
    have c2 := hO3.cell 0 rfl
    have f2 := hO3.frozen 0
    clear h2 h3 hO3 c1 f1
    go_wp2_with fail
    go_ret
    exact dropEnd_at HX.out.2.1.apart hk HY.out.1 (HX.out.2.2.2.2.1.trans HY.out.2.1) HY.out.2.2.1 HY.out.2.2.2 ⟨rfl, HZ.out.1, HZ.out.2⟩
  · go_wp2_with fail
    go_ret
    exact dropEnd_none HX.out.1 (HX.out.2.2.2.2.1.trans hok1) hno
end Go.Proofs.Ytfankcoomfmjlaa
