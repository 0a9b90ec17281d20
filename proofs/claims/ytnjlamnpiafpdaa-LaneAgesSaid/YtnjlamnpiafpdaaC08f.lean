/- Contracts of layer 8: the program's Lanes: Clear, Tick. -/
import Derived.Test.YtnjlamnpiafpdaaC08e
import Derived.Deep.MidRow
namespace Go.Proofs.Ytnjlamnpiafpdaa
open Go.RowKit
set_option maxRecDepth 100000
theorem lanesClearNil (who : Int) (w : World) : Calls Try.prog 16 #[.pointer none, .int .i64 who] w fun e w' => e = .returned (.tuple #[]) ∧ w = w' := by
  go_enter Try.func16, Try.ntmps16
  go_wp2_with (go_at_call 20; (with_reducible refine (lanesRowNil who _).mono ?_); rintro e w1 ⟨rfl, rfl⟩)
  go_end0
  exact ⟨rfl, rfl⟩
/-- Cells that are laid one behind the other. -/
def cellsFrom (cs : Array Value) : Nat → List Value → Array Value
  | _, [] => cs
  | o, v :: r => cellsFrom (cs.set! o v) (o + 1) r
theorem Own.setCells {g : Nat} : ∀ (vs : List Value) (o : Nat) {w : World} {cs : Array Value}, Own w g cs → Own (w.setCells g o vs) g (cellsFrom cs o vs)
  | [], _, _, _, h => h
  | v :: r, o, _, _, h => Own.setCells r (o + 1) (h.set o v)
theorem Only.setCells {g : Nat} {w0 : World} : ∀ (vs : List Value) (o : Nat) {w : World}, Only g w0 w → Only g w0 (w.setCells g o vs)
  | [], _, _, h => h
  | v :: r, o, _, h => Only.setCells r (o + 1) (h.setR o v)
theorem cellsFrom_size : ∀ (vs : List Value) (o : Nat) (cs : Array Value), (cellsFrom cs o vs).size = cs.size
  | [], _, _ => rfl
  | v :: r, o, cs => by unfold cellsFrom; rw [cellsFrom_size r, set_size]
theorem cellsFrom_out : ∀ (vs : List Value) (o : Nat) (cs : Array Value) (k : Nat), k < o ∨ o + vs.length ≤ k → (cellsFrom cs o vs)[k]? = cs[k]?
  | [], _, _, _, _ => rfl
  | v :: r, o, cs, k, h => by
    simp only [List.length_cons] at h
    unfold cellsFrom
    rw [cellsFrom_out r (o + 1) _ k (by omega), set_else _ _ (by omega)]
theorem cellsFrom_in : ∀ (vs : List Value) (o : Nat) (cs : Array Value) (j : Nat), o + vs.length ≤ cs.size → j < vs.length → (cellsFrom cs o vs)[o + j]? = vs[j]?
  | [], _, _, _, _, h => absurd h (Nat.not_lt_zero _)
  | v :: r, o, cs, 0, hs, _ => by
    simp only [List.length_cons] at hs
    unfold cellsFrom
    rw [cellsFrom_out r (o + 1) _ _ (by omega), Nat.add_zero, set_same _ _ _ (by omega)]
    rfl
  | v :: r, o, cs, j + 1, hs, h => by
    simp only [List.length_cons] at hs h
    unfold cellsFrom
    rw [show o + (j + 1) = o + 1 + j by omega, cellsFrom_in r (o + 1) _ j (by rw [set_size]; omega) (by omega)]
    rfl
theorem zeroFrom_aside (cs : Array Value) (o : Nat) : Aside o cs (cellsFrom cs o zeroRow) := ⟨cellsFrom_size _ _ _, fun k hk => cellsFrom_out _ _ _ _ (by rw [zeroRow_length]; omega)⟩
theorem zeroFrom_ring (cs : Array Value) (o : Nat) (h : o + 130 ≤ cs.size) : Ring (cellsFrom cs o zeroRow) o 0 [] := by
  refine ⟨by decide, by decide, by rw [cellsFrom_size]; exact h, ?_, ?_, fun i h => absurd h (Nat.not_lt_zero _), fun i h => absurd h (Nat.not_lt_zero _)⟩
  · rw [cellsFrom_in zeroRow o cs 128 (by rw [zeroRow_length]; exact h) (by rw [zeroRow_length]; decide)]; rfl
  · rw [cellsFrom_in zeroRow o cs 129 (by rw [zeroRow_length]; exact h) (by rw [zeroRow_length]; decide)]; rfl
theorem zeroR : (Sem.run Try.prog (zeroValue 50)) = (fun w => .ok (.agg zeroRow.toArray) w) := by
  funext w
  kernel_rfl
theorem rowInfo : (Try.prog.info? 50).map (·.size) = some zeroRow.toArray.size := by rw [List.size_toArray, zeroRow_length]; kernel_rfl
theorem rowOne : zeroRow.toArray.all (·.oneCell') = true := by decide +kernel
theorem lanesClear (g : Nat) (L : List It) (who N : Int) (w : World) (hL : LaneL w g L) (_hG : Lane.Good N L) :
    Calls Try.prog 16 #[.pointer (some ⟨g, 0, none⟩), .int .i64 who] w fun e w' => e = .returned (.tuple #[]) ∧ Only g w w' ∧ LaneL w' g (Lane.clear who L) := by
  by_cases hn : 0 ≤ who ∧ who < 48
  · obtain ⟨k, rfl⟩ : ∃ k : Nat, who = k := ⟨who.toNat, by omega⟩
    have hk : k < 48 := by omega
    have hrow := Lane.row_clear k L
    obtain ⟨cs, hO, hl⟩ := hL
    have hsz := hl.size
    have hth : w.there g (k * 130) zeroRow.toArray.size := fun j hj => by
      rw [List.size_toArray, zeroRow_length] at hj
      refine ⟨?_, hO.frozen _⟩
      rw [hO.cell _ (Array.getElem?_eq_getElem (show k * 130 + j < cs.size by omega))]
      rfl
    have HX := Lib.hid (And.intro hl (And.intro hrow hth))
    have hz := zeroR
    have HO := Lib.hid hO
    clear hl hrow hn hth hsz _hG hO
    go_enter Try.func16, Try.ntmps16
    go_wp2_with (first | (go_at_call 20; (with_reducible refine (lanesRow g k _ hk).mono ?_); rintro e w1 ⟨rfl, rfl⟩) | (with_reducible refine wpList_store_mid rfl 50 (.tmp 12) (.tmp 11) rfl g (k * 130) zeroRow.toArray rfl rfl HX.out.2.2 rowInfo rowOne ?_))
    go_end0
    exact ⟨rfl, (Only.refl _ _).setCells _ _, LaneL.turn HX.out.1 (HO.out.setCells zeroRow (k * 130)) k (zeroFrom_aside _ _) ⟨0, zeroFrom_ring _ _ (by have := HX.out.1.size; omega)⟩ fun v => by rw [HX.out.2.1, ifc]⟩
  · have hw : who < 0 ∨ 48 ≤ who := by omega
    have HL : Hid (LaneL w g (Lane.clear who L)) := Lib.hid (hL.congr fun v hv => by rw [Lane.row_clear, if_neg (by omega)])
    clear hn hL _hG
    go_enter Try.func16, Try.ntmps16
    go_wp2_with (go_at_call 20; (with_reducible refine (lanesRowNobody g who _ hw).mono ?_); rintro e w1 ⟨rfl, rfl⟩)
    go_end0
    exact ⟨rfl, Only.refl _ _, HL.out⟩
theorem lanesTickNil (most : Int) (w : World) : Calls Try.prog 14 #[.pointer none, .int .i64 most] w fun e w' => e = .returned (.int .i64 0) ∧ w = w' := by
  go_enter Try.func14, Try.ntmps14
  go_wp2
  go_ret
  exact ⟨rfl, rfl⟩
/-- Behind k rounds of Tick: j are gone. -/
def TickAt (g : Nat) (L : List It) (most : Int) (w : World) (k j : Nat) (wr : World) : Prop :=
  Only g w wr ∧ LanesAt wr g (fun i => if i < k then Lane.older most (Lane.row L i) else Lane.row L i) ∧ j + Lane.total (fun i => Lane.older most (Lane.row L i)) k = Lane.total (fun i => Lane.row L i) k
theorem tickAt_end {g : Nat} {L : List It} {most N : Int} {w wr : World} {j : Nat} (hG : Lane.Good N L) (h : TickAt g L most w 48 j wr) :
    Ending.returned (.int .i64 (j : Int)) = .returned (.int .i64 ((L.length - (Lane.tick most L).length : Nat) : Int)) ∧ Only g w wr ∧ LaneL wr g (Lane.tick most L) := by
  obtain ⟨h1, h2, h3⟩ := h
  have e : Lane.total (fun i => Lane.older most (Lane.row L i)) 48 = (Lane.tick most L).length := by
    rw [← (hG.tick most).total]
    exact Lane.total_congr 48 fun k _ => by rw [Lane.row_tick]
  rw [e, hG.total] at h3
  refine ⟨ret_int (by omega), h1, h2.congr fun k hk => ?_⟩
  rw [if_pos hk, Lane.row_tick]
theorem tickAt_next {g : Nat} {L : List It} {most : Int} {w wr w1 : World} {k j : Nat} {cs cs' : Array Value} (hk : k < 48) (h1 : Only g w wr) (hl : Laid cs (fun i => if i < k then Lane.older most (Lane.row L i) else Lane.row L i))
    (h3 : j + Lane.total (fun i => Lane.older most (Lane.row L i)) k = Lane.total (fun i => Lane.row L i) k) (hB : Only g wr w1) (hO : Own w1 g cs') (hA : Aside (k * 130) cs cs') {f : Nat} (hR : Ring cs' (k * 130) f (Lane.older most (Lane.row L k)))
    {D : Nat} (hD : (Lane.row L k).length - (Lane.older most (Lane.row L k)).length = D) : TickAt g L most w (k + 1) (j + D) w1 := by
  refine ⟨h1.trans hB, ⟨cs', hO, (hl.turn k hA ⟨f, hR⟩).congr fun i hi => ?_⟩, ?_⟩
  · by_cases e : i = k
    · subst e; rw [if_pos (by omega), if_pos rfl]
    · rw [if_neg e]
      by_cases hik : i < k
      · rw [if_pos hik, if_pos (by omega)]
      · rw [if_neg hik, if_neg (by omega)]
  · unfold Lane.total
    have := Lane.older_length most (Lane.row L k)
    omega
set_option maxHeartbeats 800000 in
theorem lanesTick (g : Nat) (L : List It) (most N : Int) (w : World) (hL : LaneL w g L) (hG : Lane.Good N L) (hN : N < 4611686018427387904) :
    Calls Try.prog 14 #[.pointer (some ⟨g, 0, none⟩), .int .i64 most] w fun e w' => e = .returned (.int .i64 ((L.length - (Lane.tick most L).length : Nat) : Int)) ∧ Only g w w' ∧ LaneL w' g (Lane.tick most L) := by
  have H0 : Hid (TickAt g L most w 0 0 w) := Lib.hid ⟨Only.refl _ _, LanesAt.congr hL fun k hk => by simp, rfl⟩
  have HG := Lib.hid (And.intro hG hN)
  clear hL hG hN
  obtain ⟨R, hR⟩ : ∃ R, Ending.returned (.int .i64 ((L.length - (Lane.tick most L).length : Nat) : Int)) = R := ⟨_, rfl⟩
  rw [hR]
  have HE := Lib.hid hR
  clear hR
  go_enter Try.func14, Try.ntmps14
  go_wp2_with fail
  go_loopw [5, 9] (fun v i wr => ∃ k j : Nat, k ≤ 48 ∧ j ≤ k * 64 ∧ i = .int .i64 k ∧ v = .int .i64 j ∧ Hid (TickAt g L most w k j wr)) (fun _ i _ => 48 - (intOf i).toNat)
  case atStart => exact ⟨0, 0, Nat.zero_le _, Nat.zero_le _, rfl, rfl, H0⟩
  case round =>
    obtain ⟨k, j, hk, hj, rfl, rfl, hrel⟩ := hrel
    clear H0
    by_cases hlt : k < 48
    · obtain ⟨h1, ⟨cs, hO, hl⟩, h3⟩ := hrel.out
      obtain ⟨f, hR⟩ := hl.ring k hlt
      simp only [Nat.lt_irrefl, if_false] at hR
      obtain ⟨D, hD⟩ : ∃ D, (Lane.row L k).length - (Lane.older most (Lane.row L k)).length = D := ⟨_, rfl⟩
      have hD64 : D ≤ 64 := by have := hR.hl; omega
      have K := ringTick g (k * 130) f cs (Lane.row L k) most wr hO hR (HG.out.1.falls k) (fun y hy => by have := HG.out.1.ages hy; have := HG.out.2; omega)
      unfold TickEnd at K
      rw [hD] at K
      have HK := Lib.hid K
      have HX := Lib.hid (And.intro h1 (And.intro hl (And.intro h3 hD)))
      clear hrel h1 hO hl h3 hR hD K
      go_wp2_with (go_at_call 24; (with_reducible refine HK.out.mono ?_); rintro e w1 ⟨rfl, hB, cs', f', hO', hA, hR'⟩; have HY := Lib.hid (And.intro hB (And.intro hO' (And.intro hA hR'))); clear hB hO' hA hR')
      go_roundw
      case rel => exact ⟨k + 1, j + D, by omega, by omega, by go_num, by go_num, Lib.hid (tickAt_next hlt HX.out.1 HX.out.2.1 HX.out.2.2.1 HY.out.1 HY.out.2.1 HY.out.2.2.1 HY.out.2.2.2 HX.out.2.2.2)⟩
      case measure => simp [intOf]; omega
    · obtain rfl : k = 48 := by omega
      have HT := Lib.hid (tickAt_end HG.out.1 hrel.out)
      clear hrel
      go_wp2_with fail
      go_ret
      exact ⟨by rw [← HE.out]; exact HT.out.1, HT.out.2⟩
end Go.Proofs.Ytnjlamnpiafpdaa
