/- Contracts of layer 8: the document's Lanes: Tick, Clear. -/
import Derived.Test.YtnjlamnpiafpdaaC08i
namespace Go.Proofs.Ytnjlamnpiafpdaa
open Go.RowKit
set_option maxRecDepth 100000
/-- The row in the making. -/
def OutAt (w : World) (L : List It) (v : Value) (wr : World) : Prop := Ok w wr ∧ ∃ A c, v = .slice A L.length c ∧ wr.ownsRow w.heap.size 40 3 (.slice A L.length c) L.length (L.flatMap itcells)
theorem tick_more (most : Int) (L : List It) {k : Nat} (hk : k < L.length) : Lane.tick most (L.take (k + 1)) = Lane.tick most (L.take k) ++ if L[k].age + 1 ≤ most then [⟨L[k].who, L[k].text, L[k].age + 1⟩] else [] := by
  rw [take_more hk]
  unfold Lane.tick
  rw [List.map_append, List.filter_append]
  congr 1
  by_cases h : L[k].age + 1 ≤ most <;> simp [h]
theorem clear_more (who : Int) (L : List It) {k : Nat} (hk : k < L.length) : Lane.clear who (L.take (k + 1)) = Lane.clear who (L.take k) ++ if L[k].who = who then [] else [L[k]] := by
  rw [take_more hk]
  unfold Lane.clear
  rw [List.filter_append]
  congr 1
  by_cases h : L[k].who = who <;> simp [h]
theorem tick_le (most : Int) (L : List It) (k : Nat) : (Lane.tick most (L.take k)).length ≤ L.length := Nat.le_trans (Lane.tick_length _ _) (by rw [List.length_take]; omega)
theorem clear_le (who : Int) (L : List It) (k : Nat) : (Lane.clear who (L.take k)).length ≤ L.length := Nat.le_trans (List.length_filter_le _ _) (by rw [List.length_take]; omega)
theorem out_next {w W2 : World} {T T' : List It} {x : It} (e : T' = T ++ [x]) (hok : Ok w W2) {A2 : Option Addr} {c2 : Nat} (hr : W2.ownsRow w.heap.size 40 3 (.slice A2 (T.length + 1) c2) (T.length + 1) (T.flatMap itcells ++ itcells x)) : OutAt w T' (.slice A2 (T.length + 1) c2) W2 := by
  subst e
  have el : (T ++ [x]).length = T.length + 1 := by simp
  refine ⟨hok, A2, c2, by rw [el], ?_⟩
  rw [el, List.flatMap_append]
  simpa using hr
theorem out_same {w wr w2 : World} {T T' : List It} (e : T' = T) (hok : Ok w wr) (k : Ok wr w2) {A1 : Option Addr} {c1 : Nat} (hr : wr.ownsRow w.heap.size 40 3 (.slice A1 T.length c1) T.length (T.flatMap itcells)) : OutAt w T' (.slice A1 T.length c1) w2 := by
  subst e
  exact ⟨hok.trans k, A1, c1, rfl, hr.kept (w' := w2) (row := none) ⟨k.below.os, k.below.tape, k.below.output, k.size, fun i hi _ => k.below.block i hi⟩ (by cases h : (Value.slice A1 T'.length c1).ownBlock <;> simp)⟩
set_option maxHeartbeats 1600000 in
theorem refTick (g r : Nat) (L : List It) (most N : Int) (w : World) (hR : RefAt w g r L) (hG : Lane.Good N L) (hN : N < 4611686018427387904) (hlen : L.length ≤ 400000) (hgl : g < w.heap.size) (_hgr : g ≠ r) :
    Calls Try.prog 15 #[.pointer (some ⟨r, 0, none⟩), .int .i64 most] w fun e w' => e = .returned (.int .i64 ((L.length - (Lane.tick most L).length : Nat) : Int)) ∧ Only r w w' ∧ RefAt w' g r (Lane.tick most L) := by
  have hrl := hR.lt
  obtain ⟨A, cap, hO, hC, hcap, hm, -⟩ := hR.opened
  have c0 := hO.cell 0 rfl
  have HC := Lib.hid hC
  have HO := Lib.hid hO
  have HG := Lib.hid hG
  have H0 : Hid (OutAt w (Lane.tick most (L.take 0)) (.slice none 0 0) w) := Lib.hid ⟨Ok.refl w, none, 0, rfl, World.ownsRow_nil _ _ _ _⟩
  obtain ⟨R, hRR⟩ : ∃ R, Ending.returned (.int .i64 ((L.length - (Lane.tick most L).length : Nat) : Int)) = R := ⟨_, rfl⟩
  rw [hRR]
  have HE := Lib.hid hRR
  clear hO hC hR hG hRR
  go_enter Try.func15, Try.ntmps15
  go_wp2_with fail
  go_loopw [5, 14] (fun v i wr => ∃ k : Nat, k ≤ L.length ∧ i = .int .i64 k ∧ Hid (OutAt w (Lane.tick most (L.take k)) v wr)) (fun _ i _ => L.length - (intOf i).toNat)
  case atStart => exact ⟨0, Nat.zero_le _, rfl, H0⟩
  case round =>
    obtain ⟨k, hk, rfl, hrel⟩ := hrel
    obtain ⟨hok1, A1, c1, rfl, hr1⟩ := hrel.out
    clear H0 c0 hrel
    by_cases hlt : k < L.length
    · obtain ⟨b, off, hA, hb, hc⟩ := (HC.out.below hok1).at itcells_length (by decide) k hlt
      subst hA
      have hage := HG.out.age _ (List.getElem_mem hlt)
      have hmore := tick_more most L hlt
      have hle := tick_le most L k
      obtain ⟨x, hx⟩ : ∃ x, L[k] = x := ⟨_, rfl⟩
      rw [hx] at hc hage hmore
      have c0 := hc 0 _ rfl
      have c1' := hc 1 _ rfl
      have c2 := hc 2 _ rfl
      rw [Nat.add_zero] at c0
      obtain ⟨xw, xs, xa⟩ := x
      simp only at c0 c1' c2 hage hmore
      obtain ⟨hg1, hg2⟩ := hage
      generalize hT : Lane.tick most (L.take k) = T at hr1 hmore hle ⊢
      have HM := Lib.hid hmore
      have HR1 := Lib.hid hr1
      have HK := Lib.hid hok1
      clear hc hx hmore hT hr1 hok1
      by_cases he : xa + 1 ≤ most
      · rw [if_pos he] at HM
        go_wp2_with (at_builtin; refine wpList_append_cells2 rfl (.tmp 26) (.tmp 28) 28 rfl w.heap.size 40 Try.underlying28 _ 3 32 (by decide) (by decide) rfl itemInfo _ T.length _ rfl ((HR1.out.alloc _).alloc _) _ 1 _ (itcells ⟨xw, xs, xa + 1⟩) rfl rfl (CellsAt.new _ _ _ rfl (by simp)) (its_one [⟨xw, xs, xa + 1⟩] ·) (by omega) (by have := HK.out.size; simp; omega) ?_; intro A2 c2 W2 hr2 hg2; have HR2 := Lib.hid hr2; have OK3 := Lib.hid (ok_grown ((HK.out.alloc _).alloc _) hg2 (own_ge HR1.out)); clear hr2 hg2)
        go_roundw
        case rel => exact ⟨k + 1, by omega, by go_num, Lib.hid (out_next HM.out OK3.out HR2.out)⟩
        case measure => simp [intOf]; omega
      · rw [if_neg he, List.append_nil] at HM
        go_wp2_with fail
        go_roundw
        case rel => exact ⟨k + 1, by omega, by go_num, Lib.hid (out_same HM.out HK.out ((Ok.refl _).alloc _) HR1.out)⟩
        case measure => simp [intOf]; omega
    · obtain rfl : k = L.length := by omega
      have hT : L.take L.length = L := List.take_length
      rw [hT] at hr1 ⊢
      have hle := Lane.tick_length most L
      have HR1 := Lib.hid hr1
      have HK := Lib.hid hok1
      have O3 := HO.out.next hok1
      have d0 := O3.cell 0 rfl
      have d1 := O3.frozen 0
      clear hr1 hok1 hT
      obtain ⟨M, hM⟩ : ∃ M, (Lane.tick most L).length = M := ⟨_, rfl⟩
      rw [hM] at HR1 HE hle ⊢
      have HM := Lib.hid hM
      clear hM
      go_wp2_with fail
      go_ret
      obtain ⟨hB, hRf⟩ := ref_stored (g := g) (n := M) (L := Lane.tick most L) HK.out (by omega) (by omega) O3 HM.out.symm HR1.out
      exact ⟨by rw [← HE.out]; exact ret_int (by omega), hB, hRf⟩
set_option maxHeartbeats 1600000 in
theorem refClear (g r : Nat) (L : List It) (who : Int) (w : World) (hR : RefAt w g r L) (hlen : L.length ≤ 400000) (hgl : g < w.heap.size) (_hgr : g ≠ r) :
    Calls Try.prog 17 #[.pointer (some ⟨r, 0, none⟩), .int .i64 who] w fun e w' => e = .returned (.tuple #[]) ∧ Only r w w' ∧ RefAt w' g r (Lane.clear who L) := by
  have hrl := hR.lt
  obtain ⟨A, cap, hO, hC, hcap, hm, -⟩ := hR.opened
  have c0 := hO.cell 0 rfl
  have HC := Lib.hid hC
  have HO := Lib.hid hO
  have H0 : Hid (OutAt w (Lane.clear who (L.take 0)) (.slice none 0 0) w) := Lib.hid ⟨Ok.refl w, none, 0, rfl, World.ownsRow_nil _ _ _ _⟩
  clear hO hC hR
  go_enter Try.func17, Try.ntmps17
  go_wp2_with fail
  go_loopw [4, 12] (fun v i wr => ∃ k : Nat, k ≤ L.length ∧ i = .int .i64 k ∧ Hid (OutAt w (Lane.clear who (L.take k)) v wr)) (fun _ i _ => L.length - (intOf i).toNat)
  case atStart => exact ⟨0, Nat.zero_le _, rfl, H0⟩
  case round =>
    obtain ⟨k, hk, rfl, hrel⟩ := hrel
    obtain ⟨hok1, A1, c1, rfl, hr1⟩ := hrel.out
    clear H0 c0 hrel
    by_cases hlt : k < L.length
    · obtain ⟨b, off, hA, hb, hc⟩ := (HC.out.below hok1).at itcells_length (by decide) k hlt
      subst hA
      have hmore := clear_more who L hlt
      have hle := clear_le who L k
      obtain ⟨x, hx⟩ : ∃ x, L[k] = x := ⟨_, rfl⟩
      rw [hx] at hc hmore
      have c0 := hc 0 _ rfl
      have c1' := hc 1 _ rfl
      have c2 := hc 2 _ rfl
      rw [Nat.add_zero] at c0
      obtain ⟨xw, xs, xa⟩ := x
      simp only at c0 c1' c2 hmore
      generalize hT : Lane.clear who (L.take k) = T at hr1 hmore hle ⊢
      have HM := Lib.hid hmore
      have HR1 := Lib.hid hr1
      have HK := Lib.hid hok1
      clear hc hx hmore hT hr1 hok1
      by_cases he : xw = who
      · rw [if_pos he, List.append_nil] at HM
        subst he
        go_wp2_with fail
        go_roundw
        case rel => exact ⟨k + 1, by omega, by go_num, Lib.hid (out_same HM.out HK.out ((Ok.refl _).alloc _) HR1.out)⟩
        case measure => simp [intOf]; omega
      · rw [if_neg he] at HM
        have hd : (xw != who) = true := by simpa using he
        clear he
        go_wp2_with (at_builtin; refine wpList_append_cells2 rfl (.tmp 20) (.tmp 22) 28 rfl w.heap.size 40 Try.underlying28 _ 3 32 (by decide) (by decide) rfl itemInfo _ T.length _ rfl ((HR1.out.alloc _).alloc _) _ 1 _ (itcells ⟨xw, xs, xa⟩) rfl rfl (CellsAt.new _ _ _ rfl (by simp)) (its_one [⟨xw, xs, xa⟩] ·) (by omega) (by have := HK.out.size; simp; omega) ?_; intro A2 c2 W2 hr2 hg2; have HR2 := Lib.hid hr2; have OK3 := Lib.hid (ok_grown ((HK.out.alloc _).alloc _) hg2 (own_ge HR1.out)); clear hr2 hg2)
        go_roundw
        case rel => exact ⟨k + 1, by omega, by go_num, Lib.hid (out_next HM.out OK3.out HR2.out)⟩
        case measure => simp [intOf]; omega
    · obtain rfl : k = L.length := by omega
      have hT : L.take L.length = L := List.take_length
      rw [hT] at hr1 ⊢
      have HR1 := Lib.hid hr1
      have HK := Lib.hid hok1
      have O3 := HO.out.next hok1
      have d0 := O3.cell 0 rfl
      have d1 := O3.frozen 0
      clear hr1 hok1 hT
      obtain ⟨M, hM⟩ : ∃ M, (Lane.clear who L).length = M := ⟨_, rfl⟩
      rw [hM] at HR1 ⊢
      have HM := Lib.hid hM
      clear hM
      go_wp2_with fail
      go_end0
      obtain ⟨hB, hRf⟩ := ref_stored (g := g) (n := M) (L := Lane.clear who L) HK.out (by omega) (by omega) O3 HM.out.symm HR1.out
      exact ⟨rfl, hB, hRf⟩
end Go.Proofs.Ytnjlamnpiafpdaa
