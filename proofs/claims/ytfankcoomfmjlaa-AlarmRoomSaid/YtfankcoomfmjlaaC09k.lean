/- Contracts of layer 9: the program's table: Due. -/
import Derived.Test.YtfankcoomfmjlaaC09j
namespace Go.Proofs.Ytfankcoomfmjlaa
open Go.RowKit
set_option maxRecDepth 100000
theorem infoI : (Try.prog.info? 3).map (fun i => (i.zero, i.size, i.bytes)) = some (some (.int .i64 0), 1, 8) := by kernel_rfl
/-- The numbers of the first k. -/
def ids (k : Nat) (L : List Tm) : List Int := (L.take k).map Tm.id
theorem ids_length {k : Nat} {L : List Tm} (h : k ≤ L.length) : (ids k L).length = k := by unfold ids; rw [List.length_map, List.length_take]; omega
theorem ids_more {k : Nat} {L : List Tm} (h : k < L.length) : ids (k + 1) L = ids k L ++ [L[k].id] := by unfold ids; rw [List.take_succ_eq_append_getElem h, List.map_append]; rfl
/-- A row of the numbers of the first k. -/
def IdsAt (B : Nat) (w : World) (A : Option Addr) (k c : Nat) (L : List Tm) : Prop := w.ownsRow B 3 1 (.slice A k c) k ((ids k L).map (Value.int .i64))
theorem IdsAt.ints {B k c : Nat} {w : World} {A : Option Addr} {L : List Tm} (h : IdsAt B w A k c L) (hk : k ≤ L.length) : IntsAt w A (ids k L) := by
  have h1 := ids_length hk
  unfold IdsAt at h
  rw [← h1] at h
  obtain ⟨A', c', e, hI⟩ := IntsAt.of_own (l := ids k L) (v := .slice A (ids k L).length c) (by rw [h1] at h ⊢; exact h)
  cases e
  exact hI
theorem IdsAt.new {B k c : Nat} {w : World} {A : Option Addr} {L : List Tm} (h : IdsAt B w A k c L) : ∀ a, A = some a → B ≤ a.block := fun a ha => by
  subst ha
  exact (h.lt a.block rfl).1
/-- What Due leaves. -/
def DueEnd (T : TypeId) (g r k : Nat) (L : List Tm) (w : World) (e : Ending) (w' : World) : Prop :=
  ∃ A c r', e = .returned (.slice A k c) ∧ IntsAt w' A (ids k L) ∧ (∀ a, A = some a → w.heap.size ≤ a.block ∧ a.block ≠ r') ∧ (r' = r ∨ r' = g ∨ w.heap.size ≤ r') ∧ Far (Pr g r) w w' ∧ TabAt T w' g r' (L.drop k)
theorem dueEnd_none {T : TypeId} {g r c : Nat} {L : List Tm} {w w' : World} {A : Option Addr} (hT : TabAt T w g r L) (hok : Ok w w') (hI : IdsAt w.heap.size w' A 0 c L) : DueEnd T g r 0 L w (.returned (.slice A 0 c)) w' :=
  ⟨A, c, r, rfl, hI.ints (Nat.zero_le _), fun a ha => ⟨hI.new a ha, by have := hI.new a ha; have := hT.lt.2; omega⟩, .inl rfl, Far.of_ok hok, by rw [List.drop_zero]; exact hT.next hok⟩
theorem dueEnd_some {g r k c ct : Nat} {L : List Tm} {w w1 w2 : World} {A : Option Addr} {e : Ending} (hk : k ≤ L.length) (hT : TabAt 50 w g r L) (hok : Ok w w1) (hO : Own w1 g #[.slice (some ⟨r, 0, none⟩) L.length ct]) (hne : r ≠ g) (hI : IdsAt w.heap.size w1 A k c L)
    (hD : DelEnd r ct (L.length - k) (L.take 0 ++ L.drop k) w1 e w2) : DueEnd 50 g r k L w (.returned (.slice A k c)) (w2.setCell ⟨g, 0, none⟩ (.slice (some ⟨r, 0, none⟩) (L.length - k) ct)) := by
  obtain ⟨-, h2, h3⟩ := hD
  have hlt := hT.lt
  have hlen : (L.drop k).length = L.length - k := List.length_drop
  have hO2 : Own w2 g #[.slice (some ⟨r, 0, none⟩) L.length ct] := by
    have hl := hO.lt
    obtain ⟨t, ht⟩ := hO
    exact ⟨t, (h2.block g hl (by simpa using fun e => hne e.symm)).trans ht⟩
  have hS : Far (Pr g r) w1 (w2.setCell ⟨g, 0, none⟩ (.slice (some ⟨r, 0, none⟩) (L.length - k) ct)) := ((Far.refl _ _).grow h2 (fun j hj => by cases hj; exact .inl (.inr rfl))).set (.inl (.inl rfl)) _
  have hI2 : IdsAt w.heap.size (w2.setCell ⟨g, 0, none⟩ (.slice (some ⟨r, 0, none⟩) (L.length - k) ct)) A k c L := hS.row hI fun j hj hc => by
    have := hI.lt j hj
    rcases hc with rfl | rfl <;> omega
  refine ⟨A, c, r, rfl, hI2.ints hk, fun a ha => ⟨hI2.new a ha, by have := hI2.new a ha; omega⟩, .inl rfl, ((Far.of_ok hok).trans hS fun _ h => .inl h), some ⟨r, 0, none⟩, ct, ?_, ?_, .inr ⟨rfl, hne⟩⟩
  · rw [hlen]
    exact hO2.set 0 _
  · rw [hlen]
    rw [List.take_zero, List.nil_append] at h3
    refine h3.kept (w' := w2.setCell _ _) (row := some g) ⟨rfl, rfl, rfl, by simp, fun j _ hj => Below.heap_setCell w2 _ _ j (fun e => hj (by rw [e]))⟩ (.inr ?_)
    simpa [Value.ownBlock] using hne
/-- Behind k rounds of Due. -/
def DueAt (_g _r : Nat) (now : Int) (L : List Tm) (w : World) (k : Nat) (A : Option Addr) (c : Nat) (wr : World) : Prop :=
  (∀ j (hj : j < L.length), j < k → L[j].t ≤ now) ∧ IdsAt w.heap.size wr A k c L ∧ Ok w wr
theorem tabDueNil (now : Int) (w : World) : Calls Try.prog 14 #[.pointer none, .int .i64 now] w fun e w' => e = .returned (.slice none 0 0) ∧ w = w' := by
  go_enter Try.func14, Try.ntmps14
  go_wp2_with fail
  refine wp_loop_rounds 1 ?_
  rw [rounds_succ]
  go_wp2_with (go_at_call 18; (with_reducible refine (tabLenNil _).mono ?_); rintro e w1 ⟨rfl, rfl⟩)
  go_ret
  exact ⟨rfl, rfl⟩
set_option maxHeartbeats 1600000 in
theorem tabDue (g r : Nat) (now : Int) (L : List Tm) (w : World) (hT : TabAt 50 w g r L) (hG : Alarm.Good L) :
    Calls Try.prog 14 #[.pointer (some ⟨g, 0, none⟩), .int .i64 now] w (DueEnd 50 g r (Alarm.cut now L) L w) := by
  have hfew := hG.few
  have H0 : Hid (DueAt g r now L w 0 none 0 w) := Lib.hid ⟨fun _ _ h => absurd h (Nat.not_lt_zero _), World.ownsRow_nil _ _ _ _, Ok.refl w⟩
  have HT := Lib.hid hT
  obtain ⟨Q, hQ⟩ : ∃ Q, Alarm.cut now L = Q := ⟨_, rfl⟩
  rw [hQ]
  have HQ := Lib.hid hQ
  clear hT hG hQ
  go_enter Try.func14, Try.ntmps14
  go_wp2_with fail
  go_loopw [5] (fun v wr => ∃ (k : Nat) (A : Option Addr) (c : Nat), k ≤ L.length ∧ v = .slice A k c ∧ Hid (DueAt g r now L w k A c wr)) (fun v _ => L.length - (match v with | .slice _ n _ => n | _ => 0))
  case atStart => exact ⟨0, none, 0, Nat.zero_le _, rfl, H0⟩
  case round =>
    obtain ⟨k, A, c, hk, rfl, hrel⟩ := hrel
    clear H0
    have hTr := HT.out.next hrel.out.2.2
    have KL := Lib.hid (tabLen g r L wr hTr)
    obtain ⟨At, ct, hO, hR, hC, hlc, hc63, hA⟩ := hTr.opened
    have c0 := hO.cell 0 rfl
    by_cases hlt : k < L.length
    · obtain ⟨b, off, hAe, hb, hc⟩ := hC.at tmcells_length (by decide) k hlt
      obtain ⟨x, hx⟩ : ∃ x, L[k] = x := ⟨_, rfl⟩
      rw [hx] at hc
      have c1 := hc 0 _ rfl
      have c2 := hc 1 _ rfl
      rw [Nat.add_zero] at c1
      have HX := Lib.hid hx
      clear hc hx hb
      obtain ⟨xi, xt⟩ := x
      simp only at c1 c2
      by_cases hle : xt ≤ now
      · subst hAe
        have HD := Lib.hid hrel.out
        clear hR hC hA hTr hrel
        go_wp2_with (first
          | (go_at_call 18; (with_reducible refine KL.out.mono ?_); rintro e w1 ⟨rfl, rfl⟩)
          | (at_builtin; refine wpList_append_cells2 rfl (.tmp 24) (.tmp 34) 36 rfl w.heap.size 3 Try.underlying36 _ 1 8 (by decide) (by decide) rfl infoI _ k _ rfl (HD.out.2.1.alloc _) _ 1 _ [.int .i64 xi] rfl rfl (CellsAt.new wr _ _ rfl rfl) (by simp; rfl) (by omega) (by have := HD.out.2.2.size; simp; omega) ?_; intro A2 c3 w2 hr2 hg2; have HR2 := Lib.hid (And.intro hr2 hg2); clear hr2 hg2))
        go_roundw
        case rel =>
          refine ⟨k + 1, A2, c3, by omega, rfl, Lib.hid ⟨fun j hj hjk => ?_, ?_, ?_⟩⟩
          · by_cases e : j = k
            · subst e; rw [HX.out]; exact hle
            · exact HD.out.1 j hj (by omega)
          · unfold IdsAt
            rw [ids_more hlt, List.map_append, HX.out]
            exact HR2.out.1
          · refine Below.grown (HD.out.2.2.alloc _) HR2.out.2 (HD.out.2.2.alloc _).size fun j hj => ?_
            exact (HD.out.2.1.lt j hj).1
        case measure => simp; omega
      · have hq : Q = k := by
          rw [← HQ.out]
          exact Alarm.cut_unique hk hrel.out.1 (fun h => by rw [HX.out]; show now < xt; omega)
        have hAf := hAe
        have HQK := Lib.hid hq
        have hrow := hR
        by_cases hk0 : k = 0
        · subst hk0
          have HE : Hid (DueEnd 50 g r Q L w (.returned (.slice A 0 c)) wr) := Lib.hid (by rw [hq]; exact dueEnd_none HT.out hrel.out.2.2 hrel.out.2.1)
          clear hrel hq hR hC hA hTr hrow
          go_wp2_with (go_at_call 18; (with_reducible refine KL.out.mono ?_); rintro e w1 ⟨rfl, rfl⟩)
          go_ret
          exact HE.out
        · have hA2 : At = some ⟨r, 0, none⟩ ∧ r ≠ g := by
            rcases hA with ⟨rfl, _⟩ | h
            · rcases hrow.2 with ⟨h1, h2⟩ | ⟨g', cap, cur, h1, _⟩
              · omega
              · simp at h1
            · exact h
          obtain ⟨hAt, hne⟩ := hA2
          subst hAt
          cases hAf
          rw [Nat.zero_add] at c1 c2
          have K : Calls Try.prog 22 #[.slice (some ⟨r, 0, none⟩) L.length ct, .int .i64 0, .int .i64 (k : Nat)] wr (DelEnd r ct (L.length - k) (L.take 0 ++ L.drop k) wr) := by
            have h := slicesDelete r ct 0 k L wr hrow (by omega) hk (by omega)
            rw [Nat.zero_add] at h
            exact h
          have KD := Lib.hid K
          have HO := Lib.hid (And.intro hO hne)
          have hgr : g ≠ r := fun e => hne e.symm
          have f0 := hO.frozen 0
          have hpos : (0 : Int) < (k : Int) := by omega
          clear hq hR hC hA hTr hrow K hO hne
          go_wp2_with (go_at_call 18; (with_reducible refine KL.out.mono ?_); rintro e w1 ⟨rfl, rfl⟩)
          refine KD.out.mono ?_
          rintro e w2 ⟨rfl, h2, h3⟩
          have HZ := Lib.hid (And.intro h2 h3)
          have hO3 : Own w2 g #[.slice (some ⟨r, 0, none⟩) L.length ct] := by
            have hl := HO.out.1.lt
            obtain ⟨t, ht⟩ := HO.out.1
            exact ⟨t, (h2.block g hl (by simpa using hgr)).trans ht⟩
          have d0 := hO3.cell 0 rfl
          have d1 := hO3.frozen 0
          clear h2 h3 hO3 c0 f0
          go_wp2_with fail
          go_ret
          rw [HQK.out]
          exact dueEnd_some hk HT.out hrel.out.2.2 HO.out.1 HO.out.2 hrel.out.2.1 ⟨rfl, HZ.out.1, HZ.out.2⟩
    · have hq : Q = k := by
        rw [← HQ.out]
        exact Alarm.cut_unique hk hrel.out.1 (fun h => absurd h hlt)
      have HQK := Lib.hid hq
      have hrow := hR
      by_cases hk0 : k = 0
      · subst hk0
        have HE : Hid (DueEnd 50 g r Q L w (.returned (.slice A 0 c)) wr) := Lib.hid (by rw [hq]; exact dueEnd_none HT.out hrel.out.2.2 hrel.out.2.1)
        clear hrel hq hR hC hA hTr hrow
        go_wp2_with (go_at_call 18; (with_reducible refine KL.out.mono ?_); rintro e w1 ⟨rfl, rfl⟩)
        go_ret
        exact HE.out
      · have hA2 : At = some ⟨r, 0, none⟩ ∧ r ≠ g := by
          rcases hA with ⟨rfl, _⟩ | h
          · rcases hrow.2 with ⟨h1, h2⟩ | ⟨g', cap, cur, h1, _⟩
            · omega
            · simp at h1
          · exact h
        obtain ⟨hAt, hne⟩ := hA2
        subst hAt
        have K : Calls Try.prog 22 #[.slice (some ⟨r, 0, none⟩) L.length ct, .int .i64 0, .int .i64 (k : Nat)] wr (DelEnd r ct (L.length - k) (L.take 0 ++ L.drop k) wr) := by
            have h := slicesDelete r ct 0 k L wr hrow (by omega) hk (by omega)
            rw [Nat.zero_add] at h
            exact h
        have KD := Lib.hid K
        have HO := Lib.hid (And.intro hO hne)
        have hgr : g ≠ r := fun e => hne e.symm
        have f0 := hO.frozen 0
        have hpos : (0 : Int) < (k : Int) := by omega
        clear hq hR hC hA hTr hrow K hO hne
        go_wp2_with (go_at_call 18; (with_reducible refine KL.out.mono ?_); rintro e w1 ⟨rfl, rfl⟩)
        refine KD.out.mono ?_
        rintro e w2 ⟨rfl, h2, h3⟩
        have HZ := Lib.hid (And.intro h2 h3)
        have hO3 : Own w2 g #[.slice (some ⟨r, 0, none⟩) L.length ct] := by
          have hl := HO.out.1.lt
          obtain ⟨t, ht⟩ := HO.out.1
          exact ⟨t, (h2.block g hl (by simpa using hgr)).trans ht⟩
        have d0 := hO3.cell 0 rfl
        have d1 := hO3.frozen 0
        clear h2 h3 hO3 c0 f0
        go_wp2_with fail
        go_ret
        rw [HQK.out]
        exact dueEnd_some hk HT.out hrel.out.2.2 HO.out.1 HO.out.2 hrel.out.2.1 ⟨rfl, HZ.out.1, HZ.out.2⟩
end Go.Proofs.Ytfankcoomfmjlaa
