/- Contracts of layer 9: the document's table: Next, Due; are two lists the same? -/
import Derived.Test.YtfankcoomfmjlaaC09n
namespace Go.Proofs.Ytfankcoomfmjlaa
open Go.RowKit
set_option maxRecDepth 100000
theorem first_none {L M : List Tm} {v : Int} (hp : M.Perm L) (h : FirstIs M v) (hv : v < 0) : L = [] := by
  rcases h with ⟨rfl, _⟩ | ⟨b, hb, rfl, _⟩
  · exact List.length_eq_zero_iff.1 (by rw [← hp.length_eq]; rfl)
  · omega
theorem first_some {L M : List Tm} {v : Int} (hG : Alarm.Good L) (hp : M.Perm L) (h : FirstIs M v) (hv : 0 ≤ v) : ∃ (b : Nat) (hb : b < M.length) (x : Tm) (t : List Tm), v = b ∧ L = x :: t ∧ M[b] = x := by
  rcases h with ⟨_, rfl⟩ | ⟨b, hb, rfl, hf⟩
  · omega
  · cases L with
    | nil =>
      have : M = [] := List.length_eq_zero_iff.1 (by rw [hp.length_eq]; rfl)
      subst this
      exact absurd hb (Nat.not_lt_zero _)
    | cons x t => exact ⟨b, hb, x, t, rfl, rfl, Alarm.first_is hG hp hb hf⟩
set_option maxHeartbeats 1600000 in
theorem refNext (g r : Nat) (L M : List Tm) (w : World) (hT : TabAt 52 w g r M) (hp : M.Perm L) (hG : Alarm.Good L) :
    Calls Try.prog 17 #[.pointer (some ⟨g, 0, none⟩)] w fun e w' => e = .returned (nextV L) ∧ Ok w w' := by
  have hfew := hG.few
  have hlen := hp.length_eq
  have K := refFirst g r M w hT (by omega)
  have HT := Lib.hid (And.intro hT (And.intro hp hG))
  have HK := Lib.hid K
  obtain ⟨V, hV⟩ : ∃ V, nextV L = V := ⟨_, rfl⟩
  rw [hV]
  have HV := Lib.hid hV
  clear K hT hp hG hlen hfew hV
  go_enter Try.func17, Try.ntmps17
  go_wp2_with fail
  refine HK.out.mono ?_
  rintro e w1 ⟨v, rfl, hv, hok⟩
  by_cases h0 : v < 0
  · have e := first_none HT.out.2.1 hv h0
    clear hv
    go_wp2_with fail
    go_ret2
    exact ⟨by rw [← HV.out, e]; rfl, hok⟩
  · obtain ⟨b, hb, x, t, rfl, e, hx⟩ := first_some HT.out.2.2 HT.out.2.1 hv (by omega)
    have HE := Lib.hid e
    clear e
    obtain ⟨A, c, hO, -, hC, hlc, hc63, -⟩ := (HT.out.1.next hok).opened
    obtain ⟨b', off, hA, hb', hc⟩ := hC.at tmcells_length (by decide) b hb
    subst hA
    rw [hx] at hc
    have c0 := hO.cell 0 rfl
    have c2 := hc 1 _ rfl
    clear hO hC hc hv hx hb'
    go_wp2_with fail
    go_ret2
    exact ⟨by rw [← HV.out, HE.out]; rfl, hok⟩
/-- Behind k rounds of the document's Due. -/
def RDueAt (g r : Nat) (now : Int) (L : List Tm) (w : World) (k : Nat) (A : Option Addr) (c : Nat) (v : Int) (wr : World) : Prop :=
  ∃ M r', M.Perm (L.drop k) ∧ TabAt 52 wr g r' M ∧ FirstIs M v ∧ (r' = r ∨ r' = g ∨ w.heap.size ≤ r') ∧ Far (Pr g r) w wr ∧ IdsAt w.heap.size wr A k c L ∧ (∀ a, A = some a → a.block ≠ r') ∧ (∀ j (hj : j < L.length), j < k → L[j].t ≤ now)
/-- What the document's Due leaves. -/
def RDueEnd (g r k : Nat) (L : List Tm) (w : World) (e : Ending) (w' : World) : Prop :=
  ∃ A c r' M, e = .returned (.slice A k c) ∧ IntsAt w' A (ids k L) ∧ (∀ a, A = some a → w.heap.size ≤ a.block ∧ a.block ≠ r') ∧ (r' = r ∨ r' = g ∨ w.heap.size ≤ r') ∧ Far (Pr g r) w w' ∧ M.Perm (L.drop k) ∧ TabAt 52 w' g r' M
theorem rdue_end {g r k c : Nat} {now v : Int} {L : List Tm} {w wr : World} {A : Option Addr} (hk : k ≤ L.length) (h : RDueAt g r now L w k A c v wr) : RDueEnd g r k L w (.returned (.slice A k c)) wr := by
  obtain ⟨M, r', h1, h2, -, h4, h5, h6, h7, -⟩ := h
  exact ⟨A, c, r', M, rfl, h6.ints hk, fun a ha => ⟨h6.new a ha, h7 a ha⟩, h4, h5, h1, h2⟩
/-- One number more, and the table keeps. -/
theorem rdue_append {g r r' k c : Nat} {L M : List Tm} {w wr : World} {A : Option Addr} {xi : Int} (hk : k < L.length) (hx : L[k].id = xi) (hg : g < w.heap.size) (hl : L.length ≤ 64) (h2 : TabAt 52 wr g r' M) (h5 : Far (Pr g r) w wr) (h6 : IdsAt w.heap.size wr A k c L) (h7 : ∀ a, A = some a → a.block ≠ r') :
    ∃ A2 c2 w2, (Builtin.append_ #[36, 36] 36 #[.slice A k c, .slice (some ⟨wr.heap.size, 0, none⟩) 1 1]).run Try.prog (wr.alloc (.cells #[.int .i64 xi] 3)) = .ok (.slice A2 (k + 1) c2) w2 ∧
      TabAt 52 w2 g r' M ∧ Far (Pr g r) w w2 ∧ IdsAt w.heap.size w2 A2 (k + 1) c2 L := by
  have hsz := h5.size
  obtain ⟨A2, c2, w2, a1, a2, a3, -⟩ := run_append_one (P := Try.prog) (B := w.heap.size) Try.underlying36 infoI rfl (by decide) (by decide) (w := wr.alloc (.cells #[.int .i64 xi] 3)) (by simp; omega) (World.ownsRow.alloc h6 _) (Own.new wr #[.int .i64 xi] 3 rfl) rfl (by simp; rfl) (by omega) 36
  rw [own_map] at a3
  have hA : ∀ j, A.map Addr.block = some j → w.heap.size ≤ j ∧ j ≠ r' := fun j hj => by
    cases A with
    | none => cases hj
    | some a => cases hj; exact ⟨h6.new a rfl, h7 a rfl⟩
  refine ⟨A2, c2, w2, a1, ?_, (h5.alloc _).grow a3 fun j hj => .inr (hA j hj).1, ?_⟩
  · have h3 := h2.next ((Ok.refl wr).alloc (.cells #[.int .i64 xi] 3))
    refine h3.far (S := fun j => A.map Addr.block = some j) ((Far.refl _ _).grow a3 fun j hj => .inl hj) (fun h => ?_) (fun h => ?_)
    · have := (hA g h).1; omega
    · exact (hA r' h).2 rfl
  · unfold IdsAt
    rw [ids_more hk, List.map_append, hx]
    exact a2
theorem rdue_next {g r r3 k c2 : Nat} {now v' : Int} {x : Tm} {t L M : List Tm} {w w2 w3 w4 : World} {A2 : Option Addr} (hk : k < L.length) (hx : L[k] = x) (ht : L.drop (k + 1) = t) (hxt : x.t ≤ now) (hG : Alarm.Good L) (hg : g < w.heap.size) (h1 : M.Perm (L.drop k)) (h5 : Far (Pr g r) w w2) (h6 : IdsAt w.heap.size w2 A2 (k + 1) c2 L)
    (h8 : ∀ j (hj : j < L.length), j < k → L[j].t ≤ now) (hF : Far (Just g) w2 w3) (hr3 : r3 = g ∨ w2.heap.size ≤ r3) (hT3 : TabAt 52 w3 g r3 (Alarm.drop x.id M)) (hv : FirstIs (Alarm.drop x.id M) v') (hok : Ok w3 w4) : RDueAt g r now L w (k + 1) A2 c2 v' w4 := by
  have hsz := h5.size
  have e : L.drop k = x :: t := by rw [List.drop_eq_getElem_cons hk, hx, ht]
  have hG' := hG.skip k
  rw [e] at h1 hG'
  have hI : IdsAt w.heap.size w4 A2 (k + 1) c2 L := by
    have h := hF.row h6 fun j hj hc => by
      have := (h6.lt j hj).1
      have : j = g := hc
      omega
    exact (Far.of_ok (S := fun _ => False) hok).row h fun _ _ h => h
  refine ⟨_, r3, by rw [ht]; exact Alarm.drop_first hG' h1, hT3.next hok, hv, hr3.elim (fun h => .inr (.inl h)) (fun h => .inr (.inr (by omega))), (h5.trans hF fun j hj => .inl (.inl hj)).ok hok, hI, fun a ha => ?_, fun j hj hjk => ?_⟩
  · subst ha
    have h := h6.lt a.block rfl
    rcases hr3 with h' | h' <;> omega
  · by_cases ej : j = k
    · subst ej; rw [hx]; exact hxt
    · exact h8 j hj (by omega)
set_option maxHeartbeats 3200000 in
theorem refDue (g r : Nat) (now : Int) (L M : List Tm) (w : World) (hT : TabAt 52 w g r M) (hp : M.Perm L) (hG : Alarm.Good L) :
    Calls Try.prog 15 #[.pointer (some ⟨g, 0, none⟩), .int .i64 now] w (RDueEnd g r (Alarm.cut now L) L w) := by
  have hfew := hG.few
  have hlen := hp.length_eq
  have hgw := hT.lt
  have K := refFirst g r M w hT (by omega)
  have HT := Lib.hid (And.intro hT (And.intro hp hG))
  have HK := Lib.hid K
  obtain ⟨Q, hQ⟩ : ∃ Q, Alarm.cut now L = Q := ⟨_, rfl⟩
  rw [hQ]
  have HQ := Lib.hid hQ
  clear K hT hp hG hlen hQ
  go_enter Try.func15, Try.ntmps15
  go_wp2_with fail
  refine HK.out.mono ?_
  rintro e w1 ⟨v, rfl, hv, hok⟩
  have H0 : Hid (RDueAt g r now L w 0 none 0 v w1) := Lib.hid ⟨M, r, by rw [List.drop_zero]; exact HT.out.2.1, HT.out.1.next hok, hv, .inl rfl, Far.of_ok hok, World.ownsRow_nil _ _ _ _, by simp, fun _ _ h => absurd h (Nat.not_lt_zero _)⟩
  clear hv hok
  go_wp2_with fail
  go_loopw [5, 6] (fun u z wr => ∃ (k : Nat) (A : Option Addr) (c : Nat) (v : Int), k ≤ L.length ∧ u = .slice A k c ∧ z = .int .i64 v ∧ Hid (RDueAt g r now L w k A c v wr)) (fun u _ _ => L.length - (match u with | .slice _ n _ => n | _ => 0))
  case atStart => exact ⟨0, none, 0, v, Nat.zero_le _, rfl, rfl, H0⟩
  case round =>
    obtain ⟨k, A, c, v, hk, rfl, rfl, hrel⟩ := hrel
    clear H0
    have hr := hrel.out
    obtain ⟨M', r', h1, h2, h3, h4, h5, h6, h7, h8⟩ := hr
    by_cases h0 : v < 0
    · have e := first_none h1 h3 h0
      have hq : Q = k := by
        rw [← HQ.out]
        exact Alarm.cut_unique hk h8 (fun h => by rw [List.drop_eq_nil_iff] at e; omega)
      have HE := Lib.hid (rdue_end hk hrel.out)
      clear h1 h2 h3 h4 h5 h6 h7 h8 hrel
      go_wp2_with fail
      go_ret
      exact HE.out
    · obtain ⟨b, hb, x, t, rfl, e, hx⟩ := first_some (HT.out.2.2.skip k) h1 h3 (by omega)
      have hkl : k < L.length := by
        rcases Nat.lt_or_ge k L.length with h | h
        · exact h
        · rw [List.drop_eq_nil_of_le h] at e; cases e
      have hxk : L[k] = x ∧ L.drop (k + 1) = t := by
        rw [List.drop_eq_getElem_cons hkl] at e
        exact List.cons.inj e
      obtain ⟨At, ct, hO, -, hC, hlc, hc63, -⟩ := h2.opened
      obtain ⟨b', off, hA, hb', hc⟩ := hC.at tmcells_length (by decide) b hb
      subst hA
      rw [hx] at hc
      have c0 := hO.cell 0 rfl
      have c1 := hc 0 _ rfl
      have c2 := hc 1 _ rfl
      rw [Nat.add_zero] at c1
      obtain ⟨xi, xt⟩ := x
      simp only at c1 c2
      by_cases hle : xt ≤ now
      · obtain ⟨A2, c2', w2, hrun, hT2, hF2, hI2⟩ := rdue_append (r := r) (xi := xi) hkl (by rw [hxk.1]) hgw.1 hfew h2 h5 h6 h7
        have hm := h1.length_eq
        have hml : M'.length ≤ 100000 := by rw [hm, List.length_drop]; omega
        have KD := Lib.hid (refDrop g r' xi M' w2 hT2 hml)
        have KF := Lib.hid fun r3 w3 (h : TabAt 52 w3 g r3 (Alarm.drop xi M')) => refFirst g r3 _ w3 h (Nat.le_trans (Alarm.drop_le xi M') hml)
        have HD := Lib.hid (And.intro hxk (And.intro h1 (And.intro hF2 (And.intro hI2 h8))))
        clear h1 h2 h3 h4 h5 h6 h7 h8 hrel hxk hx hO hC hc e hb' hT2 hF2 hI2 hm
        generalize Alarm.dropE xi M' = E at KD
        go_wp2_with (first
          | (at_builtin; refine wpList_append_known rfl (.tmp 34) (.tmp 36) 36 36 rfl _ _ rfl rfl hrun ?_)
          | (go_at_call 12; refine KD.out.mono ?_; rintro e w3 ⟨rfl, hF3, r3, hr3, hT3⟩; have H3 := Lib.hid (And.intro hF3 (And.intro hr3 hT3)); clear hF3 hr3 hT3)
          | (go_at_call 23; refine (KF.out _ _ H3.out.2.2).mono ?_; rintro e w4 ⟨v', rfl, hv', hok4⟩; have H4 := Lib.hid (And.intro hv' hok4); clear hv' hok4))
        go_roundw
        case rel => exact ⟨k + 1, A2, c2', v', by omega, rfl, rfl, Lib.hid (rdue_next hkl HD.out.1.1 HD.out.1.2 hle HT.out.2.2 hgw.1 HD.out.2.1 HD.out.2.2.1 HD.out.2.2.2.1 HD.out.2.2.2.2 H3.out.1 H3.out.2.1 H3.out.2.2 H4.out.1 H4.out.2)⟩
        case measure => simp; omega
      · have hq : Q = k := by
          rw [← HQ.out]
          exact Alarm.cut_unique hk h8 (fun h => by rw [hxk.1]; show now < xt; omega)
        have HE := Lib.hid (rdue_end hk hrel.out)
        clear h1 h2 h3 h4 h5 h6 h7 h8 hrel hxk hx hO hC hc e hb'
        go_wp2_with fail
        go_ret
        exact HE.out
end Go.Proofs.Ytfankcoomfmjlaa
