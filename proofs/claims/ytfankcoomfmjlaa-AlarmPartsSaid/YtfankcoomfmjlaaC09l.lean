/- Contracts of layer 9: the document's table: Drop, Set. -/
import Derived.Test.YtfankcoomfmjlaaC09k
namespace Go.Proofs.Ytfankcoomfmjlaa
open Go.RowKit
set_option maxRecDepth 100000
theorem rtInfo : (Try.prog.info? 52).map (fun i => (i.zero, i.size, i.bytes)) = some (some (.agg #[.int .i64 0, .int .i64 0]), 2, 16) := by kernel_rfl
/-- Only block g (of those that were there) has changed. -/
def Just (g : Nat) : Nat → Prop := fun k => k = g
def RefDrop (g : Nat) (i : Int) (M : List Tm) (w : World) (e : Ending) (w' : World) : Prop :=
  e = .returned (.int .i64 (Alarm.dropE i M)) ∧ Far (Just g) w w' ∧ ∃ r', (r' = g ∨ w.heap.size ≤ r') ∧ TabAt 52 w' g r' (Alarm.drop i M)
/-- A row is stored in a table. -/
theorem tabStored {T : TypeId} {w : World} {g n c : Nat} {A : Option Addr} {M : List Tm} {v : Value} (hn : n = M.length) (hO : Own w g #[v]) (hR : w.ownsRow 0 T 2 (.slice A n c) n (M.flatMap tmcells)) (hA : ∀ a, A = some a → a.block ≠ g) :
    ∃ r', (∀ a, A = some a → a.block = r') ∧ (A = none → r' = g) ∧ TabAt T (w.setCell ⟨g, 0, none⟩ (.slice A n c)) g r' M := by
  subst hn
  have hR' : (w.setCell ⟨g, 0, none⟩ (.slice A M.length c)).ownsRow 0 T 2 (.slice A M.length c) M.length (M.flatMap tmcells) := by
    refine hR.kept (w' := w.setCell _ _) (row := some g) ⟨rfl, rfl, rfl, by simp, fun j _ hj => Below.heap_setCell w _ _ j (fun e => hj (by rw [e]))⟩ ?_
    cases A with
    | none => exact .inl rfl
    | some a => exact .inr (by simpa [Value.ownBlock] using hA a rfl)
  rcases hR.2 with ⟨h1, h2⟩ | ⟨b, cap, cur, h1, _⟩
  · simp only [Value.slice.injEq] at h1
    obtain ⟨rfl, _⟩ := h1
    exact ⟨g, by simp, fun _ => rfl, none, c, hO.set 0 _, hR', .inl ⟨rfl, rfl⟩⟩
  · simp only [Value.slice.injEq] at h1
    obtain ⟨rfl, _⟩ := h1
    exact ⟨b, fun a ha => by cases ha; rfl, by simp, some ⟨b, 0, none⟩, c, hO.set 0 _, hR', .inr ⟨rfl, hA _ rfl⟩⟩
/-- Behind k rounds of the document's Drop. -/
def RDropAt (i : Int) (M : List Tm) (w : World) (k : Nat) (A : Option Addr) (n c : Nat) (wr : World) : Prop :=
  n = (Alarm.drop i (M.take k)).length ∧ wr.ownsRow w.heap.size 52 2 (.slice A n c) n ((Alarm.drop i (M.take k)).flatMap tmcells) ∧ Ok w wr
theorem own_base0 {w : World} {B : Nat} {e : TypeId} {k n : Nat} {v : Value} {xs : List Value} (h : w.ownsRow B e k v n xs) : w.ownsRow 0 e k v n xs := by
  rcases h with ⟨h1, h2 | ⟨g, cap, cur, h3, h4, h5⟩⟩
  · exact ⟨h1, .inl h2⟩
  · exact ⟨h1, .inr ⟨g, cap, cur, h3, Nat.zero_le _, h5⟩⟩
theorem rdrop_end {g r : Nat} {i : Int} {M : List Tm} {w wr : World} {A : Option Addr} {n c : Nat} (hT : TabAt 52 w g r M) (h : RDropAt i M w M.length A n c wr) :
    RefDrop g i M w (.returned (.int .i64 (Alarm.dropE i M))) (wr.setCell ⟨g, 0, none⟩ (.slice A n c)) := by
  obtain ⟨h1, h2, h3⟩ := h
  rw [List.take_length] at h1 h2
  have hlt := hT.lt.1
  obtain ⟨A0, c0, hO, -⟩ := hT.ex
  obtain ⟨r', a1, a2, a3⟩ := tabStored h1 (hO.next h3) (own_base0 h2) fun a ha => by
    subst ha
    have := (h2.lt a.block rfl).1
    omega
  refine ⟨rfl, Far.set (S := Just g) (Far.of_ok h3) (.inl (show _ = g from rfl)) _, r', ?_, a3⟩
  cases A with
  | none => exact .inl (a2 rfl)
  | some a =>
    have := (h2.lt a.block rfl).1
    rw [a1 a rfl] at this
    exact .inr this
theorem dropE_take (i : Int) {M : List Tm} {k : Nat} (hk : k < M.length) : Alarm.dropE i (M.take (k + 1)) = if M[k].id = i then 0 else Alarm.dropE i (M.take k) := by
  unfold Alarm.dropE
  rw [List.take_succ_eq_append_getElem hk, Alarm.has_append]
  by_cases h : M[k].id = i <;> simp [h, Alarm.has]
theorem drop_take (i : Int) {M : List Tm} {k : Nat} (hk : k < M.length) : Alarm.drop i (M.take (k + 1)) = if M[k].id = i then Alarm.drop i (M.take k) else Alarm.drop i (M.take k) ++ [M[k]] := by
  rw [List.take_succ_eq_append_getElem hk, Alarm.drop_append, Alarm.drop_cons]
  by_cases h : M[k].id = i <;> simp [h, Alarm.drop]
set_option maxHeartbeats 1600000 in
theorem refDrop (g r : Nat) (i : Int) (M : List Tm) (w : World) (hT : TabAt 52 w g r M) (hl : M.length ≤ 100000) :
    Calls Try.prog 12 #[.pointer (some ⟨g, 0, none⟩), .int .i64 i] w (RefDrop g i M w) := by
  obtain ⟨At, ct, hO, hR, hC, hlc, hc63, hA⟩ := hT.opened
  have c0 := hO.cell 0 rfl
  have HT := Lib.hid (And.intro hT (And.intro hC hO))
  have H0 : Hid (RDropAt i M w 0 none 0 0 w) := Lib.hid ⟨rfl, World.ownsRow_nil _ _ _ _, Ok.refl w⟩
  clear hT hO hR hC hA
  go_enter Try.func12, Try.ntmps12
  go_wp2_with fail
  go_loopw [5, 6, 14] (fun u v z wr => ∃ (k : Nat) (A : Option Addr) (n c : Nat), k ≤ M.length ∧ n ≤ k ∧ z = .int .i64 k ∧ u = .int .i64 (Alarm.dropE i (M.take k)) ∧ v = .slice A n c ∧ Hid (RDropAt i M w k A n c wr)) (fun _ _ z _ => M.length - (intOf z).toNat)
  case atStart => exact ⟨0, none, 0, 0, Nat.zero_le _, Nat.le_refl _, rfl, rfl, rfl, H0⟩
  case round =>
    obtain ⟨k, A, n, c, hk, hnk, rfl, rfl, rfl, hrel⟩ := hrel
    clear H0 c0
    by_cases hlt : k < M.length
    · obtain ⟨b, off, hAe, hb, hc⟩ := (HT.out.2.1.below hrel.out.2.2).at tmcells_length (by decide) k hlt
      subst hAe
      obtain ⟨x, hx⟩ : ∃ x, M[k] = x := ⟨_, rfl⟩
      have e1 := dropE_take i hlt
      have e2 := drop_take i hlt
      rw [hx] at hc e1 e2
      have c1 := hc 0 _ rfl
      have c2 := hc 1 _ rfl
      rw [Nat.add_zero] at c1
      have HD := Lib.hid hrel.out
      clear hc hx hb hrel
      obtain ⟨xi, xt⟩ := x
      simp only at c1 c2 e1 e2
      generalize Alarm.dropE i (M.take k) = E at e1 ⊢
      by_cases he : xi = i
      · subst he
        rw [if_pos rfl] at e1 e2
        have HE := Lib.hid (And.intro e1 e2)
        clear e1 e2
        go_wp2_with fail
        go_roundw
        case rel => exact ⟨k + 1, A, n, c, by omega, by omega, by go_num, by rw [HE.out.1], rfl, Lib.hid ⟨by rw [HE.out.2]; exact HD.out.1, by rw [HE.out.2]; exact HD.out.2.1.alloc _, HD.out.2.2.alloc _⟩⟩
        case measure => simp [intOf]; omega
      · rw [if_neg he] at e1 e2
        have hd : (xi == i) = false := by rw [beq_eq_false_iff_ne]; exact he
        have HE := Lib.hid (And.intro e1 e2)
        clear e1 e2 he
        have hsz := HD.out.2.2.size
        go_wp2_with (at_builtin; refine wpList_append_cells2 rfl (.tmp 22) (.tmp 24) 27 rfl w.heap.size 52 Try.underlying27 _ 2 16 (by decide) (by decide) rfl rtInfo _ n _ rfl ((HD.out.2.1.alloc _).alloc _) _ 1 _ [.int .i64 xi, .int .i64 xt] rfl rfl (CellsAt.new (wr.alloc _) _ _ rfl (by simp)) (tm_one ⟨xi, xt⟩) (by omega) (by simp; omega) ?_; intro A2 c3 w2 hr2 hg2; have HR2 := Lib.hid (And.intro hr2 hg2); clear hr2 hg2)
        go_roundw
        case rel =>
          refine ⟨k + 1, A2, n + 1, c3, by omega, by omega, by go_num, by rw [HE.out.1], rfl, Lib.hid ⟨?_, ?_, ?_⟩⟩
          · rw [HE.out.2, List.length_append, ← HD.out.1]; rfl
          · rw [HE.out.2, List.flatMap_append]
            exact HR2.out.1
          · refine Below.grown ((HD.out.2.2.alloc _).alloc _) HR2.out.2 ((HD.out.2.2.alloc _).alloc _).size fun j hj => ?_
            exact (HD.out.2.1.lt j hj).1
        case measure => simp [intOf]; omega
    · obtain rfl : k = M.length := by omega
      have HE := Lib.hid (rdrop_end HT.out.1 hrel.out)
      have hO1 := HT.out.2.2.next hrel.out.2.2
      have f0 := hO1.frozen 0
      have c0 := hO1.cell 0 rfl
      rw [List.take_length]
      generalize Alarm.dropE i M = E at HE ⊢
      clear hrel hO1
      go_wp2_with fail
      go_ret
      exact HE.out
end Go.Proofs.Ytfankcoomfmjlaa
