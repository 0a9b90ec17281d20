/- Contracts of layer 9: the program's table: Set. -/
import Derived.Test.YtfankcoomfmjlaaC09h
import Derived.Test.YtfankcoomfmjlaaC09d
namespace Go.Proofs.Ytfankcoomfmjlaa
open Go.RowKit
set_option maxRecDepth 100000
/-- A table's slice, and a struct of two integers in a block of its own. -/
def Hdr (g b : Nat) (w : World) (v : Value) (p q : Int) (w' : World) : Prop :=
  w'.cell? ⟨g, 0, none⟩ = some v ∧ w'.cell? ⟨b, 0, none⟩ = some (.int .i64 p) ∧ w'.cell? ⟨b, 1, none⟩ = some (.int .i64 q) ∧ g < w'.heap.size ∧ b < w'.heap.size ∧ Ok w w'
theorem Hdr.next {g b : Nat} {w w' w1 : World} {v : Value} {p q : Int} (h : Hdr g b w v p q w') (k : Ok w' w1) : Hdr g b w v p q w1 := by
  obtain ⟨c0, c1, c2, hs, hs2, ho⟩ := h
  exact ⟨(k.cell (p := ⟨g, 0, none⟩) hs).trans c0, (k.cell (p := ⟨b, 0, none⟩) hs2).trans c1, (k.cell (p := ⟨b, 1, none⟩) hs2).trans c2, Nat.lt_of_lt_of_le hs k.size, Nat.lt_of_lt_of_le hs2 k.size, ho.trans k⟩
theorem Hdr.drew {g b : Nat} {w w' : World} {v : Value} {p q : Int} (h : Hdr g b w v p q w') : Hdr g b w v p q w'.drew := h.next (Ok.refl _).drew
/-- A table behind a step: its row may lie in a new block. -/
def TabStep (T : TypeId) (g r : Nat) (L : List Tm) (w w' : World) : Prop := ∃ r', (r' = r ∨ r' = g ∨ w.heap.size ≤ r') ∧ Far (Pr g r) w w' ∧ TabAt T w' g r' L
/-- What insert leaves. -/
def PutEnd (g r : Nat) (x : Tm) (L : List Tm) (w : World) (e : Ending) (w' : World) : Prop :=
  e = .returned (.tuple #[]) ∧ ∃ L', Alarm.Good L' ∧ L'.Perm (x :: L) ∧ TabStep 50 g r L' w w'
theorem putEnd {g r n : Nat} {x : Tm} {L M : List Tm} {w w1 w2 : World} {A A' : Option Addr} {c' : Nat} (hG : Alarm.Good M) (hp : M.Perm (x :: L)) (hn : n = M.length) (hok : Ok w w1) {v : Value} (hO : Own w1 g #[v]) (hg : g < w.heap.size) (hA : A = none ∧ r = g ∨ A = some ⟨r, 0, none⟩ ∧ r ≠ g)
    (h2 : w2.ownsRow 0 50 2 (.slice A' n c') n (M.flatMap tmcells)) (h3 : w1.grownBy w2 (A.map Addr.block)) (h4 : Near w1 A A') : PutEnd g r x L w (.returned (.tuple #[])) (w2.setCell ⟨g, 0, none⟩ (.slice A' n c')) := by
  subst hn
  have hne : A.map Addr.block ≠ some g := by
    rcases hA with ⟨rfl, _⟩ | ⟨rfl, h⟩
    · simp
    · simpa using h
  have hO2 : Own w2 g #[v] := by
    have hl := hO.lt
    obtain ⟨t, ht⟩ := hO
    exact ⟨t, (h3.block g hl (Ne.symm hne)).trans ht⟩
  have hF : Far (Pr g r) w (w2.setCell ⟨g, 0, none⟩ (.slice A' M.length c')) := by
    refine ((Far.of_ok hok).grow h3 (fun j hj => ?_)).set (.inl (.inl rfl)) _
    rcases hA with ⟨rfl, _⟩ | ⟨rfl, _⟩
    · cases hj
    · cases hj; exact .inl (.inr rfl)
  have hsz := hok.size
  have hR : ∀ r', (∀ a, A' = some a → a.block = r') → r' ≠ g → (w2.setCell ⟨g, 0, none⟩ (.slice A' M.length c')).ownsRow 0 50 2 (.slice A' M.length c') M.length (M.flatMap tmcells) := fun r' hr' h => by
    refine h2.kept (w' := w2.setCell _ _) (row := some g) ⟨rfl, rfl, rfl, by simp, fun j _ hj => Below.heap_setCell w2 _ _ j (fun e => hj (by rw [e]))⟩ ?_
    cases A' with
    | none => exact .inl rfl
    | some a => exact .inr (by simpa [Value.ownBlock] using fun e => h (by rw [← e]; exact (hr' a rfl).symm))
  refine ⟨rfl, M, hG, hp, ?_⟩
  cases A' with
  | none =>
    have h0 : M.length = 0 := by
      rcases h2.2 with ⟨h1, h2⟩ | ⟨g', cap, cur, h1, _⟩
      · exact h2
      · simp at h1
    have := hp.length_eq
    simp at this
    omega
  | some a =>
    rcases h4 a rfl with rfl | ⟨e1, e2, e3⟩
    · rcases hA with ⟨h, _⟩ | ⟨h, hr⟩
      · cases h
      · cases h
        exact ⟨r, .inl rfl, hF, _, c', hO2.set 0 _, hR r (fun a ha => by cases ha; rfl) hr, .inr ⟨rfl, hr⟩⟩
    · obtain ⟨ab, ao, sp⟩ := a
      simp only at e1 e2 e3
      subst e1
      subst e2
      have hab : ab ≠ g := by omega
      exact ⟨ab, .inr (.inr (by omega)), hF, _, c', hO2.set 0 _, hR ab (fun a ha => by cases ha; rfl) hab, .inr ⟨rfl, hab⟩⟩
set_option maxHeartbeats 1600000 in
theorem tabPut (g r : Nat) (x : Tm) (L : List Tm) (w : World) (hT : TabAt 50 w g r L) (hG : Alarm.Good L) (hx : Alarm.has x.id L = false) (hl : L.length < 64) :
    Calls Try.prog 19 #[.pointer (some ⟨g, 0, none⟩), .agg #[.int .i64 x.id, .int .i64 x.t]] w (PutEnd g r x L w) := by
  obtain ⟨A, c, hO, hR, hC, hlc, hc63, hA⟩ := hT.opened
  have hgw := hO.lt
  have hok := (Ok.refl w).alloc (.cells #[.int .i64 x.id, .int .i64 x.t] 50)
  have hB := Own.new w #[.int .i64 x.id, .int .i64 x.t] 50 rfl
  have hO1 := hO.alloc (.cells #[.int .i64 x.id, .int .i64 x.t] 50)
  have hH : Hdr g w.heap.size w (.slice A L.length c) x.id x.t (w.alloc (.cells #[.int .i64 x.id, .int .i64 x.t] 50)) := ⟨hO1.cell 0 rfl, hB.cell 0 rfl, hB.cell 1 rfl, hO1.lt, hB.lt, hok⟩
  have KS := Lib.hid fun W (h : Ok w W) => searchIns x A L c W (hC.below h) hG.rise (by omega)
  have HX := Lib.hid (And.intro hG (And.intro hR (And.intro hO1 (And.intro hA (And.intro hx hO)))))
  clear hT hG hO hR hC hB hA hok hO1 hx
  obtain ⟨a, b⟩ := x
  simp only at hH KS
  obtain ⟨xb, hxb⟩ : ∃ xb, w.heap.size = xb := ⟨_, rfl⟩
  have HXB := Lib.hid hxb
  go_enter Try.func19, Try.ntmps19
  go_wp2_with fail
  generalize w.alloc (.cells #[.int .i64 a, .int .i64 b] 50) = W at hH ⊢
  rw [hxb] at hH
  clear hxb
  go_region_held3 (fun w' => w'.cell? ⟨g, 0, none⟩ = some (.slice A L.length c) ∧ w'.cell? ⟨xb, 0, none⟩ = some (.int .i64 a) ∧ w'.cell? ⟨xb, 1, none⟩ = some (.int .i64 b) ∧ g < w'.heap.size ∧ xb < w'.heap.size ∧ Ok w w')
    (first | assumption | exact hH.drew | exact Hdr.next hH.drew (by assumption) | exact Hdr.next (by assumption) (by assumption))
    (first | (go_at_call 24; refine (KS.out _ hH.drew.2.2.2.2.2).mono ?_; rintro e w1 ⟨hok1, k, f, hk, h1, h2, rfl⟩))
  rename_i hS
  obtain ⟨hM, hP⟩ := HX.out.1.ins (x := ⟨a, b⟩) hk h1 h2 HX.out.2.2.2.2.1 hl
  have hw1 : Ok w w1 := hS.2.2.2.2.2
  have c0 := hS.1
  have c1 := hS.2.1
  have c2 := hS.2.2.1
  have hgl := hS.2.2.2.1
  have hO1 : Own w1 g #[.slice A L.length c] := HX.out.2.2.2.2.2.next hw1
  have f0 := hO1.frozen 0
  obtain ⟨M, hMM⟩ : ∃ M, L.take k ++ (⟨a, b⟩ : Tm) :: L.drop k = M := ⟨_, rfl⟩
  rw [hMM] at hM hP
  have KI : Hid (∀ V, Ok w1 V → Own V w1.heap.size #[.int .i64 a, .int .i64 b] → Calls Try.prog 28 #[.slice A L.length c, .int .i64 k, .slice (some ⟨w1.heap.size, 0, none⟩) 1 1] V fun e w2 => ∃ A' c', e = .returned (.slice A' (L.length + 1) c') ∧ Own w2 g #[.slice A L.length c] ∧ Ok w1 V ∧ w2.ownsRow 0 50 2 (.slice A' (L.length + 1) c') (L.length + 1) (M.flatMap tmcells) ∧ V.grownBy w2 (A.map Addr.block) ∧ Near V A A') := Lib.hid fun V hV hN => by
    have hRV := (Far.of_ok (S := fun _ => False) (hw1.trans hV)).row HX.out.2.1 (fun _ _ h => h)
    have hrw : ∀ j, (A.map Addr.block) = some j → j < w1.heap.size ∧ j ≠ g := fun j hj => by
      have h := (HX.out.2.1.lt j (by rw [own_map]; exact hj)).2
      have := hw1.size
      rcases HX.out.2.2.2.1 with ⟨rfl, _⟩ | ⟨rfl, hne⟩
      · cases hj
      · cases hj; exact ⟨by omega, hne⟩
    refine (insertAt A c w1.heap.size k L ⟨a, b⟩ V hRV hN (fun p hp => ?_) hk (by omega)).mono ?_
    · have := (hrw p.block (by rw [hp]; rfl)).1
      omega
    · rintro e w2 ⟨A', c', rfl, g1, g2, g3⟩
      rw [hMM] at g1
      refine ⟨A', c', rfl, ?_, hV, g1, g2, g3⟩
      have hOV := hO1.next hV
      have hl := hOV.lt
      obtain ⟨t, ht⟩ := hOV
      exact ⟨t, (g2.block g hl (fun h => (hrw g h.symm).2 rfl)).trans ht⟩
  have HM := Lib.hid (And.intro hM (And.intro hP (And.intro hw1 hO1)))
  have hml : L.length + 1 = M.length := by rw [hP.length_eq]; rfl
  have HML := Lib.hid hml
  clear hS h1 h2 hM hP hw1 hO1 hMM hml hH hok1 KS
  go_wp2_with fail
  go_region_law (first | (go_simp; go_at_call 28; refine (KI.out _ (by first | exact ((Ok.refl w1).alloc _).drew | exact (Ok.refl w1).drew.alloc _) (by first | exact (Own.new w1 _ _ rfl).drew | exact Own.new w1.drew _ _ rfl)).mono ?_; rintro e w2 ⟨A', c', rfl, hO2, hR2⟩; have d0 := hO2.cell 0 rfl; have d1 := hO2.frozen 0; have HR2 := Lib.hid hR2; clear hR2 hO2))
  all_goals
    go_end0
    exact putEnd HM.out.1 HM.out.2.1 HML.out (HM.out.2.2.1.trans HR2.out.1) (HM.out.2.2.2.next HR2.out.1) hgw HX.out.2.2.2.1 HR2.out.2.1 HR2.out.2.2.1 HR2.out.2.2.2
end Go.Proofs.Ytfankcoomfmjlaa
