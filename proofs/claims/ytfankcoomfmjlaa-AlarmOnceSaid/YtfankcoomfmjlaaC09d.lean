/- Contracts of layer 9: where a timer is to stand. -/
import Derived.Test.YtfankcoomfmjlaaC09c
namespace Go.Proofs.Ytfankcoomfmjlaa
open Go.RowKit
set_option maxRecDepth 100000
/-- A struct of two integers in a row, and one in a block of its own. -/
def Two3 (b o g : Nat) (w : World) (p q c d : Int) (w' : World) : Prop :=
  w'.cell? ⟨b, o, none⟩ = some (.int .i64 p) ∧ w'.cell? ⟨b, o + 1, none⟩ = some (.int .i64 q) ∧ w'.cell? ⟨g, 0, none⟩ = some (.int .i64 c) ∧ w'.cell? ⟨g, 1, none⟩ = some (.int .i64 d) ∧ b < w'.heap.size ∧ g < w'.heap.size ∧ Ok w w'
theorem Two3.next {b o g : Nat} {w w' w1 : World} {p q c d : Int} (h : Two3 b o g w p q c d w') (k : Ok w' w1) : Two3 b o g w p q c d w1 := by
  obtain ⟨c0, c1, c2, c3, hs, hs2, ho⟩ := h
  exact ⟨(k.cell (p := ⟨b, o, none⟩) hs).trans c0, (k.cell (p := ⟨b, o + 1, none⟩) hs).trans c1, (k.cell (p := ⟨g, 0, none⟩) hs2).trans c2, (k.cell (p := ⟨g, 1, none⟩) hs2).trans c3, Nat.lt_of_lt_of_le hs k.size, Nat.lt_of_lt_of_le hs2 k.size, ho.trans k⟩
theorem Two3.drew {b o g : Nat} {w w' : World} {p q c d : Int} (h : Two3 b o g w p q c d w') : Two3 b o g w p q c d w'.drew := h.next (Ok.refl _).drew
/-- What BinarySearchFunc answers. -/
def SearchEnd (x : Tm) (L : List Tm) (w : World) (e : Ending) (w' : World) : Prop :=
  Ok w w' ∧ ∃ (k : Nat) (f : Bool), k ≤ L.length ∧ (∀ j (hj : j < L.length), j < k → Alarm.lt L[j] x) ∧ (∀ j (hj : j < L.length), k ≤ j → ¬ Alarm.lt L[j] x) ∧ e = .returned (.tuple #[.int .i64 k, .bool f])
def Between (x : Tm) (L : List Tm) (i j : Nat) : Prop := (∀ m (hm : m < L.length), m < i → Alarm.lt L[m] x) ∧ (∀ m (hm : m < L.length), j ≤ m → ¬ Alarm.lt L[m] x)
theorem Between.left {x : Tm} {L : List Tm} {i j h : Nat} (hB : Between x L i j) (hG : L.Pairwise Alarm.lt) (hh : h < L.length) (hl : Alarm.lt L[h] x) : Between x L (h + 1) j :=
  ⟨fun m hm hk => by
    by_cases e : m = h
    · subst e; exact hl
    · exact Alarm.lt_trans ((List.pairwise_iff_getElem.1 hG) m h hm hh (by omega)) hl, hB.2⟩
theorem Between.right {x : Tm} {L : List Tm} {i j h : Nat} (hB : Between x L i j) (hG : L.Pairwise Alarm.lt) (hh : h < L.length) (hl : ¬ Alarm.lt L[h] x) : Between x L i h :=
  ⟨hB.1, fun m hm hk => by
    by_cases e : h = m
    · subst e; exact hl
    · exact fun hc => hl (Alarm.lt_trans ((List.pairwise_iff_getElem.1 hG) h m hh hm (by omega)) hc)⟩
set_option maxHeartbeats 1600000 in
theorem searchIns (x : Tm) (A : Option Addr) (L : List Tm) (c : Nat) (w : World) (hA : CellsAt w A (L.flatMap tmcells)) (hG : L.Pairwise Alarm.lt) (hlen : L.length ≤ 1000000) :
    Calls Try.prog 24 #[.slice A L.length c, .agg #[.int .i64 x.id, .int .i64 x.t], .func (.func 25) #[] #[]] w (SearchEnd x L w) := by
  have HC := Lib.hid hA
  have HG := Lib.hid hG
  have HD := Lib.hid fun y W => insIs y x W
  clear hA hG
  have hO := Own.new w #[.int .i64 x.id, .int .i64 x.t] 50 rfl
  have hok := (Ok.refl w).alloc (.cells #[.int .i64 x.id, .int .i64 x.t] 50)
  have H0 : Hid (Between x L 0 L.length) := Lib.hid ⟨fun _ _ h => absurd h (Nat.not_lt_zero _), fun _ _ h => by omega⟩
  have HX : Hid (∃ y, y = x) := Lib.hid ⟨x, rfl⟩
  obtain ⟨a, b⟩ := x
  obtain ⟨y, hy⟩ : ∃ y : Tm, y = ⟨a, b⟩ := ⟨_, rfl⟩
  rw [← hy] at HD H0 ⊢
  have HY := Lib.hid hy
  simp only [hy]
  simp only at hO hok
  clear hy HX
  go_enter Try.func24, Try.ntmps24
  go_wp2_with fail
  generalize w.alloc (.cells #[.int .i64 a, .int .i64 b] 50) = W0 at hO hok ⊢
  obtain ⟨g, hg⟩ : ∃ g, w.heap.size = g := ⟨_, rfl⟩
  rw [hg] at hO ⊢
  have HO := Lib.hid (And.intro hO hok)
  clear hO hok hg
  go_loopw [9, 10] (fun u v wr => ∃ i j : Nat, i ≤ j ∧ j ≤ L.length ∧ u = .int .i64 i ∧ v = .int .i64 j ∧ Hid (Between y L i j) ∧ Ok W0 wr) (fun u v _ => (intOf v).toNat - (intOf u).toNat)
  case atStart => exact ⟨0, L.length, Nat.zero_le _, Nat.le_refl _, rfl, rfl, H0, Ok.refl _⟩
  case round =>
    obtain ⟨i, j, hij, hj, rfl, rfl, hrel, hok1⟩ := hrel
    clear H0
    by_cases hlt : i < j
    · obtain ⟨h, hh⟩ : ∃ h, (i + j) / 2 = h := ⟨_, rfl⟩
      have h1 : i ≤ h := by omega
      have h2 : h < j := by omega
      have h3 : h < L.length := by omega
      go_wp2_with fail
      rw [show ((i : Int) + (j : Int)) / 2 = (h : Int) by omega]
      obtain ⟨b', off, hAe, hb', hc⟩ := (HC.out.below (HO.out.2.trans hok1)).at tmcells_length (by decide) h h3
      subst hAe
      obtain ⟨p, hp⟩ : ∃ p, L[h] = p := ⟨_, rfl⟩
      rw [hp] at hc
      have hO1 := HO.out.1.next hok1
      have H3 : Two3 b' (off + h * 2) g wr p.id p.t a b wr := ⟨by simpa using hc 0 _ rfl, hc 1 _ rfl, hO1.cell 0 rfl, hO1.cell 1 rfl, hb', hO1.lt, Ok.refl _⟩
      have HP := Lib.hid hp
      have K := Lib.hid fun W => HD.out p W
      rw [HY.out] at K
      obtain ⟨P, hP⟩ : ∃ P, ord p y = P := ⟨_, rfl⟩
      rw [← HY.out, hP] at K
      have hord := ord_neg p y
      rw [hP] at hord
      have HR := Lib.hid hord
      clear hc hp hO1 hb' hP hord hh
      obtain ⟨xi, xt⟩ := p
      simp only at H3
      simp only [HY.out] at K
      go_region_held3 (fun w' => w'.cell? ⟨b', off + h * 2, none⟩ = some (.int .i64 xi) ∧ w'.cell? ⟨b', off + h * 2 + 1, none⟩ = some (.int .i64 xt) ∧ w'.cell? ⟨g, 0, none⟩ = some (.int .i64 a) ∧ w'.cell? ⟨g, 1, none⟩ = some (.int .i64 b) ∧ b' < w'.heap.size ∧ g < w'.heap.size ∧ Ok wr w')
        (first | assumption | exact H3.drew | exact Two3.next H3.drew (by assumption) | exact Two3.next (by assumption) (by assumption))
        (first | (go_at_call 25; (with_reducible refine (K.out _).mono ?_); rintro e w1 ⟨rfl, hb1⟩))
      rename_i hS
      have hok2 : Ok W0 w1 := hok1.trans hS.2.2.2.2.2.2
      clear hS H3 hb1 K
      by_cases hneg : P < 0
      · have HB : Hid (Between y L (h + 1) j) := Lib.hid (hrel.out.left HG.out h3 (by rw [HP.out]; exact HR.out.1 hneg))
        clear hrel
        go_wp2_with fail
        go_roundw
        case rel => exact ⟨h + 1, j, by omega, hj, by go_num, rfl, HB, hok2⟩
        case measure => simp [intOf]; omega
      · have HB : Hid (Between y L i h) := Lib.hid (hrel.out.right HG.out h3 (by rw [HP.out]; exact fun hc => hneg (HR.out.2 hc)))
        clear hrel
        go_wp2_with fail
        go_roundw
        case rel => exact ⟨i, h, by omega, by omega, rfl, rfl, HB, hok2⟩
        case measure => simp [intOf]; omega
    · obtain rfl : i = j := by omega
      have HE : Hid (∀ f : Bool, ∀ W, Ok W0 W → SearchEnd ⟨a, b⟩ L w (.returned (.tuple #[.int .i64 i, .bool f])) W) := Lib.hid fun f W k => ⟨HO.out.2.trans k, i, f, hj, by rw [← HY.out]; exact hrel.out.1, by rw [← HY.out]; exact hrel.out.2, rfl⟩
      clear hrel
      by_cases h3 : i < L.length
      · go_wp2_with fail
        obtain ⟨b', off, hAe, hb', hc⟩ := (HC.out.below (HO.out.2.trans hok1)).at tmcells_length (by decide) i h3
        subst hAe
        obtain ⟨p, hp⟩ : ∃ p, L[i] = p := ⟨_, rfl⟩
        rw [hp] at hc
        have hO1 := HO.out.1.next hok1
        have H3 : Two3 b' (off + i * 2) g wr p.id p.t a b wr := ⟨by simpa using hc 0 _ rfl, hc 1 _ rfl, hO1.cell 0 rfl, hO1.cell 1 rfl, hb', hO1.lt, Ok.refl _⟩
        have K := Lib.hid fun W => HD.out p W
        rw [HY.out] at K
        obtain ⟨P, hP⟩ : ∃ P, ord p y = P := ⟨_, rfl⟩
        rw [← HY.out, hP] at K
        clear hc hp hO1 hb' hP
        obtain ⟨xi, xt⟩ := p
        simp only at H3
        simp only [HY.out] at K
        go_region_held3 (fun w' => w'.cell? ⟨b', off + i * 2, none⟩ = some (.int .i64 xi) ∧ w'.cell? ⟨b', off + i * 2 + 1, none⟩ = some (.int .i64 xt) ∧ w'.cell? ⟨g, 0, none⟩ = some (.int .i64 a) ∧ w'.cell? ⟨g, 1, none⟩ = some (.int .i64 b) ∧ b' < w'.heap.size ∧ g < w'.heap.size ∧ Ok wr w')
          (first | assumption | exact H3.drew | exact Two3.next H3.drew (by assumption) | exact Two3.next (by assumption) (by assumption))
          (first | (go_at_call 25; (with_reducible refine (K.out _).mono ?_); rintro e w1 ⟨rfl, hb1⟩))
        rename_i hS
        have hok2 : Ok W0 w1 := hok1.trans hS.2.2.2.2.2.2
        clear hS H3 hb1 K
        go_wp2_with fail
        go_ret2
        exact HE.out _ _ hok2
      · go_wp2_with fail
        go_quiet (fail)
        go_wp2_with fail
        go_ret2
        exact HE.out _ _ (hok1.drewN _)
end Go.Proofs.Ytfankcoomfmjlaa
