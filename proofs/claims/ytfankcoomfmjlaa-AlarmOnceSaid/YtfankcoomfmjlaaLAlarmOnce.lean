/- AlarmOnce: for every list of times and of askings the law answers true: each timer goes off once, at the first asking at its time or later, and none is passed over. No condition. -/
import Derived.Test.YtfankcoomfmjlaaC09q
import Derived.Test.YtfankcoomfmjlaaM23
namespace Go.Proofs.Ytfankcoomfmjlaa.alarmOnce
open Go.ChangeShapes Go.WideShapes Go.ChangeAt Go.RowKit
set_option linter.unusedVariables false
set_option maxRecDepth 100000
theorem boolInfo : (Try.prog.info? 4).map (fun i => (i.zero, i.size, i.bytes)) = some (some (.bool false), 1, 1) := by kernel_rfl
/-- A block of bools. -/
structure Bools (w : World) (o n : Nat) (off : Nat → Bool) : Prop where
  ex : ∃ cs, Own w o cs ∧ cs.size = n ∧ ∀ j, j < n → cs[j]? = some (.bool (off j))
namespace Bools
variable {w w1 : World} {o n : Nat} {off : Nat → Bool}
theorem lt (h : Bools w o n off) : o < w.heap.size := by
  obtain ⟨cs, hO, -⟩ := h.ex
  exact hO.lt
theorem far {S : Nat → Prop} (h : Bools w o n off) (k : Far S w w1) (ho : ¬ S o) : Bools w1 o n off := by
  obtain ⟨cs, hO, h1, h2⟩ := h.ex
  exact ⟨cs, k.own hO ho, h1, h2⟩
theorem next (h : Bools w o n off) (k : Ok w w1) : Bools w1 o n off := h.far (S := fun _ => False) (Far.of_ok k) (fun c => c)
theorem cell (h : Bools w o n off) {j : Nat} (hj : j < n) : w.cell? ⟨o, j, none⟩ = some (.bool (off j)) := by
  obtain ⟨cs, hO, h1, h2⟩ := h.ex
  exact hO.cell j (h2 j hj)
theorem frozen (h : Bools w o n off) (j : Nat) : w.frozen? ⟨o, j, none⟩ = false := by
  obtain ⟨cs, hO, h1, h2⟩ := h.ex
  exact hO.frozen j
theorem set (h : Bools w o n off) {i : Nat} : Bools (w.setCell ⟨o, i, none⟩ (.bool true)) o n (fun j => off j || decide (j = i)) := by
  obtain ⟨cs, hO, h1, h2⟩ := h.ex
  refine ⟨_, hO.set i _, by simpa using h1, fun j hj => ?_⟩
  rw [lay_set]
  by_cases e : i = j
  · subst e
    rw [if_pos ⟨rfl, by omega⟩]
    simp
  · rw [if_neg (fun c => e c.1), h2 j hj]
    have : decide (j = i) = false := decide_eq_false (fun c => e c.symm)
    rw [this, Bool.or_false]
theorem made {B : Nat} {e : TypeId} (h : w.ownsRow B e 1 (.slice (some ⟨o, 0, none⟩) n n) n (madeCells (Value.bool false).cells (n * 1)).toList) : Bools w o n fun _ => false := by
  obtain ⟨cs, hO, -, -, -, -, hs, hv⟩ := own_of_row h
  refine ⟨cs, hO.own, by omega, fun j hj => hv j _ ?_⟩
  rw [Nat.mul_one, show (Value.bool false).cells = #[.bool false] from rfl, toList_madeCells_one, List.getElem?_replicate, if_pos hj]
end Bools
/-- The table behind the first k settings. -/
def SetAt (g : Nat) (l : List Int) (w : World) (k : Nat) (wr : World) : Prop := ∃ L r, Alarm.Left l (fun i => decide (k ≤ i)) L ∧ L.length = k ∧ Mine 50 w wr g r L
theorem setAt_next {g k : Nat} {l : List Int} {w wr : World} (hk : k < l.length) (hl : l.length ≤ 64) (h : SetAt g l w k wr) :
    Calls Try.prog 9 #[.pointer (some ⟨g, 0, none⟩), .int .i64 k, .int .i64 l[k]] wr fun e w' => e = .returned (.int .i64 0) ∧ SetAt g l w (k + 1) w' := by
  obtain ⟨L, r, h1, h2, h3⟩ := h
  have hz : Alarm.setE (k : Int) L = 0 := by unfold Alarm.setE; rw [if_neg (fun c => by omega)]
  refine (tabSet g r k l[k] L wr h3.tab h1.1).mono fun e w' ⟨k1, L', ⟨k2, k3⟩, k4⟩ => ?_
  rw [if_neg (by rw [hz]; decide)] at k3
  obtain ⟨r', h4⟩ := h3.step k4
  rw [hz] at k1
  refine ⟨k1, L', r', Alarm.left_set hk h1 k2 k3, ?_, h4⟩
  rw [k3.length_eq, List.length_cons, Alarm.drop_none (Alarm.left_has h1), h2]
/-- The table, and who has gone off. -/
structure Once (g o : Nat) (l : List Int) (off ofb : Nat → Bool) (L : List Tm) (w wr : World) : Prop where
  ex : ∃ r, Mine 50 w wr g r L ∧ Bools wr o l.length ofb ∧ w.heap.size ≤ o ∧ o ≠ g ∧ o ≠ r
namespace Once
variable {g o : Nat} {l : List Int} {off ofb : Nat → Bool} {L : List Tm} {w wr w1 : World}
theorem ok (h : Once g o l off ofb L w wr) : Ok w wr := by
  obtain ⟨r, h1, -⟩ := h.ex
  exact h1.ok
theorem next (h : Once g o l off ofb L w wr) (k : Ok wr w1) : Once g o l off ofb L w w1 := by
  obtain ⟨r, h1, h2, h3⟩ := h.ex
  exact ⟨r, h1.next k, h2.next k, h3⟩
theorem bools (h : Once g o l off ofb L w wr) : Bools wr o l.length ofb := by
  obtain ⟨r, h1, h2, -⟩ := h.ex
  exact h2
theorem set (h : Once g o l off ofb L w wr) (i : Nat) : Once g o l off (fun j => ofb j || decide (j = i)) L w (wr.setCell ⟨o, i, none⟩ (.bool true)) := by
  obtain ⟨r, h1, h2, h3, h4, h5⟩ := h.ex
  have hF : Far (fun b => b = o) wr (wr.setCell ⟨o, i, none⟩ (.bool true)) := Far.set (S := fun b => b = o) (Far.refl _ _) (.inl (show _ = o from rfl)) _
  exact ⟨r, ⟨Far.then_ok h1.ok hF (fun b hb => by subst hb; exact h3), h1.hg, h1.hr, h1.tab.far hF (fun c => h4 c.symm) (fun c => h5 c.symm)⟩, h2.set, h3, h4, h5⟩
theorem len (h : Once g o l off ofb L w wr) : Calls Try.prog 18 #[.pointer (some ⟨g, 0, none⟩)] wr fun e w' => e = .returned (.int .i64 (L.length : Nat)) ∧ wr = w' := by
  obtain ⟨r, h1, -⟩ := h.ex
  exact tabLen g r L wr h1.tab
theorem due (h : Once g o l off ofb L w wr) (now : Int) (hG : Alarm.Good L) :
    Calls Try.prog 14 #[.pointer (some ⟨g, 0, none⟩), .int .i64 now] wr fun e w' => ∃ A c, e = .returned (.slice A (Alarm.cut now L) c) ∧ IntsAt w' A (ids (Alarm.cut now L) L) ∧ (∀ a, A = some a → a.block ≠ o) ∧ Once g o l off ofb (L.drop (Alarm.cut now L)) w w' := by
  obtain ⟨r, h1, h2, h3, h4, h5⟩ := h.ex
  refine (tabDue g r now L wr h1.tab hG).mono fun e w' ⟨A, c, r', k1, k2, k3, k4, k5, k6⟩ => ?_
  have hlt := h2.lt
  exact ⟨A, c, k1, k2, fun a ha => by have := (k3 a ha).1; omega, r', h1.far k5 k4 k6, h2.far k5 (fun c => c.elim h4 h5), h3, h4, far_apart k4 hlt h4 h5⟩
end Once
theorem once_start {g : Nat} {l : List Int} {w w4 w5 : World} (h : SetAt g l w l.length w4) (hown : w5.ownsRow w4.heap.size 4 1 (.slice (some ⟨w4.heap.size, 0, none⟩) l.length l.length) l.length (madeCells (Value.bool false).cells (l.length * 1)).toList) (hg : w4.grownBy w5 none) :
    ∃ L, Alarm.Left l (fun _ => false) L ∧ Once g w4.heap.size l (fun _ => false) (fun _ => false) L w w5 := by
  obtain ⟨L, r, h1, h2, h3⟩ := h
  have hok : Ok w4 w5 := ⟨hg.os, hg.tape, hg.output, hg.size, fun k hk => hg.block k hk (by simp)⟩
  have := h3.ok.size
  have := h3.tab.lt
  exact ⟨L, Alarm.left_all h1, r, h3.next hok, Bools.made hown, by omega, by omega, by omega⟩
/-- Between two askings. -/
def AskAt (g o : Nat) (l : List Int) (w wr : World) : Prop := ∃ off L, Alarm.Left l off L ∧ Once g o l off off L w wr
/-- Behind the first k that went off at an asking. -/
def DueAt (g o : Nat) (l : List Int) (off : Nat → Bool) (L : List Tm) (Q : Nat) (A : Option Addr) (w : World) (k : Nat) (wr : World) : Prop :=
  Once g o l off (Alarm.offK off L k) (L.drop Q) w wr ∧ IntsAt wr A (ids Q L) ∧ ∀ a, A = some a → a.block ≠ o
theorem ids_at {Q k : Nat} {L : List Tm} (hQ : Q ≤ L.length) (hk : k < Q) (h : k < (ids Q L).length) : (ids Q L)[k] = (L[k]'(by omega)).id := by
  unfold ids
  simp
theorem dueAt_set {g o Q k i : Nat} {l : List Int} {off : Nat → Bool} {L : List Tm} {A : Option Addr} {w wr : World} {t : Int} (hk : k < L.length) (hx : L[k] = ⟨i, t⟩) (h : DueAt g o l off L Q A w k wr) : DueAt g o l off L Q A w (k + 1) (wr.setCell ⟨o, i, none⟩ (.bool true)) := by
  obtain ⟨h1, h2, h3⟩ := h
  refine ⟨?_, ints_far h2 (Far.set (S := fun b => b = o) (Far.refl _ _) (.inl (show _ = o from rfl)) _) (fun a ha c => h3 a ha c), h3⟩
  rw [Alarm.offK_succ hk hx]
  exact h1.set i
theorem DueAt.next {g o Q k : Nat} {l : List Int} {off : Nat → Bool} {L : List Tm} {A : Option Addr} {w wr w1 : World} (h : DueAt g o l off L Q A w k wr) (hk : Ok wr w1) : DueAt g o l off L Q A w k w1 := ⟨h.1.next hk, hk.ints h.2.1, h.2.2⟩
/-- What is known of the k-th that goes off at an asking. -/
theorem due_facts {g o Q k : Nat} {x : Int} {l : List Int} {off : Nat → Bool} {L : List Tm} {A A0 : Option Addr} {w wr : World} (hQ : Alarm.cut x L = Q) (hk : k < Q) (hL : Alarm.Left l off L) (h : DueAt g o l off L Q A w k wr) (hA : IntsAt w A0 l) :
    ∃ (i : Nat) (t : Int) (b : Nat) (f : Nat) (b0 : Nat) (f0 : Nat), (∃ hkl : k < L.length, L[k] = ⟨i, t⟩) ∧ i < l.length ∧ t ≤ x ∧ A = some ⟨b, f, none⟩ ∧ A0 = some ⟨b0, f0, none⟩ ∧ wr.cell? ⟨b, f + k, none⟩ = some (.int .i64 (i : Nat)) ∧ wr.cell? ⟨b0, f0 + i, none⟩ = some (.int .i64 t) ∧ wr.cell? ⟨o, i, none⟩ = some (.bool false) ∧ wr.frozen? ⟨o, i, none⟩ = false ∧
      (0 < k → ∃ (i' : Nat) (t' : Int), i' < l.length ∧ t' ≤ t ∧ wr.cell? ⟨b, f + (k - 1), none⟩ = some (.int .i64 (i' : Nat)) ∧ wr.cell? ⟨b0, f0 + i', none⟩ = some (.int .i64 t')) := by
  have hQl : Q ≤ L.length := by rw [← hQ]; exact Alarm.cut_le _ _
  have hkl : k < L.length := by omega
  obtain ⟨i, hi, e, ho⟩ := Alarm.left_at hL hkl
  have hlen := ids_length hQl
  obtain ⟨b, f, hAe, _, hc⟩ := h.2.1 k (by omega)
  rw [ids_at hQl hk, e] at hc
  have hA2 := h.1.ok.ints hA
  obtain ⟨b0, f0, hA0, _, hc0⟩ := hA2 i hi
  have hb := h.1.bools.cell hi
  rw [Alarm.offK_not hL.1 hkl e ho] at hb
  have hpre := Alarm.cut_pre (now := x) hkl (by omega)
  rw [e] at hpre
  refine ⟨i, l[i], b, f, b0, f0, ⟨hkl, e⟩, hi, hpre, hAe, hA0, hc, hc0, hb, h.1.bools.frozen i, fun hk0 => ?_⟩
  have hkl' : k - 1 < L.length := by omega
  obtain ⟨i', hi', e', -⟩ := Alarm.left_at hL hkl'
  obtain ⟨b', f', hAe', _, hc'⟩ := h.2.1 (k - 1) (by omega)
  rw [ids_at hQl (by omega), e'] at hc'
  rw [hAe] at hAe'
  cases hAe'
  obtain ⟨b0', f0', hA0', _, hc0'⟩ := hA2 i' hi'
  rw [hA0] at hA0'
  cases hA0'
  have hlt := Alarm.lt_t (hL.1.lt_at hkl (show k - 1 < k by omega))
  rw [e, e'] at hlt
  exact ⟨i', l[i'], hi', hlt, hc', hc0'⟩
set_option maxHeartbeats 8000000 in
theorem walk (w : World) (A : Option Addr) (l : List Int) (c : Nat) (hA : IntsAt w A l) (hl : l.length ≤ 9223372036854775807) (hw : ∀ x ∈ l, (Lit.int .i64 x).wf = true)
    (B : Option Addr) (q : List Int) (d : Nat) (hB : IntsAt w B q) (hq : q.length ≤ 9223372036854775807) (hv : ∀ x ∈ q, (Lit.int .i64 x).wf = true) :
    Calls Try.prog 4 #[.slice A l.length c, .slice B q.length d] w fun e w' => e = .returned (.bool true) ∧ Below w.heap.size w w' := by
  clear hw hv
  have HC := Lib.hid (And.intro hA hB)
  clear hA hB
  by_cases hg : 64 < l.length ∨ 100 < q.length
  · go_enter Try.func4, Try.ntmps4
    go_wp2_with (go_at_call 7; (with_reducible refine (alarmAlive _).mono ?_); rintro e w1 ⟨rfl, hok1⟩)
    all_goals first
      | (exfalso; omega)
      | (go_ret; exact ⟨rfl, hok1⟩)
  · have hl64 : l.length ≤ 64 := by omega
    have hq100 : q.length ≤ 100 := by omega
    clear hg hl hq
    go_enter Try.func4, Try.ntmps4
    go_wp2_with (first
      | (go_at_call 7; (with_reducible refine (alarmAlive _).mono ?_); rintro e w1 ⟨rfl, hok1⟩)
      | (go_at_call 8; (with_reducible refine (tabNew _).mono ?_); rintro e w2 ⟨rfl, hok2, hL2⟩))
    have H0 : Hid (SetAt w1.heap.size l w 0 w2) := Lib.hid ⟨[], _, Alarm.left_start l, rfl, hok1.trans hok2, hok1.size, hok1.size, hL2⟩
    clear hok1 hok2 hL2
    generalize w1.heap.size = g at H0 ⊢
    go_loopw [32] (fun i wr => ∃ k : Nat, k ≤ l.length ∧ i = .int .i64 k ∧ Hid (SetAt g l w k wr)) (fun i _ => l.length - (intOf i).toNat)
    case atStart => exact ⟨0, Nat.zero_le _, rfl, H0⟩
    case round =>
      obtain ⟨k, hk, rfl, hrel⟩ := hrel
      clear H0
      by_cases hlt : k < l.length
      · have hokr : Ok w wr := by
          obtain ⟨L, r, -, -, h3⟩ := hrel.out
          exact h3.ok
        obtain ⟨b0, o0, hAe, _, hc0⟩ := hokr.ints HC.out.1 k hlt
        subst hAe
        have HK := Lib.hid (setAt_next hlt hl64 hrel.out)
        generalize l[k] = x at hc0 HK
        clear hrel hokr
        go_wp2_with (go_at_call 9; (with_reducible refine HK.out.mono ?_); rintro e w3 ⟨rfl, hT3⟩; replace hT3 := Lib.hid hT3)
        go_roundw
        case rel => exact ⟨k + 1, by omega, by go_num, hT3⟩
        case measure => simp [intOf]; omega
      · obtain rfl : k = l.length := by omega
        obtain ⟨i0, hi1, hi2, hi3, hi4⟩ := info_parts boolInfo
        go_wp2_with (at_make; refine wpList_make_full _ rfl (.tmp 44) (.tmp 44) 42 rfl wr.heap.size 4 i0 (.bool false) 1 Try.underlying42 hi1 hi2 hi3 .i64 .i64 _ _ l.length rfl rfl rfl rfl (by rw [hi4]; omega) (by unfold maxLen; omega) (Nat.le_refl _) ?_; intro w5 hown hgr; have H5 := Lib.hid (once_start hrel.out hown hgr); clear hown hgr)
        have H6 : Hid (AskAt g wr.heap.size l w w5) := Lib.hid (by
          obtain ⟨L, h1, h2⟩ := H5.out
          exact ⟨_, L, h1, h2⟩)
        clear H5 hrel hi1 hi2 hi3 hi4
        generalize wr.heap.size = o at H6 ⊢
        go_loopw [48] (fun i wr => ∃ k : Nat, k ≤ q.length ∧ i = .int .i64 k ∧ Hid (AskAt g o l w wr)) (fun i _ => q.length - (intOf i).toNat)
        case atStart => exact ⟨0, Nat.zero_le _, by simp, H6⟩
        case round =>
          obtain ⟨k, hk, rfl, hrel⟩ := hrel
          clear H6
          obtain ⟨W, rfl⟩ : ∃ W, W = wr := ⟨_, rfl⟩
          obtain ⟨off, L, hL, hO⟩ := hrel.out
          clear hrel
          by_cases hlt : k < q.length
          · obtain ⟨b1, f1, hBe, _, hc1⟩ := hO.ok.ints HC.out.2 k hlt
            subst hBe
            obtain ⟨x, hx⟩ : ∃ x, q[k] = x := ⟨_, rfl⟩
            rw [hx] at hc1
            obtain ⟨Q, hQ⟩ : ∃ Q, Alarm.cut x L = Q := ⟨_, rfl⟩
            have K := hO.due x hL.1
            rw [hQ] at K
            have HK := Lib.hid K
            have hQl : Q ≤ 64 := by have := hL.1.few; have := Alarm.cut_le x L; omega
            have HL := Lib.hid (And.intro hL hQ)
            clear hL hO hx hQ K
            go_wp2_with (go_at_call 14; (with_reducible refine HK.out.mono ?_); rintro e w6 ⟨A6, c6, rfl, hI6, hA6, hO6⟩; have H7 : Hid (DueAt g o l off L Q A6 w 0 w6) := Lib.hid ⟨by rw [Alarm.offK_zero]; exact hO6, hI6, hA6⟩; clear hI6 hA6 hO6)
            clear hc1
            go_loopw [57] (fun i wr => ∃ j : Nat, j ≤ Q ∧ i = .int .i64 j ∧ Hid (DueAt g o l off L Q A6 w j wr)) (fun i _ => Q - (intOf i).toNat)
            case atStart => exact ⟨0, Nat.zero_le _, rfl, H7⟩
            case round =>
              obtain ⟨j, hj, rfl, hrel⟩ := hrel
              clear H7
              by_cases hjQ : j < Q
              · obtain ⟨i, t, b, f, b0, f0, hLj, hil, htx, hAe, hA0, d1, d2, d3, d4, d5⟩ := due_facts HL.out.2 hjQ HL.out.1 hrel.out HC.out.1
                subst hAe
                subst hA0
                have HX := Lib.hid (And.intro hLj hrel.out)
                have p1 : decide ((i : Int) < 0) = false := decide_eq_false (by omega)
                have p2 : decide (l.length ≤ i) = false := decide_eq_false (by omega)
                have p3 : decide (x < t) = false := decide_eq_false (by omega)
                have p10 : (i : Int) < (l.length : Int) := by omega
                clear hLj hrel
                by_cases hj0 : 0 < j
                · obtain ⟨i', t', hil', htt, d6, d7⟩ := d5 hj0
                  have p4 : decide (0 < j) = true := decide_eq_true (by omega)
                  have p5 : decide (t < t') = false := decide_eq_false (by omega)
                  obtain ⟨p, hp⟩ : ∃ p, j - 1 = p := ⟨_, rfl⟩
                  rw [hp] at d6
                  have p6 : IntKind.i64.wrap ((j : Int) - 1) = (p : Int) := by rw [IntWalk.i64_in _ ⟨by omega, by omega⟩]; omega
                  have p7 : p < Q := by omega
                  have p8 : (p : Int) < (Q : Int) := by omega
                  have p9 : (i' : Int) < (l.length : Int) := by omega
                  clear hp
                  clear d5
                  go_wp2_with fail
                  go_quiet (fail)
                  go_wp2_with fail
                  go_roundw
                  case rel => exact ⟨j + 1, by omega, by go_num, Lib.hid (dueAt_set HX.out.1.1 HX.out.1.2 (HX.out.2.next ((Ok.refl _).drewN _)))⟩
                  case measure => simp [intOf]; omega
                · have p4 : decide (0 < j) = false := decide_eq_false (by omega)
                  clear d5 hj0
                  go_wp2_with fail
                  go_quiet (fail)
                  go_wp2_with fail
                  go_roundw
                  case rel => exact ⟨j + 1, by omega, by go_num, Lib.hid (dueAt_set HX.out.1.1 HX.out.1.2 (HX.out.2.next ((Ok.refl _).drewN _)))⟩
                  case measure => simp [intOf]; omega
              · obtain rfl : j = Q := by omega
                obtain ⟨W3, rfl⟩ : ∃ W3, W3 = wr := ⟨_, rfl⟩
                have HO := Lib.hid hrel.out.1
                have HN : Hid (AskAt g o l w W3) := Lib.hid ⟨_, _, Alarm.left_next HL.out.1 j, by
                  obtain ⟨r, h⟩ := hrel.out.1.ex
                  exact ⟨r, h⟩⟩
                have HD : Hid (∀ m (hm : m < l.length), l[m] ≤ x → W3.cell? ⟨o, m, none⟩ = some (.bool true)) := Lib.hid fun m hm h => by
                  have h1 := hrel.out.1.bools.cell hm
                  have h2 := Alarm.left_due HL.out.1 hm h
                  rw [HL.out.2] at h2
                  rwa [h2] at h1
                have HI : Hid (IntsAt W3 A l) := Lib.hid (hrel.out.1.ok.ints HC.out.1)
                clear hrel
                go_wp2_with fail
                go_loopw [109] (fun i wr => ∃ m : Nat, m ≤ l.length ∧ i = .int .i64 m ∧ wr = W3) (fun i _ => l.length - (intOf i).toNat)
                case atStart => exact ⟨0, Nat.zero_le _, rfl, rfl⟩
                case round =>
                  obtain ⟨m, hm, rfl, rfl⟩ := hrel
                  by_cases hmn : m < l.length
                  · obtain ⟨b0, f0, hAe, _, hc0⟩ := HI.out m hmn
                    subst hAe
                    have hd := HD.out m hmn
                    generalize l[m] = t at hc0 hd
                    by_cases htx : t ≤ x
                    · have hc2 := hd htx
                      clear hd
                      go_wp2_with fail
                      go_roundw
                      case rel => exact ⟨m + 1, by omega, by go_num, trivial⟩
                      case measure => simp [intOf]; omega
                    · clear hd
                      go_wp2_with fail
                      go_roundw
                      case rel => exact ⟨m + 1, by omega, by go_num, trivial⟩
                      case measure => simp [intOf]; omega
                  · go_wp2_with fail
                    go_roundw
                    case rel => exact ⟨k + 1, by omega, by go_num, HN⟩
                    case measure => simp [intOf]; omega
          · have KL := hO.len
            rw [Alarm.left_len hL] at KL
            have HK := Lib.hid KL
            have HB := Lib.hid hO.bools
            have HW := Lib.hid hO.ok
            clear hL hO KL
            go_wp2_with fail
            go_loopw [16, 128] (fun v i wr => ∃ m : Nat, m ≤ l.length ∧ v = .int .i64 (Alarm.cnt off m : Nat) ∧ i = .int .i64 m ∧ wr = W) (fun _ i _ => l.length - (intOf i).toNat)
            case atStart => exact ⟨0, Nat.zero_le _, rfl, rfl, rfl⟩
            case round =>
              obtain ⟨m, hm, rfl, rfl, rfl⟩ := hrel
              by_cases hmn : m < l.length
              · have hc := HB.out.cell hmn
                have hcl := Alarm.cnt_le off m
                have hcs := Alarm.cnt_succ off m
                generalize Alarm.cnt off m = C at hcl hcs ⊢
                cases hof : off m with
                | true =>
                  rw [hof] at hc hcs
                  have HS := Lib.hid hcs
                  clear hcs hof
                  go_wp2_with fail
                  go_roundw
                  case rel => exact ⟨m + 1, by omega, by rw [HS.out]; rfl, by go_num, trivial⟩
                  case measure => simp [intOf]; omega
                | false =>
                  rw [hof] at hc hcs
                  have HS := Lib.hid hcs
                  clear hcs hof
                  go_wp2_with fail
                  go_roundw
                  case rel => exact ⟨m + 1, by omega, by rw [HS.out]; go_num, by go_num, trivial⟩
                  case measure => simp [intOf]; omega
              · obtain rfl : m = l.length := by omega
                generalize Alarm.cnt off l.length = C at HK ⊢
                have hcc : ((C : Int) == (C : Int)) = true := by simp
                go_wp2_with (go_at_call 18; (with_reducible refine HK.out.mono ?_); rintro e w9 ⟨rfl, rfl⟩)
                go_ret
                exact ⟨rfl, HW.out⟩
theorem own : ownKnob Try.prog.godebug = none := by kernel_rfl
theorem laidOut : laidOutB Try.prog = true := by kernel_rfl
set_option maxRecDepth 100000 in
theorem lifted (os : Os) (started : os.Started) (H : Type) (enc : TypeId × Value → H) :
    ReturnsInHanded {} Try.checked os 4 .any (Rows.alarmOnceSpec.pre6 enc Try.prog Try.f4 Rows.alarmOnceRow.domain false) (Rows.alarmOnceSpec.post enc Try.prog Try.f4 false true false false) := by
  refine returnsInHanded_of_change (C := Try.checked) own started (by kernel_rfl) Try.func4
    (ChangeSpec.witness6 (enc := enc) (C := Try.checked) false ⟨#[], #[.slice none 0 0, .slice none 0 0], []⟩ 8 (by kernel_rfl) (by kernel_rfl) (by kernel_rfl) (by kernel_rfl)) ?_
  intro W base args ds gs before hval0 hW _ _
  have hval : ∀ (j : Nat) t v, Try.f4.params[j]? = some t → args[j]? = some v → Value.okWide Try.prog W .any base t v := hval0
  have hW' := hW
  obtain ⟨p, q, hA, hV, rfl, _, _⟩ := hW
  obtain ⟨rfl, rfl⟩ := trodVars_none hV
  replace hA : DataW.TrodAll enc Try.prog W 0 (fun _ => true) true Try.f4.params.toList args.toList ds p := hA
  rw [Try.params4] at hA hval
  obtain ⟨v0, vs0, d0, ds0, p0, q0, hargs, rfl, rfl, h0, r0⟩ := trodAll_cons hA
  obtain ⟨v1, vs1, d1, ds1, p1, q1, rfl, rfl, rfl, h1, r1⟩ := trodAll_cons r0
  obtain ⟨rfl, rfl, rfl⟩ := trodAll_nil r1
  obtain rfl : args = #[v0, v1] := by cases args; simp_all
  obtain ⟨A0, l0, c0, rfl, hA0, hl0, hw0⟩ := open_sliceK Try.underlying36 Try.underlying3 (by kernel_rfl) (hval 0 36 v0 rfl rfl) h0
  obtain ⟨A1, l1, c1, rfl, hA1, hl1, hw1⟩ := open_sliceK Try.underlying36 Try.underlying3 (by kernel_rfl) (hval 1 36 v1 rfl rfl) h1
  refine (walk W A0 l0 c0 hA0 hl0 hw0 A1 l1 c1 hA1 hl1 hw1).mono fun e W' ⟨he, hb⟩ => ?_
  subst he
  exact ⟨_, rfl, law_post hW' laidOut (by rw [Try.params4]; exact params_ok (by kernel_rfl)) rfl (by kernel_rfl) Try.underlying4 rfl rfl rfl hb⟩
theorem over : Rows.alarmOnceRow.holds Try.pinned (OpenSpec.ofChange Rows.alarmOnceSpec) :=
  OpenClaim.holds_of_wide 4 Try.f4 rfl rfl rfl rfl rfl rfl rfl ⟨rfl, rfl, rfl, rfl, rfl⟩ rfl rfl rfl rfl rfl (by kernel_rfl) Try.func4 (by kernel_rfl)
    (of_decide_eq_true (by kernel_rfl)) (by unfold Func.isWrapper; first | (rw [if_pos (by decide +kernel)]; kernel_rfl) | (rw [if_neg (by decide +kernel)]; exact ⟨rfl, rfl⟩))
    (fun os started H enc _ => lifted os started H enc)
theorem proved : Rows.AlarmOnceSaid := over
end Go.Proofs.Ytfankcoomfmjlaa.alarmOnce
