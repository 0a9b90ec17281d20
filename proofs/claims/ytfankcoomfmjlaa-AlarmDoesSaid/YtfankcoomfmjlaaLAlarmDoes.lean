/- AlarmDoes: for every script of calls the law answers true: each answer is the document's, and so is when the next one goes off; of a nil table nothing. No condition. -/
import Derived.Test.YtfankcoomfmjlaaC09q
import Derived.Test.YtfankcoomfmjlaaW21
namespace Go.Proofs.Ytfankcoomfmjlaa.alarmDoes
open Go.ChangeShapes Go.WideShapes Go.ChangeAt Go.RowKit
set_option linter.unusedVariables false
set_option maxRecDepth 100000
/-- Behind the first k calls. -/
def DoesAt (g r : Nat) (w : World) (_k : Nat) (wr : World) : Prop := ∃ L M r1 r2, Both 50 52 w wr g r1 L r r2 M ∧ M.Perm L ∧ Alarm.Good L
theorem does_in {b g r k : Nat} {x y : Int} {w W : World} {L M : List Tm} (h : In b x y w g r L M W) (hG : Alarm.Good L) (hP : M.Perm L) : DoesAt g r w k W := by
  obtain ⟨r1, r2, h1, -, -⟩ := h.ex
  exact ⟨L, M, r1, r2, h1, hP, hG⟩
theorem does_len {L M : List Tm} (h : Alarm.Good L ∧ M.Perm L) : M.length ≤ 100000 := by
  have := h.1.few
  have := h.2.length_eq
  omega
theorem cel3 {b : Nat} {x y : Int} {W : World} (h : Cel b x y W) : W.cell? ⟨b, 1, none⟩ = some (.int .i64 x) ∧ W.cell? ⟨b, 2, none⟩ = some (.int .i64 y) ∧ b < W.heap.size := ⟨h.c1, h.c2, h.lt⟩
theorem setE_perm {L M : List Tm} {i : Int} (h : M.Perm L) : Alarm.setE i M = Alarm.setE i L := by unfold Alarm.setE; rw [Alarm.has_perm h, h.length_eq]
theorem dropE_perm {L M : List Tm} {i : Int} (h : M.Perm L) : Alarm.dropE i M = Alarm.dropE i L := by unfold Alarm.dropE; rw [Alarm.has_perm h]
theorem setM_perm {L L1 M : List Tm} {i t : Int} (h : M.Perm L) (k : SetTo i t L L1) : (setM i t M).Perm L1 := by
  unfold setM
  rw [setE_perm h]
  obtain ⟨-, k⟩ := k
  by_cases e : Alarm.setE i L = 7
  · rw [if_pos e] at k ⊢
    rw [k]; exact h
  · rw [if_neg e] at k ⊢
    exact (List.perm_append_singleton _ _).trans (((Alarm.drop_perm h).cons _).trans k.symm)
theorem nextForm (L : List Tm) : ∃ a b, nextV L = .tuple #[.int .i64 a, .bool b] := by cases L <;> exact ⟨_, _, rfl⟩
def DueMid (b : Nat) (x y : Int) (w : World) (g r : Nat) (L M : List Tm) (l : List Int) (A : Option Addr) (W : World) : Prop :=
  IntsAt W A l ∧ (∀ a r2, A = some a → TabAt 52 W r r2 M → a.block ≠ r ∧ a.block ≠ r2) ∧ In b x y w g r L M W
def DueFin (b : Nat) (x y : Int) (w : World) (g r : Nat) (L N : List Tm) (l : List Int) (A B : Option Addr) (W : World) : Prop :=
  IntsAt W A l ∧ IntsAt W B l ∧ ∃ M1, M1.Perm N ∧ In b x y w g r L M1 W
theorem dueFin_cel {b : Nat} {x y : Int} {w W : World} {g r : Nat} {L N : List Tm} {l : List Int} {A B : Option Addr} (h : DueFin b x y w g r L N l A B W) : W.cell? ⟨b, 1, none⟩ = some (.int .i64 x) ∧ W.cell? ⟨b, 2, none⟩ = some (.int .i64 y) ∧ b < W.heap.size := by
  obtain ⟨-, -, M1, -, h⟩ := h
  exact cel3 h.cel
theorem dueMid_right {b : Nat} {x y : Int} {w V : World} {g r : Nat} {L M L0 : List Tm} {A : Option Addr} {l : List Int} (h : DueMid b x y w g r L M l A V) (now : Int) (hp : M.Perm L0) (hG : Alarm.Good L0) (hl : l = ids (Alarm.cut now L0) L0) :
    Calls Try.prog 15 #[.pointer (some ⟨r, 0, none⟩), .int .i64 now] V fun e w' => ∃ B c, e = .returned (.slice B (Alarm.cut now L0) c) ∧ DueFin b x y w g r L (L0.drop (Alarm.cut now L0)) l A B w' := by
  subst hl
  exact (h.2.2.dueR now hp hG h.1 h.2.1).mono fun e w' ⟨B, c, M', k1, k2, k3, k4, k5⟩ => ⟨B, c, k1, k3, k2, M', k4, k5⟩
theorem does_start {w w1 w3 : World} (hok : Ok w w1) (hk : Ok w1 w3) (hT : TabAt 50 w3 w1.heap.size w1.heap.size []) : DoesAt w1.heap.size w3.heap.size w 0 (w3.alloc (.cells #[.slice none 0 0] 29)) := by
  have h1 := hok.size
  have h2 := hT.lt.1
  have hn := TabAt.new w3 52 29
  have hok2 : Ok w (w3.alloc (.cells #[.slice none 0 0] 29)) := (hok.trans hk).alloc _
  exact ⟨[], [], _, _, ⟨⟨hok2, h1, h1, hT.next ((Ok.refl _).alloc _)⟩, ⟨hok2, by omega, by omega, hn⟩, by omega, by omega, by omega, by omega⟩, List.Perm.refl _, Alarm.Good.nil⟩
set_option maxHeartbeats 4000000 in
theorem walk (w : World) (A : Option Addr) (l : List Cal3) (c : Nat) (hA : CellsAt w A (l.flatMap cal3cells)) (hl : l.length ≤ 9223372036854775807) (hw : ∀ x ∈ l, cal3ok x) :
    Calls Try.prog 3 #[.slice A l.length c] w fun e w' => e = .returned (.bool true) ∧ Below w.heap.size w w' := by
  have HC := Lib.hid hA
  have HW := Lib.hid hw
  clear hA hw
  by_cases hg : 200 < l.length
  · go_enter Try.func3, Try.ntmps3
    go_wp2_with (go_at_call 7; (with_reducible refine (alarmAlive _).mono ?_); rintro e w1 ⟨rfl, hok1⟩)
    go_ret
    exact ⟨rfl, hok1⟩
  · go_enter Try.func3, Try.ntmps3
    go_wp2_with (first
      | (go_at_call 7; (with_reducible refine (alarmAlive _).mono ?_); rintro e w2 ⟨rfl, hok⟩)
      | (go_at_call 8; (with_reducible refine (tabNew _).mono ?_); rintro e w3 ⟨rfl, hk3, hL3⟩))
    have H0 : Hid (DoesAt w2.heap.size w3.heap.size w 0 (w3.alloc (.cells #[.slice none 0 0] 29))) := Lib.hid (does_start hok hk3 hL3)
    clear hok hk3 hL3
    generalize w3.alloc (.cells #[.slice none 0 0] 29) = w4 at H0 ⊢
    generalize w2.heap.size = g at H0 ⊢
    generalize w3.heap.size = r at H0 ⊢
    go_loopw [25] (fun i wr => ∃ k : Nat, k ≤ l.length ∧ i = .int .i64 k ∧ Hid (DoesAt g r w k wr)) (fun i _ => l.length - (intOf i).toNat)
    case atStart => exact ⟨0, Nat.zero_le _, rfl, H0⟩
    case round =>
      obtain ⟨k, hk, rfl, hrel⟩ := hrel
      clear H0
      obtain ⟨L, M, r1, r2, hP, hPm, hG⟩ := hrel.out
      clear hrel
      by_cases hlt : k < l.length
      · obtain ⟨b, off, hAe, hb1, hc⟩ := (HC.out.below hP.a.ok).at cal3len (by decide) k hlt
        subst hAe
        obtain ⟨x, hx⟩ : ∃ x, l[k] = x := ⟨_, rfl⟩
        rw [hx] at hc
        have c0 := hc 0 _ rfl
        have c1 := hc 1 _ rfl
        have c2 := hc 2 _ rfl
        obtain ⟨xk, xa, xb⟩ := x
        simp only [cal3kinds, List.length_cons, List.length_nil, Nat.zero_add, Nat.reduceAdd, Nat.add_zero] at c0 c1 c2
        have hO1 := Own.new wr #[.int .i64 xk, .int .i64 xa, .int .i64 xb] 31 rfl
        have hI0 : In wr.heap.size xa xb w g r L M (wr.alloc (.cells #[.int .i64 xk, .int .i64 xa, .int .i64 xb] 31)) :=
          ⟨r1, r2, hP.next ((Ok.refl _).alloc _), ⟨hO1.cell 1 rfl, hO1.cell 2 rfl, hO1.lt⟩, by have := hP.a.tab.lt; have := hP.b.tab.lt; omega⟩
        have HG := Lib.hid (And.intro hG hPm)
        clear hc hx hb1 hP hG hPm hO1
        by_cases h0 : xk = 0
        · subst h0
          go_wp2_with fail
          generalize wr.alloc (.cells #[.int .i64 0, .int .i64 xa, .int .i64 xb] 31) = W at hI0 ⊢
          have HI0 := Lib.hid (hI0.next (Ok.refl _).drew)
          have hd0 := cel3 (hI0.next (Ok.refl _).drew).cel
          clear hI0

          have KA : Hid (∀ V, In wr.heap.size xa xb w g r L M V → Calls Try.prog 9 #[.pointer (some ⟨g, 0, none⟩), .int .i64 xa, .int .i64 xb] V fun e w' => e = .returned (.int .i64 (Alarm.setE xa L)) ∧ ∃ L', SetTo xa xb L L' ∧ In wr.heap.size xa xb w g r L' M w') := Lib.hid fun V h => h.setL xa xb HG.out.1
          have KB : Hid (∀ V L1, In wr.heap.size xa xb w g r L1 M V → Calls Try.prog 10 #[.pointer (some ⟨r, 0, none⟩), .int .i64 xa, .int .i64 xb] V fun e w' => e = .returned (.int .i64 (Alarm.setE xa L)) ∧ In wr.heap.size xa xb w g r L1 (setM xa xb M) w') := Lib.hid fun V L1 h => by
            have := h.setR xa xb (does_len HG.out)
            rwa [setE_perm HG.out.2] at this
          have KP : Hid (∀ L1, SetTo xa xb L L1 → (setM xa xb M).Perm L1) := Lib.hid fun L1 h => setM_perm HG.out.2 h
          generalize Alarm.setE xa L = E at KA KB
          generalize setM xa xb M = M1 at KB KP
          go_region_held3 (fun w' => w'.cell? ⟨wr.heap.size, 1, none⟩ = some (.int .i64 xa) ∧ w'.cell? ⟨wr.heap.size, 2, none⟩ = some (.int .i64 xb) ∧ wr.heap.size < w'.heap.size)
            (first | exact hd0 | exact hd6.out | exact hd5.out)
            (first
              | (go_at_call 9; (with_reducible refine (KA.out _ HI0.out).mono ?_); rintro e w5 ⟨rfl, L1, hS, hI5⟩; have hd5 := Lib.hid (cel3 hI5.cel); have HI5 := Lib.hid hI5; have HS := Lib.hid hS; clear hI5 hS)
              | (go_at_call 10; (with_reducible refine (KB.out _ _ HI5.out).mono ?_); rintro e w6 ⟨rfl, hI6⟩; have hd6 := Lib.hid (cel3 hI6.cel); have HI6 := Lib.hid hI6; clear hI6))
          clear hd0
          have HG1 : Hid (Alarm.Good L1) := Lib.hid HS.out.1
          have HP1 : Hid (M1.Perm L1) := Lib.hid (KP.out _ HS.out)
          obtain ⟨na, nb, hN⟩ := nextForm L1
          have KN : Hid (∀ V, In wr.heap.size xa xb w g r L1 M1 V → Calls Try.prog 16 #[.pointer (some ⟨g, 0, none⟩)] V fun e w' => e = .returned (.tuple #[.int .i64 na, .bool nb]) ∧ V = w') := Lib.hid fun V h => by
            have := h.nextL HG1.out
            rwa [hN] at this
          have KM : Hid (∀ V, In wr.heap.size xa xb w g r L1 M1 V → Calls Try.prog 17 #[.pointer (some ⟨r, 0, none⟩)] V fun e w' => e = .returned (.tuple #[.int .i64 na, .bool nb]) ∧ In wr.heap.size xa xb w g r L1 M1 w') := Lib.hid fun V h => by
            have := h.nextR HP1.out HG1.out
            rwa [hN] at this
          obtain ⟨n, hn⟩ : ∃ n, L1.length = n := ⟨_, rfl⟩
          have KL : Hid (∀ V, In wr.heap.size xa xb w g r L1 M1 V → Calls Try.prog 18 #[.pointer (some ⟨g, 0, none⟩)] V fun e w' => e = .returned (.int .i64 (n : Nat)) ∧ V = w') := Lib.hid fun V h => by
            have := h.lenL
            rwa [hn] at this
          have KH : Hid (∀ V, In wr.heap.size xa xb w g r L1 M1 V → ∃ A c, V.cell? ⟨r, 0, none⟩ = some (.slice A n c)) := Lib.hid fun V h => by
            have := h.hdr
            rwa [HP1.out.length_eq, hn] at this
          clear hN hn
          have q1 : (na != na) = false := by simp
          have q2 : (nb != nb) = false := by simp
          have q3 : ((n : Int) != (n : Int)) = false := by simp
          go_wp2_with (first
            | (go_at_call 16; (with_reducible refine (KN.out _ HI6.out).mono ?_); rintro e w7 ⟨rfl, rfl⟩)
            | (go_at_call 17; (with_reducible refine (KM.out _ HI6.out).mono ?_); rintro e w8 ⟨rfl, hI8⟩; have HI8 := Lib.hid hI8; obtain ⟨A8, c8, hh⟩ := KH.out _ hI8; clear hI8))
          have HI9 := Lib.hid (HI8.out.next (Ok.refl _).drew)
          have hh2 : w8.drew.cell? ⟨r, 0, none⟩ = some (.slice A8 n c8) := hh
          go_region_held3 (fun w' => w'.cell? ⟨r, 0, none⟩ = some (.slice A8 n c8))
            (first | exact hh2 | assumption)
            (first | (go_at_call 18; (with_reducible refine (KL.out _ HI9.out).mono ?_); rintro e w9 ⟨rfl, rfl⟩))
          have HN : Hid (DoesAt g r w (k + 1) w8.drew) := Lib.hid (does_in HI9.out HG1.out HP1.out)
          go_wp2_with fail
          go_roundw
          case rel => exact ⟨k + 1, by omega, by go_num, HN⟩
          case measure => simp [intOf]; omega
        · by_cases h1 : xk = 1
          · subst h1
            go_wp2_with fail
            generalize wr.alloc (.cells #[.int .i64 1, .int .i64 xa, .int .i64 xb] 31) = W at hI0 ⊢
            have HI0 := Lib.hid (hI0.next (Ok.refl _).drew)
            have hd0 := cel3 (hI0.next (Ok.refl _).drew).cel
            clear hI0

            have KA : Hid (∀ V, In wr.heap.size xa xb w g r L M V → Calls Try.prog 11 #[.pointer (some ⟨g, 0, none⟩), .int .i64 xa] V fun e w' => e = .returned (.int .i64 (Alarm.dropE xa L)) ∧ In wr.heap.size xa xb w g r (Alarm.drop xa L) M w') := Lib.hid fun V h => h.dropL xa HG.out.1
            have KB : Hid (∀ V L1, In wr.heap.size xa xb w g r L1 M V → Calls Try.prog 12 #[.pointer (some ⟨r, 0, none⟩), .int .i64 xa] V fun e w' => e = .returned (.int .i64 (Alarm.dropE xa L)) ∧ In wr.heap.size xa xb w g r L1 (Alarm.drop xa M) w') := Lib.hid fun V L1 h => by
              have := h.dropR xa (does_len HG.out)
              rwa [dropE_perm HG.out.2] at this
            have HG1 : Hid (Alarm.Good (Alarm.drop xa L)) := Lib.hid (HG.out.1.drop xa)
            have HP1 : Hid ((Alarm.drop xa M).Perm (Alarm.drop xa L)) := Lib.hid (Alarm.drop_perm HG.out.2)
            generalize Alarm.dropE xa L = E at KA KB
            generalize Alarm.drop xa L = L1 at KA HG1 HP1
            generalize Alarm.drop xa M = M1 at KB HP1
            go_region_held3 (fun w' => w'.cell? ⟨wr.heap.size, 1, none⟩ = some (.int .i64 xa) ∧ w'.cell? ⟨wr.heap.size, 2, none⟩ = some (.int .i64 xb) ∧ wr.heap.size < w'.heap.size)
              (first | exact hd0 | exact hd6.out | exact hd5.out)
              (first
                | (go_at_call 11; (with_reducible refine (KA.out _ HI0.out).mono ?_); rintro e w5 ⟨rfl, hI5⟩; have hd5 := Lib.hid (cel3 hI5.cel); have HI5 := Lib.hid hI5; clear hI5)
                | (go_at_call 12; (with_reducible refine (KB.out _ _ HI5.out).mono ?_); rintro e w6 ⟨rfl, hI6⟩; have hd6 := Lib.hid (cel3 hI6.cel); have HI6 := Lib.hid hI6; clear hI6))
            clear hd0
            obtain ⟨na, nb, hN⟩ := nextForm L1
            have KN : Hid (∀ V, In wr.heap.size xa xb w g r L1 M1 V → Calls Try.prog 16 #[.pointer (some ⟨g, 0, none⟩)] V fun e w' => e = .returned (.tuple #[.int .i64 na, .bool nb]) ∧ V = w') := Lib.hid fun V h => by
              have := h.nextL HG1.out
              rwa [hN] at this
            have KM : Hid (∀ V, In wr.heap.size xa xb w g r L1 M1 V → Calls Try.prog 17 #[.pointer (some ⟨r, 0, none⟩)] V fun e w' => e = .returned (.tuple #[.int .i64 na, .bool nb]) ∧ In wr.heap.size xa xb w g r L1 M1 w') := Lib.hid fun V h => by
              have := h.nextR HP1.out HG1.out
              rwa [hN] at this
            obtain ⟨n, hn⟩ : ∃ n, L1.length = n := ⟨_, rfl⟩
            have KL : Hid (∀ V, In wr.heap.size xa xb w g r L1 M1 V → Calls Try.prog 18 #[.pointer (some ⟨g, 0, none⟩)] V fun e w' => e = .returned (.int .i64 (n : Nat)) ∧ V = w') := Lib.hid fun V h => by
              have := h.lenL
              rwa [hn] at this
            have KH : Hid (∀ V, In wr.heap.size xa xb w g r L1 M1 V → ∃ A c, V.cell? ⟨r, 0, none⟩ = some (.slice A n c)) := Lib.hid fun V h => by
              have := h.hdr
              rwa [HP1.out.length_eq, hn] at this
            clear hN hn
            have q1 : (na != na) = false := by simp
            have q2 : (nb != nb) = false := by simp
            have q3 : ((n : Int) != (n : Int)) = false := by simp
            go_wp2_with (first
              | (go_at_call 16; (with_reducible refine (KN.out _ HI6.out).mono ?_); rintro e w7 ⟨rfl, rfl⟩)
              | (go_at_call 17; (with_reducible refine (KM.out _ HI6.out).mono ?_); rintro e w8 ⟨rfl, hI8⟩; have HI8 := Lib.hid hI8; obtain ⟨A8, c8, hh⟩ := KH.out _ hI8; clear hI8))
            have HI9 := Lib.hid (HI8.out.next (Ok.refl _).drew)
            have hh2 : w8.drew.cell? ⟨r, 0, none⟩ = some (.slice A8 n c8) := hh
            go_region_held3 (fun w' => w'.cell? ⟨r, 0, none⟩ = some (.slice A8 n c8))
              (first | exact hh2 | assumption)
              (first | (go_at_call 18; (with_reducible refine (KL.out _ HI9.out).mono ?_); rintro e w9 ⟨rfl, rfl⟩))
            have HN : Hid (DoesAt g r w (k + 1) w8.drew) := Lib.hid (does_in HI9.out HG1.out HP1.out)
            go_wp2_with fail
            go_roundw
            case rel => exact ⟨k + 1, by omega, by go_num, HN⟩
            case measure => simp [intOf]; omega
          · by_cases h2 : xk = 2
            · subst h2
              go_wp2_with fail
              generalize wr.alloc (.cells #[.int .i64 2, .int .i64 xa, .int .i64 xb] 31) = W at hI0 ⊢
              have HI0 := Lib.hid (hI0.next (Ok.refl _).drew)
              have hd0 := cel3 (hI0.next (Ok.refl _).drew).cel
              clear hI0

              obtain ⟨Q, hQ⟩ : ∃ Q, Alarm.cut xa L = Q := ⟨_, rfl⟩
              have hQl : Q ≤ L.length := by rw [← hQ]; exact Alarm.cut_le _ _
              have HG1 : Hid (Alarm.Good (L.drop Q)) := Lib.hid (HG.out.1.skip Q)
              have KA : Hid (∀ V, In wr.heap.size xa xb w g r L M V → Calls Try.prog 14 #[.pointer (some ⟨g, 0, none⟩), .int .i64 xa] V fun e w' => ∃ A c, e = .returned (.slice A Q c) ∧ DueMid wr.heap.size xa xb w g r (L.drop Q) M (ids Q L) A w') := Lib.hid fun V h => by
                have := h.dueL xa HG.out.1
                rwa [hQ] at this
              have KB : Hid (∀ V A, DueMid wr.heap.size xa xb w g r (L.drop Q) M (ids Q L) A V → Calls Try.prog 15 #[.pointer (some ⟨r, 0, none⟩), .int .i64 xa] V fun e w' => ∃ B c, e = .returned (.slice B Q c) ∧ DueFin wr.heap.size xa xb w g r (L.drop Q) (L.drop Q) (ids Q L) A B w') := Lib.hid fun V A h => by
                have := dueMid_right h xa HG.out.2 HG.out.1 (by rw [hQ])
                rwa [hQ] at this
              have KC : Hid (∀ V A B c c', DueFin wr.heap.size xa xb w g r (L.drop Q) (L.drop Q) (ids Q L) A B V → Calls Try.prog 13 #[.slice A Q c, .slice B Q c'] V fun e w' => e = .returned (.bool true) ∧ ∃ M1, M1.Perm (L.drop Q) ∧ In wr.heap.size xa xb w g r (L.drop Q) M1 w') := Lib.hid fun V A B c c' h => by
                obtain ⟨h1, h2, M1, h3, h4⟩ := h
                refine (sameTrue A B (ids Q L) Q c c' V (ids_length hQl) h1 h2 (by have := HG.out.1.few; omega)).mono fun e w' ⟨k1, k2⟩ => ⟨k1, M1, h3, h4.next k2⟩
              generalize ids Q L = l at KA KB KC
              generalize L.drop Q = L1 at KA KB KC HG1
              clear hQ hQl
              go_region_held3 (fun w' => w'.cell? ⟨wr.heap.size, 1, none⟩ = some (.int .i64 xa) ∧ w'.cell? ⟨wr.heap.size, 2, none⟩ = some (.int .i64 xb) ∧ wr.heap.size < w'.heap.size)
                (first | exact hd0 | exact hd7.out | exact hd6.out | exact hd5.out)
                (first
                  | (go_at_call 14; (with_reducible refine (KA.out _ HI0.out).mono ?_); rintro e w5 ⟨A5, c5, rfl, hI5⟩; have hd5 := Lib.hid (cel3 hI5.2.2.cel); have HI5 := Lib.hid hI5; clear hI5)
                  | (go_at_call 15; (with_reducible refine (KB.out _ _ HI5.out).mono ?_); rintro e w6 ⟨B6, c6, rfl, hI6⟩; have hd6 := Lib.hid (dueFin_cel hI6); have HI6 := Lib.hid hI6; clear hI6)
                  | (go_at_call 13; (with_reducible refine (KC.out _ _ _ _ _ HI6.out).mono ?_); rintro e w7 ⟨rfl, M1, hP7, hI7⟩; have hd7 := Lib.hid (cel3 hI7.cel); have HI7 := Lib.hid hI7; have HP1 := Lib.hid hP7; clear hI7 hP7))
              clear hd0
              obtain ⟨na, nb, hN⟩ := nextForm L1
              have KN : Hid (∀ V, In wr.heap.size xa xb w g r L1 M1 V → Calls Try.prog 16 #[.pointer (some ⟨g, 0, none⟩)] V fun e w' => e = .returned (.tuple #[.int .i64 na, .bool nb]) ∧ V = w') := Lib.hid fun V h => by
                have := h.nextL HG1.out
                rwa [hN] at this
              have KM : Hid (∀ V, In wr.heap.size xa xb w g r L1 M1 V → Calls Try.prog 17 #[.pointer (some ⟨r, 0, none⟩)] V fun e w' => e = .returned (.tuple #[.int .i64 na, .bool nb]) ∧ In wr.heap.size xa xb w g r L1 M1 w') := Lib.hid fun V h => by
                have := h.nextR HP1.out HG1.out
                rwa [hN] at this
              obtain ⟨n, hn⟩ : ∃ n, L1.length = n := ⟨_, rfl⟩
              have KL : Hid (∀ V, In wr.heap.size xa xb w g r L1 M1 V → Calls Try.prog 18 #[.pointer (some ⟨g, 0, none⟩)] V fun e w' => e = .returned (.int .i64 (n : Nat)) ∧ V = w') := Lib.hid fun V h => by
                have := h.lenL
                rwa [hn] at this
              have KH : Hid (∀ V, In wr.heap.size xa xb w g r L1 M1 V → ∃ A c, V.cell? ⟨r, 0, none⟩ = some (.slice A n c)) := Lib.hid fun V h => by
                have := h.hdr
                rwa [HP1.out.length_eq, hn] at this
              clear hN hn
              have q1 : (na != na) = false := by simp
              have q2 : (nb != nb) = false := by simp
              have q3 : ((n : Int) != (n : Int)) = false := by simp
              go_wp2_with (first
                | (go_at_call 16; (with_reducible refine (KN.out _ HI7.out).mono ?_); rintro e w10 ⟨rfl, rfl⟩)
                | (go_at_call 17; (with_reducible refine (KM.out _ HI7.out).mono ?_); rintro e w8 ⟨rfl, hI8⟩; have HI8 := Lib.hid hI8; obtain ⟨A8, c8, hh⟩ := KH.out _ hI8; clear hI8))
              have HI9 := Lib.hid (HI8.out.next (Ok.refl _).drew)
              have hh2 : w8.drew.cell? ⟨r, 0, none⟩ = some (.slice A8 n c8) := hh
              go_region_held3 (fun w' => w'.cell? ⟨r, 0, none⟩ = some (.slice A8 n c8))
                (first | exact hh2 | assumption)
                (first | (go_at_call 18; (with_reducible refine (KL.out _ HI9.out).mono ?_); rintro e w9 ⟨rfl, rfl⟩))
              have HN : Hid (DoesAt g r w (k + 1) w8.drew) := Lib.hid (does_in HI9.out HG1.out HP1.out)
              go_wp2_with fail
              go_roundw
              case rel => exact ⟨k + 1, by omega, by go_num, HN⟩
              case measure => simp [intOf]; omega
            · have g0 : (xk == 0) = false := by rw [beq_eq_false_iff_ne]; exact h0
              have g1 : (xk == 1) = false := by rw [beq_eq_false_iff_ne]; exact h1
              have g2 : (xk == 2) = false := by rw [beq_eq_false_iff_ne]; exact h2
              have HG1 : Hid (Alarm.Good L) := Lib.hid HG.out.1
              have HP1 : Hid (M.Perm L) := Lib.hid HG.out.2
              have HI6 := Lib.hid hI0
              clear h0 h1 h2 hI0
              obtain ⟨na, nb, hN⟩ := nextForm L
              have KN : Hid (∀ V, In wr.heap.size xa xb w g r L M V → Calls Try.prog 16 #[.pointer (some ⟨g, 0, none⟩)] V fun e w' => e = .returned (.tuple #[.int .i64 na, .bool nb]) ∧ V = w') := Lib.hid fun V h => by
                have := h.nextL HG1.out
                rwa [hN] at this
              have KM : Hid (∀ V, In wr.heap.size xa xb w g r L M V → Calls Try.prog 17 #[.pointer (some ⟨r, 0, none⟩)] V fun e w' => e = .returned (.tuple #[.int .i64 na, .bool nb]) ∧ In wr.heap.size xa xb w g r L M w') := Lib.hid fun V h => by
                have := h.nextR HP1.out HG1.out
                rwa [hN] at this
              obtain ⟨n, hn⟩ : ∃ n, L.length = n := ⟨_, rfl⟩
              have KL : Hid (∀ V, In wr.heap.size xa xb w g r L M V → Calls Try.prog 18 #[.pointer (some ⟨g, 0, none⟩)] V fun e w' => e = .returned (.int .i64 (n : Nat)) ∧ V = w') := Lib.hid fun V h => by
                have := h.lenL
                rwa [hn] at this
              have KH : Hid (∀ V, In wr.heap.size xa xb w g r L M V → ∃ A c, V.cell? ⟨r, 0, none⟩ = some (.slice A n c)) := Lib.hid fun V h => by
                have := h.hdr
                rwa [HP1.out.length_eq, hn] at this
              clear hN hn
              have q1 : (na != na) = false := by simp
              have q2 : (nb != nb) = false := by simp
              have q3 : ((n : Int) != (n : Int)) = false := by simp
              go_wp2_with (first
                | (go_at_call 16; (with_reducible refine (KN.out _ HI6.out).mono ?_); rintro e w7 ⟨rfl, rfl⟩)
                | (go_at_call 17; (with_reducible refine (KM.out _ HI6.out).mono ?_); rintro e w8 ⟨rfl, hI8⟩; have HI8 := Lib.hid hI8; obtain ⟨A8, c8, hh⟩ := KH.out _ hI8; clear hI8))
              have HI9 := Lib.hid (HI8.out.next (Ok.refl _).drew)
              have hh2 : w8.drew.cell? ⟨r, 0, none⟩ = some (.slice A8 n c8) := hh
              go_region_held3 (fun w' => w'.cell? ⟨r, 0, none⟩ = some (.slice A8 n c8))
                (first | exact hh2 | assumption)
                (first | (go_at_call 18; (with_reducible refine (KL.out _ HI9.out).mono ?_); rintro e w9 ⟨rfl, rfl⟩))
              have HN : Hid (DoesAt g r w (k + 1) w8.drew) := Lib.hid (does_in HI9.out HG1.out HP1.out)
              go_wp2_with fail
              go_roundw
              case rel => exact ⟨k + 1, by omega, by go_num, HN⟩
              case measure => simp [intOf]; omega
      · have HOK := Lib.hid hP.a.ok
        clear hP hG hPm
        go_wp2_with (first
          | (go_at_call 16; (with_reducible refine (tabNextNil _).mono ?_); rintro e w5 ⟨rfl, rfl⟩)
          | (go_at_call 9; (with_reducible refine (tabSetNil 1 1 _).mono ?_); rintro e w6 ⟨rfl, rfl⟩)
          | (go_at_call 11; (with_reducible refine (tabDropNil 1 _).mono ?_); rintro e w7 ⟨rfl, hok7⟩)
          | (go_at_call 14; (with_reducible refine (tabDueNil 1 _).mono ?_); rintro e w8 ⟨rfl, rfl⟩)
          | (go_at_call 18; (with_reducible refine (tabLenNil _).mono ?_); rintro e w9 ⟨rfl, rfl⟩))
        go_ret
        exact ⟨rfl, HOK.out.trans hok7⟩
theorem own : ownKnob Try.prog.godebug = none := by kernel_rfl
theorem laidOut : laidOutB Try.prog = true := by kernel_rfl
set_option maxRecDepth 100000 in
theorem lifted (os : Os) (started : os.Started) (H : Type) (enc : TypeId × Value → H) :
    ReturnsInHanded {} Try.checked os 3 .any (Rows.alarmDoesSpec.pre6 enc Try.prog Try.f3 Rows.alarmDoesRow.domain false) (Rows.alarmDoesSpec.post enc Try.prog Try.f3 false true false false) := by
  refine returnsInHanded_of_change (C := Try.checked) own started (by kernel_rfl) Try.func3
    (ChangeSpec.witness6 (enc := enc) (C := Try.checked) false ⟨#[], #[.slice none 0 0], []⟩ 8 (by kernel_rfl) (by kernel_rfl) (by kernel_rfl) (by kernel_rfl)) ?_
  intro W base args ds gs before hval0 hW _ _
  have hval : ∀ (j : Nat) t v, Try.f3.params[j]? = some t → args[j]? = some v → Value.okWide Try.prog W .any base t v := hval0
  have hW' := hW
  obtain ⟨p, q, hA, hV, rfl, _, _⟩ := hW
  obtain ⟨rfl, rfl⟩ := trodVars_none hV
  replace hA : DataW.TrodAll enc Try.prog W 0 (fun _ => true) true Try.f3.params.toList args.toList ds p := hA
  rw [Try.params3] at hA hval
  obtain ⟨v0, vs0, d0, ds0, p0, q0, hargs, rfl, rfl, h0, r0⟩ := trodAll_cons hA
  obtain ⟨rfl, rfl, rfl⟩ := trodAll_nil r0
  obtain rfl : args = #[v0] := by cases args; simp_all
  obtain ⟨A0, l0, c0, rfl, hA0, hl0, hw0⟩ := open_slice_rows cal3cells cal3ok cal3kinds cal3len cal3of (by decide) Try.underlying22 Try.underlying31 (by kernel_rfl) (by kernel_rfl) (by kernel_rfl) (hval 0 22 v0 rfl rfl) h0
  refine (walk W A0 l0 c0 hA0 hl0 hw0).mono fun e W' ⟨he, hb⟩ => ?_
  subst he
  exact ⟨_, rfl, law_post hW' laidOut (by rw [Try.params3]; exact params_ok (by kernel_rfl)) rfl (by kernel_rfl) Try.underlying4 rfl rfl rfl hb⟩
theorem over : Rows.alarmDoesRow.holds Try.pinned (OpenSpec.ofChange Rows.alarmDoesSpec) :=
  OpenClaim.holds_of_wide 3 Try.f3 rfl rfl rfl rfl rfl rfl rfl ⟨rfl, rfl, rfl, rfl, rfl⟩ rfl rfl rfl rfl rfl (by kernel_rfl) Try.func3 (by kernel_rfl)
    (of_decide_eq_true (by kernel_rfl)) (by unfold Func.isWrapper; first | (rw [if_pos (by decide +kernel)]; kernel_rfl) | (rw [if_neg (by decide +kernel)]; exact ⟨rfl, rfl⟩))
    (fun os started H enc _ => lifted os started H enc)
theorem proved : Rows.AlarmDoesSaid := over
end Go.Proofs.Ytfankcoomfmjlaa.alarmDoes
