/- PulseVotes: for every fabric's numbers, every f and two slices of integers the law answers true: Vote is the document's, and the vote is from the number of one time to that of another, if all told are numbers of times between, but f at most. No condition. -/
import Derived.Test.YthodgpgcpichkaaC13d
import Derived.Test.YthodgpgcpichkaaW06
import Derived.Test.YthodgpgcpichkaaW14
import Derived.Test.YthodgpgcpichkaaW18
import Derived.Test.YthodgpgcpichkaaC13e
import Derived.Test.YthodgpgcpichkaaC07c
import Derived.Test.YthodgpgcpichkaaM27
import Derived.Test.YthodgpgcpichkaaW33
namespace Go.Proofs.Ythodgpgcpichkaa.pulseVotes
open Go.ChangeShapes Go.WideShapes Go.ChangeAt Go.RowKit
set_option linter.unusedVariables false
set_option maxRecDepth 100000
attribute [local go_sem ↓] Go.wp_at_zero Go.wp_at_succ
/-- The numbers of the first k times, in a row of one's own. -/
def RowM (B : Nat) (q : Int) (l : List Int) (k : Nat) (v : Value) (w : World) : Prop := w.ownsRow B 3 1 v ((l.take k).map (Pulse.num q)).length (((l.take k).map (Pulse.num q)).map (Value.int .i64))
theorem RowM.next {B k : Nat} {q : Int} {l : List Int} {v : Value} {w w1 : World} (h : RowM B q l k v w) (j : Ok w w1) : RowM B q l k v w1 :=
  World.ownsRow.kept (w' := w1) (row := none) h ⟨j.below.os, j.below.tape, j.below.output, j.size, fun i hi _ => j.below.block i hi⟩ (by cases v.ownBlock <;> simp)
theorem ints_of_row {W : World} {B n : Nat} {v : Value} {l : List Int} (hn : l.length = n) (h : W.ownsRow B 3 1 v n (l.map (Value.int .i64))) : ∃ A cap, v = .slice A n cap ∧ IntsAt W A l := by
  subst hn
  exact IntsAt.of_own h
/-- All of the first k are from x to y. -/
def Amid (l : List Int) (k : Nat) (x y : Int) : Prop := ∀ j (h : j < l.length), j < k → x ≤ l[j] ∧ l[j] ≤ y
theorem Amid.more {l : List Int} {k : Nat} {x y x' y' t : Int} (h : Amid l k x y) (hk : k < l.length) (ht : l[k] = t) (h1 : x' ≤ x ∧ y ≤ y') (h2 : x' ≤ t ∧ t ≤ y') : Amid l (k + 1) x' y' := fun j hj hjk => by
  by_cases e : j = k
  · subst e; rw [ht]; exact h2
  · have := h j hj (by omega); omega
theorem no0 (w : World) (p : Par) (f : Int) (A : Option Addr) (l : List Int) (c : Nat) (B : Option Addr) (r : List Int) (c2 : Nat) (s1 : l.length ≤ 17592186044416) (s2 : r.length ≤ 17592186044416) (h0 : 256 < l.length + r.length) : Calls Try.prog 4 #[parV p, .int .i64 f, .slice A l.length c, .slice B r.length c2] w fun e w' => e = .returned (.bool true) ∧ Ok w w' := by
  generalize l.length = N1 at *
  generalize r.length = N2 at *
  have HP := Lib.hid (Own.new w (parCells p) 23 rfl)
  have HK := Lib.hid ((Ok.refl w).alloc (.cells (parCells p) 23))
  go_enter Try.func4, Try.ntmps4
  go_wp2_with (go_at_call 7; (with_reducible refine (law13Alive _).mono ?_); rintro e w1 ⟨rfl, hb1⟩; have hP := HP.out.next hb1; have hok := HK.out.trans hb1; clear hb1 HP HK; obtain ⟨c0, c1, cc2, c3, c4, c5, c6, c7, c8, c9, c10, c11⟩ := hP.pars; have hPl := hP.lt)
  all_goals first
    | (exfalso; omega)
    | (go_ret; exact ⟨rfl, hok⟩)
theorem no1 (w : World) (p : Par) (f : Int) (A : Option Addr) (l : List Int) (c : Nat) (B : Option Addr) (r : List Int) (c2 : Nat) (s1 : l.length ≤ 17592186044416) (s2 : r.length ≤ 17592186044416) (h0 : l.length + r.length ≤ 256) (h1 : f < (r.length : Int)) : Calls Try.prog 4 #[parV p, .int .i64 f, .slice A l.length c, .slice B r.length c2] w fun e w' => e = .returned (.bool true) ∧ Ok w w' := by
  generalize l.length = N1 at *
  generalize r.length = N2 at *
  have HP := Lib.hid (Own.new w (parCells p) 23 rfl)
  have HK := Lib.hid ((Ok.refl w).alloc (.cells (parCells p) 23))
  go_enter Try.func4, Try.ntmps4
  go_wp2_with (go_at_call 7; (with_reducible refine (law13Alive _).mono ?_); rintro e w1 ⟨rfl, hb1⟩; have hP := HP.out.next hb1; have hok := HK.out.trans hb1; clear hb1 HP HK; obtain ⟨c0, c1, cc2, c3, c4, c5, c6, c7, c8, c9, c10, c11⟩ := hP.pars; have hPl := hP.lt)
  all_goals first
    | (exfalso; omega)
    | (go_ret; exact ⟨rfl, hok⟩)
theorem no2 (w : World) (p : Par) (f : Int) (A : Option Addr) (l : List Int) (c : Nat) (B : Option Addr) (r : List Int) (c2 : Nat) (s1 : l.length ≤ 17592186044416) (s2 : r.length ≤ 17592186044416) (h0 : l.length + r.length ≤ 256) (h1 : (r.length : Int) ≤ f) (h2 : 256 < f) : Calls Try.prog 4 #[parV p, .int .i64 f, .slice A l.length c, .slice B r.length c2] w fun e w' => e = .returned (.bool true) ∧ Ok w w' := by
  generalize l.length = N1 at *
  generalize r.length = N2 at *
  have HP := Lib.hid (Own.new w (parCells p) 23 rfl)
  have HK := Lib.hid ((Ok.refl w).alloc (.cells (parCells p) 23))
  go_enter Try.func4, Try.ntmps4
  go_wp2_with (go_at_call 7; (with_reducible refine (law13Alive _).mono ?_); rintro e w1 ⟨rfl, hb1⟩; have hP := HP.out.next hb1; have hok := HK.out.trans hb1; clear hb1 HP HK; obtain ⟨c0, c1, cc2, c3, c4, c5, c6, c7, c8, c9, c10, c11⟩ := hP.pars; have hPl := hP.lt)
  all_goals first
    | (exfalso; omega)
    | (go_ret; exact ⟨rfl, hok⟩)
theorem no3 (w : World) (p : Par) (f : Int) (A : Option Addr) (l : List Int) (c : Nat) (B : Option Addr) (r : List Int) (c2 : Nat) (s1 : l.length ≤ 17592186044416) (s2 : r.length ≤ 17592186044416) (h0 : l.length + r.length ≤ 256) (h1 : (r.length : Int) ≤ f) (h2 : f ≤ 256) (h3 : l.length = 0) : Calls Try.prog 4 #[parV p, .int .i64 f, .slice A l.length c, .slice B r.length c2] w fun e w' => e = .returned (.bool true) ∧ Ok w w' := by
  generalize l.length = N1 at *
  generalize r.length = N2 at *
  have d3 : ((0 : Int) == 0) = true := by decide
  subst h3
  have HP := Lib.hid (Own.new w (parCells p) 23 rfl)
  have HK := Lib.hid ((Ok.refl w).alloc (.cells (parCells p) 23))
  go_enter Try.func4, Try.ntmps4
  go_wp2_with (go_at_call 7; (with_reducible refine (law13Alive _).mono ?_); rintro e w1 ⟨rfl, hb1⟩; have hP := HP.out.next hb1; have hok := HK.out.trans hb1; clear hb1 HP HK; obtain ⟨c0, c1, cc2, c3, c4, c5, c6, c7, c8, c9, c10, c11⟩ := hP.pars; have hPl := hP.lt)
  all_goals first
    | (exfalso; omega)
    | (go_ret; exact ⟨rfl, hok⟩)
set_option maxHeartbeats 6400000 in
theorem yes (w : World) (p : Par) (f : Int) (A : Option Addr) (l : List Int) (c : Nat) (B : Option Addr) (r : List Int) (c2 : Nat) (hA : IntsAt w A l) (hB : IntsAt w B r) (h0 : l.length + r.length ≤ 256) (h1 : (r.length : Int) ≤ f) (h2 : f ≤ 256) (h3 : 1 ≤ l.length) : Calls Try.prog 4 #[parV p, .int .i64 f, .slice A l.length c, .slice B r.length c2] w fun e w' => e = .returned (.bool true) ∧ Ok w w' := by
  obtain ⟨L, hL⟩ : ∃ L, l.map (Pulse.num p.pulse) ++ r = L := ⟨_, rfl⟩
  have hLn : L.length = l.length + r.length := by rw [← hL]; simp
  have hvoted := fun lo hi ht hm => Pulse.voted (q := p.pulse) (f := f) (lo := lo) (hi := hi) (ts := l) (ls := r) ht h1 hm
  rw [hL] at hvoted
  have KV := Lib.hid fun w A' c' hI => pulseVote f A' L c' w hI (by omega) (by omega)
  have KM := Lib.hid fun w A' c' hI => ref7Middle f A' L c' w hI (by omega)
  generalize Trim.mid f L Sat.clip = m at KV KM hvoted
  rw [hLn] at KV KM hvoted
  generalize Trim.many f (l.length + r.length) = q at KV KM hvoted
  have HV := Lib.hid hvoted
  have HA := Lib.hid hA
  have HB := Lib.hid hB
  have HL := Lib.hid hL
  have HLn := Lib.hid hLn
  obtain ⟨b0, o0, hA0, -, -⟩ := hA 0 (by omega)
  obtain ⟨N1, hN1⟩ : ∃ N, l.length = N := ⟨_, rfl⟩
  obtain ⟨N2, hN2⟩ : ∃ N, r.length = N := ⟨_, rfl⟩
  obtain ⟨N, hN⟩ : ∃ N, N1 + N2 = N := ⟨_, rfl⟩
  rw [hN1, hN2]
  rw [hN1, hN2, hN] at KV KM HLn
  rw [hN1] at h0 h3
  rw [hN2] at h0 h1
  have H1 := Lib.hid hN1
  have H2 := Lib.hid hN2
  have HN := Lib.hid hN
  subst hA0
  have hNb : N ≤ 256 := by omega
  have e0 : ((N1 : Int) == 0) = false := by rw [beq_eq_false_iff_ne]; omega
  clear hvoted hA hB hL hLn hN1 hN2 hN
  have HP := Lib.hid (Own.new w (parCells p) 23 rfl)
  have HK := Lib.hid ((Ok.refl w).alloc (.cells (parCells p) 23))
  go_enter Try.func4, Try.ntmps4
  go_upto_region 6 with (go_at_call 7; (with_reducible refine (law13Alive _).mono ?_); rintro e w1 ⟨rfl, hb1⟩; have hP := HP.out.next hb1; have hok := HK.out.trans hb1; clear hb1 HP HK; obtain ⟨c0, c1, cc2, c3, c4, c5, c6, c7, c8, c9, c10, c11⟩ := hP.pars; have hPl := hP.lt)
  obtain ⟨b, off, hAe, hb, hc0⟩ := (HA.out.below hok) 0 (by rw [H1.out]; omega)
  cases hAe
  rw [Nat.add_zero] at hc0
  clear hb c0 c1 cc2 c3 c4 c5 c6 c7 c8 c9 c10 c11 hPl
  obtain ⟨x0, hx0⟩ : ∃ x, l[0]'(by rw [H1.out]; omega) = x := ⟨_, rfl⟩
  rw [hx0] at hc0
  clear hx0
  go_quiet (fail)
  have hP1 := hP.drewN nq
  have hok1 := hok.drewN nq
  generalize w1.drewN nq = W at hP1 hok1 ⊢
  clear hP hok hc0
  go_wp2_with fail
  go_loopw [9, 10, 11, 49] (fun v lo hi i wr => ∃ (k : Nat) (x y : Int), k ≤ N1 ∧ i = .int .i64 k ∧ lo = .int .i64 x ∧ hi = .int .i64 y ∧ Hid (Amid l k x y) ∧ RowM (w.heap.size + 1) p.pulse l k v wr ∧ Own wr w.heap.size (parCells p) ∧ Ok w wr) (fun _ _ _ i _ => N1 - (intOf i).toNat)
  case atStart => exact ⟨0, x0, x0, Nat.zero_le _, rfl, rfl, rfl, Lib.hid fun j _ h => absurd h (Nat.not_lt_zero j), World.ownsRow_nil _ _ _ _, hP1, hok1⟩
  case round =>
    obtain ⟨k, x, y, hk, rfl, rfl, rfl, hX, hR, hP, hok⟩ := hrel
    clear hP1 hok1
    have HR := Lib.hid hR
    have HK := Lib.hid hok
    have HP := Lib.hid hP
    by_cases hlt : k < N1
    · obtain ⟨b, off, hAe, hbl, hck⟩ := (HA.out.below hok) k (by rw [H1.out]; exact hlt)
      cases hAe
      obtain ⟨t, ht⟩ : ∃ t, l[k]'(by rw [H1.out]; exact hlt) = t := ⟨_, rfl⟩
      rw [ht] at hck
      have HT := Lib.hid ht
      have KT := Lib.hid fun w => pulseNumber p t w
      obtain ⟨nt, hnt⟩ : ∃ z, Pulse.num p.pulse t = z := ⟨_, rfl⟩
      rw [hnt] at KT
      have HNT := Lib.hid hnt
      obtain ⟨c0, c1, cc2, c3, c4, c5, c6, c7, c8, c9, c10, c11⟩ := hP.pars
      have hPl := hP.lt
      clear ht hR hP hok hnt
      by_cases d1 : t < x <;> by_cases d2 : y < t
      all_goals
        go_wp2_with (first
          | (go_at_call 11; (with_reducible refine (KT.out _).mono ?_); rintro e w2 ⟨rfl, hb1⟩; have HB1 := Lib.hid hb1; clear hb1 c0 c1 cc2 c3 c4 c5 c6 c7 c8 c9 c10 c11 hPl hck hbl)
          | (at_builtin; refine wpList_append_ints rfl (.tmp 53) (.tmp 57) 26 rfl (w.heap.size + 1) 3 Try.underlying26 info13 _ ((l.take k).map (Pulse.num p.pulse)) _ rfl rfl (World.ownsRow.alloc (HR.out.next HB1.out) _) _ [nt] 1 _ rfl rfl (ints_new _ _ _ _ rfl rfl) (by have h := H1.out; simp; omega) (by have := (HP.out.next HB1.out).lt; simp; omega) ?_; intro v' w' hr2 hg2; have HR2 := Lib.hid (And.intro hr2 hg2); clear hr2 hg2))
        go_roundw
        case rel =>
          refine ⟨k + 1, _, _, by omega, by go_num, rfl, rfl, Lib.hid (hX.out.more (by rw [H1.out]; exact hlt) HT.out ⟨by omega, by omega⟩ ⟨by omega, by omega⟩), ?_, ?_, ?_⟩
          · unfold RowM
            rw [show (l.take (k + 1)).map (Pulse.num p.pulse) = (l.take k).map (Pulse.num p.pulse) ++ [nt] by rw [take_more (by rw [H1.out]; exact hlt), List.map_append, HT.out, ← HNT.out]; rfl]
            exact HR2.out.1
          · obtain ⟨T, hT⟩ := (HP.out.next HB1.out).alloc (.cells #[.int .i64 nt] 3)
            exact ⟨T, (HR2.out.2.block _ (Own.lt ⟨T, hT⟩) (fun e => by have := (World.ownsRow.lt HR.out w.heap.size e.symm).1; omega)).trans hT⟩
          · exact Below.grown ((HK.out.trans HB1.out).alloc _) HR2.out.2 ((HK.out.trans HB1.out).alloc _).size fun j hj => by have := (World.ownsRow.lt HR.out j hj).1; omega
        case measure => simp [intOf]; omega
    · obtain rfl : k = N1 := by omega
      have ek : l.take k = l := List.take_of_length_le (by rw [H1.out]; omega)
      have hv := HV.out x y (fun t ht => by obtain ⟨j, hj, rfl⟩ := List.mem_iff_getElem.1 ht; exact hX.out j hj (by rw [← H1.out]; exact hj))
      unfold RowM at hR
      rw [ek] at hR
      have HR3 := Lib.hid hR
      have KX := Lib.hid fun w => pulseNumber p x w
      have KY := Lib.hid fun w => pulseNumber p y w
      generalize Pulse.num p.pulse x = nx at hv KX
      generalize Pulse.num p.pulse y = ny at hv KY
      clear ek hR hP hok HR hX HV
      have hq : q = false ∨ q = true ∧ nx ≤ m ∧ m ≤ ny := by
        cases q
        · exact .inl rfl
        · exact .inr ⟨rfl, hv rfl⟩
      clear hv
      rcases hq with rfl | ⟨rfl, g1, g2⟩
      all_goals
        go_wp2_with (first
          | (at_builtin; refine wpList_append_ints rfl (.tmp 66) (.tmp 67) 26 rfl (w.heap.size + 1) 3 Try.underlying26 info13 _ (l.map (Pulse.num p.pulse)) _ rfl rfl HR3.out B r N2 c2 H2.out.symm rfl (HB.out.below HK.out) (by have h := H1.out; have h' := H2.out; simp; omega) (by have := HP.out.lt; omega) ?_; intro v5 w5 hr5 hg5; have HO5 := Lib.hid (show Ok w w5 from Below.grown HK.out hg5 HK.out.size fun j hj => by have := (World.ownsRow.lt HR3.out j hj).1; omega); have HP5 := Lib.hid (show Own w5 w.heap.size (parCells p) from by obtain ⟨T, hT⟩ := HP.out; exact ⟨T, (hg5.block _ (Own.lt ⟨T, hT⟩) (fun e => by have := (World.ownsRow.lt HR3.out w.heap.size e.symm).1; omega)).trans hT⟩); rw [HL.out, HLn.out] at hr5; obtain ⟨A5, k5, rfl, hI5⟩ := ints_of_row HLn.out hr5; have HI5 := Lib.hid hI5; clear hr5 hg5 hI5)
          | (go_at_call 12; refine (KV.out _ A5 k5 HI5.out).mono ?_; rintro e w6 ⟨rfl, hb6⟩; have HB6 := Lib.hid hb6; clear hb6)
          | (go_at_call 13; refine (KM.out _ A5 k5 (HI5.out.below HB6.out)).mono ?_; rintro e w7 ⟨rfl, hb7⟩; have hP := (HP5.out.next HB6.out).next hb7; have hok := (HO5.out.trans HB6.out).trans hb7; obtain ⟨c0, c1, cc2, c3, c4, c5, c6, c7, c8, c9, c10, c11⟩ := hP.pars; have hPl := hP.lt; clear hb7)
          | (go_at_call 11; first | ((with_reducible refine (KX.out _).mono ?_); rintro e w8 ⟨rfl, hb1⟩; clear c0 c1 cc2 c3 c4 c5 c6 c7 c8 c9 c10 c11 hPl; replace hP := hP.next hb1; replace hok := hok.trans hb1; clear hb1; obtain ⟨c0, c1, cc2, c3, c4, c5, c6, c7, c8, c9, c10, c11⟩ := hP.pars; have hPl := hP.lt) | ((with_reducible refine (KY.out _).mono ?_); rintro e w9 ⟨rfl, hb1⟩; clear c0 c1 cc2 c3 c4 c5 c6 c7 c8 c9 c10 c11 hPl; replace hok := hok.trans hb1; clear hb1)))
        go_ret
        exact ⟨rfl, hok⟩
theorem walk (w : World) (p : Par) (wp : ParWf p) (f : Int) (wf : (Lit.int .i64 f).wf = true) (A : Option Addr) (l : List Int) (c : Nat) (hA : IntsAt w A l) (s1 : l.length ≤ 17592186044416) (hw : ∀ x ∈ l, (Lit.int .i64 x).wf = true) (B : Option Addr) (r : List Int) (c2 : Nat) (hB : IntsAt w B r) (s2 : r.length ≤ 17592186044416) (hw2 : ∀ x ∈ r, (Lit.int .i64 x).wf = true) :
    Calls Try.prog 4 #[parV p, .int .i64 f, .slice A l.length c, .slice B r.length c2] w fun e w' => e = .returned (.bool true) ∧ Below w.heap.size w w' := by
  show Calls Try.prog 4 #[parV p, .int .i64 f, .slice A l.length c, .slice B r.length c2] w fun e w' => e = .returned (.bool true) ∧ Ok w w' 
  by_cases h0 : 256 < l.length + r.length
  · exact no0 w p f A l c B r c2 s1 s2 h0
  replace h0 : l.length + r.length ≤ 256 := by omega
  by_cases h1 : f < (r.length : Int)
  · exact no1 w p f A l c B r c2 s1 s2 h0 h1
  replace h1 : (r.length : Int) ≤ f := by omega
  by_cases h2 : 256 < f
  · exact no2 w p f A l c B r c2 s1 s2 h0 h1 h2
  replace h2 : f ≤ 256 := by omega
  by_cases h3 : l.length = 0
  · exact no3 w p f A l c B r c2 s1 s2 h0 h1 h2 h3
  replace h3 : 1 ≤ l.length := by omega
  exact yes w p f A l c B r c2 hA hB h0 h1 h2 h3
theorem own : ownKnob Try.prog.godebug = none := by kernel_rfl
theorem laidOut : laidOutB Try.prog = true := by kernel_rfl
set_option maxRecDepth 100000 in
theorem lifted (os : Os) (started : os.Started) (H : Type) (enc : TypeId × Value → H) :
    ReturnsInHanded {} Try.checked os 4 .any (Rows.pulseVotesSpec.pre6 enc Try.prog Try.f4 Rows.pulseVotesRow.domain false) (Rows.pulseVotesSpec.post enc Try.prog Try.f4 false true false false) := by
  refine returnsInHanded_of_change_sized (C := Try.checked) own started (by kernel_rfl) Try.func4
    (ChangeSpec.witness6 (enc := enc) (C := Try.checked) false ⟨#[], #[.agg #[.int .i64 0, .int .i64 0, .int .i64 0, .int .i64 0, .int .i64 0, .int .i64 0, .int .i64 0, .int .i64 0, .int .i64 0, .int .i64 0, .int .i64 0, .int .i64 0], .int .i64 0, .slice none 0 0, .slice none 0 0], []⟩ 8 (by kernel_rfl) (by kernel_rfl) (by kernel_rfl) (by kernel_rfl)) ?_
  intro W base args ds gs before hval0 hW _ hsz0 _
  have hsz : (DataW.weightsEach Try.prog (Try.f4.params.toList ++ Rows.pulseVotesSpec.plain.varTypes Try.prog) (ds ++ gs)).all (· ≤ reachBytes) = true := hsz0
  have hval : ∀ (j : Nat) t v, Try.f4.params[j]? = some t → args[j]? = some v → Value.okWide Try.prog W .any base t v := hval0
  have hW' := hW
  obtain ⟨p, q, hA, hV, rfl, _, _⟩ := hW
  obtain ⟨rfl, rfl⟩ := trodVars_none hV
  replace hA : DataW.TrodAll enc Try.prog W 0 (fun _ => true) true Try.f4.params.toList args.toList ds p := hA
  rw [Try.params4] at hA hval hsz
  obtain ⟨v0, vs0, d0, ds0, p0, q0, hargs, rfl, rfl, h0, r0⟩ := trodAll_cons hA
  obtain ⟨v1, vs1, d1, ds1, p1, q1, rfl, rfl, rfl, h1, r1⟩ := trodAll_cons r0
  obtain ⟨v2, vs2, d2, ds2, p2, q2, rfl, rfl, rfl, h2, r2⟩ := trodAll_cons r1
  obtain ⟨v3, vs3, d3, ds3, p3, q3, rfl, rfl, rfl, h3, r3⟩ := trodAll_cons r2
  obtain ⟨rfl, rfl, rfl⟩ := trodAll_nil r3
  obtain rfl : args = #[v0, v1, v2, v3] := by cases args; simp_all
  obtain ⟨p0, rfl, wp0⟩ := open_par Try.underlying23 rfl (by kernel_rfl) (by kernel_rfl) (by kernel_rfl) (hval 0 23 v0 rfl rfl) h0
  obtain ⟨a1, rfl, rfl, rfl, w1⟩ := open_int Try.underlying3 (hval 1 3 v1 rfl rfl) h1
  obtain ⟨A2, l2, c2, rfl, hA2, hl2, hw2⟩ := open_sliceR Try.underlying26 Try.underlying3 (by kernel_rfl) (by kernel_rfl) (fun elems spare hd => sized_slice hsz (j := 2) (t := 26) (e := 3) rfl (by subst hd; rfl) Try.underlying26) (hval 2 26 v2 rfl rfl) h2
  obtain ⟨A3, l3, c3, rfl, hA3, hl3, hw3⟩ := open_sliceR Try.underlying26 Try.underlying3 (by kernel_rfl) (by kernel_rfl) (fun elems spare hd => sized_slice hsz (j := 3) (t := 26) (e := 3) rfl (by subst hd; rfl) Try.underlying26) (hval 3 26 v3 rfl rfl) h3
  refine (walk W p0 wp0 a1 w1 A2 l2 c2 hA2 hl2 hw2 A3 l3 c3 hA3 hl3 hw3).mono fun e W' ⟨he, hb⟩ => ?_
  subst he
  exact ⟨_, rfl, law_post hW' laidOut (by rw [Try.params4]; exact params_ok (by kernel_rfl)) rfl (by kernel_rfl) Try.underlying4 rfl rfl rfl hb⟩
theorem over : Rows.pulseVotesRow.holds Try.pinned (OpenSpec.ofChange Rows.pulseVotesSpec) :=
  OpenClaim.holds_of_wide 4 Try.f4 rfl rfl rfl rfl rfl rfl rfl ⟨rfl, rfl, rfl, rfl, rfl⟩ rfl rfl rfl rfl rfl (by kernel_rfl) Try.func4 (by kernel_rfl)
    (of_decide_eq_true (by kernel_rfl)) (by unfold Func.isWrapper; first | (rw [if_pos (by decide +kernel)]; kernel_rfl) | (rw [if_neg (by decide +kernel)]; exact ⟨rfl, rfl⟩))
    (fun os started H enc _ => lifted os started H enc)
theorem proved : Rows.PulseVotesSaid := over
end Go.Proofs.Ythodgpgcpichkaa.pulseVotes
