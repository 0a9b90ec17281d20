/- Layer 19: what the laws ask first (too great?); the document's Adopt. -/
import Derived.Test.YtbbkohpaebeidaaDoorM36
import Derived.Test.YtbbkohpaebeidaaDoorW37
import Derived.Test.YtbbkohpaebeidaaDoorC04b
import Derived.Test.YtbbkohpaebeidaaDoorC06e
import Derived.Test.YtbbkohpaebeidaaDoorC18d
namespace Go.Proofs.YtbbkohpaebeidaaDoor
open Go.RowKit
set_option maxRecDepth 100000
attribute [local go_sem ↓] Go.wp_at_zero Go.wp_at_succ
/-- The tables alone. -/
def lists (ts : List TA) : List (List (Int × Int)) := ts.map TA.l
theorem lists_length (ts : List TA) : (lists ts).length = ts.length := List.length_map _
theorem lists_at {ts : List TA} {k : Nat} (hk : k < ts.length) (h : k < (lists ts).length) : (lists ts)[k] = ts[k].l := by simp [lists]
theorem lists_take (ts : List TA) (k : Nat) : lists (ts.take k) = (lists ts).take k := by simp [lists, List.map_take]
/-- More than is played? -/
def Vote.great (own : List (Int × Int)) (ts : List TA) : Bool := decide (256 < own.length) || decide (40 < ts.length) || ts.any fun x => decide (256 < x.l.length)
theorem Vote.great_not {own : List (Int × Int)} {ts : List TA} (h : Vote.great own ts = false) : own.length ≤ 256 ∧ ts.length ≤ 40 ∧ ∀ x ∈ ts, x.l.length ≤ 256 := by
  unfold Vote.great at h
  simp only [Bool.or_eq_false_iff, decide_eq_false_iff_not, List.any_eq_false, decide_eq_true_eq] at h
  exact ⟨by omega, by omega, fun x hx => by have := h.2 x hx; omega⟩
theorem Vote.great_far {own : List (Int × Int)} {ts : List TA} (h : 256 < own.length ∨ 40 < ts.length) : Vote.great own ts = true := by
  unfold Vote.great
  rcases h with h | h
  · rw [decide_eq_true h]; rfl
  · rw [decide_eq_true h]; simp
theorem Vote.great_at {own : List (Int × Int)} {ts : List TA} {k : Nat} (hk : k < ts.length) (h : 256 < ts[k].l.length) : Vote.great own ts = true := by
  unfold Vote.great
  rw [show (ts.any fun x => decide (256 < x.l.length)) = true from List.any_eq_true.2 ⟨ts[k], List.getElem_mem hk, by simpa using h⟩, Bool.or_true]
theorem Vote.great_none {own : List (Int × Int)} {ts : List TA} (h1 : ¬ 256 < own.length) (h2 : ¬ 40 < ts.length) (h : ∀ j (hj : j < ts.length), ts[j].l.length ≤ 256) : Vote.great own ts = false := by
  unfold Vote.great
  rw [decide_eq_false h1, decide_eq_false h2, show (ts.any fun x => decide (256 < x.l.length)) = false from List.any_eq_false.2 fun x hx => by
    obtain ⟨j, hj, rfl⟩ := List.mem_iff_getElem.1 hx
    have := h j hj
    simp; omega]
  rfl
set_option maxHeartbeats 1600000 in
theorem voteGreat (A B : Option Addr) (own : List (Int × Int)) (ts : List TA) (ca cb : Nat) (w : World) (h : TabsAt w B ts) (hl : own.length ≤ 9223372036854775807) (ht : ts.length ≤ 9223372036854775807) (hf : ∀ x ∈ ts, x.l.length ≤ 9223372036854775807) :
    Calls Tryd.prog 9 #[.slice A own.length ca, .slice B ts.length cb] w fun e w' => e = .returned (.bool (Vote.great own ts)) ∧ w = w' := by
  by_cases hfar : 256 < own.length ∨ 40 < ts.length
  · rw [Vote.great_far hfar]
    by_cases h1 : 256 < own.length
    · go_enter Tryd.func9, Tryd.ntmps9
      go_wp2
      go_ret
      exact ⟨rfl, rfl⟩
    · have h2 : 40 < ts.length := by omega
      clear hfar
      go_enter Tryd.func9, Tryd.ntmps9
      go_wp2
      go_ret
      exact ⟨rfl, rfl⟩
  · have h1 : ¬ 256 < own.length := by omega
    have h2 : ¬ 40 < ts.length := by omega
    have HN := Lib.hid (Vote.great_none (own := own) (ts := ts) h1 h2)
    have HY := Lib.hid fun k hk g => Vote.great_at (own := own) (ts := ts) (k := k) hk g
    have HF := Lib.hid hf
    generalize Vote.great own ts = R at HN HY ⊢
    clear hfar hf
    go_enter Tryd.func9, Tryd.ntmps9
    go_wp2
    go_loop [17] (fun i => ∃ k : Nat, k ≤ ts.length ∧ i = .int .i64 k ∧ Hid (∀ j (hj : j < ts.length), j < k → ts[j].l.length ≤ 256)) (fun i => ts.length - (intOf i).toNat)
    case atStart => exact ⟨0, Nat.zero_le _, rfl, Lib.hid fun _ _ g => absurd g (Nat.not_lt_zero _)⟩
    case round =>
      obtain ⟨k, hk, rfl, HK⟩ := hrel
      by_cases hlt : k < ts.length
      · obtain ⟨b, off, hA, hb, hc⟩ := h.cells k hlt
        subst hA
        have HY2 := Lib.hid (HY.out k hlt)
        have HK2 : Hid (ts[k].l.length ≤ 256 → ∀ j (hj : j < ts.length), j < k + 1 → ts[j].l.length ≤ 256) := Lib.hid fun g j hj hjk => by
          by_cases e : j = k
          · subst e; exact g
          · exact HK.out j hj (by omega)
        have hxl := HF.out ts[k] (List.getElem_mem _)
        simp only [taV] at hc
        generalize ts[k] = x at hc HY2 HK2 hxl
        obtain ⟨l, A2, c2⟩ := x
        by_cases hd : 256 < l.length
        · have e := HY2.out hd
          subst e
          clear HN HY HY2
          go_wp2
          go_ret
          exact ⟨rfl, rfl⟩
        · go_wp2
          go_round
          case rel => exact ⟨k + 1, by omega, by go_num, Lib.hid (HK2.out (by show l.length ≤ 256; omega))⟩
          case measure => simp [intOf]; omega
      · have e1 : k = ts.length := by omega
        subst e1
        have e := HN.out fun j hj => HK.out j hj hj
        subst e
        clear HN HY
        go_wp2
        go_ret
        exact ⟨rfl, rfl⟩
theorem Vote.step_yes {F : Int} {ts : List TA} {k : Nat} (hk : k < ts.length) (hg : Leap.good ts[k].l = true) (hd : (Vote.best F (lists ts) k).2 < Vote.tells ts[k].l (lists ts)) : Vote.place F (lists ts) (k + 1) = k ∧ (Vote.best F (lists ts) (k + 1)).2 = Vote.tells ts[k].l (lists ts) := by
  have h : k < (lists ts).length := by rw [lists_length]; exact hk
  rw [Vote.place_step h, Vote.best_step h, lists_at hk h, if_pos ⟨hg, hd⟩, if_pos ⟨hg, hd⟩]
  exact ⟨rfl, rfl⟩
theorem Vote.step_no {F : Int} {ts : List TA} {k : Nat} (hk : k < ts.length) (hn : ¬ (Leap.good ts[k].l = true ∧ (Vote.best F (lists ts) k).2 < Vote.tells ts[k].l (lists ts))) : Vote.place F (lists ts) (k + 1) = Vote.place F (lists ts) k ∧ (Vote.best F (lists ts) (k + 1)).2 = (Vote.best F (lists ts) k).2 := by
  have h : k < (lists ts).length := by rw [lists_length]; exact hk
  rw [Vote.place_step h, Vote.best_step h, lists_at hk h, if_neg hn, if_neg hn]
  exact ⟨rfl, rfl⟩
theorem Vote.tells_take (t : List (Int × Int)) {ts : List TA} {m : Nat} (hm : m < ts.length) : Vote.tells t (lists (ts.take (m + 1))) = Vote.tells t (lists (ts.take m)) + if t = ts[m].l then 1 else 0 := by
  rw [List.take_succ_eq_append_getElem hm]
  unfold lists Vote.tells
  rw [List.map_append, List.countP_append]
  by_cases h : t = ts[m].l
  · simp [h]
  · simp [h, Ne.symm h]
theorem Vote.tells_len (t : List (Int × Int)) (ts : List TA) : Vote.tells t (lists ts) ≤ ts.length := by
  have := Vote.tells_le' t (lists ts)
  rwa [lists_length] at this
set_option maxHeartbeats 1600000 in
theorem ref19Adopt (p : Par) (B : Option Addr) (ts : List TA) (cb : Nat) (w : World) (h : TabsAt w B ts) (ht : ts.length ≤ 1048576) (hf : ∀ x ∈ ts, x.l.length ≤ 9223372036854775807) :
    Calls Tryd.prog 14 #[parV p, .slice B ts.length cb] w fun e w' => e = .returned (.int .i64 (Vote.place p.f (lists ts) ts.length)) ∧ Ok w w' := by
  have hok := Ok.refl w
  have H := Lib.hid h
  have HF := Lib.hid hf
  have hP := Own.new w (parCells p) 29 rfl
  replace hok := hok.alloc (.cells (parCells p) 29)
  clear h hf
  go_enter Tryd.func14, Tryd.ntmps14
  go_upto_region 1 with fail
  generalize w.alloc (.cells (parCells p) 29) = W at hP hok ⊢
  generalize w.heap.size = g at hP ⊢
  obtain ⟨c0, c1, c2, c3, c4, c5, c6, c7, c8, c9, c10, c11⟩ := hP.pars
  have hPl := hP.lt
  go_wp2
  clear c0 c1 c2 c3 c4 c5 c6 c7 c8 c9 c10 c11 hPl hP
  go_loopw [5, 6, 16] (fun b m i wr => ∃ k : Nat, k ≤ ts.length ∧ i = .int .i64 k ∧ b = .int .i64 (Vote.place p.f (lists ts) k) ∧ m = .int .i64 (Vote.best p.f (lists ts) k).2 ∧ Ok w wr) (fun _ _ i _ => ts.length - (intOf i).toNat)
  case atStart => exact ⟨0, Nat.zero_le _, rfl, rfl, rfl, hok⟩
  case round =>
    clear hok
    obtain ⟨k, hk, rfl, rfl, rfl, hok⟩ := hrel
    by_cases hlt : k < ts.length
    · obtain ⟨b, off, hA, hb, hc⟩ := (H.out.below hok).cells k hlt
      subst hA
      have HY := Lib.hid fun a b => Vote.step_yes (F := p.f) hlt a b
      have HN := Lib.hid fun a => Vote.step_no (F := p.f) hlt a
      have hx := List.getElem_mem hlt
      have KP := Lib.hid fun W' (q : Ok w W') => (H.out.below q).tabs _ hx
      have KL := Lib.hid (HF.out _ hx)
      have KT := Lib.hid fun m h => Vote.tells_take ts[k].l (ts := ts) (m := m) h
      have KM := Lib.hid fun m => Vote.tells_len ts[k].l (ts.take m)
      simp only [taV] at hc
      generalize ts[k] = x at hc HY HN KP KL KT KM
      obtain ⟨l, A2, c2⟩ := x
      simp only at HY HN KP KL KT KM hc
      have KG := Lib.hid fun W' (q : Ok w W') => ref18Good A2 l c2 W' (KP.out W' q) KL.out
      cases hg : Leap.good l with
      | false =>
        obtain ⟨e1, e2⟩ := HN.out (by rw [hg]; simp)
        have E1 := Lib.hid e1
        have E2 := Lib.hid e2
        rw [hg] at KG
        clear e1 e2 HY HN KT KM KL
        generalize Vote.place p.f (lists ts) k = pl at E1 ⊢
        generalize (Vote.best p.f (lists ts) k).2 = mo at E2 ⊢
        go_wp2_with (go_at_call 15; refine (KG.out _ hok).mono ?_; rintro e w2 ⟨rfl, hb1⟩; replace hok := hok.trans hb1; clear hb1)
        go_roundw
        case rel => exact ⟨k + 1, by omega, by go_num, by rw [E1.out], by rw [E2.out], hok⟩
        case measure => simp [intOf]; omega
      | true =>
        rw [hg] at KG
        replace HY := Lib.hid fun d => HY.out hg d
        replace HN : Hid ((Vote.tells l (lists ts) : Int) ≤ (Vote.best p.f (lists ts) k).2 → _) := Lib.hid fun d => HN.out fun q => absurd q.2 (Int.not_lt.2 d)
        generalize Vote.place p.f (lists ts) k = pl at HN ⊢
        generalize (Vote.best p.f (lists ts) k).2 = mo at HN HY ⊢
        go_wp2_with (go_at_call 15; refine (KG.out _ hok).mono ?_; rintro e w2 ⟨rfl, hb1⟩; replace hok := hok.trans hb1; clear hb1)
        go_loopw [9, 26] (fun s i wx => ∃ m : Nat, m ≤ ts.length ∧ i = .int .i64 m ∧ s = .int .i64 ((Vote.tells l (lists (ts.take m)) : Nat) : Int) ∧ Ok w wx) (fun _ i _ => ts.length - (intOf i).toNat)
        case atStart => exact ⟨0, Nat.zero_le _, rfl, rfl, hok⟩
        case round =>
          clear hok
          obtain ⟨m, hm, rfl, rfl, hok2⟩ := hrel
          by_cases hlt2 : m < ts.length
          · obtain ⟨b2, off2, hA2, hb2, hd⟩ := (H.out.below hok2).cells m hlt2
            cases hA2
            have hy := List.getElem_mem hlt2
            have KP2 := Lib.hid fun W' (q : Ok w W') => (H.out.below q).tabs _ hy
            have KL2 := Lib.hid (HF.out _ hy)
            have e1 := Lib.hid (KT.out m hlt2)
            have b1 : Vote.tells l (lists (ts.take m)) ≤ 1048576 := by have := KM.out m; rw [List.length_take] at this; omega
            simp only [taV] at hd
            generalize ts[m] = y at hd KP2 KL2 e1
            obtain ⟨l2, A3, c3⟩ := y
            simp only at hd KP2 KL2 e1
            have KE := Lib.hid fun W' (q : Ok w W') => ref6Tables A2 A3 l l2 c2 c3 W' (KP.out W' q) (KP2.out W' q) KL.out KL2.out
            generalize Vote.tells l (lists (ts.take m)) = s at b1 e1 ⊢
            by_cases d1 : l = l2
            · have E2 := Lib.hid (show Vote.tells l (lists (ts.take (m + 1))) = s + 1 by rw [e1.out, if_pos d1])
              rw [decide_eq_true d1] at KE
              clear d1 e1
              go_wp2_with (go_at_call 12; refine (KE.out _ hok2).mono ?_; rintro e w3 ⟨rfl, hb1⟩; replace hok2 := hok2.trans hb1; clear hb1)
              go_roundw
              case rel => exact ⟨m + 1, by omega, by go_num, by rw [E2.out]; go_num, hok2⟩
              case measure => simp [intOf]; omega
            · have E2 := Lib.hid (show Vote.tells l (lists (ts.take (m + 1))) = s by rw [e1.out, if_neg d1]; rfl)
              rw [decide_eq_false d1] at KE
              clear d1 e1
              go_wp2_with (go_at_call 12; refine (KE.out _ hok2).mono ?_; rintro e w3 ⟨rfl, hb1⟩; replace hok2 := hok2.trans hb1; clear hb1)
              go_roundw
              case rel => exact ⟨m + 1, by omega, by go_num, by rw [E2.out], hok2⟩
              case measure => simp [intOf]; omega
          · rw [List.take_of_length_le (show ts.length ≤ m by omega)]
            have b1 : Vote.tells l (lists ts) ≤ 1048576 := by have := Vote.tells_len l ts; omega
            generalize Vote.tells l (lists ts) = s at HY HN b1 ⊢
            clear KT KM
            by_cases hd : mo < (s : Int)
            · obtain ⟨e1, e2⟩ := HY.out hd
              have E1 := Lib.hid e1
              have E2 := Lib.hid e2
              clear e1 e2 HY HN
              go_wp2
              go_roundw
              case rel => exact ⟨k + 1, by omega, by go_num, by rw [E1.out], by rw [E2.out], hok2⟩
              case measure => simp [intOf]; omega
            · obtain ⟨e1, e2⟩ := HN.out (by omega)
              have E1 := Lib.hid e1
              have E2 := Lib.hid e2
              clear e1 e2 HY HN
              go_wp2
              go_roundw
              case rel => exact ⟨k + 1, by omega, by go_num, by rw [E1.out], by rw [E2.out], hok2⟩
              case measure => simp [intOf]; omega
    · have e1 : k = ts.length := by omega
      subst e1
      go_wp2
      go_ret
      exact ⟨rfl, hok⟩
end Go.Proofs.YtbbkohpaebeidaaDoor
