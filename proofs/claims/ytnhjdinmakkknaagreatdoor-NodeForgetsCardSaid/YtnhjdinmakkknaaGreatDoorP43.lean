/- Several texts of mine in one: M48, C19f. -/
import Derived.Test.YtnhjdinmakkknaaGreatDoorP28
import Derived.Test.YtnhjdinmakkknaaGreatDoorP42
namespace Go.Proofs.YtnhjdinmakkknaaGreatDoor
namespace Nod
theorem state_parts (p : Par) (s : Sta) (ticks : Int) (l : List Hd) : (state p s ticks l).lo = (Health.sane p (next p s ticks l)).lo ∧ (state p s ticks l).hi = (Health.sane p (next p s ticks l)).hi ∧ (state p s ticks l).held = (Health.sane p (next p s ticks l)).held ∧ (state p s ticks l).hops = (Health.sane p (next p s ticks l)).hops ∧ (state p s ticks l).good = (Health.sane p (next p s ticks l)).good := by
  obtain ⟨k1, k2, -, -, k5, k6, k7, -, -⟩ := listens_keeps p (Health.step p s ticks (next p s ticks l)) l
  exact ⟨k1, k2, k5, k6, k7⟩
/-- Either somebody leads, whatever was held, or nobody does. -/
theorem next_cases {p : Par} (hp : Lim.May p) (ticks : Int) (l : List Hd) :
    (∃ lo hi held hops : Int, lo ≤ hi ∧ 0 ≤ hops ∧ hops ≤ p.d ∧ ∀ s : Sta, (next p s ticks l).lo = lo ∧ (next p s ticks l).hi = hi ∧ (next p s ticks l).held = held ∧ (next p s ticks l).hops = hops ∧ (next p s ticks l).good = true) ∨ ∀ s : Sta, next p s ticks l = lost p s ticks := by
  have hd := hp.2.2.1.1
  by_cases hl : Gate.left p.f (spans p l) = true
  · left
    refine ⟨(Gate.fused p.f (spans p l)).1, (Gate.fused p.f (spans p l)).2, Anchor.held p.f (helds p l), 0, ?_, Int.le_refl _, hd.1, fun s => ?_⟩
    · unfold Gate.fused
      rw [if_pos hl]
      unfold Gate.left at hl
      simp only [Bool.and_eq_true, Bool.not_eq_true', decide_eq_false_iff_not] at hl
      exact Sat.clip_mono (Int.not_lt.1 hl.2)
    · unfold next
      rw [if_pos hl]
      exact ⟨rfl, rfl, rfl, rfl, rfl⟩
  · cases hc : choice p l with
    | none =>
      right
      intro s
      unfold next
      rw [if_neg hl, hc]
    | some j =>
      left
      have hm := of_decide_eq_true (Route.pick_may hc)
      refine ⟨((msgs p l).getD j noM).lo, ((msgs p l).getD j noM).hi, Anchor.more ((msgs p l).getD j noM).held, ((msgs p l).getD j noM).hops + 1, hm.2.2.2.2, by omega, by omega, fun s => ?_⟩
      unfold next
      rw [if_neg hl, hc]
      exact ⟨rfl, rfl, rfl, rfl, rfl⟩
theorem sane_led (p : Par) {u : Sta} (h : u.lo ≤ u.hi) : (Health.sane p u).lo = Sat.clip u.lo ∧ (Health.sane p u).hi = Sat.clip u.hi ∧ (Health.sane p u).good = u.good := by
  have := Sat.clip_mono h
  unfold Health.sane
  simp only
  rw [if_neg (by omega), if_neg (by omega), if_neg (by omega)]
  exact ⟨rfl, rfl, rfl⟩
/-- Two nodes that hear the same. -/
theorem forgets {p : Par} (hp : Lim.May p) (a b : Sta) (ticks : Int) (l : List Hd) (A B : Sta) (hA : state p a ticks l = A) (hB : state p b ticks l = B) :
    A.hops = B.hops ∧ (A.hops ≤ p.d → A.lo = B.lo ∧ A.hi = B.hi ∧ A.held = B.held ∧ A.good = true ∧ B.good = true) := by
  have hd := hp.2.2.1.1
  obtain ⟨a1, a2, a3, a4, a5⟩ := state_parts p a ticks l
  obtain ⟨b1, b2, b3, b4, b5⟩ := state_parts p b ticks l
  rw [hA] at a1 a2 a3 a4 a5
  rw [hB] at b1 b2 b3 b4 b5
  rcases next_cases hp ticks l with ⟨lo, hi, held, hops, h1, h2, h3, h⟩ | h
  · obtain ⟨c1, c2, c3, c4, c5⟩ := h a
    obtain ⟨d1, d2, d3, d4, d5⟩ := h b
    have ka := sane_led p (u := next p a ticks l) (by rw [c1, c2]; exact h1)
    have kb := sane_led p (u := next p b ticks l) (by rw [d1, d2]; exact h1)
    rw [sane_hops_in hp (by omega), c4] at a4
    rw [sane_hops_in hp (by omega), d4] at b4
    refine ⟨by omega, fun _ => ⟨?_, ?_, ?_, ?_, ?_⟩⟩
    · rw [a1, b1, ka.1, kb.1, c1, d1]
    · rw [a2, b2, ka.2.1, kb.2.1, c2, d2]
    · rw [a3, b3]
      show Sat.bound (next p a ticks l).held 0 1073741824 = Sat.bound (next p b ticks l).held 0 1073741824
      rw [c3, d3]
    · rw [a5, ka.2.2, c5]
    · rw [b5, kb.2.2, d5]
  · rw [h a, sane_hops_in hp (by show 0 ≤ p.d + 1 ∧ p.d + 1 ≤ p.d + 1; omega)] at a4
    rw [h b, sane_hops_in hp (by show 0 ≤ p.d + 1 ∧ p.d + 1 ≤ p.d + 1; omega)] at b4
    change A.hops = p.d + 1 at a4
    change B.hops = p.d + 1 at b4
    exact ⟨by omega, fun k => by omega⟩
/-! A node that hears neighbours alone. -/
def nb (p : Par) (now : Int) (ts : List Tl) (hs : List Int) (good : Bool) (i : Nat) : Hd := tell p now 2 (21 + (i : Int)) (hs.getD i 0) good (ts.getD i noTl)
def nbs (p : Par) (now : Int) (ts : List Tl) (hs : List Int) (good : Bool) (m : Nat) : List Hd := (List.range m).map (nb p now ts hs good)
theorem nbs_len (p : Par) (now : Int) (ts : List Tl) (hs : List Int) (good : Bool) (m : Nat) : (nbs p now ts hs good m).length = m := by simp [nbs]
/-- The least steps among the first k that lead. -/
def Least (D : Int) (hs : List Int) (k : Nat) (v : Int) : Prop := (v = D + 1 ∧ ∀ i, i < k → ¬ (0 ≤ hs.getD i 0 ∧ hs.getD i 0 < D)) ∨ (∃ i, i < k ∧ (0 ≤ hs.getD i 0 ∧ hs.getD i 0 < D) ∧ v = hs.getD i 0) ∧ ∀ i, i < k → 0 ≤ hs.getD i 0 ∧ hs.getD i 0 < D → v ≤ hs.getD i 0
theorem Least.nil (D : Int) (hs : List Int) : Least D hs 0 (D + 1) := .inl ⟨rfl, fun i h => absurd h (Nat.not_lt_zero i)⟩
theorem Least.take {D : Int} {hs : List Int} {k : Nat} {v : Int} (h : Least D hs k v) (h1 : 0 ≤ hs.getD k 0 ∧ hs.getD k 0 < D) (h2 : hs.getD k 0 < v) : Least D hs (k + 1) (hs.getD k 0) := by
  refine .inr ⟨⟨k, by omega, h1, rfl⟩, fun i hi hv => ?_⟩
  rcases Nat.lt_succ_iff_lt_or_eq.1 hi with g | g
  · rcases h with ⟨-, h⟩ | ⟨-, h⟩
    · exact absurd hv (h i g)
    · have := h i g hv; omega
  · subst g; exact Int.le_refl _
theorem gates_nbs (p : Par) (now : Int) (ts : List Tl) (hs : List Int) (good : Bool) (m : Nat) : gates p (nbs p now ts hs good m) = [] := by
  unfold gates Gate.told
  rw [List.filter_eq_nil_iff]
  intro x hx
  obtain ⟨k, hk, h⟩ := List.mem_filterMap.1 hx
  unfold Gate.one at h
  split at h
  · cases h
  · have h1 := List.find?_some h
    have h2 := List.mem_of_find?_eq_some h
    obtain ⟨i, hi, rfl⟩ := List.mem_map.1 h2
    have := (of_decide_eq_true h1).1
    unfold nb tell at this
    simp only at this
    omega
theorem msgs_nbs {p : Par} {now : Int} {ts : List Tl} (hf : ∀ t ∈ ts, Fine p t) (hs : List Int) (good : Bool) : msgs p (nbs p now ts hs good ts.length) = (nbs p now ts hs good ts.length).map (moved p) := by
  unfold msgs
  rw [List.filter_eq_self.2]
  intro x hx
  obtain ⟨i, hi, rfl⟩ := List.mem_map.1 hx
  have hi := List.mem_range.1 hi
  have hm : ts.getD i noTl ∈ ts := by
    rw [List.getD_eq_getElem?_getD, List.getElem?_eq_getElem hi]
    exact List.getElem_mem _
  obtain ⟨q1, q2, -⟩ := hf _ hm
  unfold nb tell
  simp only
  exact decide_eq_true (by omega)
theorem sane_has (p : Par) {u : Sta} {x : Int} (h1 : u.lo ≤ x) (h2 : x ≤ u.hi) (h3 : -2305843009213693952 ≤ x ∧ x ≤ 2305843009213693952) : (Health.sane p u).lo ≤ x ∧ x ≤ (Health.sane p u).hi := by
  obtain ⟨e1, e2, -⟩ := sane_led p (u := u) (by omega)
  rw [e1, e2]
  have a := Sat.clip_mono h1
  have b := Sat.clip_mono h2
  rw [Sat.clip_in h3.1 h3.2] at a b
  exact ⟨a, b⟩
/-- Behind a beat in which it hears neighbours alone, whose spans had the time. -/
theorem follows {p : Par} (hp : Lim.May p) {now : Int} (hn : -1125899906842624 ≤ now ∧ now ≤ 1125899906842624) {ts : List Tl} (hf : ∀ t ∈ ts, Fine p t) (hs : List Int) {err : Int} (he : -p.rho ≤ err ∧ err ≤ p.rho) {s : Sta} (h1 : s.lo ≤ now) (h2 : now ≤ s.hi) {v : Int} (hv : Least p.d hs ts.length v) (Y : Sta)
    (hY : state p s (p.beat + err) (nbs p now ts hs true ts.length) = Y) :
    (Y.lo ≤ now + p.beat ∧ now + p.beat ≤ Y.hi) ∧ (p.d < v ∧ Y.hops = p.d + 1 ∧ Y.good = false ∨ v ≤ p.d ∧ Y.hops = v + 1 ∧ Y.good = true) := by
  obtain ⟨b1, r1, d1, j1, e1⟩ := Lim.May.bds hp
  have hd := hp.2.2.1.1
  have hf0 := hp.1.2.1
  obtain ⟨a1, a2, -, a4, a5⟩ := state_parts p s (p.beat + err) (nbs p now ts hs true ts.length)
  rw [hY] at a1 a2 a4 a5
  have hsp : Gate.left p.f (spans p (nbs p now ts hs true ts.length)) = false := by
    refine Gate.left_few ?_
    rw [spans_len, gates_nbs]
    simp
    omega
  have hlen : (msgs p (nbs p now ts hs true ts.length)).length = ts.length := by rw [msgs_nbs hf, List.length_map, nbs_len]
  have hat : ∀ i, i < ts.length → (msgs p (nbs p now ts hs true ts.length)).getD i noM = moved p (nb p now ts hs true i) := fun i hi => by
    rw [msgs_nbs hf, List.getD_eq_getElem?_getD, List.getElem?_map]
    unfold nbs
    rw [List.getElem?_map, List.getElem?_range hi]
    rfl
  have hmem : ∀ i, i < ts.length → ts.getD i noTl ∈ ts := fun i hi => by
    rw [List.getD_eq_getElem?_getD, List.getElem?_eq_getElem hi]
    exact List.getElem_mem _
  have hright : ∀ i, i < ts.length → (moved p (nb p now ts hs true i)).lo ≤ now + p.beat ∧ now + p.beat ≤ (moved p (nb p now ts hs true i)).hi := fun i hi => by
    have := of_decide_eq_true (tell_right hp hn (hf _ (hmem i hi)) (Int.le_refl _) 2 (21 + (i : Int)) (hs.getD i 0) true)
    exact this.1
  have hmay : ∀ i, i < ts.length → (Route.may p.d ((msgs p (nbs p now ts hs true ts.length)).getD i noM) = true ↔ 0 ≤ hs.getD i 0 ∧ hs.getD i 0 < p.d) := fun i hi => by
    rw [hat i hi]
    have hr := hright i hi
    unfold Route.may
    rw [decide_eq_true_eq]
    constructor
    · intro k; exact ⟨k.2.2.1, k.2.2.2.1⟩
    · intro k; exact ⟨rfl, rfl, k.1, k.2, by omega⟩
  cases hc : choice p (nbs p now ts hs true ts.length) with
  | none =>
    have hu : next p s (p.beat + err) (nbs p now ts hs true ts.length) = lost p s (p.beat + err) := by unfold next; rw [if_neg (by rw [hsp]; simp), hc]
    rw [hu] at a1 a2 a4 a5
    have hno := Route.pick_none hc
    have hv2 : v = p.d + 1 := by
      rcases hv with ⟨e, -⟩ | ⟨⟨i, hi, hh, -⟩, -⟩
      · exact e
      · have := hno i (by rw [hlen]; exact hi)
        rw [(hmay i hi).2 hh] at this
        cases this
    have hc := Carry.holds hp (s := (s.lo, s.hi)) (now := now) (off := err) (by omega) h1 h2 he
    have hk := sane_has p (u := lost p s (p.beat + err)) (x := now + p.beat) hc.1 hc.2 (by omega)
    rw [← a1, ← a2] at hk
    rw [sane_hops_in hp (by show 0 ≤ p.d + 1 ∧ p.d + 1 ≤ p.d + 1; omega)] at a4
    have hg : (Health.sane p (lost p s (p.beat + err))).good = false := by
      rw [(sane_led p (u := lost p s (p.beat + err)) (by show (Carry.hold p (s.lo, s.hi) (p.beat + err)).1 ≤ (Carry.hold p (s.lo, s.hi) (p.beat + err)).2; omega)).2.2]
      rfl
    exact ⟨hk, .inl ⟨by omega, a4, a5.trans hg⟩⟩
  | some j =>
    have hu : next p s (p.beat + err) (nbs p now ts hs true ts.length) = follow s ((msgs p (nbs p now ts hs true ts.length)).getD j noM) := by unfold next; rw [if_neg (by rw [hsp]; simp), hc]
    have hj : j < ts.length := by have := Route.pick_lt hc; rw [hlen] at this; exact this
    have hjm := (hmay j hj).1 (Route.pick_may hc)
    have hbest := Route.pick_best hc
    have hv2 : v = hs.getD j 0 := by
      rcases hv with ⟨-, h⟩ | ⟨⟨i, hi, hh, e⟩, h⟩
      · exact absurd hjm (h j hj)
      · have k1 := h j hj hjm
        have k2 := hbest i (by rw [hlen]; exact hi) ((hmay i hi).2 hh)
        rw [hat i hi, hat j hj] at k2
        have k3 : ¬ hs.getD i 0 < hs.getD j 0 := fun g => k2 (.inl g)
        omega
    rw [hu, hat j hj] at a1 a2 a4 a5
    have hr := hright j hj
    have hk := sane_has p (u := follow s (moved p (nb p now ts hs true j))) (x := now + p.beat) hr.1 hr.2 (by omega)
    rw [← a1, ← a2] at hk
    have hh : (follow s (moved p (nb p now ts hs true j))).hops = hs.getD j 0 + 1 := rfl
    rw [sane_hops_in hp (by rw [hh]; omega), hh] at a4
    rw [(sane_led p (u := follow s (moved p (nb p now ts hs true j))) (by have := hr.1; have := hr.2; show (moved p (nb p now ts hs true j)).lo ≤ (moved p (nb p now ts hs true j)).hi; omega)).2.2] at a5
    exact ⟨hk, .inr ⟨by omega, by omega, a5⟩⟩
end Nod
end Go.Proofs.YtnhjdinmakkknaaGreatDoor
namespace Go.Proofs.YtnhjdinmakkknaaGreatDoor
open Go.RowKit
set_option maxRecDepth 100000
attribute [local go_sem ↓] Go.wp_at_zero Go.wp_at_succ
/-- The good ones. -/
def goodT (ts : List TA) : List TA := ts.filter fun x => Leap.good x.l
theorem goodT_le (ts : List TA) : (goodT ts).length ≤ ts.length := List.length_filter_le _ _
theorem goodT_yes {ts : List TA} {k : Nat} (hk : k < ts.length) (h : Leap.good ts[k].l = true) : goodT (ts.take (k + 1)) = goodT (ts.take k) ++ [ts[k]] := by
  rw [List.take_succ_eq_append_getElem hk]
  unfold goodT
  rw [List.filter_append]
  congr 1
  simp [h]
theorem goodT_no {ts : List TA} {k : Nat} (hk : k < ts.length) (h : Leap.good ts[k].l = false) : goodT (ts.take (k + 1)) = goodT (ts.take k) := by
  rw [List.take_succ_eq_append_getElem hk]
  unfold goodT
  rw [List.filter_append]
  simp [h]
theorem goodT_mem {ts : List TA} {x : TA} (h : x ∈ goodT ts) : x ∈ ts ∧ Leap.good x.l = true := List.mem_filter.1 h
theorem goodT_lists (ts : List TA) : (goodT ts).map TA.l = Vote.goods (lists ts) := by
  unfold goodT Vote.goods lists
  rw [List.filter_map]; rfl
theorem goodT_keys (ts : List TA) : ((goodT ts).map fun x => Vote.key x.l) = Vote.keys (lists ts) := by
  unfold Vote.keys
  rw [← goodT_lists, List.map_map]; rfl
theorem good_bd {l : List (Int × Int)} (h : Leap.good l = true) : l.length ≤ 32 ∧ ∀ e ∈ l, (-9223372036854775808 ≤ e.1 ∧ e.1 ≤ 9223372036854775807) ∧ -9223372036854775808 ≤ e.2 ∧ e.2 ≤ 9223372036854775807 := by
  obtain ⟨h1, h2⟩ := Leap.tab_bd (Leap.good_tab h)
  exact ⟨h1, fun e he => by have := h2 e he; omega⟩
set_option maxHeartbeats 3200000 in
theorem voteAdopt (p : Par) (A B : Option Addr) (own : List (Int × Int)) (ts : List TA) (ca cb : Nat) (w : World) (hT : Pow w) (hA : PairsAt w A own) (h : TabsAt w B ts) (ho : own.length ≤ 1048576) (ht : ts.length ≤ 100000) (hf : ∀ x ∈ ts, x.l.length ≤ 9223372036854775807) :
    Calls Tryz.prog 125 #[parV p, .slice A own.length ca, .slice B ts.length cb] w fun e w' => ∃ v, e = .returned (.tuple #[v, .bool (Vote.is p.f (lists ts))]) ∧ w'.ownsRow w.heap.size 81 2 v (Vote.out p.f own (lists ts)).length (cellsOfPairs (Vote.out p.f own (lists ts))) ∧ Ok w w' := by
  have hok := Ok.refl w
  have HO := Lib.hid hA
  have H := Lib.hid h
  have HF := Lib.hid hf
  have HT := Lib.hid hT
  have hP := Own.new w (parCells p) 23 rfl
  replace hok := hok.alloc (.cells (parCells p) 23)
  have hlow : w.heap.size ≤ (w.alloc (.cells (parCells p) 23)).heap.size := hok.size
  clear h hf hA hT
  obtain ⟨R, hR⟩ : ∃ R, Vote.is p.f (lists ts) = R := ⟨_, rfl⟩
  obtain ⟨O, hO⟩ : ∃ O, Vote.out p.f own (lists ts) = O := ⟨_, rfl⟩
  rw [hR, hO]
  have HR := Lib.hid hR
  have HOut := Lib.hid hO
  clear hR hO
  go_enter Tryz.func125, Tryz.ntmps125
  go_upto_region 1 with fail
  generalize w.alloc (.cells (parCells p) 23) = W at hP hok hlow ⊢
  obtain ⟨g, hg⟩ : ∃ g, w.heap.size = g := ⟨_, rfl⟩
  rw [hg] at hP ⊢
  have HG0 := Lib.hid hg
  clear hg
  go_wp2
  go_loopw [8, 9, 16] (fun u v i wr => ∃ k : Nat, k ≤ ts.length ∧ i = .int .i64 k ∧ wr.ownsRow W.heap.size 26 1 u (goodT (ts.take k)).length ((goodT (ts.take k)).map taV) ∧ wr.ownsRow W.heap.size 9 1 v (goodT (ts.take k)).length ((goodT (ts.take k)).map keyV) ∧ Ok W wr) (fun _ _ i _ => ts.length - (intOf i).toNat)
  case atStart => exact ⟨0, Nat.zero_le _, rfl, World.ownsRow_nil _ _ _ _, World.ownsRow_nil _ _ _ _, Ok.refl W⟩
  case round =>
    obtain ⟨k, hk, rfl, hu, hv, hokW⟩ := hrel
    by_cases hlt : k < ts.length
    · obtain ⟨b, off, hA, hb, hc⟩ := (H.out.below (hok.trans hokW)).cells k hlt
      subst hA
      have hx := List.getElem_mem hlt
      have HY := Lib.hid (goodT_yes hlt)
      have HN := Lib.hid (goodT_no hlt)
      have KP := Lib.hid fun W' (q : Ok w W') => (H.out.below q).tabs _ hx
      have KL := Lib.hid (HF.out _ hx)
      have hG := goodT_le (ts.take k)
      rw [List.length_take] at hG
      simp only [taV] at hc
      generalize goodT (ts.take k) = G at hu hv HY HN hG
      generalize ts[k] = x at hc HY HN KP KL
      obtain ⟨l, A2, c2⟩ := x
      simp only at HY HN KP KL hc
      have KG := Lib.hid fun W' (q : Ok w W') => leapGood A2 l c2 W' (KP.out W' q) KL.out
      cases hg : Leap.good l with
      | false =>
        have E1 := Lib.hid (HN.out hg)
        rw [hg] at KG
        clear HY HN hg
        go_wp2_with (go_at_call 107; refine (KG.out _ (hok.trans hokW)).mono ?_; rintro e w2 ⟨rfl, hb1⟩; replace hokW := hokW.trans hb1; replace hu := row_next19 hu hb1; replace hv := row_next19 hv hb1; clear hb1)
        go_roundw
        case rel => exact ⟨k + 1, by omega, by go_num, by rw [E1.out]; exact hu, by rw [E1.out]; exact hv, hokW⟩
        case measure => simp [intOf]; omega
      | true =>
        have E1 := Lib.hid (HY.out hg)
        obtain ⟨hl32, hbd⟩ := good_bd hg
        have KK := Lib.hid fun W' (q : Ok w W') => voteKey A2 l c2 W' (HT.out.next q) (KP.out W' q) (by omega) hbd
        rw [hg] at KG
        clear HY HN hg hl32 hbd
        have hGb : G.length ≤ 1048576 := by omega
        go_wp2_with (first
          | (go_at_call 107; refine (KG.out _ (hok.trans hokW)).mono ?_; rintro e w2 ⟨rfl, hb1⟩; replace hokW := hokW.trans hb1; replace hu := row_next19 hu hb1; replace hv := row_next19 hv hb1; clear hb1)
          | (go_at_call 158; refine (KK.out _ (hok.trans hok3)).mono ?_; rintro e w4 ⟨rfl, hb1⟩; replace hok3 := hok3.trans hb1; replace hu3 := row_next19 hu3 hb1; replace hv3 := row_next19 hv3 hb1; clear hb1)
          | (at_builtin; refine wpList_append_value rfl (.tmp 22) (.tmp 24) 141 rfl W.heap.size 26 Tryz.underlying141 _ 24 (by decide) rfl infoTab _ _ _ rfl (hu.alloc _) w2.heap.size (.slice A2 l.length c2) rfl rfl (by simp) hGb (hokW.alloc _).size ?_; intro v3 w3 hu3 hg3; have hv3 := row_other19 (hv.alloc _) (hu.alloc _) (by decide) hg3; have hok3 := ok_grow19 (hokW.alloc _) hg3 (row_from hu); clear hu hv hokW hg3)
          | (at_builtin; refine wpList_append_value rfl (.tmp 26) (.tmp 29) 194 rfl W.heap.size 9 Tryz.underlying194 _ 16 (by decide) rfl infoText _ _ _ rfl (hv3.alloc _) w4.heap.size (.string (strB (Vote.key l))) rfl rfl (by simp) hGb (hok3.alloc _).size ?_; intro v5 w5 hv5 hg5; have hu5 := row_other19 (hu3.alloc _) (hv3.alloc _) (by decide) hg5; have hok5 := ok_grow19 (hok3.alloc _) hg5 (row_from hv3); clear hu3 hv3 hok3 hg5))
        go_roundw
        case rel => exact ⟨k + 1, by omega, by go_num, by rw [E1.out]; simpa using hu5, by rw [E1.out]; simpa using hv5, hok5⟩
        case measure => simp [intOf]; omega
    · rw [List.take_of_length_le (show ts.length ≤ k by omega)] at hu hv
      have hG := goodT_le ts
      obtain ⟨A3, c3, rfl, hTab⟩ := tabs_of_row hu fun x hx => (H.out.below (hok.trans hokW)).tabs x (goodT_mem hx).1
      obtain ⟨A4, c4, rfl, hTxt⟩ := texts_of_row hv
      rw [goodT_keys] at hTxt
      have hkl : (goodT ts).length = (Vote.keys (lists ts)).length := by rw [← goodT_keys, List.length_map]
      have KA := Lib.hid fun W' q => voteAgreed p.f A4 (Vote.keys (lists ts)) c4 W' q (by rw [← hkl]; omega) (fun x hx => by
        rw [← goodT_keys] at hx
        obtain ⟨y, hy, rfl⟩ := List.mem_map.1 hx
        obtain ⟨h1, h2⟩ := good_bd (goodT_mem hy).2
        have := key_length h2
        omega)
      rw [← hkl] at KA
      clear hu hv
      have hP2 := hP.next hokW
      obtain ⟨c0, c1, c2, c3', c4', c5, c6, c7, c8, c9, c10, c11⟩ := hP2.pars
      have hPl := hP2.lt
      clear c0 c2 c3' c4' c5 c6 c7 c8 c9 c10 c11 hP2 hP
      have hokA := hok.trans hokW
      rcases Vote.agreed p.f own (lists ts) with ⟨t1, t2, t3, t4⟩ | ⟨i, hi, t1, t2, t3, j, hj, t4, t5⟩
      · obtain rfl : false = R := t1.symm.trans HR.out
        obtain rfl : own = O := t2.symm.trans HOut.out
        rw [← hkl] at t4
        rw [t4] at KA
        simp only [show Vote.topVal (Vote.keys (lists ts)) (-1) = [] from rfl, show decide ((0 : Int) ≤ -1) = false from rfl] at KA
        clear t1 t2 t3 t4 HR HOut hkl
        have KC := Lib.hid fun W' (q : Ok w W') => cloneRow A own ca W' (HO.out.below q) (by omega)
        go_wp2_with (first
          | (go_at_call 159; refine (KA.out _ hTxt).mono ?_; rintro e w2 ⟨rfl, hb1⟩; replace hokA := hokA.trans hb1; clear hb1)
          | (go_at_call 84; refine (KC.out _ hokA).mono ?_; rintro e w3 ⟨v, rfl, hrow, hb1⟩; have hlo := hokA.size; replace hokA := hokA.trans hb1; clear hb1))
        go_ret2
        exact ⟨_, rfl, row_low19 hrow (by have := HG0.out; omega), hokA⟩
      · obtain rfl : true = R := t1.symm.trans HR.out
        have hOi : O = (lists ts)[i] := HOut.out.symm.trans t2
        rw [← hOi] at t5
        rw [← hkl] at t4
        rw [t4] at KA
        obtain ⟨j2, hj2, e2, KI⟩ := indexText (ks := Vote.keys (lists ts)) (x := Vote.key O) ⟨j, hj, t5⟩ (by rw [← hkl]; omega)
        rw [Vote.topVal_at hj, t5] at KA
        simp only [show decide ((0 : Int) ≤ (j : Int)) = true from decide_eq_true (by omega)] at KA
        rw [← hkl] at KI
        have KI := Lib.hid KI
        have hj3 : j2 < (goodT ts).length := by rw [hkl]; exact hj2
        have hxl : (goodT ts)[j2].l = O := by
          have h2 : j2 < (Vote.goods (lists ts)).length := by rw [← Vote.keys_length]; exact hj2
          rw [← Vote.key_at hj2 h2 e2]
          simp only [← goodT_lists, List.getElem_map]
        have HC := Lib.hid fun W' (q : Ok wr W') => (hTab.below q).cells j2 hj3
        have HPx := Lib.hid fun W' (q : Ok wr W') => (hTab.below q).tabs _ (List.getElem_mem hj3)
        have hOl : O.length ≤ 32 := by rw [← hxl]; exact (good_bd (goodT_mem (List.getElem_mem hj3)).2).1
        simp only [taV] at HC
        generalize (goodT ts)[j2] = x at HC HPx hxl
        obtain ⟨l, A5, c5⟩ := x
        simp only at HC HPx hxl
        subst hxl
        have KC := Lib.hid fun W' (q : Ok wr W') => cloneRow A5 l c5 W' (HPx.out _ q) (by omega)
        obtain ⟨b3, off3, e3, -, -⟩ := HC.out _ (Ok.refl wr)
        subst e3
        have HC2 := Lib.hid fun W' (q : Ok wr W') => (by obtain ⟨b, off, e, h1, h2⟩ := HC.out _ q; cases e; exact ⟨h1, h2⟩ : b3 < W'.heap.size ∧ W'.cell? ⟨b3, off3 + j2, none⟩ = some (.slice A5 l.length c5))
        clear t1 t2 t3 t4 t5 HR HOut HC hTab HPx hOi e2 hj2 hj hi hkl
        have hokR := Ok.refl wr
        go_wp2_with (first
          | (go_at_call 159; refine (KA.out _ hTxt).mono ?_; rintro e w2 ⟨rfl, hb1⟩; replace hokR := hokR.trans hb1; replace hTxt := hTxt.below hb1; clear hb1)
          | (go_at_call 160; refine (KI.out _ _ _ hTxt).mono ?_; rintro e w3 ⟨rfl, rfl⟩; obtain ⟨hb3, hc3⟩ := HC2.out _ hokR)
          | (go_at_call 84; refine (KC.out _ hokR).mono ?_; rintro e w3 ⟨v, rfl, hrow, hb1⟩; have hlo := hokR.size; replace hokR := hokR.trans hb1; clear hb1))
        go_ret2
        exact ⟨_, rfl, row_low19 hrow (by have := HG0.out; have := hokA.size; omega), hokA.trans hokR⟩
theorem voteAdopts2 (p : Par) (A B : Option Addr) (own : List (Int × Int)) (ts : List TA) (ca cb : Nat) (w : World) (hT : Pow w) (hA : PairsAt w A own) (h : TabsAt w B ts) (ho : own.length ≤ 1048576) (ht : ts.length ≤ 100000) (hf : ∀ x ∈ ts, x.l.length ≤ 9223372036854775807) :
    Calls Tryz.prog 125 #[parV p, .slice A own.length ca, .slice B ts.length cb] w fun e w' => ∃ A' c', e = .returned (.tuple #[.slice A' (Vote.out p.f own (lists ts)).length c', .bool (Vote.is p.f (lists ts))]) ∧ w'.ownsRow w.heap.size 81 2 (.slice A' (Vote.out p.f own (lists ts)).length c') (Vote.out p.f own (lists ts)).length (cellsOfPairs (Vote.out p.f own (lists ts))) ∧ PairsAt w' A' (Vote.out p.f own (lists ts)) ∧ Ok w w' :=
  (voteAdopt p A B own ts ca cb w hT hA h ho ht hf).mono (by
    rintro e w' ⟨v, rfl, hr, hok⟩
    obtain ⟨A', c', rfl, hP⟩ := PairsAt.of_own hr
    exact ⟨A', c', rfl, hr, hP, hok⟩)
end Go.Proofs.YtnhjdinmakkknaaGreatDoor
