import Derived.Test.YtmokofblmkeloaaGreatDoorC23b
import Derived.Test.YtmokofblmkeloaaGreatDoorC23f
import Derived.Test.YtmokofblmkeloaaGreatDoorC23g
import Derived.Test.YtmokofblmkeloaaGreatDoorC14f
import Derived.Test.YtmokofblmkeloaaGreatDoorC22s
namespace Go.Proofs.YtmokofblmkeloaaGreatDoor
open Go.RowKit
set_option linter.unusedVariables false
set_option maxRecDepth 100000
attribute [local go_sem ↓] Go.wp_at_zero Go.wp_at_succ
theorem row_lt23 {K : Nat} {w : World} {A : Option Addr} {cap : Nat} {l : List (Int × Int)} (h : TabRow K w A cap l) : ∀ a, A = some a → K ≤ a.block ∧ a.block < w.heap.size := fun a ha => by
  rcases h.2 with ⟨e, _⟩ | ⟨g, c2, cur, e, hb, hh, _⟩
  · injection e with e1 _ _; rw [e1] at ha; cases ha
  · injection e with e1 _ _; rw [e1] at ha; cases ha; exact ⟨hb, (Array.getElem?_eq_some_iff.1 hh).1⟩
theorem stepTable23 (p : Par) (s : Sta) (t : Int) (u : Sta) : (Health.step p s t u).table.length ≤ 1000 := by
  rw [Gate.step_table]
  show (if Leap.good u.table = true then u.table else []).length ≤ 1000
  split
  · next h =>
    unfold Leap.good Wire.tab at h
    simp only [Bool.and_eq_true, decide_eq_true_eq] at h
    omega
  · simp
/-- A variable's block is no map. -/
theorem TabM.pow_keep {w w1 : World} {t b : Nat} {f : NF} (h : TabM w t b f) (k : Only b w w1) (hp : Pow w) : Pow w1 := by
  obtain ⟨D, ⟨es, clock, e2, -⟩, -⟩ := h.map
  unfold Pow Lib.TabIs World.var? at *
  cases hg : Tryz.prog.globalNamed "internal/strconv.uint64pow10" with
  | none => simp [hg] at hp
  | some g =>
    simp only [hg, Option.bind_some] at hp ⊢
    have hne : g ≠ b := by
      rintro rfl
      rw [e2] at hp
      simp at hp
    have hlt : g < w.heap.size := by
      rcases Nat.lt_or_ge g w.heap.size with h | h
      · exact h
      · rw [Array.getElem?_eq_none h] at hp
        simp at hp
    rw [k.block g hlt hne]
    exact hp
/-- What changes a block that wasn't there. -/
theorem OnlyN.then_new23 {g b M : Nat} {w w1 w2 : World} (h : OnlyN g b w w1) (k : Only M w1 w2) (hM : w.heap.size ≤ M) : OnlyN g b w w2 :=
  ⟨k.os.trans h.os, k.tape.trans h.tape, k.output.trans h.output, Nat.le_trans h.size k.size, fun i a c d => (k.block i (Nat.lt_of_lt_of_le a h.size) (by omega)).trans (h.block i a c d)⟩
theorem Nod.next_table {N : Nat} (p : Par) {s : Sta} (m : Int) {l : List Hd} (hs : s.table.length ≤ N) (hl : ∀ x ∈ l, x.m.table.length ≤ N) : (Nod.next p s m l).table.length ≤ N := by
  have hg : ∀ T ∈ Nod.tables p l, T.length ≤ N := fun T hT => by
    obtain ⟨x, hx, rfl⟩ := List.mem_map.1 hT
    have hx := (List.mem_filter.1 hx).1
    obtain ⟨k, hk, h1⟩ := List.mem_filterMap.1 hx
    unfold Gate.one at h1
    split at h1
    · cases h1
    · exact hl x (List.mem_of_find?_eq_some h1)
  unfold Nod.next
  split
  · show (Vote.out p.f s.table (Nod.tables p l)).length ≤ N
    unfold Vote.out
    split
    · next i _ =>
      rw [List.getD_eq_getElem?_getD]
      cases hT : (Nod.tables p l)[i]? with
      | none => exact Nat.zero_le _
      | some T => exact hg T (List.mem_of_getElem? hT)
    · exact hs
  · split
    · next j hj =>
      unfold Nod.follow
      simp only
      split
      · have hjl := Route.pick_lt hj
        rw [List.getD_eq_getElem?_getD, List.getElem?_eq_getElem hjl]
        have := List.getElem_mem hjl
        obtain ⟨x, hx, e⟩ := List.mem_map.1 this
        show ((Nod.msgs p l)[j]).table.length ≤ N
        rw [← e]
        exact hl x (List.mem_filter.1 hx).1
      · exact hs
    · exact hs
/-- What each operation leaves. -/
def VMNBeS (G X : Nat) (C : Option Addr) (cc : Nat) (o : List HA) (x : In) (u : Sta) (w : World) (v : Value) : Nat → Prop
  | 0 => v = .pointer (some ⟨G, 0, none⟩)
  | 1 => v = .pointer (some ⟨G, 0, none⟩)
  | 2 => v = .pointer (some ⟨G, 0, none⟩)
  | 3 => v = .pointer (some ⟨X, 0, none⟩)
  | 4 => v = .int .i64 x.ticks
  | 5 => v = .pointer (some ⟨G, 0, none⟩)
  | 6 => v = .pointer (some ⟨X, 0, none⟩)
  | 7 => v = .int .i64 x.ticks
  | 8 => v = .slice C o.length cc
  | 9 => ∃ (A2 : Option Addr) (c2 : Nat), v = staV u A2 c2 ∧ PairsAt w A2 u.table
  | _ => v = .bool true
/-- It stays so. -/
def VCNBeS (G X : Nat) (C : Option Addr) (cc : Nat) (o : List HA) (x : In) (u : Sta) (i : Nat) (v : Value) (w : World) : Prop := ∀ w', Ok w w' → VMNBeS G X C cc o x u w' v i
/-- What each operation leaves. -/
def VMNBeY (G : Nat) (me : Int) (w : World) (v : Value) : Nat → Prop
  | 0 => v = .pointer (some ⟨G, 0, none⟩)
  | 1 => v = .pointer (some ⟨G, 0, none⟩)
  | 2 => v = .pointer (some ⟨G, 0, none⟩)
  | 3 => v = .pointer (some ⟨G, 0, none⟩)
  | 4 => v = .pointer (some ⟨G, 0, none⟩)
  | 5 => v = .pointer (some ⟨G, 23, none⟩)
  | 6 => v = .int .i64 me
  | 7 => v = .agg #[.int .i64 0, .int .i64 0]
  | _ => v = .bool true
/-- It stays so. -/
def VCNBeY (G : Nat) (me : Int) (i : Nat) (v : Value) (w : World) : Prop := ∀ w', Ok w w' → VMNBeY G me w' v i
set_option maxHeartbeats 6400000 in
theorem nodeBeat (G t b : Nat) (me : Int) (p : Par) (s : Sta) (A : Option Addr) (cap : Nat) (f : NF) (x : In) (w : World) (hN : NodeAt w G t b me p s A cap f) (hA : PairsAt w A s.table) (hs : s.table.length ≤ 1048576) (hx : HeardsAt w x.B x.heard) (hh : x.heard.length ≤ 1000) (hwf : ∀ h ∈ x.heard, (Lit.int .i64 h.m.frm).wf = true) (hd : ∀ h ∈ x.heard, h.m.table.length ≤ 8796093022208) (hpf : -9223372036854775808 ≤ p.f ∧ p.f ≤ 9223372036854775807) (hpd : 0 ≤ p.d ∧ p.d ≤ 16) (hpow : Pow w) :
    Calls Tryz.prog 13 #[.pointer (some ⟨G, 0, none⟩), inV x] w fun e w' => ∃ (A3 : Option Addr) (c3 : Nat) (A2 : Option Addr) (c2 : Nat), e = .returned (msgV (Nod.say p me (Nod.state p s x.ticks ((Nod.known HA.hd me f x.heard).1.map HA.hd))) A3 c3) ∧ NodeAt w' G t b me p (Health.stamped (Nod.state p s x.ticks ((Nod.known HA.hd me f x.heard).1.map HA.hd))) A2 c2 (Mem.tick 2 (Nod.known HA.hd me f x.heard).2) ∧ TabRow w.heap.size w' A2 c2 (Nod.state p s x.ticks ((Nod.known HA.hd me f x.heard).1.map HA.hd)).table ∧ TabRow w.heap.size w' A3 c3 (Nod.state p s x.ticks ((Nod.known HA.hd me f x.heard).1.map HA.hd)).table ∧ OnlyN G b w w' ∧ (∀ a b', A2 = some a → A3 = some b' → a.block ≠ b'.block) := by
  obtain ⟨⟨o, f3⟩, hK⟩ : ∃ y, Nod.known HA.hd me f x.heard = y := ⟨_, rfl⟩
  have hsub : ∀ y ∈ o, y ∈ x.heard := fun y hy => Nod.known_mem HA.hd (me := me) (f := f) (by rw [hK]; exact hy)
  have hoL : o.length ≤ 1000 := by have := Nod.known_len HA.hd me f x.heard; rw [hK] at this; exact Nat.le_trans this hh
  have hg3 : Mem.Good f3 := by have := Nod.known_good HA.hd me hN.good x.heard; rw [hK] at this; exact this
  have KK := Lib.hid fun W' h1 h2 => nodeKnown G t b me p s A cap f x.B x.heard x.hcap W' h1 h2 hh hwf
  unfold KnownEnd at KK
  rw [hK] at KK ⊢
  simp only at KK ⊢
  obtain ⟨f4, hf4⟩ : ∃ y, Mem.tick 2 f3 = y := ⟨_, rfl⟩
  have KT := Lib.hid fun W' h => memTick t b 2 f3 W' h hg3 rfl
  unfold TickEnd at KT
  have HG4 : Hid (Mem.Good f4) := Lib.hid (hf4 ▸ hg3.tick 2)
  rw [hf4] at KT ⊢
  obtain ⟨u, hu⟩ : ∃ y, Nod.next p s x.ticks (o.map HA.hd) = y := ⟨_, rfl⟩
  obtain ⟨s1, hs1⟩ : ∃ y, Health.step p s x.ticks u = y := ⟨_, rfl⟩
  obtain ⟨s2, hs2⟩ : ∃ y, Nod.listens p s1 (o.map HA.hd) = y := ⟨_, rfl⟩
  have hst : Nod.state p s x.ticks (o.map HA.hd) = s2 := by unfold Nod.state; rw [hu, hs1, hs2]
  rw [hst]
  have HS1 := Lib.hid hs1
  have HS2 := Lib.hid hs2
  have HS1L : Hid (s1.table.length ≤ 8796093022208) := Lib.hid (by rw [← hs1]; exact Nat.le_trans (stepTable23 p s x.ticks u) (by decide))
  have HUL : Hid (u.table.length ≤ 9223372036854775807) := Lib.hid (by
    rw [← hu]
    exact Nat.le_trans (Nod.next_table (N := 8796093022208) p x.ticks (Nat.le_trans hs (by decide)) (fun y hy => by
      obtain ⟨z, hz, rfl⟩ := List.mem_map.1 hy
      exact hd z (hsub z hz))) (by decide))
  have KFO := Lib.hid fun C cc W' h1 h2 h3 h4 => nodeFollows G t me p s A cap x.ticks C o cc W' h1 h2 hs h3 hoL (fun y hy => hd y (hsub y hy)) hpf hpd h4
  rw [hu] at KFO
  obtain ⟨mm, hmm⟩ : ∃ y, Nod.say p me s2 = y := ⟨_, rfl⟩
  rw [hmm]
  have HMM : Hid (Gate.say p s2 2 me false (0, 0) = mm) := Lib.hid hmm
  have HOL := Lib.hid hoL
  clear hK hsub hoL hg3 hf4 hu hs1 hs2 hst hmm hwf hd hpf hpd hs
  have hX := (Own.new w (inCells x) 49 rfl).alloc (.cells #[.int .i64 0, .int .i64 0, .int .i64 0, .int .i64 0, .int .i64 0, .int .i64 0, .bool false, .bool false, .int .i64 0, .int .i64 0, .int .i64 0, .int .i64 0, .int .i64 0, .slice none 0 0] 51)
  have hM := Own.new (w.alloc (.cells (inCells x) 49)) #[.int .i64 0, .int .i64 0, .int .i64 0, .int .i64 0, .int .i64 0, .int .i64 0, .bool false, .bool false, .int .i64 0, .int .i64 0, .int .i64 0, .int .i64 0, .int .i64 0, .slice none 0 0] 51 (g := w.heap.size + 1) (by simp)
  have hok := ((Ok.refl w).alloc (.cells (inCells x) 49)).alloc (.cells #[.int .i64 0, .int .i64 0, .int .i64 0, .int .i64 0, .int .i64 0, .int .i64 0, .bool false, .bool false, .int .i64 0, .int .i64 0, .int .i64 0, .int .i64 0, .int .i64 0, .slice none 0 0] 51)
  have hn := hN.next hok
  have hH := hx.below hok
  have hPA := hA.below hok
  have hpw := hpow.next hok
  have hNl := hN.lt
  clear hN hA hx hpow
  unfold inV
  go_enter Tryz.func13, Tryz.ntmps13
  go_upto_region 1 with fail
  change Code.wp _ _ _ _ ((w.alloc (.cells (inCells x) 49)).alloc (.cells #[.int .i64 0, .int .i64 0, .int .i64 0, .int .i64 0, .int .i64 0, .int .i64 0, .bool false, .bool false, .int .i64 0, .int .i64 0, .int .i64 0, .int .i64 0, .int .i64 0, .slice none 0 0] 51))
  generalize (w.alloc (.cells (inCells x) 49)).alloc (.cells #[.int .i64 0, .int .i64 0, .int .i64 0, .int .i64 0, .int .i64 0, .int .i64 0, .bool false, .bool false, .int .i64 0, .int .i64 0, .int .i64 0, .int .i64 0, .int .i64 0, .slice none 0 0] 51) = W at hX hM hok hn hH hPA hpw ⊢
  obtain ⟨M, hMe⟩ : ∃ r, w.heap.size + 1 = r := ⟨_, rfl⟩
  obtain ⟨X, hXe⟩ : ∃ r, w.heap.size = r := ⟨_, rfl⟩
  have HD : Hid (G ≠ M ∧ t ≠ M ∧ b ≠ M ∧ w.heap.size ≤ M) := Lib.hid ⟨by omega, by omega, by omega, by omega⟩
  have HXD : Hid (G ≠ X ∧ b ≠ X) := Lib.hid ⟨by omega, by omega⟩
  rw [hMe] at hM
  rw [hXe] at hX
  rw [hMe, hXe]
  clear hMe hXe hNl
  have i1 := hX.cell 1 (v := .slice x.B x.heard.length x.hcap) rfl
  have hxl := hX.lt
  have hGW := hn.lt.1
  have hbW := hn.lt.2.2
  go_upto_region 4 with (go_at_call 30; refine (KK.out _ hn hH).mono ?_; rintro e w3 ⟨C, cc, rfl, hrow, hH3, hn3, hon3⟩; clear i1 hxl)
  have HCG : Hid (∀ a, C = some a → a.block ≠ G) := Lib.hid fun a ha => by subst ha; have := row_far22 hrow a.block rfl; omega
  have hPA3 := hn.tab.pairs_keep hon3 hPA
  have hpw3 := hn.tab.pow_keep hon3 hpw
  have hMb := hn.tab.cells_ne hM
  have hXb := hn.tab.cells_ne hX
  replace hM := hon3.own hM hMb
  replace hX := hon3.own hX hXb
  have hon : OnlyN G b w w3 := (OnlyN.of_ok hok).trans (OnlyN.of_b hon3)
  clear hn hH hPA hpw hon3 hrow hok KK
  have cn := hn3.cNear
  have hgl := hn3.lt.1
  go_upto_region 5 with (go_at_call 31; refine (KT.out _ hn3.tab).mono ?_; rintro e w4 ⟨D0, d0, rfl, hI0, hD0, hon4, hT4⟩; clear cn hgl)
  have hPA4 := hn3.tab.pairs_keep hon4 hPA3
  have hpw4 := hn3.tab.pow_keep hon4 hpw3
  have hH4 := hn3.tab.heards_keep hon4 hH3
  replace hM := hon4.own hM hMb
  replace hX := hon4.own hX hXb
  replace hon := hon.trans (OnlyN.of_b hon4)
  have hn4 := hn3.turn hon4 hT4 HG4.out
  clear hn3 hH3 hPA3 hpw3 hon4 hT4 hMb hXb hI0 hD0 KT
  have KF := Lib.hid fun W' (k : Ok w4.drew W') => KFO.out C cc W' (hn4.own.drew.next k) (hPA4.below ((Ok.refl w4).drew.trans k)) (hH4.below ((Ok.refl w4).drew.trans k)) (hpw4.next ((Ok.refl w4).drew.trans k))
  have HN := Lib.hid fun W' (k : Ok w4.drew W') => hn4.next ((Ok.refl w4).drew.trans k)
  have HX := Lib.hid fun W' (k : Ok w4.drew W') => hX.drew.next k
  have HM := Lib.hid fun W' (k : Ok w4.drew W') => hM.drew.next k
  have HH := Lib.hid fun W' (k : Ok w4.drew W') => hH4.cells.below ((Ok.refl w4).drew.trans k)
  have HON := Lib.hid hon
  clear hn4 hX hM hH4 hon hPA4 hpw4 KFO
  refine wp_region_facts_chain (by kernel_rfl) 6 41 rfl (VCNBeS G X C cc o x u) Ok _ 10 rfl rfl (by decide) (by kernel_rfl) (by kernel_rfl) (by kernel_rfl) (by kernel_rfl) (fun i v w w' h k w'' k' => h w'' (k.trans k')) (fun a b c => Ok.trans) (Ok.refl _) [some 18, some 19, some 20, some 21, some 22, some 23, some 24, some 25, some 26, some 27] rfl _ rfl ⟨?_, ?_, ?_, ?_, ?_, ?_, ?_, ?_, ?_, ?_, trivial⟩ ?_
  · intro a' w' hF hR
    have e0 : a'.tmps[0]? = some (.pointer (some ⟨G, 0, none⟩)) := hF.slot 0 (by kernel_rfl) rfl
    refine wpOp_run (v := .pointer (some ⟨G, 0, none⟩)) rfl rfl ?_ (fun _ _ => rfl) (Ok.refl _)
    clear hF
    go_simp
  · intro a' w' hF hR
    obtain ⟨v0, hv0, e18⟩ := hF.get 0 18 (by kernel_rfl) (by kernel_rfl)
    obtain rfl : v0 = _ := hv0 _ (Ok.refl _)
    refine wpOp_run (v := .pointer (some ⟨G, 0, none⟩)) rfl rfl ?_ (fun _ _ => rfl) (Ok.refl _)
    clear hF
    go_simp
  · intro a' w' hF hR
    obtain ⟨v1, hv1, e19⟩ := hF.get 1 19 (by kernel_rfl) (by kernel_rfl)
    obtain rfl : v1 = _ := hv1 _ (Ok.refl _)
    refine wpOp_run (v := .pointer (some ⟨G, 0, none⟩)) rfl rfl ?_ (fun _ _ => rfl) (Ok.refl _)
    clear hF
    go_simp
  · intro a' w' hF hR
    have e3 : a'.tmps[3]? = some (.pointer (some ⟨X, 0, none⟩)) := hF.slot 3 (by kernel_rfl) rfl
    refine wpOp_run (v := .pointer (some ⟨X, 0, none⟩)) rfl rfl ?_ (fun _ _ => rfl) (Ok.refl _)
    clear hF
    go_simp
  · intro a' w' hF hR
    obtain ⟨v3, hv3, e21⟩ := hF.get 3 21 (by kernel_rfl) (by kernel_rfl)
    obtain rfl : v3 = _ := hv3 _ (Ok.refl _)
    have i0 := (HX.out _ hR).cell 0 (v := .int .i64 x.ticks) rfl
    have hxl := (HX.out _ hR).lt
    refine wpOp_run (v := .int .i64 x.ticks) rfl rfl ?_ (fun _ _ => rfl) (Ok.refl _)
    clear hF
    go_simp
  · intro a' w' hF hR
    have e0 : a'.tmps[0]? = some (.pointer (some ⟨G, 0, none⟩)) := hF.slot 0 (by kernel_rfl) rfl
    refine wpOp_run (v := .pointer (some ⟨G, 0, none⟩)) rfl rfl ?_ (fun _ _ => rfl) (Ok.refl _)
    clear hF
    go_simp
  · intro a' w' hF hR
    have e3 : a'.tmps[3]? = some (.pointer (some ⟨X, 0, none⟩)) := hF.slot 3 (by kernel_rfl) rfl
    refine wpOp_run (v := .pointer (some ⟨X, 0, none⟩)) rfl rfl ?_ (fun _ _ => rfl) (Ok.refl _)
    clear hF
    go_simp
  · intro a' w' hF hR
    obtain ⟨v6, hv6, e24⟩ := hF.get 6 24 (by kernel_rfl) (by kernel_rfl)
    obtain rfl : v6 = _ := hv6 _ (Ok.refl _)
    have i0 := (HX.out _ hR).cell 0 (v := .int .i64 x.ticks) rfl
    have hxl := (HX.out _ hR).lt
    refine wpOp_run (v := .int .i64 x.ticks) rfl rfl ?_ (fun _ _ => rfl) (Ok.refl _)
    clear hF
    go_simp
  · intro a' w' hF hR
    have e5 : a'.tmps[5]? = some (.slice C o.length cc) := hF.slot 5 (by kernel_rfl) rfl
    refine wpOp_run (v := .slice C o.length cc) rfl rfl ?_ (fun _ _ => rfl) (Ok.refl _)
    clear hF
    go_simp
  · intro a' w' hF hR
    obtain ⟨v5, hv5, e23⟩ := hF.get 5 23 (by kernel_rfl) (by kernel_rfl)
    obtain rfl : v5 = _ := hv5 _ (Ok.refl _)
    obtain ⟨v7, hv7, e25⟩ := hF.get 7 25 (by kernel_rfl) (by kernel_rfl)
    obtain rfl : v7 = _ := hv7 _ (Ok.refl _)
    obtain ⟨v8, hv8, e26⟩ := hF.get 8 26 (by kernel_rfl) (by kernel_rfl)
    obtain rfl : v8 = _ := hv8 _ (Ok.refl _)
    clear hF
    refine wpOp_call (f := 33) (args := #[.pointer (some ⟨G, 0, none⟩), .int .i64 x.ticks, .slice C o.length cc]) rfl rfl ?_ ((KF.out _ hR).mono ?_)
    · go_simp
    · rintro e w2 ⟨A2, c2, rfl, hP2, hb2⟩; exact ⟨_, rfl, fun w3 k => ⟨A2, c2, rfl, hP2.below k⟩, hb2⟩
  intro vs W' hvs hR
  have e2 : vs 2 = .pointer (some ⟨G, 0, none⟩) := hvs 2 (by decide) _ (Ok.refl _)
  have e4 : vs 4 = .int .i64 x.ticks := hvs 4 (by decide) _ (Ok.refl _)
  obtain ⟨A2, c2, e9, hPu⟩ := hvs 9 (by decide) _ (Ok.refl _)
  have hN := HN.out _ hR
  have hM := HM.out _ hR
  have hH := HH.out _ hR
  have hon := HON.out.ok ((Ok.refl w4).drew.trans hR)
  clear hvs HN HX HM HH HON KF
  simp only [putFrom, e2, e4, e9]
  simp only [Act.put, List.setIfInBounds_toArray, List.set_cons_zero, List.set_cons_succ]
  refine wpOp_enters (o := ⟨some 28, _, _, _, _, none⟩) (f := 32) (args := #[.pointer (some ⟨G, 0, none⟩), .int .i64 x.ticks, staV u A2 c2]) rfl rfl ?_ ((frontStep [.int .i64 me, .pointer (some ⟨t, 0, none⟩)] G p s A cap x.ticks u A2 c2 W' hN.own hPu HUL.out).mono ?_)
  · go_simp
  rintro e w5 ⟨rfl, A4, c4, hO5, hT5, hon5⟩
  refine ⟨_, rfl, ?_⟩
  try simp only [TailFrom]
  simp only [Act.put, List.setIfInBounds_toArray, List.set_cons_zero, List.set_cons_succ]
  have HK5 : Hid (w.heap.size ≤ W'.heap.size ∧ G < W'.heap.size ∧ M < W'.heap.size) := Lib.hid ⟨hon.size, hN.lt.1, hM.lt⟩
  have hN5 := hN.step hon5 hO5
  replace hM := hon5.own hM (Ne.symm HD.out.1)
  replace hH := hon5.cells hH HCG.out
  replace hon := hon.trans (OnlyN.of_g hon5)
  clear hN hO5 hon5 hPu e2 e4 e9
  obtain ⟨K5, hK5⟩ : ∃ y, W'.heap.size = y := ⟨_, rfl⟩
  rw [hK5] at hT5 HK5
  clear hK5
  rw [HS1.out] at hN5 hT5
  generalize vs 0 = x20
  generalize vs 1 = x21
  generalize vs 3 = x23
  generalize vs 5 = x25
  generalize vs 6 = x26
  generalize vs 7 = x27
  generalize vs 8 = x28
  clear hR vs
  go_upto_region 7 with (go_at_call 34; refine ((nodeListens G t b me p s1 A4 c4 f4 C o cc _ hN5 hH HCG.out HOL.out)).mono ?_; rintro e w6 ⟨rfl, hN6, hon6⟩; replace hM := hon6.own hM (Ne.symm HD.out.1); replace hT5 := TabRow.only hT5 hon6 HK5.out.2.1; replace hon := hon.trans (OnlyN.of_g hon6); clear hon6 hN5 hH)
  rw [HS2.out] at hN6
  have HST : Hid (s1.table = s2.table) := Lib.hid (by rw [← HS2.out]; exact (Nod.listens_keeps p s1 (o.map HA.hd)).2.2.2.2.2.2.2.1.symm)
  have hT4 : TabRow K5 w6 A4 c4 s2.table := by rw [← HST.out]; exact hT5
  clear hT5
  have HSL : Hid (s2.table.length ≤ 8796093022208) := Lib.hid (by rw [← HST.out]; exact HS1L.out)
  have HN := Lib.hid fun W' (k : Ok w6.drew W') => hN6.next ((Ok.refl w6).drew.trans k)
  have HM := Lib.hid fun W' (k : Ok w6.drew W') => hM.drew.next k
  have HT4 := Lib.hid fun W' (k : Ok w6.drew W') => hT4.next ((Ok.refl w6).drew.trans k)
  have HON := Lib.hid hon
  clear hN6 hM hT4 hon
  refine wp_region_facts_chain (by kernel_rfl) 5 41 rfl (VCNBeY G me) Ok _ 8 rfl rfl (by decide) (by kernel_rfl) (by kernel_rfl) (by kernel_rfl) (by kernel_rfl) (fun i v w w' h k w'' k' => h w'' (k.trans k')) (fun a b c => Ok.trans) (Ok.refl _) [some 32, some 33, some 34, some 35, some 36, some 37, some 38, some 39] rfl _ rfl ⟨?_, ?_, ?_, ?_, ?_, ?_, ?_, ?_, trivial⟩ ?_
  · intro a' w' hF hR
    have e0 : a'.tmps[0]? = some (.pointer (some ⟨G, 0, none⟩)) := hF.slot 0 (by kernel_rfl) rfl
    refine wpOp_run (v := .pointer (some ⟨G, 0, none⟩)) rfl rfl ?_ (fun _ _ => rfl) (Ok.refl _)
    clear hF
    go_simp
  · intro a' w' hF hR
    obtain ⟨v0, hv0, e32⟩ := hF.get 0 32 (by kernel_rfl) (by kernel_rfl)
    obtain rfl : v0 = _ := hv0 _ (Ok.refl _)
    refine wpOp_run (v := .pointer (some ⟨G, 0, none⟩)) rfl rfl ?_ (fun _ _ => rfl) (Ok.refl _)
    clear hF
    go_simp
  · intro a' w' hF hR
    obtain ⟨v1, hv1, e33⟩ := hF.get 1 33 (by kernel_rfl) (by kernel_rfl)
    obtain rfl : v1 = _ := hv1 _ (Ok.refl _)
    refine wpOp_run (v := .pointer (some ⟨G, 0, none⟩)) rfl rfl ?_ (fun _ _ => rfl) (Ok.refl _)
    clear hF
    go_simp
  · intro a' w' hF hR
    have e0 : a'.tmps[0]? = some (.pointer (some ⟨G, 0, none⟩)) := hF.slot 0 (by kernel_rfl) rfl
    refine wpOp_run (v := .pointer (some ⟨G, 0, none⟩)) rfl rfl ?_ (fun _ _ => rfl) (Ok.refl _)
    clear hF
    go_simp
  · intro a' w' hF hR
    obtain ⟨v3, hv3, e35⟩ := hF.get 3 35 (by kernel_rfl) (by kernel_rfl)
    obtain rfl : v3 = _ := hv3 _ (Ok.refl _)
    refine wpOp_run (v := .pointer (some ⟨G, 0, none⟩)) rfl rfl ?_ (fun _ _ => rfl) (Ok.refl _)
    clear hF
    go_simp
  · intro a' w' hF hR
    obtain ⟨v4, hv4, e36⟩ := hF.get 4 36 (by kernel_rfl) (by kernel_rfl)
    obtain rfl : v4 = _ := hv4 _ (Ok.refl _)
    refine wpOp_run (v := .pointer (some ⟨G, 23, none⟩)) rfl rfl ?_ (fun _ _ => rfl) (Ok.refl _)
    clear hF
    go_simp
  · intro a' w' hF hR
    obtain ⟨v5, hv5, e37⟩ := hF.get 5 37 (by kernel_rfl) (by kernel_rfl)
    obtain rfl : v5 = _ := hv5 _ (Ok.refl _)
    have c23 := (HN.out _ hR).cMe
    have hgl := (HN.out _ hR).lt.1
    refine wpOp_run (v := .int .i64 me) rfl rfl ?_ (fun _ _ => rfl) (Ok.refl _)
    clear hF
    go_simp
  · intro a' w' hF hR
    refine wpOp_run (v := .agg #[.int .i64 0, .int .i64 0]) rfl rfl ?_ (fun _ _ => rfl) (Ok.refl _)
    clear hF
    go_simp
  intro vs W' hvs hR
  have e2 : vs 2 = .pointer (some ⟨G, 0, none⟩) := hvs 2 (by decide) _ (Ok.refl _)
  have e6 : vs 6 = .int .i64 me := hvs 6 (by decide) _ (Ok.refl _)
  have e7 : vs 7 = .agg #[.int .i64 0, .int .i64 0] := hvs 7 (by decide) _ (Ok.refl _)
  have hN := HN.out _ hR
  have hM := HM.out _ hR
  have hT4 := HT4.out _ hR
  have hon := HON.out.ok ((Ok.refl w6).drew.trans hR)
  clear hvs HN HM HON HT4
  simp only [putFrom, e2, e6, e7]
  simp only [Act.put, List.setIfInBounds_toArray, List.set_cons_zero, List.set_cons_succ]
  refine wpOp_enters (o := ⟨some 40, _, _, _, _, none⟩) (f := 35) (args := #[.pointer (some ⟨G, 0, none⟩), .int .i64 2, .int .i64 me, .bool false, .agg #[.int .i64 0, .int .i64 0]]) rfl rfl ?_ ((gateSay [.int .i64 me, .pointer (some ⟨t, 0, none⟩)] G p s2 A4 c4 2 me false 0 0 K5 W' hN.own hT4 HK5.out.2.1 HSL.out).mono ?_)
  · go_simp
  rintro e w7 ⟨A3, c3, rfl, hQ6, hT6, hon6⟩
  have HDIS := Lib.hid (show ∀ a b, A4 = some a → A3 = some b → a.block ≠ b.block from fun a b ha hb => by have h1 := (row_lt23 hT4 a ha).2; have h2 := (row_lt23 hT6 b hb).1; omega)
  refine ⟨_, rfl, ?_⟩
  simp only [Act.put, List.setIfInBounds_toArray, List.set_cons_zero, List.set_cons_succ]
  have hWl : w.heap.size ≤ W'.heap.size ∧ M < W'.heap.size := ⟨hon.size, hM.lt⟩
  replace hM := hon6.own hM (Ne.symm HD.out.1)
  replace hT4 := hT4.only hon6 HK5.out.2.1
  replace hon := hon.trans (OnlyN.of_g hon6)
  have hN7 := hN.step hon6 hQ6
  clear hon6 hN hQ6 e2 e6 e7
  rw [show (if false = true then ((0 : Int), (0 : Int)) else (0, 0)) = (0, 0) from rfl, HMM.out]
  unfold msgV
  have m0 := hM.cell 0 rfl
  have m1 := hM.cell 1 rfl
  have m2 := hM.cell 2 rfl
  have m3 := hM.cell 3 rfl
  have m4 := hM.cell 4 rfl
  have m5 := hM.cell 5 rfl
  have m6 := hM.cell 6 rfl
  have m7 := hM.cell 7 rfl
  have m8 := hM.cell 8 rfl
  have m9 := hM.cell 9 rfl
  have m10 := hM.cell 10 rfl
  have m11 := hM.cell 11 rfl
  have m12 := hM.cell 12 rfl
  have m13 := hM.cell 13 rfl
  have f0 := hM.frozen 0
  have f1 := hM.frozen 1
  have f2 := hM.frozen 2
  have f3 := hM.frozen 3
  have f4 := hM.frozen 4
  have f5 := hM.frozen 5
  have f6 := hM.frozen 6
  have f7 := hM.frozen 7
  have f8 := hM.frozen 8
  have f9 := hM.frozen 9
  have f10 := hM.frozen 10
  have f11 := hM.frozen 11
  have f12 := hM.frozen 12
  have f13 := hM.frozen 13
  have hml := hM.lt
  refine wpOp_store (w' := ((((((((((((((w7.setCell ⟨M, 0, none⟩ (.int .i64 mm.kind)).setCell ⟨M, 1, none⟩ (.int .i64 mm.frm)).setCell ⟨M, 2, none⟩ (.int .i64 mm.lo)).setCell ⟨M, 3, none⟩ (.int .i64 mm.hi)).setCell ⟨M, 4, none⟩ (.int .i64 mm.held)).setCell ⟨M, 5, none⟩ (.int .i64 mm.hops)).setCell ⟨M, 6, none⟩ (.bool mm.good)).setCell ⟨M, 7, none⟩ (.bool mm.ref)).setCell ⟨M, 8, none⟩ (.int .i64 mm.slo)).setCell ⟨M, 9, none⟩ (.int .i64 mm.shi)).setCell ⟨M, 10, none⟩ (.int .i64 mm.pulse)).setCell ⟨M, 11, none⟩ (.int .i64 mm.time)).setCell ⟨M, 12, none⟩ (.int .i64 mm.num)).setCell ⟨M, 13, none⟩ (.slice A3 mm.table.length c3))) rfl rfl rfl ?_ ?_
  · go_simp
  try simp only [TailFrom]
  clear m0 f0 m1 f1 m2 f2 m3 f3 m4 f4 m5 f5 m6 f6 m7 f7 m8 f8 m9 f9 m10 f10 m11 f11 m12 f12 m13 f13 hml
  have honM : Only M w7 ((((((((((((((w7.setCell ⟨M, 0, none⟩ (.int .i64 mm.kind)).setCell ⟨M, 1, none⟩ (.int .i64 mm.frm)).setCell ⟨M, 2, none⟩ (.int .i64 mm.lo)).setCell ⟨M, 3, none⟩ (.int .i64 mm.hi)).setCell ⟨M, 4, none⟩ (.int .i64 mm.held)).setCell ⟨M, 5, none⟩ (.int .i64 mm.hops)).setCell ⟨M, 6, none⟩ (.bool mm.good)).setCell ⟨M, 7, none⟩ (.bool mm.ref)).setCell ⟨M, 8, none⟩ (.int .i64 mm.slo)).setCell ⟨M, 9, none⟩ (.int .i64 mm.shi)).setCell ⟨M, 10, none⟩ (.int .i64 mm.pulse)).setCell ⟨M, 11, none⟩ (.int .i64 mm.time)).setCell ⟨M, 12, none⟩ (.int .i64 mm.num)).setCell ⟨M, 13, none⟩ (.slice A3 mm.table.length c3)) := (((((((((((((((Only.refl M w7).setR 0 (.int .i64 mm.kind)).setR 1 (.int .i64 mm.frm)).setR 2 (.int .i64 mm.lo)).setR 3 (.int .i64 mm.hi)).setR 4 (.int .i64 mm.held)).setR 5 (.int .i64 mm.hops)).setR 6 (.bool mm.good)).setR 7 (.bool mm.ref)).setR 8 (.int .i64 mm.slo)).setR 9 (.int .i64 mm.shi)).setR 10 (.int .i64 mm.pulse)).setR 11 (.int .i64 mm.time)).setR 12 (.int .i64 mm.num)).setR 13 (.slice A3 mm.table.length c3))
  replace hM := own_over14 hM (.int .i64 mm.kind) (.int .i64 mm.frm) (.int .i64 mm.lo) (.int .i64 mm.hi) (.int .i64 mm.held) (.int .i64 mm.hops) (.bool mm.good) (.bool mm.ref) (.int .i64 mm.slo) (.int .i64 mm.shi) (.int .i64 mm.pulse) (.int .i64 mm.time) (.int .i64 mm.num) (.slice A3 mm.table.length c3)
  replace hN7 := hN7.only honM HD.out.1 HD.out.2.1 HD.out.2.2.1
  replace hon := hon.then_new23 honM HD.out.2.2.2
  replace hT6 := (TabRow.set (TabRow.set (TabRow.set (TabRow.set (TabRow.set (TabRow.set (TabRow.set (TabRow.set (TabRow.set (TabRow.set (TabRow.set (TabRow.set (TabRow.set (TabRow.set hT6 (p := ⟨M, 0, none⟩) hWl.2 (.int .i64 mm.kind)) (p := ⟨M, 1, none⟩) hWl.2 (.int .i64 mm.frm)) (p := ⟨M, 2, none⟩) hWl.2 (.int .i64 mm.lo)) (p := ⟨M, 3, none⟩) hWl.2 (.int .i64 mm.hi)) (p := ⟨M, 4, none⟩) hWl.2 (.int .i64 mm.held)) (p := ⟨M, 5, none⟩) hWl.2 (.int .i64 mm.hops)) (p := ⟨M, 6, none⟩) hWl.2 (.bool mm.good)) (p := ⟨M, 7, none⟩) hWl.2 (.bool mm.ref)) (p := ⟨M, 8, none⟩) hWl.2 (.int .i64 mm.slo)) (p := ⟨M, 9, none⟩) hWl.2 (.int .i64 mm.shi)) (p := ⟨M, 10, none⟩) hWl.2 (.int .i64 mm.pulse)) (p := ⟨M, 11, none⟩) hWl.2 (.int .i64 mm.time)) (p := ⟨M, 12, none⟩) hWl.2 (.int .i64 mm.num)) (p := ⟨M, 13, none⟩) hWl.2 (.slice A3 mm.table.length c3))
  replace hT4 := (TabRow.set (TabRow.set (TabRow.set (TabRow.set (TabRow.set (TabRow.set (TabRow.set (TabRow.set (TabRow.set (TabRow.set (TabRow.set (TabRow.set (TabRow.set (TabRow.set hT4 (p := ⟨M, 0, none⟩) HK5.out.2.2 (.int .i64 mm.kind)) (p := ⟨M, 1, none⟩) HK5.out.2.2 (.int .i64 mm.frm)) (p := ⟨M, 2, none⟩) HK5.out.2.2 (.int .i64 mm.lo)) (p := ⟨M, 3, none⟩) HK5.out.2.2 (.int .i64 mm.hi)) (p := ⟨M, 4, none⟩) HK5.out.2.2 (.int .i64 mm.held)) (p := ⟨M, 5, none⟩) HK5.out.2.2 (.int .i64 mm.hops)) (p := ⟨M, 6, none⟩) HK5.out.2.2 (.bool mm.good)) (p := ⟨M, 7, none⟩) HK5.out.2.2 (.bool mm.ref)) (p := ⟨M, 8, none⟩) HK5.out.2.2 (.int .i64 mm.slo)) (p := ⟨M, 9, none⟩) HK5.out.2.2 (.int .i64 mm.shi)) (p := ⟨M, 10, none⟩) HK5.out.2.2 (.int .i64 mm.pulse)) (p := ⟨M, 11, none⟩) HK5.out.2.2 (.int .i64 mm.time)) (p := ⟨M, 12, none⟩) HK5.out.2.2 (.int .i64 mm.num)) (p := ⟨M, 13, none⟩) HK5.out.2.2 (.slice A3 mm.table.length c3))
  clear honM
  generalize ((((((((((((((w7.setCell ⟨M, 0, none⟩ (.int .i64 mm.kind)).setCell ⟨M, 1, none⟩ (.int .i64 mm.frm)).setCell ⟨M, 2, none⟩ (.int .i64 mm.lo)).setCell ⟨M, 3, none⟩ (.int .i64 mm.hi)).setCell ⟨M, 4, none⟩ (.int .i64 mm.held)).setCell ⟨M, 5, none⟩ (.int .i64 mm.hops)).setCell ⟨M, 6, none⟩ (.bool mm.good)).setCell ⟨M, 7, none⟩ (.bool mm.ref)).setCell ⟨M, 8, none⟩ (.int .i64 mm.slo)).setCell ⟨M, 9, none⟩ (.int .i64 mm.shi)).setCell ⟨M, 10, none⟩ (.int .i64 mm.pulse)).setCell ⟨M, 11, none⟩ (.int .i64 mm.time)).setCell ⟨M, 12, none⟩ (.int .i64 mm.num)).setCell ⟨M, 13, none⟩ (.slice A3 mm.table.length c3)) = W9 at hM hN7 hon hT6 hT4 ⊢
  generalize vs 0 = x40
  generalize vs 1 = x41
  generalize vs 3 = x43
  generalize vs 4 = x44
  generalize vs 5 = x45
  clear hR vs
  have m0 := hM.cell 0 rfl
  have m1 := hM.cell 1 rfl
  have m2 := hM.cell 2 rfl
  have m3 := hM.cell 3 rfl
  have m4 := hM.cell 4 rfl
  have m5 := hM.cell 5 rfl
  have m6 := hM.cell 6 rfl
  have m7 := hM.cell 7 rfl
  have m8 := hM.cell 8 rfl
  have m9 := hM.cell 9 rfl
  have m10 := hM.cell 10 rfl
  have m11 := hM.cell 11 rfl
  have m12 := hM.cell 12 rfl
  have m13 := hM.cell 13 rfl
  have hml := hM.lt
  go_wp2_with fail
  exact bodyPost_ret (v := .agg #[.int .i64 mm.kind, .int .i64 mm.frm, .int .i64 mm.lo, .int .i64 mm.hi, .int .i64 mm.held, .int .i64 mm.hops, .bool mm.good, .bool mm.ref, .int .i64 mm.slo, .int .i64 mm.shi, .int .i64 mm.pulse, .int .i64 mm.time, .int .i64 mm.num, .slice A3 mm.table.length c3]) (by simp [results, Tryz.results13, go_sem, m0, m1, m2, m3, m4, m5, m6, m7, m8, m9, m10, m11, m12, m13]) rfl ⟨A3, c3, A4, c4, rfl, hN7, hT4.mono HK5.out.1, hT6.mono hWl.1, hon, HDIS.out⟩
end Go.Proofs.YtmokofblmkeloaaGreatDoor
