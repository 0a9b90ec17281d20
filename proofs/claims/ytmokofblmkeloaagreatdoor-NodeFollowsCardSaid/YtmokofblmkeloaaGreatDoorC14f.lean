import Derived.Test.YtmokofblmkeloaaGreatDoorP42
namespace Go.Proofs.YtmokofblmkeloaaGreatDoor
open Go.RowKit Go.Maps
set_option maxRecDepth 100000
attribute [local go_sem ↓] Go.wp_at_zero Go.wp_at_succ
/-- Behind some rounds of Tick: the numbers of l have been seen to; A is the list that is gone over, made ahead of wN. -/
structure TickAt (g b : Nat) (m : Int) (f : NF) (A : Option Addr) (w wN wr : World) (v : Value) (l : List Nat) : Prop where
  tab : TabM wr g b (Mem.tickL m f l)
  row : RowN wN.heap.size wr v (l.filter fun k => Mem.goesAt m (f k))
  ints : IntsAt wr A (Mem.ints (Mem.nums f))
  on : Only b w wr
  lim : g < w.heap.size ∧ b < w.heap.size ∧ (∀ a, A = some a → w.heap.size ≤ a.block ∧ a.block < wN.heap.size) ∧ w.heap.size ≤ wN.heap.size ∧ wN.heap.size ≤ wr.heap.size
namespace TickAt
variable {g b k : Nat} {m : Int} {f : NF} {A : Option Addr} {w wN wr W : World} {v v' : Value} {l : List Nat} {p : Int × Int}
theorem start (hT : TabM w g b f) (hok : Ok w wN) (hI : IntsAt wN A (Mem.ints (Mem.nums f))) (hA : ∀ a, A = some a → w.heap.size ≤ a.block ∧ a.block < wN.heap.size) : TickAt g b m f A w wN wN (.slice none 0 0) [] :=
  ⟨by rw [Mem.tickL_nil]; exact hT.next hok, RowN.start _ _, hI, Only.of_ok hok, hT.lt.1, hT.lt.2, hA, hok.size, Nat.le_refl _⟩
theorem next (h : TickAt g b m f A w wN wr v l) (k : Ok wr W) : TickAt g b m f A w wN W v l :=
  ⟨h.tab.next k, h.row.next k, k.ints h.ints, h.on.ok k, h.lim.1, h.lim.2.1, h.lim.2.2.1, h.lim.2.2.2.1, Nat.le_trans h.lim.2.2.2.2 k.size⟩
/-- The map is written. -/
theorem turn (h : TickAt g b m f A w wN wr v l) (ho : Only b wr W) (hT : TabM W g b (Mem.tickL m f (l ++ [k]))) (hq : (l ++ [k]).filter (fun k => Mem.goesAt m (f k)) = l.filter (fun k => Mem.goesAt m (f k))) : TickAt g b m f A w wN W v (l ++ [k]) := by
  obtain ⟨h1, h2, h3, h4, h5⟩ := h.lim
  exact ⟨hT, by rw [hq]; exact h.row.only ho (by omega), ints_only h.ints ho (fun a ha => by have := (h3 a ha).1; omega), h.on.trans ho, h1, h2, h3, h4, Nat.le_trans h5 ho.size⟩
theorem stays (h : TickAt g b m f A w wN wr v l) (ho : Only b wr W) (hN : NearMap W b (Mem.put (Mem.tickL m f l) k (Mem.next p))) (e : f k = some p) (hg : Mem.goes m p = false) : TickAt g b m f A w wN W v (l ++ [k]) := by
  rw [Mem.tickL_put e hg] at hN
  exact h.turn ho (h.tab.turn ho hN) (Mem.filter_snoc_no (by rw [Mem.goesAt_some e]; exact hg))
/-- One goes: it is dropped, and its number stands at the row's end. -/
theorem goes {W2 : World} (h : TickAt g b m f A w wN wr v l) (ho : Only b wr W) (hT : TabM W g b (Mem.dropI (Mem.tickL m f l) (k : Int))) (e : f k = some p) (hg : Mem.goes m p = true) {o : Obj}
    (hr : W2.ownsRow wN.heap.size 3 1 v' (Mem.ints (l.filter fun k => Mem.goesAt m (f k)) ++ [(k : Int)]).length ((Mem.ints (l.filter fun k => Mem.goesAt m (f k)) ++ [(k : Int)]).map (Value.int .i64))) (hgr : (W.alloc o).grownBy W2 v.ownBlock) : TickAt g b m f A w wN W2 v' (l ++ [k]) := by
  rw [Mem.dropI_at, Mem.tickL_drop e hg] at hT
  obtain ⟨h1, h2, h3, h4, h5⟩ := h.lim
  have hv := h.row.lt
  have hs := ho.size
  have hsz : W.heap.size ≤ W2.heap.size := by have := hgr.size; simp at this; omega
  have same : ∀ i, i < wN.heap.size → W2.heap[i]? = W.heap[i]? := fun i hi => by
    refine (hgr.block i (by simp; omega) (fun e => ?_)).trans ((Below.refl W.heap.size W).alloc (Nat.le_refl _) o |>.block i (by omega))
    have := (hv i e.symm).1
    omega
  have hI := ints_only h.ints ho (fun a ha => by have := (h3 a ha).1; omega)
  refine ⟨⟨?_, hT.map.keep (same b (by omega)), hT.ne⟩, ?_, ?_, ?_, h1, h2, h3, h4, by omega⟩
  · obtain ⟨t, ht⟩ := hT.own
    exact ⟨t, (same g (by omega)).trans ht⟩
  · rw [Mem.filter_snoc_yes (by rw [Mem.goesAt_some e]; exact hg)]
    exact RowN.more hr
  · intro j hj
    obtain ⟨b', off, ea, hlt, hc⟩ := hI j hj
    have := (h3 _ ea).2
    exact ⟨b', off, ea, by omega, (World.cell?_of_block (a := ⟨b', off + j, none⟩) (same b' this)).trans hc⟩
  · refine (h.on.trans ho).alloc o |>.grow hgr fun j hj => .inr ?_
    have := (hv j hj).1
    omega
end TickAt
theorem tick_end {g b : Nat} {m : Int} {f : NF} {A : Option Addr} {w wN wr : World} {v : Value} (hG : Mem.Good f) (h : TickAt g b m f A w wN wr v (Mem.nums f)) :
    ∃ B c, v = .slice B (Mem.gone m f).length c ∧ IntsAt wr B (Mem.ints (Mem.gone m f)) ∧ (∀ a, B = some a → w.heap.size ≤ a.block) ∧ Only b w wr ∧ TabM wr g b (Mem.tick m f) := by
  have hr := h.row
  rw [Mem.gone_nums] at hr
  obtain ⟨B, c, e, hI, hB⟩ := hr.ends
  refine ⟨B, c, e, hI, fun a ha => Nat.le_trans h.lim.2.2.2.1 (hB a ha), h.on, ?_⟩
  have := h.tab
  rwa [Mem.tickL_nums hG] at this
/-- What Tick leaves. -/
def TickEnd (g b : Nat) (m : Int) (f : NF) (w : World) (e : Ending) (w' : World) : Prop :=
  ∃ B c, e = .returned (.slice B (Mem.gone m f).length c) ∧ IntsAt w' B (Mem.ints (Mem.gone m f)) ∧ (∀ a, B = some a → w.heap.size ≤ a.block) ∧ Only b w w' ∧ TabM w' g b (Mem.tick m f)
/-- What each operation leaves. -/
def VMT9 (g b _B k : Nat) (a q : Int) (_w : World) (v : Value) : Nat → Prop
  | 0 => v = .pointer (some ⟨g, 0, none⟩)
  | 1 => v = .pointer (some ⟨g, 0, none⟩)
  | 2 => v = .pointer (some ⟨g, 0, none⟩)
  | 3 => v = .map (some b)
  | 4 => v = .int .i64 (k : Int)
  | 5 => v = .agg #[.int .i64 a, .int .i64 q]
  | 6 => v = .agg #[.int .i64 (Mem.next (a, q)).1, .int .i64 (Mem.next (a, q)).2]
  | _ => v = .bool true
/-- It stays so. -/
def VCT9 (g b B k : Nat) (a q : Int) (i : Nat) (v : Value) (w : World) : Prop := ∀ w', Ok w w' → VMT9 g b B k a q w' v i
set_option maxHeartbeats 4000000 in
theorem memTick (g b : Nat) (m : Int) (f : NF) (w : World) (hT : TabM w g b f) (hG : Mem.Good f) (_hm : (Lit.int .i64 m).wf = true) :
    Calls Tryz.prog 31 #[.pointer (some ⟨g, 0, none⟩), .int .i64 m] w (TickEnd g b m f w) := by
  have HT := Lib.hid (And.intro hT hG)
  have hle := Mem.nums_le f
  have KE : Hid (∀ (W : World) (v : Value) (A : Option Addr) (wN : World), TickAt g b m f A w wN W v (Mem.nums f) → TickEnd g b m f w (.returned v) W) := Lib.hid fun W v A wN h => by
    obtain ⟨B, c, rfl, h1, h2, h3, h4⟩ := tick_end HT.out.2 h
    exact ⟨B, c, rfl, h1, h2, h3, h4⟩
  have KNr := Lib.hid (memNear g b f w hT hG)
  obtain ⟨ns, hns⟩ : ∃ ns, Mem.nums f = ns := ⟨_, rfl⟩
  have HN := Lib.hid hns
  rw [hns] at KE KNr hle
  generalize TickEnd g b m f w = Q at KE ⊢
  clear hT hG hns
  go_enter Tryz.func31, Tryz.ntmps31
  go_wp2_with (go_at_call 44; (with_reducible refine KNr.out.mono ?_); rintro e wN ⟨A, c, rfl, hI, hA, hok⟩)
  have H0 : Hid (TickAt g b m f A w wN wN (.slice none 0 0) []) := Lib.hid (TickAt.start HT.out.1 hok (by rw [HN.out]; exact hI) hA)
  clear hI hA hok KNr
  go_loopw [5, 12] (fun v i wr => ∃ j : Nat, j ≤ ns.length ∧ i = .int .i64 j ∧ Hid (TickAt g b m f A w wN wr v (ns.take j))) (fun _ i _ => ns.length - (intOf i).toNat)
  case atStart => exact ⟨0, Nat.zero_le _, rfl, H0⟩
  case round =>
    obtain ⟨j, hj, rfl, hrel⟩ := hrel
    clear H0
    by_cases hlt : j < ns.length
    · obtain ⟨k, hk⟩ : ∃ k, ns[j] = k := ⟨_, rfl⟩
      have hmem : k ∈ ns := by rw [← hk]; exact List.getElem_mem hlt
      have hkf := hmem
      rw [← HN.out] at hkf
      obtain ⟨hk48, hks⟩ := Mem.mem_nums.1 hkf
      obtain ⟨⟨a, q⟩, hp⟩ := Option.isSome_iff_exists.1 hks
      have hbd := HT.out.2.bd k (a, q) hp
      have hnot : k ∉ ns.take j := by
        have hn := Mem.nums_nodup f
        rw [HN.out, ← List.take_append_drop j ns] at hn
        intro hc
        refine (List.nodup_append.1 hn).2.2 k hc k ?_ rfl
        rw [List.drop_eq_getElem_cons hlt, hk]
        exact List.mem_cons_self
      have htk : ns.take (j + 1) = ns.take j ++ [k] := by rw [List.take_succ_eq_append_getElem hlt, hk]
      have HL := Lib.hid htk
      have hll : (ns.take j).length ≤ 48 := by rw [List.length_take]; omega
      generalize ns.take j = l at hrel hnot htk HL hll
      clear htk
      have hls := List.length_filter_le (fun k => Mem.goesAt m (f k)) l
      obtain ⟨bA, oA, hAe, hbA, cA⟩ := hrel.out.ints j (by rw [Mem.ints_length, HN.out]; exact hlt)
      have hval : (Mem.ints (Mem.nums f))[j]'(by rw [Mem.ints_length, HN.out]; exact hlt) = (k : Int) := by
        simp only [HN.out, Mem.ints, List.getElem_map, hk]
      rw [hval] at cA
      subst hAe
      have hgl := hrel.out.tab.lt.1
      have c0 := hrel.out.tab.own.cell 0 (v := .map (some b)) rfl
      have hwk : (Lit.int .i64 (k : Int)).wf = true := wf_nat (by omega)
      have HV : Hid (nbV ((Mem.look (Mem.tickL m f l) (k : Int)).getD (0, 0)) = .agg #[.int .i64 a, .int .i64 q]) := Lib.hid (by rw [Mem.look_at, Mem.tickL_at hnot, hp]; rfl)
      have HP := Lib.hid hp
      have hgo : Mem.goes m (a, q) = decide (max m 0 < q) := rfl
      clear hmem hkf hks hval hk hnot hp
      by_cases hq : max m 0 < q
      · have HG : Hid (Mem.goes m (a, q) = true) := Lib.hid (by rw [hgo]; simpa using hq)
        clear hgo
        have KD := Lib.hid fun W (h : TickAt g b m f (some ⟨bA, oA, none⟩) w wN W u5 l) => memDrop g b (Mem.tickL m f l) (k : Int) W h.tab hwk
        have HS : Hid (∀ z : Int, (Mem.ints (l.filter fun k => Mem.goesAt m (f k))).length + [z].length ≤ 1099511627776) := Lib.hid fun z => by rw [Mem.ints_length]; simp only [List.length_cons, List.length_nil]; omega
        have HZ : Hid (∀ (W1 : World) (o : Obj), Only b (wr.alloc (.cells #[.int .i64 a, .int .i64 q] 119)) W1 → wN.heap.size ≤ (W1.alloc o).heap.size) := Lib.hid fun W1 o h => by
          have := h.size
          have := hrel.out.lim.2.2.2.2
          simp at *
          omega
        clear hll hls
        by_cases hm : m < 0
        · have h1 : 0 < q := by omega
          clear hq
          go_wp2_with (first
            | (at_lookup; refine wpList_nb rfl (.tmp 19) (.tmp 20) rfl rfl hrel.out.tab.map rfl hwk _ HV.out ?_)
            | (go_at_call 70; (with_reducible refine (KD.out _ (hrel.out.next ((Ok.refl wr).alloc (.cells #[.int .i64 a, .int .i64 q] 119)))).mono ?_); rintro e w1 ⟨rfl, ho1, hT1⟩; have HD := Lib.hid (And.intro ho1 hT1); clear ho1 hT1)
            | (at_builtin; refine wpList_append_ints rfl (.tmp 30) (.tmp 32) 56 rfl wN.heap.size 3 Tryz.underlying56 info14 _ (Mem.ints (l.filter fun k => Mem.goesAt m (f k))) _ (Mem.ints_length _).symm rfl (((hrel.out.next ((Ok.refl wr).alloc (.cells #[.int .i64 a, .int .i64 q] 119))).row.only HD.out.1 (by have := hrel.out.lim; omega)).next ((Ok.refl _).alloc _)) _ [(k : Int)] 1 _ rfl rfl (ints_new _ _ _ _ rfl rfl) (HS.out _) (HZ.out _ _ HD.out.1) ?_; intro v' w2 hr2 hg2; have HR2 := Lib.hid (And.intro hr2 hg2); clear hr2 hg2))
          go_roundw
          case rel => exact ⟨j + 1, by omega, by go_num, by rw [HL.out]; exact Lib.hid ((hrel.out.next ((Ok.refl wr).alloc (.cells #[.int .i64 a, .int .i64 q] 119))).goes HD.out.1 HD.out.2 HP.out HG.out HR2.out.1 HR2.out.2)⟩
          case measure => simp [intOf]; omega
        · have h1 : m < q := by omega
          clear hq
          go_wp2_with (first
            | (at_lookup; refine wpList_nb rfl (.tmp 19) (.tmp 20) rfl rfl hrel.out.tab.map rfl hwk _ HV.out ?_)
            | (go_at_call 70; (with_reducible refine (KD.out _ (hrel.out.next ((Ok.refl wr).alloc (.cells #[.int .i64 a, .int .i64 q] 119)))).mono ?_); rintro e w1 ⟨rfl, ho1, hT1⟩; have HD := Lib.hid (And.intro ho1 hT1); clear ho1 hT1)
            | (at_builtin; refine wpList_append_ints rfl (.tmp 30) (.tmp 32) 56 rfl wN.heap.size 3 Tryz.underlying56 info14 _ (Mem.ints (l.filter fun k => Mem.goesAt m (f k))) _ (Mem.ints_length _).symm rfl (((hrel.out.next ((Ok.refl wr).alloc (.cells #[.int .i64 a, .int .i64 q] 119))).row.only HD.out.1 (by have := hrel.out.lim; omega)).next ((Ok.refl _).alloc _)) _ [(k : Int)] 1 _ rfl rfl (ints_new _ _ _ _ rfl rfl) (HS.out _) (HZ.out _ _ HD.out.1) ?_; intro v' w2 hr2 hg2; have HR2 := Lib.hid (And.intro hr2 hg2); clear hr2 hg2))
          go_roundw
          case rel => exact ⟨j + 1, by omega, by go_num, by rw [HL.out]; exact Lib.hid ((hrel.out.next ((Ok.refl wr).alloc (.cells #[.int .i64 a, .int .i64 q] 119))).goes HD.out.1 HD.out.2 HP.out HG.out HR2.out.1 HR2.out.2)⟩
          case measure => simp [intOf]; omega
      · have HG : Hid (Mem.goes m (a, q) = false) := Lib.hid (by rw [hgo]; simpa using hq)
        have hrel0 := hrel.out.next ((Ok.refl wr).alloc (.cells #[.int .i64 a, .int .i64 q] 119))
        have hO := hrel0.tab.own
        have hB := Own.new wr #[.int .i64 a, .int .i64 q] 119 rfl
        obtain ⟨W, hW⟩ : ∃ W, wr.alloc (.cells #[.int .i64 a, .int .i64 q] 119) = W := ⟨_, rfl⟩
        have HW := Lib.hid hW
        rw [hW] at hrel0 hO hB
        have hok1 : ∀ W', Ok W.drew W' → Ok W W' := fun W' h => (Ok.refl W).drew.trans h
        have HM : Hid (∀ W' : World, Ok W.drew W' → ∃ W2, (Instr.mapUpdate 110 (.map (some b)) (.int .i64 (k : Int)) (.agg #[.int .i64 (Mem.next (a, q)).1, .int .i64 (Mem.next (a, q)).2])).run Tryz.prog W' = .ok () W2 ∧ NearMap W2 b (Mem.put (Mem.tickL m f l) k (Mem.next (a, q))) ∧ Only b W' W2) :=
          Lib.hid fun W' h => run_nb_put (hrel0.tab.map.next (hok1 W' h)) hk48 (HT.out.2.tickL m l).far (Mem.next (a, q))
        have HE : Hid (∀ W' W2 : World, Ok W.drew W' → NearMap W2 b (Mem.put (Mem.tickL m f l) k (Mem.next (a, q))) → Only b W' W2 → TickAt g b m f (some ⟨bA, oA, none⟩) w wN W2 u5 (l ++ [k])) := Lib.hid fun W' W2 h hN hb => (hrel0.next (hok1 W' h)).stays hb hN HP.out HG.out
        have HO : Hid (∀ W', Ok W.drew W' → Own W' g #[.map (some b)]) := Lib.hid fun W' h => hO.drew.next h
        have HB : Hid (∀ W', Ok W.drew W' → Own W' wr.heap.size #[.int .i64 a, .int .i64 q]) := Lib.hid fun W' h => hB.drew.next h
        have KN := Lib.hid fun W => memNext a q W ⟨hbd.1, hbd.2.1⟩ hbd.2.2
        clear hgo hrel0 hO hB hW hok1 hll hls
        by_cases hm : m < 0
        · have h1 : ¬ 0 < q := by omega
          clear hq
          go_upto_region 9 with (at_lookup; refine wpList_nb rfl (.tmp 19) (.tmp 20) rfl rfl hrel.out.tab.map rfl hwk _ HV.out ?_)
          rw [HW.out]
          generalize wr.heap.size = B at HB ⊢
          clear HW c0 cA hrel HV hgl HG hbd KE
          refine wp_region_facts_last (by kernel_rfl) 43 rfl (VCT9 g b B k a q) Ok _ rfl _ 7 rfl rfl rfl rfl (by kernel_rfl) (by kernel_rfl) (by kernel_rfl) (fun i v w w' h k w'' k' => h w'' (k.trans k')) (fun a b c => Ok.trans) (Ok.refl _) [some 34, some 35, some 36, some 37, some 38, some 39, some 40] rfl ⟨?_, ?_, ?_, ?_, ?_, ?_, ?_, trivial⟩ ?_
          · intro a' w' hF hR
            have e0 : a'.tmps[0]? = some (.pointer (some ⟨g, 0, none⟩)) := hF.slot 0 (by kernel_rfl) rfl
            refine wpOp_run (v := .pointer (some ⟨g, 0, none⟩)) rfl rfl ?_ (fun _ _ => rfl) (Ok.refl _)
            clear hF
            go_simp
          · intro a' w' hF hR
            obtain ⟨v0, hv0, e34⟩ := hF.get 0 34 (by kernel_rfl) (by kernel_rfl)
            obtain rfl : v0 = _ := hv0 _ (Ok.refl _)
            refine wpOp_run (v := .pointer (some ⟨g, 0, none⟩)) rfl rfl ?_ (fun _ _ => rfl) (Ok.refl _)
            clear hF
            go_simp
          · intro a' w' hF hR
            obtain ⟨v1, hv1, e35⟩ := hF.get 1 35 (by kernel_rfl) (by kernel_rfl)
            obtain rfl : v1 = _ := hv1 _ (Ok.refl _)
            refine wpOp_run (v := .pointer (some ⟨g, 0, none⟩)) rfl rfl ?_ (fun _ _ => rfl) (Ok.refl _)
            clear hF
            go_simp
          · intro a' w' hF hR
            obtain ⟨v2, hv2, e36⟩ := hF.get 2 36 (by kernel_rfl) (by kernel_rfl)
            obtain rfl : v2 = _ := hv2 _ (Ok.refl _)
            have c0 := (HO.out _ hR).cell 0 (v := .map (some b)) rfl
            refine wpOp_run (v := .map (some b)) rfl rfl ?_ (fun _ _ => rfl) (Ok.refl _)
            clear hF
            go_simp
          · intro a' w' hF hR
            have e7 : a'.tmps[7]? = some (.int .i64 (k : Int)) := hF.slot 7 (by kernel_rfl) rfl
            refine wpOp_run (v := .int .i64 (k : Int)) rfl rfl ?_ (fun _ _ => rfl) (Ok.refl _)
            clear hF
            go_simp
          · intro a' w' hF hR
            have e8 : a'.tmps[8]? = some (.pointer (some ⟨B, 0, none⟩)) := hF.slot 8 (by kernel_rfl) rfl
            have c0 := (HB.out _ hR).cell 0 (v := .int .i64 a) rfl
            have c1 := (HB.out _ hR).cell 1 (v := .int .i64 q) rfl
            refine wpOp_run (v := .agg #[.int .i64 a, .int .i64 q]) rfl rfl ?_ (fun _ _ => rfl) (Ok.refl _)
            clear hF
            go_simp
          · intro a' w' hF hR
            obtain ⟨v5, hv5, e39⟩ := hF.get 5 39 (by kernel_rfl) (by kernel_rfl)
            obtain rfl : v5 = _ := hv5 _ (Ok.refl _)
            clear hF
            refine wpOp_call (f := 71) (args := #[.agg #[.int .i64 a, .int .i64 q]]) rfl rfl ?_ ((KN.out _).mono ?_)
            · go_simp
            · rintro e w2 ⟨rfl, hb2⟩; exact ⟨_, rfl, fun _ _ => rfl, hb2⟩
          intro vs W' hvs hR
          have e3 : vs 3 = .map (some b) := hvs 3 (by decide) _ (Ok.refl _)
          have e4 : vs 4 = .int .i64 (k : Int) := hvs 4 (by decide) _ (Ok.refl _)
          have e6 : vs 6 = .agg #[.int .i64 (Mem.next (a, q)).1, .int .i64 (Mem.next (a, q)).2] := hvs 6 (by decide) _ (Ok.refl _)
          obtain ⟨W2, hrun, hN2, hb2⟩ := HM.out _ hR
          clear hvs HO HB
          simp only [putFrom, e3, e4, e6]
          simp only [Act.put, List.setIfInBounds_toArray, List.set_cons_zero, List.set_cons_succ]
          refine wpOp_store (w' := W2) rfl rfl rfl ?_ ?_
          · go_simp
          have HQ := Lib.hid (HE.out _ _ hR hN2 hb2)
          clear hrun hN2 hb2 hR HM HE KN
          go_wp2
          go_roundw
          case rel => exact ⟨j + 1, by omega, by go_num, by rw [HL.out]; exact HQ⟩
          case measure => simp [intOf]; omega
        · have h1 : ¬ m < q := by omega
          clear hq
          go_upto_region 9 with (at_lookup; refine wpList_nb rfl (.tmp 19) (.tmp 20) rfl rfl hrel.out.tab.map rfl hwk _ HV.out ?_)
          rw [HW.out]
          generalize wr.heap.size = B at HB ⊢
          clear HW c0 cA hrel HV hgl HG hbd KE
          refine wp_region_facts_last (by kernel_rfl) 43 rfl (VCT9 g b B k a q) Ok _ rfl _ 7 rfl rfl rfl rfl (by kernel_rfl) (by kernel_rfl) (by kernel_rfl) (fun i v w w' h k w'' k' => h w'' (k.trans k')) (fun a b c => Ok.trans) (Ok.refl _) [some 34, some 35, some 36, some 37, some 38, some 39, some 40] rfl ⟨?_, ?_, ?_, ?_, ?_, ?_, ?_, trivial⟩ ?_
          · intro a' w' hF hR
            have e0 : a'.tmps[0]? = some (.pointer (some ⟨g, 0, none⟩)) := hF.slot 0 (by kernel_rfl) rfl
            refine wpOp_run (v := .pointer (some ⟨g, 0, none⟩)) rfl rfl ?_ (fun _ _ => rfl) (Ok.refl _)
            clear hF
            go_simp
          · intro a' w' hF hR
            obtain ⟨v0, hv0, e34⟩ := hF.get 0 34 (by kernel_rfl) (by kernel_rfl)
            obtain rfl : v0 = _ := hv0 _ (Ok.refl _)
            refine wpOp_run (v := .pointer (some ⟨g, 0, none⟩)) rfl rfl ?_ (fun _ _ => rfl) (Ok.refl _)
            clear hF
            go_simp
          · intro a' w' hF hR
            obtain ⟨v1, hv1, e35⟩ := hF.get 1 35 (by kernel_rfl) (by kernel_rfl)
            obtain rfl : v1 = _ := hv1 _ (Ok.refl _)
            refine wpOp_run (v := .pointer (some ⟨g, 0, none⟩)) rfl rfl ?_ (fun _ _ => rfl) (Ok.refl _)
            clear hF
            go_simp
          · intro a' w' hF hR
            obtain ⟨v2, hv2, e36⟩ := hF.get 2 36 (by kernel_rfl) (by kernel_rfl)
            obtain rfl : v2 = _ := hv2 _ (Ok.refl _)
            have c0 := (HO.out _ hR).cell 0 (v := .map (some b)) rfl
            refine wpOp_run (v := .map (some b)) rfl rfl ?_ (fun _ _ => rfl) (Ok.refl _)
            clear hF
            go_simp
          · intro a' w' hF hR
            have e7 : a'.tmps[7]? = some (.int .i64 (k : Int)) := hF.slot 7 (by kernel_rfl) rfl
            refine wpOp_run (v := .int .i64 (k : Int)) rfl rfl ?_ (fun _ _ => rfl) (Ok.refl _)
            clear hF
            go_simp
          · intro a' w' hF hR
            have e8 : a'.tmps[8]? = some (.pointer (some ⟨B, 0, none⟩)) := hF.slot 8 (by kernel_rfl) rfl
            have c0 := (HB.out _ hR).cell 0 (v := .int .i64 a) rfl
            have c1 := (HB.out _ hR).cell 1 (v := .int .i64 q) rfl
            refine wpOp_run (v := .agg #[.int .i64 a, .int .i64 q]) rfl rfl ?_ (fun _ _ => rfl) (Ok.refl _)
            clear hF
            go_simp
          · intro a' w' hF hR
            obtain ⟨v5, hv5, e39⟩ := hF.get 5 39 (by kernel_rfl) (by kernel_rfl)
            obtain rfl : v5 = _ := hv5 _ (Ok.refl _)
            clear hF
            refine wpOp_call (f := 71) (args := #[.agg #[.int .i64 a, .int .i64 q]]) rfl rfl ?_ ((KN.out _).mono ?_)
            · go_simp
            · rintro e w2 ⟨rfl, hb2⟩; exact ⟨_, rfl, fun _ _ => rfl, hb2⟩
          intro vs W' hvs hR
          have e3 : vs 3 = .map (some b) := hvs 3 (by decide) _ (Ok.refl _)
          have e4 : vs 4 = .int .i64 (k : Int) := hvs 4 (by decide) _ (Ok.refl _)
          have e6 : vs 6 = .agg #[.int .i64 (Mem.next (a, q)).1, .int .i64 (Mem.next (a, q)).2] := hvs 6 (by decide) _ (Ok.refl _)
          obtain ⟨W2, hrun, hN2, hb2⟩ := HM.out _ hR
          clear hvs HO HB
          simp only [putFrom, e3, e4, e6]
          simp only [Act.put, List.setIfInBounds_toArray, List.set_cons_zero, List.set_cons_succ]
          refine wpOp_store (w' := W2) rfl rfl rfl ?_ ?_
          · go_simp
          have HQ := Lib.hid (HE.out _ _ hR hN2 hb2)
          clear hrun hN2 hb2 hR HM HE KN
          go_wp2
          go_roundw
          case rel => exact ⟨j + 1, by omega, by go_num, by rw [HL.out]; exact HQ⟩
          case measure => simp [intOf]; omega
    · obtain rfl : j = ns.length := by omega
      rw [List.take_length] at hrel
      have HQ := Lib.hid (KE.out _ _ _ _ hrel.out)
      clear hrel KE
      go_wp2
      exact HQ.out
end Go.Proofs.YtmokofblmkeloaaGreatDoor
