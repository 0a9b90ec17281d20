import Derived.Test.YtmokofblmkeloaaGreatDoorP35
import Derived.Test.YtmokofblmkeloaaGreatDoorB12
import Derived.Deep.CutRange
import Derived.Deep.DrawnRows
namespace Go.Proofs.YtmokofblmkeloaaGreatDoor
open Go.RowKit Go.Maps
set_option maxRecDepth 100000
attribute [local go_sem ↓] Go.wp_at_zero Go.wp_at_succ
/-- In block g is a table; its map lies in block b. -/
structure TabM (w : World) (g b : Nat) (f : NF) : Prop where
  own : Own w g #[.map (some b)]
  map : NearMap w b f
  ne : g ≠ b
namespace TabM
variable {w w1 : World} {g b r : Nat} {f f' : NF}
theorem next (h : TabM w g b f) (k : Ok w w1) : TabM w1 g b f := ⟨h.own.next k, h.map.next k, h.ne⟩
theorem only (h : TabM w g b f) (k : Only r w w1) (hg : g ≠ r) (hb : b ≠ r) : TabM w1 g b f := ⟨k.own h.own hg, h.map.only k hb, h.ne⟩
theorem turn (h : TabM w g b f) (k : Only b w w1) (hN : NearMap w1 b f') : TabM w1 g b f' := ⟨k.own h.own h.ne, hN, h.ne⟩
theorem lt (h : TabM w g b f) : g < w.heap.size ∧ b < w.heap.size := ⟨h.own.lt, h.map.lt⟩
end TabM
theorem memNew (w : World) : Calls Tryz.prog 27 #[] w fun e w' => e = .returned (.pointer (some ⟨w.heap.size + 1, 0, none⟩)) ∧ Ok w w' ∧ TabM w' (w.heap.size + 1) w.heap.size Mem.nobody := by
  have hok := Ok.refl w
  have hmm := @run_makeMap Tryz.prog
  go_enter Tryz.func27, Tryz.ntmps27
  go_wp2
  go_ret
  exact ⟨rfl, (hok.alloc _).alloc _, Own.new _ _ _ (by simp), (NearMap.made w).next ((Ok.refl _).alloc _), by omega⟩
theorem memDrop (g b : Nat) (f : NF) (x : Int) (w : World) (hT : TabM w g b f) (hx : (Lit.int .i64 x).wf = true) :
    Calls Tryz.prog 70 #[.pointer (some ⟨g, 0, none⟩), .int .i64 x] w fun e w' => e = .returned (.tuple #[]) ∧ Only b w w' ∧ TabM w' g b (Mem.dropI f x) := by
  have c0 := hT.own.cell 0 (v := .map (some b)) rfl
  have hgl := hT.lt.1
  have HT := Lib.hid hT
  clear hT
  go_enter Tryz.func70, Tryz.ntmps70
  go_wp2_with (at_delete; refine wpList_nb_drop rfl (.tmp 9) (.tmp 10) rfl rfl HT.out.map rfl hx ?_; intro w1 hN1 hb1)
  go_end0
  exact ⟨rfl, hb1, HT.out.turn hb1 hN1⟩
theorem memAge (g b : Nat) (f : NF) (x : Int) (w : World) (hT : TabM w g b f) (hx : (Lit.int .i64 x).wf = true) :
    Calls Tryz.prog 111 #[.pointer (some ⟨g, 0, none⟩), .int .i64 x] w fun e w' => e = .returned (.tuple #[.int .i64 (Mem.age (Mem.look f x)), .bool (Mem.look f x).isSome]) ∧ Ok w w' := by
  have c0 := hT.own.cell 0 (v := .map (some b)) rfl
  have hgl := hT.lt.1
  have HT := Lib.hid hT
  have hok := Ok.refl w
  obtain ⟨a, q, s, h1, h2, h3⟩ : ∃ a q s, (Mem.look f x).getD (0, 0) = (a, q) ∧ Mem.age (Mem.look f x) = a ∧ (Mem.look f x).isSome = s := by
    cases Mem.look f x with
    | none => exact ⟨0, 0, false, rfl, rfl, rfl⟩
    | some p => exact ⟨p.1, p.2, true, rfl, rfl, rfl⟩
  have HV : Hid (Value.tuple #[nbV ((Mem.look f x).getD (0, 0)), .bool (Mem.look f x).isSome] = .tuple #[.agg #[.int .i64 a, .int .i64 q], .bool s]) := Lib.hid (by rw [h1, h3])
  rw [h2, h3]
  clear hT h1 h2 h3
  go_enter Tryz.func111, Tryz.ntmps111
  go_wp2_with (at_lookup; refine wpList_nb_ok rfl (.tmp 14) (.tmp 15) rfl rfl HT.out.map rfl hx _ HV.out ?_)
  go_ret2
  exact ⟨rfl, hok.alloc _⟩
/-- What Hear leaves. -/
def HearEnd (g b : Nat) (f : NF) (x : Int) (w : World) (e : Ending) (w' : World) : Prop := e = .returned (.int .i64 (Mem.hearE f x)) ∧ Only b w w' ∧ TabM w' g b (Mem.hear f x)
theorem hear_not {f : NF} {x : Int} (h : Mem.hearE f x ≠ 0) : Mem.hear f x = f := if_neg h
/-- What each operation leaves. -/
def VMH8 (g b B k : Nat) (a : Int) (_w : World) (v : Value) : Nat → Prop
  | 0 => v = .pointer (some ⟨g, 0, none⟩)
  | 1 => v = .pointer (some ⟨g, 0, none⟩)
  | 2 => v = .pointer (some ⟨g, 0, none⟩)
  | 3 => v = .map (some b)
  | 4 => v = .int .i64 (k : Int)
  | 5 => v = .pointer (some ⟨B, 0, none⟩)
  | 6 => v = .int .i64 a
  | 7 => v = .agg #[.int .i64 a, .int .i64 0]
  | _ => v = .bool true
/-- It stays so. -/
def VCH8 (g b B k : Nat) (a : Int) (i : Nat) (v : Value) (w : World) : Prop := ∀ w', Ok w w' → VMH8 g b B k a w' v i
set_option maxHeartbeats 1600000 in
theorem memHear (g b : Nat) (f : NF) (x : Int) (w : World) (hT : TabM w g b f) (hG : Mem.Good f) (hx : (Lit.int .i64 x).wf = true) :
    Calls Tryz.prog 112 #[.pointer (some ⟨g, 0, none⟩), .int .i64 x] w (HearEnd g b f x w) := by
  by_cases hin : 0 ≤ x ∧ x < 48
  · obtain ⟨k, rfl⟩ : ∃ k : Nat, x = k := ⟨x.toNat, by omega⟩
    have hk : k < 48 := by omega
    have c0 := hT.own.cell 0 (v := .map (some b)) rfl
    have hgl := hT.lt.1
    have HT := Lib.hid hT
    have HG := Lib.hid hG
    have hok := Ok.refl w
    have hlk := Mem.look_at f k
    obtain ⟨a, q, s, h1, h2, h3⟩ : ∃ a q s, (f k).getD (0, 0) = (a, q) ∧ Mem.age (f k) = a ∧ (f k).isSome = s := by
      cases f k with
      | none => exact ⟨0, 0, false, rfl, rfl, rfl⟩
      | some p => exact ⟨p.1, p.2, true, rfl, rfl, rfl⟩
    have HV : Hid (Value.tuple #[nbV ((Mem.look f k).getD (0, 0)), .bool (Mem.look f k).isSome] = .tuple #[.agg #[.int .i64 a, .int .i64 q], .bool s]) := Lib.hid (by rw [hlk, h1, h3])
    have hl := fun ty => run_nb_len (hT.map.next ((Ok.refl w).alloc (.cells #[.int .i64 a, .int .i64 q] 119))) hG.far ty
    have hnone : s = false ↔ f k = none := by rw [← h3]; cases f k <;> simp
    obtain ⟨n, hn⟩ : ∃ n, (Mem.nums f).length = n := ⟨_, rfl⟩
    rw [hn] at hl
    have hE : Mem.hearE f k = if s = false ∧ n = 16 then 7 else 0 := by
      unfold Mem.hearE
      rw [if_pos (by omega), hlk, hn]
      by_cases e : s = false
      · rw [hnone.1 e, e]; simp
      · have : ¬ f k = none := fun g => e (hnone.2 g)
        simp [e, this]
    clear hT hG hin
    by_cases hm : s = false ∧ n = 16
    · rw [if_pos hm] at hE
      have HQ : Hid (HearEnd g b f k w (.returned (.int .i64 7)) (w.alloc (.cells #[.int .i64 a, .int .i64 q] 119))) := Lib.hid ⟨by rw [hE], Only.of_ok (hok.alloc _), by rw [hear_not (by rw [hE]; decide)]; exact HT.out.next (hok.alloc _)⟩
      obtain ⟨rfl, rfl⟩ := hm
      clear hn hE hlk hnone h1 h2 h3 HG
      go_enter Tryz.func112, Tryz.ntmps112
      go_wp2_with (at_lookup; refine wpList_nb_ok rfl (.tmp 19) (.tmp 20) rfl rfl HT.out.map rfl hx _ HV.out ?_)
      go_ret
      exact HQ.out
    · rw [if_neg hm] at hE
      have hO := (HT.out.own.next ((Ok.refl w).alloc (.cells #[.int .i64 a, .int .i64 q] 119)))
      have hB := Own.new w #[.int .i64 a, .int .i64 q] 119 rfl
      have hok1 : Ok w (w.alloc (.cells #[.int .i64 a, .int .i64 q] 119)) := hok.alloc _
      obtain ⟨W, hW⟩ : ∃ W, w.alloc (.cells #[.int .i64 a, .int .i64 q] 119) = W := ⟨_, rfl⟩
      have HM : Hid (∀ W' : World, Ok W.drew W' → ∃ W2, (Instr.mapUpdate 110 (.map (some b)) (.int .i64 (k : Int)) (.agg #[.int .i64 a, .int .i64 0])).run Tryz.prog W' = .ok () W2 ∧ NearMap W2 b (Mem.put f k (a, 0)) ∧ Only b W' W2) :=
        Lib.hid fun W' h => run_nb_put (HT.out.map.next (hok1.trans (by rw [hW]; exact (Ok.refl W).drew.trans h))) hk HG.out.far (a, 0)
      have HE : Hid (∀ W' W2 : World, Ok W.drew W' → NearMap W2 b (Mem.put f k (a, 0)) → Only b W' W2 → HearEnd g b f k w (.returned (.int .i64 0)) W2) := Lib.hid fun W' W2 h1' hN hb => by
        have hok2 : Ok w W' := hok1.trans (by rw [hW]; exact (Ok.refl W).drew.trans h1')
        refine ⟨by rw [hE], (Only.of_ok hok2).trans hb, ?_⟩
        have : Mem.hear f k = Mem.put f k (a, 0) := by
          unfold Mem.hear
          rw [if_pos hE, hlk, h2]; rfl
        rw [this]
        exact (HT.out.next hok2).turn hb hN
      have HW := Lib.hid hW
      rw [hW] at hO hB
      have HO : Hid (∀ W', Ok W.drew W' → Own W' g #[.map (some b)]) := Lib.hid fun W' h => hO.drew.next h
      have HB : Hid (∀ W', Ok W.drew W' → Own W' w.heap.size #[.int .i64 a, .int .i64 q]) := Lib.hid fun W' h => hB.drew.next h
      have hm2 : s = true ∨ s = false ∧ (((n : Nat) : Int) == 16) = false := by
        cases s with
        | true => exact .inl rfl
        | false => exact .inr ⟨rfl, by rw [beq_eq_false_iff_ne]; intro g; exact hm ⟨rfl, by omega⟩⟩
      clear hn hE hlk hnone h1 h2 h3 hO hB hok1 hok hW HG hm
      rcases hm2 with rfl | ⟨rfl, hd⟩
      · go_enter Tryz.func112, Tryz.ntmps112
        go_upto_region 8 with (at_lookup; refine wpList_nb_ok rfl (.tmp 19) (.tmp 20) rfl rfl HT.out.map rfl hx _ HV.out ?_)
        rw [HW.out]
        generalize w.heap.size = B at HB ⊢
        clear HW hl c0 HV HT hx
        refine wp_region_facts_last (by kernel_rfl) 42 rfl (VCH8 g b B k a) Ok _ rfl _ 8 rfl rfl rfl rfl (by kernel_rfl) (by kernel_rfl) (by kernel_rfl) (fun i v w w' h k w'' k' => h w'' (k.trans k')) (fun a b c => Ok.trans) (Ok.refl _) [some 34, some 35, some 36, some 37, some 38, some 39, some 40, some 41] rfl ⟨?_, ?_, ?_, ?_, ?_, ?_, ?_, ?_, trivial⟩ ?_
        · intro a' w' hF hR
          have e0 : a'.tmps[0]? = some (.pointer (some ⟨g, 0, none⟩)) := hF.slot 0 (by kernel_rfl) rfl
          refine wpOp_run (v := .pointer (some ⟨g, 0, none⟩)) rfl rfl ?_ (fun _ _ => rfl) (Ok.refl _)
          clear hF
          go_simp
        · intro a' w' hF hR
          obtain ⟨v0, hv0, e34⟩ := hF.get 0 34 (by kernel_rfl) (by kernel_rfl)
          obtain rfl : v0 = _ := hv0 _ (Ok.refl _)
          refine wpOp_run (v := .pointer (some ⟨g, 0, none⟩)) rfl rfl ?_ (fun _ _ => rfl) (Ok.refl _)
          clear hF
          go_simp
        · intro a' w' hF hR
          obtain ⟨v1, hv1, e35⟩ := hF.get 1 35 (by kernel_rfl) (by kernel_rfl)
          obtain rfl : v1 = _ := hv1 _ (Ok.refl _)
          refine wpOp_run (v := .pointer (some ⟨g, 0, none⟩)) rfl rfl ?_ (fun _ _ => rfl) (Ok.refl _)
          clear hF
          go_simp
        · intro a' w' hF hR
          obtain ⟨v2, hv2, e36⟩ := hF.get 2 36 (by kernel_rfl) (by kernel_rfl)
          obtain rfl : v2 = _ := hv2 _ (Ok.refl _)
          have c0 := (HO.out _ hR).cell 0 rfl
          refine wpOp_run (v := .map (some b)) rfl rfl ?_ (fun _ _ => rfl) (Ok.refl _)
          clear hF
          go_simp
        · intro a' w' hF hR
          have e1 : a'.tmps[1]? = some (.int .i64 (k : Int)) := hF.slot 1 (by kernel_rfl) rfl
          refine wpOp_run (v := .int .i64 (k : Int)) rfl rfl ?_ (fun _ _ => rfl) (Ok.refl _)
          clear hF
          go_simp
        · intro a' w' hF hR
          have e5 : a'.tmps[5]? = some (.pointer (some ⟨B, 0, none⟩)) := hF.slot 5 (by kernel_rfl) rfl
          refine wpOp_run (v := .pointer (some ⟨B, 0, none⟩)) rfl rfl ?_ (fun _ _ => rfl) (Ok.refl _)
          clear hF
          go_simp
        · intro a' w' hF hR
          obtain ⟨v5, hv5, e39⟩ := hF.get 5 39 (by kernel_rfl) (by kernel_rfl)
          obtain rfl : v5 = _ := hv5 _ (Ok.refl _)
          have c1 := (HB.out _ hR).cell 0 rfl
          refine wpOp_run (v := .int .i64 a) rfl rfl ?_ (fun _ _ => rfl) (Ok.refl _)
          clear hF
          go_simp
        · intro a' w' hF hR
          obtain ⟨v6, hv6, e40⟩ := hF.get 6 40 (by kernel_rfl) (by kernel_rfl)
          obtain rfl : v6 = _ := hv6 _ (Ok.refl _)
          refine wpOp_run (v := .agg #[.int .i64 a, .int .i64 0]) rfl rfl ?_ (fun _ _ => rfl) (Ok.refl _)
          clear hF
          go_simp
        intro vs W' hvs hR
        have e3 : vs 3 = .map (some b) := hvs 3 (by decide) _ (Ok.refl _)
        have e4 : vs 4 = .int .i64 (k : Int) := hvs 4 (by decide) _ (Ok.refl _)
        have e7 : vs 7 = .agg #[.int .i64 a, .int .i64 0] := hvs 7 (by decide) _ (Ok.refl _)
        obtain ⟨W2, hrun, hN2, hb2⟩ := HM.out _ hR
        clear hvs HO HB
        simp only [putFrom, e3, e4, e7]
        simp only [Act.put, List.setIfInBounds_toArray, List.set_cons_zero, List.set_cons_succ]
        refine wpOp_store (w' := W2) rfl rfl rfl ?_ ?_
        · go_simp
        have HQ := Lib.hid (HE.out _ _ hR hN2 hb2)
        clear hrun hN2 hb2 hR HM HE
        go_wp2
        go_ret
        exact HQ.out
      · go_enter Tryz.func112, Tryz.ntmps112
        go_upto_region 8 with (at_lookup; refine wpList_nb_ok rfl (.tmp 19) (.tmp 20) rfl rfl HT.out.map rfl hx _ HV.out ?_)
        rw [HW.out]
        generalize w.heap.size = B at HB ⊢
        clear HW hl c0 HV HT hx hd
        refine wp_region_facts_last (by kernel_rfl) 42 rfl (VCH8 g b B k a) Ok _ rfl _ 8 rfl rfl rfl rfl (by kernel_rfl) (by kernel_rfl) (by kernel_rfl) (fun i v w w' h k w'' k' => h w'' (k.trans k')) (fun a b c => Ok.trans) (Ok.refl _) [some 34, some 35, some 36, some 37, some 38, some 39, some 40, some 41] rfl ⟨?_, ?_, ?_, ?_, ?_, ?_, ?_, ?_, trivial⟩ ?_
        · intro a' w' hF hR
          have e0 : a'.tmps[0]? = some (.pointer (some ⟨g, 0, none⟩)) := hF.slot 0 (by kernel_rfl) rfl
          refine wpOp_run (v := .pointer (some ⟨g, 0, none⟩)) rfl rfl ?_ (fun _ _ => rfl) (Ok.refl _)
          clear hF
          go_simp
        · intro a' w' hF hR
          obtain ⟨v0, hv0, e34⟩ := hF.get 0 34 (by kernel_rfl) (by kernel_rfl)
          obtain rfl : v0 = _ := hv0 _ (Ok.refl _)
          refine wpOp_run (v := .pointer (some ⟨g, 0, none⟩)) rfl rfl ?_ (fun _ _ => rfl) (Ok.refl _)
          clear hF
          go_simp
        · intro a' w' hF hR
          obtain ⟨v1, hv1, e35⟩ := hF.get 1 35 (by kernel_rfl) (by kernel_rfl)
          obtain rfl : v1 = _ := hv1 _ (Ok.refl _)
          refine wpOp_run (v := .pointer (some ⟨g, 0, none⟩)) rfl rfl ?_ (fun _ _ => rfl) (Ok.refl _)
          clear hF
          go_simp
        · intro a' w' hF hR
          obtain ⟨v2, hv2, e36⟩ := hF.get 2 36 (by kernel_rfl) (by kernel_rfl)
          obtain rfl : v2 = _ := hv2 _ (Ok.refl _)
          have c0 := (HO.out _ hR).cell 0 rfl
          refine wpOp_run (v := .map (some b)) rfl rfl ?_ (fun _ _ => rfl) (Ok.refl _)
          clear hF
          go_simp
        · intro a' w' hF hR
          have e1 : a'.tmps[1]? = some (.int .i64 (k : Int)) := hF.slot 1 (by kernel_rfl) rfl
          refine wpOp_run (v := .int .i64 (k : Int)) rfl rfl ?_ (fun _ _ => rfl) (Ok.refl _)
          clear hF
          go_simp
        · intro a' w' hF hR
          have e5 : a'.tmps[5]? = some (.pointer (some ⟨B, 0, none⟩)) := hF.slot 5 (by kernel_rfl) rfl
          refine wpOp_run (v := .pointer (some ⟨B, 0, none⟩)) rfl rfl ?_ (fun _ _ => rfl) (Ok.refl _)
          clear hF
          go_simp
        · intro a' w' hF hR
          obtain ⟨v5, hv5, e39⟩ := hF.get 5 39 (by kernel_rfl) (by kernel_rfl)
          obtain rfl : v5 = _ := hv5 _ (Ok.refl _)
          have c1 := (HB.out _ hR).cell 0 rfl
          refine wpOp_run (v := .int .i64 a) rfl rfl ?_ (fun _ _ => rfl) (Ok.refl _)
          clear hF
          go_simp
        · intro a' w' hF hR
          obtain ⟨v6, hv6, e40⟩ := hF.get 6 40 (by kernel_rfl) (by kernel_rfl)
          obtain rfl : v6 = _ := hv6 _ (Ok.refl _)
          refine wpOp_run (v := .agg #[.int .i64 a, .int .i64 0]) rfl rfl ?_ (fun _ _ => rfl) (Ok.refl _)
          clear hF
          go_simp
        intro vs W' hvs hR
        have e3 : vs 3 = .map (some b) := hvs 3 (by decide) _ (Ok.refl _)
        have e4 : vs 4 = .int .i64 (k : Int) := hvs 4 (by decide) _ (Ok.refl _)
        have e7 : vs 7 = .agg #[.int .i64 a, .int .i64 0] := hvs 7 (by decide) _ (Ok.refl _)
        obtain ⟨W2, hrun, hN2, hb2⟩ := HM.out _ hR
        clear hvs HO HB
        simp only [putFrom, e3, e4, e7]
        simp only [Act.put, List.setIfInBounds_toArray, List.set_cons_zero, List.set_cons_succ]
        refine wpOp_store (w' := W2) rfl rfl rfl ?_ ?_
        · go_simp
        have HQ := Lib.hid (HE.out _ _ hR hN2 hb2)
        clear hrun hN2 hb2 hR HM HE
        go_wp2
        go_ret
        exact HQ.out
  · have hE : Mem.hearE f x = 1 := by unfold Mem.hearE; rw [if_neg hin]
    have HQ : Hid (HearEnd g b f x w (.returned (.int .i64 1)) w) := Lib.hid ⟨by rw [hE], Only.refl _ _, by rw [hear_not (by rw [hE]; decide)]; exact hT⟩
    clear hE hT hG hx
    by_cases h0 : x < 0
    · clear hin
      go_enter Tryz.func112, Tryz.ntmps112
      go_wp2
      go_ret
      exact HQ.out
    · have h48 : 48 ≤ x := by omega
      clear hin
      go_enter Tryz.func112, Tryz.ntmps112
      go_wp2
      go_ret
      exact HQ.out
end Go.Proofs.YtmokofblmkeloaaGreatDoor
