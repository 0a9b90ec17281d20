/- Contracts of layer 15: the document's Choose. -/
import Derived.Test.YtgkcmiaagbgajaaC15c
namespace Go.Proofs.Ytgkcmiaagbgajaa
open Go.RowKit
set_option maxRecDepth 100000
attribute [local go_sem ↓] Go.wp_at_zero Go.wp_at_succ
/-- The place of what is chosen, as the document tells it. -/
def placeOf : Option Nat → Int
  | none => -1
  | some j => j
/-- What each operation leaves. -/
def VMRE (p : Par) (m _n : Msg) (A _D : Option Addr) (c _d _b _off _L _cap _j : Nat) (_w : World) (v : Value) : Nat → Prop
  | 0 => v = parV p
  | 1 => v = .agg #[.int .i64 m.kind, .int .i64 m.frm, .int .i64 m.lo, .int .i64 m.hi, .int .i64 m.held, .int .i64 m.hops, .bool m.good, .bool m.ref, .int .i64 m.slo, .int .i64 m.shi, .int .i64 m.pulse, .int .i64 m.time, .int .i64 m.num, .slice A m.table.length c]
  | 2 => v = .bool true
  | 3 => v = .bool true
  | 4 => v = .int .i64 (-1)
  | 5 => v = .bool true
  | 6 => v = .bool true
  | 7 => v = undef
  | 8 => v = undef
  | 9 => v = undef
  | 10 => v = undef
  | 11 => v = undef
  | 12 => v = undef
  | 13 => v = .bool true
  | 14 => v = .bool true
  | _ => v = .bool true
/-- It stays so. -/
def VCRE (p : Par) (m n : Msg) (A D : Option Addr) (c d b off L cap j : Nat) (i : Nat) (v : Value) (w : World) : Prop := ∀ w', Ok w w' → VMRE p m n A D c d b off L cap j w' v i
/-- What each operation leaves. -/
def VMRT (p : Par) (m n : Msg) (A D : Option Addr) (c d b off L cap j : Nat) (_w : World) (v : Value) : Nat → Prop
  | 0 => v = parV p
  | 1 => v = .agg #[.int .i64 m.kind, .int .i64 m.frm, .int .i64 m.lo, .int .i64 m.hi, .int .i64 m.held, .int .i64 m.hops, .bool m.good, .bool m.ref, .int .i64 m.slo, .int .i64 m.shi, .int .i64 m.pulse, .int .i64 m.time, .int .i64 m.num, .slice A m.table.length c]
  | 2 => v = .bool true
  | 3 => v = .bool true
  | 4 => v = .int .i64 (j : Int)
  | 5 => v = .bool false
  | 6 => v = .bool false
  | 7 => v = .agg #[.int .i64 m.kind, .int .i64 m.frm, .int .i64 m.lo, .int .i64 m.hi, .int .i64 m.held, .int .i64 m.hops, .bool m.good, .bool m.ref, .int .i64 m.slo, .int .i64 m.shi, .int .i64 m.pulse, .int .i64 m.time, .int .i64 m.num, .slice A m.table.length c]
  | 8 => v = .slice (some ⟨b, off, none⟩) L cap
  | 9 => v = .int .i64 (j : Int)
  | 10 => v = .pointer (some ⟨b, off + j * 14, none⟩)
  | 11 => v = .agg #[.int .i64 n.kind, .int .i64 n.frm, .int .i64 n.lo, .int .i64 n.hi, .int .i64 n.held, .int .i64 n.hops, .bool n.good, .bool n.ref, .int .i64 n.slo, .int .i64 n.shi, .int .i64 n.pulse, .int .i64 n.time, .int .i64 n.num, .slice D n.table.length d]
  | 12 => v = .bool true
  | 13 => v = .bool true
  | 14 => v = .bool true
  | _ => v = .bool true
/-- It stays so. -/
def VCRT (p : Par) (m n : Msg) (A D : Option Addr) (c d b off L cap j : Nat) (i : Nat) (v : Value) (w : World) : Prop := ∀ w', Ok w w' → VMRT p m n A D c d b off L cap j w' v i
/-- What each operation leaves. -/
def VMRF (p : Par) (m n : Msg) (A D : Option Addr) (c d b off L cap j : Nat) (_w : World) (v : Value) : Nat → Prop
  | 0 => v = parV p
  | 1 => v = .agg #[.int .i64 m.kind, .int .i64 m.frm, .int .i64 m.lo, .int .i64 m.hi, .int .i64 m.held, .int .i64 m.hops, .bool m.good, .bool m.ref, .int .i64 m.slo, .int .i64 m.shi, .int .i64 m.pulse, .int .i64 m.time, .int .i64 m.num, .slice A m.table.length c]
  | 2 => v = .bool true
  | 3 => v = .bool true
  | 4 => v = .int .i64 (j : Int)
  | 5 => v = .bool false
  | 6 => v = .bool false
  | 7 => v = .agg #[.int .i64 m.kind, .int .i64 m.frm, .int .i64 m.lo, .int .i64 m.hi, .int .i64 m.held, .int .i64 m.hops, .bool m.good, .bool m.ref, .int .i64 m.slo, .int .i64 m.shi, .int .i64 m.pulse, .int .i64 m.time, .int .i64 m.num, .slice A m.table.length c]
  | 8 => v = .slice (some ⟨b, off, none⟩) L cap
  | 9 => v = .int .i64 (j : Int)
  | 10 => v = .pointer (some ⟨b, off + j * 14, none⟩)
  | 11 => v = .agg #[.int .i64 n.kind, .int .i64 n.frm, .int .i64 n.lo, .int .i64 n.hi, .int .i64 n.held, .int .i64 n.hops, .bool n.good, .bool n.ref, .int .i64 n.slo, .int .i64 n.shi, .int .i64 n.pulse, .int .i64 n.time, .int .i64 n.num, .slice D n.table.length d]
  | 12 => v = .bool false
  | 13 => v = .bool false
  | 14 => v = .bool false
  | _ => v = .bool true
/-- It stays so. -/
def VCRF (p : Par) (m n : Msg) (A D : Option Addr) (c d b off L cap j : Nat) (i : Nat) (v : Value) (w : World) : Prop := ∀ w', Ok w w' → VMRF p m n A D c d b off L cap j w' v i
/-- What each operation leaves. -/
def VMRN (p : Par) (m : Msg) (A : Option Addr) (c : Nat) (_w : World) (v : Value) : Nat → Prop
  | 0 => v = parV p
  | 1 => v = .agg #[.int .i64 m.kind, .int .i64 m.frm, .int .i64 m.lo, .int .i64 m.hi, .int .i64 m.held, .int .i64 m.hops, .bool m.good, .bool m.ref, .int .i64 m.slo, .int .i64 m.shi, .int .i64 m.pulse, .int .i64 m.time, .int .i64 m.num, .slice A m.table.length c]
  | 2 => v = .bool false
  | 3 => v = .bool false
  | 4 => v = undef
  | 5 => v = undef
  | 6 => v = undef
  | 7 => v = undef
  | 8 => v = undef
  | 9 => v = undef
  | 10 => v = undef
  | 11 => v = undef
  | 12 => v = undef
  | 13 => v = undef
  | 14 => v = .bool false
  | _ => v = .bool true
/-- It stays so. -/
def VCRN (p : Par) (m : Msg) (A : Option Addr) (c : Nat) (i : Nat) (v : Value) (w : World) : Prop := ∀ w', Ok w w' → VMRN p m A c w' v i
set_option maxHeartbeats 6400000 in
theorem ref15Choose (p : Par) (B : Option Addr) (l : List MA) (cap : Nat) (w : World) (hB : MsgsAt w B l) (hl : l.length ≤ 1048576) :
    Calls Try.prog 16 #[parV p, .slice B l.length cap] w fun e w' => e = .returned (.int .i64 (placeOf (chosen p.d l l.length))) ∧ Ok w w' := by
  have KU := Lib.hid fun m A c w => route15Usable p m A c w
  have KO := Lib.hid fun a A ca b B cb w => routeBefore a b A B ca cb w
  unfold msgV at KU KO
  have HB := Lib.hid hB
  clear hB
  have hP := Own.new w (parCells p) 23 rfl
  have hok := (Ok.refl w).alloc (.cells (parCells p) 23)
  go_enter Try.func16, Try.ntmps16
  go_upto_region 2 with (fail)
  generalize w.alloc (.cells (parCells p) 23) = W0 at hP hok ⊢
  generalize w.heap.size = P at hP ⊢
  go_wp2
  go_loopw [5, 10] (fun f i wr => ∃ k : Nat, k ≤ l.length ∧ i = .int .i64 k ∧ f = .int .i64 (placeOf (chosen p.d l k)) ∧ Own wr P (parCells p) ∧ Ok w wr) (fun _ i _ => l.length - (intOf i).toNat)
  case atStart => exact ⟨0, Nat.zero_le _, rfl, rfl, hP, hok⟩
  case round =>
    clear hP hok
    obtain ⟨k, hk, rfl, rfl, hP, hok⟩ := hrel
    by_cases hlt : k < l.length
    · have hBw := HB.out.below hok
      obtain ⟨b, off, hBe, hbl, x0, x1, x2, x3, x4, x5, x6, x7, x8, x9, x10, x11, x12, x13⟩ := hBw.nthAt k hlt
      subst hBe
      have HN : Hid (∀ r, chosen p.d l k = r → (Route.may p.d (nth l k).m = false → chosen p.d l (k + 1) = r) ∧ (∀ j, r = some j → ¬ Route.lt3 (nth l k).m (nth l j).m → chosen p.d l (k + 1) = r) ∧ (Route.may p.d (nth l k).m = true → (r = none ∨ ∃ j, r = some j ∧ Route.lt3 (nth l k).m (nth l j).m) → chosen p.d l (k + 1) = some k) ∧ ∀ j, r = some j → j < l.length) := Lib.hid fun r hr => by
        subst hr
        exact ⟨fun h => Route.pick_pass (Or.inl h), fun j hj h => Route.pick_pass (Or.inr ⟨j, hj, h⟩), fun h1 h2 => Route.pick_take h1 h2, fun j hj => Nat.lt_of_lt_of_le (Route.pick_lt hj) (Nat.le_of_lt hlt)⟩
      obtain ⟨r', hr'⟩ : ∃ r', chosen p.d l k = r' := ⟨_, rfl⟩
      rw [hr']
      replace HN := Lib.hid (HN.out r' hr')
      clear hr'
      have HKU := Lib.hid fun w => KU.out (nth l k).m (nth l k).A (nth l k).cap w
      obtain ⟨x, hx⟩ : ∃ x, nth l k = x := ⟨_, rfl⟩
      rw [hx] at HN HKU x0 x1 x2 x3 x4 x5 x6 x7 x8 x9 x10 x11 x12 x13
      clear hx
      obtain ⟨m, A, c⟩ := x
      simp only at HN HKU x0 x1 x2 x3 x4 x5 x6 x7 x8 x9 x10 x11 x12 x13
      have hX : Own (wr.alloc (.cells #[.int .i64 m.kind, .int .i64 m.frm, .int .i64 m.lo, .int .i64 m.hi, .int .i64 m.held, .int .i64 m.hops, .bool m.good, .bool m.ref, .int .i64 m.slo, .int .i64 m.shi, .int .i64 m.pulse, .int .i64 m.time, .int .i64 m.num, .slice A m.table.length c] 38)) wr.heap.size (msgCells m A c) := Own.new wr _ 38 rfl
      replace hP := hP.alloc (.cells #[.int .i64 m.kind, .int .i64 m.frm, .int .i64 m.lo, .int .i64 m.hi, .int .i64 m.held, .int .i64 m.hops, .bool m.good, .bool m.ref, .int .i64 m.slo, .int .i64 m.shi, .int .i64 m.pulse, .int .i64 m.time, .int .i64 m.num, .slice A m.table.length c] 38)
      replace hok := hok.alloc (.cells #[.int .i64 m.kind, .int .i64 m.frm, .int .i64 m.lo, .int .i64 m.hi, .int .i64 m.held, .int .i64 m.hops, .bool m.good, .bool m.ref, .int .i64 m.slo, .int .i64 m.shi, .int .i64 m.pulse, .int .i64 m.time, .int .i64 m.num, .slice A m.table.length c] 38)
      replace hBw := hBw.below ((Ok.refl wr).alloc (.cells #[.int .i64 m.kind, .int .i64 m.frm, .int .i64 m.lo, .int .i64 m.hi, .int .i64 m.held, .int .i64 m.hops, .bool m.good, .bool m.ref, .int .i64 m.slo, .int .i64 m.shi, .int .i64 m.pulse, .int .i64 m.time, .int .i64 m.num, .slice A m.table.length c] 38))
      go_upto_region 5 with (fail)
      clear x0 x1 x2 x3 x4 x5 x6 x7 x8 x9 x10 x11 x12 x13 hbl KU
      generalize wr.alloc (.cells #[.int .i64 m.kind, .int .i64 m.frm, .int .i64 m.lo, .int .i64 m.hi, .int .i64 m.held, .int .i64 m.hops, .bool m.good, .bool m.ref, .int .i64 m.slo, .int .i64 m.shi, .int .i64 m.pulse, .int .i64 m.time, .int .i64 m.num, .slice A m.table.length c] 38) = W at hX hP hok hBw ⊢
      generalize wr.heap.size = g at hX ⊢
      have HP := Lib.hid fun W' (k : Ok W.drew W') => hP.drew.next k
      have HX := Lib.hid fun W' (k : Ok W.drew W') => hX.drew.next k
      have HBw := Lib.hid fun W' (k : Ok W.drew W') => hBw.below ((Ok.refl W).drew.trans k)
      clear hP hX hBw
      cases hmay : Route.may p.d m
      · rw [hmay] at HKU
        have HNX := Lib.hid (HN.out.1 hmay)
        clear hmay
        refine wp_region_facts (by kernel_rfl) 33 rfl (VCRN p m A c) Ok (by kernel_rfl) (fun i v w w' h k w'' k' => h w'' (k.trans k')) (fun a b c => Ok.trans) (Ok.refl _) [some 15, some 16, some 17, some 18, some 19, some 20, some 21, some 22, some 23, some 24, some 25, some 26, some 27, some 28, some 29] rfl 15 rfl ⟨?_, ?_, ?_, ?_, ?_, ?_, ?_, ?_, ?_, ?_, ?_, ?_, ?_, ?_, ?_, trivial⟩ ?_
        · intro a' w' hF hR
          have e2 : a'.tmps[2]? = some (.pointer (some ⟨P, 0, none⟩)) := hF.slot 2 (by kernel_rfl) rfl
          obtain ⟨p0, p1, p2, p3, p4, p5, p6, p7, p8, p9, p10, p11⟩ := (HP.out _ hR).pars
          refine wpOp_run (v := parV p) rfl rfl ?_ (fun _ _ => rfl) (Ok.refl _)
          clear hF
          go_simp
        · intro a' w' hF hR
          have e7 : a'.tmps[7]? = some (.pointer (some ⟨g, 0, none⟩)) := hF.slot 7 (by kernel_rfl) rfl
          obtain ⟨x0, x1, x2, x3, x4, x5, x6, x7, x8, x9, x10, x11, x12, x13⟩ := (HX.out _ hR).msg
          refine wpOp_run (v := .agg #[.int .i64 m.kind, .int .i64 m.frm, .int .i64 m.lo, .int .i64 m.hi, .int .i64 m.held, .int .i64 m.hops, .bool m.good, .bool m.ref, .int .i64 m.slo, .int .i64 m.shi, .int .i64 m.pulse, .int .i64 m.time, .int .i64 m.num, .slice A m.table.length c]) rfl rfl ?_ (fun _ _ => rfl) (Ok.refl _)
          clear hF
          go_simp
        · intro a' w' hF hR
          obtain ⟨v0, hv0, e15⟩ := hF.get 0 15 (by kernel_rfl) (by kernel_rfl)
          obtain rfl : v0 = _ := hv0 _ (Ok.refl _)
          obtain ⟨v1, hv1, e16⟩ := hF.get 1 16 (by kernel_rfl) (by kernel_rfl)
          obtain rfl : v1 = _ := hv1 _ (Ok.refl _)
          clear hF
          refine wpOp_call (f := 14) (args := #[parV p, .agg #[.int .i64 m.kind, .int .i64 m.frm, .int .i64 m.lo, .int .i64 m.hi, .int .i64 m.held, .int .i64 m.hops, .bool m.good, .bool m.ref, .int .i64 m.slo, .int .i64 m.shi, .int .i64 m.pulse, .int .i64 m.time, .int .i64 m.num, .slice A m.table.length c]]) rfl rfl ?_ ((HKU.out _).mono ?_)
          · go_simp
          · rintro e w2 ⟨rfl, hb2⟩; exact ⟨_, rfl, fun _ _ => rfl, hb2⟩
        · intro a' w' hF hR
          obtain ⟨v2, hv2, e17⟩ := hF.get 2 17 (by kernel_rfl) (by kernel_rfl)
          obtain rfl : v2 = _ := hv2 _ (Ok.refl _)
          refine wpOp_run (v := .bool false) rfl rfl ?_ (fun _ _ => rfl) (Ok.refl _)
          clear hF
          go_simp
        · intro a' w' hF hR
          obtain ⟨vg, hvg, eg⟩ := hF.get 3 18 (by kernel_rfl) (by kernel_rfl)
          obtain rfl : vg = _ := hvg _ (Ok.refl _)
          exact wpOp_skip rfl (wanted_not rfl (by kernel_rfl) eg (by simp)) (fun _ _ => rfl) (Ok.refl _)
        · intro a' w' hF hR
          obtain ⟨vg, hvg, eg⟩ := hF.get 3 18 (by kernel_rfl) (by kernel_rfl)
          obtain rfl : vg = _ := hvg _ (Ok.refl _)
          exact wpOp_skip rfl (wanted_not rfl (by kernel_rfl) eg (by simp)) (fun _ _ => rfl) (Ok.refl _)
        · intro a' w' hF hR
          obtain ⟨vg, hvg, eg⟩ := hF.get 3 18 (by kernel_rfl) (by kernel_rfl)
          obtain rfl : vg = _ := hvg _ (Ok.refl _)
          exact wpOp_skip rfl (wanted_not rfl (by kernel_rfl) eg (by simp)) (fun _ _ => rfl) (Ok.refl _)
        · intro a' w' hF hR
          obtain ⟨vg, hvg, eg⟩ := hF.get 6 21 (by kernel_rfl) (by kernel_rfl)
          obtain rfl : vg = _ := hvg _ (Ok.refl _)
          exact wpOp_skip rfl (wanted_not rfl (by kernel_rfl) eg (by simp [undef])) (fun _ _ => rfl) (Ok.refl _)
        · intro a' w' hF hR
          obtain ⟨vg, hvg, eg⟩ := hF.get 6 21 (by kernel_rfl) (by kernel_rfl)
          obtain rfl : vg = _ := hvg _ (Ok.refl _)
          exact wpOp_skip rfl (wanted_not rfl (by kernel_rfl) eg (by simp [undef])) (fun _ _ => rfl) (Ok.refl _)
        · intro a' w' hF hR
          obtain ⟨vg, hvg, eg⟩ := hF.get 6 21 (by kernel_rfl) (by kernel_rfl)
          obtain rfl : vg = _ := hvg _ (Ok.refl _)
          exact wpOp_skip rfl (wanted_not rfl (by kernel_rfl) eg (by simp [undef])) (fun _ _ => rfl) (Ok.refl _)
        · intro a' w' hF hR
          obtain ⟨vg, hvg, eg⟩ := hF.get 6 21 (by kernel_rfl) (by kernel_rfl)
          obtain rfl : vg = _ := hvg _ (Ok.refl _)
          exact wpOp_skip rfl (wanted_not rfl (by kernel_rfl) eg (by simp [undef])) (fun _ _ => rfl) (Ok.refl _)
        · intro a' w' hF hR
          obtain ⟨vg, hvg, eg⟩ := hF.get 6 21 (by kernel_rfl) (by kernel_rfl)
          obtain rfl : vg = _ := hvg _ (Ok.refl _)
          exact wpOp_skip rfl (wanted_not rfl (by kernel_rfl) eg (by simp [undef])) (fun _ _ => rfl) (Ok.refl _)
        · intro a' w' hF hR
          obtain ⟨vg, hvg, eg⟩ := hF.get 6 21 (by kernel_rfl) (by kernel_rfl)
          obtain rfl : vg = _ := hvg _ (Ok.refl _)
          exact wpOp_skip rfl (wanted_not rfl (by kernel_rfl) eg (by simp [undef])) (fun _ _ => rfl) (Ok.refl _)
        · intro a' w' hF hR
          obtain ⟨vg, hvg, eg⟩ := hF.get 3 18 (by kernel_rfl) (by kernel_rfl)
          obtain rfl : vg = _ := hvg _ (Ok.refl _)
          exact wpOp_skip rfl (wanted_not rfl (by kernel_rfl) eg (by simp)) (fun _ _ => rfl) (Ok.refl _)
        · intro a' w' hF hR
          obtain ⟨v3, hv3, e18⟩ := hF.get 3 18 (by kernel_rfl) (by kernel_rfl)
          obtain rfl : v3 = _ := hv3 _ (Ok.refl _)
          obtain ⟨v13, hv13, e28⟩ := hF.get 13 28 (by kernel_rfl) (by kernel_rfl)
          obtain rfl : v13 = _ := hv13 _ (Ok.refl _)
          refine wpOp_run (v := .bool false) rfl rfl ?_ (fun _ _ => rfl) (Ok.refl _)
          clear hF
          go_simp
        intro vs w2 hV hR
        have e14 : vs 14 = .bool false := hV 14 (by decide) _ (Ok.refl _)
        have hP2 := HP.out _ hR
        have hok2 := hok.trans ((Ok.refl W).drew.trans hR)
        clear hV HP HX HKU
        simp only [putFrom, e14]
        simp only [Act.put, List.setIfInBounds_toArray, List.set_cons_zero, List.set_cons_succ]
        clear e14
        go_wp2
        go_roundw
        case rel => exact ⟨k + 1, by omega, by go_num, by rw [HNX.out] <;> rfl, hP2, hok2⟩
        case measure => simp [intOf]; omega
      · rw [hmay] at HKU
        cases r' with
        | none =>
          have HNX := Lib.hid (HN.out.2.2.1 hmay (Or.inl rfl))
          clear hmay
          show Code.wp _ _ _ _ _
          simp only [placeOf]
          obtain ⟨n, D, d, j, _⟩ : ∃ (n : Msg) (D : Option Addr) (d j : Nat), True := ⟨zeroMsg, none, 0, 0, trivial⟩
          refine wp_region_facts (by kernel_rfl) 33 rfl (VCRE p m n A D c d b off l.length cap j) Ok (by kernel_rfl) (fun i v w w' h k w'' k' => h w'' (k.trans k')) (fun a b c => Ok.trans) (Ok.refl _) [some 15, some 16, some 17, some 18, some 19, some 20, some 21, some 22, some 23, some 24, some 25, some 26, some 27, some 28, some 29] rfl 15 rfl ⟨?_, ?_, ?_, ?_, ?_, ?_, ?_, ?_, ?_, ?_, ?_, ?_, ?_, ?_, ?_, trivial⟩ ?_
          · intro a' w' hF hR
            have e2 : a'.tmps[2]? = some (.pointer (some ⟨P, 0, none⟩)) := hF.slot 2 (by kernel_rfl) rfl
            obtain ⟨p0, p1, p2, p3, p4, p5, p6, p7, p8, p9, p10, p11⟩ := (HP.out _ hR).pars
            refine wpOp_run (v := parV p) rfl rfl ?_ (fun _ _ => rfl) (Ok.refl _)
            clear hF
            go_simp
          · intro a' w' hF hR
            have e7 : a'.tmps[7]? = some (.pointer (some ⟨g, 0, none⟩)) := hF.slot 7 (by kernel_rfl) rfl
            obtain ⟨x0, x1, x2, x3, x4, x5, x6, x7, x8, x9, x10, x11, x12, x13⟩ := (HX.out _ hR).msg
            refine wpOp_run (v := .agg #[.int .i64 m.kind, .int .i64 m.frm, .int .i64 m.lo, .int .i64 m.hi, .int .i64 m.held, .int .i64 m.hops, .bool m.good, .bool m.ref, .int .i64 m.slo, .int .i64 m.shi, .int .i64 m.pulse, .int .i64 m.time, .int .i64 m.num, .slice A m.table.length c]) rfl rfl ?_ (fun _ _ => rfl) (Ok.refl _)
            clear hF
            go_simp
          · intro a' w' hF hR
            obtain ⟨v0, hv0, e15⟩ := hF.get 0 15 (by kernel_rfl) (by kernel_rfl)
            obtain rfl : v0 = _ := hv0 _ (Ok.refl _)
            obtain ⟨v1, hv1, e16⟩ := hF.get 1 16 (by kernel_rfl) (by kernel_rfl)
            obtain rfl : v1 = _ := hv1 _ (Ok.refl _)
            clear hF
            refine wpOp_call (f := 14) (args := #[parV p, .agg #[.int .i64 m.kind, .int .i64 m.frm, .int .i64 m.lo, .int .i64 m.hi, .int .i64 m.held, .int .i64 m.hops, .bool m.good, .bool m.ref, .int .i64 m.slo, .int .i64 m.shi, .int .i64 m.pulse, .int .i64 m.time, .int .i64 m.num, .slice A m.table.length c]]) rfl rfl ?_ ((HKU.out _).mono ?_)
            · go_simp
            · rintro e w2 ⟨rfl, hb2⟩; exact ⟨_, rfl, fun _ _ => rfl, hb2⟩
          · intro a' w' hF hR
            obtain ⟨v2, hv2, e17⟩ := hF.get 2 17 (by kernel_rfl) (by kernel_rfl)
            obtain rfl : v2 = _ := hv2 _ (Ok.refl _)
            refine wpOp_run (v := .bool true) rfl rfl ?_ (fun _ _ => rfl) (Ok.refl _)
            clear hF
            go_simp
          · intro a' w' hF hR
            have e5 : a'.tmps[5]? = some (.int .i64 (-1)) := hF.slot 5 (by kernel_rfl) rfl
            obtain ⟨vg, hvg, eg⟩ := hF.get 3 18 (by kernel_rfl) (by kernel_rfl)
            obtain rfl : vg = _ := hvg _ (Ok.refl _)
            refine wpOp_runG (v := .int .i64 (-1)) rfl (wanted_yes rfl (by kernel_rfl) eg) ?_ (fun _ _ => rfl) (Ok.refl _)
            clear hF
            go_simp
          · intro a' w' hF hR
            obtain ⟨v4, hv4, e19⟩ := hF.get 4 19 (by kernel_rfl) (by kernel_rfl)
            obtain rfl : v4 = _ := hv4 _ (Ok.refl _)
            obtain ⟨vg, hvg, eg⟩ := hF.get 3 18 (by kernel_rfl) (by kernel_rfl)
            obtain rfl : vg = _ := hvg _ (Ok.refl _)
            refine wpOp_runG (v := .bool true) rfl (wanted_yes rfl (by kernel_rfl) eg) ?_ (fun _ _ => rfl) (Ok.refl _)
            clear hF
            go_simp
          · intro a' w' hF hR
            obtain ⟨v5, hv5, e20⟩ := hF.get 5 20 (by kernel_rfl) (by kernel_rfl)
            obtain rfl : v5 = _ := hv5 _ (Ok.refl _)
            obtain ⟨vg, hvg, eg⟩ := hF.get 3 18 (by kernel_rfl) (by kernel_rfl)
            obtain rfl : vg = _ := hvg _ (Ok.refl _)
            refine wpOp_runG (v := .bool true) rfl (wanted_yes rfl (by kernel_rfl) eg) ?_ (fun _ _ => rfl) (Ok.refl _)
            clear hF
            go_simp
          · intro a' w' hF hR
            obtain ⟨vg, hvg, eg⟩ := hF.get 6 21 (by kernel_rfl) (by kernel_rfl)
            obtain rfl : vg = _ := hvg _ (Ok.refl _)
            exact wpOp_skip rfl (wanted_not rfl (by kernel_rfl) eg (by simp)) (fun _ _ => rfl) (Ok.refl _)
          · intro a' w' hF hR
            obtain ⟨vg, hvg, eg⟩ := hF.get 6 21 (by kernel_rfl) (by kernel_rfl)
            obtain rfl : vg = _ := hvg _ (Ok.refl _)
            exact wpOp_skip rfl (wanted_not rfl (by kernel_rfl) eg (by simp)) (fun _ _ => rfl) (Ok.refl _)
          · intro a' w' hF hR
            obtain ⟨vg, hvg, eg⟩ := hF.get 6 21 (by kernel_rfl) (by kernel_rfl)
            obtain rfl : vg = _ := hvg _ (Ok.refl _)
            exact wpOp_skip rfl (wanted_not rfl (by kernel_rfl) eg (by simp)) (fun _ _ => rfl) (Ok.refl _)
          · intro a' w' hF hR
            obtain ⟨vg, hvg, eg⟩ := hF.get 6 21 (by kernel_rfl) (by kernel_rfl)
            obtain rfl : vg = _ := hvg _ (Ok.refl _)
            exact wpOp_skip rfl (wanted_not rfl (by kernel_rfl) eg (by simp)) (fun _ _ => rfl) (Ok.refl _)
          · intro a' w' hF hR
            obtain ⟨vg, hvg, eg⟩ := hF.get 6 21 (by kernel_rfl) (by kernel_rfl)
            obtain rfl : vg = _ := hvg _ (Ok.refl _)
            exact wpOp_skip rfl (wanted_not rfl (by kernel_rfl) eg (by simp)) (fun _ _ => rfl) (Ok.refl _)
          · intro a' w' hF hR
            obtain ⟨vg, hvg, eg⟩ := hF.get 6 21 (by kernel_rfl) (by kernel_rfl)
            obtain rfl : vg = _ := hvg _ (Ok.refl _)
            exact wpOp_skip rfl (wanted_not rfl (by kernel_rfl) eg (by simp)) (fun _ _ => rfl) (Ok.refl _)
          · intro a' w' hF hR
            obtain ⟨v6, hv6, e21⟩ := hF.get 6 21 (by kernel_rfl) (by kernel_rfl)
            obtain rfl : v6 = _ := hv6 _ (Ok.refl _)
            obtain ⟨v12, hv12, e27⟩ := hF.get 12 27 (by kernel_rfl) (by kernel_rfl)
            obtain rfl : v12 = _ := hv12 _ (Ok.refl _)
            obtain ⟨vg, hvg, eg⟩ := hF.get 3 18 (by kernel_rfl) (by kernel_rfl)
            obtain rfl : vg = _ := hvg _ (Ok.refl _)
            refine wpOp_runG (v := .bool true) rfl (wanted_yes rfl (by kernel_rfl) eg) ?_ (fun _ _ => rfl) (Ok.refl _)
            clear hF
            go_simp
          · intro a' w' hF hR
            obtain ⟨v3, hv3, e18⟩ := hF.get 3 18 (by kernel_rfl) (by kernel_rfl)
            obtain rfl : v3 = _ := hv3 _ (Ok.refl _)
            obtain ⟨v13, hv13, e28⟩ := hF.get 13 28 (by kernel_rfl) (by kernel_rfl)
            obtain rfl : v13 = _ := hv13 _ (Ok.refl _)
            refine wpOp_run (v := .bool true) rfl rfl ?_ (fun _ _ => rfl) (Ok.refl _)
            clear hF
            go_simp
          intro vs w2 hV hR
          have e14 : vs 14 = .bool true := hV 14 (by decide) _ (Ok.refl _)
          have hP2 := HP.out _ hR
          have hok2 := hok.trans ((Ok.refl W).drew.trans hR)
          clear hV HP HX HKU
          simp only [putFrom, e14]
          simp only [Act.put, List.setIfInBounds_toArray, List.set_cons_zero, List.set_cons_succ]
          clear e14
          go_wp2
          go_roundw
          case rel => exact ⟨k + 1, by omega, by go_num, by rw [HNX.out] <;> rfl, hP2, hok2⟩
          case measure => simp [intOf]; omega
        | some j =>
          have hjl : j < l.length := HN.out.2.2.2 j rfl
          have HY : Hid (∀ W', Ok W.drew W' → W'.cell? ⟨b, off + j * 14, none⟩ = some (.int .i64 (nth l j).m.kind) ∧ W'.cell? ⟨b, off + j * 14 + 1, none⟩ = some (.int .i64 (nth l j).m.frm) ∧ W'.cell? ⟨b, off + j * 14 + 2, none⟩ = some (.int .i64 (nth l j).m.lo) ∧ W'.cell? ⟨b, off + j * 14 + 3, none⟩ = some (.int .i64 (nth l j).m.hi) ∧ W'.cell? ⟨b, off + j * 14 + 4, none⟩ = some (.int .i64 (nth l j).m.held) ∧ W'.cell? ⟨b, off + j * 14 + 5, none⟩ = some (.int .i64 (nth l j).m.hops) ∧ W'.cell? ⟨b, off + j * 14 + 6, none⟩ = some (.bool (nth l j).m.good) ∧ W'.cell? ⟨b, off + j * 14 + 7, none⟩ = some (.bool (nth l j).m.ref) ∧ W'.cell? ⟨b, off + j * 14 + 8, none⟩ = some (.int .i64 (nth l j).m.slo) ∧ W'.cell? ⟨b, off + j * 14 + 9, none⟩ = some (.int .i64 (nth l j).m.shi) ∧ W'.cell? ⟨b, off + j * 14 + 10, none⟩ = some (.int .i64 (nth l j).m.pulse) ∧ W'.cell? ⟨b, off + j * 14 + 11, none⟩ = some (.int .i64 (nth l j).m.time) ∧ W'.cell? ⟨b, off + j * 14 + 12, none⟩ = some (.int .i64 (nth l j).m.num) ∧ W'.cell? ⟨b, off + j * 14 + 13, none⟩ = some (.slice (nth l j).A (nth l j).m.table.length (nth l j).cap)) := Lib.hid fun W' k => by
            obtain ⟨b', off', e, _, h⟩ := (HBw.out W' k).nthAt j hjl
            cases e
            exact h
          have HKO := Lib.hid fun w => KO.out m A c (nth l j).m (nth l j).A (nth l j).cap w
          have HNT := Lib.hid (HN.out.2.2.1 hmay)
          have HNF := Lib.hid (HN.out.2.1 j rfl)
          clear hmay HN
          simp only [placeOf]
          by_cases hlt3 : Route.lt3 m (nth l j).m
          · have HNX := Lib.hid (HNT.out (Or.inr ⟨j, rfl, hlt3⟩))
            rw [decide_eq_true hlt3] at HKO
            clear hlt3 HNT HNF
            obtain ⟨y, hy⟩ : ∃ y, nth l j = y := ⟨_, rfl⟩
            rw [hy] at HY HKO
            clear hy
            obtain ⟨n, D, d⟩ := y
            simp only at HY HKO
            refine wp_region_facts (by kernel_rfl) 33 rfl (VCRT p m n A D c d b off l.length cap j) Ok (by kernel_rfl) (fun i v w w' h k w'' k' => h w'' (k.trans k')) (fun a b c => Ok.trans) (Ok.refl _) [some 15, some 16, some 17, some 18, some 19, some 20, some 21, some 22, some 23, some 24, some 25, some 26, some 27, some 28, some 29] rfl 15 rfl ⟨?_, ?_, ?_, ?_, ?_, ?_, ?_, ?_, ?_, ?_, ?_, ?_, ?_, ?_, ?_, trivial⟩ ?_
            · intro a' w' hF hR
              have e2 : a'.tmps[2]? = some (.pointer (some ⟨P, 0, none⟩)) := hF.slot 2 (by kernel_rfl) rfl
              obtain ⟨p0, p1, p2, p3, p4, p5, p6, p7, p8, p9, p10, p11⟩ := (HP.out _ hR).pars
              refine wpOp_run (v := parV p) rfl rfl ?_ (fun _ _ => rfl) (Ok.refl _)
              clear hF
              go_simp
            · intro a' w' hF hR
              have e7 : a'.tmps[7]? = some (.pointer (some ⟨g, 0, none⟩)) := hF.slot 7 (by kernel_rfl) rfl
              obtain ⟨x0, x1, x2, x3, x4, x5, x6, x7, x8, x9, x10, x11, x12, x13⟩ := (HX.out _ hR).msg
              refine wpOp_run (v := .agg #[.int .i64 m.kind, .int .i64 m.frm, .int .i64 m.lo, .int .i64 m.hi, .int .i64 m.held, .int .i64 m.hops, .bool m.good, .bool m.ref, .int .i64 m.slo, .int .i64 m.shi, .int .i64 m.pulse, .int .i64 m.time, .int .i64 m.num, .slice A m.table.length c]) rfl rfl ?_ (fun _ _ => rfl) (Ok.refl _)
              clear hF
              go_simp
            · intro a' w' hF hR
              obtain ⟨v0, hv0, e15⟩ := hF.get 0 15 (by kernel_rfl) (by kernel_rfl)
              obtain rfl : v0 = _ := hv0 _ (Ok.refl _)
              obtain ⟨v1, hv1, e16⟩ := hF.get 1 16 (by kernel_rfl) (by kernel_rfl)
              obtain rfl : v1 = _ := hv1 _ (Ok.refl _)
              clear hF
              refine wpOp_call (f := 14) (args := #[parV p, .agg #[.int .i64 m.kind, .int .i64 m.frm, .int .i64 m.lo, .int .i64 m.hi, .int .i64 m.held, .int .i64 m.hops, .bool m.good, .bool m.ref, .int .i64 m.slo, .int .i64 m.shi, .int .i64 m.pulse, .int .i64 m.time, .int .i64 m.num, .slice A m.table.length c]]) rfl rfl ?_ ((HKU.out _).mono ?_)
              · go_simp
              · rintro e w2 ⟨rfl, hb2⟩; exact ⟨_, rfl, fun _ _ => rfl, hb2⟩
            · intro a' w' hF hR
              obtain ⟨v2, hv2, e17⟩ := hF.get 2 17 (by kernel_rfl) (by kernel_rfl)
              obtain rfl : v2 = _ := hv2 _ (Ok.refl _)
              refine wpOp_run (v := .bool true) rfl rfl ?_ (fun _ _ => rfl) (Ok.refl _)
              clear hF
              go_simp
            · intro a' w' hF hR
              have e5 : a'.tmps[5]? = some (.int .i64 (j : Int)) := hF.slot 5 (by kernel_rfl) rfl
              obtain ⟨vg, hvg, eg⟩ := hF.get 3 18 (by kernel_rfl) (by kernel_rfl)
              obtain rfl : vg = _ := hvg _ (Ok.refl _)
              refine wpOp_runG (v := .int .i64 (j : Int)) rfl (wanted_yes rfl (by kernel_rfl) eg) ?_ (fun _ _ => rfl) (Ok.refl _)
              clear hF
              go_simp
            · intro a' w' hF hR
              obtain ⟨v4, hv4, e19⟩ := hF.get 4 19 (by kernel_rfl) (by kernel_rfl)
              obtain rfl : v4 = _ := hv4 _ (Ok.refl _)
              obtain ⟨vg, hvg, eg⟩ := hF.get 3 18 (by kernel_rfl) (by kernel_rfl)
              obtain rfl : vg = _ := hvg _ (Ok.refl _)
              refine wpOp_runG (v := .bool false) rfl (wanted_yes rfl (by kernel_rfl) eg) ?_ (fun _ _ => rfl) (Ok.refl _)
              clear hF
              go_simp
            · intro a' w' hF hR
              obtain ⟨v5, hv5, e20⟩ := hF.get 5 20 (by kernel_rfl) (by kernel_rfl)
              obtain rfl : v5 = _ := hv5 _ (Ok.refl _)
              obtain ⟨vg, hvg, eg⟩ := hF.get 3 18 (by kernel_rfl) (by kernel_rfl)
              obtain rfl : vg = _ := hvg _ (Ok.refl _)
              refine wpOp_runG (v := .bool false) rfl (wanted_yes rfl (by kernel_rfl) eg) ?_ (fun _ _ => rfl) (Ok.refl _)
              clear hF
              go_simp
            · intro a' w' hF hR
              have e7 : a'.tmps[7]? = some (.pointer (some ⟨g, 0, none⟩)) := hF.slot 7 (by kernel_rfl) rfl
              obtain ⟨vg, hvg, eg⟩ := hF.get 6 21 (by kernel_rfl) (by kernel_rfl)
              obtain rfl : vg = _ := hvg _ (Ok.refl _)
              obtain ⟨x0, x1, x2, x3, x4, x5, x6, x7, x8, x9, x10, x11, x12, x13⟩ := (HX.out _ hR).msg
              refine wpOp_runG (v := .agg #[.int .i64 m.kind, .int .i64 m.frm, .int .i64 m.lo, .int .i64 m.hi, .int .i64 m.held, .int .i64 m.hops, .bool m.good, .bool m.ref, .int .i64 m.slo, .int .i64 m.shi, .int .i64 m.pulse, .int .i64 m.time, .int .i64 m.num, .slice A m.table.length c]) rfl (wanted_yes rfl (by kernel_rfl) eg) ?_ (fun _ _ => rfl) (Ok.refl _)
              clear hF
              go_simp
            · intro a' w' hF hR
              have e1 : a'.tmps[1]? = some (.slice (some ⟨b, off, none⟩) l.length cap) := hF.slot 1 (by kernel_rfl) rfl
              obtain ⟨vg, hvg, eg⟩ := hF.get 6 21 (by kernel_rfl) (by kernel_rfl)
              obtain rfl : vg = _ := hvg _ (Ok.refl _)
              refine wpOp_runG (v := .slice (some ⟨b, off, none⟩) l.length cap) rfl (wanted_yes rfl (by kernel_rfl) eg) ?_ (fun _ _ => rfl) (Ok.refl _)
              clear hF
              go_simp
            · intro a' w' hF hR
              have e5 : a'.tmps[5]? = some (.int .i64 (j : Int)) := hF.slot 5 (by kernel_rfl) rfl
              obtain ⟨vg, hvg, eg⟩ := hF.get 6 21 (by kernel_rfl) (by kernel_rfl)
              obtain rfl : vg = _ := hvg _ (Ok.refl _)
              refine wpOp_runG (v := .int .i64 (j : Int)) rfl (wanted_yes rfl (by kernel_rfl) eg) ?_ (fun _ _ => rfl) (Ok.refl _)
              clear hF
              go_simp
            · intro a' w' hF hR
              obtain ⟨v8, hv8, e23⟩ := hF.get 8 23 (by kernel_rfl) (by kernel_rfl)
              obtain rfl : v8 = _ := hv8 _ (Ok.refl _)
              obtain ⟨v9, hv9, e24⟩ := hF.get 9 24 (by kernel_rfl) (by kernel_rfl)
              obtain rfl : v9 = _ := hv9 _ (Ok.refl _)
              obtain ⟨vg, hvg, eg⟩ := hF.get 6 21 (by kernel_rfl) (by kernel_rfl)
              obtain rfl : vg = _ := hvg _ (Ok.refl _)
              have hj1 : (j : Int) < (l.length : Int) := by omega
              have hj2 : ¬ (l.length : Int) ≤ (j : Int) := by omega
              refine wpOp_runG (v := .pointer (some ⟨b, off + j * 14, none⟩)) rfl (wanted_yes rfl (by kernel_rfl) eg) ?_ (fun _ _ => rfl) (Ok.refl _)
              clear hF
              go_simp
            · intro a' w' hF hR
              obtain ⟨v10, hv10, e25⟩ := hF.get 10 25 (by kernel_rfl) (by kernel_rfl)
              obtain rfl : v10 = _ := hv10 _ (Ok.refl _)
              obtain ⟨vg, hvg, eg⟩ := hF.get 6 21 (by kernel_rfl) (by kernel_rfl)
              obtain rfl : vg = _ := hvg _ (Ok.refl _)
              obtain ⟨y0, y1, y2, y3, y4, y5, y6, y7, y8, y9, y10, y11, y12, y13⟩ := HY.out _ hR
              refine wpOp_runG (v := .agg #[.int .i64 n.kind, .int .i64 n.frm, .int .i64 n.lo, .int .i64 n.hi, .int .i64 n.held, .int .i64 n.hops, .bool n.good, .bool n.ref, .int .i64 n.slo, .int .i64 n.shi, .int .i64 n.pulse, .int .i64 n.time, .int .i64 n.num, .slice D n.table.length d]) rfl (wanted_yes rfl (by kernel_rfl) eg) ?_ (fun _ _ => rfl) (Ok.refl _)
              clear hF
              go_simp
            · intro a' w' hF hR
              obtain ⟨v7, hv7, e22⟩ := hF.get 7 22 (by kernel_rfl) (by kernel_rfl)
              obtain rfl : v7 = _ := hv7 _ (Ok.refl _)
              obtain ⟨v11, hv11, e26⟩ := hF.get 11 26 (by kernel_rfl) (by kernel_rfl)
              obtain rfl : v11 = _ := hv11 _ (Ok.refl _)
              obtain ⟨vg, hvg, eg⟩ := hF.get 6 21 (by kernel_rfl) (by kernel_rfl)
              obtain rfl : vg = _ := hvg _ (Ok.refl _)
              refine wpOp_callG (f := 23) (args := #[.agg #[.int .i64 m.kind, .int .i64 m.frm, .int .i64 m.lo, .int .i64 m.hi, .int .i64 m.held, .int .i64 m.hops, .bool m.good, .bool m.ref, .int .i64 m.slo, .int .i64 m.shi, .int .i64 m.pulse, .int .i64 m.time, .int .i64 m.num, .slice A m.table.length c], .agg #[.int .i64 n.kind, .int .i64 n.frm, .int .i64 n.lo, .int .i64 n.hi, .int .i64 n.held, .int .i64 n.hops, .bool n.good, .bool n.ref, .int .i64 n.slo, .int .i64 n.shi, .int .i64 n.pulse, .int .i64 n.time, .int .i64 n.num, .slice D n.table.length d]]) rfl (wanted_yes rfl (by kernel_rfl) eg) ?_ ((HKO.out _).mono ?_)
              · go_simp
              · rintro e w2 ⟨rfl, hb2⟩; exact ⟨_, rfl, fun _ _ => rfl, hb2⟩
            · intro a' w' hF hR
              obtain ⟨v6, hv6, e21⟩ := hF.get 6 21 (by kernel_rfl) (by kernel_rfl)
              obtain rfl : v6 = _ := hv6 _ (Ok.refl _)
              obtain ⟨v12, hv12, e27⟩ := hF.get 12 27 (by kernel_rfl) (by kernel_rfl)
              obtain rfl : v12 = _ := hv12 _ (Ok.refl _)
              obtain ⟨vg, hvg, eg⟩ := hF.get 3 18 (by kernel_rfl) (by kernel_rfl)
              obtain rfl : vg = _ := hvg _ (Ok.refl _)
              refine wpOp_runG (v := .bool true) rfl (wanted_yes rfl (by kernel_rfl) eg) ?_ (fun _ _ => rfl) (Ok.refl _)
              clear hF
              go_simp
            · intro a' w' hF hR
              obtain ⟨v3, hv3, e18⟩ := hF.get 3 18 (by kernel_rfl) (by kernel_rfl)
              obtain rfl : v3 = _ := hv3 _ (Ok.refl _)
              obtain ⟨v13, hv13, e28⟩ := hF.get 13 28 (by kernel_rfl) (by kernel_rfl)
              obtain rfl : v13 = _ := hv13 _ (Ok.refl _)
              refine wpOp_run (v := .bool true) rfl rfl ?_ (fun _ _ => rfl) (Ok.refl _)
              clear hF
              go_simp
            intro vs w2 hV hR
            have e14 : vs 14 = .bool true := hV 14 (by decide) _ (Ok.refl _)
            have hP2 := HP.out _ hR
            have hok2 := hok.trans ((Ok.refl W).drew.trans hR)
            clear hV HP HX HKU
            simp only [putFrom, e14]
            simp only [Act.put, List.setIfInBounds_toArray, List.set_cons_zero, List.set_cons_succ]
            clear e14
            go_wp2
            go_roundw
            case rel => exact ⟨k + 1, by omega, by go_num, by rw [HNX.out] <;> rfl, hP2, hok2⟩
            case measure => simp [intOf]; omega
          · have HNX := Lib.hid (HNF.out hlt3)
            rw [decide_eq_false hlt3] at HKO
            clear hlt3 HNT HNF
            obtain ⟨y, hy⟩ : ∃ y, nth l j = y := ⟨_, rfl⟩
            rw [hy] at HY HKO
            clear hy
            obtain ⟨n, D, d⟩ := y
            simp only at HY HKO
            refine wp_region_facts (by kernel_rfl) 33 rfl (VCRF p m n A D c d b off l.length cap j) Ok (by kernel_rfl) (fun i v w w' h k w'' k' => h w'' (k.trans k')) (fun a b c => Ok.trans) (Ok.refl _) [some 15, some 16, some 17, some 18, some 19, some 20, some 21, some 22, some 23, some 24, some 25, some 26, some 27, some 28, some 29] rfl 15 rfl ⟨?_, ?_, ?_, ?_, ?_, ?_, ?_, ?_, ?_, ?_, ?_, ?_, ?_, ?_, ?_, trivial⟩ ?_
            · intro a' w' hF hR
              have e2 : a'.tmps[2]? = some (.pointer (some ⟨P, 0, none⟩)) := hF.slot 2 (by kernel_rfl) rfl
              obtain ⟨p0, p1, p2, p3, p4, p5, p6, p7, p8, p9, p10, p11⟩ := (HP.out _ hR).pars
              refine wpOp_run (v := parV p) rfl rfl ?_ (fun _ _ => rfl) (Ok.refl _)
              clear hF
              go_simp
            · intro a' w' hF hR
              have e7 : a'.tmps[7]? = some (.pointer (some ⟨g, 0, none⟩)) := hF.slot 7 (by kernel_rfl) rfl
              obtain ⟨x0, x1, x2, x3, x4, x5, x6, x7, x8, x9, x10, x11, x12, x13⟩ := (HX.out _ hR).msg
              refine wpOp_run (v := .agg #[.int .i64 m.kind, .int .i64 m.frm, .int .i64 m.lo, .int .i64 m.hi, .int .i64 m.held, .int .i64 m.hops, .bool m.good, .bool m.ref, .int .i64 m.slo, .int .i64 m.shi, .int .i64 m.pulse, .int .i64 m.time, .int .i64 m.num, .slice A m.table.length c]) rfl rfl ?_ (fun _ _ => rfl) (Ok.refl _)
              clear hF
              go_simp
            · intro a' w' hF hR
              obtain ⟨v0, hv0, e15⟩ := hF.get 0 15 (by kernel_rfl) (by kernel_rfl)
              obtain rfl : v0 = _ := hv0 _ (Ok.refl _)
              obtain ⟨v1, hv1, e16⟩ := hF.get 1 16 (by kernel_rfl) (by kernel_rfl)
              obtain rfl : v1 = _ := hv1 _ (Ok.refl _)
              clear hF
              refine wpOp_call (f := 14) (args := #[parV p, .agg #[.int .i64 m.kind, .int .i64 m.frm, .int .i64 m.lo, .int .i64 m.hi, .int .i64 m.held, .int .i64 m.hops, .bool m.good, .bool m.ref, .int .i64 m.slo, .int .i64 m.shi, .int .i64 m.pulse, .int .i64 m.time, .int .i64 m.num, .slice A m.table.length c]]) rfl rfl ?_ ((HKU.out _).mono ?_)
              · go_simp
              · rintro e w2 ⟨rfl, hb2⟩; exact ⟨_, rfl, fun _ _ => rfl, hb2⟩
            · intro a' w' hF hR
              obtain ⟨v2, hv2, e17⟩ := hF.get 2 17 (by kernel_rfl) (by kernel_rfl)
              obtain rfl : v2 = _ := hv2 _ (Ok.refl _)
              refine wpOp_run (v := .bool true) rfl rfl ?_ (fun _ _ => rfl) (Ok.refl _)
              clear hF
              go_simp
            · intro a' w' hF hR
              have e5 : a'.tmps[5]? = some (.int .i64 (j : Int)) := hF.slot 5 (by kernel_rfl) rfl
              obtain ⟨vg, hvg, eg⟩ := hF.get 3 18 (by kernel_rfl) (by kernel_rfl)
              obtain rfl : vg = _ := hvg _ (Ok.refl _)
              refine wpOp_runG (v := .int .i64 (j : Int)) rfl (wanted_yes rfl (by kernel_rfl) eg) ?_ (fun _ _ => rfl) (Ok.refl _)
              clear hF
              go_simp
            · intro a' w' hF hR
              obtain ⟨v4, hv4, e19⟩ := hF.get 4 19 (by kernel_rfl) (by kernel_rfl)
              obtain rfl : v4 = _ := hv4 _ (Ok.refl _)
              obtain ⟨vg, hvg, eg⟩ := hF.get 3 18 (by kernel_rfl) (by kernel_rfl)
              obtain rfl : vg = _ := hvg _ (Ok.refl _)
              refine wpOp_runG (v := .bool false) rfl (wanted_yes rfl (by kernel_rfl) eg) ?_ (fun _ _ => rfl) (Ok.refl _)
              clear hF
              go_simp
            · intro a' w' hF hR
              obtain ⟨v5, hv5, e20⟩ := hF.get 5 20 (by kernel_rfl) (by kernel_rfl)
              obtain rfl : v5 = _ := hv5 _ (Ok.refl _)
              obtain ⟨vg, hvg, eg⟩ := hF.get 3 18 (by kernel_rfl) (by kernel_rfl)
              obtain rfl : vg = _ := hvg _ (Ok.refl _)
              refine wpOp_runG (v := .bool false) rfl (wanted_yes rfl (by kernel_rfl) eg) ?_ (fun _ _ => rfl) (Ok.refl _)
              clear hF
              go_simp
            · intro a' w' hF hR
              have e7 : a'.tmps[7]? = some (.pointer (some ⟨g, 0, none⟩)) := hF.slot 7 (by kernel_rfl) rfl
              obtain ⟨vg, hvg, eg⟩ := hF.get 6 21 (by kernel_rfl) (by kernel_rfl)
              obtain rfl : vg = _ := hvg _ (Ok.refl _)
              obtain ⟨x0, x1, x2, x3, x4, x5, x6, x7, x8, x9, x10, x11, x12, x13⟩ := (HX.out _ hR).msg
              refine wpOp_runG (v := .agg #[.int .i64 m.kind, .int .i64 m.frm, .int .i64 m.lo, .int .i64 m.hi, .int .i64 m.held, .int .i64 m.hops, .bool m.good, .bool m.ref, .int .i64 m.slo, .int .i64 m.shi, .int .i64 m.pulse, .int .i64 m.time, .int .i64 m.num, .slice A m.table.length c]) rfl (wanted_yes rfl (by kernel_rfl) eg) ?_ (fun _ _ => rfl) (Ok.refl _)
              clear hF
              go_simp
            · intro a' w' hF hR
              have e1 : a'.tmps[1]? = some (.slice (some ⟨b, off, none⟩) l.length cap) := hF.slot 1 (by kernel_rfl) rfl
              obtain ⟨vg, hvg, eg⟩ := hF.get 6 21 (by kernel_rfl) (by kernel_rfl)
              obtain rfl : vg = _ := hvg _ (Ok.refl _)
              refine wpOp_runG (v := .slice (some ⟨b, off, none⟩) l.length cap) rfl (wanted_yes rfl (by kernel_rfl) eg) ?_ (fun _ _ => rfl) (Ok.refl _)
              clear hF
              go_simp
            · intro a' w' hF hR
              have e5 : a'.tmps[5]? = some (.int .i64 (j : Int)) := hF.slot 5 (by kernel_rfl) rfl
              obtain ⟨vg, hvg, eg⟩ := hF.get 6 21 (by kernel_rfl) (by kernel_rfl)
              obtain rfl : vg = _ := hvg _ (Ok.refl _)
              refine wpOp_runG (v := .int .i64 (j : Int)) rfl (wanted_yes rfl (by kernel_rfl) eg) ?_ (fun _ _ => rfl) (Ok.refl _)
              clear hF
              go_simp
            · intro a' w' hF hR
              obtain ⟨v8, hv8, e23⟩ := hF.get 8 23 (by kernel_rfl) (by kernel_rfl)
              obtain rfl : v8 = _ := hv8 _ (Ok.refl _)
              obtain ⟨v9, hv9, e24⟩ := hF.get 9 24 (by kernel_rfl) (by kernel_rfl)
              obtain rfl : v9 = _ := hv9 _ (Ok.refl _)
              obtain ⟨vg, hvg, eg⟩ := hF.get 6 21 (by kernel_rfl) (by kernel_rfl)
              obtain rfl : vg = _ := hvg _ (Ok.refl _)
              have hj1 : (j : Int) < (l.length : Int) := by omega
              have hj2 : ¬ (l.length : Int) ≤ (j : Int) := by omega
              refine wpOp_runG (v := .pointer (some ⟨b, off + j * 14, none⟩)) rfl (wanted_yes rfl (by kernel_rfl) eg) ?_ (fun _ _ => rfl) (Ok.refl _)
              clear hF
              go_simp
            · intro a' w' hF hR
              obtain ⟨v10, hv10, e25⟩ := hF.get 10 25 (by kernel_rfl) (by kernel_rfl)
              obtain rfl : v10 = _ := hv10 _ (Ok.refl _)
              obtain ⟨vg, hvg, eg⟩ := hF.get 6 21 (by kernel_rfl) (by kernel_rfl)
              obtain rfl : vg = _ := hvg _ (Ok.refl _)
              obtain ⟨y0, y1, y2, y3, y4, y5, y6, y7, y8, y9, y10, y11, y12, y13⟩ := HY.out _ hR
              refine wpOp_runG (v := .agg #[.int .i64 n.kind, .int .i64 n.frm, .int .i64 n.lo, .int .i64 n.hi, .int .i64 n.held, .int .i64 n.hops, .bool n.good, .bool n.ref, .int .i64 n.slo, .int .i64 n.shi, .int .i64 n.pulse, .int .i64 n.time, .int .i64 n.num, .slice D n.table.length d]) rfl (wanted_yes rfl (by kernel_rfl) eg) ?_ (fun _ _ => rfl) (Ok.refl _)
              clear hF
              go_simp
            · intro a' w' hF hR
              obtain ⟨v7, hv7, e22⟩ := hF.get 7 22 (by kernel_rfl) (by kernel_rfl)
              obtain rfl : v7 = _ := hv7 _ (Ok.refl _)
              obtain ⟨v11, hv11, e26⟩ := hF.get 11 26 (by kernel_rfl) (by kernel_rfl)
              obtain rfl : v11 = _ := hv11 _ (Ok.refl _)
              obtain ⟨vg, hvg, eg⟩ := hF.get 6 21 (by kernel_rfl) (by kernel_rfl)
              obtain rfl : vg = _ := hvg _ (Ok.refl _)
              refine wpOp_callG (f := 23) (args := #[.agg #[.int .i64 m.kind, .int .i64 m.frm, .int .i64 m.lo, .int .i64 m.hi, .int .i64 m.held, .int .i64 m.hops, .bool m.good, .bool m.ref, .int .i64 m.slo, .int .i64 m.shi, .int .i64 m.pulse, .int .i64 m.time, .int .i64 m.num, .slice A m.table.length c], .agg #[.int .i64 n.kind, .int .i64 n.frm, .int .i64 n.lo, .int .i64 n.hi, .int .i64 n.held, .int .i64 n.hops, .bool n.good, .bool n.ref, .int .i64 n.slo, .int .i64 n.shi, .int .i64 n.pulse, .int .i64 n.time, .int .i64 n.num, .slice D n.table.length d]]) rfl (wanted_yes rfl (by kernel_rfl) eg) ?_ ((HKO.out _).mono ?_)
              · go_simp
              · rintro e w2 ⟨rfl, hb2⟩; exact ⟨_, rfl, fun _ _ => rfl, hb2⟩
            · intro a' w' hF hR
              obtain ⟨v6, hv6, e21⟩ := hF.get 6 21 (by kernel_rfl) (by kernel_rfl)
              obtain rfl : v6 = _ := hv6 _ (Ok.refl _)
              obtain ⟨v12, hv12, e27⟩ := hF.get 12 27 (by kernel_rfl) (by kernel_rfl)
              obtain rfl : v12 = _ := hv12 _ (Ok.refl _)
              obtain ⟨vg, hvg, eg⟩ := hF.get 3 18 (by kernel_rfl) (by kernel_rfl)
              obtain rfl : vg = _ := hvg _ (Ok.refl _)
              refine wpOp_runG (v := .bool false) rfl (wanted_yes rfl (by kernel_rfl) eg) ?_ (fun _ _ => rfl) (Ok.refl _)
              clear hF
              go_simp
            · intro a' w' hF hR
              obtain ⟨v3, hv3, e18⟩ := hF.get 3 18 (by kernel_rfl) (by kernel_rfl)
              obtain rfl : v3 = _ := hv3 _ (Ok.refl _)
              obtain ⟨v13, hv13, e28⟩ := hF.get 13 28 (by kernel_rfl) (by kernel_rfl)
              obtain rfl : v13 = _ := hv13 _ (Ok.refl _)
              refine wpOp_run (v := .bool false) rfl rfl ?_ (fun _ _ => rfl) (Ok.refl _)
              clear hF
              go_simp
            intro vs w2 hV hR
            have e14 : vs 14 = .bool false := hV 14 (by decide) _ (Ok.refl _)
            have hP2 := HP.out _ hR
            have hok2 := hok.trans ((Ok.refl W).drew.trans hR)
            clear hV HP HX HKU
            simp only [putFrom, e14]
            simp only [Act.put, List.setIfInBounds_toArray, List.set_cons_zero, List.set_cons_succ]
            clear e14
            go_wp2
            go_roundw
            case rel => exact ⟨k + 1, by omega, by go_num, by rw [HNX.out] <;> rfl, hP2, hok2⟩
            case measure => simp [intOf]; omega
    · obtain rfl : k = l.length := by omega
      clear hlt hk KU KO HB
      go_wp2
      go_ret
      exact ⟨rfl, hok⟩
end Go.Proofs.Ytgkcmiaagbgajaa
