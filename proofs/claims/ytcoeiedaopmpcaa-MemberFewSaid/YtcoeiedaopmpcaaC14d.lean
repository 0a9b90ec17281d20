/- Contracts of layer 14: the program's Near. -/
import Derived.Test.YtcoeiedaopmpcaaC14c
namespace Go.Proofs.Ytcoeiedaopmpcaa
open Go.RowKit Go.Maps Go.Sort
set_option maxRecDepth 100000
attribute [local go_sem ↓] Go.wp_at_zero Go.wp_at_succ
theorem memNearNil (w : World) : Calls Try.prog 15 #[.pointer none] w fun e w' => e = .returned (.slice none 0 0) ∧ w = w' := by
  go_enter Try.func15, Try.ntmps15
  go_wp2
  go_ret
  exact ⟨rfl, rfl⟩
/-- Behind some keys of Near's range. -/
def NearAt (b : Nat) (f : NF) (D : DataW Unit) (w wr : World) (v : Value) (left : Lit → Bool) (cnt : Nat) : Prop :=
  wr.ranges Try.prog 3 nbElem b w.heap.size 48 D left cnt ∧ ∃ c, RowN (w.heap.size + 1) wr v c ∧ Coll f left c ∧ c.length + cnt ≤ 48 ∧ Ok w wr
theorem nearAt_start {b : Nat} {f : NF} {D : DataW Unit} {w w0 : World} (hf : ∀ k, 48 ≤ k → f k = none) (hown : w.ownsMap Try.prog 3 nbElem b 48 D) (hh : ∀ x, (Lit.int .i64 x).wf = true → Holds D x (Mem.look f x)) (hr : w0.ranges Try.prog 3 nbElem b w.heap.size 48 D (Maps.has D) (Maps.size D)) (hg : w.grownBy w0 none) :
    NearAt b f D w w0 (.slice none 0 0) (Maps.has D) (Maps.size D) :=
  ⟨hr, [], RowN.start _ _, coll_start hh, by rw [size_is hown hf hh]; simpa using Mem.nums_le f, ok_row (Ok.refl w) hg (fun k hk => by cases hk)⟩
set_option maxHeartbeats 1600000 in
theorem memNear (g b : Nat) (f : NF) (w : World) (hT : TabM w g b f) (hG : Mem.Good f) :
    Calls Try.prog 15 #[.pointer (some ⟨g, 0, none⟩)] w (NearEnd (Mem.nums f) w) := by
  have c0 := hT.own.cell 0 (v := .map (some b)) rfl
  obtain ⟨D, hown, hh⟩ := hT.map
  have HH := Lib.hid (And.intro hG.far hh)
  have HO := Lib.hid hown
  clear hT hG hh
  go_enter Try.func15, Try.ntmps15
  go_wp2_with (at_range; refine wpList_range_own _ rfl _ 47 rfl 3 51 keyInt Try.underlying47 _ b 48 _ rfl hown ?_; intro w0 hrg0 hg0 hs0)
  go_frame
  go_loopw [3] (fun v wr => ∃ left cnt, Hid (NearAt b f D w wr v left cnt)) (fun _ wr => wr.rangeLeft b w.heap.size)
  case atStart => exact ⟨_, _, Lib.hid (nearAt_start HH.out.1 HO.out HH.out.2 hrg0 hg0)⟩
  case round =>
    obtain ⟨left, cnt, hrel⟩ := hrel
    have hrg := hrel.out.1
    clear hrg0 hg0 hs0 c0 hown
    go_wp2_with (at_next; refine wpList_next_ranges _ rfl _ rfl 3 keyInt nbElem (Value.int .i64) nbV (fun key kl hk => by obtain ⟨x, hx, _⟩ := Maps.keyOf_int_inv Try.underlying3 hk; exact ⟨x, hx⟩) (fun v y hv => by obtain ⟨p, hp, _⟩ := nbElem_inv hv; exact ⟨p, hp⟩) b w.heap.size 48 _ _ _ rfl hrg ?_ ?_)
    · intro _ hl0
      obtain ⟨c, hrow, hC, hle, hok⟩ := hrel.out.2
      have KS := Lib.hid (sortN hrow (by omega) (coll_end hC hl0) hok (Nat.le_succ _))
      clear hrel hrg hrow hC hle hok hl0
      go_wp2_with (go_at_call 21; (with_reducible refine KS.out.mono ?_); rintro e w2 ⟨rfl, hE⟩; replace hE := Lib.hid hE)
      go_ret
      exact hE.out
    · intro x p1 p2 kl y ys w1 cnt1 hkey hlx hv hat hrg1 hlt hg1 hs1 hen
      obtain ⟨x', ex, rfl, hwx⟩ := Maps.keyOf_int_inv Try.underlying3 hkey
      cases ex
      obtain ⟨k, rfl, hk, hkm⟩ := coll_key HH.out.1 HH.out.2 hwx hat
      obtain ⟨c, hrow, hC, hle, hok⟩ := hrel.out.2
      have hon : Only w.heap.size wr w1 := (Only.refl _ _).grow hg1 fun k hk => .inl (by cases hk; rfl)
      have hrow1 := hrow.only hon (Nat.lt_succ_self _)
      have hok1 := ok_row hok hg1 (fun k hk => by cases hk; exact Nat.le_refl _)
      have HM := Lib.hid (And.intro hrg1 (And.intro (coll_step hC hkm hlx) (And.intro hle hlt)))
      have HRW := Lib.hid (And.intro hrow1 hok1)
      have hm0 := hrg.left_eq
      have hsz : w.heap.size + 1 ≤ w1.heap.size := by have := hrg1.lt; omega
      clear hrel hrow hC hon hrow1 hok1 hrg1 hlx hat hwx hkey hv hrg hkm hg1 hs1
      go_wp2_with (at_builtin; refine wpList_append_ints rfl (.tmp 16) (.tmp 18) 37 rfl (w.heap.size + 1) 3 Try.underlying37 info14 _ (Mem.ints c) c.length (Mem.ints_length c).symm rfl (HRW.out.1.next ((Ok.refl _).alloc _)) _ [(k : Int)] 1 _ rfl rfl (ints_new _ _ _ _ rfl rfl) (by rw [Mem.ints_length]; simp; omega) (by simp; omega) ?_; intro v' w2 hr2 hg2; have HR2 := Lib.hid (And.intro hr2 hg2); clear hr2 hg2)
      go_roundw
      case rel =>
        have hgr := HRW.out.1.lt
        have hrr : (w2.ranges Try.prog 3 nbElem b w.heap.size 48 D (fun z => left z && !z.sameKey (.int .i64 (k : Int))) cnt1) := by
          refine (HM.out.1.alloc (.cells #[.int .i64 (k : Int)] 3)).kept HR2.out.2 (fun e => ?_) (fun e => ?_)
          · have := (hgr b e.symm).1
            have := HO.out.lt
            omega
          · have := (hgr _ e.symm).1
            omega
        exact ⟨_, _, Lib.hid ⟨hrr, c ++ [k], RowN.more HR2.out.1, HM.out.2.1, by have := HM.out.2.2; rw [List.length_append]; simp; omega, ok_row (HRW.out.2.alloc _) HR2.out.2 fun j hj => by have := (hgr j hj).1; omega⟩⟩
      case measure =>
        have hgr := HRW.out.1.lt
        have hrr : (w2.ranges Try.prog 3 nbElem b w.heap.size 48 D (fun z => left z && !z.sameKey (.int .i64 (k : Int))) cnt1) := by
          refine (HM.out.1.alloc (.cells #[.int .i64 (k : Int)] 3)).kept HR2.out.2 (fun e => ?_) (fun e => ?_)
          · have := (hgr b e.symm).1
            have := HO.out.lt
            omega
          · have := (hgr _ e.symm).1
            omega
        rw [hrr.left_eq, hm0]
        exact hlt
end Go.Proofs.Ytcoeiedaopmpcaa
