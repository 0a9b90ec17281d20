/- Contracts of layer 7: Agreed, the program's: it counts in a map. -/
import Derived.Test.YtolaipclndhkkaaC07b
import Derived.Maps.OwnOps
import Derived.Defers
import Derived.Maps.Views
namespace Go.Proofs.Ytolaipclndhkkaa
open Go.RowKit Go.Maps
set_option maxRecDepth 100000
theorem keyInt : Keyed Try.prog 3 := int_keyed Try.underlying3
theorem zeroInt (w : World) : (zeroValue 3).run Try.prog w = .ok (.int .i64 0) w := by kernel_rfl
/-- The map in block b counts the numbers of l. -/
def CountsAt (w : World) (b n : Nat) (l : List Int) : Prop :=
  ∃ D : DataW Unit, w.ownsMap Try.prog 3 (plainElem Try.prog 3) b n D ∧ IsMap D ∧ ∀ x, (Lit.int .i64 x).wf = true → D.atKey (.int .i64 x) (.lit (.int .i64 0)) = .lit (.int .i64 (Trim.same l x))
theorem CountsAt.made (w : World) : CountsAt (w.alloc (.map #[] 0)) w.heap.size 0 [] := ⟨.map [], World.ownsMap_made _ _ _ _, isMap_empty, fun _x _ => rfl⟩
theorem CountsAt.lt {w : World} {b n : Nat} {l : List Int} (h : CountsAt w b n l) : b < w.heap.size := by
  obtain ⟨D, h, _⟩ := h
  exact h.lt
theorem CountsAt.next {w w' : World} {b n : Nat} {l : List Int} (h : CountsAt w b n l) (k : Ok w w') : CountsAt w' b n l := by
  obtain ⟨D, h, h2, h3⟩ := h
  have hl := h.lt
  obtain ⟨es, clock, hb, F⟩ := h
  exact ⟨D, ⟨es, clock, (Below.block k b hl).trans hb, F⟩, h2, h3⟩
theorem Trim.same_snoc (l : List Int) (x y : Int) : Trim.same (l ++ [x]) y = Trim.same l y + if y = x then 1 else 0 := by
  unfold Trim.same
  rw [List.countP_append, List.countP_cons, List.countP_nil]
  by_cases h : y = x <;> simp [h]
theorem Trim.same_le (l : List Int) (x : Int) : Trim.same l x ≤ l.length := List.countP_le_length
theorem CountsAt.put {w' : World} {b n m : Nat} {l : List Int} {x : Int} {D : DataW Unit} (hx : (Lit.int .i64 x).wf = true) (hM : IsMap D) (hD : ∀ x, (Lit.int .i64 x).wf = true → D.atKey (.int .i64 x) (.lit (.int .i64 0)) = .lit (.int .i64 (Trim.same l x)))
    (hm : m = Trim.same l x + 1) (h : w'.ownsMap Try.prog 3 (plainElem Try.prog 3) b n (D.put (.int .i64 x) (.lit (.int .i64 m)))) : CountsAt w' b n (l ++ [x]) := by
  refine ⟨_, h, hM.put _ _, fun y hy => ?_⟩
  rw [Trim.same_snoc]
  by_cases e : y = x
  · subst e
    rw [if_pos rfl, atKey_put_same hM (by trivial), hm]
  · rw [if_neg e, atKey_put_other (by intro g; injection g with _ g; exact e g), hD y hy]
    rfl
theorem trimIdle (w : World) : CallsD Try.prog 38 #[] .returning w fun e u' w' => e = .returned (.tuple #[]) ∧ u' = .returning ∧ w' = w := by
  refine callsD_of_wpS Try.func38 rfl fun c₀ cs hu => ?_
  apply wpS_region
  simp [wpOpsS, go_sem, recoverD, hu, Try.ntmps38]
  cases c₀
  simp_all [bodyPostS, results, Try.results38]
theorem trimIdle2 (p : Value) (w : World) : CallsD Try.prog 39 #[p] .returning w fun e u' w' => e = .returned (.tuple #[]) ∧ u' = .returning ∧ w' = w := by
  refine callsD_of_wpS Try.func39 rfl fun c₀ cs hu => ?_
  apply wpS_seq
  apply wpS_region
  simp [wpOpsS, go_sem, recoverD, hu, Try.ntmps39, Exit.thenS]
  refine wpS_cond (t := false) (by simp [Act.eval, Array.replicate]) ?_
  simp only [Bool.false_eq_true, if_false]
  refine wpS_of_wp (wp_skip ?_)
  cases c₀
  simp_all [bodyPostS, results, Try.results39]
theorem trimCount (b n : Nat) (l : List Int) (x : Int) (w : World) (h : CountsAt w b n l) (hx : (Lit.int .i64 x).wf = true) (hn : n ≤ 1099511627776) (hl : l.length ≤ 1099511627776) :
    Calls Try.prog 32 #[.map (some b), .int .i64 x] w fun e w' => e = .returned (.tuple #[]) ∧ CountsAt w' b (n + 1) (l ++ [x]) ∧ w.grownBy w' (some b) := by
  obtain ⟨D, hown, hM, hD⟩ := h
  have hkey : keyOf Try.prog 3 (.int .i64 x) = some (.int .i64 x) := keyOf_int_mk Try.underlying3 hx
  have HX := Lib.hid hx
  have HDX := Lib.hid hD
  have hsl := Trim.same_le l x
  clear hx hD
  go_enter_defers Try.func32, Try.ntmps32
  go_wp2_with (first
    | (at_lookup; refine wpList_lookup_own_int _ rfl _ _ 47 rfl 3 3 .i64 keyInt Try.underlying47 Try.underlying3 (zeroInt _) b n _ rfl hown _ _ rfl hkey ?_; intro c hat hwc; obtain rfl : c = (Trim.same l x : Int) := (by rw [HDX.out x HX.out] at hat; injection hat with hat; injection hat with _ hat; exact hat.symm); clear hat hwc)
    | (at_mapUpdate; refine wpList_mapUpdate_own _ rfl _ _ _ 47 rfl 3 3 keyInt Try.underlying47 _ b n _ rfl hown (by unfold maxLen; omega) _ _ _ rfl rfl hkey (.lit (.int .i64 ((Trim.same l x : Int) + 1))) [] (plainElem_int Try.underlying3 (WalkArith.wf_i64 (by omega))) ?_; intro w1 hown1 hgrow1)
    | go_in)
  refine leaves_cons (f := 38) (args := #[]) (by simp) (by simp [go_sem]) ?_
  refine (trimIdle _).mono ?_
  rintro e u' w' ⟨rfl, rfl, rfl⟩
  refine ⟨.tuple #[], (by simp [results, Try.results32]), rfl, CountsAt.put HX.out hM HDX.out (m := Trim.same l x + 1) rfl (by simpa using hown1), hgrow1⟩
theorem trimSame (b n : Nat) (l : List Int) (x : Int) (w : World) (h : CountsAt w b n l) (hx : (Lit.int .i64 x).wf = true) (_hl : l.length ≤ 1099511627776) (h1 : 1 ≤ Trim.same l x) :
    Calls Try.prog 33 #[.map (some b), .int .i64 x] w fun e w' => e = .returned (.int .i64 (Trim.same l x)) ∧ Ok w w' := by
  have hok := Ok.refl w
  have hmf : ∀ (fn : Fn) (first cap : Array Value) (w : World), (Instr.makeFunc fn first cap).run Try.prog w = .ok (.func fn first cap) w := fun _ _ _ _ => rfl
  have h0 := h
  obtain ⟨D, hown, hM, hD⟩ := h
  have hkey : keyOf Try.prog 3 (.int .i64 x) = some (.int .i64 x) := keyOf_int_mk Try.underlying3 hx
  have HX := Lib.hid hx
  have HDX := Lib.hid (hD x hx)
  have hsl := Trim.same_le l x
  clear hx hD
  generalize Trim.same l x = m at HDX hsl h1 ⊢
  have hnot : ¬ (m : Int) < 1 := by omega
  go_enter_defers Try.func33, Try.ntmps33
  go_wp2_with (first
    | (at_lookup; refine wpList_lookup_own_int _ rfl _ _ 47 rfl 3 3 .i64 keyInt Try.underlying47 Try.underlying3 (zeroInt _) b n _ rfl (World.ownsMap.alloc hown _) _ _ rfl hkey ?_; intro c hat hwc; obtain rfl : c = (m : Int) := (by rw [HDX.out] at hat; injection hat with hat; injection hat with _ hat; exact hat.symm); clear hat hwc)
    | go_in)
  refine leaves_cons (f := 39) (args := #[.pointer (some ⟨w.heap.size, 0, none⟩)]) (by simp) (by simp [go_sem]) ?_
  refine (trimIdle2 _ _).mono ?_
  rintro e u' w' ⟨rfl, rfl, rfl⟩
  refine ⟨.int .i64 m, (by simp [results, Try.results33, go_sem]; omega), rfl, ?_⟩
  first | exact hok.alloc _ | exact (hok.alloc _).setCell (Nat.le_refl _) _
/-- Behind k numbers: the place of the one of which there are most, and how many. -/
def Trim.bestTo (l : List Int) (f : Int) : Nat → Int × Int
  | 0 => (-1, f)
  | k + 1 => if (Trim.bestTo l f k).2 < (Trim.same l (l.getD k 0) : Int) then ((k : Int), (Trim.same l (l.getD k 0) : Int)) else Trim.bestTo l f k
def Trim.bestVal (l : List Int) (b : Int) : Int := if 0 ≤ b then l.getD b.toNat 0 else 0
theorem Trim.bestTo_snoc {l : List Int} {k : Nat} (h : k < l.length) (f : Int) : Trim.bestTo l f (k + 1) = if (Trim.bestTo l f k).2 < (Trim.same l l[k] : Int) then ((k : Int), (Trim.same l l[k] : Int)) else Trim.bestTo l f k := by
  rw [Trim.bestTo, List.getD_eq_getElem?_getD, List.getElem?_eq_getElem h]; rfl
theorem Trim.bestVal_at {l : List Int} {k : Nat} (h : k < l.length) : Trim.bestVal l (k : Int) = l[k] := by
  unfold Trim.bestVal
  rw [if_pos (by omega), List.getD_eq_getElem?_getD, Int.toNat_natCast, List.getElem?_eq_getElem h]; rfl
theorem Trim.same_pos {l : List Int} {k : Nat} (h : k < l.length) : 1 ≤ Trim.same l l[k] := by
  have : 0 < Trim.same l l[k] := List.countP_pos_iff.2 ⟨l[k], List.getElem_mem h, by simp⟩
  omega
set_option maxHeartbeats 1600000 in
theorem trimAgreed (f : Int) (A : Option Addr) (l : List Int) (cap : Nat) (w : World) (hI : IntsAt w A l) (hl : l.length ≤ 1099511627776) (hw : ∀ x ∈ l, (Lit.int .i64 x).wf = true) :
    Calls Try.prog 20 #[.int .i64 f, .slice A l.length cap] w fun e w' => e = .returned (.tuple #[.int .i64 (Trim.bestVal l (Trim.bestTo l f l.length).1), .bool (decide (0 ≤ (Trim.bestTo l f l.length).1))]) ∧ Ok w w' := by
  have hok := Ok.refl w
  have hmm := @run_makeMap Try.prog
  go_enter Try.func20, Try.ntmps20
  go_wp2
  go_loopw [18] (fun i wr => ∃ k : Nat, k ≤ l.length ∧ i = .int .i64 k ∧ CountsAt wr w.heap.size k (l.take k) ∧ Ok w wr) (fun i _ => l.length - (intOf i).toNat)
  case atStart => exact ⟨0, Nat.zero_le _, rfl, CountsAt.made w, hok.alloc _⟩
  case round =>
    obtain ⟨k, hk, rfl, hC, hok⟩ := hrel
    by_cases hlt : k < l.length
    · obtain ⟨b, off, hA, hb, p0⟩ := (hI.below hok) k hlt
      subst hA
      have hwx := hw l[k] (List.getElem_mem hlt)
      have KC := Lib.hid (trimCount w.heap.size k (l.take k) l[k] wr hC hwx (by omega) (by simp; omega))
      rw [← take_more hlt] at KC
      generalize l[k] = x at p0 KC
      clear hwx hC
      go_wp2_with (go_at_call 32; refine KC.out.mono ?_; rintro e w1 ⟨rfl, hC1, hg1⟩; replace hok := ok_grown hok hg1 (Nat.le_refl _))
      go_roundw
      case rel => exact ⟨k + 1, by omega, by go_num, hC1, hok⟩
      case measure => simp [intOf]; omega
    · rw [List.take_of_length_le (show l.length ≤ k by omega)] at hC
      clear hmm
      go_wp2
      go_loopw [9, 10, 11, 29] (fun v m q i wx => ∃ j : Nat, j ≤ l.length ∧ i = .int .i64 j ∧ v = .int .i64 (Trim.bestVal l (Trim.bestTo l f j).1) ∧ m = .int .i64 (Trim.bestTo l f j).2 ∧ q = .bool (decide (0 ≤ (Trim.bestTo l f j).1)) ∧ CountsAt wx w.heap.size k l ∧ Ok w wx) (fun _ _ _ i _ => l.length - (intOf i).toNat)
      case atStart => exact ⟨0, Nat.zero_le _, rfl, rfl, rfl, rfl, hC, hok⟩
      case round =>
        obtain ⟨j, hj, rfl, rfl, rfl, rfl, hC2, hok2⟩ := hrel
        clear hC hok
        by_cases hlt2 : j < l.length
        · obtain ⟨b, off, hA, hb, p0⟩ := (hI.below hok2) j hlt2
          subst hA
          have hwx := hw l[j] (List.getElem_mem hlt2)
          have hs1 := Trim.same_pos hlt2
          have KS := Lib.hid fun W h => trimSame w.heap.size k l l[j] W h hwx hl hs1
          have HB := Lib.hid (Trim.bestTo_snoc hlt2 f)
          have HV := Lib.hid (Trim.bestVal_at hlt2)
          generalize l[j] = x at p0 KS HB HV hs1
          generalize Trim.same l x = s at KS HB hs1
          generalize Trim.bestTo l f j = p at HB ⊢
          obtain ⟨p1, p2⟩ := p
          clear hwx
          by_cases hd : p2 < (s : Int)
          · have e1 : Trim.bestTo l f (j + 1) = ((j : Int), (s : Int)) := by rw [HB.out, if_pos hd]
            go_wp2_with (go_at_call 33; refine (KS.out _ hC2).mono ?_; rintro e w1 ⟨rfl, hb1⟩; replace hC2 := hC2.next hb1; replace hok2 := hok2.trans hb1; clear hb1)
            go_roundw
            case rel => exact ⟨j + 1, by omega, by go_num, by rw [e1]; show _ = Value.int .i64 (Trim.bestVal l (j : Int)); rw [HV.out], by rw [e1], by rw [e1]; simp, hC2, hok2⟩
            case measure => simp [intOf]; omega
          · have e1 : Trim.bestTo l f (j + 1) = (p1, p2) := by rw [HB.out, if_neg hd]
            go_wp2_with (go_at_call 33; refine (KS.out _ hC2).mono ?_; rintro e w1 ⟨rfl, hb1⟩; replace hC2 := hC2.next hb1; replace hok2 := hok2.trans hb1; clear hb1)
            go_roundw
            case rel => exact ⟨j + 1, by omega, by go_num, by rw [e1], by rw [e1], by rw [e1], hC2, hok2⟩
            case measure => simp [intOf]; omega
        · have e1 : j = l.length := by omega
          subst e1
          go_wp2
          go_ret2
          exact ⟨rfl, hok2⟩
end Go.Proofs.Ytolaipclndhkkaa
