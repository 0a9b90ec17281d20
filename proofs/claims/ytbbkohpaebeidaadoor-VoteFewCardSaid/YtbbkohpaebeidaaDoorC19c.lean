/- Layer 19: trim.Agreed of texts: it counts in a map; slices of texts. -/
import Derived.Test.YtbbkohpaebeidaaDoorC19a
import Derived.Test.YtbbkohpaebeidaaDoorM36
import Derived.Maps.OwnOps
import Derived.Defers
import Derived.Maps.Views
import Derived.StringKeys
namespace Go.Proofs.YtbbkohpaebeidaaDoor
open Go.RowKit Go.Maps
set_option maxRecDepth 100000
/-- The slice with address A reads as these texts. -/
def TextsAt (w : World) (A : Option Addr) (l : List (List UInt8)) : Prop :=
  ∀ k (h : k < l.length), ∃ b off, A = some ⟨b, off, none⟩ ∧ b < w.heap.size ∧ w.cell? ⟨b, off + k, none⟩ = some (.string (strB l[k]))
theorem TextsAt.below {w w' : World} {A : Option Addr} {l : List (List UInt8)} (h : TextsAt w A l) (hb : Ok w w') : TextsAt w' A l := fun k hk => by
  obtain ⟨b, off, hA, hlt, hc⟩ := h k hk
  exact ⟨b, off, hA, Nat.lt_of_lt_of_le hlt hb.size, (hb.cell (p := ⟨b, off + k, none⟩) hlt).trans hc⟩
theorem ok_grown19 {W w w' : World} {g : Nat} (h : Ok W w) (hg : w.grownBy w' (some g)) (hB : W.heap.size ≤ g) : Ok W w' := Below.grown h hg h.size (fun k hk => by cases hk; exact hB)
theorem keyStr : Keyed Tryd.prog 9 := string_keyed Tryd.underlying9
theorem keyStr_mk (x : List UInt8) (h : x.length ≤ 1048576) : keyOf Tryd.prog 9 (.string (strB x)) = some (.string x) := by
  have := WideMaps.keyOf_string_mk (P := Tryd.prog) Tryd.underlying9 (s := strB x) (by rw [strB_size]; unfold maxLen; omega)
  simpa [strB] using this
theorem zeroInt19 (w : World) : (zeroValue 3).run Tryd.prog w = .ok (.int .i64 0) w := by kernel_rfl
/-- The map in block b counts the numbers of l. -/
def TallyAt (w : World) (b n : Nat) (l : List (List UInt8)) : Prop :=
  ∃ D : DataW Unit, w.ownsMap Tryd.prog 9 (plainElem Tryd.prog 3) b n D ∧ IsMap D ∧ ∀ x, x.length ≤ 1048576 → D.atKey (.string x) (.lit (.int .i64 0)) = .lit (.int .i64 (Vote.cnt l x))
theorem TallyAt.made (w : World) : TallyAt (w.alloc (.map #[] 0)) w.heap.size 0 [] := ⟨.map [], World.ownsMap_made _ _ _ _, isMap_empty, fun _x _ => rfl⟩
theorem TallyAt.lt {w : World} {b n : Nat} {l : List (List UInt8)} (h : TallyAt w b n l) : b < w.heap.size := by
  obtain ⟨D, h, _⟩ := h
  exact h.lt
theorem TallyAt.next {w w' : World} {b n : Nat} {l : List (List UInt8)} (h : TallyAt w b n l) (k : Ok w w') : TallyAt w' b n l := by
  obtain ⟨D, h, h2, h3⟩ := h
  have hl := h.lt
  obtain ⟨es, clock, hb, F⟩ := h
  exact ⟨D, ⟨es, clock, (Below.block k b hl).trans hb, F⟩, h2, h3⟩
theorem Vote.cnt_snoc (l : List (List UInt8)) (x y : List UInt8) : Vote.cnt (l ++ [x]) y = Vote.cnt l y + if y = x then 1 else 0 := by
  unfold Vote.cnt
  rw [List.countP_append, List.countP_cons, List.countP_nil]
  by_cases h : y = x <;> simp [h]
theorem Vote.cnt_le (l : List (List UInt8)) (x : List UInt8) : Vote.cnt l x ≤ l.length := List.countP_le_length
theorem TallyAt.put {w' : World} {b n m : Nat} {l : List (List UInt8)} {x : List UInt8} {D : DataW Unit} (hx : x.length ≤ 1048576) (hM : IsMap D) (hD : ∀ x, x.length ≤ 1048576 → D.atKey (.string x) (.lit (.int .i64 0)) = .lit (.int .i64 (Vote.cnt l x)))
    (hm : m = Vote.cnt l x + 1) (h : w'.ownsMap Tryd.prog 9 (plainElem Tryd.prog 3) b n (D.put (.string x) (.lit (.int .i64 m)))) : TallyAt w' b n (l ++ [x]) := by
  refine ⟨_, h, hM.put _ _, fun y hy => ?_⟩
  rw [Vote.cnt_snoc]
  by_cases e : y = x
  · subst e
    rw [if_pos rfl, atKey_put_same hM (by trivial), hm]
  · rw [if_neg e, atKey_put_other (by intro g; injection g with g; exact e g), hD y hy]
    rfl
theorem voteIdle (w : World) : CallsD Tryd.prog 37 #[] .returning w fun e u' w' => e = .returned (.tuple #[]) ∧ u' = .returning ∧ w' = w := by
  refine callsD_of_wpS Tryd.func37 rfl fun c₀ cs hu => ?_
  apply wpS_region
  simp [wpOpsS, go_sem, recoverD, hu, Tryd.ntmps37]
  cases c₀
  simp_all [bodyPostS, results, Tryd.results37]
theorem voteIdle2 (p : Value) (w : World) : CallsD Tryd.prog 38 #[p] .returning w fun e u' w' => e = .returned (.tuple #[]) ∧ u' = .returning ∧ w' = w := by
  refine callsD_of_wpS Tryd.func38 rfl fun c₀ cs hu => ?_
  apply wpS_seq
  apply wpS_region
  simp [wpOpsS, go_sem, recoverD, hu, Tryd.ntmps38, Exit.thenS]
  refine wpS_cond (t := false) (by simp [Act.eval, Array.replicate]) ?_
  simp only [Bool.false_eq_true, if_false]
  refine wpS_of_wp (wp_skip ?_)
  cases c₀
  simp_all [bodyPostS, results, Tryd.results38]
theorem voteCount (b n : Nat) (l : List (List UInt8)) (x : List UInt8) (w : World) (h : TallyAt w b n l) (hx : x.length ≤ 1048576) (hn : n ≤ 1099511627776) (hl : l.length ≤ 1099511627776) :
    Calls Tryd.prog 29 #[.map (some b), .string (strB x)] w fun e w' => e = .returned (.tuple #[]) ∧ TallyAt w' b (n + 1) (l ++ [x]) ∧ w.grownBy w' (some b) := by
  obtain ⟨D, hown, hM, hD⟩ := h
  have hkey := keyStr_mk x hx
  have HX := Lib.hid hx
  have HDX := Lib.hid hD
  have hsl := Vote.cnt_le l x
  clear hx hD
  go_enter_defers Tryd.func29, Tryd.ntmps29
  go_wp2_with (first
    | (at_lookup; refine wpList_lookup_own_int _ rfl _ _ 50 rfl 9 3 .i64 keyStr Tryd.underlying50 Tryd.underlying3 (zeroInt19 _) b n _ rfl hown _ _ rfl hkey ?_; intro c hat hwc; obtain rfl : c = (Vote.cnt l x : Int) := (by rw [HDX.out x HX.out] at hat; injection hat with hat; injection hat with _ hat; exact hat.symm); clear hat hwc)
    | (at_mapUpdate; refine wpList_mapUpdate_own _ rfl _ _ _ 50 rfl 9 3 keyStr Tryd.underlying50 _ b n _ rfl hown (by unfold maxLen; omega) _ _ _ rfl rfl hkey (.lit (.int .i64 ((Vote.cnt l x : Int) + 1))) [] (plainElem_int Tryd.underlying3 (WalkArith.wf_i64 (by omega))) ?_; intro w1 hown1 hgrow1)
    | go_in)
  refine leaves_cons (f := 37) (args := #[]) (by simp) (by simp [go_sem]) ?_
  refine (voteIdle _).mono ?_
  rintro e u' w' ⟨rfl, rfl, rfl⟩
  refine ⟨.tuple #[], (by simp [results, Tryd.results29]), rfl, TallyAt.put HX.out hM HDX.out (m := Vote.cnt l x + 1) rfl (by simpa using hown1), hgrow1⟩
theorem voteSame (b n : Nat) (l : List (List UInt8)) (x : List UInt8) (w : World) (h : TallyAt w b n l) (hx : x.length ≤ 1048576) (_hl : l.length ≤ 1099511627776) (h1 : 1 ≤ Vote.cnt l x) :
    Calls Tryd.prog 30 #[.map (some b), .string (strB x)] w fun e w' => e = .returned (.int .i64 (Vote.cnt l x)) ∧ Ok w w' := by
  have hok := Ok.refl w
  have hmf : ∀ (fn : Fn) (first cap : Array Value) (w : World), (Instr.makeFunc fn first cap).run Tryd.prog w = .ok (.func fn first cap) w := fun _ _ _ _ => rfl
  have h0 := h
  obtain ⟨D, hown, hM, hD⟩ := h
  have hkey := keyStr_mk x hx
  have HX := Lib.hid hx
  have HDX := Lib.hid (hD x hx)
  have hsl := Vote.cnt_le l x
  clear hx hD
  generalize Vote.cnt l x = m at HDX hsl h1 ⊢
  have hnot : ¬ (m : Int) < 1 := by omega
  go_enter_defers Tryd.func30, Tryd.ntmps30
  go_wp2_with (first
    | (at_lookup; refine wpList_lookup_own_int _ rfl _ _ 50 rfl 9 3 .i64 keyStr Tryd.underlying50 Tryd.underlying3 (zeroInt19 _) b n _ rfl (World.ownsMap.alloc hown _) _ _ rfl hkey ?_; intro c hat hwc; obtain rfl : c = (m : Int) := (by rw [HDX.out] at hat; injection hat with hat; injection hat with _ hat; exact hat.symm); clear hat hwc)
    | go_in)
  refine leaves_cons (f := 38) (args := #[.pointer (some ⟨w.heap.size, 0, none⟩)]) (by simp) (by simp [go_sem]) ?_
  refine (voteIdle2 _ _).mono ?_
  rintro e u' w' ⟨rfl, rfl, rfl⟩
  refine ⟨.int .i64 m, (by simp [results, Tryd.results30, go_sem]; omega), rfl, ?_⟩
  first | exact hok.alloc _ | exact (hok.alloc _).setCell (Nat.le_refl _) _
theorem Vote.cnt_pos {l : List (List UInt8)} {k : Nat} (h : k < l.length) : 1 ≤ Vote.cnt l l[k] := by
  have : 0 < Vote.cnt l l[k] := List.countP_pos_iff.2 ⟨l[k], List.getElem_mem h, by simp⟩
  omega
set_option maxHeartbeats 1600000 in
theorem voteAgreed (f : Int) (A : Option Addr) (l : List (List UInt8)) (cap : Nat) (w : World) (hI : TextsAt w A l) (hl : l.length ≤ 1099511627776) (hw : ∀ x ∈ l, x.length ≤ 1048576) :
    Calls Tryd.prog 19 #[.int .i64 f, .slice A l.length cap] w fun e w' => e = .returned (.tuple #[.string (strB (Vote.topVal l (Vote.top l f l.length).1)), .bool (decide (0 ≤ (Vote.top l f l.length).1))]) ∧ Ok w w' := by
  have hok := Ok.refl w
  have hmm := @run_makeMap Tryd.prog
  go_enter Tryd.func19, Tryd.ntmps19
  go_wp2
  go_loopw [18] (fun i wr => ∃ k : Nat, k ≤ l.length ∧ i = .int .i64 k ∧ TallyAt wr w.heap.size k (l.take k) ∧ Ok w wr) (fun i _ => l.length - (intOf i).toNat)
  case atStart => exact ⟨0, Nat.zero_le _, rfl, TallyAt.made w, hok.alloc _⟩
  case round =>
    obtain ⟨k, hk, rfl, hC, hok⟩ := hrel
    by_cases hlt : k < l.length
    · obtain ⟨b, off, hA, hb, p0⟩ := (hI.below hok) k hlt
      subst hA
      have hwx := hw l[k] (List.getElem_mem hlt)
      have KC := Lib.hid (voteCount w.heap.size k (l.take k) l[k] wr hC hwx (by omega) (by simp; omega))
      rw [← take_more hlt] at KC
      generalize l[k] = x at p0 KC
      clear hwx hC
      go_wp2_with (go_at_call 29; refine KC.out.mono ?_; rintro e w1 ⟨rfl, hC1, hg1⟩; replace hok := ok_grown19 hok hg1 (Nat.le_refl _))
      go_roundw
      case rel => exact ⟨k + 1, by omega, by go_num, hC1, hok⟩
      case measure => simp [intOf]; omega
    · rw [List.take_of_length_le (show l.length ≤ k by omega)] at hC
      clear hmm
      go_wp2
      go_loopw [9, 10, 11, 29] (fun v m q i wx => ∃ j : Nat, j ≤ l.length ∧ i = .int .i64 j ∧ v = .string (strB (Vote.topVal l (Vote.top l f j).1)) ∧ m = .int .i64 (Vote.top l f j).2 ∧ q = .bool (decide (0 ≤ (Vote.top l f j).1)) ∧ TallyAt wx w.heap.size k l ∧ Ok w wx) (fun _ _ _ i _ => l.length - (intOf i).toNat)
      case atStart => exact ⟨0, Nat.zero_le _, rfl, rfl, rfl, rfl, hC, hok⟩
      case round =>
        obtain ⟨j, hj, rfl, rfl, rfl, rfl, hC2, hok2⟩ := hrel
        clear hC hok
        by_cases hlt2 : j < l.length
        · obtain ⟨b, off, hA, hb, p0⟩ := (hI.below hok2) j hlt2
          subst hA
          have hwx := hw l[j] (List.getElem_mem hlt2)
          have hs1 := Vote.cnt_pos hlt2
          have KS := Lib.hid fun W h => voteSame w.heap.size k l l[j] W h hwx hl hs1
          have HB := Lib.hid (Vote.top_snoc hlt2 f)
          have HV := Lib.hid (Vote.topVal_at hlt2)
          generalize l[j] = x at p0 KS HB HV hs1
          generalize Vote.cnt l x = s at KS HB hs1
          generalize Vote.top l f j = p at HB ⊢
          obtain ⟨p1, p2⟩ := p
          clear hwx
          by_cases hd : p2 < (s : Int)
          · have e1 : Vote.top l f (j + 1) = ((j : Int), (s : Int)) := by rw [HB.out, if_pos hd]
            go_wp2_with (go_at_call 30; refine (KS.out _ hC2).mono ?_; rintro e w1 ⟨rfl, hb1⟩; replace hC2 := hC2.next hb1; replace hok2 := hok2.trans hb1; clear hb1)
            go_roundw
            case rel => exact ⟨j + 1, by omega, by go_num, by rw [e1]; show _ = Value.string (strB (Vote.topVal l (j : Int))); rw [HV.out], by rw [e1], by rw [e1]; simp, hC2, hok2⟩
            case measure => simp [intOf]; omega
          · have e1 : Vote.top l f (j + 1) = (p1, p2) := by rw [HB.out, if_neg hd]
            go_wp2_with (go_at_call 30; refine (KS.out _ hC2).mono ?_; rintro e w1 ⟨rfl, hb1⟩; replace hC2 := hC2.next hb1; replace hok2 := hok2.trans hb1; clear hb1)
            go_roundw
            case rel => exact ⟨j + 1, by omega, by go_num, by rw [e1], by rw [e1], by rw [e1], hC2, hok2⟩
            case measure => simp [intOf]; omega
        · have e1 : j = l.length := by omega
          subst e1
          go_wp2
          go_ret2
          exact ⟨rfl, hok2⟩
end Go.Proofs.YtbbkohpaebeidaaDoor
