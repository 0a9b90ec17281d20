/- Several texts of mine in one: W51, C19c, C19e, C14e. -/
import Derived.Test.YtmokofblmkeloaaGreatDoorP38
import Derived.Test.YtmokofblmkeloaaGreatDoorW16
import Derived.Test.YtmokofblmkeloaaGreatDoorB05
import Derived.Test.YtmokofblmkeloaaGreatDoorP37
import Derived.Test.YtmokofblmkeloaaGreatDoorMA
import Derived.Test.YtmokofblmkeloaaGreatDoorP36
import Derived.Maps.OwnOps
import Derived.Defers
import Derived.Maps.Views
import Derived.StringKeys
namespace Go.Proofs.YtmokofblmkeloaaGreatDoor
open Go.RowKit Go.WideShapes Go.ChangeShapes
set_option maxRecDepth 100000
theorem infoMsg51 : (Tryz.prog.info? 51).map (fun i => (i.zero, i.size, i.bytes)) = some (some (.agg #[.int .i64 0, .int .i64 0, .int .i64 0, .int .i64 0, .int .i64 0, .int .i64 0, .bool false, .bool false, .int .i64 0, .int .i64 0, .int .i64 0, .int .i64 0, .int .i64 0, .slice none 0 0]), 14, 120) := by kernel_rfl
theorem maL_one (y : MA) : ∀ u ∈ maL y, u.oneCell' = true := by
  intro u hu
  simp only [maL, msgCells, List.mem_cons, List.not_mem_nil, or_false] at hu
  rcases hu with (rfl | rfl | rfl | rfl | rfl | rfl | rfl | rfl | rfl | rfl | rfl | rfl | rfl | rfl) <;> rfl
/-- A message is put behind a row of one's own. -/
theorem wpList_append_msg {w : World} {ops : Array Oper} {rest : List Oper} {o : Oper} {a : Act} {Q : Exit → Act → World → Prop} (hgd : o.guard = none) (s x : Operand)
    (ho : o.op = .call { callee := .builtin .append, args := #[s, x], argTypes := #[147, 147] })
    (base : Nat) (v : Value) (l : List MA) (n : Nat) (hs : a.eval s = v) (hown : w.ownsRow base 51 14 v n (l.flatMap maL)) (g : Nat) (y : MA) (hx : a.eval x = .slice (some ⟨g, 0, none⟩) 1 1) (hy : Own w g (maL y).toArray)
    (h63 : n ≤ 100000) (hbase : base ≤ w.heap.size)
    (h : ∀ v' w', w'.ownsRow base 51 14 v' (n + 1) ((l ++ [y]).flatMap maL) → w.grownBy w' v.ownBlock → wpList Tryz.prog ops Q rest (a.put o.dst v') w') : wpList Tryz.prog ops Q (o :: rest) a w := by
  obtain ⟨i, i0, i1, i2, i3⟩ := info_parts infoMsg51
  refine wpList_append_own w hgd s x 147 ho base 51 i _ 14 120 Tryz.underlying147 i0 i1 i2 i3 rfl (by decide) v n (l.flatMap maL) hs hown ⟨g, 0, none⟩ 1 1 (maL y) hx rfl (fun j u hj => ?_) (maL_one y) (by unfold maxLen; omega) (by omega) hbase fun v' w' h1 h2 _ => h v' w' (by rw [List.flatMap_append]; simpa using h1) h2
  rw [Go.WideShapes.add_plain, Nat.zero_add]
  exact hy.cell j (by rw [List.getElem?_toArray]; exact hj)
/-- Such a row reads so. -/
theorem msgs_of_row {w : World} {B : Nat} {v : Value} {l : List MA} {n : Nat} (hn : n = l.length) (h : w.ownsRow B 51 14 v n (l.flatMap maL)) (ht : ∀ x ∈ l, PairsAt w x.A x.m.table) : ∃ A c, v = .slice A l.length c ∧ MsgsAt w A l := by
  subst hn
  obtain ⟨A, c, e, hc⟩ := CellsAt.of_own h (by
    have : ∀ m : List MA, (m.flatMap maL).length = m.length * 14 := fun m => by
      induction m with
      | nil => rfl
      | cons a m ih => rw [List.flatMap_cons, List.length_append, ih, maL_len, List.length_cons]; omega
    exact (this l).symm) (by decide)
  exact ⟨A, c, e, hc, ht⟩
end Go.Proofs.YtmokofblmkeloaaGreatDoor
namespace Go.Proofs.YtmokofblmkeloaaGreatDoor
open Go.RowKit Go.Maps
set_option maxRecDepth 100000
/-- The slice with address A reads as these texts. -/
def TextsAt (w : World) (A : Option Addr) (l : List (List UInt8)) : Prop :=
  ∀ k (h : k < l.length), ∃ b off, A = some ⟨b, off, none⟩ ∧ b < w.heap.size ∧ w.cell? ⟨b, off + k, none⟩ = some (.string (strB l[k]))
theorem TextsAt.below {w w' : World} {A : Option Addr} {l : List (List UInt8)} (h : TextsAt w A l) (hb : Ok w w') : TextsAt w' A l := fun k hk => by
  obtain ⟨b, off, hA, hlt, hc⟩ := h k hk
  exact ⟨b, off, hA, Nat.lt_of_lt_of_le hlt hb.size, (hb.cell (p := ⟨b, off + k, none⟩) hlt).trans hc⟩
theorem ok_grown19 {W w w' : World} {g : Nat} (h : Ok W w) (hg : w.grownBy w' (some g)) (hB : W.heap.size ≤ g) : Ok W w' := Below.grown h hg h.size (fun k hk => by cases hk; exact hB)
theorem keyStr : Keyed Tryz.prog 9 := string_keyed Tryz.underlying9
theorem keyStr_mk (x : List UInt8) (h : x.length ≤ 1048576) : keyOf Tryz.prog 9 (.string (strB x)) = some (.string x) := by
  have := WideMaps.keyOf_string_mk (P := Tryz.prog) Tryz.underlying9 (s := strB x) (by rw [strB_size]; unfold maxLen; omega)
  simpa [strB] using this
theorem zeroInt19 (w : World) : (zeroValue 3).run Tryz.prog w = .ok (.int .i64 0) w := by kernel_rfl
/-- The map in block b counts the numbers of l. -/
def TallyAt (w : World) (b n : Nat) (l : List (List UInt8)) : Prop :=
  ∃ D : DataW Unit, w.ownsMap Tryz.prog 9 (plainElem Tryz.prog 3) b n D ∧ IsMap D ∧ ∀ x, x.length ≤ 1048576 → D.atKey (.string x) (.lit (.int .i64 0)) = .lit (.int .i64 (Vote.cnt l x))
theorem TallyAt.made (w : World) : TallyAt (w.alloc (.map #[] 0)) w.heap.size 0 [] := ⟨.map [], World.ownsMap_made _ _ _ _, isMap_empty, fun _x _ => rfl⟩
theorem TallyAt.lt {w : World} {b n : Nat} {l : List (List UInt8)} (h : TallyAt w b n l) : b < w.heap.size := by
  obtain ⟨D, h, _⟩ := h
  exact h.lt
theorem TallyAt.next {w w' : World} {b n : Nat} {l : List (List UInt8)} (h : TallyAt w b n l) (k : Ok w w') : TallyAt w' b n l := by
  obtain ⟨D, h, h2, h3⟩ := h
  have hl := h.lt
  obtain ⟨es, clock, hb, F⟩ := h
  exact ⟨D, ⟨es, clock, (Below.block k b hl).trans hb, F⟩, h2, h3⟩
theorem Vote.cnt_snoc (l : List (List UInt8)) (x y : List UInt8) : Vote.cnt (l ++ [x]) y = Vote.cnt l y + if y = x then 1 else 0 := by
  unfold Vote.cnt
  rw [List.countP_append, List.countP_cons, List.countP_nil]
  by_cases h : y = x <;> simp [h]
theorem Vote.cnt_le (l : List (List UInt8)) (x : List UInt8) : Vote.cnt l x ≤ l.length := List.countP_le_length
theorem TallyAt.put {w' : World} {b n m : Nat} {l : List (List UInt8)} {x : List UInt8} {D : DataW Unit} (hx : x.length ≤ 1048576) (hM : IsMap D) (hD : ∀ x, x.length ≤ 1048576 → D.atKey (.string x) (.lit (.int .i64 0)) = .lit (.int .i64 (Vote.cnt l x)))
    (hm : m = Vote.cnt l x + 1) (h : w'.ownsMap Tryz.prog 9 (plainElem Tryz.prog 3) b n (D.put (.string x) (.lit (.int .i64 m)))) : TallyAt w' b n (l ++ [x]) := by
  refine ⟨_, h, hM.put _ _, fun y hy => ?_⟩
  rw [Vote.cnt_snoc]
  by_cases e : y = x
  · subst e
    rw [if_pos rfl, atKey_put_same hM (by trivial), hm]
  · rw [if_neg e, atKey_put_other (by intro g; injection g with g; exact e g), hD y hy]
    rfl
theorem voteIdle (w : World) : CallsD Tryz.prog 210 #[] .returning w fun e u' w' => e = .returned (.tuple #[]) ∧ u' = .returning ∧ w' = w := by
  refine callsD_of_wpS Tryz.func210 rfl fun c₀ cs hu => ?_
  apply wpS_region
  simp [wpOpsS, go_sem, recoverD, hu, Tryz.ntmps210]
  cases c₀
  simp_all [bodyPostS, results, Tryz.results210]
theorem voteIdle2 (p : Value) (w : World) : CallsD Tryz.prog 211 #[p] .returning w fun e u' w' => e = .returned (.tuple #[]) ∧ u' = .returning ∧ w' = w := by
  refine callsD_of_wpS Tryz.func211 rfl fun c₀ cs hu => ?_
  apply wpS_seq
  apply wpS_region
  simp [wpOpsS, go_sem, recoverD, hu, Tryz.ntmps211, Exit.thenS]
  refine wpS_cond (t := false) (by simp [Act.eval, Array.replicate]) ?_
  simp only [Bool.false_eq_true, if_false]
  refine wpS_of_wp (wp_skip ?_)
  cases c₀
  simp_all [bodyPostS, results, Tryz.results211]
theorem voteCount (b n : Nat) (l : List (List UInt8)) (x : List UInt8) (w : World) (h : TallyAt w b n l) (hx : x.length ≤ 1048576) (hn : n ≤ 1099511627776) (hl : l.length ≤ 1099511627776) :
    Calls Tryz.prog 188 #[.map (some b), .string (strB x)] w fun e w' => e = .returned (.tuple #[]) ∧ TallyAt w' b (n + 1) (l ++ [x]) ∧ w.grownBy w' (some b) := by
  obtain ⟨D, hown, hM, hD⟩ := h
  have hkey := keyStr_mk x hx
  have HX := Lib.hid hx
  have HDX := Lib.hid hD
  have hsl := Vote.cnt_le l x
  clear hx hD
  go_enter_defers Tryz.func188, Tryz.ntmps188
  go_wp2_with (first
    | (at_lookup; refine wpList_lookup_own_int _ rfl _ _ 218 rfl 9 3 .i64 keyStr Tryz.underlying218 Tryz.underlying3 (zeroInt19 _) b n _ rfl hown _ _ rfl hkey ?_; intro c hat hwc; obtain rfl : c = (Vote.cnt l x : Int) := (by rw [HDX.out x HX.out] at hat; injection hat with hat; injection hat with _ hat; exact hat.symm); clear hat hwc)
    | (at_mapUpdate; refine wpList_mapUpdate_own _ rfl _ _ _ 218 rfl 9 3 keyStr Tryz.underlying218 _ b n _ rfl hown (by unfold maxLen; omega) _ _ _ rfl rfl hkey (.lit (.int .i64 ((Vote.cnt l x : Int) + 1))) [] (plainElem_int Tryz.underlying3 (WalkArith.wf_i64 (by omega))) ?_; intro w1 hown1 hgrow1)
    | go_in)
  refine leaves_cons (f := 210) (args := #[]) (by simp) (by simp [go_sem]) ?_
  refine (voteIdle _).mono ?_
  rintro e u' w' ⟨rfl, rfl, rfl⟩
  refine ⟨.tuple #[], (by simp [results, Tryz.results188]), rfl, TallyAt.put HX.out hM HDX.out (m := Vote.cnt l x + 1) rfl (by simpa using hown1), hgrow1⟩
theorem voteSame (b n : Nat) (l : List (List UInt8)) (x : List UInt8) (w : World) (h : TallyAt w b n l) (hx : x.length ≤ 1048576) (_hl : l.length ≤ 1099511627776) (h1 : 1 ≤ Vote.cnt l x) :
    Calls Tryz.prog 189 #[.map (some b), .string (strB x)] w fun e w' => e = .returned (.int .i64 (Vote.cnt l x)) ∧ Ok w w' := by
  have hok := Ok.refl w
  have hmf : ∀ (fn : Fn) (first cap : Array Value) (w : World), (Instr.makeFunc fn first cap).run Tryz.prog w = .ok (.func fn first cap) w := fun _ _ _ _ => rfl
  have h0 := h
  obtain ⟨D, hown, hM, hD⟩ := h
  have hkey := keyStr_mk x hx
  have HX := Lib.hid hx
  have HDX := Lib.hid (hD x hx)
  have hsl := Vote.cnt_le l x
  clear hx hD
  generalize Vote.cnt l x = m at HDX hsl h1 ⊢
  have hnot : ¬ (m : Int) < 1 := by omega
  go_enter_defers Tryz.func189, Tryz.ntmps189
  go_wp2_with (first
    | (at_lookup; refine wpList_lookup_own_int _ rfl _ _ 218 rfl 9 3 .i64 keyStr Tryz.underlying218 Tryz.underlying3 (zeroInt19 _) b n _ rfl (World.ownsMap.alloc hown _) _ _ rfl hkey ?_; intro c hat hwc; obtain rfl : c = (m : Int) := (by rw [HDX.out] at hat; injection hat with hat; injection hat with _ hat; exact hat.symm); clear hat hwc)
    | go_in)
  refine leaves_cons (f := 211) (args := #[.pointer (some ⟨w.heap.size, 0, none⟩)]) (by simp) (by simp [go_sem]) ?_
  refine (voteIdle2 _ _).mono ?_
  rintro e u' w' ⟨rfl, rfl, rfl⟩
  refine ⟨.int .i64 m, (by simp [results, Tryz.results189, go_sem]; omega), rfl, ?_⟩
  first | exact hok.alloc _ | exact (hok.alloc _).setCell (Nat.le_refl _) _
theorem Vote.cnt_pos {l : List (List UInt8)} {k : Nat} (h : k < l.length) : 1 ≤ Vote.cnt l l[k] := by
  have : 0 < Vote.cnt l l[k] := List.countP_pos_iff.2 ⟨l[k], List.getElem_mem h, by simp⟩
  omega
set_option maxHeartbeats 1600000 in
theorem voteAgreed (f : Int) (A : Option Addr) (l : List (List UInt8)) (cap : Nat) (w : World) (hI : TextsAt w A l) (hl : l.length ≤ 1099511627776) (hw : ∀ x ∈ l, x.length ≤ 1048576) :
    Calls Tryz.prog 158 #[.int .i64 f, .slice A l.length cap] w fun e w' => e = .returned (.tuple #[.string (strB (Vote.topVal l (Vote.top l f l.length).1)), .bool (decide (0 ≤ (Vote.top l f l.length).1))]) ∧ Ok w w' := by
  have hok := Ok.refl w
  have hmm := @run_makeMap Tryz.prog
  go_enter Tryz.func158, Tryz.ntmps158
  go_wp2
  go_loopw [18] (fun i wr => ∃ k : Nat, k ≤ l.length ∧ i = .int .i64 k ∧ TallyAt wr w.heap.size k (l.take k) ∧ Ok w wr) (fun i _ => l.length - (intOf i).toNat)
  case atStart => exact ⟨0, Nat.zero_le _, rfl, TallyAt.made w, hok.alloc _⟩
  case round =>
    obtain ⟨k, hk, rfl, hC, hok⟩ := hrel
    by_cases hlt : k < l.length
    · obtain ⟨b, off, hA, hb, p0⟩ := (hI.below hok) k hlt
      subst hA
      have hwx := hw l[k] (List.getElem_mem hlt)
      have KC := Lib.hid (voteCount w.heap.size k (l.take k) l[k] wr hC hwx (by omega) (by simp; omega))
      rw [← take_more hlt] at KC
      generalize l[k] = x at p0 KC
      clear hwx hC
      go_wp2_with (go_at_call 188; refine KC.out.mono ?_; rintro e w1 ⟨rfl, hC1, hg1⟩; replace hok := ok_grown19 hok hg1 (Nat.le_refl _))
      go_roundw
      case rel => exact ⟨k + 1, by omega, by go_num, hC1, hok⟩
      case measure => simp [intOf]; omega
    · rw [List.take_of_length_le (show l.length ≤ k by omega)] at hC
      clear hmm
      go_wp2
      go_loopw [9, 10, 11, 29] (fun v m q i wx => ∃ j : Nat, j ≤ l.length ∧ i = .int .i64 j ∧ v = .string (strB (Vote.topVal l (Vote.top l f j).1)) ∧ m = .int .i64 (Vote.top l f j).2 ∧ q = .bool (decide (0 ≤ (Vote.top l f j).1)) ∧ TallyAt wx w.heap.size k l ∧ Ok w wx) (fun _ _ _ i _ => l.length - (intOf i).toNat)
      case atStart => exact ⟨0, Nat.zero_le _, rfl, rfl, rfl, rfl, hC, hok⟩
      case round =>
        obtain ⟨j, hj, rfl, rfl, rfl, rfl, hC2, hok2⟩ := hrel
        clear hC hok
        by_cases hlt2 : j < l.length
        · obtain ⟨b, off, hA, hb, p0⟩ := (hI.below hok2) j hlt2
          subst hA
          have hwx := hw l[j] (List.getElem_mem hlt2)
          have hs1 := Vote.cnt_pos hlt2
          have KS := Lib.hid fun W h => voteSame w.heap.size k l l[j] W h hwx hl hs1
          have HB := Lib.hid (Vote.top_snoc hlt2 f)
          have HV := Lib.hid (Vote.topVal_at hlt2)
          generalize l[j] = x at p0 KS HB HV hs1
          generalize Vote.cnt l x = s at KS HB hs1
          generalize Vote.top l f j = p at HB ⊢
          obtain ⟨p1, p2⟩ := p
          clear hwx
          by_cases hd : p2 < (s : Int)
          · have e1 : Vote.top l f (j + 1) = ((j : Int), (s : Int)) := by rw [HB.out, if_pos hd]
            go_wp2_with (go_at_call 189; refine (KS.out _ hC2).mono ?_; rintro e w1 ⟨rfl, hb1⟩; replace hC2 := hC2.next hb1; replace hok2 := hok2.trans hb1; clear hb1)
            go_roundw
            case rel => exact ⟨j + 1, by omega, by go_num, by rw [e1]; show _ = Value.string (strB (Vote.topVal l (j : Int))); rw [HV.out], by rw [e1], by rw [e1]; simp, hC2, hok2⟩
            case measure => simp [intOf]; omega
          · have e1 : Vote.top l f (j + 1) = (p1, p2) := by rw [HB.out, if_neg hd]
            go_wp2_with (go_at_call 189; refine (KS.out _ hC2).mono ?_; rintro e w1 ⟨rfl, hb1⟩; replace hC2 := hC2.next hb1; replace hok2 := hok2.trans hb1; clear hb1)
            go_roundw
            case rel => exact ⟨j + 1, by omega, by go_num, by rw [e1], by rw [e1], by rw [e1], hC2, hok2⟩
            case measure => simp [intOf]; omega
        · have e1 : j = l.length := by omega
          subst e1
          go_wp2
          go_ret2
          exact ⟨rfl, hok2⟩
end Go.Proofs.YtmokofblmkeloaaGreatDoor
namespace Go.Proofs.YtmokofblmkeloaaGreatDoor
open Go.RowKit
set_option maxRecDepth 100000
attribute [local go_sem ↓] Go.wp_at_zero Go.wp_at_succ
/-- A row is as it was behind an append to a row of other elements. -/
theorem row_other19 {w w1 : World} {B C : Nat} {e f : TypeId} {k n m q : Nat} {v u : Value} {xs ys : List Value} (h : w.ownsRow B e k v n xs) (h2 : w.ownsRow C f m u q ys) (hne : e ≠ f) (hg : w.grownBy w1 u.ownBlock) : w1.ownsRow B e k v n xs := by
  refine h.kept hg ?_
  cases hb : v.ownBlock with
  | none => exact .inl rfl
  | some g =>
    refine .inr fun e2 => ?_
    obtain ⟨c, fz, h3⟩ := row_typed h g hb
    obtain ⟨c2, fz2, h4⟩ := row_typed h2 g e2.symm
    rw [h3] at h4
    injection h4 with h4
    injection h4 with _ h5 _
    exact hne h5
/-- One value of one cell is put behind a row of one's own. -/
theorem wpList_append_value {P : Program} {w : World} {ops : Array Oper} {rest : List Oper} {o : Oper} {a : Act} {Q : Exit → Act → World → Prop} (hgd : o.guard = none) (s x : Operand) (t : TypeId)
    (ho : o.op = .call { callee := .builtin .append, args := #[s, x], argTypes := #[t, t] })
    (base : Nat) (e : TypeId) (ht : P.underlying t = some (.slice e)) (z : Value) (bytes : Nat) (hby : bytes ≤ 1000) (hz : z.cells.size = 1) (hi : (P.info? e).map (fun i => (i.zero, i.size, i.bytes)) = some (some z, 1, bytes))
    (v : Value) (n : Nat) (xs : List Value) (hs : a.eval s = v) (hown : w.ownsRow base e 1 v n xs) (g : Nat) (u : Value) (hu : u.oneCell' = true) (hx : a.eval x = .slice (some ⟨g, 0, none⟩) 1 1) (hc : w.cell? ⟨g, 0, none⟩ = some u)
    (h63 : n ≤ 1048576) (hbase : base ≤ w.heap.size)
    (h : ∀ v' w', w'.ownsRow base e 1 v' (n + 1) (xs ++ [u]) → w.grownBy w' v.ownBlock → wpList P ops Q rest (a.put o.dst v') w') : wpList P ops Q (o :: rest) a w := by
  obtain ⟨i, i0, i1, i2, i3⟩ := info_parts hi
  refine wpList_append_own w hgd s x t ho base e i z 1 bytes ht i0 i1 i2 i3 hz (by decide) v n xs hs hown ⟨g, 0, none⟩ 1 1 [u] hx rfl (fun j u2 hj => ?_) (by simpa using hu) (by unfold maxLen; omega) (Nat.le_trans (Nat.mul_le_mul (show n + 1 ≤ 1048577 by omega) hby) (by decide)) hbase fun v' w' h1 h2 _ => h v' w' h1 h2
  have : j = 0 := by
    have := (List.getElem?_eq_some_iff.1 hj).1
    simp at this; omega
  subst this
  cases hj
  exact hc
theorem infoTab : (Tryz.prog.info? 26).map (fun i => (i.zero, i.size, i.bytes)) = some (some (.slice none 0 0), 1, 24) := by kernel_rfl
theorem infoText : (Tryz.prog.info? 9).map (fun i => (i.zero, i.size, i.bytes)) = some (some (.string ⟨#[]⟩), 1, 16) := by kernel_rfl
abbrev keyV (x : TA) : Value := .string (strB (Vote.key x.l))
theorem tabs_of_row {w : World} {B : Nat} {e : TypeId} {v : Value} {ts : List TA} (h : w.ownsRow B e 1 v ts.length (ts.map taV)) (ht : ∀ x ∈ ts, PairsAt w x.A x.l) : ∃ A c, v = .slice A ts.length c ∧ TabsAt w A ts := by
  rcases h.2 with ⟨rfl, hx⟩ | ⟨g, cap, cur, rfl, hb, hh, hnc, r⟩
  · have : ts = [] := by simpa using hx
    subst this
    exact ⟨none, 0, rfl, TabsAt.empty _ _⟩
  · refine ⟨some ⟨g, 0, none⟩, cap, rfl, ⟨fun k hk => ⟨g, 0, rfl, (Array.getElem?_eq_some_iff.1 hh).1, ?_⟩, ht⟩⟩
    have := h.cellAt (g := g) k (by omega)
    rw [Nat.zero_add, this]
    simp [hk]
theorem texts_of_row {w : World} {B : Nat} {e : TypeId} {v : Value} {ts : List TA} (h : w.ownsRow B e 1 v ts.length (ts.map keyV)) : ∃ A c, v = .slice A ts.length c ∧ TextsAt w A (ts.map fun x => Vote.key x.l) := by
  rcases h.2 with ⟨rfl, hx⟩ | ⟨g, cap, cur, rfl, hb, hh, hnc, r⟩
  · have : ts = [] := by simpa using hx
    subst this
    exact ⟨none, 0, rfl, fun k h => absurd h (Nat.not_lt_zero k)⟩
  · refine ⟨some ⟨g, 0, none⟩, cap, rfl, fun k hk => ⟨g, 0, rfl, (Array.getElem?_eq_some_iff.1 hh).1, ?_⟩⟩
    rw [List.length_map] at hk
    have := h.cellAt (g := g) k (by omega)
    rw [Nat.zero_add, this]
    simp [hk]
/-- The place of a text that is there. -/
theorem indexText {ks : List (List UInt8)} {x : List UInt8} (hx : ∃ i, ∃ h : i < ks.length, ks[i] = x) (hb : ks.length ≤ 9223372036854775807) : ∃ j, ∃ _ : j < ks.length, ks[j] = x ∧ ∀ (A : Option Addr) (c : Nat) (w : World), TextsAt w A ks →
    Calls Tryz.prog 159 #[.slice A ks.length c, .string (strB x)] w fun e w' => e = .returned (.int .i64 (j : Int)) ∧ w = w' := by
  have hlt : ks.findIdx (fun y => decide (y = x)) < ks.length := by
    obtain ⟨i, h, e⟩ := hx
    exact List.findIdx_lt_length_of_exists ⟨ks[i], List.getElem_mem h, by simpa using e⟩
  refine ⟨ks.findIdx (fun y => decide (y = x)), hlt, by simpa using List.findIdx_getElem (w := hlt), fun A c w h => ?_⟩
  obtain ⟨b, off, hA, -, -⟩ := h _ hlt
  subst hA
  have hzl : (ks.map strB).length = ks.length := List.length_map _
  have hget : ∀ j (hj : j < ks.length), (ks.map strB).getD j ByteArray.empty = strB ks[j] := fun j hj => by
    rw [List.getD_eq_getElem?_getD, List.getElem?_map, List.getElem?_eq_getElem hj]; rfl
  have hi := Lib.idxOfS_hit (ks.map strB) ks.length (ks.findIdx (fun y => decide (y = x))) (strB x) hlt (by rw [hzl]; exact Nat.le_refl _) (by rw [hget _ hlt]; congr 1; simpa using List.findIdx_getElem (w := hlt)) (fun j hj e => by
    rw [hget j (by omega)] at e
    have := List.not_of_lt_findIdx hj
    simp at this
    exact this (strB_one e))
  refine (Tryz.slices_Index_string b off ks.length c (ks.map strB) (strB x) w (by rw [hzl]; exact Nat.le_refl _) hb (fun j hj => ?_)).mono ?_
  · rw [hzl] at hj
    obtain ⟨b2, off2, e, _, hc⟩ := h j hj
    cases e
    rw [hget j hj]
    exact hc
  · rintro e w' ⟨rfl, rfl⟩
    exact ⟨by rw [hi], rfl⟩
end Go.Proofs.YtmokofblmkeloaaGreatDoor
namespace Go.Proofs.YtmokofblmkeloaaGreatDoor
open Go.RowKit Go.Maps
set_option maxRecDepth 100000
attribute [local go_sem ↓] Go.wp_at_zero Go.wp_at_succ
theorem ints_only {r : Nat} {w w1 : World} {A : Option Addr} {l : List Int} (h : IntsAt w A l) (k : Only r w w1) (hA : ∀ a, A = some a → a.block ≠ r) : IntsAt w1 A l := fun j hj => by
  obtain ⟨b, off, e, hlt, hc⟩ := h j hj
  exact ⟨b, off, e, Nat.lt_of_lt_of_le hlt k.size, (k.cell (p := ⟨b, off + j, none⟩) hlt (show b ≠ r from hA _ e)).trans hc⟩
theorem memNext (a q : Int) (w : World) (ha : 0 ≤ a ∧ a ≤ 1073741824) (hq : 0 ≤ q ∧ q ≤ 1073741824) :
    Calls Tryz.prog 71 #[.agg #[.int .i64 a, .int .i64 q]] w fun e w' => e = .returned (.agg #[.int .i64 (Mem.next (a, q)).1, .int .i64 (Mem.next (a, q)).2]) ∧ Ok w w' := by
  have hok := Ok.refl w
  have e2 : (Mem.next (a, q)).2 = min (q + 1) 1073741824 := Mem.up_min hq.2
  have e1 : (Mem.next (a, q)).1 = if q = 0 then min (a + 1) 1073741824 else 0 := by
    show (if q = 0 then Mem.up a else 0) = _
    rw [Mem.up_min ha.2]
  by_cases h0 : q = 0
  · subst h0
    rw [if_pos rfl] at e1
    by_cases h1 : 1073741824 < a + 1
    · rw [show min (a + 1) (1073741824 : Int) = 1073741824 by omega] at e1
      rw [show min (0 + 1) (1073741824 : Int) = 1 by omega] at e2
      rw [e1, e2]
      clear e1 e2
      go_enter Tryz.func71, Tryz.ntmps71
      go_wp2
      exact bodyPost_ret (v := .agg #[.int .i64 1073741824, .int .i64 1]) (by simp [results, Tryz.results71, go_sem]; omega) rfl ⟨rfl, (hok.alloc _).alloc _⟩
    · rw [show min (a + 1) (1073741824 : Int) = a + 1 by omega] at e1
      rw [show min (0 + 1) (1073741824 : Int) = 1 by omega] at e2
      rw [e1, e2]
      clear e1 e2
      go_enter Tryz.func71, Tryz.ntmps71
      go_wp2
      exact bodyPost_ret (v := .agg #[.int .i64 (a + 1), .int .i64 1]) (by simp [results, Tryz.results71, go_sem]; omega) rfl ⟨rfl, (hok.alloc _).alloc _⟩
  · rw [if_neg h0] at e1
    have hd : (q == 0) = false := by rw [beq_eq_false_iff_ne]; exact h0
    by_cases h2 : 1073741824 < q + 1
    · rw [show min (q + 1) (1073741824 : Int) = 1073741824 by omega] at e2
      rw [e1, e2]
      clear e1 e2
      go_enter Tryz.func71, Tryz.ntmps71
      go_wp2
      exact bodyPost_ret (v := .agg #[.int .i64 0, .int .i64 1073741824]) (by simp [results, Tryz.results71, go_sem]; omega) rfl ⟨rfl, (hok.alloc _).alloc _⟩
    · rw [show min (q + 1) (1073741824 : Int) = (q + 1) by omega] at e2
      rw [e1, e2]
      clear e1 e2
      go_enter Tryz.func71, Tryz.ntmps71
      go_wp2
      exact bodyPost_ret (v := .agg #[.int .i64 0, .int .i64 (q + 1)]) (by simp [results, Tryz.results71, go_sem]; omega) rfl ⟨rfl, (hok.alloc _).alloc _⟩
end Go.Proofs.YtmokofblmkeloaaGreatDoor
