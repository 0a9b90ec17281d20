/- Contracts of layer 6: the document's Decode of bytes that fit. -/
import Derived.Test.YthhdhoaicoaokaaC06q
import Derived.Test.YthhdhoaicoaokaaC06d
namespace Go.Proofs.Ythhdhoaicoaokaa
open Go.RowKit
set_option maxRecDepth 100000
attribute [local go_sem ↓] Go.wp_at_zero Go.wp_at_succ
/-- The message in the making: its numbers in the block M, j entries in a row of its own. -/
structure MsgD (l : List Nat) (G M j : Nat) (v : Value) (w0 w : World) : Prop where
  own : Own w M (mCells (Wire.parse l) v)
  row : w.ownsRow (M + 1) 45 2 v j (cellsOfPairs ((List.range j).map (entAt l)))
  okk : Ok w0 w
  res : Own w G zeroCells0
namespace MsgD
variable {l : List Nat} {G M j : Nat} {v : Value} {w0 w w1 : World}
theorem ok (h : MsgD l G M j v w0 w) (k : Ok w w1) : MsgD l G M j v w0 w1 := ⟨h.own.next k, row_ok h.row k, h.okk.trans k, h.res.next k⟩
theorem step {ops : Array Oper} {o : Oper} {a : Act} {K : Act → World → Prop} {Q : Exit → Act → World → Prop} {E : Prop} {W : World} {B n : Nat} {t : TypeId} {x y : Int} (h : MsgD l G M j v w0 w) (k : Ok w W) (hgd : o.guard = none) (s u : Operand) (ho : o.op = .call { callee := .builtin .append, args := #[s, u], argTypes := #[26, 26] })
    (hs : a.eval s = v) (hu : a.eval u = .slice (some ⟨B, 0, none⟩) 1 1) (hB : W.heap[B]? = some (.cells #[.int .i64 x, .int .i64 y] t (0, 0))) (he : entAt l j = (x, y)) (hj : j ≤ 1000) (hGM : G < M) (hw0 : w0.heap.size ≤ G) (hn : n = j + 1)
    (hK : ∀ h2 cap2 w1, w1.cell? ⟨M, 13, none⟩ = some v → w1.frozen? ⟨M, 13, none⟩ = false → MsgD l G M (j + 1) (.slice (some ⟨h2, 0, none⟩) n cap2) w0 (w1.setCell ⟨M, 13, none⟩ (.slice (some ⟨h2, 0, none⟩) n cap2)) → K (a.put o.dst (.slice (some ⟨h2, 0, none⟩) n cap2)) w1) : if Region.wanted o (yielded ops a.tmps) = true then Oper.wp Try.prog o a W K Q else E := by
  subst hn
  obtain ⟨i, i0, i1, i2, i3⟩ := info_parts leapInfo
  have hW := h.ok k
  have hMl := hW.own.lt
  have hrb : ∀ b, v.ownBlock = some b → M + 1 ≤ b ∧ b < W.heap.size := fun b hb => hW.row.lt b hb
  refine step_append_lies W hgd s u 26 ho (M + 1) 45 i (.agg #[.int .i64 0, .int .i64 0]) 2 16 Try.underlying26 i0 i1 i2 i3 rfl (by decide) v j _ hs hW.row ⟨B, 0, none⟩ 1 1 [.int .i64 x, .int .i64 y] hu rfl (World.news_of_block hB) (fun z hz => ?_) (by decide) (by unfold maxLen; omega) (by omega) (by omega) _ rfl ?_
  · simp only [List.mem_cons, List.not_mem_nil, or_false] at hz
    rcases hz with rfl | rfl <;> rfl
  intro g2 cap2 w1 hown hgrow hat hlt
  have hne : ∀ b, b ≤ M → some b ≠ v.ownBlock := fun b hb e => by
    have := hrb b e.symm
    omega
  rw [show cellsOfPairs ((List.range j).map (entAt l)) ++ [.int .i64 x, .int .i64 y] = cellsOfPairs ((List.range (j + 1)).map (entAt l)) by
    rw [List.range_succ, List.map_append, List.map_cons, List.map_nil, cells_snoc, he]] at hown
  have h2M : g2 ≠ M := by
    rcases hat with e | e
    · have := hrb g2 e; omega
    · omega
  refine hK g2 cap2 w1 ((hgrow.cell_far ⟨M, 13, none⟩ hMl (hne M (Nat.le_refl _))).trans (hW.own.cell 13 rfl)) ((hgrow.frozen_far ⟨M, 13, none⟩ hMl (hne M (Nat.le_refl _))).trans (hW.own.frozen 13)) ⟨?_, ?_, ?_, ?_⟩
  · have hO1 : Own w1 M (mCells (Wire.parse l) v) := by
      obtain ⟨t, ht⟩ := hW.own
      exact ⟨t, (hgrow.block M hMl (hne M (Nat.le_refl _))).trans ht⟩
    exact hO1.set 13 _
  · exact row_two hown ((Two.refl M M w1).set (a := ⟨M, 13, none⟩) (.inl rfl) _) (fun b hb => by cases hb; exact ⟨h2M, h2M⟩)
  · have hk := hW.okk
    exact Ok.setCell ⟨hgrow.os.trans hk.below.os, hgrow.tape.trans hk.below.tape, hgrow.output.trans hk.below.output, Nat.le_trans hk.size hgrow.size, fun q hq => (hgrow.block q (Nat.lt_of_lt_of_le hq hk.size) (hne q (by omega))).trans (hk.below.block q hq)⟩ (p := ⟨M, 13, none⟩) (by show w0.heap.size ≤ M; omega) _
  · have hGl := hW.res.lt
    have hG1 : Own w1 G zeroCells0 := by
      obtain ⟨t, ht⟩ := hW.res
      exact ⟨t, (hgrow.block G hGl (hne G (by omega))).trans ht⟩
    exact hG1.setOther (a := ⟨M, 13, none⟩) (by show G ≠ M; omega) _
end MsgD
theorem over14 {w1 : World} {G : Nat} {a0 a1 a2 a3 a4 a5 a6 a7 a8 a9 a10 a11 a12 a13 : Value} (u0 u1 u2 u3 u4 u5 u6 u7 u8 u9 u10 u11 u12 u13 : Value) (hO : Own w1 G #[a0, a1, a2, a3, a4, a5, a6, a7, a8, a9, a10, a11, a12, a13]) : Own ((((((((((((((w1.setCell ⟨G, 0, none⟩ u0).setCell ⟨G, 1, none⟩ u1).setCell ⟨G, 2, none⟩ u2).setCell ⟨G, 3, none⟩ u3).setCell ⟨G, 4, none⟩ u4).setCell ⟨G, 5, none⟩ u5).setCell ⟨G, 6, none⟩ u6).setCell ⟨G, 7, none⟩ u7).setCell ⟨G, 8, none⟩ u8).setCell ⟨G, 9, none⟩ u9).setCell ⟨G, 10, none⟩ u10).setCell ⟨G, 11, none⟩ u11).setCell ⟨G, 12, none⟩ u12).setCell ⟨G, 13, none⟩ u13) G #[u0, u1, u2, u3, u4, u5, u6, u7, u8, u9, u10, u11, u12, u13] ∧ Two G G w1 ((((((((((((((w1.setCell ⟨G, 0, none⟩ u0).setCell ⟨G, 1, none⟩ u1).setCell ⟨G, 2, none⟩ u2).setCell ⟨G, 3, none⟩ u3).setCell ⟨G, 4, none⟩ u4).setCell ⟨G, 5, none⟩ u5).setCell ⟨G, 6, none⟩ u6).setCell ⟨G, 7, none⟩ u7).setCell ⟨G, 8, none⟩ u8).setCell ⟨G, 9, none⟩ u9).setCell ⟨G, 10, none⟩ u10).setCell ⟨G, 11, none⟩ u11).setCell ⟨G, 12, none⟩ u12).setCell ⟨G, 13, none⟩ u13) := by
  refine ⟨?_, (((((((((((((((Two.refl G G w1).set (a := ⟨G, 0, none⟩) (.inl rfl) u0).set (a := ⟨G, 1, none⟩) (.inl rfl) u1).set (a := ⟨G, 2, none⟩) (.inl rfl) u2).set (a := ⟨G, 3, none⟩) (.inl rfl) u3).set (a := ⟨G, 4, none⟩) (.inl rfl) u4).set (a := ⟨G, 5, none⟩) (.inl rfl) u5).set (a := ⟨G, 6, none⟩) (.inl rfl) u6).set (a := ⟨G, 7, none⟩) (.inl rfl) u7).set (a := ⟨G, 8, none⟩) (.inl rfl) u8).set (a := ⟨G, 9, none⟩) (.inl rfl) u9).set (a := ⟨G, 10, none⟩) (.inl rfl) u10).set (a := ⟨G, 11, none⟩) (.inl rfl) u11).set (a := ⟨G, 12, none⟩) (.inl rfl) u12).set (a := ⟨G, 13, none⟩) (.inl rfl) u13)⟩
  have h := ((((((((((((((hO.set 0 u0).set 1 u1).set 2 u2).set 3 u3).set 4 u4).set 5 u5).set 6 u6).set 7 u7).set 8 u8).set 9 u9).set 10 u10).set 11 u11).set 12 u12).set 13 u13)
  simp only [Array.set!_eq_setIfInBounds, List.setIfInBounds_toArray, List.set_cons_zero, List.set_cons_succ] at h
  exact h
theorem set8 {w1 : World} {M : Nat} (x0 x1 n0 n1 n2 n3 n4 n5 n6 n7 n8 : Int) (g r : Bool) (hO : Own w1 M #[.int .i64 x0, .int .i64 x1, .int .i64 0, .int .i64 0, .int .i64 n2, .int .i64 n3, .bool false, .bool false, .int .i64 0, .int .i64 0, .int .i64 n6, .int .i64 0, .int .i64 0, .slice none 0 0]) :
    Own ((((((((w1.setCell ⟨M, 2, none⟩ (.int .i64 n0)).setCell ⟨M, 3, none⟩ (.int .i64 n1)).setCell ⟨M, 8, none⟩ (.int .i64 n4)).setCell ⟨M, 9, none⟩ (.int .i64 n5)).setCell ⟨M, 11, none⟩ (.int .i64 n7)).setCell ⟨M, 12, none⟩ (.int .i64 n8)).setCell ⟨M, 6, none⟩ (.bool g)).setCell ⟨M, 7, none⟩ (.bool r)) M #[.int .i64 x0, .int .i64 x1, .int .i64 n0, .int .i64 n1, .int .i64 n2, .int .i64 n3, .bool g, .bool r, .int .i64 n4, .int .i64 n5, .int .i64 n6, .int .i64 n7, .int .i64 n8, .slice none 0 0] ∧ Two M M w1 ((((((((w1.setCell ⟨M, 2, none⟩ (.int .i64 n0)).setCell ⟨M, 3, none⟩ (.int .i64 n1)).setCell ⟨M, 8, none⟩ (.int .i64 n4)).setCell ⟨M, 9, none⟩ (.int .i64 n5)).setCell ⟨M, 11, none⟩ (.int .i64 n7)).setCell ⟨M, 12, none⟩ (.int .i64 n8)).setCell ⟨M, 6, none⟩ (.bool g)).setCell ⟨M, 7, none⟩ (.bool r)) := by
  refine ⟨?_, (((((((((Two.refl M M w1).set (a := ⟨M, 2, none⟩) (.inl rfl) (.int .i64 n0)).set (a := ⟨M, 3, none⟩) (.inl rfl) (.int .i64 n1)).set (a := ⟨M, 8, none⟩) (.inl rfl) (.int .i64 n4)).set (a := ⟨M, 9, none⟩) (.inl rfl) (.int .i64 n5)).set (a := ⟨M, 11, none⟩) (.inl rfl) (.int .i64 n7)).set (a := ⟨M, 12, none⟩) (.inl rfl) (.int .i64 n8)).set (a := ⟨M, 6, none⟩) (.inl rfl) (.bool g)).set (a := ⟨M, 7, none⟩) (.inl rfl) (.bool r))⟩
  have h := ((((((((hO.set 2 (.int .i64 n0)).set 3 (.int .i64 n1)).set 8 (.int .i64 n4)).set 9 (.int .i64 n5)).set 11 (.int .i64 n7)).set 12 (.int .i64 n8)).set 6 (.bool g)).set 7 (.bool r))
  simp only [Array.set!_eq_setIfInBounds, List.setIfInBounds_toArray, List.set_cons_zero, List.set_cons_succ] at h
  exact h
theorem int_mod2 (n : Nat) : (((n : Int) % 2 == 1) : Bool) = (n % 2 == 1) := by
  rw [Bool.eq_iff_iff, beq_iff_eq, beq_iff_eq]; omega
theorem int_div2 (n : Nat) : (((n : Int) / 2 % 2 == 1) : Bool) = (n / 2 % 2 == 1) := by
  rw [Bool.eq_iff_iff, beq_iff_eq, beq_iff_eq]; omega
theorem Two.pairs {r X : Nat} {w w1 : World} {A : Option Addr} {l : List (Int × Int)} (T : Two r X w w1) (h : PairsAt w A l) (hA : ∀ a, A = some a → a.block ≠ r ∧ a.block ≠ X) : PairsAt w1 A l := fun k hk => by
  obtain ⟨b, off, e, hl, h1, h2⟩ := h k hk
  obtain ⟨n1, n2⟩ := hA _ e
  exact ⟨b, off, e, by rw [T.size]; exact hl, (T.cell (a := ⟨b, off + k * 2, none⟩) n1 n2).trans h1, (T.cell (a := ⟨b, off + k * 2 + 1, none⟩) n1 n2).trans h2⟩
theorem byteAt_str' (b : ByteArray) (i : Nat) (h : i < b.size) : ((b[i]'h).toNat : Nat) = Wire.byteAt (strL b) i := (byteAt_str b i h).symm
/-- What each operation of the composite literal leaves. -/
def VM8 (b : ByteArray) (x0 x1 n2 n3 n6 : Int) (B : Nat) (w : World) (v : Value) : Nat → Prop
  | 0 | 3 | 6 | 8 | 10 => v = .string b
  | 1 => v = .int .u8 x0
  | 2 => v = .int .i64 x0
  | 4 => v = .int .u8 x1
  | 5 => v = .int .i64 x1
  | 7 => v = .int .i64 n2
  | 9 => v = .int .i64 n3
  | 11 => v = .int .i64 n6
  | 12 => v = .agg #[.int .i64 x0, .int .i64 x1, .int .i64 0, .int .i64 0, .int .i64 n2, .int .i64 n3, .bool false, .bool false, .int .i64 0, .int .i64 0, .int .i64 n6, .int .i64 0, .int .i64 0, .slice none 0 0]
  | _ => ∃ h, v = .pointer (some ⟨h, 0, none⟩) ∧ Own w h zeroCells0 ∧ B < h
def VC8 (b : ByteArray) (x0 x1 n2 n3 n6 : Int) (B : Nat) (i : Nat) (v : Value) (w : World) : Prop := ∀ w', Ok w w' → VM8 b x0 x1 n2 n3 n6 B w' v i
set_option maxHeartbeats 3200000 in
theorem ref6DecodeFit (s : ByteArray) (w : World) (h : s.size ≤ 4096) (hs : isSealed (strL s) = true) (hf : Wire.fits ((strL s).take (s.size - 4)) = true) :
    Calls Try.prog 19 #[.string s] w fun e w' => ∃ A cap, e = .returned (.tuple #[msgV (decOf (strL s)).1 A cap, .int .i64 (decOf (strL s)).2]) ∧ PairsAt w' A (decOf (strL s)).1.table ∧ Ok w w' := by
  have hok := Ok.refl w
  have hz := zeroMsg0
  have hd : decide ((4096 : Int) < (s.size : Int)) = false := decide_eq_false (by omega)
  have KO := Lib.hid fun W => ref5Open s W (by unfold maxLen; omega)
  rw [hs, if_pos rfl] at KO
  have hdec : decOf (strL s) = if Wire.good (Wire.parse ((strL s).take (s.size - 4))) = true ∧ Wire.frame (Wire.parse ((strL s).take (s.size - 4))) = (strL s).take (s.size - 4) then (Wire.parse ((strL s).take (s.size - 4)), 0) else (zeroMsg, 4) := by
    unfold decOf
    rw [strL_length, if_neg (by omega), if_neg (by rw [hs]; simp), if_neg (by rw [hf]; simp)]
  obtain ⟨b, hb⟩ : ∃ b, strOf ((strL s).take (s.size - 4)) = b := ⟨_, rfl⟩
  have hlb : ∀ x ∈ (strL s).take (s.size - 4), x < 256 := fun x hx => strL_lt s x (List.mem_of_mem_take hx)
  have hbl : (strL s).take (s.size - 4) = strL b := by rw [← hb, strL_strOf hlb]
  have hseal : strOf (sealL (strL b)) = s := by
    unfold isSealed at hs
    rw [decide_eq_true_eq, strL_length] at hs
    rw [← hbl, hs.2, strOf_strL]
  rw [hb] at KO
  simp only [hbl] at hf hdec
  have hfit : 76 ≤ b.size ∧ b.size = 76 + 16 * Wire.byteAt (strL b) 3 := by
    unfold Wire.fits at hf
    rw [decide_eq_true_eq, strL_length] at hf
    exact hf
  have HDEC := Lib.hid hdec
  have HSEAL := Lib.hid hseal
  have HFIT := Lib.hid hfit
  have h0 : 0 < b.size := by omega
  have h1 : 1 < b.size := by omega
  have h2 : 2 < b.size := by omega
  have h3 : 3 < b.size := by omega
  have e3 := byteAt_str b 3 h3
  have z3 : (b[3]'h3).toNat < 256 := (b[3]'h3).toNat_lt
  have hd76 : decide ((b.size : Int) < 76) = false := decide_eq_false (by omega)
  have hne : ((b.size : Int) != 76 + 16 * ((b[3]'h3).toNat : Int)) = false := by
    rw [bne_eq_false_iff_eq, ← e3]
    omega
  have hbs : b.size ≤ 4096 := by
    have e := congrArg List.length hbl
    rw [List.length_take, strL_length, strL_length] at e
    omega
  have KN := Lib.hid fun (k : Nat) (hk : 4 + 8 * k + 8 ≤ b.size) W => ref6number b k W hk (by omega)
  have E3 := Lib.hid e3
  clear hs hf hb hlb hbl hdec hseal hfit h e3
  go_enter Try.func19, Try.ntmps19
  go_upto_region 8 with ((go_at_call 36; (with_reducible refine (KO.out _).mono ?_); rintro e w1 ⟨rfl, hb1⟩; have hO := (Own.new w zeroCells0 28 rfl).next hb1; replace hok := (hok.alloc _).trans hb1; clear hb1))
  have h76 := HFIT.out.1
  have z0 : (b[0]'h0).toNat < 256 := (b[0]'h0).toNat_lt
  have z1 : (b[1]'h1).toNat < 256 := (b[1]'h1).toNat_lt
  have hI0 : (0 : Int) < (b.size : Int) := by omega
  have hI1 : (1 : Int) < (b.size : Int) := by omega
  have hI2 : (2 : Int) < (b.size : Int) := by omega
  have hW0 : IntKind.i64.wrap ((b[0]'h0).toNat : Int) = ((b[0]'h0).toNat : Int) := IntWalk.i64_in _ ⟨by omega, by omega⟩
  have hW1 : IntKind.i64.wrap ((b[1]'h1).toNat : Int) = ((b[1]'h1).toNat : Int) := IntWalk.i64_in _ ⟨by omega, by omega⟩
  have k0 := Lib.hid fun W => KN.out 0 (by omega) W
  have k1 := Lib.hid fun W => KN.out 1 (by omega) W
  have k2 := Lib.hid fun W => KN.out 2 (by omega) W
  have k3 := Lib.hid fun W => KN.out 3 (by omega) W
  have k4 := Lib.hid fun W => KN.out 4 (by omega) W
  have k5 := Lib.hid fun W => KN.out 5 (by omega) W
  have k6 := Lib.hid fun W => KN.out 6 (by omega) W
  have k7 := Lib.hid fun W => KN.out 7 (by omega) W
  have k8 := Lib.hid fun W => KN.out 8 (by omega) W
  replace k0 : Hid (∀ W, Calls Try.prog 37 #[.string b, .int .i64 0] W fun e w' => e = .returned (.int .i64 (Wire.rest8 (strL b) 0)) ∧ W = w') := k0
  replace k1 : Hid (∀ W, Calls Try.prog 37 #[.string b, .int .i64 1] W fun e w' => e = .returned (.int .i64 (Wire.rest8 (strL b) 1)) ∧ W = w') := k1
  replace k2 : Hid (∀ W, Calls Try.prog 37 #[.string b, .int .i64 2] W fun e w' => e = .returned (.int .i64 (Wire.rest8 (strL b) 2)) ∧ W = w') := k2
  replace k3 : Hid (∀ W, Calls Try.prog 37 #[.string b, .int .i64 3] W fun e w' => e = .returned (.int .i64 (Wire.rest8 (strL b) 3)) ∧ W = w') := k3
  replace k4 : Hid (∀ W, Calls Try.prog 37 #[.string b, .int .i64 4] W fun e w' => e = .returned (.int .i64 (Wire.rest8 (strL b) 4)) ∧ W = w') := k4
  replace k5 : Hid (∀ W, Calls Try.prog 37 #[.string b, .int .i64 5] W fun e w' => e = .returned (.int .i64 (Wire.rest8 (strL b) 5)) ∧ W = w') := k5
  replace k6 : Hid (∀ W, Calls Try.prog 37 #[.string b, .int .i64 6] W fun e w' => e = .returned (.int .i64 (Wire.rest8 (strL b) 6)) ∧ W = w') := k6
  replace k7 : Hid (∀ W, Calls Try.prog 37 #[.string b, .int .i64 7] W fun e w' => e = .returned (.int .i64 (Wire.rest8 (strL b) 7)) ∧ W = w') := k7
  replace k8 : Hid (∀ W, Calls Try.prog 37 #[.string b, .int .i64 8] W fun e w' => e = .returned (.int .i64 (Wire.rest8 (strL b) 8)) ∧ W = w') := k8
  obtain ⟨G, hG⟩ : ∃ G, w.heap.size = G := ⟨_, rfl⟩
  have HG := Lib.hid hG
  rw [hG] at hO ⊢
  have hGl := hO.lt
  have HO := Lib.hid hO
  have HOK := Lib.hid hok
  have q0 := byteAt_str b 0 h0
  have q1 := byteAt_str b 1 h1
  have q2 := byteAt_str b 2 h2
  have Q0 := Lib.hid q0
  have Q1 := Lib.hid q1
  have Q2 := Lib.hid q2
  have z2 : (b[2]'h2).toNat < 256 := (b[2]'h2).toNat_lt
  clear hG hO hok q0 q1 q2
  refine wp_region_facts_last (by kernel_rfl) 115 rfl (VC8 b ((b[0]'h0).toNat : Nat) ((b[1]'h1).toNat : Nat) (Wire.rest8 (strL b) 2) (Wire.rest8 (strL b) 3) (Wire.rest8 (strL b) 6) G) Ok _ rfl _ 14 rfl rfl rfl rfl (by kernel_rfl) (by kernel_rfl) (by kernel_rfl) (fun i v w w' h k w'' k' => h w'' (k.trans k')) (fun a b c => Ok.trans) (Ok.refl _) [some 36, some 37, some 38, some 39, some 40, some 41, some 42, some 43, some 44, some 45, some 46, some 47, some 48, some 6] rfl ⟨?_, ?_, ?_, ?_, ?_, ?_, ?_, ?_, ?_, ?_, ?_, ?_, ?_, ?_, trivial⟩ ?_
  · intro a' w' hF hR
    have e4 : a'.tmps[4]? = some (.string b) := hF.slot 4 (by kernel_rfl) rfl
    refine wpOp_run (v := .string b) rfl rfl ?_ (fun _ _ => rfl) (Ok.refl _)
    clear hF
    go_simp
  · intro a' w' hF hR
    obtain ⟨vv, hv, e⟩ := hF.get 0 36 (by kernel_rfl) (by kernel_rfl)
    have qv := hv _ (Ok.refl _)
    change vv = _ at qv
    rw [qv] at e
    refine wpOp_run (v := .int .u8 ((b[0]'h0).toNat : Nat)) rfl rfl ?_ (fun _ _ => rfl) (Ok.refl _)
    clear hF
    go_simp
  · intro a' w' hF hR
    obtain ⟨vv, hv, e⟩ := hF.get 1 37 (by kernel_rfl) (by kernel_rfl)
    have qv := hv _ (Ok.refl _)
    change vv = _ at qv
    rw [qv] at e
    refine wpOp_run (v := .int .i64 ((b[0]'h0).toNat : Nat)) rfl rfl ?_ (fun _ _ => rfl) (Ok.refl _)
    clear hF
    go_simp
  · intro a' w' hF hR
    have e4 : a'.tmps[4]? = some (.string b) := hF.slot 4 (by kernel_rfl) rfl
    refine wpOp_run (v := .string b) rfl rfl ?_ (fun _ _ => rfl) (Ok.refl _)
    clear hF
    go_simp
  · intro a' w' hF hR
    obtain ⟨vv, hv, e⟩ := hF.get 3 39 (by kernel_rfl) (by kernel_rfl)
    have qv := hv _ (Ok.refl _)
    change vv = _ at qv
    rw [qv] at e
    refine wpOp_run (v := .int .u8 ((b[1]'h1).toNat : Nat)) rfl rfl ?_ (fun _ _ => rfl) (Ok.refl _)
    clear hF
    go_simp
  · intro a' w' hF hR
    obtain ⟨vv, hv, e⟩ := hF.get 4 40 (by kernel_rfl) (by kernel_rfl)
    have qv := hv _ (Ok.refl _)
    change vv = _ at qv
    rw [qv] at e
    refine wpOp_run (v := .int .i64 ((b[1]'h1).toNat : Nat)) rfl rfl ?_ (fun _ _ => rfl) (Ok.refl _)
    clear hF
    go_simp
  · intro a' w' hF hR
    have e4 : a'.tmps[4]? = some (.string b) := hF.slot 4 (by kernel_rfl) rfl
    refine wpOp_run (v := .string b) rfl rfl ?_ (fun _ _ => rfl) (Ok.refl _)
    clear hF
    go_simp
  · intro a' w' hF hR
    obtain ⟨vv, hv, e⟩ := hF.get 6 42 (by kernel_rfl) (by kernel_rfl)
    have qv := hv _ (Ok.refl _)
    change vv = _ at qv
    rw [qv] at e
    clear hF
    refine wpOp_call (f := 37) (args := #[.string b, .int .i64 2]) rfl rfl ?_ ((k2.out _).mono ?_)
    · go_simp
    · rintro e w2 ⟨rfl, rfl⟩
      exact ⟨_, rfl, fun _ _ => rfl, Ok.refl _⟩
  · intro a' w' hF hR
    have e4 : a'.tmps[4]? = some (.string b) := hF.slot 4 (by kernel_rfl) rfl
    refine wpOp_run (v := .string b) rfl rfl ?_ (fun _ _ => rfl) (Ok.refl _)
    clear hF
    go_simp
  · intro a' w' hF hR
    obtain ⟨vv, hv, e⟩ := hF.get 8 44 (by kernel_rfl) (by kernel_rfl)
    have qv := hv _ (Ok.refl _)
    change vv = _ at qv
    rw [qv] at e
    clear hF
    refine wpOp_call (f := 37) (args := #[.string b, .int .i64 3]) rfl rfl ?_ ((k3.out _).mono ?_)
    · go_simp
    · rintro e w2 ⟨rfl, rfl⟩
      exact ⟨_, rfl, fun _ _ => rfl, Ok.refl _⟩
  · intro a' w' hF hR
    have e4 : a'.tmps[4]? = some (.string b) := hF.slot 4 (by kernel_rfl) rfl
    refine wpOp_run (v := .string b) rfl rfl ?_ (fun _ _ => rfl) (Ok.refl _)
    clear hF
    go_simp
  · intro a' w' hF hR
    obtain ⟨vv, hv, e⟩ := hF.get 10 46 (by kernel_rfl) (by kernel_rfl)
    have qv := hv _ (Ok.refl _)
    change vv = _ at qv
    rw [qv] at e
    clear hF
    refine wpOp_call (f := 37) (args := #[.string b, .int .i64 6]) rfl rfl ?_ ((k6.out _).mono ?_)
    · go_simp
    · rintro e w2 ⟨rfl, rfl⟩
      exact ⟨_, rfl, fun _ _ => rfl, Ok.refl _⟩
  · intro a' w' hF hR
    obtain ⟨v2, hv2, e2⟩ := hF.get 2 38 (by kernel_rfl) (by kernel_rfl)
    have r2 := hv2 _ (Ok.refl _)
    change v2 = _ at r2
    rw [r2] at e2
    obtain ⟨v5, hv5, e5⟩ := hF.get 5 41 (by kernel_rfl) (by kernel_rfl)
    have r5 := hv5 _ (Ok.refl _)
    change v5 = _ at r5
    rw [r5] at e5
    obtain ⟨v7, hv7, e7⟩ := hF.get 7 43 (by kernel_rfl) (by kernel_rfl)
    have r7 := hv7 _ (Ok.refl _)
    change v7 = _ at r7
    rw [r7] at e7
    obtain ⟨v9, hv9, e9⟩ := hF.get 9 45 (by kernel_rfl) (by kernel_rfl)
    have r9 := hv9 _ (Ok.refl _)
    change v9 = _ at r9
    rw [r9] at e9
    obtain ⟨v11, hv11, e11⟩ := hF.get 11 47 (by kernel_rfl) (by kernel_rfl)
    have r11 := hv11 _ (Ok.refl _)
    change v11 = _ at r11
    rw [r11] at e11
    have hzw := hz w'
    refine wpOp_run (v := .agg #[.int .i64 ((b[0]'h0).toNat : Nat), .int .i64 ((b[1]'h1).toNat : Nat), .int .i64 0, .int .i64 0, .int .i64 (Wire.rest8 (strL b) 2), .int .i64 (Wire.rest8 (strL b) 3), .bool false, .bool false, .int .i64 0, .int .i64 0, .int .i64 (Wire.rest8 (strL b) 6), .int .i64 0, .int .i64 0, .slice none 0 0]) rfl rfl ?_ (fun _ _ => rfl) (Ok.refl _)
    clear hF
    go_simp
  · intro a' w' hF hR
    have hlt : G < w'.heap.size := Nat.lt_of_lt_of_le hGl hR.size
    refine wpOp_run (v := .pointer (some ⟨w'.heap.size, 0, none⟩)) (w' := w'.alloc (.cells zeroCells0 28)) rfl rfl ?_ (fun w'' k => ⟨_, rfl, (Own.new _ _ _ rfl).next k, hlt⟩) ((Ok.refl _).alloc _)
    have hzw := hz w'
    clear hF
    unfold zeroCells0
    go_simp
  intro vs W hvs hR
  have e12 := hvs 12 (by decide) _ (Ok.refl _)
  change vs 12 = _ at e12
  obtain ⟨M, e13, hOM, hGM⟩ := hvs 13 (by decide) _ (Ok.refl _)
  have hOG := (HO.out.drew).next hR
  have hokW : Ok w W := HOK.out.trans ((Ok.refl w1).drew.trans hR)
  clear hvs
  obtain ⟨c0, c1, c2, c3, c4, c5, c6, c7, c8, c9, c10, c11, c12, c13⟩ := cells14 hOM
  obtain ⟨f0, f1, f2, f3, f4, f5, f6, f7, f8, f9, f10, f11, f12, f13⟩ := frozen14 hOM
  simp only [putFrom, e12, e13]
  simp only [Act.put, List.setIfInBounds_toArray, List.set_cons_zero, List.set_cons_succ]
  refine wpOp_do (w' := ((((((((((((((W.setCell ⟨M, 0, none⟩ (.int .i64 ((b[0]'h0).toNat : Nat))).setCell ⟨M, 1, none⟩ (.int .i64 ((b[1]'h1).toNat : Nat))).setCell ⟨M, 2, none⟩ (.int .i64 0)).setCell ⟨M, 3, none⟩ (.int .i64 0)).setCell ⟨M, 4, none⟩ (.int .i64 (Wire.rest8 (strL b) 2))).setCell ⟨M, 5, none⟩ (.int .i64 (Wire.rest8 (strL b) 3))).setCell ⟨M, 6, none⟩ (.bool false)).setCell ⟨M, 7, none⟩ (.bool false)).setCell ⟨M, 8, none⟩ (.int .i64 0)).setCell ⟨M, 9, none⟩ (.int .i64 0)).setCell ⟨M, 10, none⟩ (.int .i64 (Wire.rest8 (strL b) 6))).setCell ⟨M, 11, none⟩ (.int .i64 0)).setCell ⟨M, 12, none⟩ (.int .i64 0)).setCell ⟨M, 13, none⟩ (.slice none 0 0))) rfl rfl rfl ?_ ?_
  · go_simp
  obtain ⟨hM2, T2⟩ := over14 (.int .i64 ((b[0]'h0).toNat : Nat)) (.int .i64 ((b[1]'h1).toNat : Nat)) (.int .i64 0) (.int .i64 0) (.int .i64 (Wire.rest8 (strL b) 2)) (.int .i64 (Wire.rest8 (strL b) 3)) (.bool false) (.bool false) (.int .i64 0) (.int .i64 0) (.int .i64 (Wire.rest8 (strL b) 6)) (.int .i64 0) (.int .i64 0) (.slice none 0 0) hOM
  generalize ((((((((((((((W.setCell ⟨M, 0, none⟩ (.int .i64 ((b[0]'h0).toNat : Nat))).setCell ⟨M, 1, none⟩ (.int .i64 ((b[1]'h1).toNat : Nat))).setCell ⟨M, 2, none⟩ (.int .i64 0)).setCell ⟨M, 3, none⟩ (.int .i64 0)).setCell ⟨M, 4, none⟩ (.int .i64 (Wire.rest8 (strL b) 2))).setCell ⟨M, 5, none⟩ (.int .i64 (Wire.rest8 (strL b) 3))).setCell ⟨M, 6, none⟩ (.bool false)).setCell ⟨M, 7, none⟩ (.bool false)).setCell ⟨M, 8, none⟩ (.int .i64 0)).setCell ⟨M, 9, none⟩ (.int .i64 0)).setCell ⟨M, 10, none⟩ (.int .i64 (Wire.rest8 (strL b) 6))).setCell ⟨M, 11, none⟩ (.int .i64 0)).setCell ⟨M, 12, none⟩ (.int .i64 0)).setCell ⟨M, 13, none⟩ (.slice none 0 0)) = W2 at hM2 T2 ⊢
  generalize vs (0 + 1 + 1 + 1 + 1 + 1 + 1 + 1 + 1 + 1 + 1 + 1) = x11
  generalize vs (0 + 1 + 1 + 1 + 1 + 1 + 1 + 1 + 1 + 1 + 1) = x10
  generalize vs (0 + 1 + 1 + 1 + 1 + 1 + 1 + 1 + 1 + 1) = x9
  generalize vs (0 + 1 + 1 + 1 + 1 + 1 + 1 + 1 + 1) = x8
  generalize vs (0 + 1 + 1 + 1 + 1 + 1 + 1 + 1) = x7
  generalize vs (0 + 1 + 1 + 1 + 1 + 1 + 1) = x6
  generalize vs (0 + 1 + 1 + 1 + 1 + 1) = x5
  generalize vs (0 + 1 + 1 + 1 + 1) = x4
  generalize vs (0 + 1 + 1 + 1) = x3
  generalize vs (0 + 1 + 1) = x2
  generalize vs (0 + 1) = x1
  generalize vs 0 = x0
  have hG2 := T2.own hOG (by omega) (by omega)
  have hok2 := T2.ok_new hokW (by have := HG.out; omega) (by have := HG.out; omega)
  clear hOM hOG hokW c0 c1 c2 c3 c4 c5 c6 c7 c8 c9 c10 c11 c12 c13 f0 f1 f2 f3 f4 f5 f6 f7 f8 f9 f10 f11 f12 f13 e12 e13 T2 HO HOK hR k2 k3 k6
  obtain ⟨c0, c1, c2, c3, c4, c5, c6, c7, c8, c9, c10, c11, c12, c13⟩ := cells14 hM2
  obtain ⟨f0, f1, f2, f3, f4, f5, f6, f7, f8, f9, f10, f11, f12, f13⟩ := frozen14 hM2
  have HM2 := Lib.hid hM2
  have HG2 := Lib.hid hG2
  have HOK2 := Lib.hid hok2
  clear hM2 hG2 hok2
  go_wp2_with (first | (go_at_call 37; (with_reducible refine (k0.out _).mono ?_); rintro e w9 ⟨rfl, rfl⟩) | (go_at_call 37; (with_reducible refine (k1.out _).mono ?_); rintro e w9 ⟨rfl, rfl⟩) | (go_at_call 37; (with_reducible refine (k4.out _).mono ?_); rintro e w9 ⟨rfl, rfl⟩) | (go_at_call 37; (with_reducible refine (k5.out _).mono ?_); rintro e w9 ⟨rfl, rfl⟩) | (go_at_call 37; (with_reducible refine (k7.out _).mono ?_); rintro e w9 ⟨rfl, rfl⟩) | (go_at_call 37; (with_reducible refine (k8.out _).mono ?_); rintro e w9 ⟨rfl, rfl⟩))
  have hM3 : Own ((((((((W2.setCell ⟨M, 2, none⟩ (.int .i64 (Wire.rest8 (strL b) 0))).setCell ⟨M, 3, none⟩ (.int .i64 (Wire.rest8 (strL b) 1))).setCell ⟨M, 8, none⟩ (.int .i64 (Wire.rest8 (strL b) 4))).setCell ⟨M, 9, none⟩ (.int .i64 (Wire.rest8 (strL b) 5))).setCell ⟨M, 11, none⟩ (.int .i64 (Wire.rest8 (strL b) 7))).setCell ⟨M, 12, none⟩ (.int .i64 (Wire.rest8 (strL b) 8))).setCell ⟨M, 6, none⟩ (.bool (((b[2]'h2).toNat : Int) % 2 == 1))).setCell ⟨M, 7, none⟩ (.bool (((b[2]'h2).toNat : Int) / 2 % 2 == 1))) M (mCells (Wire.parse (strL b)) (.slice none 0 0)) := by
    have e : mCells (Wire.parse (strL b)) (.slice none 0 0) = #[.int .i64 ((b[0]'h0).toNat : Nat), .int .i64 ((b[1]'h1).toNat : Nat), .int .i64 (Wire.rest8 (strL b) 0), .int .i64 (Wire.rest8 (strL b) 1), .int .i64 (Wire.rest8 (strL b) 2), .int .i64 (Wire.rest8 (strL b) 3), .bool (((b[2]'h2).toNat : Int) % 2 == 1), .bool (((b[2]'h2).toNat : Int) / 2 % 2 == 1), .int .i64 (Wire.rest8 (strL b) 4), .int .i64 (Wire.rest8 (strL b) 5), .int .i64 (Wire.rest8 (strL b) 6), .int .i64 (Wire.rest8 (strL b) 7), .int .i64 (Wire.rest8 (strL b) 8), .slice none 0 0] := by
      unfold mCells Wire.parse
      simp only [Q0.out, Q1.out, Q2.out]
      rw [int_mod2, int_div2]
    rw [e]
    exact (set8 _ _ _ _ _ _ _ _ _ _ _ _ _ HM2.out).1
  have T3 : Two M M W2 ((((((((W2.setCell ⟨M, 2, none⟩ (.int .i64 (Wire.rest8 (strL b) 0))).setCell ⟨M, 3, none⟩ (.int .i64 (Wire.rest8 (strL b) 1))).setCell ⟨M, 8, none⟩ (.int .i64 (Wire.rest8 (strL b) 4))).setCell ⟨M, 9, none⟩ (.int .i64 (Wire.rest8 (strL b) 5))).setCell ⟨M, 11, none⟩ (.int .i64 (Wire.rest8 (strL b) 7))).setCell ⟨M, 12, none⟩ (.int .i64 (Wire.rest8 (strL b) 8))).setCell ⟨M, 6, none⟩ (.bool (((b[2]'h2).toNat : Int) % 2 == 1))).setCell ⟨M, 7, none⟩ (.bool (((b[2]'h2).toNat : Int) / 2 % 2 == 1))) := (set8 _ _ _ _ _ _ _ _ _ _ _ _ _ HM2.out).2
  have hS3 : MsgD (strL b) G M 0 (.slice none 0 0) w ((((((((W2.setCell ⟨M, 2, none⟩ (.int .i64 (Wire.rest8 (strL b) 0))).setCell ⟨M, 3, none⟩ (.int .i64 (Wire.rest8 (strL b) 1))).setCell ⟨M, 8, none⟩ (.int .i64 (Wire.rest8 (strL b) 4))).setCell ⟨M, 9, none⟩ (.int .i64 (Wire.rest8 (strL b) 5))).setCell ⟨M, 11, none⟩ (.int .i64 (Wire.rest8 (strL b) 7))).setCell ⟨M, 12, none⟩ (.int .i64 (Wire.rest8 (strL b) 8))).setCell ⟨M, 6, none⟩ (.bool (((b[2]'h2).toNat : Int) % 2 == 1))).setCell ⟨M, 7, none⟩ (.bool (((b[2]'h2).toNat : Int) / 2 % 2 == 1))) := ⟨hM3, ⟨rfl, .inl ⟨rfl, rfl⟩⟩, T3.ok_new HOK2.out (by have := HG.out; omega) (by have := HG.out; omega), T3.own HG2.out (by omega) (by omega)⟩
  clear hM3 T3 HM2 HG2 HOK2 c0 c1 c2 c3 c4 c5 c6 c7 c8 c9 c10 c11 c12 c13 f0 f1 f2 f3 f4 f5 f6 f7 f8 f9 f10 f11 f12 f13 k0 k1 k4 k5 k7 k8 hW0 hW1 z0 z1 z2 KO
  generalize ((((((((W2.setCell ⟨M, 2, none⟩ (.int .i64 (Wire.rest8 (strL b) 0))).setCell ⟨M, 3, none⟩ (.int .i64 (Wire.rest8 (strL b) 1))).setCell ⟨M, 8, none⟩ (.int .i64 (Wire.rest8 (strL b) 4))).setCell ⟨M, 9, none⟩ (.int .i64 (Wire.rest8 (strL b) 5))).setCell ⟨M, 11, none⟩ (.int .i64 (Wire.rest8 (strL b) 7))).setCell ⟨M, 12, none⟩ (.int .i64 (Wire.rest8 (strL b) 8))).setCell ⟨M, 6, none⟩ (.bool (((b[2]'h2).toNat : Int) % 2 == 1))).setCell ⟨M, 7, none⟩ (.bool (((b[2]'h2).toNat : Int) / 2 % 2 == 1))) = W3 at hS3 ⊢
  obtain ⟨N, hN⟩ : ∃ N, (b[3]'h3).toNat = N := ⟨_, rfl⟩
  rw [hN] at z3
  have hHN : Wire.byteAt (strL b) 3 = N := E3.out.trans hN
  have hbN : b.size = 76 + 16 * N := by have := HFIT.out.2; omega
  have HBN := Lib.hid hbN
  have hW3 : IntKind.i64.wrap ((b[3]'h3).toNat : Int) = ((b[3]'h3).toNat : Int) := IntWalk.i64_in _ ⟨by omega, by omega⟩
  have HHN := Lib.hid hHN
  have HN3 := Lib.hid hN
  clear hHN hbN hN hne h76
  go_loopw [7] (fun i wx => ∃ j : Nat, j ≤ N ∧ i = .int .i64 j ∧ ∃ v, MsgD (strL b) G M j v w wx) (fun i _ => N - (intOf i).toNat)
  case atStart => exact ⟨0, Nat.zero_le _, rfl, _, hS3⟩
  case round =>
    clear hS3
    obtain ⟨j, hj, rfl, v, hS⟩ := hrel
    by_cases hlt : j < N
    · have dl1 : j < (b[3]'h3).toNat := by rw [HN3.out]; exact hlt
      have dl2 : (j : Int) < ((b[3]'h3).toNat : Int) := by omega
      have dl3 : decide ((j : Int) < ((b[3]'h3).toNat : Int)) = true := decide_eq_true dl2
      have c13 := hS.own.cell 13 (v := v) rfl
      have HS := Lib.hid hS
      have K9 := Lib.hid fun W => (show Calls Try.prog 37 #[.string b, .int .i64 (9 + 2 * (j : Int))] W fun e w' => e = .returned (.int .i64 (Wire.rest8 (strL b) (9 + 2 * j))) ∧ W = w' by
        have h := KN.out (9 + 2 * j) (by have := HBN.out; omega) W
        rw [show (((9 + 2 * j : Nat)) : Int) = 9 + 2 * (j : Int) by omega] at h
        exact h)
      have K10 := Lib.hid fun W => (show Calls Try.prog 37 #[.string b, .int .i64 (10 + 2 * (j : Int))] W fun e w' => e = .returned (.int .i64 (Wire.rest8 (strL b) (10 + 2 * j))) ∧ W = w' by
        have h := KN.out (10 + 2 * j) (by have := HBN.out; omega) W
        rw [show (((10 + 2 * j : Nat)) : Int) = 10 + 2 * (j : Int) by omega] at h
        exact h)
      have he : entAt (strL b) j = (Wire.rest8 (strL b) (9 + 2 * j), Wire.rest8 (strL b) (10 + 2 * j)) := rfl
      obtain ⟨x, hx⟩ : ∃ x, Wire.rest8 (strL b) (9 + 2 * j) = x := ⟨_, rfl⟩
      obtain ⟨y, hy⟩ : ∃ x, Wire.rest8 (strL b) (10 + 2 * j) = x := ⟨_, rfl⟩
      simp only [hx] at K9 he
      simp only [hy] at K10 he
      have HE := Lib.hid he
      have i1 : IntKind.i64.wrap (2 * (j : Int)) = 2 * (j : Int) := IntWalk.i64_in _ ⟨by omega, by omega⟩
      have i2 : IntKind.i64.wrap (9 + 2 * (j : Int)) = 9 + 2 * (j : Int) := IntWalk.i64_in _ ⟨by omega, by omega⟩
      have i3 : IntKind.i64.wrap (10 + 2 * (j : Int)) = 10 + 2 * (j : Int) := IntWalk.i64_in _ ⟨by omega, by omega⟩
      have HGW : Hid (w.heap.size ≤ G) := Lib.hid (by have := HG.out; omega)
      have hj1 : j ≤ 1000 := by omega
      have hMl := hS.own.lt
      have c13a := (hS.own.alloc (.cells #[.int .i64 x, .int .i64 y] 45)).cell 13 (v := v) rfl
      clear hx hy he hS
      go_wp2_with fail
      go_region_law (first | (go_simp; go_at_call 37; (first | ((with_reducible refine (K9.out _).mono ?_)) | ((with_reducible refine (K10.out _).mono ?_))); rintro e w5 ⟨rfl, rfl⟩) | (refine MsgD.step HS.out (by first | exact ((Ok.refl wr).alloc _).drew | exact (Ok.refl wr).drew.alloc _) rfl (.tmp 86) (.tmp 98) rfl rfl rfl (by exact heap_alloc_new _ _) HE.out hj1 hGM HGW.out rfl ?_; intro h5 cap5 w5 c5 f5 HP5))
      all_goals
        clear K9 K10 c13 i1 i2 i3 c5 f5
        go_wp2
        go_roundw
        case rel => first | exact ⟨j + 1, by omega, by go_num, _, HP5⟩ | exact ⟨.int .i64 ((j + 1 : Nat) : Int), _, _, _, _, _, _, _, _, _, _, _, _, _, _, _, _, _, _, _, _, _, _, _, ⟨j + 1, by omega, rfl, _, HP5⟩, by first | rfl | (simp; done)⟩
        case measure => simp [intOf]; omega
    · obtain rfl : j = N := by omega
      have dl1 : (j < (b[3]'h3).toNat) = False := eq_false (by rw [HN3.out]; omega)
      have dl2 : ((j : Int) < ((b[3]'h3).toNat : Int)) = False := eq_false (by rw [HN3.out]; omega)
      have dl3 : decide ((j : Int) < ((b[3]'h3).toNat : Int)) = false := decide_eq_false (by rw [HN3.out]; omega)
      obtain ⟨TA, tc, rfl⟩ := row_slice hS.row
      have htab : (Wire.parse (strL b)).table = (List.range j).map (entAt (strL b)) := by rw [parse_table, HHN.out]
      have hrow := hS.row
      rw [← htab] at hrow
      have hjl : j = (Wire.parse (strL b)).table.length := by rw [htab]; simp
      obtain ⟨m, hm⟩ : ∃ m, Wire.parse (strL b) = m := ⟨_, rfl⟩
      have hO := hS.own
      have hR := hS.res
      have hK := hS.okk
      have hdec := HDEC.out
      rw [hm] at hrow hjl hO hdec
      have hpr : PairsAt wr TA m.table := by
        rw [hjl] at hrow
        exact pairs_row (n := 0) hrow
      have KE := Lib.hid (ref6Encode m TA tc wr hpr (by have := row_len hrow; unfold maxLen at this; omega))
      have HPR := Lib.hid hpr
      have HTA := Lib.hid (fun a (ha : TA = some a) => (show a.block ≠ G ∧ a.block ≠ G by
        have := hrow.lt a.block (by rw [ha]; rfl)
        constructor <;> omega))
      have hGw : w.heap.size ≤ G := by have := HG.out; omega
      unfold msgV at KE
      rw [← hjl] at KE
      obtain ⟨c0, c1, c2, c3, c4, c5, c6, c7, c8, c9, c10, c11, c12, c13⟩ := cells14 hO
      have HO := Lib.hid hO
      have HR := Lib.hid hR
      have HK := Lib.hid hK
      have HJL := Lib.hid hjl
      have hseal := HSEAL.out
      clear hS hrow hjl hO hR hK hpr htab
      by_cases hg : Wire.good m = true ∧ Wire.frame m = strL b
      · rw [if_pos hg] at hdec
        have hes : encS m = s := by
          unfold encS
          rw [if_pos hg.1, hg.2, hseal]
        unfold encE at KE
        rw [hes, if_pos hg.1] at KE
        have hss : (s.toList == s.toList) = true := beq_self_eq_true _
        have HDC := Lib.hid hdec
        clear hdec hg hes hseal
        go_upto_region 21 with ((go_at_call 17; (with_reducible refine KE.out.mono ?_); rintro e w6 ⟨rfl, hb6⟩))
        clear c0 c1 c2 c3 c4 c5 c6 c7 c8 c9 c10 c11 c12 c13
        obtain ⟨c0, c1, c2, c3, c4, c5, c6, c7, c8, c9, c10, c11, c12, c13⟩ := cells14 (HO.out.next hb6)
        obtain ⟨d0, d1, d2, d3, d4, d5, d6, d7, d8, d9, d10, d11, d12, d13⟩ := cells14 (HR.out.next hb6)
        obtain ⟨f0, f1, f2, f3, f4, f5, f6, f7, f8, f9, f10, f11, f12, f13⟩ := frozen14 (HR.out.next hb6)
        go_wp2_with fail
        obtain ⟨hO7, T7⟩ := over14 (.int .i64 m.kind) (.int .i64 m.frm) (.int .i64 m.lo) (.int .i64 m.hi) (.int .i64 m.held) (.int .i64 m.hops) (.bool m.good) (.bool m.ref) (.int .i64 m.slo) (.int .i64 m.shi) (.int .i64 m.pulse) (.int .i64 m.time) (.int .i64 m.num) (.slice TA j tc) (HR.out.next hb6)
        generalize ((((((((((((((w6.setCell ⟨G, 0, none⟩ (.int .i64 m.kind)).setCell ⟨G, 1, none⟩ (.int .i64 m.frm)).setCell ⟨G, 2, none⟩ (.int .i64 m.lo)).setCell ⟨G, 3, none⟩ (.int .i64 m.hi)).setCell ⟨G, 4, none⟩ (.int .i64 m.held)).setCell ⟨G, 5, none⟩ (.int .i64 m.hops)).setCell ⟨G, 6, none⟩ (.bool m.good)).setCell ⟨G, 7, none⟩ (.bool m.ref)).setCell ⟨G, 8, none⟩ (.int .i64 m.slo)).setCell ⟨G, 9, none⟩ (.int .i64 m.shi)).setCell ⟨G, 10, none⟩ (.int .i64 m.pulse)).setCell ⟨G, 11, none⟩ (.int .i64 m.time)).setCell ⟨G, 12, none⟩ (.int .i64 m.num)).setCell ⟨G, 13, none⟩ (.slice TA j tc)) = W7 at hO7 T7 ⊢
        clear c0 c1 c2 c3 c4 c5 c6 c7 c8 c9 c10 c11 c12 c13 d0 d1 d2 d3 d4 d5 d6 d7 d8 d9 d10 d11 d12 d13 f0 f1 f2 f3 f4 f5 f6 f7 f8 f9 f10 f11 f12 f13
        obtain ⟨c0, c1, c2, c3, c4, c5, c6, c7, c8, c9, c10, c11, c12, c13⟩ := cells14 hO7
        exact bodyPost_ret (v := .tuple #[.agg #[.int .i64 m.kind, .int .i64 m.frm, .int .i64 m.lo, .int .i64 m.hi, .int .i64 m.held, .int .i64 m.hops, .bool m.good, .bool m.ref, .int .i64 m.slo, .int .i64 m.shi, .int .i64 m.pulse, .int .i64 m.time, .int .i64 m.num, .slice TA j tc], .int .i64 0]) (by simp [results, Try.results19, go_sem, c0, c1, c2, c3, c4, c5, c6, c7, c8, c9, c10, c11, c12, c13]) rfl ⟨TA, tc, by rw [HDC.out]; unfold msgV; rw [← HJL.out], by rw [HDC.out]; exact ((T7.pairs ((HPR.out).below hb6) HTA.out)), T7.ok_new (HK.out.trans hb6) hGw hGw⟩
      · rw [if_neg hg] at hdec
        have HDC := Lib.hid hdec
        have hbad : (encE m != 0) = true ∨ (encE m = 0 ∧ ((encS m).toList == s.toList) = false) := by
          cases hgm : Wire.good m with
          | false => left; unfold encE; rw [hgm]; rfl
          | true =>
            right
            refine ⟨by unfold encE; rw [hgm]; rfl, toList_ne fun e => hg ⟨hgm, ?_⟩⟩
            have e2 : strOf (sealL (Wire.frame m)) = strOf (sealL (strL b)) := by
              rw [hseal, ← e]; unfold encS; rw [if_pos hgm]
            have e3 := congrArg opened (strOf_inj (sealL_lt (Wire.frame_lt hgm)) (sealL_lt (strL_lt b)) e2)
            rwa [opened_sealL, opened_sealL] at e3
        obtain ⟨t, ht⟩ : ∃ t, encS m = t := ⟨_, rfl⟩
        obtain ⟨n, hn⟩ : ∃ t, encE m = t := ⟨_, rfl⟩
        simp only [ht, hn] at KE hbad
        clear hdec hg hseal ht hn
        rcases hbad with hbad | ⟨rfl, hbad⟩
        all_goals
          go_upto_region 20 with ((go_at_call 17; (with_reducible refine KE.out.mono ?_); rintro e w6 ⟨rfl, hb6⟩))
          clear c0 c1 c2 c3 c4 c5 c6 c7 c8 c9 c10 c11 c12 c13
          obtain ⟨d0, d1, d2, d3, d4, d5, d6, d7, d8, d9, d10, d11, d12, d13⟩ := cells14 (HR.out.next hb6)
          obtain ⟨f0, f1, f2, f3, f4, f5, f6, f7, f8, f9, f10, f11, f12, f13⟩ := frozen14 (HR.out.next hb6)
          go_wp2_with fail
          obtain ⟨hO7, T7⟩ := over14 (.int .i64 0) (.int .i64 0) (.int .i64 0) (.int .i64 0) (.int .i64 0) (.int .i64 0) (.bool false) (.bool false) (.int .i64 0) (.int .i64 0) (.int .i64 0) (.int .i64 0) (.int .i64 0) (.slice none 0 0) (HR.out.next hb6)
          generalize ((((((((((((((w6.setCell ⟨G, 0, none⟩ (.int .i64 0)).setCell ⟨G, 1, none⟩ (.int .i64 0)).setCell ⟨G, 2, none⟩ (.int .i64 0)).setCell ⟨G, 3, none⟩ (.int .i64 0)).setCell ⟨G, 4, none⟩ (.int .i64 0)).setCell ⟨G, 5, none⟩ (.int .i64 0)).setCell ⟨G, 6, none⟩ (.bool false)).setCell ⟨G, 7, none⟩ (.bool false)).setCell ⟨G, 8, none⟩ (.int .i64 0)).setCell ⟨G, 9, none⟩ (.int .i64 0)).setCell ⟨G, 10, none⟩ (.int .i64 0)).setCell ⟨G, 11, none⟩ (.int .i64 0)).setCell ⟨G, 12, none⟩ (.int .i64 0)).setCell ⟨G, 13, none⟩ (.slice none 0 0)) = W7 at hO7 T7 ⊢
          clear d0 d1 d2 d3 d4 d5 d6 d7 d8 d9 d10 d11 d12 d13 f0 f1 f2 f3 f4 f5 f6 f7 f8 f9 f10 f11 f12 f13
          obtain ⟨c0, c1, c2, c3, c4, c5, c6, c7, c8, c9, c10, c11, c12, c13⟩ := cells14 hO7
          exact bodyPost_ret (v := .tuple #[.agg #[.int .i64 0, .int .i64 0, .int .i64 0, .int .i64 0, .int .i64 0, .int .i64 0, .bool false, .bool false, .int .i64 0, .int .i64 0, .int .i64 0, .int .i64 0, .int .i64 0, .slice none 0 0], .int .i64 4]) (by simp [results, Try.results19, go_sem, c0, c1, c2, c3, c4, c5, c6, c7, c8, c9, c10, c11, c12, c13]) rfl ⟨none, 0, by rw [HDC.out]; rfl, by rw [HDC.out]; exact PairsAt.empty _ _, T7.ok_new (HK.out.trans hb6) hGw hGw⟩
/-- The document's Decode, whatever is handed in. -/
theorem ref6Decode (s : ByteArray) (w : World) : Calls Try.prog 19 #[.string s] w fun e w' => ∃ A cap, e = .returned (.tuple #[msgV (decOf (strL s)).1 A cap, .int .i64 (decOf (strL s)).2]) ∧ PairsAt w' A (decOf (strL s)).1.table ∧ Ok w w' := by
  have err : ∀ n : Int, decOf (strL s) = (zeroMsg, n) → (Calls Try.prog 19 #[.string s] w fun e w' => e = .returned (.tuple #[msgV zeroMsg none 0, .int .i64 n]) ∧ Ok w w') → Calls Try.prog 19 #[.string s] w fun e w' => ∃ A cap, e = .returned (.tuple #[msgV (decOf (strL s)).1 A cap, .int .i64 (decOf (strL s)).2]) ∧ PairsAt w' A (decOf (strL s)).1.table ∧ Ok w w' := fun n h k => by
    rw [h]
    exact k.mono fun e w' ⟨h1, h2⟩ => ⟨none, 0, h1, PairsAt.empty _ _, h2⟩
  by_cases h1 : 4096 < s.size
  · exact err 3 (by unfold decOf; rw [strL_length, if_pos h1]) (ref6DecodeLong s w h1)
  cases h2 : isSealed (strL s) with
  | false => exact err 5 (by unfold decOf; rw [strL_length, if_neg h1, if_pos h2]) (ref6DecodeSum s w (by omega) h2)
  | true =>
    cases h3 : Wire.fits ((strL s).take (s.size - 4)) with
    | false => exact err 4 (by unfold decOf; rw [strL_length, if_neg h1, if_neg (by rw [h2]; simp), if_pos h3]) (ref6DecodeUnfit s w (by omega) h2 h3)
    | true => exact ref6DecodeFit s w (by omega) h2 h3
end Go.Proofs.Ythhdhoaicoaokaa
