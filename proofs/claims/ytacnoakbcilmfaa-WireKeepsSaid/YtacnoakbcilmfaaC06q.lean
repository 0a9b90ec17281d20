/- Contracts of layer 6: the program's Decode of bytes that a message is read of. -/
import Derived.Test.YtacnoakbcilmfaaC06p
namespace Go.Proofs.Ytacnoakbcilmfaa
open Go.RowKit
set_option maxRecDepth 100000
attribute [local go_sem ↓] Go.wp_at_zero Go.wp_at_succ
theorem cells14 {w : World} {g : Nat} {a0 a1 a2 a3 a4 a5 a6 a7 a8 a9 a10 a11 a12 a13 : Value} (h : Own w g #[a0, a1, a2, a3, a4, a5, a6, a7, a8, a9, a10, a11, a12, a13]) : w.cell? ⟨g, 0, none⟩ = some a0 ∧ w.cell? ⟨g, 1, none⟩ = some a1 ∧ w.cell? ⟨g, 2, none⟩ = some a2 ∧ w.cell? ⟨g, 3, none⟩ = some a3 ∧ w.cell? ⟨g, 4, none⟩ = some a4 ∧ w.cell? ⟨g, 5, none⟩ = some a5 ∧ w.cell? ⟨g, 6, none⟩ = some a6 ∧ w.cell? ⟨g, 7, none⟩ = some a7 ∧ w.cell? ⟨g, 8, none⟩ = some a8 ∧ w.cell? ⟨g, 9, none⟩ = some a9 ∧ w.cell? ⟨g, 10, none⟩ = some a10 ∧ w.cell? ⟨g, 11, none⟩ = some a11 ∧ w.cell? ⟨g, 12, none⟩ = some a12 ∧ w.cell? ⟨g, 13, none⟩ = some a13 :=
  ⟨h.cell 0 rfl, h.cell 1 rfl, h.cell 2 rfl, h.cell 3 rfl, h.cell 4 rfl, h.cell 5 rfl, h.cell 6 rfl, h.cell 7 rfl, h.cell 8 rfl, h.cell 9 rfl, h.cell 10 rfl, h.cell 11 rfl, h.cell 12 rfl, h.cell 13 rfl⟩
theorem frozen14 {w : World} {g : Nat} {cs : Array Value} (h : Own w g cs) : w.frozen? ⟨g, 0, none⟩ = false ∧ w.frozen? ⟨g, 1, none⟩ = false ∧ w.frozen? ⟨g, 2, none⟩ = false ∧ w.frozen? ⟨g, 3, none⟩ = false ∧ w.frozen? ⟨g, 4, none⟩ = false ∧ w.frozen? ⟨g, 5, none⟩ = false ∧ w.frozen? ⟨g, 6, none⟩ = false ∧ w.frozen? ⟨g, 7, none⟩ = false ∧ w.frozen? ⟨g, 8, none⟩ = false ∧ w.frozen? ⟨g, 9, none⟩ = false ∧ w.frozen? ⟨g, 10, none⟩ = false ∧ w.frozen? ⟨g, 11, none⟩ = false ∧ w.frozen? ⟨g, 12, none⟩ = false ∧ w.frozen? ⟨g, 13, none⟩ = false :=
  ⟨h.frozen 0, h.frozen 1, h.frozen 2, h.frozen 3, h.frozen 4, h.frozen 5, h.frozen 6, h.frozen 7, h.frozen 8, h.frozen 9, h.frozen 10, h.frozen 11, h.frozen 12, h.frozen 13⟩
/-- A message is stored whole. -/
theorem msg_first {w1 : World} {G : Nat} (m : Msg) (TA : Option Addr) (tc : Nat) (hO : Own w1 G #[.int .i64 0, .int .i64 0, .int .i64 0, .int .i64 0, .int .i64 0, .int .i64 0, .bool false, .bool false, .int .i64 0, .int .i64 0, .int .i64 0, .int .i64 0, .int .i64 0, .slice none 0 0]) : Own ((((((((((((((w1.setCell ⟨G, 0, none⟩ (.int .i64 m.kind)).setCell ⟨G, 1, none⟩ (.int .i64 m.frm)).setCell ⟨G, 2, none⟩ (.int .i64 m.lo)).setCell ⟨G, 3, none⟩ (.int .i64 m.hi)).setCell ⟨G, 4, none⟩ (.int .i64 m.held)).setCell ⟨G, 5, none⟩ (.int .i64 m.hops)).setCell ⟨G, 6, none⟩ (.bool m.good)).setCell ⟨G, 7, none⟩ (.bool m.ref)).setCell ⟨G, 8, none⟩ (.int .i64 m.slo)).setCell ⟨G, 9, none⟩ (.int .i64 m.shi)).setCell ⟨G, 10, none⟩ (.int .i64 m.pulse)).setCell ⟨G, 11, none⟩ (.int .i64 m.time)).setCell ⟨G, 12, none⟩ (.int .i64 m.num)).setCell ⟨G, 13, none⟩ (.slice TA m.table.length tc)) G #[.int .i64 m.kind, .int .i64 m.frm, .int .i64 m.lo, .int .i64 m.hi, .int .i64 m.held, .int .i64 m.hops, .bool m.good, .bool m.ref, .int .i64 m.slo, .int .i64 m.shi, .int .i64 m.pulse, .int .i64 m.time, .int .i64 m.num, .slice TA m.table.length tc] ∧ Two G G w1 ((((((((((((((w1.setCell ⟨G, 0, none⟩ (.int .i64 m.kind)).setCell ⟨G, 1, none⟩ (.int .i64 m.frm)).setCell ⟨G, 2, none⟩ (.int .i64 m.lo)).setCell ⟨G, 3, none⟩ (.int .i64 m.hi)).setCell ⟨G, 4, none⟩ (.int .i64 m.held)).setCell ⟨G, 5, none⟩ (.int .i64 m.hops)).setCell ⟨G, 6, none⟩ (.bool m.good)).setCell ⟨G, 7, none⟩ (.bool m.ref)).setCell ⟨G, 8, none⟩ (.int .i64 m.slo)).setCell ⟨G, 9, none⟩ (.int .i64 m.shi)).setCell ⟨G, 10, none⟩ (.int .i64 m.pulse)).setCell ⟨G, 11, none⟩ (.int .i64 m.time)).setCell ⟨G, 12, none⟩ (.int .i64 m.num)).setCell ⟨G, 13, none⟩ (.slice TA m.table.length tc)) := by
  refine ⟨?_, (((((((((((((((Two.refl G G w1).set (a := ⟨G, 0, none⟩) (.inl rfl) (.int .i64 m.kind)).set (a := ⟨G, 1, none⟩) (.inl rfl) (.int .i64 m.frm)).set (a := ⟨G, 2, none⟩) (.inl rfl) (.int .i64 m.lo)).set (a := ⟨G, 3, none⟩) (.inl rfl) (.int .i64 m.hi)).set (a := ⟨G, 4, none⟩) (.inl rfl) (.int .i64 m.held)).set (a := ⟨G, 5, none⟩) (.inl rfl) (.int .i64 m.hops)).set (a := ⟨G, 6, none⟩) (.inl rfl) (.bool m.good)).set (a := ⟨G, 7, none⟩) (.inl rfl) (.bool m.ref)).set (a := ⟨G, 8, none⟩) (.inl rfl) (.int .i64 m.slo)).set (a := ⟨G, 9, none⟩) (.inl rfl) (.int .i64 m.shi)).set (a := ⟨G, 10, none⟩) (.inl rfl) (.int .i64 m.pulse)).set (a := ⟨G, 11, none⟩) (.inl rfl) (.int .i64 m.time)).set (a := ⟨G, 12, none⟩) (.inl rfl) (.int .i64 m.num)).set (a := ⟨G, 13, none⟩) (.inl rfl) (.slice TA m.table.length tc))⟩
  have h := ((((((((((((((hO.set 0 (.int .i64 m.kind)).set 1 (.int .i64 m.frm)).set 2 (.int .i64 m.lo)).set 3 (.int .i64 m.hi)).set 4 (.int .i64 m.held)).set 5 (.int .i64 m.hops)).set 6 (.bool m.good)).set 7 (.bool m.ref)).set 8 (.int .i64 m.slo)).set 9 (.int .i64 m.shi)).set 10 (.int .i64 m.pulse)).set 11 (.int .i64 m.time)).set 12 (.int .i64 m.num)).set 13 (.slice TA m.table.length tc))
  simp only [Array.set!_eq_setIfInBounds, List.setIfInBounds_toArray, List.set_cons_zero, List.set_cons_succ] at h
  exact h
/-- A message is stored whole. -/
theorem msg_again {w1 : World} {G : Nat} (m : Msg) (TA : Option Addr) (tc : Nat) (hO : Own w1 G #[.int .i64 m.kind, .int .i64 m.frm, .int .i64 m.lo, .int .i64 m.hi, .int .i64 m.held, .int .i64 m.hops, .bool m.good, .bool m.ref, .int .i64 m.slo, .int .i64 m.shi, .int .i64 m.pulse, .int .i64 m.time, .int .i64 m.num, .slice TA m.table.length tc]) : Own ((((((((((((((w1.setCell ⟨G, 0, none⟩ (.int .i64 m.kind)).setCell ⟨G, 1, none⟩ (.int .i64 m.frm)).setCell ⟨G, 2, none⟩ (.int .i64 m.lo)).setCell ⟨G, 3, none⟩ (.int .i64 m.hi)).setCell ⟨G, 4, none⟩ (.int .i64 m.held)).setCell ⟨G, 5, none⟩ (.int .i64 m.hops)).setCell ⟨G, 6, none⟩ (.bool m.good)).setCell ⟨G, 7, none⟩ (.bool m.ref)).setCell ⟨G, 8, none⟩ (.int .i64 m.slo)).setCell ⟨G, 9, none⟩ (.int .i64 m.shi)).setCell ⟨G, 10, none⟩ (.int .i64 m.pulse)).setCell ⟨G, 11, none⟩ (.int .i64 m.time)).setCell ⟨G, 12, none⟩ (.int .i64 m.num)).setCell ⟨G, 13, none⟩ (.slice TA m.table.length tc)) G #[.int .i64 m.kind, .int .i64 m.frm, .int .i64 m.lo, .int .i64 m.hi, .int .i64 m.held, .int .i64 m.hops, .bool m.good, .bool m.ref, .int .i64 m.slo, .int .i64 m.shi, .int .i64 m.pulse, .int .i64 m.time, .int .i64 m.num, .slice TA m.table.length tc] ∧ Two G G w1 ((((((((((((((w1.setCell ⟨G, 0, none⟩ (.int .i64 m.kind)).setCell ⟨G, 1, none⟩ (.int .i64 m.frm)).setCell ⟨G, 2, none⟩ (.int .i64 m.lo)).setCell ⟨G, 3, none⟩ (.int .i64 m.hi)).setCell ⟨G, 4, none⟩ (.int .i64 m.held)).setCell ⟨G, 5, none⟩ (.int .i64 m.hops)).setCell ⟨G, 6, none⟩ (.bool m.good)).setCell ⟨G, 7, none⟩ (.bool m.ref)).setCell ⟨G, 8, none⟩ (.int .i64 m.slo)).setCell ⟨G, 9, none⟩ (.int .i64 m.shi)).setCell ⟨G, 10, none⟩ (.int .i64 m.pulse)).setCell ⟨G, 11, none⟩ (.int .i64 m.time)).setCell ⟨G, 12, none⟩ (.int .i64 m.num)).setCell ⟨G, 13, none⟩ (.slice TA m.table.length tc)) := by
  refine ⟨?_, (((((((((((((((Two.refl G G w1).set (a := ⟨G, 0, none⟩) (.inl rfl) (.int .i64 m.kind)).set (a := ⟨G, 1, none⟩) (.inl rfl) (.int .i64 m.frm)).set (a := ⟨G, 2, none⟩) (.inl rfl) (.int .i64 m.lo)).set (a := ⟨G, 3, none⟩) (.inl rfl) (.int .i64 m.hi)).set (a := ⟨G, 4, none⟩) (.inl rfl) (.int .i64 m.held)).set (a := ⟨G, 5, none⟩) (.inl rfl) (.int .i64 m.hops)).set (a := ⟨G, 6, none⟩) (.inl rfl) (.bool m.good)).set (a := ⟨G, 7, none⟩) (.inl rfl) (.bool m.ref)).set (a := ⟨G, 8, none⟩) (.inl rfl) (.int .i64 m.slo)).set (a := ⟨G, 9, none⟩) (.inl rfl) (.int .i64 m.shi)).set (a := ⟨G, 10, none⟩) (.inl rfl) (.int .i64 m.pulse)).set (a := ⟨G, 11, none⟩) (.inl rfl) (.int .i64 m.time)).set (a := ⟨G, 12, none⟩) (.inl rfl) (.int .i64 m.num)).set (a := ⟨G, 13, none⟩) (.inl rfl) (.slice TA m.table.length tc))⟩
  have h := ((((((((((((((hO.set 0 (.int .i64 m.kind)).set 1 (.int .i64 m.frm)).set 2 (.int .i64 m.lo)).set 3 (.int .i64 m.hi)).set 4 (.int .i64 m.held)).set 5 (.int .i64 m.hops)).set 6 (.bool m.good)).set 7 (.bool m.ref)).set 8 (.int .i64 m.slo)).set 9 (.int .i64 m.shi)).set 10 (.int .i64 m.pulse)).set 11 (.int .i64 m.time)).set 12 (.int .i64 m.num)).set 13 (.slice TA m.table.length tc))
  simp only [Array.set!_eq_setIfInBounds, List.setIfInBounds_toArray, List.set_cons_zero, List.set_cons_succ] at h
  exact h
theorem But.ok_new {r : Nat} {w w0 w1 : World} (h : But r w0 w1) (k : Ok w w0) (hr : w.heap.size ≤ r) : Ok w w1 := ⟨h.os.trans k.below.os, h.tape.trans k.below.tape, h.output.trans k.below.output, Nat.le_trans k.size h.size, fun i hi => (h.block i (Nat.lt_of_lt_of_le hi k.size) (by omega)).trans (k.below.block i hi)⟩
theorem Two.ok_new {r M : Nat} {w w0 w1 : World} (h : Two r M w0 w1) (k : Ok w w0) (hr : w.heap.size ≤ r) (hM : w.heap.size ≤ M) : Ok w w1 := ⟨h.os.trans k.below.os, h.tape.trans k.below.tape, h.output.trans k.below.output, by rw [h.size]; exact k.size, fun i hi => (h.block i (by omega) (by omega)).trans (k.below.block i hi)⟩
theorem row_ok {w w1 : World} {B n sz : Nat} {e : TypeId} {v : Value} {xs : List Value} (h : w.ownsRow B e sz v n xs) (k : Ok w w1) : w1.ownsRow B e sz v n xs :=
  h.kept (w' := w1) (row := none) ⟨k.below.os, k.below.tape, k.below.output, k.size, fun i hi _ => k.below.block i hi⟩ (by cases h : v.ownBlock <;> simp)
theorem row_len {w : World} {B n sz : Nat} {e : TypeId} {v : Value} {xs : List Value} (h : w.ownsRow B e sz v n xs) : n ≤ maxLen := by
  rcases h.2 with ⟨_, rfl⟩ | ⟨_, cap, _, _, _, _, h1, h2, _⟩
  · exact Nat.zero_le _
  · omega
theorem pairs_row {w : World} {B _n cap : Nat} {e : TypeId} {A : Option Addr} {l : List (Int × Int)} (h : w.ownsRow B e 2 (.slice A l.length cap) l.length (cellsOfPairs l)) : PairsAt w A l := by
  obtain ⟨A', c', e1, hp⟩ := PairsAt.of_own h
  cases e1
  exact hp
/-- Decode's end: nothing was given up. -/
theorem decode_done (s : ByteArray) (w W : World) (m : Msg) (M E : Nat) (TA : Option Addr) (tc : Nat) (tmps : Array Value) (h2 : tmps[2]? = some (.pointer (some ⟨M, 0, none⟩))) (h3 : tmps[3]? = some (.pointer (some ⟨E, 0, none⟩))) (hM : Own W M #[.int .i64 m.kind, .int .i64 m.frm, .int .i64 m.lo, .int .i64 m.hi, .int .i64 m.held, .int .i64 m.hops, .bool m.good, .bool m.ref, .int .i64 m.slo, .int .i64 m.shi, .int .i64 m.pulse, .int .i64 m.time, .int .i64 m.num, .slice TA m.table.length tc]) (hE : Own W E #[.int .i64 0]) (hok : Ok w W)
    (hrow : W.ownsRow w.heap.size 45 2 (.slice TA m.table.length tc) m.table.length (cellsOfPairs m.table)) :
    Leaves Try.prog Try.f18 tmps (DecEnd s w m 0) [{ target := Target.fn (Fn.func 32) #[.pointer (some ⟨M, 0, none⟩), .pointer (some ⟨E, 0, none⟩)], args := #[] }] .returning W := by
  refine leaves_cons (f := 32) (args := #[.pointer (some ⟨M, 0, none⟩), .pointer (some ⟨E, 0, none⟩)]) (by simp) (by simp [go_sem]) ?_
  refine (wireIdle M E W).mono ?_
  rintro e u' w' ⟨rfl, rfl, rfl⟩
  obtain ⟨c0, c1, c2, c3, c4, c5, c6, c7, c8, c9, c10, c11, c12, c13⟩ := cells14 hM
  have cE := hE.cell 0 (v := .int .i64 0) rfl
  have e2 : tmps.getD 2 undef = .pointer (some ⟨M, 0, none⟩) := by simp [Array.getD_eq_getD_getElem?, h2]
  have e3 : tmps.getD 3 undef = .pointer (some ⟨E, 0, none⟩) := by simp [Array.getD_eq_getD_getElem?, h3]
  refine ⟨.tuple #[.agg #[.int .i64 m.kind, .int .i64 m.frm, .int .i64 m.lo, .int .i64 m.hi, .int .i64 m.held, .int .i64 m.hops, .bool m.good, .bool m.ref, .int .i64 m.slo, .int .i64 m.shi, .int .i64 m.pulse, .int .i64 m.time, .int .i64 m.num, .slice TA m.table.length tc], .int .i64 0], ?_, TA, tc, rfl, hrow, hok⟩
  simp [results, Try.results18, go_sem, h2, h3, cE, c0, c1, c2, c3, c4, c5, c6, c7, c8, c9, c10, c11, c12, c13]
set_option maxHeartbeats 3200000 in
theorem wireDecodeBad (s : ByteArray) (w : World) (h : s.size ≤ 4096) (hse : isSealed (strL s) = true) (HYP : reads (opened (strL s)) = true) (HGD : Wire.good (Wire.parse (opened (strL s))) = false) :
    Calls Try.prog 18 #[.string s] w (DecEnd s w zeroMsg 4) := by
  have hmf : ∀ (fn : Fn) (first cap : Array Value) (w : World), (Instr.makeFunc fn first cap).run Try.prog w = .ok (.func fn first cap) w := fun _ _ _ _ => rfl
  have hz := zeroMsg0
  have hz2 := zeroErr
  have d2 : (s.size : Int) ≤ 4096 := by omega
  obtain ⟨CAP, NW, hcv, hnw, hcap, -, hcs⟩ := conv_bytes s
  have KO := Lib.hid fun W => (by
    obtain ⟨cs, h1, h2, h3⟩ := hcs W
    exact crcOpenN (some ⟨W.heap.size, 0, none⟩) (strL s) s.size (strL_length s).symm (CAP W) (NW W) (conv_at h1 (fun k hk => h3 k (by rw [strL_length] at hk; exact hk))) (strL_lt s) (by rw [strL_length]; omega) (by rw [strL_length]; exact hcap W) : Calls Try.prog 34 #[.slice (some ⟨W.heap.size, 0, none⟩) s.size (CAP W)] (NW W) fun e w' => ∃ A cap, e = .returned (.tuple #[.slice A (opened (strL s)).length cap, .bool (isSealed (strL s))]) ∧ w'.ownsRow (NW W).heap.size 5 1 (.slice A (opened (strL s)).length cap) (opened (strL s)).length (u8s (opened (strL s))) ∧ Ok (NW W) w')
  rw [hse] at KO
  have HNW := Lib.hid hnw
  have HLT := Lib.hid (opened_lt (strL_lt s))
  obtain ⟨q, hq⟩ : ∃ q, opened (strL s) = q := ⟨_, rfl⟩
  simp only [hq] at KO HLT HYP HGD
  clear hcs hcap hnw h hse hq
  go_enter_defers Try.func18, Try.ntmps18
  go_upto_region 3 with ((go_at_call 33; (with_reducible refine (wireMust _ _).mono ?_); rintro e w1 ⟨rfl, rfl⟩))
  have hok : Ok w ((w.alloc (.cells zeroCells0 28)).alloc (.cells #[.int .i64 0] 32)) := ((Ok.refl w).alloc _).alloc _
  have hM : Own ((w.alloc (.cells zeroCells0 28)).alloc (.cells #[.int .i64 0] 32)) w.heap.size zeroCells0 := (Own.new w zeroCells0 28 rfl).alloc _
  have hE : Own ((w.alloc (.cells zeroCells0 28)).alloc (.cells #[.int .i64 0] 32)) (w.heap.size + 1) #[.int .i64 0] := Own.new _ _ _ (by simp)
  unfold zeroCells0 at hok hM hE
  generalize (w.alloc (.cells #[.int .i64 0, .int .i64 0, .int .i64 0, .int .i64 0, .int .i64 0, .int .i64 0, .bool false, .bool false, .int .i64 0, .int .i64 0, .int .i64 0, .int .i64 0, .int .i64 0, .slice none 0 0] 28)).alloc (.cells #[.int .i64 0] 32) = W at hok hM hE ⊢
  go_upto_region 5 with (first | (go_at_call 34; (with_reducible refine (KO.out _).mono ?_); rintro e w3 ⟨RA, rc, rfl, hrow, hb3⟩) | (go_at_call 33; (with_reducible refine (wireMust _ _).mono ?_); rintro e w1 ⟨rfl, rfl⟩))
  have hMl := hM.lt
  have hEl := hE.lt
  have hs1 := (HNW.out W).size
  have hs3 := hb3.size
  obtain ⟨c, hRd, hcr, hcw⟩ := rd_new hrow 68 (d := w.heap.size) (by omega) (by omega)
  have hM3 := ((hM.next (HNW.out W)).next hb3).alloc (.cells #[.slice RA q.length rc] 68)
  have hE3 := ((hE.next (HNW.out W)).next hb3).alloc (.cells #[.slice RA q.length rc] 68)
  have hok3 := ((hok.trans (HNW.out W)).trans hb3).alloc (.cells #[.slice RA q.length rc] 68)
  have KM := Lib.hid (wireMessageG w3.heap.size c q _ hRd HLT.out hcr hcw HYP)
  obtain ⟨m, hm⟩ : ∃ m, Wire.parse q = m := ⟨_, rfl⟩
  simp only [hm] at KM HGD
  unfold msgV at KM
  have HM := Lib.hid hm
  have HM3 := Lib.hid hM3
  clear hRd hm
  go_upto_region 6 with ((go_at_call 35; (with_reducible refine KM.out.mono ?_); rintro e w4 ⟨TA, tc, rfl, hrow4, hBut⟩; obtain ⟨p0, p1, p2, p3, p4, p5, p6, p7, p8, p9, p10, p11, p12, p13⟩ := cells14 (hBut.own HM3.out (by omega)); obtain ⟨q0, q1, q2, q3, q4, q5, q6, q7, q8, q9, q10, q11, q12, q13⟩ := frozen14 (hBut.own HM3.out (by omega))))
  clear p0 q0 p1 q1 p2 q2 p3 q3 p4 q4 p5 q5 p6 q6 p7 q7 p8 q8 p9 q9 p10 q10 p11 q11 p12 q12 p13 q13
  have hM4 := hBut.own HM3.out (by omega)
  have hE4 := hBut.own hE3 (by omega)
  have hok4 := hBut.ok_new hok3 (by omega)
  obtain ⟨hM5, T5⟩ := msg_first m TA tc hM4
  generalize ((((((((((((((w4.setCell ⟨w.heap.size, 0, none⟩ (.int .i64 m.kind)).setCell ⟨w.heap.size, 1, none⟩ (.int .i64 m.frm)).setCell ⟨w.heap.size, 2, none⟩ (.int .i64 m.lo)).setCell ⟨w.heap.size, 3, none⟩ (.int .i64 m.hi)).setCell ⟨w.heap.size, 4, none⟩ (.int .i64 m.held)).setCell ⟨w.heap.size, 5, none⟩ (.int .i64 m.hops)).setCell ⟨w.heap.size, 6, none⟩ (.bool m.good)).setCell ⟨w.heap.size, 7, none⟩ (.bool m.ref)).setCell ⟨w.heap.size, 8, none⟩ (.int .i64 m.slo)).setCell ⟨w.heap.size, 9, none⟩ (.int .i64 m.shi)).setCell ⟨w.heap.size, 10, none⟩ (.int .i64 m.pulse)).setCell ⟨w.heap.size, 11, none⟩ (.int .i64 m.time)).setCell ⟨w.heap.size, 12, none⟩ (.int .i64 m.num)).setCell ⟨w.heap.size, 13, none⟩ (.slice TA m.table.length tc)) = W5 at hM5 T5 ⊢
  have hE5 := T5.own hE4 (by omega) (by omega)
  have hok5 := T5.ok_new hok4 (Nat.le_refl _) (Nat.le_refl _)
  have hs4 : (w3.alloc (.cells #[.slice RA q.length rc] 68)).heap.size = w3.heap.size + 1 := by simp
  have hrow5 := row_two hrow4 T5 (fun b hb' => by have := hrow4.lt b hb'; omega)
  have KG := Lib.hid (wireGood m TA tc W5 (pairs_row (_n := 0) hrow5) (by have := row_len hrow5; unfold maxLen at this; omega))
  rw [HGD] at KG
  unfold msgV at KG
  obtain ⟨c0, c1, c2, c3, c4, c5, c6, c7, c8, c9, c10, c11, c12, c13⟩ := cells14 hM5
  have HM5 := Lib.hid hM5
  have HE5 := Lib.hid hE5
  have HOK5 := Lib.hid hok5
  have HROW := Lib.hid (hrow5.mono (base' := w.heap.size) (by omega))
  clear hM4 hE4 hok4 hM5 hE5 hok5 hrow5 hrow4 T5 KM KO HM3 hok3 hE3
  go_wp2_with (first | (go_at_call 10; (with_reducible refine KG.out.mono ?_); rintro e w6 ⟨rfl, hb6⟩) | (go_at_call 33; (with_reducible refine (wireMustNot _ _).mono ?_); rintro e w1 ⟨rfl, rfl⟩))
  exact decode_caught s w _ 4 w.heap.size (w.heap.size + 1) _ _ _ _ _ _ _ _ _ _ _ _ _ _ (.int .i64 0) _ rfl rfl (HM5.out.next hb6) (HE5.out.next hb6) (by omega) (Nat.le_refl _) (by omega) (HOK5.out.trans hb6)
set_option maxHeartbeats 3200000 in
theorem wireDecodeGood (s : ByteArray) (w : World) (h : s.size ≤ 4096) (hse : isSealed (strL s) = true) (HYP : reads (opened (strL s)) = true) (HGD : Wire.good (Wire.parse (opened (strL s))) = true) :
    Calls Try.prog 18 #[.string s] w (DecEnd s w (Wire.parse (opened (strL s))) 0) := by
  have hmm : ∀ m, Wire.parse (opened (strL s)) = m → Calls Try.prog 18 #[.string s] w (DecEnd s w m 0) := by
    intro mm hmm
    have HMM := Lib.hid hmm
    clear hmm
    have hmf : ∀ (fn : Fn) (first cap : Array Value) (w : World), (Instr.makeFunc fn first cap).run Try.prog w = .ok (.func fn first cap) w := fun _ _ _ _ => rfl
    have hz := zeroMsg0
    have hz2 := zeroErr
    have d2 : (s.size : Int) ≤ 4096 := by omega
    obtain ⟨CAP, NW, hcv, hnw, hcap, -, hcs⟩ := conv_bytes s
    have KO := Lib.hid fun W => (by
      obtain ⟨cs, h1, h2, h3⟩ := hcs W
      exact crcOpenN (some ⟨W.heap.size, 0, none⟩) (strL s) s.size (strL_length s).symm (CAP W) (NW W) (conv_at h1 (fun k hk => h3 k (by rw [strL_length] at hk; exact hk))) (strL_lt s) (by rw [strL_length]; omega) (by rw [strL_length]; exact hcap W) : Calls Try.prog 34 #[.slice (some ⟨W.heap.size, 0, none⟩) s.size (CAP W)] (NW W) fun e w' => ∃ A cap, e = .returned (.tuple #[.slice A (opened (strL s)).length cap, .bool (isSealed (strL s))]) ∧ w'.ownsRow (NW W).heap.size 5 1 (.slice A (opened (strL s)).length cap) (opened (strL s)).length (u8s (opened (strL s))) ∧ Ok (NW W) w')
    rw [hse] at KO
    have HNW := Lib.hid hnw
    have HLT := Lib.hid (opened_lt (strL_lt s))
    obtain ⟨q, hq⟩ : ∃ q, opened (strL s) = q := ⟨_, rfl⟩
    simp only [hq] at KO HLT HYP HGD HMM
    clear hcs hcap hnw h hse hq
    go_enter_defers Try.func18, Try.ntmps18
    go_upto_region 3 with ((go_at_call 33; (with_reducible refine (wireMust _ _).mono ?_); rintro e w1 ⟨rfl, rfl⟩))
    have hok : Ok w ((w.alloc (.cells zeroCells0 28)).alloc (.cells #[.int .i64 0] 32)) := ((Ok.refl w).alloc _).alloc _
    have hM : Own ((w.alloc (.cells zeroCells0 28)).alloc (.cells #[.int .i64 0] 32)) w.heap.size zeroCells0 := (Own.new w zeroCells0 28 rfl).alloc _
    have hE : Own ((w.alloc (.cells zeroCells0 28)).alloc (.cells #[.int .i64 0] 32)) (w.heap.size + 1) #[.int .i64 0] := Own.new _ _ _ (by simp)
    unfold zeroCells0 at hok hM hE
    generalize (w.alloc (.cells #[.int .i64 0, .int .i64 0, .int .i64 0, .int .i64 0, .int .i64 0, .int .i64 0, .bool false, .bool false, .int .i64 0, .int .i64 0, .int .i64 0, .int .i64 0, .int .i64 0, .slice none 0 0] 28)).alloc (.cells #[.int .i64 0] 32) = W at hok hM hE ⊢
    go_upto_region 5 with (first | (go_at_call 34; (with_reducible refine (KO.out _).mono ?_); rintro e w3 ⟨RA, rc, rfl, hrow, hb3⟩) | (go_at_call 33; (with_reducible refine (wireMust _ _).mono ?_); rintro e w1 ⟨rfl, rfl⟩))
    have hMl := hM.lt
    have hEl := hE.lt
    have hs1 := (HNW.out W).size
    have hs3 := hb3.size
    obtain ⟨c, hRd, hcr, hcw⟩ := rd_new hrow 68 (d := w.heap.size) (by omega) (by omega)
    have hM3 := ((hM.next (HNW.out W)).next hb3).alloc (.cells #[.slice RA q.length rc] 68)
    have hE3 := ((hE.next (HNW.out W)).next hb3).alloc (.cells #[.slice RA q.length rc] 68)
    have hok3 := ((hok.trans (HNW.out W)).trans hb3).alloc (.cells #[.slice RA q.length rc] 68)
    have KM := Lib.hid (wireMessageG w3.heap.size c q _ hRd HLT.out hcr hcw HYP)
    obtain ⟨m, hm⟩ : ∃ m, Wire.parse q = m := ⟨_, rfl⟩
    simp only [hm] at KM HGD
    unfold msgV at KM
    have HM := Lib.hid hm
    have HM3 := Lib.hid hM3
    clear hRd hm
    go_upto_region 6 with ((go_at_call 35; (with_reducible refine KM.out.mono ?_); rintro e w4 ⟨TA, tc, rfl, hrow4, hBut⟩; obtain ⟨p0, p1, p2, p3, p4, p5, p6, p7, p8, p9, p10, p11, p12, p13⟩ := cells14 (hBut.own HM3.out (by omega)); obtain ⟨q0, q1, q2, q3, q4, q5, q6, q7, q8, q9, q10, q11, q12, q13⟩ := frozen14 (hBut.own HM3.out (by omega))))
    clear p0 q0 p1 q1 p2 q2 p3 q3 p4 q4 p5 q5 p6 q6 p7 q7 p8 q8 p9 q9 p10 q10 p11 q11 p12 q12 p13 q13
    have hM4 := hBut.own HM3.out (by omega)
    have hE4 := hBut.own hE3 (by omega)
    have hok4 := hBut.ok_new hok3 (by omega)
    obtain ⟨hM5, T5⟩ := msg_first m TA tc hM4
    generalize ((((((((((((((w4.setCell ⟨w.heap.size, 0, none⟩ (.int .i64 m.kind)).setCell ⟨w.heap.size, 1, none⟩ (.int .i64 m.frm)).setCell ⟨w.heap.size, 2, none⟩ (.int .i64 m.lo)).setCell ⟨w.heap.size, 3, none⟩ (.int .i64 m.hi)).setCell ⟨w.heap.size, 4, none⟩ (.int .i64 m.held)).setCell ⟨w.heap.size, 5, none⟩ (.int .i64 m.hops)).setCell ⟨w.heap.size, 6, none⟩ (.bool m.good)).setCell ⟨w.heap.size, 7, none⟩ (.bool m.ref)).setCell ⟨w.heap.size, 8, none⟩ (.int .i64 m.slo)).setCell ⟨w.heap.size, 9, none⟩ (.int .i64 m.shi)).setCell ⟨w.heap.size, 10, none⟩ (.int .i64 m.pulse)).setCell ⟨w.heap.size, 11, none⟩ (.int .i64 m.time)).setCell ⟨w.heap.size, 12, none⟩ (.int .i64 m.num)).setCell ⟨w.heap.size, 13, none⟩ (.slice TA m.table.length tc)) = W5 at hM5 T5 ⊢
    have hE5 := T5.own hE4 (by omega) (by omega)
    have hok5 := T5.ok_new hok4 (Nat.le_refl _) (Nat.le_refl _)
    have hs4 : (w3.alloc (.cells #[.slice RA q.length rc] 68)).heap.size = w3.heap.size + 1 := by simp
    have hrow5 := row_two hrow4 T5 (fun b hb' => by have := hrow4.lt b hb'; omega)
    have KG := Lib.hid (wireGood m TA tc W5 (pairs_row (_n := 0) hrow5) (by have := row_len hrow5; unfold maxLen at this; omega))
    rw [HGD] at KG
    unfold msgV at KG
    obtain ⟨c0, c1, c2, c3, c4, c5, c6, c7, c8, c9, c10, c11, c12, c13⟩ := cells14 hM5
    have HM5 := Lib.hid hM5
    have HE5 := Lib.hid hE5
    have HOK5 := Lib.hid hok5
    have HBL := Lib.hid (fun b (hb' : (Value.slice TA m.table.length tc).ownBlock = some b) => (show w.heap.size + 1 < b by have := hrow5.lt b hb'; omega))
    have HROW := Lib.hid (hrow5.mono (base' := w.heap.size) (by omega))
    clear hM4 hE4 hok4 hM5 hE5 hok5 hrow5 hrow4 T5 KM KO HM3 hok3 hE3
    go_upto_region 7 with (first | (go_at_call 10; (with_reducible refine KG.out.mono ?_); rintro e w6 ⟨rfl, hb6⟩) | (go_at_call 33; (with_reducible refine (wireMust _ _).mono ?_); rintro e w1 ⟨rfl, rfl⟩))
    clear c0 c1 c2 c3 c4 c5 c6 c7 c8 c9 c10 c11 c12 c13
    have hM6 := HM5.out.next hb6
    have hE6 := HE5.out.next hb6
    obtain ⟨p0, p1, p2, p3, p4, p5, p6, p7, p8, p9, p10, p11, p12, p13⟩ := cells14 hM6
    obtain ⟨q0, q1, q2, q3, q4, q5, q6, q7, q8, q9, q10, q11, q12, q13⟩ := frozen14 hM6
    have pE := hE6.cell 0 (v := .int .i64 0) rfl
    have qE := hE6.frozen 0
    have hME : w.heap.size ≠ w.heap.size + 1 := by omega
    go_wp2_with fail
    obtain ⟨hM7, T7⟩ := msg_again m TA tc hM6
    generalize ((((((((((((((w6.setCell ⟨w.heap.size, 0, none⟩ (.int .i64 m.kind)).setCell ⟨w.heap.size, 1, none⟩ (.int .i64 m.frm)).setCell ⟨w.heap.size, 2, none⟩ (.int .i64 m.lo)).setCell ⟨w.heap.size, 3, none⟩ (.int .i64 m.hi)).setCell ⟨w.heap.size, 4, none⟩ (.int .i64 m.held)).setCell ⟨w.heap.size, 5, none⟩ (.int .i64 m.hops)).setCell ⟨w.heap.size, 6, none⟩ (.bool m.good)).setCell ⟨w.heap.size, 7, none⟩ (.bool m.ref)).setCell ⟨w.heap.size, 8, none⟩ (.int .i64 m.slo)).setCell ⟨w.heap.size, 9, none⟩ (.int .i64 m.shi)).setCell ⟨w.heap.size, 10, none⟩ (.int .i64 m.pulse)).setCell ⟨w.heap.size, 11, none⟩ (.int .i64 m.time)).setCell ⟨w.heap.size, 12, none⟩ (.int .i64 m.num)).setCell ⟨w.heap.size, 13, none⟩ (.slice TA m.table.length tc)) = W7 at hM7 T7 ⊢
    have hE7 := T7.own hE6 (by omega) (by omega)
    obtain rfl : m = mm := HM.out.symm.trans HMM.out
    exact decode_done s w _ m w.heap.size (w.heap.size + 1) TA tc _ rfl rfl (hM7.setOther (a := ⟨w.heap.size + 1, 0, none⟩) (by show w.heap.size ≠ w.heap.size + 1; omega) _) (hE7.set 0 (.int .i64 0)) ((T7.ok_new (HOK5.out.trans hb6) (Nat.le_refl _) (Nat.le_refl _)).setCell (by show w.heap.size ≤ w.heap.size + 1; omega) _)
      (row_two (row_two (row_ok HROW.out hb6) T7 (fun b hb' => by have := HBL.out b hb'; omega)) ((Two.refl (w.heap.size + 1) (w.heap.size + 1) W7).set (a := ⟨w.heap.size + 1, 0, none⟩) (.inl rfl) (.int .i64 0)) (fun b hb' => by have := HBL.out b hb'; omega))
  exact hmm _ rfl
/-- Decode, whatever is handed in. -/
theorem wireDecode (s : ByteArray) (w : World) : Calls Try.prog 18 #[.string s] w (DecEnd s w (decOf (strL s)).1 (decOf (strL s)).2) := by
  rw [decOf_prog _ (strL_lt s), strL_length]
  by_cases h1 : 4096 < s.size
  · rw [if_pos h1]; exact wireDecodeLong s w h1
  rw [if_neg h1]
  cases h2 : isSealed (strL s) with
  | false => rw [if_pos rfl]; exact wireDecodeSum s w (by omega) h2
  | true =>
    rw [if_neg (by simp)]
    cases h3 : reads (opened (strL s)) with
    | false => rw [if_neg (by simp)]; exact wireDecodeForm s w (by omega) h2 h3
    | true =>
      cases h4 : Wire.good (Wire.parse (opened (strL s))) with
      | false => rw [if_neg (by simp)]; exact wireDecodeBad s w (by omega) h2 h3 h4
      | true => rw [if_pos ⟨rfl, rfl⟩]; exact wireDecodeGood s w (by omega) h2 h3 h4
end Go.Proofs.Ytacnoakbcilmfaa
