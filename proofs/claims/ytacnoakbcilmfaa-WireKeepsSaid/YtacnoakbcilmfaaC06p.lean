/- Contracts of layer 6: the program's Decode, whole. -/
import Derived.Test.YtacnoakbcilmfaaC06o
import Derived.Test.YtacnoakbcilmfaaC06l
import Derived.Laws.IdiomStrings
namespace Go.Proofs.Ytacnoakbcilmfaa
open Go.RowKit
set_option maxRecDepth 100000
attribute [local go_sem ↓] Go.wp_at_zero Go.wp_at_succ
/-- []byte(s). -/
theorem conv_bytes (s : ByteArray) : ∃ (CAP : World → Nat) (NW : World → World), (∀ W, Sem.run Try.prog (convert 9 41 (.string s)) W = .ok (.slice (some ⟨W.heap.size, 0, none⟩) s.size (CAP W)) (NW W)) ∧ (∀ W, Ok W (NW W)) ∧ (∀ W, s.size ≤ CAP W) ∧ (∀ W, s.size ≤ maxLen → CAP W ≤ maxLen) ∧
    ∀ W, ∃ cs : Array Value, (NW W).heap[W.heap.size]? = some (.cells cs 5 (cs.size, cs.size + 1)) ∧ s.size ≤ cs.size ∧ ∀ k (h : k < s.size), cs[k]? = some (.int .u8 ((strL s)[k]'(by rw [strL_length]; exact h) : Nat)) := by
  refine ⟨fun W => grownCap W s.size 0 5, fun W => W.drew.alloc (.cells (bytesRow s (grownCap W s.size 0 5)) 5 ((bytesRow s (grownCap W s.size 0 5)).size, (bytesRow s (grownCap W s.size 0 5)).size + 1)), fun W => run_bytes_of_string W _ _ _ s Try.underlying9 Try.underlying41 Try.underlying5, fun W => (Ok.refl W).drew.alloc _, fun W => grownCap_ge W s.size 0 5, fun W h => grownCap_le_maxLen W s.size 0 5 h, fun W => ?_⟩
  refine ⟨_, heap_alloc_new W.drew _, ?_, fun k h => ?_⟩
  · have := grownCap_ge W s.size 0 5
    simp [bytesRow]
  · rw [bytesRow_at s _ k h]
    simp [strL]
theorem conv_at {w : World} {b : Nat} {cs : Array Value} {t : TypeId} {fr : Nat × Nat} {l : List Nat} (hb : w.heap[b]? = some (.cells cs t fr)) (hc : ∀ k (h : k < l.length), cs[k]? = some (.int .u8 (l[k] : Int))) : BytesAt w (some ⟨b, 0, none⟩) l := fun k hk => by
  refine ⟨b, 0, rfl, (Array.getElem?_eq_some_iff.1 hb).1, ?_⟩
  rw [Nat.zero_add]
  simp only [World.cell?, hb]
  exact hc k hk
/-- What Decode answers, as the program finds it. -/
theorem decOf_prog (s : List Nat) (hs : ∀ b ∈ s, b < 256) : decOf s = if 4096 < s.length then (zeroMsg, 3) else if isSealed s = false then (zeroMsg, 5) else if reads (opened s) = true ∧ Wire.good (Wire.parse (opened s)) = true then (Wire.parse (opened s), 0) else (zeroMsg, 4) := by
  unfold decOf
  by_cases h1 : 4096 < s.length
  · rw [if_pos h1, if_pos h1]
  rw [if_neg h1, if_neg h1]
  by_cases h2 : isSealed s = false
  · rw [if_pos h2, if_pos h2]
  rw [if_neg h2, if_neg h2]
  have ho : opened s = s.take (s.length - 4) := by unfold opened; rw [if_pos (by simpa using h2)]
  rw [ho]
  have hb : ∀ b ∈ s.take (s.length - 4), b < 256 := fun b h => hs b (List.mem_of_mem_take h)
  unfold reads
  cases hf : Wire.fits (s.take (s.length - 4)) with
  | false => simp
  | true =>
    rw [if_neg (by simp)]
    have hi := Wire.frame_parse_iff hb hf
    simp only [Bool.true_and, decide_eq_true_eq]
    by_cases hg : Wire.good (Wire.parse (s.take (s.length - 4))) = true ∧ Wire.frame (Wire.parse (s.take (s.length - 4))) = s.take (s.length - 4)
    · rw [if_pos hg, if_pos ⟨hi.1 hg.2, hg.1⟩]
    · rw [if_neg hg, if_neg fun g => hg ⟨g.2, hi.2 g.1⟩]
theorem zeroErr (w : World) : Sem.run Try.prog (zeroValue 32) w = .ok (.int .i64 0) w := by kernel_rfl
theorem zeroMsg0 (w : World) : Sem.run Try.prog (zeroValue 28) w = .ok (.agg #[.int .i64 0, .int .i64 0, .int .i64 0, .int .i64 0, .int .i64 0, .int .i64 0, .bool false, .bool false, .int .i64 0, .int .i64 0, .int .i64 0, .int .i64 0, .int .i64 0, .slice none 0 0]) w := by kernel_rfl
/-- What Decode hands back. -/
def DecEnd (_s : ByteArray) (w : World) (m : Msg) (n : Int) (e : Ending) (w' : World) : Prop := ∃ A cap, e = .returned (.tuple #[msgV m A cap, .int .i64 n]) ∧ w'.ownsRow w.heap.size 45 2 (.slice A m.table.length cap) m.table.length (cellsOfPairs m.table) ∧ Ok w w'
/-- A frame is given up: the closure answers for it. -/
theorem decode_caught (s : ByteArray) (w W : World) (n : Int) (M E : Nat) (a0 a1 a2 a3 a4 a5 a6 a7 a8 a9 a10 a11 a12 a13 b0 : Value) (tmps : Array Value) (h2 : tmps[2]? = some (.pointer (some ⟨M, 0, none⟩))) (h3 : tmps[3]? = some (.pointer (some ⟨E, 0, none⟩))) (hM : Own W M #[a0, a1, a2, a3, a4, a5, a6, a7, a8, a9, a10, a11, a12, a13]) (hE : Own W E #[b0]) (hME : M ≠ E) (hM0 : w.heap.size ≤ M) (hE0 : w.heap.size ≤ E) (hok : Ok w W) :
    Leaves Try.prog Try.f18 tmps (DecEnd s w zeroMsg n) [{ target := Target.fn (Fn.func 32) #[.pointer (some ⟨M, 0, none⟩), .pointer (some ⟨E, 0, none⟩)], args := #[] }] (.panicking (why n)) W := by
  refine leaves_cons (f := 32) (args := #[.pointer (some ⟨M, 0, none⟩), .pointer (some ⟨E, 0, none⟩)]) (by simp) (by simp [go_sem]) ?_
  refine (wireCatch M E n a0 a1 a2 a3 a4 a5 a6 a7 a8 a9 a10 a11 a12 a13 b0 W hM hE hME).mono ?_
  rintro e u' w' ⟨rfl, rfl, hM', hE', hT⟩
  have c0 := hM'.cell 0 (v := .int .i64 0) rfl
  have c1 := hM'.cell 1 (v := .int .i64 0) rfl
  have c2 := hM'.cell 2 (v := .int .i64 0) rfl
  have c3 := hM'.cell 3 (v := .int .i64 0) rfl
  have c4 := hM'.cell 4 (v := .int .i64 0) rfl
  have c5 := hM'.cell 5 (v := .int .i64 0) rfl
  have c6 := hM'.cell 6 (v := .bool false) rfl
  have c7 := hM'.cell 7 (v := .bool false) rfl
  have c8 := hM'.cell 8 (v := .int .i64 0) rfl
  have c9 := hM'.cell 9 (v := .int .i64 0) rfl
  have c10 := hM'.cell 10 (v := .int .i64 0) rfl
  have c11 := hM'.cell 11 (v := .int .i64 0) rfl
  have c12 := hM'.cell 12 (v := .int .i64 0) rfl
  have c13 := hM'.cell 13 (v := .slice none 0 0) rfl
  have cE := hE'.cell 0 (v := .int .i64 n) rfl
  have hok' : Ok w w' := ⟨hT.os.trans hok.below.os, hT.tape.trans hok.below.tape, hT.output.trans hok.below.output, by rw [hT.size]; exact hok.size, fun k hk => (hT.block k (by omega) (by omega)).trans (hok.below.block k hk)⟩
  have e2 : tmps.getD 2 undef = .pointer (some ⟨M, 0, none⟩) := by simp [Array.getD_eq_getD_getElem?, h2]
  have e3 : tmps.getD 3 undef = .pointer (some ⟨E, 0, none⟩) := by simp [Array.getD_eq_getD_getElem?, h3]
  refine ⟨.tuple #[.agg #[.int .i64 0, .int .i64 0, .int .i64 0, .int .i64 0, .int .i64 0, .int .i64 0, .bool false, .bool false, .int .i64 0, .int .i64 0, .int .i64 0, .int .i64 0, .int .i64 0, .slice none 0 0], .int .i64 n], ?_, none, 0, rfl, ⟨rfl, .inl ⟨rfl, rfl⟩⟩, hok'⟩
  simp [results, Try.results18, go_sem, h2, h3, cE, c0, c1, c2, c3, c4, c5, c6, c7, c8, c9, c10, c11, c12, c13]
set_option maxHeartbeats 1600000 in
theorem wireDecodeLong (s : ByteArray) (w : World) (h : 4096 < s.size) :
    Calls Try.prog 18 #[.string s] w (DecEnd s w zeroMsg 3) := by
  have hmf : ∀ (fn : Fn) (first cap : Array Value) (w : World), (Instr.makeFunc fn first cap).run Try.prog w = .ok (.func fn first cap) w := fun _ _ _ _ => rfl
  have hz := zeroMsg0
  have hz2 := zeroErr
  have d1 : decide ((s.size : Int) ≤ 4096) = false := decide_eq_false (by omega)
  have d2 : ((s.size : Int) ≤ 4096) = False := eq_false (by omega)
  have d3 : (s.size ≤ 4096) = False := eq_false (by omega)
  go_enter_defers Try.func18, Try.ntmps18
  go_wp2_with ((go_at_call 33; (with_reducible refine (wireMustNot _ _).mono ?_); rintro e w1 ⟨rfl, rfl⟩))
  exact decode_caught s w _ 3 w.heap.size (w.heap.size + 1) _ _ _ _ _ _ _ _ _ _ _ _ _ _ (.int .i64 0) _ rfl rfl ((Own.new w zeroCells0 28 rfl).alloc _) (Own.new _ _ _ (by simp)) (by omega) (Nat.le_refl _) (by omega) (((Ok.refl w).alloc _).alloc _)
theorem crcOpenN (A : Option Addr) (l : List Nat) (n : Nat) (hn : n = l.length) (cap : Nat) (w : World) (h : BytesAt w A l) (hb : ∀ x ∈ l, x < 256) (hl : l.length ≤ 1099511627776) (hcap : l.length ≤ cap) :
    Calls Try.prog 34 #[.slice A n cap] w fun e w' => ∃ A cap, e = .returned (.tuple #[.slice A (opened l).length cap, .bool (isSealed l)]) ∧ w'.ownsRow w.heap.size 5 1 (.slice A (opened l).length cap) (opened l).length (u8s (opened l)) ∧ Ok w w' := by
  subst hn
  exact (crcOpen A l cap w h hb hl hcap).mono fun e w' ⟨v, h1, h2, h3⟩ => by
    obtain ⟨A', c', rfl⟩ := row_slice h2
    exact ⟨A', c', h1, h2, h3⟩
/-- A row of bytes of one's own, given to a reader. -/
theorem rd_new {w : World} {B : Nat} {v : Value} {l : List Nat} (h : w.ownsRow B 5 1 v l.length (u8s l)) (t : TypeId) {d : Nat} (hd : d < w.heap.size) (_hB : d < B) : ∃ c, Rd (w.alloc (.cells #[v] t)) w.heap.size c l ∧ c ≠ w.heap.size ∧ c < (w.alloc (.cells #[v] t)).heap.size := by
  have hs : (w.alloc (.cells #[v] t)).heap.size = w.heap.size + 1 := by simp
  have hO : Own (w.alloc (.cells #[v] t)) w.heap.size #[v] := Own.new _ _ _ rfl
  rcases h.2 with ⟨hv, h0⟩ | ⟨g, cap, cur, hv, hb, hh, hnc, hm, _⟩
  · refine ⟨d, ⟨none, 0, ?_, fun k hk => absurd hk (by omega), by omega, by omega, fun a ha => by cases ha⟩, by omega, by omega⟩
    rw [h0, ← hv]; exact hO
  · have hgl : g < w.heap.size := (Array.getElem?_eq_some_iff.1 hh).1
    have hB' := bytes_of_row (c := g) (cap := cap) (hv ▸ h)
    refine ⟨g, ⟨some ⟨g, 0, none⟩, cap, ?_, hB'.below ((Ok.refl w).alloc _), hnc, hm, fun a ha => by cases ha; rfl⟩, by omega, by omega⟩
    rw [← hv]; exact hO
theorem wireMessageB (r c : Nat) (l : List Nat) (w : World) (hR : Rd w r c l) (hb : ∀ b ∈ l, b < 256) (hcr : c ≠ r) (hcw : c < w.heap.size) (h : reads l = false) :
    Calls Try.prog 35 #[.pointer (some ⟨r, 0, none⟩)] w fun e w' => e = .panicked (why 4) ∧ But r w w' :=
  (wireMessage r c l w hR hb hcr hcw).mono fun e w' ⟨h1, h2⟩ => by
    rcases h2 with ⟨h3, _⟩ | ⟨_, h3⟩
    · rw [h] at h3; cases h3
    · exact ⟨h3, h1⟩
theorem wireMessageG (r c : Nat) (l : List Nat) (w : World) (hR : Rd w r c l) (hb : ∀ b ∈ l, b < 256) (hcr : c ≠ r) (hcw : c < w.heap.size) (h : reads l = true) :
    Calls Try.prog 35 #[.pointer (some ⟨r, 0, none⟩)] w fun e w' => ∃ A cap, e = .returned (msgV (Wire.parse l) A cap) ∧ w'.ownsRow w.heap.size 45 2 (.slice A (Wire.parse l).table.length cap) (Wire.parse l).table.length (cellsOfPairs (Wire.parse l).table) ∧ But r w w' :=
  (wireMessage r c l w hR hb hcr hcw).mono fun e w' ⟨h1, h2⟩ => by
    rcases h2 with ⟨_, A, cap, h3, h4⟩ | ⟨h3, _⟩
    · exact ⟨A, cap, h3, h4, h1⟩
    · rw [h] at h3; cases h3
theorem opened_lt {l : List Nat} (h : ∀ b ∈ l, b < 256) : ∀ b ∈ opened l, b < 256 := fun b hb => by
  unfold opened at hb
  split at hb
  · exact h b (List.mem_of_mem_take hb)
  · cases hb
set_option maxHeartbeats 1600000 in
theorem wireDecodeSum (s : ByteArray) (w : World) (h : s.size ≤ 4096) (hse : isSealed (strL s) = false) :
    Calls Try.prog 18 #[.string s] w (DecEnd s w zeroMsg 5) := by
  have hmf : ∀ (fn : Fn) (first cap : Array Value) (w : World), (Instr.makeFunc fn first cap).run Try.prog w = .ok (.func fn first cap) w := fun _ _ _ _ => rfl
  have hz := zeroMsg0
  have hz2 := zeroErr
  have d2 : (s.size : Int) ≤ 4096 := by omega
  obtain ⟨CAP, NW, hcv, hnw, hcap, -, hcs⟩ := conv_bytes s
  have KO := Lib.hid fun W => (by
    obtain ⟨cs, h1, h2, h3⟩ := hcs W
    exact crcOpenN (some ⟨W.heap.size, 0, none⟩) (strL s) s.size (strL_length s).symm (CAP W) (NW W) (conv_at h1 (fun k hk => h3 k (by rw [strL_length] at hk; exact hk))) (strL_lt s) (by rw [strL_length]; omega) (by rw [strL_length]; exact hcap W) : Calls Try.prog 34 #[.slice (some ⟨W.heap.size, 0, none⟩) s.size (CAP W)] (NW W) fun e w' => ∃ A cap, e = .returned (.tuple #[.slice A (opened (strL s)).length cap, .bool (isSealed (strL s))]) ∧ w'.ownsRow (NW W).heap.size 5 1 (.slice A (opened (strL s)).length cap) (opened (strL s)).length (u8s (opened (strL s))) ∧ Ok (NW W) w')
  rw [hse] at KO
  have HNW := Lib.hid hnw
  clear hcs hcap hnw h hse
  go_enter_defers Try.func18, Try.ntmps18
  go_upto_region 3 with ((go_at_call 33; (with_reducible refine (wireMust _ _).mono ?_); rintro e w1 ⟨rfl, rfl⟩))
  have hok : Ok w ((w.alloc (.cells zeroCells0 28)).alloc (.cells #[.int .i64 0] 32)) := ((Ok.refl w).alloc _).alloc _
  have hM : Own ((w.alloc (.cells zeroCells0 28)).alloc (.cells #[.int .i64 0] 32)) w.heap.size zeroCells0 := (Own.new w zeroCells0 28 rfl).alloc _
  have hE : Own ((w.alloc (.cells zeroCells0 28)).alloc (.cells #[.int .i64 0] 32)) (w.heap.size + 1) #[.int .i64 0] := Own.new _ _ _ (by simp)
  unfold zeroCells0 at hok hM hE
  generalize (w.alloc (.cells #[.int .i64 0, .int .i64 0, .int .i64 0, .int .i64 0, .int .i64 0, .int .i64 0, .bool false, .bool false, .int .i64 0, .int .i64 0, .int .i64 0, .int .i64 0, .int .i64 0, .slice none 0 0] 28)).alloc (.cells #[.int .i64 0] 32) = W at hok hM hE ⊢
  go_wp2_with (first | (go_at_call 34; (with_reducible refine (KO.out _).mono ?_); rintro e w3 ⟨RA, rc, rfl, hrow, hb3⟩) | (go_at_call 33; (with_reducible refine (wireMustNot _ _).mono ?_); rintro e w1 ⟨rfl, rfl⟩))
  exact decode_caught s w _ 5 w.heap.size (w.heap.size + 1) _ _ _ _ _ _ _ _ _ _ _ _ _ _ (.int .i64 0) _ rfl rfl ((hM.next (HNW.out W)).next hb3) ((hE.next (HNW.out W)).next hb3) (by omega) (Nat.le_refl _) (by omega) ((hok.trans (HNW.out W)).trans hb3)
set_option maxHeartbeats 1600000 in
theorem wireDecodeForm (s : ByteArray) (w : World) (h : s.size ≤ 4096) (hse : isSealed (strL s) = true) (HYP : reads (opened (strL s)) = false) :
    Calls Try.prog 18 #[.string s] w (DecEnd s w zeroMsg 4) := by
  have hmf : ∀ (fn : Fn) (first cap : Array Value) (w : World), (Instr.makeFunc fn first cap).run Try.prog w = .ok (.func fn first cap) w := fun _ _ _ _ => rfl
  have hz := zeroMsg0
  have hz2 := zeroErr
  have d2 : (s.size : Int) ≤ 4096 := by omega
  obtain ⟨CAP, NW, hcv, hnw, hcap, -, hcs⟩ := conv_bytes s
  have KO := Lib.hid fun W => (by
    obtain ⟨cs, h1, h2, h3⟩ := hcs W
    exact crcOpenN (some ⟨W.heap.size, 0, none⟩) (strL s) s.size (strL_length s).symm (CAP W) (NW W) (conv_at h1 (fun k hk => h3 k (by rw [strL_length] at hk; exact hk))) (strL_lt s) (by rw [strL_length]; omega) (by rw [strL_length]; exact hcap W) : Calls Try.prog 34 #[.slice (some ⟨W.heap.size, 0, none⟩) s.size (CAP W)] (NW W) fun e w' => ∃ A cap, e = .returned (.tuple #[.slice A (opened (strL s)).length cap, .bool (isSealed (strL s))]) ∧ w'.ownsRow (NW W).heap.size 5 1 (.slice A (opened (strL s)).length cap) (opened (strL s)).length (u8s (opened (strL s))) ∧ Ok (NW W) w')
  rw [hse] at KO
  have HNW := Lib.hid hnw
  have HLT := Lib.hid (opened_lt (strL_lt s))
  obtain ⟨q, hq⟩ : ∃ q, opened (strL s) = q := ⟨_, rfl⟩
  simp only [hq] at KO HLT HYP
  clear hcs hcap hnw h hse hq
  go_enter_defers Try.func18, Try.ntmps18
  go_upto_region 3 with ((go_at_call 33; (with_reducible refine (wireMust _ _).mono ?_); rintro e w1 ⟨rfl, rfl⟩))
  have hok : Ok w ((w.alloc (.cells zeroCells0 28)).alloc (.cells #[.int .i64 0] 32)) := ((Ok.refl w).alloc _).alloc _
  have hM : Own ((w.alloc (.cells zeroCells0 28)).alloc (.cells #[.int .i64 0] 32)) w.heap.size zeroCells0 := (Own.new w zeroCells0 28 rfl).alloc _
  have hE : Own ((w.alloc (.cells zeroCells0 28)).alloc (.cells #[.int .i64 0] 32)) (w.heap.size + 1) #[.int .i64 0] := Own.new _ _ _ (by simp)
  unfold zeroCells0 at hok hM hE
  generalize (w.alloc (.cells #[.int .i64 0, .int .i64 0, .int .i64 0, .int .i64 0, .int .i64 0, .int .i64 0, .bool false, .bool false, .int .i64 0, .int .i64 0, .int .i64 0, .int .i64 0, .int .i64 0, .slice none 0 0] 28)).alloc (.cells #[.int .i64 0] 32) = W at hok hM hE ⊢
  go_upto_region 5 with (first | (go_at_call 34; (with_reducible refine (KO.out _).mono ?_); rintro e w3 ⟨RA, rc, rfl, hrow, hb3⟩) | (go_at_call 33; (with_reducible refine (wireMust _ _).mono ?_); rintro e w1 ⟨rfl, rfl⟩))
  have hMl := hM.lt
  have hEl := hE.lt
  have hs1 := (HNW.out W).size
  have hs3 := hb3.size
  obtain ⟨c, hRd, hcr, hcw⟩ := rd_new hrow 68 (d := w.heap.size) (by omega) (by omega)
  have hM3 := ((hM.next (HNW.out W)).next hb3).alloc (.cells #[.slice RA q.length rc] 68)
  have hE3 := ((hE.next (HNW.out W)).next hb3).alloc (.cells #[.slice RA q.length rc] 68)
  have hok3 := ((hok.trans (HNW.out W)).trans hb3).alloc (.cells #[.slice RA q.length rc] 68)
  have KM := Lib.hid (wireMessageB w3.heap.size c q _ hRd HLT.out hcr hcw HYP)
  clear hRd
  go_wp2_with ((go_at_call 35; (with_reducible refine KM.out.mono ?_); rintro e w4 ⟨rfl, hBut⟩))
  exact decode_caught s w _ 4 w.heap.size (w.heap.size + 1) _ _ _ _ _ _ _ _ _ _ _ _ _ _ (.int .i64 0) _ rfl rfl (hBut.own hM3 (by omega)) (hBut.own hE3 (by omega)) (by omega) (Nat.le_refl _) (by omega) ⟨hBut.os.trans hok3.below.os, hBut.tape.trans hok3.below.tape, hBut.output.trans hok3.below.output, Nat.le_trans hok3.size hBut.size, fun k hk => (hBut.block k (Nat.lt_of_lt_of_le hk hok3.size) (by omega)).trans (hok3.below.block k hk)⟩
end Go.Proofs.Ytacnoakbcilmfaa
