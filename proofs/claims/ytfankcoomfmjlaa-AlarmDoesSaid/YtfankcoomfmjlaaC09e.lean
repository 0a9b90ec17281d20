/- Contracts of layer 9: slices.Delete of a row of one's own. -/
import Derived.Test.YtfankcoomfmjlaaC09c
import Derived.Deep.RegionLaw
namespace Go.Proofs.Ytfankcoomfmjlaa
open Go.RowKit
set_option maxRecDepth 100000
theorem tmInfo : (Try.prog.info? 50).map (fun i => (i.zero, i.size, i.bytes)) = some (some (.agg #[.int .i64 0, .int .i64 0]), 2, 16) := by kernel_rfl
theorem tmInfo2 : (Try.prog.info? 50).map (fun i => (i.zero, i.size)) = some (some (.agg #[.int .i64 0, .int .i64 0]), 2) := by kernel_rfl
theorem tms_take (L : List Tm) (k : Nat) : (L.flatMap tmcells).take (k * 2) = (L.take k).flatMap tmcells := by
  induction L generalizing k with
  | nil => simp
  | cons x L ih =>
    cases k with
    | zero => simp
    | succ k =>
      rw [List.take_succ_cons, List.flatMap_cons, List.flatMap_cons, show (k + 1) * 2 = 2 + k * 2 by omega, show (2 : Nat) = (tmcells x).length from rfl, List.take_length_add_append]
      rw [show (tmcells x).length = 2 from rfl, ih]
theorem tms_drop (L : List Tm) (k : Nat) : (L.flatMap tmcells).drop (k * 2) = (L.drop k).flatMap tmcells := by
  induction L generalizing k with
  | nil => simp
  | cons x L ih =>
    cases k with
    | zero => simp
    | succ k =>
      rw [List.drop_succ_cons, List.flatMap_cons, show (k + 1) * 2 = 2 + k * 2 by omega, show (2 : Nat) = (tmcells x).length from rfl, List.drop_length_add_append]
      rw [show (tmcells x).length = 2 from rfl, ih]
/-- The row's first elements are a row, too. -/
theorem row_prefix {w : World} {B b : Nat} {e : TypeId} {n c : Nat} {L : List Tm} (h : w.ownsRow B e 2 (.slice (some ⟨b, 0, none⟩) n c) n (L.flatMap tmcells)) {i : Nat} (hi : i ≤ n) : w.ownsRow B e 2 (.slice (some ⟨b, 0, none⟩) i c) i ((L.take i).flatMap tmcells) := by
  obtain ⟨cs, hO, hB, hl, hn, hc, hs, hv⟩ := own_of_row h
  rw [tms_length] at hl
  refine row_of_own hO hB (by rw [tms_length, List.length_take]; omega) (by omega) hc hs fun j u hj => ?_
  rw [← tms_take, List.getElem?_take] at hj
  split at hj
  · exact hv j u hj
  · cases hj
/-- What Delete leaves. -/
def DelEnd (b c n : Nat) (M : List Tm) (w : World) (e : Ending) (w' : World) : Prop :=
  e = .returned (.slice (some ⟨b, 0, none⟩) n c) ∧ w.grownBy w' (some b) ∧ w'.ownsRow 0 50 2 (.slice (some ⟨b, 0, none⟩) n c) n (M.flatMap tmcells)
theorem tms_clear (n : Nat) : ∀ v ∈ (Builtin.zeroCells (Value.agg #[.int .i64 0, .int .i64 0]).cells n).toList, v.oneCell' = true := by
  intro v hv
  simp [Builtin.zeroCells] at hv
  obtain ⟨k, hk, rfl⟩ := hv
  rcases Nat.mod_two_eq_zero_or_one k with h | h <;> simp [Value.cells, h] <;> rfl
/-- The run of append(s[:i], s[j:]...). -/
theorem run_delete {w : World} {b c i j n : Nat} {L : List Tm} (hR : w.ownsRow 0 50 2 (.slice (some ⟨b, 0, none⟩) n c) n (L.flatMap tmcells)) (hn : L.length = n) (hij : i < j) (hj : j ≤ n) (ty : TypeId) (a : Addr) (ha : n - j = 0 ∨ a = ⟨b, j * 2, none⟩) (cc : Nat) :
    ∃ w1, (Builtin.append_ #[45, 45] ty #[.slice (some ⟨b, 0, none⟩) i c, .slice (some a) (n - j) cc]).run Try.prog w = .ok (.slice (some ⟨b, 0, none⟩) (i + (n - j)) c) w1 ∧
      w1.ownsRow 0 50 2 (.slice (some ⟨b, 0, none⟩) (i + (n - j)) c) (i + (n - j)) ((L.take i ++ L.drop j).flatMap tmcells) ∧ w.grownBy w1 (some b) := by
  obtain ⟨i0, h1, h2, h3, h4⟩ := info_parts tmInfo
  obtain ⟨cs, hO, -, -, hnc, -⟩ := own_of_row hR
  have h := run_append_fits (P := Try.prog) w 0 45 ty 50 i0 2 Try.underlying45 h1 h3 b i c _ (row_prefix hR (by omega)) a (n - j) cc ((L.drop j).flatMap tmcells) (by rw [tms_length, List.length_drop, hn]) (fun k u hk => ?_) (tms_one _) (by omega)
  · obtain ⟨w1, h5, h6, h7⟩ := h
    exact ⟨w1, h5, by rw [List.flatMap_append]; exact h6, h7⟩
  · rcases ha with h | rfl
    · have : k < ((L.drop j).flatMap tmcells).length := (List.getElem?_eq_some_iff.1 hk).1
      rw [tms_length, List.length_drop] at this
      omega
    · rw [Go.WideShapes.add_plain]
      rw [← tms_drop, List.getElem?_drop] at hk
      have := hR.cells (g := b) rfl (j * 2 + k) u hk
      rwa [Go.WideShapes.add_plain, Nat.zero_add] at this
/-- .. and of clear(s[len(s):oldlen]) behind it. -/
theorem run_clear_tail {w : World} {b c m n : Nat} {L : List Tm} (hR : w.ownsRow 0 50 2 (.slice (some ⟨b, 0, none⟩) m c) m (L.flatMap tmcells)) (hm : m < n) (hn : n ≤ c) (ty : TypeId) :
    ∃ w1, (Builtin.clear_ #[45] ty #[.slice (some ⟨b, m * 2, none⟩) (n - m) (c - m)]).run Try.prog w = .ok (.tuple #[]) w1 ∧
      w1.ownsRow 0 50 2 (.slice (some ⟨b, 0, none⟩) m c) m (L.flatMap tmcells) ∧ w.grownBy w1 (some b) := by
  obtain ⟨cs, hO, hB, hl, hnc, hc, hs, hv⟩ := own_of_row hR
  have h := run_clearO (P := Try.prog) hO 45 ty (m * 2) (n - m) (c - m) (.agg #[.int .i64 0, .int .i64 0]) 2 Try.underlying45 tmInfo2 rfl (by omega) (by omega) (tms_clear _)
  refine ⟨_, h, ?_, grown_setCells _ _ _ _⟩
  refine row_of_own (hO.setCells _ _) hB hl hnc hc (by rw [layAt_size]; exact hs) fun k u hk => ?_
  have : k < (L.flatMap tmcells).length := (List.getElem?_eq_some_iff.1 hk).1
  rw [layAt_out _ _ _ _ (by omega)]
  exact hv k u hk
set_option maxHeartbeats 1600000 in
theorem slicesDelete (b c i j : Nat) (L : List Tm) (w : World) (hR : w.ownsRow 0 50 2 (.slice (some ⟨b, 0, none⟩) L.length c) L.length (L.flatMap tmcells)) (hij : i < j) (hj : j ≤ L.length) (hlen : L.length ≤ 1000000) :
    Calls Try.prog 22 #[.slice (some ⟨b, 0, none⟩) L.length c, .int .i64 i, .int .i64 j] w (DelEnd b c (i + (L.length - j)) (L.take i ++ L.drop j) w) := by
  obtain ⟨cs, hO, -, -, hn, hc, hs, hv⟩ := own_of_row hR
  have hc63 : c ≤ 9223372036854775807 := by unfold maxLen at hc; omega
  obtain ⟨n, hnn⟩ : ∃ n, L.length = n := ⟨_, rfl⟩
  rw [hnn] at hn hj hlen hR ⊢
  have HRun := fun a ha cc => run_delete (w := w.drew) hR.drew hnn hij hj 45 a ha cc
  obtain ⟨m, hm⟩ : ∃ m, i + (n - j) = m := ⟨_, rfl⟩
  rw [hm] at HRun ⊢
  obtain ⟨q, hq⟩ : ∃ q, n - j = q := ⟨_, rfl⟩
  rw [hq] at HRun
  generalize L.take i ++ L.drop j = M at HRun ⊢
  have HQ := Lib.hid (And.intro hm hq)
  clear hnn hR hO hv hc hs hm
  have h0 : i ≤ c := by omega
  have h1 : (i : Int) ≤ (c : Int) := by omega
  have h2 : (j : Int) ≤ (n : Int) := by omega
  have h3 : ((i : Int) == (j : Int)) = false := by rw [beq_eq_false_iff_ne]; omega
  have ht : w.grownBy w.drew (some b) := grown_drew w _
  have hmn : m < n := by have := HQ.out; omega
  have hmc : ¬ c = m := by omega
  by_cases hcj : c = j
  · subst hcj
    have h4 : i ≤ c := by omega
    obtain ⟨w1, hr, hO1, hg1⟩ := HRun ⟨b, 0, none⟩ (.inl (by have := HQ.out; omega)) 0
    obtain ⟨w2, hr2, hO2, hg2⟩ := run_clear_tail hO1 hmn hn 0
    have HX := Lib.hid (And.intro (grown_trans (grown_trans ht hg1) hg2) hO2)
    clear hO1 hg1 ht HRun hO2 hg2
    go_enter Try.func22, Try.ntmps22
    go_wp2_with fail
    go_region_law (refine step_append_known rfl (.tmp 22) (.tmp 25) 45 rfl (.slice (some ⟨b, 0, none⟩) i c) (.slice (some ⟨b, 0, none⟩) q 0) (by simp [Act.eval, Act.put]) (by simp [Act.eval, Act.put]) hr ?_)
    go_wp2_with fail
    go_ret
    exact ⟨rfl, HX.out⟩
  · obtain ⟨w1, hr, hO1, hg1⟩ := HRun ⟨b, j * 2, none⟩ (.inr rfl) (c - j)
    obtain ⟨w2, hr2, hO2, hg2⟩ := run_clear_tail hO1 hmn hn 0
    have HX := Lib.hid (And.intro (grown_trans (grown_trans ht hg1) hg2) hO2)
    clear hO1 hg1 ht HRun hO2 hg2
    go_enter Try.func22, Try.ntmps22
    go_wp2_with fail
    go_region_law (refine step_append_known rfl (.tmp 22) (.tmp 25) 45 rfl (.slice (some ⟨b, 0, none⟩) i c) (.slice (some ⟨b, j * 2, none⟩) q (c - j)) (by simp [Act.eval, Act.put]) (by simp [Act.eval, Act.put]) hr ?_)
    go_wp2_with fail
    go_ret
    exact ⟨rfl, HX.out⟩
end Go.Proofs.Ytfankcoomfmjlaa
