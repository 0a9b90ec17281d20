/- Words of my own: one struct more at the end of a row of one's own, and where the row then lies; room made in a new row. -/
import Derived.Test.YtfankcoomfmjlaaW25
import Derived.Deep.AppendSrc
import Derived.Lib.AppendZerosOnto
import Derived.Lib.Overlaps
namespace Go.Proofs.Ytfankcoomfmjlaa
open Go.RowKit Go.WideShapes Go.ChangeShapes Go.Joins Go.Deep
/-- The row lies where it lay, or in a new block. -/
def Near (w : World) (A A' : Option Addr) : Prop := ∀ a, A' = some a → A = some a ∨ (a.off = 0 ∧ a.spot = none ∧ w.heap.size ≤ a.block)
section
variable {P : Program}
theorem first_row {w : World} {B : Nat} {e : TypeId} {k n c : Nat} {A : Option Addr} {xs : List Value} (h : w.ownsRow B e k (.slice A n c) n xs) : (Builtin.firstCells k n (.slice A n c)).run P w = .ok xs.toArray w := by
  rcases h.2 with ⟨h1, h2⟩ | ⟨g, cap, cur, h1, hb, hh, r⟩
  · cases h1
    have : xs = [] := List.length_eq_zero_iff.1 (by rw [h.1]; simp)
    subst this
    exact run_firstCells_none w k 0 0 0
  · cases h1
    exact run_firstCells_some w k n ⟨g, 0, none⟩ n c xs (by rw [h.1]) (h.cells (g := g) rfl)
/-- append of one struct that lies in a block of its own. -/
theorem run_append_one {w : World} {t e : TypeId} {z : Value} {k bytes : Nat} (ht : P.underlying t = some (.slice e)) (hi : (P.info? e).map (fun i => (i.zero, i.size, i.bytes)) = some (some z, k, bytes)) (hz : z.cells.size = k) (_hk : 0 < k) (hby : bytes ≤ 100000)
    {B : Nat} (hB : B ≤ w.heap.size) {A : Option Addr} {n c : Nat} {xs : List Value} (hR : w.ownsRow B e k (.slice A n c) n xs) {vb : Nat} {ys : Array Value} (hV : Own w vb ys) (hy : ys.size = k) (h1 : ∀ u ∈ ys.toList, u.oneCell' = true) (hlen : n ≤ 1000000) (ty : TypeId) :
    ∃ A' c' w1, (Builtin.append_ #[t, t] ty #[.slice A n c, .slice (some ⟨vb, 0, none⟩) 1 1]).run P w = .ok (.slice A' (n + 1) c') w1 ∧
      w1.ownsRow B e k (.slice A' (n + 1) c') (n + 1) (xs ++ ys.toList) ∧ w.grownBy w1 (Value.slice A n c).ownBlock ∧ Near w A A' := by
  obtain ⟨i0, i1, i2, i3, i4⟩ := info_parts hi
  have hys : ∀ j u, ys.toList[j]? = some u → w.cell? ((⟨vb, 0, none⟩ : Addr).add j) = some u := fun j u hj => by
    rw [Go.WideShapes.add_plain, Nat.zero_add]
    exact hV.cell j (by rwa [Array.getElem?_toList] at hj)
  have hyl : ys.toList.length = 1 * k := by rw [Array.length_toList, hy, Nat.one_mul]
  by_cases hroom : n + 1 ≤ c
  · obtain ⟨h0, ⟨h2, _⟩ | ⟨g, cap, cur, h2, h3⟩⟩ := hR
    · cases h2; omega
    · cases h2
      obtain ⟨w1, a1, a2, a3⟩ := run_append_fits (P := P) w B t ty e i0 k ht i1 i3 g n c xs ⟨h0, .inr ⟨g, c, cur, rfl, h3⟩⟩ ⟨vb, 0, none⟩ 1 1 ys.toList hyl hys h1 hroom
      exact ⟨_, _, w1, a1, a2, a3, fun a ha => .inl ha⟩
  · have hnc : n ≤ c ∧ c ≤ maxLen := by
      obtain ⟨A0, c0, e0, p, q, _⟩ := row_form hR
      cases e0
      exact ⟨p, q⟩
    have hsrc : Src P i0.size t (.slice (some ⟨vb, 0, none⟩) 1 1) 1 ys.toList w := Src.ofSlice w ht _ 1 1 _ (by rw [i3]; exact hyl) hys h1
    have hold : (Builtin.firstCells i0.size n (.slice A n c)).run P w.drew = .ok xs.toArray w.drew := by rw [i3]; exact first_row hR.drew
    have hfit : Builtin.nextslicecap (n + 1) c * i0.bytes ≤ 281474976710656 := by
      refine growslice_fits (by omega) ?_
      rw [i4]
      exact Nat.le_trans (Nat.mul_le_mul (show n + 1 ≤ 1000001 by omega) hby) (by decide)
    have hrun := run_append_grow_src w t t ty e i0 z ht i1 i2 A n c xs hold _ 1 ys.toList hsrc (by omega) (by omega) hfit
    obtain ⟨G, hG⟩ : ∃ G, grownCap w (n + 1) c e = G := ⟨_, rfl⟩
    have hG1 : n + 1 ≤ G := by rw [← hG]; exact grownCap_ge w _ _ _
    have hG2 : G ≤ maxLen := by rw [← hG]; exact grownCap_le_maxLen w _ _ _ (by unfold maxLen; omega)
    rw [hG] at hrun
    have hxl := hR.1
    refine ⟨_, _, _, hrun, ?_, grown_trans (grown_drew w _) (grown_alloc w.drew _ _), fun a ha => .inr ?_⟩
    · have hsz : ((xs ++ ys.toList).toArray ++ Builtin.zeroCells z.cells (G - (n + 1))).size = G * k := by
        rw [Array.size_append, List.size_toArray, List.length_append, size_zeroCells, hxl, hyl, hz, ← Nat.add_mul, ← Nat.add_mul]
        congr 1
        omega
      refine row_of_own (OwnT.new w.drew _ e rfl) hB (by rw [List.length_append, hxl, hyl, ← Nat.add_mul]) hG1 hG2 hsz fun j u hj => ?_
      have hjl : j < (xs ++ ys.toList).length := (List.getElem?_eq_some_iff.1 hj).1
      rw [Array.getElem?_append_left (by simpa using hjl), List.getElem?_toArray]
      exact hj
    · cases ha
      exact ⟨rfl, rfl, Nat.le_refl _⟩
/-- append(s[:i], make([]T, n + 1 - i)...) where there is no room: a new row that begins as s does. -/
theorem run_append_make {w : World} {t tn e : TypeId} {z : Value} {k bytes : Nat} (ht : P.underlying t = some (.slice e)) (htn : P.underlying tn = some (.int .i64)) (hi : (P.info? e).map (fun i => (i.zero, i.size, i.bytes)) = some (some z, k, bytes)) (hz : z.cells.size = k) (hk : 0 < k) (hby : bytes ≤ 100000)
    {b i c m : Nat} {xs : List Value} (hR : w.ownsRow 0 e k (.slice (some ⟨b, 0, none⟩) i c) i xs) (hg : c < m) (him : i < m) (hlen : m ≤ 1000001) (ty : TypeId) :
    ∃ c' w1 cs, (Builtin.append_ #[t, tn] ty #[.slice (some ⟨b, 0, none⟩) i c, .int .i64 ((m - i : Nat) : Int)]).run P w = .ok (.slice (some ⟨w.heap.size, 0, none⟩) m c') w1 ∧
      OwnT w1 w.heap.size e cs ∧ cs.size = c' * k ∧ m ≤ c' ∧ c' ≤ maxLen ∧ (∀ (j : Nat) (u : Value), xs[j]? = some u → cs[j]? = some u) ∧ Ok w w1 := by
  obtain ⟨i0, i1, i2, i3, i4⟩ := info_parts hi
  have him2 : i + (m - i) = m := by omega
  have hfit : Builtin.nextslicecap m c * i0.bytes ≤ 281474976710656 := by
    refine growslice_fits hg ?_
    rw [i4]
    exact Nat.le_trans (Nat.mul_le_mul hlen hby) (by decide)
  have h := Lib.run_append_grow_zeros w t tn ty e i0 z .i64 .i64 ht htn i1 i2 (some ⟨b, 0, none⟩) i c xs (by rw [i3]; exact first_row hR.drew) (m - i) (by omega) (by omega) (by omega) (by omega)
    (by rw [i4]; exact Nat.le_trans (Nat.mul_le_mul (show m - i ≤ 1000001 by omega) hby) (by decide)) (by rw [him2]; exact hfit)
  rw [him2] at h
  obtain ⟨G, hG⟩ : ∃ G, grownCap w m c e = G := ⟨_, rfl⟩
  have hG1 : m ≤ G := by rw [← hG]; exact grownCap_ge w _ _ _
  have hG2 : G ≤ maxLen := by rw [← hG]; exact grownCap_le_maxLen w _ _ _ (by unfold maxLen; omega)
  rw [hG] at h
  refine ⟨_, _, _, h, OwnT.new w.drew _ e rfl, ?_, hG1, hG2, fun j u hj => ?_, ((Ok.refl w).drew).alloc _⟩
  · rw [Array.size_append, Array.size_append, List.size_toArray, size_zeroCells, size_zeroCells, hR.1, hz, ← Nat.add_mul, ← Nat.add_mul]
    congr 1
    omega
  · have hjl : j < xs.length := (List.getElem?_eq_some_iff.1 hj).1
    rw [Array.append_assoc, Array.getElem?_append_left (by simpa using hjl), List.getElem?_toArray]
    exact hj
/-- copy of m structs into a block of one's own. -/
theorem run_copyM {w : World} {g : Nat} {e : TypeId} {cur : Array Value} (h : OwnT w g e cur) (t ty : TypeId) (o dLen dCap : Nat) (a : Addr) (sLen sCap k m : Nat) (cs : List Value)
    (hu : P.underlying t = some (.slice e)) (hs : (P.info? e).map (·.size) = some k) (hm : min sLen dLen = m) (hn : cs.length = m * k) (hfit : o + cs.length ≤ cur.size)
    (hsrc : ∀ j v, cs[j]? = some v → w.cell? (a.add j) = some v) (h1 : ∀ v ∈ cs, v.oneCell' = true) :
    (Builtin.copy_ #[t, t] ty #[.slice (some ⟨g, o, none⟩) dLen dCap, .slice (some a) sLen sCap]).run P w = .ok (goInt m) (w.setCells g o cs) := by
  subst hm
  exact run_copyO h t ty o dLen dCap a sLen sCap k cs hu hs hn hfit hsrc h1
/-- Two blocks of one's own don't overlap. -/
theorem overlaps_no {f : FuncId} {fn : Func} {tS tR e : TypeId} (hf : P.funcs[f]? = some fn) (hname : (fn.name == "runtime.NumGoroutine") = false) (hb : fn.body.isNone = true) (hn : Extern.findNext fn = none) (he : Extern.find fn = some (Extern.SlicesOverlaps.overlaps #[tS, tS] #[tR]))
    (ht : P.underlying tS = some (.slice e)) {k : Nat} (hi : (P.info? e).map (fun i => (i.zero, i.size)) = some (some (.agg #[.int .i64 0, .int .i64 0]), k)) {w : World} {va b : Nat} {ys cs : Array Value} (hV : Own w va ys) (hO : Own w b cs) (hne : va ≠ b) (hcs : cs.size ≠ 0) (o la ca lb cb : Nat) :
    (callFunc f #[.slice (some ⟨va, 0, none⟩) la ca, .slice (some ⟨b, o, none⟩) lb cb]).run P w = .ok (.value (.bool false)) w := by
  obtain ⟨tA, hA⟩ := own_shape hV
  obtain ⟨tB, hB⟩ := own_shape hO
  have hsz : ∀ w, (sizeOf e).run P w = .ok k w := fun w => by
    cases hq : P.info? e with
    | none => simp [hq] at hi
    | some i =>
      have : i.size = k := by simp [hq] at hi; exact hi.2
      simp [sizeOf, typeInfo, hq, this]
  rw [run_callFunc_extern hf hname hb hn he, Lib.run_overlaps_apart w tS tR e ht k hsz ⟨va, 0, none⟩ ⟨b, o, none⟩ la ca lb cb hne tA tB ys.size cs.size hA hB hcs (hV.frozen 0) (hV.frozen ys.size)]
  rfl
end
end Go.Proofs.Ytfankcoomfmjlaa
