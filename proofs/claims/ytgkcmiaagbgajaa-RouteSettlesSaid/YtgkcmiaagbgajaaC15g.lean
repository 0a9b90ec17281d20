/- Contracts of layer 15: rows of cells in a block of one's own; the document's Shortest. -/
import Derived.Test.YtgkcmiaagbgajaaW19
import Derived.Test.YtgkcmiaagbgajaaW22
import Derived.Test.YtgkcmiaagbgajaaW09
import Derived.Test.YtgkcmiaagbgajaaM31
import Derived.Deep.QuietTactic
import Derived.BigQuiet
import Derived.Deep.CutRange
import Derived.Deep.DrawnRows
namespace Go.Proofs.Ytgkcmiaagbgajaa
open Go.RowKit Go.WideShapes Go.ChangeShapes
set_option maxRecDepth 100000
attribute [local go_sem ↓] Go.wp_at_zero Go.wp_at_succ
/-- A block of one's own of n cells. -/
def RowOf (W : World) (g n : Nat) (φ : Nat → Value) : Prop := ∃ cs : Array Value, Own W g cs ∧ cs.size = n ∧ ∀ j, j < n → cs[j]? = some (φ j)
namespace RowOf
variable {w W W1 : World} {g n : Nat} {φ : Nat → Value}
theorem next (h : RowOf W g n φ) (k : Ok W W1) : RowOf W1 g n φ := by
  obtain ⟨cs, h1, h2, h3⟩ := h
  exact ⟨cs, h1.next k, h2, h3⟩
theorem lt (h : RowOf W g n φ) : g < W.heap.size := by
  obtain ⟨cs, h1, h2, h3⟩ := h
  exact h1.lt
theorem cell (h : RowOf W g n φ) {j : Nat} (hj : j < n) : W.cell? ⟨g, j, none⟩ = some (φ j) := by
  obtain ⟨cs, h1, h2, h3⟩ := h
  exact h1.cell j (h3 j hj)
theorem frozen (h : RowOf W g n φ) (j : Nat) : W.frozen? ⟨g, j, none⟩ = false := by
  obtain ⟨cs, h1, h2, h3⟩ := h
  exact h1.frozen j
theorem set (h : RowOf W g n φ) {i : Nat} (hi : i < n) (v : Value) {ψ : Nat → Value} (he : ∀ j, j < n → ψ j = if j = i then v else φ j) : RowOf (W.setCell ⟨g, i, none⟩ v) g n ψ := by
  obtain ⟨cs, h1, h2, h3⟩ := h
  refine ⟨_, h1.set i v, by simpa using h2, fun j hj => ?_⟩
  rw [set_at _ _ _ _ (by omega), he j hj]
  by_cases q : i = j
  · subst q; simp
  · rw [if_neg q, if_neg (fun e => q e.symm)]; exact h3 j hj
theorem only (h : RowOf W g n φ) {r : Nat} (k : Only r W W1) (hr : g ≠ r) : RowOf W1 g n φ := by
  obtain ⟨cs, h1, h2, h3⟩ := h
  exact ⟨cs, k.own h1 hr, h2, h3⟩
theorem mono (h : RowOf W g n φ) {ψ : Nat → Value} (he : ∀ j, j < n → ψ j = φ j) : RowOf W g n ψ := by
  obtain ⟨cs, h1, h2, h3⟩ := h
  exact ⟨cs, h1, h2, fun j hj => by rw [h3 j hj, he j hj]⟩
theorem new (w : World) (t : TypeId) (n : Nat) (z : Value) {g : Nat} (hg : g = w.heap.size) : RowOf (w.alloc (.cells (Array.replicate n z) t)) g n (fun _ => z) :=
  ⟨_, Own.new w _ t hg, by simp, fun j hj => by simp [hj]⟩
end RowOf
/-- .. of integers. -/
abbrev OutAt (W : World) (g n : Nat) (o : Nat → Int) : Prop := RowOf W g n fun j => .int .i64 (o j)
theorem RowOf.ints {W : World} {g n : Nat} {o : Nat → Int} (h : OutAt W g n o) : IntsAt W (some ⟨g, 0, none⟩) ((List.range n).map o) := fun k hk => by
  have hkn : k < n := by simpa using hk
  refine ⟨g, 0, rfl, h.lt, ?_⟩
  rw [Nat.zero_add, h.cell hkn]
  simp
/-- make, of n cells. -/
theorem run_make_cells {P : Program} {t e : TypeId} {z : Value} {bytes : Nat} (ht : P.underlying t = some (.slice e)) (hi : (P.info? e).map (fun i => (i.zero, i.size, i.bytes)) = some (some z, 1, bytes)) (hz : z.cells = #[z]) (hb : bytes ≤ 100) (n : Nat) (hn : n ≤ 1000) (w : World) :
    (Instr.makeSlice t (.int .i64 (n : Int)) (.int .i64 (n : Int))).run P w = .ok (.slice (some ⟨w.heap.size, 0, none⟩) n n) (w.alloc (.cells (Array.replicate n z) e)) := by
  obtain ⟨i, h1, h2, h3, h4⟩ := info_parts hi
  have hm : n * bytes ≤ 1000 * 100 := Nat.mul_le_mul hn hb
  have := run_make (P := P) w t e i z ht h1 h2 .i64 .i64 (n : Int) (n : Int) (by omega) (Int.le_refl _) (by rw [h4, Int.mul_comm, ← Int.natCast_mul]; omega) (by omega)
  rw [Int.toNat_natCast, h3, Nat.mul_one] at this
  rw [this, show (madeCells z.cells n) = Array.replicate n z from ?_]
  apply Array.ext'
  rw [hz, toList_madeCells_one, Array.toList_replicate]
theorem infoInt15 : (Try.prog.info? 3).map (fun i => (i.zero, i.size, i.bytes)) = some (some (.int .i64 0), 1, 8) := by kernel_rfl
/-- Whom each of n nodes hears. -/
def HearsAt (W : World) (hb n : Nat) (f : Nat → Nat → Bool) : Prop := hb < W.heap.size ∧ ∀ i, i < n → ∃ r, W.cell? ⟨hb, i, none⟩ = some (.slice (some ⟨r, 0, none⟩) n n) ∧ r < W.heap.size ∧ ∀ k, k < n → W.cell? ⟨r, k, none⟩ = some (.bool (f i k))
theorem HearsAt.below {W W1 : World} {hb n : Nat} {f : Nat → Nat → Bool} (h : HearsAt W hb n f) (k : Ok W W1) : HearsAt W1 hb n f :=
  ⟨Nat.lt_of_lt_of_le h.1 k.size, fun i hi => by
    obtain ⟨r, h1, h2, h3⟩ := h.2 i hi
    exact ⟨r, (k.cell (p := ⟨hb, i, none⟩) h.1).trans h1, Nat.lt_of_lt_of_le h2 k.size, fun j hj => (k.cell (p := ⟨r, j, none⟩) h2).trans (h3 j hj)⟩⟩
/-- Who hears the core. -/
def coreOf (cl : List Bool) (i : Nat) : Bool := cl.getD i false
theorem coreOf_at {W : World} {C : Option Addr} {cl : List Bool} (h : BoolsAt W C cl) {i : Nat} (hi : i < cl.length) : ∃ b off, C = some ⟨b, off, none⟩ ∧ b < W.heap.size ∧ W.cell? ⟨b, off + i, none⟩ = some (.bool (coreOf cl i)) := by
  obtain ⟨b, off, e, hl, hc⟩ := h i hi
  refine ⟨b, off, e, hl, ?_⟩
  rw [hc]
  unfold coreOf
  rw [List.getD_eq_getElem?_getD, List.getElem?_eq_getElem hi]
  rfl
set_option maxHeartbeats 6400000 in
theorem ref15Shortest (C : Option Addr) (cl : List Bool) (cc n hb : Nat) (f : Nat → Nat → Bool) (w : World) (hC : BoolsAt w C cl) (hn : cl.length = n) (hn12 : n ≤ 12) (hH : HearsAt w hb n f) :
    Calls Try.prog 18 #[.slice C n cc, .slice (some ⟨hb, 0, none⟩) n n] w fun e w' => ∃ (g : Nat) (o : Nat → Int), e = .returned (.slice (some ⟨g, 0, none⟩) n n) ∧ (∀ i, i < n → Route.Lev n (coreOf cl) f n i (o i)) ∧ OutAt w' g n o ∧ Ok w w' := by
  have hmk : ∀ W : World, Sem.run Try.prog (Instr.makeSlice 24 (.int .i64 (n : Int)) (.int .i64 (n : Int))) W = .ok (.slice (some ⟨W.heap.size, 0, none⟩) n n) (W.alloc (.cells (Array.replicate n (.int .i64 0)) 3)) := fun W =>
    run_make_cells Try.underlying24 infoInt15 rfl (by decide) n (by omega) W
  have HC : Hid (∀ W', Ok w W' → ∀ i, i < n → ∃ b off, C = some ⟨b, off, none⟩ ∧ b < W'.heap.size ∧ W'.cell? ⟨b, off + i, none⟩ = some (.bool (coreOf cl i))) := Lib.hid fun W' k i hi => coreOf_at (hC.below k) (by omega)
  have HH := Lib.hid fun W' (k : Ok w W') => hH.below k
  generalize coreOf cl = core at HC ⊢
  clear hC hH hn
  go_enter Try.func18, Try.ntmps18
  go_upto_region 2 with (fail)
  have hO : OutAt (w.alloc (.cells (Array.replicate n (.int .i64 0)) 3)) w.heap.size n (fun _ => 0) := RowOf.new w _ n _ rfl
  have hok := (Ok.refl w).alloc (.cells (Array.replicate n (.int .i64 0)) 3)
  generalize w.alloc (.cells (Array.replicate n (.int .i64 0)) 3) = W at hO hok ⊢
  obtain ⟨g, hg⟩ : ∃ g, w.heap.size = g := ⟨_, rfl⟩
  have HG := Lib.hid (Nat.le_of_eq hg)
  rw [hg] at hO ⊢
  clear hg hmk
  go_wp2
  go_loopw [15] (fun i wr => ∃ m : Nat, m ≤ n ∧ i = .int .i64 m ∧ (∃ o, OutAt wr g n o ∧ ∀ j, j < m → Route.Lev n core f 0 j (o j)) ∧ Ok w wr) (fun i _ => n - (intOf i).toNat)
  case atStart => exact ⟨0, Nat.zero_le _, rfl, ⟨_, hO, fun j hj => absurd hj (Nat.not_lt_zero j)⟩, hok⟩
  case round =>
    clear hO hok
    obtain ⟨m, hm, rfl, ⟨o, hO, hL⟩, hok⟩ := hrel
    have HL := Lib.hid hL
    clear hL
    by_cases hlt : m < n
    · obtain ⟨b, off, hCe, hbl, hc⟩ := HC.out wr hok m hlt
      subst hCe
      have hbg : b ≠ g := by
        obtain ⟨b', off', e, hb', _⟩ := HC.out w (Ok.refl w) m hlt
        cases e
        have := HG.out
        omega
      have o0 := hO.cell hlt
      have f0 := hO.frozen m
      have hgl := hO.lt
      have hO1 : OutAt (wr.setCell ⟨g, m, none⟩ (.int .i64 (-1))) g n (fun j => if j = m then -1 else o j) := hO.set hlt _ (fun j _ => by by_cases q : j = m <;> simp [q])
      have hc1 : (wr.setCell ⟨g, m, none⟩ (.int .i64 (-1))).cell? ⟨b, off + m, none⟩ = some (.bool (core m)) := ((Only.refl g wr).setR m _).cell (p := ⟨b, off + m, none⟩) hbl hbg |>.trans hc
      have hok1 := hok.setCell (p := ⟨g, m, none⟩) HG.out (.int .i64 (-1))
      have HO := Lib.hid hO
      clear hO hc
      have hmn : ¬ (n : Int) ≤ (m : Int) := by omega
      go_upto_region 6 with (fail)
      clear o0 f0 hgl hbl
      generalize wr.setCell ⟨g, m, none⟩ (.int .i64 (-1)) = W1 at hO1 hc1 hok1 ⊢
      have hbl := cell_lt hc1
      have o1 := hO1.cell hlt
      have f1 := hO1.frozen m
      have hgl := hO1.lt
      have HO1 := Lib.hid hO1
      have HK := Lib.hid hok1
      clear hO1 hok1
      cases hcm : core m
      · rw [hcm] at hc1
        have HLN : Hid (∀ j, j < m + 1 → Route.Lev n core f 0 j (if j = m then -1 else o j)) := Lib.hid fun j hj => by
          by_cases q : j = m
          · subst q; rw [if_pos rfl]; exact Route.Lev.start (by rw [hcm]; rfl)
          · rw [if_neg q]; exact HL.out j (by omega)
        clear hcm
        go_wp2_with fail
        go_roundw
        case rel => exact ⟨m + 1, by omega, by go_num, ⟨_, HO1.out, HLN.out⟩, HK.out⟩
        case measure => simp [intOf]; omega
      · rw [hcm] at hc1
        have HLN : Hid (∀ j, j < m + 1 → Route.Lev n core f 0 j (if j = m then 0 else o j)) := Lib.hid fun j hj => by
          by_cases q : j = m
          · subst q; rw [if_pos rfl]; exact Route.Lev.start (by rw [hcm]; rfl)
          · rw [if_neg q]; exact HL.out j (by omega)
        have HO2 : Hid (OutAt (W1.setCell ⟨g, m, none⟩ (.int .i64 0)) g n (fun j => if j = m then 0 else o j)) := Lib.hid (HO1.out.set hlt _ (fun j _ => by by_cases q : j = m <;> simp [q]))
        have HK2 := Lib.hid (HK.out.setCell (p := ⟨g, m, none⟩) HG.out (.int .i64 0))
        clear hcm
        go_wp2_with fail
        go_roundw
        case rel => exact ⟨m + 1, by omega, by go_num, ⟨_, HO2.out, HLN.out⟩, HK2.out⟩
        case measure => simp [intOf]; omega
    · obtain rfl : n = m := by omega
      clear hlt hm
      go_wp2
      go_loopw [7] (fun i wr => ∃ m : Nat, m ≤ n ∧ i = .int .i64 m ∧ (∃ o, OutAt wr g n o ∧ ∀ j, j < n → Route.Lev n core f m j (o j)) ∧ Ok w wr) (fun i _ => n - (intOf i).toNat)
      case atStart => exact ⟨0, Nat.zero_le _, rfl, ⟨o, hO, HL.out⟩, hok⟩
      case round =>
        obtain ⟨m, hm, rfl, ⟨o, hO, hL⟩, hok⟩ := hrel
        have HL0 := Lib.hid hL
        clear hL HL
        by_cases hlt : m < n
        · go_wp2
          go_loopw [37] (fun i wr => ∃ i' : Nat, i' ≤ n ∧ i = .int .i64 i' ∧ (∃ o, OutAt wr g n o ∧ ∀ j, j < n → (j < i' → Route.Lev n core f (m + 1) j (o j)) ∧ (i' ≤ j → Route.Lev n core f m j (o j))) ∧ Ok w wr) (fun i _ => n - (intOf i).toNat)
          case atStart => exact ⟨0, Nat.zero_le _, rfl, ⟨o, hO, fun j hj => ⟨fun h => absurd h (Nat.not_lt_zero j), fun _ => HL0.out j hj⟩⟩, hok⟩
          case round =>
            clear hO hok HL0
            obtain ⟨i', hi', rfl, ⟨o, hO, hL⟩, hok⟩ := hrel
            have HL1 := Lib.hid hL
            clear hL
            by_cases hlt2 : i' < n
            · go_wp2
              go_loopw [42] (fun i wr => ∃ k : Nat, k ≤ n ∧ i = .int .i64 k ∧ (∃ o, OutAt wr g n o ∧ ∀ j, j < n → (j < i' → Route.Lev n core f (m + 1) j (o j)) ∧ (i' < j → Route.Lev n core f m j (o j)) ∧ (j = i' → Route.Mid n core f m k j (o j))) ∧ Ok w wr) (fun i _ => n - (intOf i).toNat)
              case atStart => exact ⟨0, Nat.zero_le _, rfl, ⟨o, hO, fun j hj => ⟨(HL1.out j hj).1, fun h => (HL1.out j hj).2 (Nat.le_of_lt h), fun h => ((HL1.out j hj).2 (Nat.le_of_eq h.symm)).mid⟩⟩, hok⟩
              case round =>
                clear hO hok HL1
                obtain ⟨k, hk, rfl, ⟨o, hO, hL⟩, hok⟩ := hrel
                have HL2 := Lib.hid hL
                clear hL
                by_cases hlt3 : k < n
                · obtain ⟨r, h1, h2, h3⟩ := (HH.out wr hok).2 i' hlt2
                  have hhl := (HH.out wr hok).1
                  have h4 := h3 k hlt3
                  have o1 := hO.cell hlt2
                  have o2 := hO.cell hlt3
                  have f1 := hO.frozen i'
                  have hgl := hO.lt
                  have HO := Lib.hid hO
                  have HK := Lib.hid hok
                  have hni : ¬ (n : Int) ≤ (i' : Int) := by omega
                  have hnk : ¬ (n : Int) ≤ (k : Int) := by omega
                  clear hO hok h3
                  have hM := (HL2.out i' hlt2).2.2 rfl
                  have hbd := hM.bd
                  have HIS : Hid (o k = (m : Int) ↔ Route.Sh n core f m k) := Lib.hid (by
                    rcases Nat.lt_trichotomy k i' with q | q | q
                    · exact ((HL2.out k hlt3).1 q).is_more
                    · exact ((HL2.out k hlt3).2.2 q).is
                    · exact ((HL2.out k hlt3).2.1 q).is)
                  have HP : Hid ((0 ≤ o i' ∨ o k ≠ (m : Int) ∨ f i' k = false) → ∀ j, j < n → (j < i' → Route.Lev n core f (m + 1) j (o j)) ∧ (i' < j → Route.Lev n core f m j (o j)) ∧ (j = i' → Route.Mid n core f m (k + 1) j (o j))) := Lib.hid fun h j hj => ⟨(HL2.out j hj).1, (HL2.out j hj).2.1, fun e => by
                    subst e
                    refine ((HL2.out j hj).2.2 rfl).pass ?_
                    rcases h with h | h | h
                    · exact .inl h
                    · exact .inr (.inl fun g => h (HIS.out.2 g))
                    · exact .inr (.inr h)⟩
                  have HT : Hid (o i' < 0 → o k = (m : Int) → f i' k = true → ∀ j, j < n → (j < i' → Route.Lev n core f (m + 1) j (if j = i' then ((m + 1 : Nat) : Int) else o j)) ∧ (i' < j → Route.Lev n core f m j (if j = i' then ((m + 1 : Nat) : Int) else o j)) ∧ (j = i' → Route.Mid n core f m (k + 1) j (if j = i' then ((m + 1 : Nat) : Int) else o j))) := Lib.hid fun g1 g2 g3 j hj => by
                    by_cases q : j = i'
                    · subst q
                      refine ⟨fun e => by omega, fun e => by omega, fun _ => ?_⟩
                      rw [if_pos rfl]
                      exact ((HL2.out j hj).2.2 rfl).take g1 hlt3 (HIS.out.1 g2) g3
                    · rw [if_neg q]
                      exact ⟨(HL2.out j hj).1, (HL2.out j hj).2.1, fun e => absurd e q⟩
                  clear HIS HL2 hM
                  obtain ⟨x, hx⟩ : ∃ x, o i' = x := ⟨_, rfl⟩
                  obtain ⟨y, hy⟩ : ∃ y, o k = y := ⟨_, rfl⟩
                  obtain ⟨z, hz⟩ : ∃ z, f i' k = z := ⟨_, rfl⟩
                  rw [hx] at o1 hbd HP HT
                  rw [hy] at o2 HP HT
                  rw [hz] at h4 HP HT
                  clear hx hy hz
                  by_cases c1 : x < 0
                  · by_cases c2 : y = (m : Int)
                    · have c2b : (y == (m : Int)) = true := by rw [c2]; simp
                      cases z
                      · have HR := Lib.hid (HP.out (.inr (.inr rfl)))
                        clear HP HT c2
                        go_wp2_with fail
                        go_roundw
                        case rel => exact ⟨k + 1, by omega, by go_num, ⟨_, HO.out, HR.out⟩, HK.out⟩
                        case measure => simp [intOf]; omega
                      · have HR := Lib.hid (HT.out c1 c2 rfl)
                        have HO2 : Hid (OutAt (wr.setCell ⟨g, i', none⟩ (.int .i64 (m + 1))) g n (fun j => if j = i' then ((m + 1 : Nat) : Int) else o j)) := Lib.hid (HO.out.set hlt2 _ (fun j _ => by by_cases q : j = i' <;> simp [q]))
                        have HK2 := Lib.hid (HK.out.setCell (p := ⟨g, i', none⟩) HG.out (.int .i64 (m + 1)))
                        clear HP HT c2
                        go_wp2_with fail
                        go_roundw
                        case rel => exact ⟨k + 1, by omega, by go_num, ⟨_, HO2.out, HR.out⟩, HK2.out⟩
                        case measure => simp [intOf]; omega
                    · have c2b : (y == (m : Int)) = false := by rw [beq_eq_false_iff_ne]; exact c2
                      have HR := Lib.hid (HP.out (.inr (.inl c2)))
                      clear HP HT c2
                      go_wp2_with fail
                      go_roundw
                      case rel => exact ⟨k + 1, by omega, by go_num, ⟨_, HO.out, HR.out⟩, HK.out⟩
                      case measure => simp [intOf]; omega
                  · have HR := Lib.hid (HP.out (.inl (by omega)))
                    clear HP HT
                    go_wp2_with fail
                    go_roundw
                    case rel => exact ⟨k + 1, by omega, by go_num, ⟨_, HO.out, HR.out⟩, HK.out⟩
                    case measure => simp [intOf]; omega
                · have HR : Hid (∀ j, j < n → (j < i' + 1 → Route.Lev n core f (m + 1) j (o j)) ∧ (i' + 1 ≤ j → Route.Lev n core f m j (o j))) := Lib.hid fun j hj => ⟨fun h => by
                      by_cases q : j = i'
                      · have := (HL2.out j hj).2.2 q
                        rw [show k = n by omega] at this
                        exact this.lev
                      · exact (HL2.out j hj).1 (by omega), fun h => (HL2.out j hj).2.1 (by omega)⟩
                  have HO := Lib.hid hO
                  have HK := Lib.hid hok
                  clear hO hok HL2
                  go_wp2_with fail
                  go_roundw
                  case rel => first | exact ⟨i' + 1, by omega, by go_num, ⟨_, HO.out, HR.out⟩, HK.out⟩ | exact ⟨_, _, _, _, ⟨i' + 1, by omega, by go_num, ⟨_, HO.out, HR.out⟩, HK.out⟩, rfl, rfl, rfl, rfl⟩
                  case measure => simp [intOf]; omega
            · have HR : Hid (∀ j, j < n → Route.Lev n core f (m + 1) j (o j)) := Lib.hid fun j hj => (HL1.out j hj).1 (by omega)
              have HO := Lib.hid hO
              have HK := Lib.hid hok
              clear hO hok HL1
              go_wp2_with fail
              go_roundw
              case rel => first | exact ⟨m + 1, by omega, by go_num, ⟨_, HO.out, HR.out⟩, HK.out⟩ | exact ⟨_, _, _, _, ⟨m + 1, by omega, by go_num, ⟨_, HO.out, HR.out⟩, HK.out⟩, rfl, rfl, rfl, rfl⟩
              case measure => simp [intOf]; omega
        · have HR : Hid (∀ j, j < n → Route.Lev n core f n j (o j)) := Lib.hid fun j hj => by
            have := HL0.out j hj
            rwa [show m = n by omega] at this
          clear HL0
          go_wp2_with fail
          go_ret
          exact ⟨g, o, rfl, HR.out, hO, hok⟩
end Go.Proofs.Ytgkcmiaagbgajaa
