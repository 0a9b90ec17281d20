/- Contracts of layer 8: the document's Lanes: Pop. -/
import Derived.Test.YtnjlamnpiafpdaaC08g
import Derived.Deep.RegionHeld3
import Derived.Deep.RegionLaw
import Derived.Deep.DrawnRows
namespace Go.Proofs.Ytnjlamnpiafpdaa
open Go.RowKit
set_option maxRecDepth 100000
attribute [local go_sem ↓] Go.wp_at_zero Go.wp_at_succ
theorem drop_found (w : Int) : ∀ (L : List It) (k : Nat) (h : k < L.length), Lane.row (L.take k) w = [] → L[k].who = w → Lane.drop w L = L.take k ++ L.drop (k + 1) ∧ Lane.row L w = (L[k].text, L[k].age) :: Lane.row (L.drop (k + 1)) w
  | [], _, h, _, _ => absurd h (Nat.not_lt_zero _)
  | x :: L, 0, _, _, e => by
    simp only [List.getElem_cons_zero] at e
    refine ⟨?_, ?_⟩
    · unfold Lane.drop; rw [if_pos e]; rfl
    · rw [Lane.row_cons, if_pos e]; rfl
  | x :: L, k + 1, h, h0, e => by
    simp only [List.getElem_cons_succ] at e
    rw [List.take_succ_cons, Lane.row_cons] at h0
    by_cases hx : x.who = w
    · rw [if_pos hx] at h0; cases h0
    · rw [if_neg hx] at h0
      obtain ⟨h1, h2⟩ := drop_found w L k (by simpa using h) h0 e
      refine ⟨?_, ?_⟩
      · unfold Lane.drop; rw [if_neg hx, h1]; rfl
      · rw [Lane.row_cons, if_neg hx, h2]; rfl
theorem drop_none (w : Int) : ∀ L : List It, Lane.row L w = [] → Lane.drop w L = L
  | [], _ => rfl
  | x :: L, h => by
    rw [Lane.row_cons] at h
    by_cases hx : x.who = w
    · rw [if_pos hx] at h; cases h
    · rw [if_neg hx] at h
      unfold Lane.drop
      rw [if_neg hx, drop_none w L h]
theorem flatMap_take {α : Type} (f : α → List Value) (n : Nat) (hf : ∀ x, (f x).length = n) : ∀ (l : List α) (k : Nat), (l.flatMap f).take (k * n) = (l.take k).flatMap f
  | [], k => by simp
  | x :: l, 0 => by simp
  | x :: l, k + 1 => by
    rw [List.take_succ_cons, List.flatMap_cons, List.flatMap_cons, Nat.add_mul, Nat.one_mul, Nat.add_comm (k * n) n, ← hf x, List.take_length_add_append, hf x, flatMap_take f n hf l k]
theorem flatMap_drop {α : Type} (f : α → List Value) (n : Nat) (hf : ∀ x, (f x).length = n) : ∀ (l : List α) (k : Nat), (l.flatMap f).drop (k * n) = (l.drop k).flatMap f
  | [], k => by simp
  | x :: l, 0 => by simp
  | x :: l, k + 1 => by
    rw [List.drop_succ_cons, List.flatMap_cons, Nat.add_mul, Nat.one_mul, Nat.add_comm (k * n) n, ← hf x, List.drop_length_add_append, hf x, flatMap_drop f n hf l k]
/-- What Pop leaves, and what it answers. -/
def PopEnd (g r : Nat) (L : List It) (who : Int) (w : World) (e : Ending) (w' : World) : Prop :=
  Only r w w' ∧ RefAt w' g r (Lane.drop who L) ∧ ((Lane.row L who = [] ∧ e = .returned (.tuple #[.agg #[.int .i64 0, .string ⟨#[]⟩, .int .i64 0], .bool false])) ∨ ∃ x t, Lane.row L who = x :: t ∧ e = .returned (.tuple #[.agg #[.int .i64 who, .string x.1, .int .i64 x.2], .bool true]))
theorem popEnd_none {g r : Nat} {L : List It} {who : Int} {w w' : World} (hok : Ok w w') (hR : RefAt w g r L) (h : Lane.row L who = []) : PopEnd g r L who w (.returned (.tuple #[.agg #[.int .i64 0, .string ⟨#[]⟩, .int .i64 0], .bool false])) w' :=
  ⟨Only.of_ok hok, by rw [drop_none who L h]; exact hR.next hok, .inl ⟨h, rfl⟩⟩
theorem itemInfo : (Try.prog.info? 40).map (fun i => (i.zero, i.size, i.bytes)) = some (some (.agg #[.int .i64 0, .string ⟨#[]⟩, .int .i64 0]), 3, 32) := by kernel_rfl
theorem hdr_alloc {w : World} {r : Nat} {v : Value} (h : w.cell? ⟨r, 0, none⟩ = some v ∧ r < w.heap.size) (o : Obj) : (w.alloc o).cell? ⟨r, 0, none⟩ = some v ∧ r < (w.alloc o).heap.size := ⟨((below_alloc w o).cell (p := ⟨r, 0, none⟩) h.2).trans h.1, Nat.lt_of_lt_of_le h.2 (below_alloc w o).size⟩
theorem hdr_drew {w : World} {r : Nat} {v : Value} (h : w.cell? ⟨r, 0, none⟩ = some v ∧ r < w.heap.size) : w.drew.cell? ⟨r, 0, none⟩ = some v ∧ r < w.drew.heap.size := h
theorem hdr_grown {w w' : World} {r : Nat} {v : Value} {row : Option Nat} (h : w.cell? ⟨r, 0, none⟩ = some v ∧ r < w.heap.size) (hg : w.grownBy w' row) (hne : some r ≠ row) : w'.cell? ⟨r, 0, none⟩ = some v ∧ r < w'.heap.size := ⟨hg.cell h.1 hne, Nat.lt_of_lt_of_le h.2 hg.size⟩
theorem own_ge {w : World} {B : Nat} {e : TypeId} {k n : Nat} {v : Value} {xs : List Value} (h : w.ownsRow B e k v n xs) : ∀ j, v.ownBlock = some j → B ≤ j := fun j hj => (h.lt j hj).1
theorem own_far {w : World} {B : Nat} {e : TypeId} {k n : Nat} {v : Value} {xs : List Value} (h : w.ownsRow B e k v n xs) {p : Addr} (hp : v.ownBlock ≠ some p.block) (u : Value) : (w.setCell p u).ownsRow B e k v n xs :=
  h.kept (w' := w.setCell p u) (row := some p.block) ⟨rfl, rfl, rfl, by simp, fun i _ hi => Below.heap_setCell w p u i (fun e => hi (by rw [e]))⟩ (.inr hp)
theorem own_base {w : World} {B : Nat} {e : TypeId} {k n : Nat} {v : Value} {xs : List Value} (h : w.ownsRow B e k v n xs) : w.ownsRow 0 e k v n xs := by
  rcases h with ⟨h1, h2 | ⟨g, cap, cur, h3, h4, h5⟩⟩
  · exact ⟨h1, .inl h2⟩
  · exact ⟨h1, .inr ⟨g, cap, cur, h3, Nat.zero_le _, h5⟩⟩
theorem popEnd_some {g r : Nat} {L : List It} {who : Int} {xs : ByteArray} {xa : Int} {w W W2 : World} {k : Nat} (hk : k < L.length) (hx : L[k] = ⟨who, xs, xa⟩) (h0 : Lane.row (L.take k) who = []) (hok : Ok w W2) (hwW : w.heap.size < W.heap.size) (hr : r < w.heap.size) (hg : g < w.heap.size)
    {c0 : Value} (hO : Own W2 r #[c0]) {A2 : Option Addr} {c2 : Nat} (hR : W2.ownsRow W.heap.size 40 3 (.slice A2 (k + (L.length - (k + 1))) c2) (k + (L.length - (k + 1))) ((L.take k).flatMap itcells ++ (L.drop (k + 1)).flatMap itcells)) {a b c : Value} :
    PopEnd g r L who w (.returned (.tuple #[.agg #[.int .i64 who, .string xs, .int .i64 xa], .bool true])) ((((W2.setCell ⟨r, 0, none⟩ (.slice A2 (k + (L.length - (k + 1))) c2)).setCell ⟨w.heap.size, 0, none⟩ a).setCell ⟨w.heap.size, 1, none⟩ b).setCell ⟨w.heap.size, 2, none⟩ c) := by
  have hd := drop_found who L k hk h0 (by rw [hx])
  have hge := own_ge hR
  have f1 : (Value.slice A2 (k + (L.length - (k + 1))) c2).ownBlock ≠ some r := fun e => by have := hge _ e; omega
  have f2 : (Value.slice A2 (k + (L.length - (k + 1))) c2).ownBlock ≠ some w.heap.size := fun e => by have := hge _ e; omega
  have hlen : (Lane.drop who L).length = k + (L.length - (k + 1)) := by rw [hd.1, List.length_append, List.length_take, List.length_drop]; omega
  refine ⟨?_, ⟨A2, c2, ?_, ?_, fun a ha => ?_⟩, .inr ⟨(xs, xa), _, by rw [hd.2, hx], rfl⟩⟩
  · refine Only.setN (Only.setN (Only.setN (Only.setR (Only.of_ok hok) _ _) (Nat.le_refl _) _ _) (Nat.le_refl _) _ _) (Nat.le_refl _) _ _
  · rw [hlen]
    exact (((hO.set 0 _).setOther (by simp; omega) _).setOther (by simp; omega) _).setOther (by simp; omega) _
  · rw [hlen, hd.1, List.flatMap_append]
    exact own_far (own_far (own_far (own_far (own_base hR) f1 _) f2 _) f2 _) f2 _
  · subst ha
    have := hge a.block rfl
    omega
theorem popEnd_last {g r : Nat} {L : List It} {who : Int} {xs : ByteArray} {xa : Int} {w W W2 : World} {k : Nat} (hk : k < L.length) (hl : L.length = k + 1) (hx : L[k] = ⟨who, xs, xa⟩) (h0 : Lane.row (L.take k) who = []) (hok : Ok w W2) (hwW : w.heap.size < W.heap.size) (hr : r < w.heap.size) (hg : g < w.heap.size)
    {c0 : Value} (hO : Own W2 r #[c0]) {A2 : Option Addr} {c2 : Nat} (hR : W2.ownsRow W.heap.size 40 3 (.slice A2 k c2) k ((L.take k).flatMap itcells)) {a b c : Value} :
    PopEnd g r L who w (.returned (.tuple #[.agg #[.int .i64 who, .string xs, .int .i64 xa], .bool true])) ((((W2.setCell ⟨r, 0, none⟩ (.slice A2 k c2)).setCell ⟨w.heap.size, 0, none⟩ a).setCell ⟨w.heap.size, 1, none⟩ b).setCell ⟨w.heap.size, 2, none⟩ c) := by
  have e : k + (L.length - (k + 1)) = k := by omega
  have e2 : L.drop (k + 1) = [] := List.drop_of_length_le (by omega)
  have h := popEnd_some (A2 := A2) (c2 := c2) (a := a) (b := b) (c := c) hk hx h0 hok hwW hr hg hO (by rw [e, e2]; simpa using hR)
  rwa [e] at h
theorem ok_grown {w w1 w2 : World} {row : Option Nat} (h : Ok w w1) (hg : w1.grownBy w2 row) (hr : ∀ k, row = some k → w.heap.size ≤ k) : Ok w w2 := Below.grown h hg h.size hr
theorem own_ne {w : World} {B r : Nat} {e : TypeId} {k n : Nat} {v : Value} {xs : List Value} (h : w.ownsRow B e k v n xs) (hr : r < B) : some r ≠ v.ownBlock := fun e => by have := (h.lt r e.symm).1; omega
set_option maxHeartbeats 1600000 in
theorem refPop (g r : Nat) (L : List It) (who : Int) (w : World) (hR : RefAt w g r L) (hlen : L.length ≤ 500000) (hgl : g < w.heap.size) (_hgr : g ≠ r) :
    Calls Try.prog 13 #[.pointer (some ⟨r, 0, none⟩), .int .i64 who] w (PopEnd g r L who w) := by
  have hrl := hR.lt
  have HR := Lib.hid hR
  obtain ⟨A, cap, hO, hC, hcap, hm, -⟩ := hR.opened
  have hO1 := hO.alloc (.cells #[.int .i64 0, .string ⟨#[]⟩, .int .i64 0] 40)
  have c0 := hO1.cell 0 rfl
  have HC := Lib.hid hC
  have HO := Lib.hid hO
  have hok := (Ok.refl w).alloc (.cells #[.int .i64 0, .string ⟨#[]⟩, .int .i64 0] 40)
  have hZ := Own.new w #[.int .i64 0, .string ⟨#[]⟩, .int .i64 0] 40 rfl
  clear hO hO1 hC hR
  go_enter Try.func13, Try.ntmps13
  go_wp2_with fail
  go_loopw [13] (fun i wr => ∃ k : Nat, k ≤ L.length ∧ i = .int .i64 k ∧ Hid (Lane.row (L.take k) who = []) ∧ Ok w wr ∧ Own wr w.heap.size #[.int .i64 0, .string ⟨#[]⟩, .int .i64 0]) (fun i _ => L.length - (intOf i).toNat)
  case atStart => exact ⟨0, Nat.zero_le _, rfl, Lib.hid rfl, hok, hZ⟩
  case round =>
    obtain ⟨k, hk, rfl, hrow, hok1, hZ1⟩ := hrel
    clear hok c0 hZ
    by_cases hlt : k < L.length
    · obtain ⟨b, off, hA, hb, hc⟩ := (HC.out.below hok1).at itcells_length (by decide) k hlt
      subst hA
      obtain ⟨x, hx⟩ : ∃ x, L[k] = x := ⟨_, rfl⟩
      rw [hx] at hc
      have c0 := hc 0 _ rfl
      have c1 := hc 1 _ rfl
      have c2 := hc 2 _ rfl
      rw [Nat.add_zero] at c0
      obtain ⟨xw, xs, xa⟩ := x
      simp only at c0 c1 c2
      have HX := Lib.hid hx
      clear hc hx
      by_cases he : xw = who
      · subst he
        have hO2 := (HO.out.next hok1).alloc (.cells #[.int .i64 xw, .string xs, .int .i64 xa] 40)
        have hX2 := Own.new wr #[.int .i64 xw, .string xs, .int .i64 xa] 40 rfl
        have hok2 := hok1.alloc (.cells #[.int .i64 xw, .string xs, .int .i64 xa] 40)
        have hZ2 := hZ1.alloc (.cells #[.int .i64 xw, .string xs, .int .i64 xa] 40)
        have HT1 : Hid (CellsAt (wr.alloc (.cells #[.int .i64 xw, .string xs, .int .i64 xa] 40)) (some ⟨b, off, none⟩) ((L.take k).flatMap itcells)) := Lib.hid (by
          have h := (((HC.out.below hok1).alloc (.cells #[.int .i64 xw, .string xs, .int .i64 xa] 40)).take (k * 3))
          rwa [flatMap_take itcells 3 itcells_length] at h)
        have HT2 : Hid (CellsAt (wr.alloc (.cells #[.int .i64 xw, .string xs, .int .i64 xa] 40)) (some ⟨b, off + (k + 1) * 3, none⟩) ((L.drop (k + 1)).flatMap itcells)) := Lib.hid (by
          have h := (((HC.out.below hok1).alloc (.cells #[.int .i64 xw, .string xs, .int .i64 xa] 40)).drop ((k + 1) * 3))
          rwa [flatMap_drop itcells 3 itcells_length] at h)
        go_wp2_with fail
        have hwW : w.heap.size < (wr.alloc (.cells #[.int .i64 xw, .string xs, .int .i64 xa] 40)).heap.size := by have := hZ2.lt; omega
        have hzl := hZ1.lt
        generalize wr.alloc (.cells #[.int .i64 xw, .string xs, .int .i64 xa] 40) = W at hwW hO2 hX2 hok2 hZ2 HT1 HT2 ⊢
        have w0 := hO2.cell 0 rfl
        have w1 := hO2.frozen 0
        have w2 := hO2.lt
        have i1 : (0 : Int) ≤ (k : Int) := by omega
        have i2 : (k : Int) ≤ (cap : Int) := by omega
        have i3 : IntKind.i64.wrap ((k : Int) + 1) = (k : Int) + 1 := IntWalk.i64_in _ ⟨by omega, by omega⟩
        have i4 : (0 : Int) ≤ (k : Int) + 1 := by omega
        have i5 : (k : Int) + 1 ≤ (L.length : Int) := by omega
        have HW := Lib.hid (And.intro hO2 (And.intro hX2 (And.intro hok2 (And.intro hZ2 hrow))))
        clear hO2 hX2 hok2 hZ2 hrow hok1 hZ1 c0 c1 c2 hb
        have n1 : r ≠ wr.heap.size := by omega
        have n2 : r ≠ w.heap.size := by omega
        have n3 : wr.heap.size ≠ w.heap.size := by omega
        by_cases hc1 : cap = k + 1
        · have HL : Hid (L.length = k + 1) := Lib.hid (by omega)
          obtain rfl : cap = k + 1 := hc1
          have i6 : ((k : Int) + 1).toNat = k + 1 := by omega
          have i7 : (k : Int) ≤ (k : Int) + 1 := by omega
          have OW : Hid (((W.alloc (.cells #[] 40)).drew).ownsRow W.heap.size 40 3 (.slice (some ⟨W.heap.size, 0, none⟩) 0 0) 0 []) := Lib.hid (World.ownsRow.drew (World.ownsRow_made W #[] 0 (Nat.le_refl _) (by decide) rfl))
          have OK1 : Hid (Ok W (W.alloc (.cells #[] 40)).drew) := Lib.hid ((Ok.refl W).alloc _).drew
          have hne : some r ≠ some W.heap.size := by simp; omega
          have hnr : ∀ j, some W.heap.size = some j → W.heap.size ≤ j := fun j hj => by cases hj; exact Nat.le_refl _
          go_region_law
            (first
              | (refine step_append_cells rfl (.tmp 23) (.tmp 29) 28 rfl W.heap.size 40 Try.underlying28 _ 3 32 (by decide) (by decide) rfl itemInfo _ 0 [] rfl OW.out _ k _ _ (by rw [flatMap_length itcells 3 itcells_length, List.length_take, Nat.min_eq_left (Nat.le_of_lt hlt)]) rfl (HT1.out.below OK1.out) (its_one _) (by omega) OK1.out.size ?_; intro A1 c1 W1 hr1 hg1; simp only [Nat.zero_add, List.nil_append] at hr1; have OK2 := Lib.hid (ok_grown OK1.out hg1 hnr); have HR1 := Lib.hid hr1; clear hr1 hg1; have O2 := HW.out.1.next OK2.out; have e0 := O2.cell 0 rfl)
              | (refine step_append_cells rfl (.tmp 30) (.tmp 37) 28 rfl W.heap.size 40 Try.underlying28 _ 3 32 (by decide) (by decide) rfl itemInfo _ k _ rfl HR1.out _ 0 _ [] rfl rfl (CellsAt.empty _ _) (by simp) (by omega) OK2.out.size ?_; intro A2 c2 W2 hr2 hg2; simp only [Nat.add_zero, List.append_nil] at hr2; have OK3 := Lib.hid (ok_grown OK2.out hg2 (own_ge HR1.out)); have HR2 := Lib.hid hr2; clear hr2 hg2; have O3 := HW.out.1.next OK3.out; have d0 := O3.cell 0 rfl; have d1 := O3.frozen 0; have X3 := HW.out.2.1.next OK3.out; have x0 := X3.cell 0 rfl; have x1 := X3.cell 1 rfl; have x2 := X3.cell 2 rfl; have Z3 := HW.out.2.2.2.1.next OK3.out; have z0 := Z3.cell 0 rfl; have z1 := Z3.cell 1 rfl; have z2 := Z3.cell 2 rfl; have y0 := Z3.frozen 0; have y1 := Z3.frozen 1; have y2 := Z3.frozen 2))
          all_goals
            go_wp2_with fail
            refine bodyPost_ret (v := .tuple #[.agg #[.int .i64 xw, .string xs, .int .i64 xa], .bool true]) (by simp [results, Try.results13, go_sem, z0, z1, z2]) rfl ?_
            exact popEnd_last hlt HL.out HX.out HW.out.2.2.2.2.out (HW.out.2.2.1.trans OK3.out) hwW hrl hgl O3 HR2.out
        · have OW : Hid (((W.alloc (.cells #[] 40)).drew).ownsRow W.heap.size 40 3 (.slice (some ⟨W.heap.size, 0, none⟩) 0 0) 0 []) := Lib.hid (World.ownsRow.drew (World.ownsRow_made W #[] 0 (Nat.le_refl _) (by decide) rfl))
          have OK1 : Hid (Ok W (W.alloc (.cells #[] 40)).drew) := Lib.hid ((Ok.refl W).alloc _).drew
          have hne : some r ≠ some W.heap.size := by simp; omega
          have hnr : ∀ j, some W.heap.size = some j → W.heap.size ≤ j := fun j hj => by cases hj; exact Nat.le_refl _
          go_region_law
            (first
              | (refine step_append_cells rfl (.tmp 23) (.tmp 29) 28 rfl W.heap.size 40 Try.underlying28 _ 3 32 (by decide) (by decide) rfl itemInfo _ 0 [] rfl OW.out _ k _ _ (by rw [flatMap_length itcells 3 itcells_length, List.length_take, Nat.min_eq_left (Nat.le_of_lt hlt)]) rfl (HT1.out.below OK1.out) (its_one _) (by omega) OK1.out.size ?_; intro A1 c1 W1 hr1 hg1; simp only [Nat.zero_add, List.nil_append] at hr1; have OK2 := Lib.hid (ok_grown OK1.out hg1 hnr); have HR1 := Lib.hid hr1; clear hr1 hg1; have O2 := HW.out.1.next OK2.out; have e0 := O2.cell 0 rfl)
              | (refine step_append_cells rfl (.tmp 30) (.tmp 37) 28 rfl W.heap.size 40 Try.underlying28 _ 3 32 (by decide) (by decide) rfl itemInfo _ k _ rfl HR1.out _ (L.length - (k + 1)) _ _ (by rw [flatMap_length itcells 3 itcells_length, List.length_drop]) rfl (HT2.out.below OK2.out) (its_one _) (by omega) OK2.out.size ?_; intro A2 c2 W2 hr2 hg2; have OK3 := Lib.hid (ok_grown OK2.out hg2 (own_ge HR1.out)); have HR2 := Lib.hid hr2; clear hr2 hg2; have O3 := HW.out.1.next OK3.out; have d0 := O3.cell 0 rfl; have d1 := O3.frozen 0; have X3 := HW.out.2.1.next OK3.out; have x0 := X3.cell 0 rfl; have x1 := X3.cell 1 rfl; have x2 := X3.cell 2 rfl; have Z3 := HW.out.2.2.2.1.next OK3.out; have z0 := Z3.cell 0 rfl; have z1 := Z3.cell 1 rfl; have z2 := Z3.cell 2 rfl; have y0 := Z3.frozen 0; have y1 := Z3.frozen 1; have y2 := Z3.frozen 2))
          all_goals
            go_wp2_with fail
            refine bodyPost_ret (v := .tuple #[.agg #[.int .i64 xw, .string xs, .int .i64 xa], .bool true]) (by simp [results, Try.results13, go_sem, z0, z1, z2]) rfl ?_
            exact popEnd_some hlt HX.out HW.out.2.2.2.2.out (HW.out.2.2.1.trans OK3.out) hwW hrl hgl O3 HR2.out
      · have HE := Lib.hid he
        have hd : (xw == who) = false := by rw [beq_eq_false_iff_ne]; exact he
        clear he
        have HN : Hid (Lane.row (L.take (k + 1)) who = []) := Lib.hid (by rw [take_more hlt, Lane.row_append, hrow.out, Lane.row_cons, HX.out, if_neg HE.out]; rfl)
        clear hrow
        go_wp2_with fail
        go_roundw
        case rel => exact ⟨k + 1, by omega, by go_num, HN, hok1.alloc _, hZ1.alloc _⟩
        case measure => simp [intOf]; omega
    · have HE : Hid (Lane.row L who = []) := Lib.hid (by have := hrow.out; rwa [List.take_of_length_le (by omega)] at this)
      have z0 := hZ1.cell 0 rfl
      have z1 := hZ1.cell 1 rfl
      have z2 := hZ1.cell 2 rfl
      have y0 := hZ1.frozen 0
      have y1 := hZ1.frozen 1
      have y2 := hZ1.frozen 2
      clear hrow
      go_wp2_with fail
      refine bodyPost_ret (v := .tuple #[.agg #[.int .i64 0, .string ⟨#[]⟩, .int .i64 0], .bool false]) (by simp [results, Try.results13, go_sem, z0, z1, z2]) rfl (popEnd_none ?_ HR.out HE.out)
      exact ((hok1.setCell (Nat.le_refl _) _).setCell (Nat.le_refl _) _).setCell (Nat.le_refl _) _
end Go.Proofs.Ytnjlamnpiafpdaa
