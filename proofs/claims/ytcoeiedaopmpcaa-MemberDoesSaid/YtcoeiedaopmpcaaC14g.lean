/- Contracts of layer 14: the document's table: more, Count, Numbers, Hear. -/
import Derived.Test.YtcoeiedaopmpcaaC14c
import Derived.Laws.Rows
import Derived.Deep.CutRange
import Derived.Deep.DrawnRows
namespace Go.Proofs.Ytcoeiedaopmpcaa
open Go.RowKit
set_option maxRecDepth 100000
attribute [local go_sem ↓] Go.wp_at_zero Go.wp_at_succ
/-- 48 neighbours, three cells each. -/
structure Cells3 (cs : Array Value) (f : NF) : Prop where
  size : cs.size = 144
  row : ∀ k, k < 48 → cs[k * 3]? = some (.bool (f k).isSome) ∧ cs[k * 3 + 1]? = some (.int .i64 (Mem.age (f k))) ∧ cs[k * 3 + 2]? = some (.int .i64 (Mem.quiet (f k)))
theorem Cells3.turn {cs cs' : Array Value} {f f' : NF} (h : Cells3 cs f) (k : Nat) (hs : cs'.size = cs.size) (ho : ∀ j, j < k * 3 ∨ k * 3 + 3 ≤ j → cs'[j]? = cs[j]?) (hf : ∀ j, j ≠ k → f' j = f j)
    (hk : k < 48 → cs'[k * 3]? = some (.bool (f' k).isSome) ∧ cs'[k * 3 + 1]? = some (.int .i64 (Mem.age (f' k))) ∧ cs'[k * 3 + 2]? = some (.int .i64 (Mem.quiet (f' k)))) : Cells3 cs' f' := by
  refine ⟨hs.trans h.size, fun j hj => ?_⟩
  by_cases e : j = k
  · subst e; exact hk hj
  · rw [hf j e, ho _ (by omega), ho _ (by omega), ho _ (by omega)]
    exact h.row j hj
/-- In block g is the document's table. -/
def RefT (w : World) (g : Nat) (f : NF) : Prop := ∃ cs, Own w g cs ∧ Cells3 cs f
namespace RefT
variable {w w1 : World} {g r : Nat} {f : NF}
theorem next (h : RefT w g f) (k : Ok w w1) : RefT w1 g f := by
  obtain ⟨cs, hO, hC⟩ := h
  exact ⟨cs, hO.next k, hC⟩
theorem only (h : RefT w g f) (k : Only r w w1) (hr : g ≠ r) : RefT w1 g f := by
  obtain ⟨cs, hO, hC⟩ := h
  exact ⟨cs, k.own hO hr, hC⟩
theorem lt (h : RefT w g f) : g < w.heap.size := by
  obtain ⟨cs, hO, _⟩ := h
  exact hO.lt
end RefT
theorem set3_at (cs : Array Value) (k j : Nat) (v : Value) (hk : k < cs.size) : (cs.set! k v)[j]? = if k = j then some v else cs[j]? := set_at cs k j v hk
/-- Three cells are stored. -/
theorem Cells3.put {cs : Array Value} {f : NF} (h : Cells3 cs f) {k : Nat} (hk : k < 48) (o : Option (Int × Int)) :
    Cells3 (((cs.set! (k * 3) (.bool o.isSome)).set! (k * 3 + 1) (.int .i64 (Mem.age o))).set! (k * 3 + 2) (.int .i64 (Mem.quiet o))) (fun j => if j = k then o else f j) := by
  have hs := h.size
  refine h.turn k (by simp) (fun j hj => ?_) (fun j hj => if_neg hj) fun _ => ?_
  · rw [set_else _ _ (by omega), set_else _ _ (by omega), set_else _ _ (by omega)]
  · simp only [if_true]
    refine ⟨?_, ?_, ?_⟩
    · rw [set_else _ _ (by omega), set_else _ _ (by omega), set_same _ _ _ (by omega)]
    · rw [set_else _ _ (by omega), set_same _ _ _ (by simp; omega)]
    · rw [set_same _ _ _ (by simp; omega)]
/-- What is loaded is the row of the cells. -/
theorem refInfo {cs : Array Value} (h : cs.size = 144) : (Try.prog.info? 29).map (·.size) = some cs.size := by rw [h]; kernel_rfl
/-- One of the 48. -/
theorem refIndex {cs : Array Value} {f : NF} (h : Cells3 cs f) {k : Nat} (hk : k < 48) (w : World) :
    (Instr.index 29 (.agg cs) (.int .i64 (k : Int))).run Try.prog w = .ok (.agg #[.bool (f k).isSome, .int .i64 (Mem.age (f k)), .int .i64 (Mem.quiet (f k))]) w := by
  obtain ⟨h0, h1, h2⟩ := h.row k hk
  have hs := h.size
  have e : cs.extract (k * 3) (k * 3 + 3) = #[.bool (f k).isSome, .int .i64 (Mem.age (f k)), .int .i64 (Mem.quiet (f k))] := by
    apply Array.ext_getElem?
    intro i
    rw [Array.getElem?_extract]
    match i with
    | 0 => simp [h0]; omega
    | 1 => simp [h1]; omega
    | 2 => simp [h2]; omega
    | n + 3 => simp; omega
  have e1 : (k : Int) < 48 := by omega
  have u : (underlying 29).run Try.prog w = .ok (.array 48 28) w := by kernel_rfl
  have z : (sizeOf 28).run Try.prog w = .ok 3 w := by kernel_rfl
  have a : (isAgg 28).run Try.prog w = .ok true w := by kernel_rfl
  simp [Instr.index, asIntOf, u, z, a, part, Result.andThen, e]
  intro h48
  omega
theorem refMore (n : Int) (w : World) (hn : 0 ≤ n ∧ n ≤ 1073741824) : Calls Try.prog 20 #[.int .i64 n] w fun e w' => e = .returned (.int .i64 (Mem.up n)) ∧ w = w' := by
  unfold Mem.up
  by_cases h : n < 1073741824
  · rw [if_pos h]
    go_enter Try.func20, Try.ntmps20
    go_wp2
    go_ret
    exact ⟨rfl, rfl⟩
  · rw [if_neg h]
    go_enter Try.func20, Try.ntmps20
    go_wp2
    go_ret
    exact ⟨rfl, rfl⟩
set_option maxHeartbeats 1600000 in
theorem refCount (g : Nat) (f : NF) (w : World) (hT : RefT w g f) :
    Calls Try.prog 18 #[.pointer (some ⟨g, 0, none⟩)] w fun e w' => e = .returned (.int .i64 ((Mem.nums f).length : Nat)) ∧ Ok w w' := by
  obtain ⟨cs, ⟨t, hB⟩, hC⟩ := hT
  have hok := Ok.refl w
  have HI := Lib.hid (refInfo hC.size)
  have HX := Lib.hid fun k hk W => refIndex hC (k := k) hk W
  obtain ⟨N, hN⟩ : ∃ N, (Mem.nums f).length = N := ⟨_, rfl⟩
  rw [hN]
  rw [← Mem.numsTo_all] at hN
  have HN := Lib.hid hN
  clear hC hN
  go_enter Try.func18, Try.ntmps18
  go_wp2_with (with_reducible refine wpList_load_row rfl 29 (.tmp 8) rfl g rfl t cs (0, 0) _ hB Try.underlying29 rfl HI.out ?_)
  go_loopw [3, 10] (fun v i wr => ∃ k : Nat, k ≤ 48 ∧ i = .int .i64 k ∧ v = .int .i64 ((Mem.numsTo f k).length : Nat) ∧ Ok w wr) (fun _ i _ => 48 - (intOf i).toNat)
  case atStart => exact ⟨0, by omega, rfl, rfl, hok⟩
  case round =>
    obtain ⟨k, hk, rfl, rfl, hok1⟩ := hrel
    clear hok
    by_cases hlt : k < 48
    · have hx := HX.out k hlt
      have hle := Mem.numsTo_le f k
      have h1 := Mem.numsTo_some (f := f) (k := k)
      have h2 := Mem.numsTo_none (f := f) (k := k)
      generalize (f k).isSome = s at hx h1 h2
      generalize Mem.age (f k) = a at hx
      generalize Mem.quiet (f k) = q at hx
      obtain ⟨n, hn⟩ : ∃ n, (Mem.numsTo f k).length = n := ⟨_, rfl⟩
      rw [hn] at hle ⊢
      cases s with
      | true =>
        have H1 : Hid ((Mem.numsTo f (k + 1)).length = n + 1) := Lib.hid (by rw [h1 rfl, List.length_append, hn]; rfl)
        clear h1 h2 hn
        go_wp2
        go_roundw
        case rel => exact ⟨k + 1, by omega, by go_num, by rw [H1.out]; go_num, hok1.alloc _⟩
        case measure => simp [intOf]; omega
      | false =>
        have H1 : Hid ((Mem.numsTo f (k + 1)).length = n) := Lib.hid (by rw [h2 rfl, hn])
        clear h1 h2 hn
        go_wp2
        go_roundw
        case rel => exact ⟨k + 1, by omega, by go_num, by rw [H1.out], hok1.alloc _⟩
        case measure => simp [intOf]; omega
    · obtain rfl : k = 48 := by omega
      rw [HN.out]
      go_wp2
      go_ret
      exact ⟨rfl, hok1⟩
set_option maxHeartbeats 1600000 in
theorem refNumbers (g : Nat) (f : NF) (w : World) (hT : RefT w g f) :
    Calls Try.prog 16 #[.pointer (some ⟨g, 0, none⟩)] w (NearEnd (Mem.nums f) w) := by
  obtain ⟨cs, ⟨t, hB⟩, hC⟩ := hT
  have hok := Ok.refl w
  have HI := Lib.hid (refInfo hC.size)
  have HX := Lib.hid fun k hk W => refIndex hC (k := k) hk W
  have HE : Hid (∀ (W : World) (v : Value), Ok w W → RowN w.heap.size W v (Mem.nums f) → NearEnd (Mem.nums f) w (.returned v) W) := Lib.hid fun W v h hr => by
    have hl := hr.lt
    obtain ⟨A, c, rfl, hI, hA⟩ := hr.ends
    exact ⟨A, c, rfl, hI, fun a ha => ⟨hA a ha, by subst ha; exact (hl a.block rfl).2⟩, h⟩
  generalize NearEnd (Mem.nums f) w = Q at HE ⊢
  clear hC
  go_enter Try.func16, Try.ntmps16
  go_wp2_with (with_reducible refine wpList_load_row rfl 29 (.tmp 8) rfl g rfl t cs (0, 0) _ hB Try.underlying29 rfl HI.out ?_)
  go_loopw [3, 10] (fun v i wr => ∃ k : Nat, k ≤ 48 ∧ i = .int .i64 k ∧ Hid (RowN w.heap.size wr v (Mem.numsTo f k) ∧ Ok w wr)) (fun _ i _ => 48 - (intOf i).toNat)
  case atStart => exact ⟨0, by omega, rfl, Lib.hid ⟨RowN.start _ _, hok⟩⟩
  case round =>
    obtain ⟨k, hk, rfl, hrel⟩ := hrel
    clear hok
    by_cases hlt : k < 48
    · have hx := HX.out k hlt
      have hle := Mem.numsTo_le f k
      have h1 := Mem.numsTo_some (f := f) (k := k)
      have h2 := Mem.numsTo_none (f := f) (k := k)
      generalize (f k).isSome = s at hx h1 h2
      generalize Mem.age (f k) = a at hx
      generalize Mem.quiet (f k) = q at hx
      cases s with
      | true =>
        have H1 := Lib.hid (h1 rfl)
        generalize Mem.numsTo f k = l at H1 hrel hle
        clear h1 h2
        go_wp2_with (at_builtin; refine wpList_append_ints rfl (.tmp 16) (.tmp 18) 37 rfl w.heap.size 3 Try.underlying37 info14 _ (Mem.ints l) l.length (Mem.ints_length l).symm rfl (hrel.out.1.next (w1 := (wr.alloc (.cells #[.bool true, .int .i64 a, .int .i64 q] 28)).alloc (.cells #[.int .i64 (k : Int)] 3)) (((Ok.refl wr).alloc _).alloc _)) _ [(k : Int)] 1 _ rfl rfl (ints_new _ _ _ _ rfl (by simp)) (by rw [Mem.ints_length]; simp; omega) (by have := hrel.out.2.size; simp; omega) ?_; intro v' w2 hr2 hg2; have HR2 := Lib.hid (And.intro hr2 hg2); clear hr2 hg2)
        go_roundw
        case rel => exact ⟨k + 1, by omega, by go_num, by rw [H1.out]; exact Lib.hid ⟨RowN.more HR2.out.1, ok_row ((hrel.out.2.alloc _).alloc _) HR2.out.2 fun j hj => (hrel.out.1.lt j hj).1⟩⟩
        case measure => simp [intOf]; omega
      | false =>
        have H1 := Lib.hid (h2 rfl)
        generalize Mem.numsTo f k = l at H1 hrel hle
        clear h1 h2
        go_wp2
        go_roundw
        case rel => exact ⟨k + 1, by omega, by go_num, by rw [H1.out]; exact Lib.hid ⟨hrel.out.1.next ((Ok.refl _).alloc _), hrel.out.2.alloc _⟩⟩
        case measure => simp [intOf]; omega
    · obtain rfl : k = 48 := by omega
      rw [Mem.numsTo_all] at hrel
      have HQ := Lib.hid (HE.out _ _ hrel.out.2 hrel.out.1)
      clear hrel HE
      go_wp2
      exact HQ.out
end Go.Proofs.Ytcoeiedaopmpcaa
