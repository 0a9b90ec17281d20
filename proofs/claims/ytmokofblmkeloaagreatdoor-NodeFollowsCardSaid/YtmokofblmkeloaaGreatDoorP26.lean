/- Several texts of mine in one: C23i, M48. -/
import Derived.Test.YtmokofblmkeloaaGreatDoorC23g
import Derived.Test.YtmokofblmkeloaaGreatDoorP35
import Derived.Test.YtmokofblmkeloaaGreatDoorB23
import Derived.Test.YtmokofblmkeloaaGreatDoorP45
namespace Go.Proofs.YtmokofblmkeloaaGreatDoor
open Go.RowKit
set_option linter.unusedVariables false
set_option maxRecDepth 100000
attribute [local go_sem ↓] Go.wp_at_zero Go.wp_at_succ
/-- The numbers that may be, of the law's `some`. -/
def par23 : Par := ⟨1, 0, 4, 1000, 1, 100, 10, 50, 20, 6, 5000, 1000⟩
theorem law23Some (w : World) : Calls Tryz.prog 26 #[] w fun e w' => e = .returned (parV par23) ∧ Ok w w' := by
  have hok := Ok.refl w
  go_enter Tryz.func26, Tryz.ntmps26
  go_wp2
  exact bodyPost_ret (v := parV par23) (by simp [results, Tryz.results26, go_sem, parV, par23]) rfl ⟨rfl, hok.alloc _⟩
/-- More than is played, or not. -/
noncomputable def great23 (s : Sta) (l : List In) : Bool := by classical exact !decide (Few s l)
theorem great23_true {s : Sta} {l : List In} (h : ¬ Few s l) : great23 s l = true := by unfold great23; simp [h]
theorem great23_false {s : Sta} {l : List In} (h : Few s l) : great23 s l = false := by unfold great23; simp [h]
theorem great23_few {s : Sta} {l : List In} (h : great23 s l = false) : Few s l := by unfold great23 at h; simpa using h
/-- A slice of one input. -/
theorem InsAt.new (w : World) (x : In) (hx : InAt w x) (T : TypeId) {b : Nat} (hb : b = w.heap.size) : InsAt (w.alloc (.cells (inCells x) T)) (some ⟨b, 0, none⟩) [x] :=
  ⟨CellsAt.new w T (inCells x) (by simp [inCells, inL]) hb, fun y hy => by
    rw [List.mem_singleton] at hy
    subst hy
    exact hx.below ((Ok.refl w).alloc _)⟩
set_option maxHeartbeats 3200000 in
theorem law23Great (s : Sta) (A : Option Addr) (cap : Nat) (B : Option Addr) (l : List In) (c : Nat) (w : World) (hB : InsAt w B l) (hl : l.length ≤ 9223372036854775807) (hw : ∀ x ∈ l, x.heard.length ≤ 9223372036854775807) :
    Calls Tryz.prog 9 #[staV s A cap, .slice B l.length c] w fun e w' => e = .returned (.bool (great23 s l)) ∧ Ok w w' := by
  have HB := Lib.hid hB
  have HW := Lib.hid hw
  clear hB hw
  obtain ⟨R, hR⟩ : ∃ R, great23 s l = R := ⟨_, rfl⟩
  have HT := Lib.hid fun (h : ¬ Few s l) => hR.symm.trans (great23_true h)
  have HF := Lib.hid fun (h : Few s l) => hR.symm.trans (great23_false h)
  rw [hR]
  clear hR
  by_cases t1 : 128 < s.table.length
  · have HE : Hid (R = true) := Lib.hid (HT.out fun f => by have := f.table; omega)
    have d1 : decide ((128 : Int) < (s.table.length : Int)) = true := decide_eq_true (by omega)
    have hok := (Ok.refl w).alloc (.cells (staCells s A cap) 30)
    have hS := Own.new w (staCells s A cap) 30 rfl
    go_enter Tryz.func9, Tryz.ntmps9
    go_upto_region 1 with fail
    change Code.wp _ _ _ _ (w.alloc (.cells (staCells s A cap) 30))
    generalize w.alloc (.cells (staCells s A cap) 30) = W at hok hS ⊢
    generalize w.heap.size = G at hS ⊢
    obtain ⟨s0, s1, s2, s3, s4, s5, s6, s7, s8, s9, s10⟩ := hS.sta; have hsl := hS.lt
    go_wp2_with fail
    go_ret
    exact ⟨by rw [HE.out]; rfl, hok⟩
  have d1 : decide ((128 : Int) < (s.table.length : Int)) = false := decide_eq_false (by omega)
  by_cases t2 : 12 < l.length
  · have HE : Hid (R = true) := Lib.hid (HT.out fun f => by have := f.list; omega)
    have d2 : decide ((12 : Int) < (l.length : Int)) = true := decide_eq_true (by omega)
    have hok := (Ok.refl w).alloc (.cells (staCells s A cap) 30)
    have hS := Own.new w (staCells s A cap) 30 rfl
    go_enter Tryz.func9, Tryz.ntmps9
    go_upto_region 1 with fail
    change Code.wp _ _ _ _ (w.alloc (.cells (staCells s A cap) 30))
    generalize w.alloc (.cells (staCells s A cap) 30) = W at hok hS ⊢
    generalize w.heap.size = G at hS ⊢
    obtain ⟨s0, s1, s2, s3, s4, s5, s6, s7, s8, s9, s10⟩ := hS.sta; have hsl := hS.lt
    go_wp2_with fail
    go_ret
    exact ⟨by rw [HE.out]; rfl, hok⟩
  have d2 : decide ((12 : Int) < (l.length : Int)) = false := decide_eq_false (by omega)
  have T1 : Hid (s.table.length ≤ 128 ∧ l.length ≤ 12) := Lib.hid ⟨by omega, by omega⟩
  have hok := (Ok.refl w).alloc (.cells (staCells s A cap) 30)
  have hS := Own.new w (staCells s A cap) 30 rfl
  go_enter Tryz.func9, Tryz.ntmps9
  go_upto_region 1 with fail
  change Code.wp _ _ _ _ (w.alloc (.cells (staCells s A cap) 30))
  generalize w.alloc (.cells (staCells s A cap) 30) = W at hok hS ⊢
  generalize w.heap.size = G at hS ⊢
  obtain ⟨s0, s1, s2, s3, s4, s5, s6, s7, s8, s9, s10⟩ := hS.sta; have hsl := hS.lt
  go_upto_region 3 with fail
  clear s0 s1 s2 s3 s4 s5 s6 s7 s8 s9 s10 hsl hS d1 d2 t1 t2
  go_wp2_with fail
  go_loopw [20] (fun i wr => ∃ k : Nat, k ≤ l.length ∧ i = .int .i64 k ∧ Hid (∀ j (hj : j < l.length), j < k → l[j].heard.length ≤ 40 ∧ l[j].table.length ≤ 128 ∧ ∀ h ∈ l[j].heard, h.m.table.length ≤ 128) ∧ Ok w wr) (fun i _ => l.length - (intOf i).toNat)
  case atStart => exact ⟨0, Nat.zero_le _, rfl, Lib.hid (fun j _ h => absurd h (Nat.not_lt_zero _)), hok⟩
  case round =>
    clear hok
    obtain ⟨k, hk, rfl, hrel, hok⟩ := hrel
    by_cases hkl : k < l.length
    · obtain ⟨b, off, e, hb, hc⟩ := (HB.out.below hok).nthAt k hkl
      have hx := List.getElem_mem hkl
      have HX := Lib.hid ((HB.out.parts _ hx).heard)
      have hwx := HW.out _ hx
      have HK : Hid (∀ x, l[k] = x → x.heard.length ≤ 40 → x.table.length ≤ 128 → (∀ h ∈ x.heard, h.m.table.length ≤ 128) → ∀ j (hj : j < l.length), j < k + 1 → l[j].heard.length ≤ 40 ∧ l[j].table.length ≤ 128 ∧ ∀ h ∈ l[j].heard, h.m.table.length ≤ 128) := Lib.hid fun x hx a1 a2 a3 j hj hjk => by
        by_cases e : j = k
        · subst e; rw [hx]; exact ⟨a1, a2, a3⟩
        · exact hrel.out j hj (by omega)
      obtain ⟨x, hxe⟩ : ∃ x, l[k] = x := ⟨_, rfl⟩
      rw [hxe] at HX hwx hx
      have HMX := Lib.hid hx
      have HK := Lib.hid (HK.out x hxe)
      obtain ⟨i0, i1, i2, i3, i4, i5⟩ := hc x hxe
      subst e
      clear hc hx hrel hxe
      obtain ⟨xt, xB, xh, xhc, xr, xrd, xg, xT, xtb, xtc⟩ := x
      simp only at HX hwx HK HMX i0 i1 i2 i3 i4 i5
      by_cases u1 : 40 < xh.length
      · have HE : Hid (R = true) := Lib.hid (HT.out fun f => by have := f.heard _ HMX.out; simp only at this; omega)
        have d1 : decide ((40 : Int) < (xh.length : Int)) = true := decide_eq_true (by omega)
        go_wp2_with fail
        go_ret
        exact ⟨by rw [HE.out]; rfl, hok.alloc _⟩
      have d1 : decide ((40 : Int) < (xh.length : Int)) = false := decide_eq_false (by omega)
      by_cases u2 : 128 < xtb.length
      · have HE : Hid (R = true) := Lib.hid (HT.out fun f => by have := f.tables _ HMX.out; simp only at this; omega)
        have d2 : decide ((128 : Int) < (xtb.length : Int)) = true := decide_eq_true (by omega)
        go_wp2_with fail
        go_ret
        exact ⟨by rw [HE.out]; rfl, hok.alloc _⟩
      have d2 : decide ((128 : Int) < (xtb.length : Int)) = false := decide_eq_false (by omega)
      have HU : Hid (xh.length ≤ 40 ∧ xtb.length ≤ 128) := Lib.hid ⟨by omega, by omega⟩
      go_upto_region 8 with fail
      replace hok := hok.alloc (.cells #[.int .i64 xt, .slice xB xh.length xhc, .bool xr, .int .i64 xrd, .bool xg, .slice xT xtb.length xtc] 49)
      clear d1 d2 u1 u2
      go_wp2_with fail
      have hk0 := hok
      generalize wr.alloc (.cells #[.int .i64 xt, .slice xB xh.length xhc, .bool xr, .int .i64 xrd, .bool xg, .slice xT xtb.length xtc] 49) = W2 at hok hk0 ⊢
      go_loopw [37] (fun i wx => ∃ m : Nat, m ≤ xh.length ∧ i = .int .i64 m ∧ Hid (∀ j (hj : j < xh.length), j < m → xh[j].m.table.length ≤ 128) ∧ Ok w wx) (fun i _ => xh.length - (intOf i).toNat)
      case atStart => exact ⟨0, Nat.zero_le _, rfl, Lib.hid (fun j _ h => absurd h (Nat.not_lt_zero _)), hok⟩
      case round =>
        clear hok hk0 i0 i1 i2 i3 i4 i5
        obtain ⟨m, hm, rfl, hrel, hok⟩ := hrel
        by_cases hml : m < xh.length
        · obtain ⟨b2, off2, e2, hb2, hc2⟩ := (HX.out.below hok).nthAt m hml
          have HM : Hid (∀ y, xh[m] = y → y.m.table.length ≤ 128 → ∀ j (hj : j < xh.length), j < m + 1 → xh[j].m.table.length ≤ 128) := Lib.hid fun y hy a1 j hj hjk => by
            by_cases e : j = m
            · subst e; rw [hy]; exact a1
            · exact hrel.out j hj (by omega)
          have hym := List.getElem_mem hml
          obtain ⟨y, hye⟩ : ∃ y, xh[m] = y := ⟨_, rfl⟩
          rw [hye] at hym
          have HMY := Lib.hid hym
          have HM := Lib.hid (HM.out y hye)
          obtain ⟨c0, c1, c2, c3, c4, c5, c6, c7, c8, c9, c10, c11, c12, c13, c14⟩ := hc2 y hye
          subst e2
          clear hc2 hrel hye hym
          by_cases v1 : 128 < y.m.table.length
          · have HE : Hid (R = true) := Lib.hid (HT.out fun f => by have := f.told _ HMX.out y HMY.out; omega)
            have d1 : decide ((128 : Int) < (y.m.table.length : Int)) = true := decide_eq_true (by omega)
            go_wp2_with fail
            go_ret
            exact ⟨by rw [HE.out]; rfl, hok.alloc _⟩
          · have d1 : decide ((128 : Int) < (y.m.table.length : Int)) = false := decide_eq_false (by omega)
            have HV : Hid (y.m.table.length ≤ 128) := Lib.hid (by omega)
            clear v1
            go_wp2_with fail
            go_roundw
            case rel => exact ⟨m + 1, by omega, by go_num, Lib.hid (HM.out HV.out), hok.alloc _⟩
            case measure => simp [intOf]; omega
        · have HE : Hid (∀ h ∈ xh, h.m.table.length ≤ 128) := Lib.hid fun h hh => by
            obtain ⟨j, hj, rfl⟩ := List.getElem_of_mem hh
            exact hrel.out j hj (by omega)
          clear hrel
          go_wp2_with fail
          go_roundw
          case rel => exact ⟨k + 1, by omega, by go_num, Lib.hid (HK.out HU.out.1 HU.out.2 HE.out), hok⟩
          case measure => simp [intOf]; omega
    · have HE : Hid (Few s l) := Lib.hid ⟨T1.out.1, T1.out.2, fun x hx => by
          obtain ⟨j, hj, rfl⟩ := List.getElem_of_mem hx
          exact (hrel.out j hj (by omega)).1, fun x hx => by
          obtain ⟨j, hj, rfl⟩ := List.getElem_of_mem hx
          exact (hrel.out j hj (by omega)).2.1, fun x hx => by
          obtain ⟨j, hj, rfl⟩ := List.getElem_of_mem hx
          exact (hrel.out j hj (by omega)).2.2⟩
      clear hrel
      have HE2 : Hid (R = false) := Lib.hid (HF.out HE.out)
      go_wp2_with fail
      go_ret
      exact ⟨by rw [HE2.out]; rfl, hok⟩
end Go.Proofs.YtmokofblmkeloaaGreatDoor
namespace Go.Proofs.YtmokofblmkeloaaGreatDoor
namespace Nod
theorem state_parts (p : Par) (s : Sta) (ticks : Int) (l : List Hd) : (state p s ticks l).lo = (Health.sane p (next p s ticks l)).lo ∧ (state p s ticks l).hi = (Health.sane p (next p s ticks l)).hi ∧ (state p s ticks l).held = (Health.sane p (next p s ticks l)).held ∧ (state p s ticks l).hops = (Health.sane p (next p s ticks l)).hops ∧ (state p s ticks l).good = (Health.sane p (next p s ticks l)).good := by
  obtain ⟨k1, k2, -, -, k5, k6, k7, -, -⟩ := listens_keeps p (Health.step p s ticks (next p s ticks l)) l
  exact ⟨k1, k2, k5, k6, k7⟩
theorem sane_led (p : Par) {u : Sta} (h : u.lo ≤ u.hi) : (Health.sane p u).lo = Sat.clip u.lo ∧ (Health.sane p u).hi = Sat.clip u.hi ∧ (Health.sane p u).good = u.good := by
  have := Sat.clip_mono h
  unfold Health.sane
  simp only
  rw [if_neg (by omega), if_neg (by omega), if_neg (by omega)]
  exact ⟨rfl, rfl, rfl⟩
/-! A node that hears neighbours alone. -/
def nb (p : Par) (now : Int) (ts : List Tl) (hs : List Int) (good : Bool) (i : Nat) : Hd := tell p now 2 (21 + (i : Int)) (hs.getD i 0) good (ts.getD i noTl)
def nbs (p : Par) (now : Int) (ts : List Tl) (hs : List Int) (good : Bool) (m : Nat) : List Hd := (List.range m).map (nb p now ts hs good)
theorem nbs_next (p : Par) (now : Int) (ts : List Tl) (hs : List Int) (good : Bool) (m : Nat) : nbs p now ts hs good (m + 1) = nbs p now ts hs good m ++ [nb p now ts hs good m] := by
  unfold nbs
  rw [List.range_succ, List.map_append]
  rfl
theorem nbs_len (p : Par) (now : Int) (ts : List Tl) (hs : List Int) (good : Bool) (m : Nat) : (nbs p now ts hs good m).length = m := by simp [nbs]
theorem said_nbs (p : Par) (now : Int) (ts : List Tl) (hs : List Int) (good : Bool) (m : Nat) : said id (nbs p now ts hs good m) (21 + (m : Int)) = false := by
  unfold said
  rw [List.any_eq_false]
  intro x hx
  obtain ⟨i, hi, rfl⟩ := List.mem_map.1 hx
  have := List.mem_range.1 hi
  intro g
  have g2 : 21 + (i : Int) = 21 + (m : Int) := of_decide_eq_true g
  omega
/-- The first m of them were heard. -/
def nbsTo (m : Nat) : NF := fun j => if 21 ≤ j ∧ j < 21 + m then some (0, 0) else none
theorem nums_nbsTo {m : Nat} (h : m ≤ 12) : (Mem.nums (nbsTo m)).length ≤ 12 := by
  have : ∀ m, m ≤ 12 → (Mem.nums (nbsTo m)).length = m := by decide +kernel
  rw [this m h]
  exact h
theorem put_nbsTo (m : Nat) : Mem.put (nbsTo m) (21 + m) (0, 0) = nbsTo (m + 1) := by
  funext j
  unfold Mem.put nbsTo
  by_cases e : j = 21 + m
  · subst e; rw [if_pos rfl, if_pos (by omega)]
  · rw [if_neg e]
    by_cases h : 21 ≤ j ∧ j < 21 + m
    · rw [if_pos h, if_pos (by omega)]
    · rw [if_neg h, if_neg (by omega)]
theorem known_first (p : Par) (now : Int) (ts : List Tl) (hs : List Int) (good : Bool) : ∀ m, m ≤ 12 → known id 20 Mem.nobody (nbs p now ts hs good m) = ([], nbsTo m)
  | 0, _ => by
    show ([], Mem.nobody) = ([], nbsTo 0)
    congr 1
    funext j
    unfold Mem.nobody nbsTo
    rw [if_neg (by omega)]
  | m + 1, h => by
    rw [nbs_next, known_snoc, known_first p now ts hs good m (by omega)]
    unfold known1
    have hf : (nb p now ts hs good m).m.frm = 21 + (m : Int) := rfl
    have hlk : Mem.look (nbsTo m) (21 + (m : Int)) = none := by
      rw [show (21 + (m : Int)) = ((21 + m : Nat) : Int) by omega, Mem.look_at]
      unfold nbsTo
      rw [if_neg (by omega)]
    have hE : Mem.hearE (nbsTo m) (21 + (m : Int)) = 0 := by
      unfold Mem.hearE
      have := nums_nbsTo (m := m) (by omega)
      rw [if_pos (by omega), if_neg]
      omega
    simp only [id, hf]
    rw [if_neg (by simp [said]; omega)]
    congr 1
    · rw [if_neg]
      rw [hlk]
      intro k
      have := of_decide_eq_true k.2
      simp only [Mem.age] at this
      omega
    · unfold Mem.hear
      rw [if_pos hE, hlk, show (21 + (m : Int)).toNat = 21 + m by omega]
      exact put_nbsTo m
/-- Behind the first beat: m of them were heard once; k of these were heard again. -/
def nbsAt (m k : Nat) : NF := fun j => if 21 ≤ j ∧ j < 21 + k then some (1, 0) else if 21 ≤ j ∧ j < 21 + m then some (1, 1) else none
theorem tick_nbsTo (m : Nat) : Mem.tick 2 (nbsTo m) = nbsAt m 0 := by
  funext j
  unfold Mem.tick nbsTo nbsAt
  rw [if_neg (c := 21 ≤ j ∧ j < 21 + 0) (by omega)]
  by_cases h : 21 ≤ j ∧ j < 21 + m
  · rw [if_pos h, if_pos h]; rfl
  · rw [if_neg h, if_neg h]; rfl
theorem known_again (p : Par) (now : Int) (ts : List Tl) (hs : List Int) (m : Nat) (hm : m ≤ 12) : ∀ k, k ≤ m → known id 20 (nbsAt m 0) (nbs p now ts hs true k) = (nbs p now ts hs true k, nbsAt m k)
  | 0, _ => rfl
  | k + 1, h => by
    rw [nbs_next, known_snoc, known_again p now ts hs m hm k (by omega)]
    unfold known1
    have hf : (nb p now ts hs true k).m.frm = 21 + (k : Int) := rfl
    have hk : (nb p now ts hs true k).m.kind = 2 := rfl
    have hlk : Mem.look (nbsAt m k) (21 + (k : Int)) = some (1, 1) := by
      rw [show (21 + (k : Int)) = ((21 + k : Nat) : Int) by omega, Mem.look_at]
      unfold nbsAt
      rw [if_neg (by omega), if_pos (by omega)]
    have hE : Mem.hearE (nbsAt m k) (21 + (k : Int)) = 0 := by
      unfold Mem.hearE
      rw [if_pos (by omega), if_neg]
      rw [hlk]
      simp
    simp only [id, hf]
    rw [if_neg (by rw [said_nbs]; simp; omega)]
    congr 1
    · rw [if_pos]
      refine ⟨hE, ?_⟩
      rw [hlk]
      exact decide_eq_true (.inr ⟨by rw [hf]; omega, hk, by decide⟩)
    · unfold Mem.hear
      rw [if_pos hE, hlk, show (21 + (k : Int)).toNat = 21 + k by omega]
      funext j
      unfold Mem.put nbsAt
      by_cases e : j = 21 + k
      · subst e; rw [if_pos rfl, if_pos (by omega)]; rfl
      · rw [if_neg e]
        by_cases h : 21 ≤ j ∧ j < 21 + k
        · rw [if_pos h, if_pos (by omega)]
        · rw [if_neg h, if_neg (c := 21 ≤ j ∧ j < 21 + (k + 1)) (by omega)]
/-- The least steps among the first k that lead. -/
def Least (D : Int) (hs : List Int) (k : Nat) (v : Int) : Prop := (v = D + 1 ∧ ∀ i, i < k → ¬ (0 ≤ hs.getD i 0 ∧ hs.getD i 0 < D)) ∨ (∃ i, i < k ∧ (0 ≤ hs.getD i 0 ∧ hs.getD i 0 < D) ∧ v = hs.getD i 0) ∧ ∀ i, i < k → 0 ≤ hs.getD i 0 ∧ hs.getD i 0 < D → v ≤ hs.getD i 0
theorem Least.nil (D : Int) (hs : List Int) : Least D hs 0 (D + 1) := .inl ⟨rfl, fun i h => absurd h (Nat.not_lt_zero i)⟩
theorem Least.take {D : Int} {hs : List Int} {k : Nat} {v : Int} (h : Least D hs k v) (h1 : 0 ≤ hs.getD k 0 ∧ hs.getD k 0 < D) (h2 : hs.getD k 0 < v) : Least D hs (k + 1) (hs.getD k 0) := by
  refine .inr ⟨⟨k, by omega, h1, rfl⟩, fun i hi hv => ?_⟩
  rcases Nat.lt_succ_iff_lt_or_eq.1 hi with g | g
  · rcases h with ⟨-, h⟩ | ⟨-, h⟩
    · exact absurd hv (h i g)
    · have := h i g hv; omega
  · subst g; exact Int.le_refl _
theorem Least.pass {D : Int} {hs : List Int} {k : Nat} {v : Int} (h : Least D hs k v) (h1 : ¬ ((0 ≤ hs.getD k 0 ∧ hs.getD k 0 < D) ∧ hs.getD k 0 < v)) : Least D hs (k + 1) v := by
  rcases h with ⟨e, h⟩ | ⟨⟨i, hi, hv, e⟩, h⟩
  · refine .inl ⟨e, fun i hi hv => ?_⟩
    rcases Nat.lt_succ_iff_lt_or_eq.1 hi with g | g
    · exact h i g hv
    · subst g; exact h1 ⟨hv, by omega⟩
  · refine .inr ⟨⟨i, by omega, hv, e⟩, fun j hj hw => ?_⟩
    rcases Nat.lt_succ_iff_lt_or_eq.1 hj with g | g
    · exact h j g hw
    · subst g
      by_cases k1 : hs.getD j 0 < v
      · exact absurd ⟨hw, k1⟩ h1
      · omega
theorem gates_nbs (p : Par) (now : Int) (ts : List Tl) (hs : List Int) (good : Bool) (m : Nat) : gates p (nbs p now ts hs good m) = [] := by
  unfold gates Gate.told
  rw [List.filter_eq_nil_iff]
  intro x hx
  obtain ⟨k, hk, h⟩ := List.mem_filterMap.1 hx
  unfold Gate.one at h
  split at h
  · cases h
  · have h1 := List.find?_some h
    have h2 := List.mem_of_find?_eq_some h
    obtain ⟨i, hi, rfl⟩ := List.mem_map.1 h2
    have := (of_decide_eq_true h1).1
    unfold nb tell at this
    simp only at this
    omega
theorem msgs_nbs {p : Par} {now : Int} {ts : List Tl} (hf : ∀ t ∈ ts, Fine p t) (hs : List Int) (good : Bool) : msgs p (nbs p now ts hs good ts.length) = (nbs p now ts hs good ts.length).map (moved p) := by
  unfold msgs
  rw [List.filter_eq_self.2]
  intro x hx
  obtain ⟨i, hi, rfl⟩ := List.mem_map.1 hx
  have hi := List.mem_range.1 hi
  have hm : ts.getD i noTl ∈ ts := by
    rw [List.getD_eq_getElem?_getD, List.getElem?_eq_getElem hi]
    exact List.getElem_mem _
  obtain ⟨q1, q2, -⟩ := hf _ hm
  unfold nb tell
  simp only
  exact decide_eq_true (by omega)
theorem sane_has (p : Par) {u : Sta} {x : Int} (h1 : u.lo ≤ x) (h2 : x ≤ u.hi) (h3 : -2305843009213693952 ≤ x ∧ x ≤ 2305843009213693952) : (Health.sane p u).lo ≤ x ∧ x ≤ (Health.sane p u).hi := by
  obtain ⟨e1, e2, -⟩ := sane_led p (u := u) (by omega)
  rw [e1, e2]
  have a := Sat.clip_mono h1
  have b := Sat.clip_mono h2
  rw [Sat.clip_in h3.1 h3.2] at a b
  exact ⟨a, b⟩
/-- Behind a beat in which it hears neighbours alone, whose spans had the time. -/
theorem follows {p : Par} (hp : Lim.May p) {now : Int} (hn : -1125899906842624 ≤ now ∧ now ≤ 1125899906842624) {ts : List Tl} (hf : ∀ t ∈ ts, Fine p t) (hs : List Int) {err : Int} (he : -p.rho ≤ err ∧ err ≤ p.rho) {s : Sta} (h1 : s.lo ≤ now) (h2 : now ≤ s.hi) {v : Int} (hv : Least p.d hs ts.length v) (Y : Sta)
    (hY : state p s (p.beat + err) (nbs p now ts hs true ts.length) = Y) :
    (Y.lo ≤ now + p.beat ∧ now + p.beat ≤ Y.hi) ∧ (p.d < v ∧ Y.hops = p.d + 1 ∧ Y.good = false ∨ v ≤ p.d ∧ Y.hops = v + 1 ∧ Y.good = true) := by
  obtain ⟨b1, r1, d1, j1, e1⟩ := Lim.May.bds hp
  have hd := hp.2.2.1.1
  have hf0 := hp.1.2.1
  obtain ⟨a1, a2, -, a4, a5⟩ := state_parts p s (p.beat + err) (nbs p now ts hs true ts.length)
  rw [hY] at a1 a2 a4 a5
  have hsp : Gate.left p.f (spans p (nbs p now ts hs true ts.length)) = false := by
    refine Gate.left_few ?_
    rw [spans_len, gates_nbs]
    simp
    omega
  have hlen : (msgs p (nbs p now ts hs true ts.length)).length = ts.length := by rw [msgs_nbs hf, List.length_map, nbs_len]
  have hat : ∀ i, i < ts.length → (msgs p (nbs p now ts hs true ts.length)).getD i noM = moved p (nb p now ts hs true i) := fun i hi => by
    rw [msgs_nbs hf, List.getD_eq_getElem?_getD, List.getElem?_map]
    unfold nbs
    rw [List.getElem?_map, List.getElem?_range hi]
    rfl
  have hmem : ∀ i, i < ts.length → ts.getD i noTl ∈ ts := fun i hi => by
    rw [List.getD_eq_getElem?_getD, List.getElem?_eq_getElem hi]
    exact List.getElem_mem _
  have hright : ∀ i, i < ts.length → (moved p (nb p now ts hs true i)).lo ≤ now + p.beat ∧ now + p.beat ≤ (moved p (nb p now ts hs true i)).hi := fun i hi => by
    have := of_decide_eq_true (tell_right hp hn (hf _ (hmem i hi)) (Int.le_refl _) 2 (21 + (i : Int)) (hs.getD i 0) true)
    exact this.1
  have hmay : ∀ i, i < ts.length → (Route.may p.d ((msgs p (nbs p now ts hs true ts.length)).getD i noM) = true ↔ 0 ≤ hs.getD i 0 ∧ hs.getD i 0 < p.d) := fun i hi => by
    rw [hat i hi]
    have hr := hright i hi
    unfold Route.may
    rw [decide_eq_true_eq]
    constructor
    · intro k; exact ⟨k.2.2.1, k.2.2.2.1⟩
    · intro k; exact ⟨rfl, rfl, k.1, k.2, by omega⟩
  cases hc : choice p (nbs p now ts hs true ts.length) with
  | none =>
    have hu : next p s (p.beat + err) (nbs p now ts hs true ts.length) = lost p s (p.beat + err) := by unfold next; rw [if_neg (by rw [hsp]; simp), hc]
    rw [hu] at a1 a2 a4 a5
    have hno := Route.pick_none hc
    have hv2 : v = p.d + 1 := by
      rcases hv with ⟨e, -⟩ | ⟨⟨i, hi, hh, -⟩, -⟩
      · exact e
      · have := hno i (by rw [hlen]; exact hi)
        rw [(hmay i hi).2 hh] at this
        cases this
    have hc := Carry.holds hp (s := (s.lo, s.hi)) (now := now) (off := err) (by omega) h1 h2 he
    have hk := sane_has p (u := lost p s (p.beat + err)) (x := now + p.beat) hc.1 hc.2 (by omega)
    rw [← a1, ← a2] at hk
    rw [sane_hops_in hp (by show 0 ≤ p.d + 1 ∧ p.d + 1 ≤ p.d + 1; omega)] at a4
    have hg : (Health.sane p (lost p s (p.beat + err))).good = false := by
      rw [(sane_led p (u := lost p s (p.beat + err)) (by show (Carry.hold p (s.lo, s.hi) (p.beat + err)).1 ≤ (Carry.hold p (s.lo, s.hi) (p.beat + err)).2; omega)).2.2]
      rfl
    exact ⟨hk, .inl ⟨by omega, a4, a5.trans hg⟩⟩
  | some j =>
    have hu : next p s (p.beat + err) (nbs p now ts hs true ts.length) = follow s ((msgs p (nbs p now ts hs true ts.length)).getD j noM) := by unfold next; rw [if_neg (by rw [hsp]; simp), hc]
    have hj : j < ts.length := by have := Route.pick_lt hc; rw [hlen] at this; exact this
    have hjm := (hmay j hj).1 (Route.pick_may hc)
    have hbest := Route.pick_best hc
    have hv2 : v = hs.getD j 0 := by
      rcases hv with ⟨-, h⟩ | ⟨⟨i, hi, hh, e⟩, h⟩
      · exact absurd hjm (h j hj)
      · have k1 := h j hj hjm
        have k2 := hbest i (by rw [hlen]; exact hi) ((hmay i hi).2 hh)
        rw [hat i hi, hat j hj] at k2
        have k3 : ¬ hs.getD i 0 < hs.getD j 0 := fun g => k2 (.inl g)
        omega
    rw [hu, hat j hj] at a1 a2 a4 a5
    have hr := hright j hj
    have hk := sane_has p (u := follow s (moved p (nb p now ts hs true j))) (x := now + p.beat) hr.1 hr.2 (by omega)
    rw [← a1, ← a2] at hk
    have hh : (follow s (moved p (nb p now ts hs true j))).hops = hs.getD j 0 + 1 := rfl
    rw [sane_hops_in hp (by rw [hh]; omega), hh] at a4
    rw [(sane_led p (u := follow s (moved p (nb p now ts hs true j))) (by have := hr.1; have := hr.2; show (moved p (nb p now ts hs true j)).lo ≤ (moved p (nb p now ts hs true j)).hi; omega)).2.2] at a5
    exact ⟨hk, .inr ⟨by omega, by omega, a5⟩⟩
end Nod
end Go.Proofs.YtmokofblmkeloaaGreatDoor
