/- Contracts of layer 8: the program's Lanes: Len, Push, Pop. -/
import Derived.Test.YtnjlamnpiafpdaaC08d
import Derived.Test.YtnjlamnpiafpdaaM18
namespace Go.Proofs.Ytnjlamnpiafpdaa
open Go.RowKit
set_option maxRecDepth 100000
/-- In block g are lanes in which waits what L says. -/
def LaneL (w : World) (g : Nat) (L : List It) : Prop := LanesAt w g fun k => Lane.row L k
namespace LaneL
variable {w w1 : World} {g r : Nat} {L L' : List It}
theorem next (h : LaneL w g L) (k : Ok w w1) : LaneL w1 g L := LanesAt.next h k
theorem only (h : LaneL w g L) (k : Only r w w1) (hr : g ≠ r) : LaneL w1 g L := LanesAt.only h k hr
theorem lt (h : LaneL w g L) : g < w.heap.size := LanesAt.lt h
theorem congr (h : LaneL w g L) (e : ∀ k : Nat, k < 48 → Lane.row L' k = Lane.row L k) : LaneL w g L' := LanesAt.congr h e
/-- One ring has turned. -/
theorem turn {cs cs' : Array Value} (hL : Laid cs fun k => Lane.row L k) (hO : Own w1 g cs') (k : Nat) {l : List (ByteArray × Int)} (hA : Aside (k * 130) cs cs') (hR : ∃ f, Ring cs' (k * 130) f l)
    (e : ∀ v : Nat, Lane.row L' v = if v = k then l else Lane.row L v) : LaneL w1 g L' :=
  ⟨cs', hO, (hL.turn k hA hR).congr fun v _ => e v⟩
end LaneL
theorem ifc {α : Type} (v k : Nat) (a b : α) : (if (v : Int) = (k : Int) then a else b) = if v = k then a else b := by
  by_cases e : v = k
  · rw [if_pos (by omega), if_pos e]
  · rw [if_neg (by omega), if_neg e]
theorem lanesLen (g : Nat) (L : List It) (who N : Int) (w : World) (hL : LaneL w g L) (hG : Lane.Good N L) :
    Calls Try.prog 18 #[.pointer (some ⟨g, 0, none⟩), .int .i64 who] w fun e w' => e = .returned (.int .i64 ((Lane.row L who).length : Nat)) ∧ w = w' := by
  by_cases hn : 0 ≤ who ∧ who < 48
  · obtain ⟨k, rfl⟩ : ∃ k : Nat, who = k := ⟨who.toNat, by omega⟩
    have hk : k < 48 := by omega
    obtain ⟨cs, hO, hl⟩ := hL
    obtain ⟨f, hR⟩ := hl.ring k hk
    have c1 := hO.cell _ hR.count
    clear hO hl hR hG hn
    go_enter Try.func18, Try.ntmps18
    go_wp2_with (go_at_call 20; (with_reducible refine (lanesRow g k _ hk).mono ?_); rintro e w1 ⟨rfl, rfl⟩)
    go_ret
    exact ⟨rfl, rfl⟩
  · have e : Lane.row L who = [] := hG.far (by omega)
    rw [e]
    have hw : who < 0 ∨ 48 ≤ who := by omega
    clear e hn hL hG
    go_enter Try.func18, Try.ntmps18
    go_wp2_with (go_at_call 20; (with_reducible refine (lanesRowNobody g who _ hw).mono ?_); rintro e w1 ⟨rfl, rfl⟩)
    go_ret
    exact ⟨rfl, rfl⟩
theorem lanesLenNil (who : Int) (w : World) : Calls Try.prog 18 #[.pointer none, .int .i64 who] w fun e w' => e = .returned (.int .i64 0) ∧ w = w' := by
  go_enter Try.func18, Try.ntmps18
  go_wp2_with (go_at_call 20; (with_reducible refine (lanesRowNil who _).mono ?_); rintro e w1 ⟨rfl, rfl⟩)
  go_ret
  exact ⟨rfl, rfl⟩
theorem lanesPushNil (who : Int) (s : ByteArray) (w : World) : Calls Try.prog 10 #[.pointer none, .int .i64 who, .string s] w fun e w' => e = .returned (.int .i64 2) ∧ w = w' := by
  go_enter Try.func10, Try.ntmps10
  go_wp2
  go_ret
  exact ⟨rfl, rfl⟩
theorem lanesPush (g : Nat) (L : List It) (who : Int) (s : ByteArray) (w : World) (hL : LaneL w g L) (hs : s.size ≤ 9223372036854775807) :
    Calls Try.prog 10 #[.pointer (some ⟨g, 0, none⟩), .int .i64 who, .string s] w fun e w' => e = .returned (.int .i64 (Lane.pushE L who s)) ∧ Only g w w' ∧ LaneL w' g (Lane.pushL L who s) := by
  by_cases hn : 0 ≤ who ∧ who < 48
  · by_cases hlen : 4096 < s.size
    · have e1 : Lane.pushE L who s = 3 := by unfold Lane.pushE; rw [if_pos hn, if_pos hlen]
      have e2 : Lane.pushL L who s = L := by unfold Lane.pushL; rw [if_neg (by omega)]
      rw [e1, e2]
      obtain ⟨k, rfl⟩ : ∃ k : Nat, who = k := ⟨who.toNat, by omega⟩
      have hk : k < 48 := by omega
      have HL := Lib.hid hL
      clear e1 e2 hn hL
      go_enter Try.func10, Try.ntmps10
      go_wp2_with (go_at_call 20; (with_reducible refine (lanesRow g k _ hk).mono ?_); rintro e w1 ⟨rfl, rfl⟩)
      go_ret
      exact ⟨rfl, Only.refl _ _, HL.out⟩
    · have hrow := Lane.push_row L hn (show s.size ≤ 4096 by omega)
      obtain ⟨k, rfl⟩ : ∃ k : Nat, who = k := ⟨who.toNat, by omega⟩
      have hk : k < 48 := by omega
      obtain ⟨cs, hO, hl⟩ := hL
      obtain ⟨f, hR⟩ := hl.ring k hk
      have hl64 := hR.hl
      by_cases h64 : (Lane.row L k).length = 64
      · have e1 : Lane.pushE L k s = 8 := by unfold Lane.pushE; rw [if_pos hn, if_neg hlen, if_pos h64]
        rw [e1]
        obtain ⟨x, t, ht⟩ : ∃ x t, Lane.row L k = x :: t := by
          cases h : Lane.row L k with
          | nil => rw [h] at h64; simp at h64
          | cons x t => exact ⟨x, t, rfl⟩
        have h63 : t.length = 63 := by rw [ht] at h64; simpa using h64
        replace hrow : ∀ v : Int, Lane.row (Lane.pushL L k s) v = if v = k then t ++ [(s, 0)] else Lane.row L v := fun v => by rw [hrow v, if_pos h64, ht]; rfl
        simp only [ht] at hR
        have HX := Lib.hid (And.intro hl (And.intro hrow (And.intro hR h63)))
        clear e1 hn hl hrow hR h64 ht h63 hl64
        go_enter Try.func10, Try.ntmps10
        go_wp2_with (first | (go_at_call 20; (with_reducible refine (lanesRow g k _ hk).mono ?_); rintro e w1 ⟨rfl, rfl⟩) | (go_at_call 21; (with_reducible refine (ringPushFull g (k * 130) f cs x t s _ hO HX.out.2.2.1 HX.out.2.2.2).mono ?_); rintro e w1 ⟨rfl, hB, cs', hO', hA, hR'⟩; have HY := Lib.hid (And.intro hB (And.intro hO' (And.intro hA hR'))); clear hB hO' hA hR'))
        go_ret
        exact ⟨rfl, HY.out.1, LaneL.turn HX.out.1 HY.out.2.1 k HY.out.2.2.1 HY.out.2.2.2 fun v => by rw [HX.out.2.1, ifc]⟩
      · have e1 : Lane.pushE L k s = 0 := by unfold Lane.pushE; rw [if_pos hn, if_neg hlen, if_neg h64]
        rw [e1]
        replace hrow : ∀ v : Int, Lane.row (Lane.pushL L k s) v = if v = k then Lane.row L k ++ [(s, 0)] else Lane.row L v := fun v => by rw [hrow v, if_neg h64]
        have h63 : (Lane.row L k).length < 64 := by omega
        have HX := Lib.hid (And.intro hl (And.intro hrow (And.intro hR h63)))
        clear e1 hn hl hrow hR h64 h63 hl64
        go_enter Try.func10, Try.ntmps10
        go_wp2_with (first | (go_at_call 20; (with_reducible refine (lanesRow g k _ hk).mono ?_); rintro e w1 ⟨rfl, rfl⟩) | (go_at_call 21; (with_reducible refine (ringPushRoom g (k * 130) f cs _ s _ hO HX.out.2.2.1 HX.out.2.2.2).mono ?_); rintro e w1 ⟨rfl, hB, cs', hO', hA, hR'⟩; have HY := Lib.hid (And.intro hB (And.intro hO' (And.intro hA hR'))); clear hB hO' hA hR'))
        go_ret
        exact ⟨rfl, HY.out.1, LaneL.turn HX.out.1 HY.out.2.1 k HY.out.2.2.1 ⟨f, HY.out.2.2.2⟩ fun v => by rw [HX.out.2.1, ifc]⟩
  · have e1 : Lane.pushE L who s = 1 := by unfold Lane.pushE; rw [if_neg hn]
    have e2 : Lane.pushL L who s = L := by unfold Lane.pushL; rw [if_neg (fun h => hn h.1)]
    rw [e1, e2]
    have hw : who < 0 ∨ 48 ≤ who := by omega
    have HL := Lib.hid hL
    clear e1 e2 hn hL
    go_enter Try.func10, Try.ntmps10
    go_wp2_with (go_at_call 20; (with_reducible refine (lanesRowNobody g who _ hw).mono ?_); rintro e w1 ⟨rfl, rfl⟩)
    go_ret
    exact ⟨rfl, Only.refl _ _, HL.out⟩
theorem lanesPopNil (who : Int) (w : World) : Calls Try.prog 12 #[.pointer none, .int .i64 who] w fun e w' => e = .returned (.tuple #[.agg #[.string ⟨#[]⟩, .int .i64 0], .bool false]) ∧ Ok w w' := by
  have hok := Ok.refl w
  go_enter Try.func12, Try.ntmps12
  go_wp2_with (go_at_call 18; (with_reducible refine (lanesLenNil who _).mono ?_); rintro e w1 ⟨rfl, rfl⟩)
  exact bodyPost_ret (v := .tuple #[.agg #[.string ⟨#[]⟩, .int .i64 0], .bool false]) (by simp [results, Try.results12, go_sem]) rfl ⟨rfl, hok.alloc _⟩
theorem lanesPopNone (g : Nat) (L : List It) (who N : Int) (w : World) (hL : LaneL w g L) (hG : Lane.Good N L) (hr : Lane.row L who = []) :
    Calls Try.prog 12 #[.pointer (some ⟨g, 0, none⟩), .int .i64 who] w fun e w' => e = .returned (.tuple #[.agg #[.string ⟨#[]⟩, .int .i64 0], .bool false]) ∧ Only g w w' ∧ LaneL w' g (Lane.drop who L) := by
  have hL2 : ∀ w1, LaneL w1 g L → LaneL w1 g (Lane.drop who L) := fun w1 h => h.congr fun v hv => by
    rw [Lane.row_drop]
    by_cases e : (v : Int) = who
    · rw [if_pos e, e, hr]; rfl
    · rw [if_neg e]
  have hok := Ok.refl w
  have K : ∀ W, LaneL W g L → Calls Try.prog 18 #[.pointer (some ⟨g, 0, none⟩), .int .i64 who] W fun e w' => e = .returned (.int .i64 0) ∧ W = w' := fun W h => by
    have h := lanesLen g L who N W h hG
    rwa [hr] at h
  have HK := Lib.hid K
  have HL2 := Lib.hid hL2
  clear K hL2 hr
  go_enter Try.func12, Try.ntmps12
  go_wp2_with (go_at_call 18; (with_reducible refine (HK.out _ (hL.next (hok.alloc _))).mono ?_); rintro e w1 ⟨rfl, rfl⟩)
  exact bodyPost_ret (v := .tuple #[.agg #[.string ⟨#[]⟩, .int .i64 0], .bool false]) (by simp [results, Try.results12, go_sem]) rfl ⟨rfl, Only.of_ok (hok.alloc _), HL2.out _ (hL.next (hok.alloc _))⟩
theorem lanesPopSome (g : Nat) (L : List It) (who N : Int) (x : ByteArray × Int) (t : List (ByteArray × Int)) (w : World) (hL : LaneL w g L) (hG : Lane.Good N L) (hr : Lane.row L who = x :: t) :
    Calls Try.prog 12 #[.pointer (some ⟨g, 0, none⟩), .int .i64 who] w fun e w' => e = .returned (.tuple #[.agg #[.string x.1, .int .i64 x.2], .bool true]) ∧ Only g w w' ∧ LaneL w' g (Lane.drop who L) := by
  have hn : 0 ≤ who ∧ who < 48 := by
    by_cases h : 0 ≤ who ∧ who < 48
    · exact h
    · have := hG.far (w := who) (by omega)
      rw [this] at hr
      cases hr
  obtain ⟨k, rfl⟩ : ∃ k : Nat, who = k := ⟨who.toNat, by omega⟩
  have hk : k < 48 := by omega
  have hrow : ∀ v : Int, Lane.row (Lane.drop k L) v = if v = k then t else Lane.row L v := fun v => by
    rw [Lane.row_drop]
    by_cases e : v = k
    · subst e; rw [if_pos rfl, if_pos rfl, hr]; rfl
    · rw [if_neg e, if_neg e]
  have hok := Ok.refl w
  have K : ∀ W, LaneL W g L → Calls Try.prog 18 #[.pointer (some ⟨g, 0, none⟩), .int .i64 k] W fun e w' => e = .returned (.int .i64 ((t.length + 1 : Nat) : Int)) ∧ W = w' := fun W h => by
    have h := lanesLen g L k N W h hG
    rwa [hr] at h
  have hL1 := hL.next (hok.alloc (.cells #[.string ⟨#[]⟩, .int .i64 0] 36))
  have hZ := Own.new w #[.string ⟨#[]⟩, .int .i64 0] 36 rfl
  obtain ⟨cs, hO, hl⟩ := hL1
  obtain ⟨f, hR⟩ := hl.ring k hk
  rw [hr] at hR
  have hgl := hL.lt
  have HX := Lib.hid (And.intro hl (And.intro hrow hR))
  have HK := Lib.hid K
  have HZ := Lib.hid hZ
  have HO := Lib.hid hO
  obtain ⟨xs, xa⟩ := x
  obtain ⟨T, hT⟩ : ∃ T, t.length = T := ⟨_, rfl⟩
  rw [hT] at HK
  clear hl hrow hR K hn hr hZ hO hT
  have n2 : w.heap.size ≠ g := by omega
  go_enter Try.func12, Try.ntmps12
  go_wp2_with (first | (go_at_call 18; (with_reducible refine (HK.out _ (hL.next (hok.alloc _))).mono ?_); rintro e w1 ⟨rfl, rfl⟩) | (go_at_call 20; (with_reducible refine (lanesRow g k _ hk).mono ?_); rintro e w1 ⟨rfl, rfl⟩) | (go_at_call 23; (with_reducible refine (ringPop g (k * 130) f cs (xs, xa) t _ HO.out HX.out.2.2).mono ?_); rintro e w1 ⟨rfl, hB, cs', hO', hA, hR'⟩; have hZ1 := hB.own HZ.out n2; have z1 := hZ1.cell 0 rfl; have z2 := hZ1.cell 1 rfl; have y1 := hZ1.frozen 0; have y2 := hZ1.frozen 1; have HY := Lib.hid (And.intro hB (And.intro hO' (And.intro hA hR'))); clear hB hO' hA hR'))
  refine bodyPost_ret (v := .tuple #[.agg #[.string xs, .int .i64 xa], .bool true]) (by simp [results, Try.results12, go_sem, z1, z2]) rfl ⟨rfl, ?_, LaneL.turn HX.out.1 ((HY.out.2.1.setOther n2.symm _).setOther n2.symm _) k HY.out.2.2.1 ⟨_, HY.out.2.2.2⟩ fun v => by rw [HX.out.2.1, ifc]⟩
  refine Only.setN ?_ (Nat.le_refl _) _ _
  refine Only.setN ?_ (Nat.le_refl _) _ _
  exact (Only.of_ok (hok.alloc _)).trans HY.out.1
end Go.Proofs.Ytnjlamnpiafpdaa
