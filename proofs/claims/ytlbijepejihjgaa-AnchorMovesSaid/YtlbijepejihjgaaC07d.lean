/- Contracts of layer 7: Fuse, the program's and the document's. -/
import Derived.Test.YtlbijepejihjgaaC07c
import Derived.Test.YtlbijepejihjgaaW17
import Derived.Deep.RegionHeld3
import Derived.Deep.DrawnRows
namespace Go.Proofs.Ytlbijepejihjgaa
open Go.RowKit
set_option maxRecDepth 100000
attribute [local go_sem ↓] Go.wp_at_zero Go.wp_at_succ
theorem infoInt : (Try.prog.info? 3).map (fun i => (i.zero, i.size, i.bytes)) = some (some (.int .i64 0), 1, 8) := by kernel_rfl
theorem lows_snoc {l : List (Int × Int)} {k : Nat} (h : k < l.length) : (l.take (k + 1)).map (·.1) = (l.take k).map (·.1) ++ [l[k].1] ∧ (l.take (k + 1)).map (·.2) = (l.take k).map (·.2) ++ [l[k].2] := by
  rw [take_more h, List.map_append, List.map_append]; exact ⟨rfl, rfl⟩
/-- The two rows, told by the beginning of the list. -/
def Lows (w W : World) (va vb : Value) (l : List (Int × Int)) : Prop :=
  W.ownsRow w.heap.size 3 1 va l.length ((l.map (·.1)).map (Value.int .i64)) ∧ W.ownsRow w.heap.size 3 1 vb l.length ((l.map (·.2)).map (Value.int .i64)) ∧ (∀ g, va.ownBlock = some g → vb.ownBlock ≠ some g) ∧ Ok w W
theorem Lows.start {w W : World} (h : Ok w W) : Lows w W (.slice none 0 0) (.slice none 0 0) [] := ⟨World.ownsRow_nil _ _ _ _, World.ownsRow_nil _ _ _ _, fun g hg => by simp [Value.ownBlock] at hg, h⟩
theorem Lows.duo {w W : World} {va vb : Value} {l : List (Int × Int)} (h : Lows w W va vb l) (x y : Int) (t : TypeId) : Duo w (W.alloc (.cells #[.int .i64 x, .int .i64 y] t)) 3 W.heap.size x y va vb (l.map (·.1)) (l.map (·.2)) :=
  Duo.start t h.2.2.2 (by rw [List.length_map]; exact h.1) (by rw [List.length_map]; exact h.2.1) h.2.2.1
theorem Lows.of_duo {w W : World} {c : Nat} {x y : Int} {va vb : Value} {l : List (Int × Int)} {k : Nat} (hk : k < l.length) (h : Duo w W 3 c x y va vb ((l.take k).map (·.1) ++ [l[k].1]) ((l.take k).map (·.2) ++ [l[k].2])) : Lows w W va vb (l.take (k + 1)) := by
  have ha := h.ra
  have hb := h.rb
  rw [← (lows_snoc hk).1] at ha
  rw [← (lows_snoc hk).2] at hb
  rw [List.length_map] at ha hb
  exact ⟨ha, hb, h.apart, h.ok⟩
/-- Fuse's two ends, of the spans as they are told. -/
def fLo (f : Int) (l : List (Int × Int)) : Int := Trim.val ((l.length : Int) - 1 - f) (l.map (·.1))
def fHi (f : Int) (l : List (Int × Int)) : Int := Trim.val f (l.map (·.2))
theorem ints_of_row {W : World} {B n : Nat} {v : Value} {l : List Int} (hn : l.length = n) (h : W.ownsRow B 3 1 v n (l.map (Value.int .i64))) : ∃ A cap, v = .slice A n cap ∧ IntsAt W A l := by
  subst hn
  exact IntsAt.of_own h
theorem spanEmptyT (lo hi : Int) (h : hi < lo) (w : World) : Calls Try.prog 47 #[spanV lo hi] w fun e w' => e = .returned (.bool true) ∧ Ok w w' := by
  have := spanEmpty lo hi w
  rwa [decide_eq_true h] at this
theorem spanEmptyF (lo hi : Int) (h : lo ≤ hi) (w : World) : Calls Try.prog 47 #[spanV lo hi] w fun e w' => e = .returned (.bool false) ∧ Ok w w' := by
  have := spanEmpty lo hi w
  rwa [decide_eq_false (by omega)] at this
theorem trimFuseFew (f : Int) (A : Option Addr) (l : List (Int × Int)) (cap : Nat) (w : World) (hl : l.length ≤ 1099511627776) (hf : -9223372036854775808 ≤ f ∧ f ≤ 9223372036854775807) (hm : Trim.many f l.length = false) :
    Calls Try.prog 27 #[.int .i64 f, .slice A l.length cap] w fun e w' => e = .returned (.tuple #[spanV 0 0, .bool false]) ∧ Ok w w' := by
  have hok := Ok.refl w
  have KO := Lib.hid fun w => trimOutvotedN f l.length w hl hf
  rw [hm] at KO
  clear hm hf
  go_enter Try.func27, Try.ntmps27
  go_wp2_with (go_at_call 45; refine (KO.out _).mono ?_; rintro e w1 ⟨rfl, rfl⟩)
  exact bodyPost_ret (v := .tuple #[spanV 0 0, .bool false]) (by simp [results, Try.results27, go_sem]) rfl ⟨rfl, hok.alloc _⟩
set_option maxHeartbeats 3200000 in
theorem trimFuseMany (f : Int) (A : Option Addr) (l : List (Int × Int)) (cap : Nat) (w : World) (hA : PairsAt w A l) (hl : l.length ≤ 1099511627776) (hf : -9223372036854775808 ≤ f ∧ f ≤ 9223372036854775807) (hm : Trim.many f l.length = true) :
    Calls Try.prog 27 #[.int .i64 f, .slice A l.length cap] w fun e w' => e = .returned (.tuple #[if fHi f l < fLo f l then spanV 0 0 else spanV (Sat.clip (fLo f l)) (Sat.clip (fHi f l)), .bool (!decide (fHi f l < fLo f l))]) ∧ Ok w w' := by
  have hok := Ok.refl w
  have KO := Lib.hid fun w => trimOutvotedN f l.length w hl hf
  rw [hm] at KO
  obtain ⟨Z, hZ⟩ : ∃ Z : Value, (if fHi f l < fLo f l then spanV 0 0 else spanV (Sat.clip (fLo f l)) (Sat.clip (fHi f l))) = Z := ⟨_, rfl⟩
  obtain ⟨q, hq⟩ : ∃ q : Bool, (!decide (fHi f l < fLo f l)) = q := ⟨_, rfl⟩
  rw [hZ, hq]
  have HZ := Lib.hid (And.intro hZ hq)
  clear hm hf hZ hq
  go_enter Try.func27, Try.ntmps27
  go_wp2_with (go_at_call 45; refine (KO.out _).mono ?_; rintro e w1 ⟨rfl, rfl⟩)
  have hR := Slab.new w 0 0 28 rfl
  replace hok := hok.alloc (.cells #[.int .i64 0, .int .i64 0] 28)
  obtain ⟨r, hr⟩ : ∃ r, w.heap.size = r := ⟨_, rfl⟩
  have hrl := Nat.le_of_eq hr
  rw [hr] at hR ⊢
  replace hA := hA.below hok
  generalize w.alloc (.cells #[.int .i64 0, .int .i64 0] 28) = w0 at hR hok hA ⊢
  go_loopw [6, 7, 22] (fun va vb i wr => ∃ k : Nat, k ≤ l.length ∧ i = .int .i64 k ∧ Lows w0 wr va vb (l.take k)) (fun _ _ i _ => l.length - (intOf i).toNat)
  case atStart => exact ⟨0, Nat.zero_le _, rfl, by rw [List.take_zero]; exact Lows.start (Ok.refl _)⟩
  case round =>
    obtain ⟨k, hk, rfl, hL⟩ := hrel
    by_cases hlt : k < l.length
    · obtain ⟨b, off, hA2, hb, p0, p1⟩ := hA.below hL.2.2.2 k hlt
      subst hA2
      have HD := Lib.hid (hL.duo l[k].1 l[k].2 28)
      have HE := Lib.hid fun W va vb c x y h => Lows.of_duo (w := w0) (W := W) (c := c) (x := x) (y := y) (va := va) (vb := vb) hlt h
      have hlen : (l.take k).length = k := by simp; omega
      have LA := Lib.hid (show ((l.take k).map (·.1)).length = k by simpa using hlen)
      have LB := Lib.hid (show ((l.take k).map (·.2)).length = k by simpa using hlen)
      generalize l[k].1 = x at p0 HD HE
      generalize l[k].2 = y at p1 HD HE
      generalize (l.take k).map (·.1) = la at HD HE LA
      generalize (l.take k).map (·.2) = lb at HD HE LB
      clear hlen hL
      go_upto_region 7 with (fail)
      obtain ⟨c, hc⟩ : ∃ c, wr.heap.size = c := ⟨_, rfl⟩
      rw [hc] at HD ⊢
      have hD := HD.out
      generalize wr.alloc (.cells #[.int .i64 x, .int .i64 y] 28) = W at hD ⊢
      clear HD p0 p1 hc hb
      go_region_held3 (fun w' => w'.cell? ⟨c, 0, none⟩ = some (.int .i64 x) ∧ w'.cell? ⟨c, 1, none⟩ = some (.int .i64 y) ∧ c < w'.heap.size)
        (first | assumption | exact hD.drew.cells | exact (hD.drew.alloc _).cells | exact ((hD.drew.alloc _).alloc _).cells | exact DA.cells | exact (DA.alloc _).cells | exact DB.cells | exact (DB.alloc _).cells)
        (first
          | (refine Duo.stepA (by first | exact DB.alloc _ | exact DB | exact (hD.drew.alloc _).alloc _ | exact hD.drew.alloc _) rfl (.tmp 26) (.tmp 29) 24 rfl Try.underlying24 infoInt rfl _ 1 rfl x ?_ (by rw [LA.out]; omega) ?_; (focus (first | (simp; done) | (refine kB _ _ ?_ ?_ <;> (first | (simp; done) | exact hD.drew.farB (by simp)); done))); intro ga ca WA DA kA)
          | (refine Duo.stepB (by first | exact DA.alloc _ | exact DA | exact (hD.drew.alloc _).alloc _ | exact hD.drew.alloc _) rfl (.tmp 31) (.tmp 34) 24 rfl Try.underlying24 infoInt rfl _ 1 rfl y ?_ (by rw [LB.out]; omega) ?_; (focus (first | (simp; done) | (refine kA _ _ ?_ ?_ <;> (first | (simp; done) | exact hD.drew.farA (by simp)); done))); intro gb cb WB DB kB))
      all_goals
        go_wp2_with fail
        go_roundw
        case rel => exact ⟨k + 1, by omega, by go_num, HE.out _ _ _ _ _ _ (by first | exact DB | exact DA)⟩
        case measure => simp [intOf]; omega
    · obtain ⟨q1, q2, -, hok2⟩ := hL
      rw [List.take_of_length_le (show l.length ≤ k by omega)] at q1 q2
      obtain ⟨A1, c1, rfl, I1⟩ := ints_of_row (l := l.map (·.1)) (by simp) q1
      obtain ⟨A2, c2, rfl, I2⟩ := ints_of_row (l := l.map (·.2)) (by simp) q2
      have KM := Lib.hid fun w h => trimMost f A1 (l.map (·.1)) c1 w h (by simpa using hl)
      have KL := Lib.hid fun w h => trimLeast f A2 (l.map (·.2)) c2 w h (by simpa using hl)
      rw [List.length_map] at KM KL
      replace hR := hR.next hok2
      replace hok2 := hok.trans hok2
      clear q1 q2 hA hok
      rw [show Trim.val ((l.length : Int) - 1 - f) (l.map (·.1)) = fLo f l from rfl] at KM
      rw [show Trim.val f (l.map (·.2)) = fHi f l from rfl] at KL
      generalize Trim.is f l.length = qb at KM KL
      generalize fLo f l = lo at KM HZ
      generalize fHi f l = hi at KL HZ
      by_cases hlh : hi < lo
      · have hz : Z = spanV 0 0 ∧ q = false := ⟨by rw [← HZ.out.1, if_pos hlh], by rw [← HZ.out.2, decide_eq_true hlh]; rfl⟩
        go_wp2_with (first
          | (go_at_call 46; refine (KM.out _ I1).mono ?_; rintro e w2 ⟨rfl, hb1⟩; replace hR := hR.next hb1; have J2 := I2.below hb1; replace hok2 := hok2.trans hb1; clear hb1)
          | (go_at_call 25; refine (KL.out _ J2).mono ?_; rintro e w3 ⟨rfl, hb1⟩; replace hR := hR.next hb1; replace hok2 := hok2.trans hb1; clear hb1)
          | (go_at_call 47; refine (spanEmptyT _ _ hlh _).mono ?_; rintro e w5 ⟨rfl, hb1⟩; replace hR := hR.next hb1; have hok3 := hok2.trans hb1; clear hb1; have c0 := hR.c0; have c1 := hR.c1; have f0 := hR.f0; have f1 := hR.f1; have hrl2 := hR.lt))
        have hF := hR.set 0 0
        have hok4 := (hok3.setCell (p := ⟨r, 0, none⟩) hrl (.int .i64 0)).setCell (p := ⟨r, 1, none⟩) hrl (.int .i64 0)
        generalize (w5.setCell ⟨r, 0, none⟩ (.int .i64 0)).setCell ⟨r, 1, none⟩ (.int .i64 0) = W at hF hok4 ⊢
        have e0 := hF.c0
        have e1 := hF.c1
        exact bodyPost_ret (v := .tuple #[spanV 0 0, .bool false]) (by simp [results, Try.results27, go_sem, e0, e1]) rfl ⟨by rw [hz.1, hz.2], hok4⟩
      · have hz : Z = spanV (Sat.clip lo) (Sat.clip hi) ∧ q = true := ⟨by rw [← HZ.out.1, if_neg hlh], by rw [← HZ.out.2, decide_eq_false hlh]; rfl⟩
        have hlh' : lo ≤ hi := Int.not_lt.1 hlh
        go_wp2_with (first
          | (go_at_call 46; refine (KM.out _ I1).mono ?_; rintro e w2 ⟨rfl, hb1⟩; replace hR := hR.next hb1; have J2 := I2.below hb1; replace hok2 := hok2.trans hb1; clear hb1)
          | (go_at_call 25; refine (KL.out _ J2).mono ?_; rintro e w3 ⟨rfl, hb1⟩; replace hR := hR.next hb1; replace hok2 := hok2.trans hb1; clear hb1)
          | (go_at_call 47; refine (spanEmptyF _ _ hlh' _).mono ?_; rintro e w5 ⟨rfl, hb1⟩; replace hR := hR.next hb1; replace hok2 := hok2.trans hb1; clear hb1)
          | (go_at_call 20; refine (spanOf _ _ _).mono ?_; rintro e w4 ⟨rfl, hb1⟩; replace hR := hR.next hb1; have hok3 := hok2.trans hb1; clear hb1; have c0 := hR.c0; have c1 := hR.c1; have f0 := hR.f0; have f1 := hR.f1; have hrl2 := hR.lt))
        have hF := hR.set (Sat.clip lo) (Sat.clip hi)
        have hok4 := (hok3.setCell (p := ⟨r, 0, none⟩) hrl (.int .i64 (Sat.clip lo))).setCell (p := ⟨r, 1, none⟩) hrl (.int .i64 (Sat.clip hi))
        generalize (w4.setCell ⟨r, 0, none⟩ (.int .i64 (Sat.clip lo))).setCell ⟨r, 1, none⟩ (.int .i64 (Sat.clip hi)) = W at hF hok4 ⊢
        have e0 := hF.c0
        have e1 := hF.c1
        exact bodyPost_ret (v := .tuple #[spanV (Sat.clip lo) (Sat.clip hi), .bool true]) (by simp [results, Try.results27, go_sem, e0, e1]) rfl ⟨by rw [hz.1, hz.2], hok4⟩

end Go.Proofs.Ytlbijepejihjgaa
