/- Contracts of layer 7: Fuse, the document's. -/
import Derived.Test.YtlbijepejihjgaaC07d
namespace Go.Proofs.Ytlbijepejihjgaa
open Go.RowKit
set_option maxRecDepth 100000
theorem ref7FuseFew (f : Int) (A : Option Addr) (l : List (Int × Int)) (cap : Nat) (w : World) (hl : l.length ≤ 1099511627776) (hm : Trim.many f l.length = false) :
    Calls Try.prog 13 #[.int .i64 f, .slice A l.length cap] w fun e w' => e = .returned (.tuple #[spanV 0 0, .bool false]) ∧ Ok w w' := by
  have hok := Ok.refl w
  have KO := Lib.hid fun w => ref7Few f l.length w hl
  rw [hm] at KO
  clear hm
  go_enter Try.func13, Try.ntmps13
  go_wp2_with (go_at_call 28; refine (KO.out _).mono ?_; rintro e w1 ⟨rfl, rfl⟩)
  exact bodyPost_ret (v := .tuple #[spanV 0 0, .bool false]) (by simp [results, Try.results13, go_sem]) rfl ⟨rfl, hok.alloc _⟩
set_option maxHeartbeats 3200000 in
theorem ref7FuseMany (f : Int) (A : Option Addr) (l : List (Int × Int)) (cap : Nat) (w : World) (hA : PairsAt w A l) (hl : l.length ≤ 1099511627776) (hm : Trim.many f l.length = true) :
    Calls Try.prog 13 #[.int .i64 f, .slice A l.length cap] w fun e w' => e = .returned (.tuple #[if fHi f l < fLo f l then spanV 0 0 else spanV (Sat.clip (fLo f l)) (Sat.clip (fHi f l)), .bool (!decide (fHi f l < fLo f l))]) ∧ Ok w w' := by
  have hok := Ok.refl w
  have KO := Lib.hid fun w => ref7Few f l.length w hl
  rw [hm] at KO
  obtain ⟨Z, hZ⟩ : ∃ Z : Value, (if fHi f l < fLo f l then spanV 0 0 else spanV (Sat.clip (fLo f l)) (Sat.clip (fHi f l))) = Z := ⟨_, rfl⟩
  obtain ⟨q, hq⟩ : ∃ q : Bool, (!decide (fHi f l < fLo f l)) = q := ⟨_, rfl⟩
  rw [hZ, hq]
  have HZ := Lib.hid (And.intro hZ hq)
  clear hm hZ hq
  go_enter Try.func13, Try.ntmps13
  go_wp2_with (go_at_call 28; refine (KO.out _).mono ?_; rintro e w1 ⟨rfl, rfl⟩)
  have hR := Slab.new w 0 0 28 rfl
  replace hok := hok.alloc (.cells #[.int .i64 0, .int .i64 0] 28)
  obtain ⟨r, hr⟩ : ∃ r, w.heap.size = r := ⟨_, rfl⟩
  have hrl := Nat.le_of_eq hr
  rw [hr] at hR ⊢
  replace hA := hA.below hok
  generalize w.alloc (.cells #[.int .i64 0, .int .i64 0] 28) = w0 at hR hok hA ⊢
  go_loopw [6, 7, 21] (fun va vb i wr => ∃ k : Nat, k ≤ l.length ∧ i = .int .i64 k ∧ Lows w0 wr va vb (l.take k)) (fun _ _ i _ => l.length - (intOf i).toNat)
  case atStart => exact ⟨0, Nat.zero_le _, rfl, by rw [List.take_zero]; exact Lows.start (Ok.refl _)⟩
  case round =>
    obtain ⟨k, hk, rfl, hL⟩ := hrel
    by_cases hlt : k < l.length
    · obtain ⟨b, off, hA2, hb, p0, p1⟩ := hA.below hL.2.2.2 k hlt
      subst hA2
      have HD := Lib.hid (hL.duo l[k].1 l[k].2 28)
      have HE := Lib.hid fun W va vb c x y h => Lows.of_duo (w := w0) (W := W) (c := c) (x := x) (y := y) (va := va) (vb := vb) hlt h
      have hlen : (l.take k).length = k := by simp; omega
      have LA := Lib.hid (show ((l.take k).map (·.1)).length = k by simpa using hlen)
      have LB := Lib.hid (show ((l.take k).map (·.2)).length = k by simpa using hlen)
      generalize l[k].1 = x at p0 HD HE
      generalize l[k].2 = y at p1 HD HE
      generalize (l.take k).map (·.1) = la at HD HE LA
      generalize (l.take k).map (·.2) = lb at HD HE LB
      clear hlen hL
      go_upto_region 8 with (fail)
      obtain ⟨c, hc⟩ : ∃ c, wr.heap.size = c := ⟨_, rfl⟩
      rw [hc] at HD ⊢
      have hD := HD.out
      generalize wr.alloc (.cells #[.int .i64 x, .int .i64 y] 28) = W at hD ⊢
      clear HD p0 p1 hc hb
      obtain ⟨d0, d1, d2⟩ := hD.cells
      go_upto_region 9 with (at_builtin; refine Duo.listA (hD.alloc _) rfl (.tmp 25) (.tmp 28) 24 rfl Try.underlying24 infoInt rfl _ 1 rfl x (by simp) (by rw [LA.out]; omega) ?_; intro ga ca WA DA)
      obtain ⟨d0, d1, d2⟩ := DA.cells
      go_upto_region 10 with (at_builtin; refine Duo.listB (DA.alloc _) rfl (.tmp 30) (.tmp 33) 24 rfl Try.underlying24 infoInt rfl _ 1 rfl y (by simp) (by rw [LB.out]; omega) ?_; intro gb cb WB DB)
      all_goals
        go_wp2_with fail
        go_roundw
        case rel => exact ⟨k + 1, by omega, by go_num, HE.out _ _ _ _ _ _ (by first | exact DB)⟩
        case measure => simp [intOf]; omega
    · obtain ⟨q1, q2, -, hok2⟩ := hL
      rw [List.take_of_length_le (show l.length ≤ k by omega)] at q1 q2
      obtain ⟨A1, c1, rfl, I1⟩ := ints_of_row (l := l.map (·.1)) (by simp) q1
      obtain ⟨A2, c2, rfl, I2⟩ := ints_of_row (l := l.map (·.2)) (by simp) q2
      have KM := Lib.hid fun w h => ref7Most f A1 (l.map (·.1)) c1 w h (by simpa using hl)
      have KL := Lib.hid fun w h => ref7Least f A2 (l.map (·.2)) c2 w h (by simpa using hl)
      rw [List.length_map] at KM KL
      replace hR := hR.next hok2
      replace hok2 := hok.trans hok2
      clear q1 q2 hA hok
      rw [show Trim.val ((l.length : Int) - 1 - f) (l.map (·.1)) = fLo f l from rfl] at KM
      rw [show Trim.val f (l.map (·.2)) = fHi f l from rfl] at KL
      generalize Trim.is f l.length = qb at KM KL
      generalize fLo f l = lo at KM HZ
      generalize fHi f l = hi at KL HZ
      by_cases hlh : hi < lo
      · have hz : Z = spanV 0 0 ∧ q = false := ⟨by rw [← HZ.out.1, if_pos hlh], by rw [← HZ.out.2, decide_eq_true hlh]; rfl⟩
        have c0 := hR.c0
        have c1 := hR.c1
        have f0 := hR.f0
        have f1 := hR.f1
        have hrl2 := hR.lt
        go_wp2_with (first
          | (go_at_call 29; refine (KM.out _ I1).mono ?_; rintro e w2 ⟨rfl, rfl⟩)
          | (go_at_call 26; refine (KL.out _ I2).mono ?_; rintro e w3 ⟨rfl, rfl⟩))
        have hF := hR.set 0 0
        have hok4 := (hok2.setCell (p := ⟨r, 0, none⟩) hrl (.int .i64 0)).setCell (p := ⟨r, 1, none⟩) hrl (.int .i64 0)
        generalize (wr.setCell ⟨r, 0, none⟩ (.int .i64 0)).setCell ⟨r, 1, none⟩ (.int .i64 0) = W at hF hok4 ⊢
        have e0 := hF.c0
        have e1 := hF.c1
        exact bodyPost_ret (v := .tuple #[spanV 0 0, .bool false]) (by simp [results, Try.results13, go_sem, e0, e1]) rfl ⟨by rw [hz.1, hz.2], hok4⟩
      · have hz : Z = spanV (Sat.clip lo) (Sat.clip hi) ∧ q = true := ⟨by rw [← HZ.out.1, if_neg hlh], by rw [← HZ.out.2, decide_eq_false hlh]; rfl⟩
        have c0 := hR.c0
        have c1 := hR.c1
        have f0 := hR.f0
        have f1 := hR.f1
        have hrl2 := hR.lt
        go_wp2_with (first
          | (go_at_call 29; refine (KM.out _ I1).mono ?_; rintro e w2 ⟨rfl, rfl⟩)
          | (go_at_call 26; refine (KL.out _ I2).mono ?_; rintro e w3 ⟨rfl, rfl⟩)
          | (go_at_call 30; refine (ref3Of _ _ _).mono ?_; rintro e w4 ⟨rfl, hb1⟩; clear c0 c1 f0 f1 hrl2; replace hR := hR.next hb1; have hok3 := hok2.trans hb1; clear hb1; have c0 := hR.c0; have c1 := hR.c1; have f0 := hR.f0; have f1 := hR.f1; have hrl2 := hR.lt))
        have hF := hR.set (Sat.clip lo) (Sat.clip hi)
        have hok4 := (hok3.setCell (p := ⟨r, 0, none⟩) hrl (.int .i64 (Sat.clip lo))).setCell (p := ⟨r, 1, none⟩) hrl (.int .i64 (Sat.clip hi))
        generalize (w4.setCell ⟨r, 0, none⟩ (.int .i64 (Sat.clip lo))).setCell ⟨r, 1, none⟩ (.int .i64 (Sat.clip hi)) = W at hF hok4 ⊢
        have e0 := hF.c0
        have e1 := hF.c1
        exact bodyPost_ret (v := .tuple #[spanV (Sat.clip lo) (Sat.clip hi), .bool true]) (by simp [results, Try.results13, go_sem, e0, e1]) rfl ⟨by rw [hz.1, hz.2], hok4⟩

end Go.Proofs.Ytlbijepejihjgaa
