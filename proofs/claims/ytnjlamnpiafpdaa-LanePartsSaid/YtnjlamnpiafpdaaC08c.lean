/- Contracts of layer 8: a ring gets older. -/
import Derived.Test.YtnjlamnpiafpdaaC08a
import Derived.Test.YtnjlamnpiafpdaaM17
namespace Go.Proofs.Ytnjlamnpiafpdaa
open Go.RowKit
set_option maxRecDepth 100000
/-- Behind k rounds of the first loop. -/
def AgedAt (g o f : Nat) (cs : Array Value) (l : List (ByteArray × Int)) (w : World) (k : Nat) (wr : World) : Prop := Only g w wr ∧ ∃ cs1, Own wr g cs1 ∧ Aside o cs cs1 ∧ Ring cs1 o f (Lane.aged k l)
/-- Behind some rounds of the second loop: j are gone, m wait. -/
def LeftAt (g o : Nat) (cs : Array Value) (l : List (ByteArray × Int)) (most : Int) (w : World) (j : Nat) (m : List (ByteArray × Int)) (wr : World) : Prop :=
  Only g w wr ∧ j + m.length = l.length ∧ Lane.keep most m = Lane.older most l ∧ Lane.Falls m ∧ (∀ x ∈ m, 0 ≤ x.2 ∧ x.2 ≤ 4611686018427387904) ∧ ∃ cs1 f, Own wr g cs1 ∧ Aside o cs cs1 ∧ Ring cs1 o f m
def TickEnd (g o : Nat) (cs : Array Value) (l : List (ByteArray × Int)) (most : Int) (w : World) (e : Ending) (w' : World) : Prop :=
  e = .returned (.int .i64 ((l.length - (Lane.older most l).length : Nat) : Int)) ∧ Only g w w' ∧ ∃ cs' f, Own w' g cs' ∧ Aside o cs cs' ∧ Ring cs' o f (Lane.older most l)
theorem left_start {g o f : Nat} {cs : Array Value} {l : List (ByteArray × Int)} {w wr : World} (most : Int) (h : AgedAt g o f cs l w l.length wr) (hF : Lane.Falls l) (hb : ∀ x ∈ l, 0 ≤ x.2 ∧ x.2 < 4611686018427387904) : ∃ m, LeftAt g o cs l most w 0 m wr := by
  obtain ⟨h1, cs1, h2, h3, h4⟩ := h
  rw [Lane.aged_all] at h4
  refine ⟨_, h1, by simp, (Lane.older_keep most l).symm, hF.map, fun x hx => ?_, cs1, f, h2, h3, h4⟩
  obtain ⟨y, hy, rfl⟩ := List.mem_map.1 hx
  have := hb y hy
  simp only
  omega
theorem left_end {g o : Nat} {cs : Array Value} {l m : List (ByteArray × Int)} {w wr : World} {most : Int} {j : Nat} (h : LeftAt g o cs l most w j m wr) (hk : Lane.keep most m = m) : TickEnd g o cs l most w (.returned (.int .i64 (j : Int))) wr := by
  obtain ⟨h1, h2, h3, _, _, cs1, f, h4, h5, h6⟩ := h
  rw [hk] at h3
  subst h3
  exact ⟨ret_int (by omega), h1, cs1, f, h4, h5, h6⟩
theorem aged_next {g o f : Nat} {cs : Array Value} {l : List (ByteArray × Int)} {w wr w2 : World} {k : Nat} (hk : k < l.length) {cs1 : Array Value} (h1 : Only g w wr) (h2 : Own w2 g cs1) (h3 : Aside o cs cs1) (h4 : Ring cs1 o f (Lane.aged k l)) (hok : Ok wr w2) {a : Int} (ha : l[k].2 = a) :
    AgedAt g o f cs l w (k + 1) (w2.setCell ⟨g, o + (f + k) % 64 * 2 + 1, none⟩ (.int .i64 (a + 1))) := by
  subst ha
  have hk' : k < (Lane.aged k l).length := by rw [Lane.aged_length]; exact hk
  refine ⟨(h1.ok hok).setR _ _, _, h2.set _ _, h3.set (by omega) (by omega) _, ?_⟩
  have h := h4.older k hk' (l[k].2 + 1)
  rwa [Lane.aged_at k l hk hk', Lane.aged_set k l hk] at h
theorem TickEnd.next {g o : Nat} {cs : Array Value} {l : List (ByteArray × Int)} {most : Int} {w wr w2 : World} {e : Ending} (h : TickEnd g o cs l most w e wr) (hok : Ok wr w2) : TickEnd g o cs l most w e w2 := by
  obtain ⟨h1, h2, cs', f, h3, h4, h5⟩ := h
  exact ⟨h1, h2.ok hok, cs', f, h3.next hok, h4, h5⟩
set_option maxHeartbeats 1000000 in
theorem ringTick (g o f : Nat) (cs : Array Value) (l : List (ByteArray × Int)) (most : Int) (w : World) (hO : Own w g cs) (hR : Ring cs o f l) (hF : Lane.Falls l) (hb : ∀ x ∈ l, 0 ≤ x.2 ∧ x.2 < 4611686018427387904) :
    Calls Try.prog 24 #[.pointer (some ⟨g, o, none⟩), .int .i64 most] w (TickEnd g o cs l most w) := by
  have hl := hR.hl
  have H0 : Hid (AgedAt g o f cs l w 0 w) := Lib.hid ⟨Only.refl _ _, cs, hO, Aside.refl _ _, by rw [Lane.aged_zero]; exact hR⟩
  have HF := Lib.hid hF
  have HB := Lib.hid hb
  have c0 := hO.cell _ hR.count
  clear hR hF hb
  go_enter Try.func24, Try.ntmps24
  go_wp2_with fail
  go_loopw [11] (fun i wr => ∃ k : Nat, k ≤ l.length ∧ i = .int .i64 k ∧ Hid (AgedAt g o f cs l w k wr)) (fun i _ => l.length - (intOf i).toNat)
  case atStart => exact ⟨0, Nat.zero_le _, rfl, H0⟩
  case round =>
    obtain ⟨k, hk, rfl, hrel⟩ := hrel
    clear H0 c0
    by_cases hlt : k < l.length
    · obtain ⟨h1, cs1, h2, h3, h4⟩ := hrel.out
      clear hrel
      obtain ⟨a, ha⟩ : ∃ a, l[k].2 = a := ⟨_, rfl⟩
      have hb := HB.out _ (List.getElem_mem hlt)
      rw [ha] at hb
      obtain ⟨hb1, hb2⟩ := hb
      have hk' : k < (Lane.aged k l).length := by rw [Lane.aged_length]; exact hlt
      have k1 := h4.age k hk'
      rw [Lane.aged_at k l hlt hk', ha] at k1
      have hf := h4.hf
      have H1 := Lib.hid h4.first
      have H2 := Lib.hid k1
      have HA := Lib.hid ha
      have HR := Lib.hid (And.intro h1 (And.intro h3 h4))
      clear k1 ha h1 h3 h4 hO
      go_wp2_with fail
      refine (ringAt g o f k _ hf (by omega) ?c2 ?g2).mono ?_
      case c2 => exact h2.cell _ H1.out
      case g2 => exact h2.lt
      rintro e w2 ⟨rfl, hK2⟩
      have hO2 := h2.next hK2
      have HK := Lib.hid hK2
      clear hK2 h2
      have c1 := hO2.cell _ H2.out
      have f1 := hO2.frozen (o + (f + k) % 64 * 2 + 1)
      go_wp2_with fail
      go_roundw
      case rel => exact ⟨k + 1, by omega, by go_num, Lib.hid (aged_next hlt HR.out.1 hO2 HR.out.2.1 HR.out.2.2 HK.out HA.out)⟩
      case measure => simp [intOf]; omega
    · obtain rfl : k = l.length := by omega
      obtain ⟨m0, hm0⟩ := left_start most hrel.out HF.out HB.out
      have HM := Lib.hid hm0
      clear hm0 hrel hO HF HB
      go_wp2_with fail
      go_loopw [6] (fun v wr => ∃ (j : Nat) (m : List (ByteArray × Int)), j ≤ l.length ∧ v = .int .i64 j ∧ Hid (LeftAt g o cs l most w j m wr)) (fun v _ => l.length - (intOf v).toNat)
      case atStart => exact ⟨0, m0, Nat.zero_le _, rfl, HM⟩
      case round =>
        obtain ⟨j, m, hj, rfl, hrel⟩ := hrel
        clear HM
        cases m with
        | nil =>
          obtain ⟨_, _, _, _, _, cs1, F, hO1, _, hR1⟩ := hrel.out
          have c1 := hO1.cell _ hR1.count
          have HE := Lib.hid (left_end hrel.out (Lane.keep_nil most))
          simp only [List.length_nil] at c1
          clear hrel hO1 hR1
          go_wp2_with fail
          go_ret
          exact HE.out
        | cons x t =>
          obtain ⟨h1, h2, h3, h4, h5, cs1, F, hO1, hA, hR1⟩ := hrel.out
          have hf := hR1.hf
          have k2 := hR1.count
          have k3 : cs1[o + F * 2 + 1]? = some (.int .i64 x.2) := by have := hR1.age 0 (by simp); rwa [show (F + 0) % 64 = F by omega] at this
          have H1 := Lib.hid hR1.first
          simp only [List.length_cons] at k2 h2
          have hj1 : j < l.length := by omega
          have H2 := Lib.hid k2
          have H3 := Lib.hid k3
          have HR := Lib.hid hR1
          have HX := Lib.hid (And.intro h1 (And.intro h3 (And.intro h4 (And.intro h5 hA))))
          obtain ⟨T, hT⟩ : ∃ T, t.length = T := ⟨_, rfl⟩
          have hx := h5 x List.mem_cons_self
          obtain ⟨xs, xa⟩ := x
          simp only at hx H3
          rw [hT] at H2 h2
          have HT := Lib.hid hT
          have HJ := Lib.hid h2
          have c1 := hO1.cell _ H2.out
          clear k2 k3 hR1 h1 h3 h4 h5 hA hT h2
          by_cases hgt : most < xa
          · clear hrel
            go_wp2_with fail
            refine (ringAt0 g o F _ hf ?c2 ?g2).mono ?_
            case c2 => exact hO1.cell _ H1.out
            case g2 => exact hO1.lt
            rintro e w2 ⟨rfl, hK2⟩
            have hO2 := hO1.next hK2
            have HK := Lib.hid hK2
            clear hK2 c1 hO1
            have c2 := hO2.cell _ H3.out
            go_wp2_with fail
            refine (ringPop g o F cs1 (xs, xa) t _ hO2 HR.out).mono ?_
            rintro e w3 ⟨rfl, hB, cs2, hO3, hA3, hR3⟩
            have HN : Hid (LeftAt g o cs l most w (j + 1) t w3) := Lib.hid ⟨(HX.out.1.ok HK.out).trans hB, by rw [HT.out]; have := HJ.out; omega, by rw [← Lane.keep_drop (x := (xs, xa)) hgt]; exact HX.out.2.1, HX.out.2.2.1.tail, fun y hy => HX.out.2.2.2.1 y (List.mem_cons_of_mem _ hy), cs2, _, hO3, HX.out.2.2.2.2.trans hA3, hR3⟩
            clear hB hO3 hA3 hR3 HX HR H1 H2 H3 HJ HT c2 hO2
            go_wp2_with fail
            go_roundw
            case rel => exact ⟨j + 1, t, by omega, by go_num, HN⟩
            case measure => simp [intOf]; omega
          · have HE := Lib.hid (left_end hrel.out (Lane.keep_all (by simp only; omega) HX.out.2.2.1))
            clear hrel
            go_wp2_with fail
            refine (ringAt0 g o F _ hf ?c2 ?g2).mono ?_
            case c2 => exact hO1.cell _ H1.out
            case g2 => exact hO1.lt
            rintro e w2 ⟨rfl, hK2⟩
            have hO2 := hO1.next hK2
            have HK := Lib.hid hK2
            clear hK2 c1 hO1
            have c2 := hO2.cell _ H3.out
            go_wp2_with fail
            go_ret
            exact HE.out.next HK.out
end Go.Proofs.Ytnjlamnpiafpdaa
