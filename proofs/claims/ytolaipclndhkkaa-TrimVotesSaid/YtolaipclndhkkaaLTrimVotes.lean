/- TrimVotes: for every f, slice of integers, slice of truth values and integer the law answers true: what is agreed upon at least one says who is right; what all of these say, more than f, is agreed upon. No condition. -/
import Derived.Test.YtolaipclndhkkaaC07h
import Derived.Test.YtolaipclndhkkaaC07f
import Derived.Test.YtolaipclndhkkaaW19
namespace Go.Proofs.Ytolaipclndhkkaa.trimVotes
open Go.ChangeShapes Go.WideShapes Go.ChangeAt Go.RowKit
set_option linter.unusedVariables false
set_option maxRecDepth 100000

def isWrong (p : Int × Bool) : Bool := !p.2
def isRight (p : Int × Bool) : Bool := p.2
def says (x : Int) (p : Int × Bool) : Bool := !p.2 || decide (p.1 = x)
def said (v : Int) (p : Int × Bool) : Bool := p.2 && decide (p.1 = v)
theorem best_inv (l : List Int) (f : Int) : ∀ k, k ≤ l.length → (((Trim.bestTo l f k).1 = -1 ∧ (Trim.bestTo l f k).2 = f) ∨ ∃ (j : Nat) (h : j < l.length), (Trim.bestTo l f k).1 = j ∧ (Trim.bestTo l f k).2 = (Trim.same l l[j] : Int) ∧ f < (Trim.bestTo l f k).2) ∧
    f ≤ (Trim.bestTo l f k).2 ∧ ∀ j (h : j < l.length), j < k → (Trim.same l l[j] : Int) ≤ (Trim.bestTo l f k).2 := by
  intro k
  induction k with
  | zero => intro _; exact ⟨.inl ⟨rfl, rfl⟩, Int.le_refl _, fun j _ h => absurd h (Nat.not_lt_zero j)⟩
  | succ k ih =>
    intro h
    obtain ⟨h1, h2, h3⟩ := ih (by omega)
    have hk : k < l.length := by omega
    rw [Trim.bestTo_snoc hk]
    by_cases c : (Trim.bestTo l f k).2 < (Trim.same l l[k] : Int)
    · rw [if_pos c]
      refine ⟨.inr ⟨k, hk, rfl, rfl, by show f < (Trim.same l l[k] : Int); omega⟩, by show f ≤ (Trim.same l l[k] : Int); omega, fun j hj hjk => ?_⟩
      show (Trim.same l l[j] : Int) ≤ (Trim.same l l[k] : Int)
      by_cases e : j = k
      · subst e; exact Int.le_refl _
      · have := h3 j hj (by omega); omega
    · rw [if_neg c]
      refine ⟨h1, h2, fun j hj hjk => ?_⟩
      by_cases e : j = k
      · subst e; omega
      · exact h3 j hj (by omega)
theorem same_zip (l : List Int) (r : List Bool) (h : r.length = l.length) (y : Int) : Trim.same l y = (l.zip r).countP (fun p => decide (y = p.1)) := by
  have e : (l.zip r).map (·.1) = l := List.map_fst_zip (by omega)
  unfold Trim.same
  conv => lhs; rw [← e]
  rw [List.countP_map]
  rfl
/-- What the law asks, of plain lists. -/
theorem voted {f : Int} {l : List Int} {r : List Bool} {x : Int} (hlen : r.length = l.length) (hw : ((l.zip r).countP isWrong : Int) ≤ f) :
    ((l.zip r).all (says x) = true → f < ((l.zip r).countP isRight : Int) → decide (0 ≤ (Trim.bestTo l f l.length).1) = true ∧ Trim.bestVal l (Trim.bestTo l f l.length).1 = x) ∧
    (!decide (0 ≤ (Trim.bestTo l f l.length).1) || (l.zip r).any (said (Trim.bestVal l (Trim.bestTo l f l.length).1))) = true := by
  obtain ⟨h1, h2, h3⟩ := best_inv l f l.length (Nat.le_refl _)
  constructor
  · intro ha hn
    have hx : ((l.zip r).countP isRight : Int) ≤ Trim.same l x := by
      rw [same_zip l r hlen]
      have : (l.zip r).countP isRight ≤ (l.zip r).countP (fun p => decide (x = p.1)) := Trim.countP_mono fun p hp hr => by
        have := List.all_eq_true.1 ha p hp
        unfold says at this
        unfold isRight at hr
        rw [hr] at this
        simp at this
        simp [this]
      omega
    have hpos : 0 < Trim.same l x := by omega
    obtain ⟨y, hy, hxy⟩ := List.countP_pos_iff.1 hpos
    obtain rfl : x = y := by simpa using hxy
    obtain ⟨j, hj, e⟩ := List.getElem_of_mem hy
    have h4 := h3 j hj hj
    rw [e] at h4
    rcases h1 with ⟨_, h5⟩ | ⟨i, hi, h5, h6, h7⟩
    · omega
    · rw [h5]
      refine ⟨decide_eq_true (by omega), ?_⟩
      rw [Trim.bestVal_at hi]
      apply Classical.byContradiction
      intro hne
      have : Trim.same l l[i] ≤ (l.zip r).countP isWrong := by
        rw [same_zip l r hlen]
        refine Trim.countP_mono fun p hp he => ?_
        have hs := List.all_eq_true.1 ha p hp
        have he' : l[i] = p.1 := by simpa using he
        unfold says at hs
        unfold isWrong
        cases hq : p.2 with
        | false => rfl
        | true => rw [hq] at hs; simp at hs; exact absurd (he'.trans hs) hne
      omega
  · rcases h1 with ⟨h5, _⟩ | ⟨i, hi, h5, h6, h7⟩
    · rw [h5]; rfl
    · rw [h5, Trim.bestVal_at hi]
      have hs : ((l.zip r).countP isWrong : Int) < (l.zip r).countP (fun p => decide (l[i] = p.1)) := by
        rw [← same_zip l r hlen]; omega
      have : ∃ p ∈ l.zip r, said l[i] p = true := by
        apply Classical.byContradiction
        intro hno
        have : (l.zip r).countP (fun p => decide (l[i] = p.1)) ≤ (l.zip r).countP isWrong := Trim.countP_mono fun p hp he => by
          unfold isWrong
          cases hq : p.2 with
          | false => rfl
          | true =>
            have he' : l[i] = p.1 := by simpa using he
            exact absurd ⟨p, hp, by unfold said; rw [hq, ← he']; simp⟩ hno
        omega
      rw [List.any_eq_true.2 this]
      simp
theorem count_snoc {α : Type} (p : α → Bool) {z : List α} {k : Nat} (h : k < z.length) : (z.take (k + 1)).countP p = (z.take k).countP p + if p z[k] = true then 1 else 0 := by
  rw [take_more h, List.countP_append, List.countP_cons, List.countP_nil, Nat.zero_add]
theorem all_snoc {α : Type} (p : α → Bool) {z : List α} {k : Nat} (h : k < z.length) : (z.take (k + 1)).all p = ((z.take k).all p && p z[k]) := by
  rw [take_more h, List.all_append]; simp
theorem any_snoc {α : Type} (p : α → Bool) {z : List α} {k : Nat} (h : k < z.length) : (z.take (k + 1)).any p = ((z.take k).any p || p z[k]) := by
  rw [take_more h, List.any_append]; simp
set_option maxHeartbeats 6400000 in
theorem walk (w : World) (f : Int) (wf : (Lit.int .i64 f).wf = true) (A : Option Addr) (l : List Int) (c : Nat) (hA : IntsAt w A l) (hl : l.length ≤ 9223372036854775807) (hw : ∀ x ∈ l, (Lit.int .i64 x).wf = true) (B : Option Addr) (r : List Bool) (c2 : Nat) (hB : BoolsAt w B r) (hl2 : r.length ≤ 9223372036854775807) (x : Int) (wx : (Lit.int .i64 x).wf = true) :
    Calls Try.prog 8 #[.int .i64 f, .slice A l.length c, .slice B r.length c2, .int .i64 x] w fun e w' => e = .returned (.bool true) ∧ Below w.heap.size w w' := by
  clear wf wx
  have hok := Ok.refl w
  by_cases hbig : 256 < l.length ∨ f < 0
  · clear hw
    go_enter Try.func8, Try.ntmps8
    go_wp2_with (go_at_call 17; refine (law7Alive _).mono ?_; rintro e w1 ⟨rfl, hb1⟩; replace hok := hok.trans hb1; clear hb1)
    all_goals first
      | (exfalso; omega)
      | (go_ret; exact ⟨rfl, hok⟩)
  by_cases hne : r.length ≠ l.length
  · clear hw
    have q1 : ¬ (256 : Int) < l.length := by omega
    have q2 : ¬ f < 0 := by omega
    have q3 : ¬ (r.length : Int) = l.length := by omega
    have q4 : ((r.length : Int) != (l.length : Int)) = true := by simpa using q3
    clear hne hbig
    go_enter Try.func8, Try.ntmps8
    go_wp2_with (go_at_call 17; refine (law7Alive _).mono ?_; rintro e w1 ⟨rfl, hb1⟩; replace hok := hok.trans hb1; clear hb1)
    go_ret
    exact ⟨rfl, hok⟩
  · have hlen : r.length = l.length := by omega
    have h2 : 0 ≤ f := by omega
    have HV := Lib.hid fun h => voted (f := f) (l := l) (r := r) (x := x) hlen h
    have KF := Lib.hid fun w h => trimAgreed f A l c w h (by omega) hw
    have hz : (l.zip r).length = l.length := by rw [List.length_zip]; omega
    have HG := Lib.hid (show ∀ k (h : k < l.length) (h' : k < (l.zip r).length) (h'' : k < r.length), (l.zip r)[k] = (l[k], r[k]) from fun k h h' h'' => by rw [List.getElem_zip])
    generalize l.zip r = z at HV HG hz
    obtain ⟨N, hN⟩ : ∃ N, l.length = N := ⟨_, rfl⟩
    rw [hN] at hlen hz
    have HL := Lib.hid hN
    have HR := Lib.hid hlen
    have HZ := Lib.hid hz
    have h1 : N ≤ 256 := by omega
    rw [hN, hlen]
    rw [hN] at KF HV
    clear hbig hne hl hl2 hlen hN hz hw
    go_enter Try.func8, Try.ntmps8
    go_wp2_with (go_at_call 17; refine (law7Alive _).mono ?_; rintro e w1 ⟨rfl, hb1⟩; replace hok := hok.trans hb1; clear hb1)
    go_loopw [9, 10, 11, 37] (fun p q s i wr => ∃ k : Nat, k ≤ N ∧ i = .int .i64 k ∧ p = .int .i64 (((z.take k).countP isWrong : Nat) : Int) ∧ q = .bool ((z.take k).all (says x)) ∧ s = .int .i64 (((z.take k).countP isRight : Nat) : Int) ∧ Ok w wr) (fun _ _ _ i _ => N - (intOf i).toNat)
    case atStart => exact ⟨0, Nat.zero_le _, rfl, rfl, rfl, rfl, hok⟩
    case round =>
      obtain ⟨k, hk, rfl, rfl, rfl, rfl, hok2⟩ := hrel
      clear hok
      by_cases hlt : k < N
      · obtain ⟨b, off, hA2, hb, p0⟩ := (hA.below hok2) k (by rw [HL.out]; exact hlt)
        subst hA2
        obtain ⟨b2, off2, hB2, hb2, p1⟩ := (hB.below hok2) k (by rw [HR.out]; exact hlt)
        subst hB2
        have hkz : k < z.length := by rw [HZ.out]; exact hlt
        have E1 := Lib.hid (count_snoc isWrong hkz)
        have E2 := Lib.hid (count_snoc isRight hkz)
        have E3 := Lib.hid (all_snoc (says x) hkz)
        have hg := HG.out k (by rw [HL.out]; exact hlt) hkz (by rw [HR.out]; exact hlt)
        rw [hg] at E1 E2 E3
        clear hg
        have hc1 : (z.take k).countP isWrong ≤ k := by have := (z.take k).countP_le_length (p := isWrong); rw [List.length_take] at this; omega
        have hc2 : (z.take k).countP isRight ≤ k := by have := (z.take k).countP_le_length (p := isRight); rw [List.length_take] at this; omega
        clear hkz
        generalize l[k]'(by rw [HL.out]; exact hlt) = y at p0 E1 E2 E3
        generalize r[k]'(by rw [HR.out]; exact hlt) = ri at p1 E1 E2 E3
        generalize (z.take k).countP isWrong = cw at E1 hc1 ⊢
        generalize (z.take k).countP isRight = cr at E2 hc2 ⊢
        generalize (z.take k).all (says x) = al at E3 ⊢
        cases ri
        · have e1 : (z.take (k + 1)).countP isWrong = cw + 1 := by rw [E1.out]; rfl
          have e2 : (z.take (k + 1)).countP isRight = cr := by rw [E2.out]; rfl
          have e3 : (z.take (k + 1)).all (says x) = al := by rw [E3.out]; simp [says]
          have F1 := Lib.hid e1
          have F2 := Lib.hid e2
          have F3 := Lib.hid e3
          clear e1 e2 e3 E1 E2 E3
          go_wp2
          go_roundw
          case rel => exact ⟨k + 1, by omega, by go_num, by rw [F1.out]; go_num, by rw [F3.out], by rw [F2.out], hok2⟩
          case measure => simp [intOf]; omega
        · have e1 : (z.take (k + 1)).countP isWrong = cw := by rw [E1.out]; rfl
          have e2 : (z.take (k + 1)).countP isRight = cr + 1 := by rw [E2.out]; rfl
          have e3 : (z.take (k + 1)).all (says x) = (al && decide (y = x)) := by rw [E3.out]; simp [says]
          have F1 := Lib.hid e1
          have F2 := Lib.hid e2
          have F3 := Lib.hid e3
          clear e1 e2 e3 E1 E2 E3
          cases al
          · go_wp2
            go_roundw
            case rel => exact ⟨k + 1, by omega, by go_num, by rw [F1.out], by rw [F3.out]; simp, by rw [F2.out]; go_num, hok2⟩
            case measure => simp [intOf]; omega
          · by_cases hyx : y = x
            · go_wp2
              go_roundw
              case rel => exact ⟨k + 1, by omega, by go_num, by rw [F1.out], by rw [F3.out]; simp [hyx], by rw [F2.out]; go_num, hok2⟩
              case measure => simp [intOf]; omega
            · go_wp2
              go_roundw
              case rel => exact ⟨k + 1, by omega, by go_num, by rw [F1.out], by rw [F3.out]; simp [hyx], by rw [F2.out]; go_num, hok2⟩
              case measure => simp [intOf]; omega
      · have ek : z.take k = z := List.take_of_length_le (by rw [HZ.out]; omega)
        rw [ek]
        clear ek
        generalize z.countP isWrong = cw at HV ⊢
        generalize z.countP isRight = cr at HV ⊢
        generalize z.all (says x) = al at HV ⊢
        by_cases hr : (cw : Int) ≤ f
        · have hv := HV.out hr
          clear HV
          generalize Trim.bestVal l (Trim.bestTo l f N).1 = v at hv KF
          generalize decide (0 ≤ (Trim.bestTo l f N).1) = q at hv KF
          obtain ⟨v1, v2⟩ := hv
          have V2 := Lib.hid v2
          clear v2
          have hcase : (al = true ∧ f < (cr : Int) ∧ q = true ∧ v = x) ∨ ((al = true ∧ ¬ f < (cr : Int)) ∨ al = false) := by
            cases al
            · exact .inr (.inr rfl)
            · by_cases g : f < (cr : Int)
              · obtain ⟨g1, g2⟩ := v1 rfl g
                exact .inl ⟨rfl, g, g1, g2⟩
              · exact .inr (.inl ⟨rfl, g⟩)
          clear v1
          rcases hcase with ⟨rfl, g, rfl, rfl⟩ | ⟨rfl, g⟩ | rfl
          · go_wp2_with (go_at_call 20; refine (KF.out _ (hA.below hok2)).mono ?_; rintro e w2 ⟨rfl, hb1⟩; replace hok2 := hok2.trans hb1; clear hb1)
            go_loopw [16, 86] (fun s i wx => ∃ k : Nat, k ≤ N ∧ i = .int .i64 k ∧ s = .bool (!true || (z.take k).any (said v)) ∧ Ok w wx) (fun _ i _ => N - (intOf i).toNat)
            case atStart => exact ⟨0, Nat.zero_le _, rfl, by simp, hok2⟩
            case round =>
              obtain ⟨k, hk, rfl, rfl, hok3⟩ := hrel
              clear hok2
              by_cases hlt : k < N
              · obtain ⟨b, off, hA2, hb, p0⟩ := (hA.below hok3) k (by rw [HL.out]; exact hlt)
                subst hA2
                obtain ⟨b2, off2, hB2, hb2, p1⟩ := (hB.below hok3) k (by rw [HR.out]; exact hlt)
                subst hB2
                have hkz : k < z.length := by rw [HZ.out]; exact hlt
                have E1 := Lib.hid (any_snoc (said v) hkz)
                have hg := HG.out k (by rw [HL.out]; exact hlt) hkz (by rw [HR.out]; exact hlt)
                rw [hg] at E1
                clear hg hkz
                generalize l[k]'(by rw [HL.out]; exact hlt) = y at p0 E1
                generalize r[k]'(by rw [HR.out]; exact hlt) = ri at p1 E1
                have F := Lib.hid (show (!true || (z.take (k + 1)).any (said v)) = ((!true || (z.take k).any (said v)) || said v (y, ri)) by rw [E1.out, Bool.or_assoc])
                generalize (!true || (z.take k).any (said v)) = S at F ⊢
                clear E1
                cases S
                · cases ri
                  · go_wp2
                    go_roundw
                    case rel => exact ⟨k + 1, by omega, by go_num, by rw [F.out]; simp [said], hok3⟩
                    case measure => simp [intOf]; omega
                  · by_cases hyv : y = v
                    · go_wp2
                      go_roundw
                      case rel => exact ⟨k + 1, by omega, by go_num, by rw [F.out]; simp [said, hyv], hok3⟩
                      case measure => simp [intOf]; omega
                    · go_wp2
                      go_roundw
                      case rel => exact ⟨k + 1, by omega, by go_num, by rw [F.out]; simp [said, hyv], hok3⟩
                      case measure => simp [intOf]; omega
                · go_wp2
                  go_roundw
                  case rel => exact ⟨k + 1, by omega, by go_num, by rw [F.out]; simp, hok3⟩
                  case measure => simp [intOf]; omega
              · rw [List.take_of_length_le (show z.length ≤ k by rw [HZ.out]; omega), V2.out]
                go_wp2
                go_ret
                exact ⟨rfl, hok3⟩
          · cases q
            · go_wp2_with (go_at_call 20; refine (KF.out _ (hA.below hok2)).mono ?_; rintro e w2 ⟨rfl, hb1⟩; replace hok2 := hok2.trans hb1; clear hb1)
              go_loopw [16, 86] (fun s i wx => ∃ k : Nat, k ≤ N ∧ i = .int .i64 k ∧ s = .bool (!false || (z.take k).any (said v)) ∧ Ok w wx) (fun _ i _ => N - (intOf i).toNat)
              case atStart => exact ⟨0, Nat.zero_le _, rfl, by simp, hok2⟩
              case round =>
                obtain ⟨k, hk, rfl, rfl, hok3⟩ := hrel
                clear hok2
                by_cases hlt : k < N
                · obtain ⟨b, off, hA2, hb, p0⟩ := (hA.below hok3) k (by rw [HL.out]; exact hlt)
                  subst hA2
                  obtain ⟨b2, off2, hB2, hb2, p1⟩ := (hB.below hok3) k (by rw [HR.out]; exact hlt)
                  subst hB2
                  have hkz : k < z.length := by rw [HZ.out]; exact hlt
                  have E1 := Lib.hid (any_snoc (said v) hkz)
                  have hg := HG.out k (by rw [HL.out]; exact hlt) hkz (by rw [HR.out]; exact hlt)
                  rw [hg] at E1
                  clear hg hkz
                  generalize l[k]'(by rw [HL.out]; exact hlt) = y at p0 E1
                  generalize r[k]'(by rw [HR.out]; exact hlt) = ri at p1 E1
                  have F := Lib.hid (show (!false || (z.take (k + 1)).any (said v)) = ((!false || (z.take k).any (said v)) || said v (y, ri)) by rw [E1.out, Bool.or_assoc])
                  generalize (!false || (z.take k).any (said v)) = S at F ⊢
                  clear E1
                  cases S
                  · cases ri
                    · go_wp2
                      go_roundw
                      case rel => exact ⟨k + 1, by omega, by go_num, by rw [F.out]; simp [said], hok3⟩
                      case measure => simp [intOf]; omega
                    · by_cases hyv : y = v
                      · go_wp2
                        go_roundw
                        case rel => exact ⟨k + 1, by omega, by go_num, by rw [F.out]; simp [said, hyv], hok3⟩
                        case measure => simp [intOf]; omega
                      · go_wp2
                        go_roundw
                        case rel => exact ⟨k + 1, by omega, by go_num, by rw [F.out]; simp [said, hyv], hok3⟩
                        case measure => simp [intOf]; omega
                  · go_wp2
                    go_roundw
                    case rel => exact ⟨k + 1, by omega, by go_num, by rw [F.out]; simp, hok3⟩
                    case measure => simp [intOf]; omega
                · rw [List.take_of_length_le (show z.length ≤ k by rw [HZ.out]; omega), V2.out]
                  go_wp2
                  go_ret
                  exact ⟨rfl, hok3⟩
            · go_wp2_with (go_at_call 20; refine (KF.out _ (hA.below hok2)).mono ?_; rintro e w2 ⟨rfl, hb1⟩; replace hok2 := hok2.trans hb1; clear hb1)
              go_loopw [16, 86] (fun s i wx => ∃ k : Nat, k ≤ N ∧ i = .int .i64 k ∧ s = .bool (!true || (z.take k).any (said v)) ∧ Ok w wx) (fun _ i _ => N - (intOf i).toNat)
              case atStart => exact ⟨0, Nat.zero_le _, rfl, by simp, hok2⟩
              case round =>
                obtain ⟨k, hk, rfl, rfl, hok3⟩ := hrel
                clear hok2
                by_cases hlt : k < N
                · obtain ⟨b, off, hA2, hb, p0⟩ := (hA.below hok3) k (by rw [HL.out]; exact hlt)
                  subst hA2
                  obtain ⟨b2, off2, hB2, hb2, p1⟩ := (hB.below hok3) k (by rw [HR.out]; exact hlt)
                  subst hB2
                  have hkz : k < z.length := by rw [HZ.out]; exact hlt
                  have E1 := Lib.hid (any_snoc (said v) hkz)
                  have hg := HG.out k (by rw [HL.out]; exact hlt) hkz (by rw [HR.out]; exact hlt)
                  rw [hg] at E1
                  clear hg hkz
                  generalize l[k]'(by rw [HL.out]; exact hlt) = y at p0 E1
                  generalize r[k]'(by rw [HR.out]; exact hlt) = ri at p1 E1
                  have F := Lib.hid (show (!true || (z.take (k + 1)).any (said v)) = ((!true || (z.take k).any (said v)) || said v (y, ri)) by rw [E1.out, Bool.or_assoc])
                  generalize (!true || (z.take k).any (said v)) = S at F ⊢
                  clear E1
                  cases S
                  · cases ri
                    · go_wp2
                      go_roundw
                      case rel => exact ⟨k + 1, by omega, by go_num, by rw [F.out]; simp [said], hok3⟩
                      case measure => simp [intOf]; omega
                    · by_cases hyv : y = v
                      · go_wp2
                        go_roundw
                        case rel => exact ⟨k + 1, by omega, by go_num, by rw [F.out]; simp [said, hyv], hok3⟩
                        case measure => simp [intOf]; omega
                      · go_wp2
                        go_roundw
                        case rel => exact ⟨k + 1, by omega, by go_num, by rw [F.out]; simp [said, hyv], hok3⟩
                        case measure => simp [intOf]; omega
                  · go_wp2
                    go_roundw
                    case rel => exact ⟨k + 1, by omega, by go_num, by rw [F.out]; simp, hok3⟩
                    case measure => simp [intOf]; omega
                · rw [List.take_of_length_le (show z.length ≤ k by rw [HZ.out]; omega), V2.out]
                  go_wp2
                  go_ret
                  exact ⟨rfl, hok3⟩
          · cases q
            · go_wp2_with (go_at_call 20; refine (KF.out _ (hA.below hok2)).mono ?_; rintro e w2 ⟨rfl, hb1⟩; replace hok2 := hok2.trans hb1; clear hb1)
              go_loopw [16, 86] (fun s i wx => ∃ k : Nat, k ≤ N ∧ i = .int .i64 k ∧ s = .bool (!false || (z.take k).any (said v)) ∧ Ok w wx) (fun _ i _ => N - (intOf i).toNat)
              case atStart => exact ⟨0, Nat.zero_le _, rfl, by simp, hok2⟩
              case round =>
                obtain ⟨k, hk, rfl, rfl, hok3⟩ := hrel
                clear hok2
                by_cases hlt : k < N
                · obtain ⟨b, off, hA2, hb, p0⟩ := (hA.below hok3) k (by rw [HL.out]; exact hlt)
                  subst hA2
                  obtain ⟨b2, off2, hB2, hb2, p1⟩ := (hB.below hok3) k (by rw [HR.out]; exact hlt)
                  subst hB2
                  have hkz : k < z.length := by rw [HZ.out]; exact hlt
                  have E1 := Lib.hid (any_snoc (said v) hkz)
                  have hg := HG.out k (by rw [HL.out]; exact hlt) hkz (by rw [HR.out]; exact hlt)
                  rw [hg] at E1
                  clear hg hkz
                  generalize l[k]'(by rw [HL.out]; exact hlt) = y at p0 E1
                  generalize r[k]'(by rw [HR.out]; exact hlt) = ri at p1 E1
                  have F := Lib.hid (show (!false || (z.take (k + 1)).any (said v)) = ((!false || (z.take k).any (said v)) || said v (y, ri)) by rw [E1.out, Bool.or_assoc])
                  generalize (!false || (z.take k).any (said v)) = S at F ⊢
                  clear E1
                  cases S
                  · cases ri
                    · go_wp2
                      go_roundw
                      case rel => exact ⟨k + 1, by omega, by go_num, by rw [F.out]; simp [said], hok3⟩
                      case measure => simp [intOf]; omega
                    · by_cases hyv : y = v
                      · go_wp2
                        go_roundw
                        case rel => exact ⟨k + 1, by omega, by go_num, by rw [F.out]; simp [said, hyv], hok3⟩
                        case measure => simp [intOf]; omega
                      · go_wp2
                        go_roundw
                        case rel => exact ⟨k + 1, by omega, by go_num, by rw [F.out]; simp [said, hyv], hok3⟩
                        case measure => simp [intOf]; omega
                  · go_wp2
                    go_roundw
                    case rel => exact ⟨k + 1, by omega, by go_num, by rw [F.out]; simp, hok3⟩
                    case measure => simp [intOf]; omega
                · rw [List.take_of_length_le (show z.length ≤ k by rw [HZ.out]; omega), V2.out]
                  go_wp2
                  go_ret
                  exact ⟨rfl, hok3⟩
            · go_wp2_with (go_at_call 20; refine (KF.out _ (hA.below hok2)).mono ?_; rintro e w2 ⟨rfl, hb1⟩; replace hok2 := hok2.trans hb1; clear hb1)
              go_loopw [16, 86] (fun s i wx => ∃ k : Nat, k ≤ N ∧ i = .int .i64 k ∧ s = .bool (!true || (z.take k).any (said v)) ∧ Ok w wx) (fun _ i _ => N - (intOf i).toNat)
              case atStart => exact ⟨0, Nat.zero_le _, rfl, by simp, hok2⟩
              case round =>
                obtain ⟨k, hk, rfl, rfl, hok3⟩ := hrel
                clear hok2
                by_cases hlt : k < N
                · obtain ⟨b, off, hA2, hb, p0⟩ := (hA.below hok3) k (by rw [HL.out]; exact hlt)
                  subst hA2
                  obtain ⟨b2, off2, hB2, hb2, p1⟩ := (hB.below hok3) k (by rw [HR.out]; exact hlt)
                  subst hB2
                  have hkz : k < z.length := by rw [HZ.out]; exact hlt
                  have E1 := Lib.hid (any_snoc (said v) hkz)
                  have hg := HG.out k (by rw [HL.out]; exact hlt) hkz (by rw [HR.out]; exact hlt)
                  rw [hg] at E1
                  clear hg hkz
                  generalize l[k]'(by rw [HL.out]; exact hlt) = y at p0 E1
                  generalize r[k]'(by rw [HR.out]; exact hlt) = ri at p1 E1
                  have F := Lib.hid (show (!true || (z.take (k + 1)).any (said v)) = ((!true || (z.take k).any (said v)) || said v (y, ri)) by rw [E1.out, Bool.or_assoc])
                  generalize (!true || (z.take k).any (said v)) = S at F ⊢
                  clear E1
                  cases S
                  · cases ri
                    · go_wp2
                      go_roundw
                      case rel => exact ⟨k + 1, by omega, by go_num, by rw [F.out]; simp [said], hok3⟩
                      case measure => simp [intOf]; omega
                    · by_cases hyv : y = v
                      · go_wp2
                        go_roundw
                        case rel => exact ⟨k + 1, by omega, by go_num, by rw [F.out]; simp [said, hyv], hok3⟩
                        case measure => simp [intOf]; omega
                      · go_wp2
                        go_roundw
                        case rel => exact ⟨k + 1, by omega, by go_num, by rw [F.out]; simp [said, hyv], hok3⟩
                        case measure => simp [intOf]; omega
                  · go_wp2
                    go_roundw
                    case rel => exact ⟨k + 1, by omega, by go_num, by rw [F.out]; simp, hok3⟩
                    case measure => simp [intOf]; omega
                · rw [List.take_of_length_le (show z.length ≤ k by rw [HZ.out]; omega), V2.out]
                  go_wp2
                  go_ret
                  exact ⟨rfl, hok3⟩
        · clear HV KF
          go_wp2_with fail
          go_ret
          exact ⟨rfl, hok2⟩
theorem own : ownKnob Try.prog.godebug = none := by kernel_rfl
theorem laidOut : laidOutB Try.prog = true := by kernel_rfl
set_option maxRecDepth 100000 in
theorem lifted (os : Os) (started : os.Started) (H : Type) (enc : TypeId × Value → H) :
    ReturnsInHanded {} Try.checked os 8 .any (Rows.trimVotesSpec.pre6 enc Try.prog Try.f8 Rows.trimVotesRow.domain false) (Rows.trimVotesSpec.post enc Try.prog Try.f8 false true false false) := by
  refine returnsInHanded_of_change (C := Try.checked) own started (by kernel_rfl) Try.func8
    (ChangeSpec.witness6 (enc := enc) (C := Try.checked) false ⟨#[], #[.int .i64 0, .slice none 0 0, .slice none 0 0, .int .i64 0], []⟩ 8 (by kernel_rfl) (by kernel_rfl) (by kernel_rfl) (by kernel_rfl)) ?_
  intro W base args ds gs before hval0 hW _ _
  have hval : ∀ (j : Nat) t v, Try.f8.params[j]? = some t → args[j]? = some v → Value.okWide Try.prog W .any base t v := hval0
  have hW' := hW
  obtain ⟨p, q, hA, hV, rfl, _, _⟩ := hW
  obtain ⟨rfl, rfl⟩ := trodVars_none hV
  replace hA : DataW.TrodAll enc Try.prog W 0 (fun _ => true) true Try.f8.params.toList args.toList ds p := hA
  rw [Try.params8] at hA hval
  obtain ⟨v0, vs0, d0, ds0, p0, q0, hargs, rfl, rfl, h0, r0⟩ := trodAll_cons hA
  obtain ⟨v1, vs1, d1, ds1, p1, q1, rfl, rfl, rfl, h1, r1⟩ := trodAll_cons r0
  obtain ⟨v2, vs2, d2, ds2, p2, q2, rfl, rfl, rfl, h2, r2⟩ := trodAll_cons r1
  obtain ⟨v3, vs3, d3, ds3, p3, q3, rfl, rfl, rfl, h3, r3⟩ := trodAll_cons r2
  obtain ⟨rfl, rfl, rfl⟩ := trodAll_nil r3
  obtain rfl : args = #[v0, v1, v2, v3] := by cases args; simp_all
  obtain ⟨a0, rfl, rfl, rfl, w0⟩ := open_int Try.underlying3 (hval 0 3 v0 rfl rfl) h0
  obtain ⟨A1, l1, c1, rfl, hA1, hl1, hw1⟩ := open_sliceK Try.underlying22 Try.underlying3 (by kernel_rfl) (hval 1 22 v1 rfl rfl) h1
  obtain ⟨A2, l2, c2, rfl, hA2, hl2⟩ := open_bools Try.underlying38 Try.underlying4 (by kernel_rfl) (hval 2 38 v2 rfl rfl) h2
  obtain ⟨a3, rfl, rfl, rfl, w3⟩ := open_int Try.underlying3 (hval 3 3 v3 rfl rfl) h3
  refine (walk W a0 w0 A1 l1 c1 hA1 hl1 hw1 A2 l2 c2 hA2 hl2 a3 w3).mono fun e W' ⟨he, hb⟩ => ?_
  subst he
  exact ⟨_, rfl, law_post hW' laidOut (by rw [Try.params8]; exact params_ok (by kernel_rfl)) rfl (by kernel_rfl) Try.underlying4 rfl rfl rfl hb⟩
theorem over : Rows.trimVotesRow.holds Try.pinned (OpenSpec.ofChange Rows.trimVotesSpec) :=
  OpenClaim.holds_of_wide 8 Try.f8 rfl rfl rfl rfl rfl rfl rfl ⟨rfl, rfl, rfl, rfl, rfl⟩ rfl rfl rfl rfl rfl (by kernel_rfl) Try.func8 (by kernel_rfl)
    (of_decide_eq_true (by kernel_rfl)) (by unfold Func.isWrapper; first | (rw [if_pos (by decide +kernel)]; kernel_rfl) | (rw [if_neg (by decide +kernel)]; exact ⟨rfl, rfl⟩))
    (fun os started H enc _ => lifted os started H enc)
theorem proved : Rows.TrimVotesSaid := over
end Go.Proofs.Ytolaipclndhkkaa.trimVotes
