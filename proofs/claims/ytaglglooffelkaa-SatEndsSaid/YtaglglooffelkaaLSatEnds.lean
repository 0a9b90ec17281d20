/- SatEnds: for every slice of integers the law answers true: the program's greatest and least numbers are the document's. No condition. -/
import Derived.Test.YtaglglooffelkaaC01b
import Derived.Test.YtaglglooffelkaaC01c
namespace Go.Proofs.Ytaglglooffelkaa.satEnds
open Go.ChangeShapes Go.WideShapes Go.ChangeAt Go.RowKit
set_option linter.unusedVariables false

theorem infoInt : (Try.prog.info? 3).map (fun i => (i.zero, i.size, i.bytes)) = some (some (.int .i64 0), 1, 8) := by kernel_rfl
def turn (l : List Int) : List Int := l.map fun x => -Sat.clip x
theorem turn_len (l : List Int) : (turn l).length = l.length := by simp [turn]
def Row (w : World) (B : Nat) (v : Value) (l : List Int) : Prop := w.ownsRow B 3 1 v l.length (l.map (Value.int .i64))
set_option maxHeartbeats 1600000 in
theorem walk (w : World) (A0 : Option Addr) (l0 : List Int) (c0 : Nat) (hA0 : IntsAt w A0 l0) (hl0 : l0.length ≤ 9223372036854775807) (hw0 : ∀ x ∈ l0, (Lit.int .i64 x).wf = true) :
    Calls Try.prog 6 #[.slice A0 l0.length c0] w fun e w' => e = .returned (.bool true) ∧ Below w.heap.size w w' := by
  clear hw0
  obtain ⟨i0, hi, hz0, hz1, hz2⟩ := info_parts infoInt
  have H0 := Lib.hid fun (w' : World) (h : Below w.heap.size w w') => hA0.below h
  clear hA0
  have s1 : Hid (Sat.most [] = -2305843009213693952) := by exact (by decide : Sat.most [] = -2305843009213693952)
  have s2 : Hid (Sat.least [] = 2305843009213693952) := by exact (by decide : Sat.least [] = 2305843009213693952)
  have s3 : Hid (Sat.most [3, 4] = 4) := by exact (by decide : Sat.most [3, 4] = 4)
  have s4 : Sat.least l0 = -Sat.most (turn l0) := Sat.least_turned l0
  have b4 := Sat.most_bd (turn l0)
  have S4 := Lib.hid s4
  clear s4
  have hM := Lib.hid hi
  have hM0 := Lib.hid hz0
  have hM1 := Lib.hid hz1
  have hM2 := Lib.hid hz2
  clear hi hz0 hz1 hz2
  by_cases hbig : 4096 < l0.length
  · go_enter Try.func6, Try.ntmps6
    go_wp2_with fail
    refine (satMax _ [] 0 _ (IntsAt.empty _ _) (by decide)).mono ?_
    rintro e w' ⟨rfl, rfl⟩
    rw [s1.out]
    go_wp2_with fail
    refine (satMin _ [] 0 _ (IntsAt.empty _ _) (by decide)).mono ?_
    rintro e w' ⟨rfl, rfl⟩
    rw [s2.out]
    go_wp2_with (go_at_call 22; (with_reducible refine (satMax2 _ _ _ _ _ (by simp)).mono ?_); rintro e w' ⟨rfl, rfl⟩; rw [s3.out])
    go_ret
    exact ⟨rfl, below_alloc _ _⟩
  · go_enter Try.func6, Try.ntmps6
    go_wp2_with fail
    refine (satMax _ [] 0 _ (IntsAt.empty _ _) (by decide)).mono ?_
    rintro e w' ⟨rfl, rfl⟩
    rw [s1.out]
    go_wp2_with fail
    refine (satMin _ [] 0 _ (IntsAt.empty _ _) (by decide)).mono ?_
    rintro e w' ⟨rfl, rfl⟩
    rw [s2.out]
    go_wp2_with (go_at_call 22; (with_reducible refine (satMax2 _ _ _ _ _ (by simp)).mono ?_); rintro e w' ⟨rfl, rfl⟩; rw [s3.out])
    go_loopw [3, 22] (fun v i wr => ∃ k : Nat, k ≤ l0.length ∧ i = .int .i64 k ∧ Row wr w.heap.size v (turn (l0.take k)) ∧ Below w.heap.size w wr) (fun _ i _ => l0.length - (intOf i).toNat)
    case atStart => exact ⟨0, Nat.zero_le _, rfl, World.ownsRow_nil _ _ _ _, below_alloc _ _⟩
    case round =>
      obtain ⟨k, hk, rfl, hown, hbel⟩ := hrel
      have hsz := hbel.size
      by_cases hlt : k < l0.length
      · obtain ⟨b, off, hA, hb, hc⟩ := H0.out _ hbel k hlt
        subst hA
        have hcb := Sat.clip_bd l0[k]
        have hlen : (turn (l0.take k)).length = k := by simp [turn]; omega
        go_wp2_with (first
          | (go_at_call 12; refine (refClip _ _).mono ?_; rintro e w' ⟨rfl, rfl⟩)
          | (at_builtin; refine wpList_append_own _ rfl _ _ 25 rfl w.heap.size 3 i0 (.int .i64 0) 1 8 Try.underlying25 hM.out hM0.out hM1.out hM2.out rfl (by decide) _ _ _ rfl (World.ownsRow.alloc hown _) ⟨wr.heap.size, 0, none⟩ 1 1 [.int .i64 (-Sat.clip l0[k])] rfl rfl ?c1 ?c2 ?c3 ?c4 ?c5 ?_))
        case c1 =>
          intro j u hj
          match j, hj with
          | 0, hj => simp at hj; subst hj; simp [Addr.add]
        case c2 => intro u hu; simp at hu; subst hu; rfl
        case c3 => rw [hlen]; unfold maxLen; omega
        case c4 => rw [hlen]; omega
        case c5 => simp; omega
        intro v' w1 hown' hgrow _
        have hb1 : Below w.heap.size w w1 := (hbel.alloc hsz _).grown hgrow (by simp; omega) (fun g hg => (World.ownsRow.lt hown g hg).1)
        have hown2 : Row w1 w.heap.size v' (turn (l0.take (k + 1))) := by
          unfold Row
          have e1 : turn (l0.take (k + 1)) = turn (l0.take k) ++ [-Sat.clip l0[k]] := by unfold turn; rw [take_more hlt, List.map_append]; rfl
          rw [e1, List.map_append, List.length_append]
          rw [hlen]
          exact hown'
        clear hown' hgrow hlen hown hbel hsz
        go_wp2
        go_roundw
        case rel => exact ⟨k + 1, by omega, by go_num, hown2, hb1⟩
        case measure => simp [intOf]; omega
      · have e : l0.take k = l0 := List.take_of_length_le (by omega)
        rw [e] at hown
        obtain ⟨A, cap, hv, hI⟩ := IntsAt.of_own hown
        subst hv
        have hlt := turn_len l0
        have hl1 : (turn l0).length ≤ 9223372036854775807 := by omega
        have HI := Lib.hid hI
        have HB := Lib.hid hbel
        clear hI hown e hlt hbel
        go_wp2_with fail
        refine (satMax _ _ _ _ (H0.out _ HB.out) hl0).mono ?_
        rintro e w' ⟨rfl, rfl⟩
        go_wp2_with fail
        refine (refMax _ _ _ _ (H0.out _ HB.out) hl0).mono ?_
        rintro e w' ⟨rfl, rfl⟩
        go_wp2_with fail
        refine (satMin _ _ _ _ (H0.out _ HB.out) hl0).mono ?_
        rintro e w' ⟨rfl, rfl⟩
        rw [S4.out]
        go_wp2_with fail
        refine (refMax _ _ _ _ HI.out hl1).mono ?_
        rintro e w' ⟨rfl, rfl⟩
        go_wp2_with fail
        go_ret
        exact ⟨rfl, HB.out⟩
theorem own : ownKnob Try.prog.godebug = none := by kernel_rfl
theorem laidOut : laidOutB Try.prog = true := by kernel_rfl
set_option maxRecDepth 100000 in
theorem lifted (os : Os) (started : os.Started) (H : Type) (enc : TypeId × Value → H) :
    ReturnsInHanded {} Try.checked os 6 .any (Rows.satEndsSpec.pre6 enc Try.prog Try.f6 Rows.satEndsRow.domain false) (Rows.satEndsSpec.post enc Try.prog Try.f6 false true false false) := by
  refine returnsInHanded_of_change (C := Try.checked) own started (by kernel_rfl) Try.func6
    (ChangeSpec.witness6 (enc := enc) (C := Try.checked) false ⟨#[], #[.slice none 0 0], []⟩ 8 (by kernel_rfl) (by kernel_rfl) (by kernel_rfl) (by kernel_rfl)) ?_
  intro W base args ds gs before hval0 hW _ _
  have hval : ∀ (j : Nat) t v, Try.f6.params[j]? = some t → args[j]? = some v → Value.okWide Try.prog W .any base t v := hval0
  have hW' := hW
  obtain ⟨p, q, hA, hV, rfl, _, _⟩ := hW
  obtain ⟨rfl, rfl⟩ := trodVars_none hV
  replace hA : DataW.TrodAll enc Try.prog W 0 (fun _ => true) true Try.f6.params.toList args.toList ds p := hA
  rw [Try.params6] at hA hval
  obtain ⟨v0, vs0, d0, ds0, p0, q0, hargs, rfl, rfl, h0, r0⟩ := trodAll_cons hA
  obtain ⟨rfl, rfl, rfl⟩ := trodAll_nil r0
  obtain rfl : args = #[v0] := by cases args; simp_all
  obtain ⟨A0, l0, c0, rfl, hA0, hl0, hw0⟩ := open_sliceK Try.underlying25 Try.underlying3 (by kernel_rfl) (hval 0 25 v0 rfl rfl) h0
  refine (walk W A0 l0 c0 hA0 hl0 hw0).mono fun e W' ⟨he, hb⟩ => ?_
  subst he
  exact ⟨_, rfl, law_post hW' laidOut (by rw [Try.params6]; exact params_ok (by kernel_rfl)) rfl (by kernel_rfl) Try.underlying4 rfl rfl rfl hb⟩
theorem over : Rows.satEndsRow.holds Try.pinned (OpenSpec.ofChange Rows.satEndsSpec) :=
  OpenClaim.holds_of_wide 6 Try.f6 rfl rfl rfl rfl rfl rfl rfl ⟨rfl, rfl, rfl, rfl, rfl⟩ rfl rfl rfl rfl rfl (by kernel_rfl) Try.func6 (by kernel_rfl)
    (of_decide_eq_true (by kernel_rfl)) (by unfold Func.isWrapper; first | (rw [if_pos (by decide +kernel)]; kernel_rfl) | (rw [if_neg (by decide +kernel)]; exact ⟨rfl, rfl⟩))
    (fun os started H enc _ => lifted os started H enc)
theorem proved : Rows.SatEndsSaid := over
end Go.Proofs.Ytaglglooffelkaa.satEnds
