/- WireGood: for every message the law answers true: the program's Table and Good are the document's. No condition. -/
import Derived.Test.YthhdhoaicoaokaaC06i
import Derived.Test.YthhdhoaicoaokaaW13
import Derived.Test.YthhdhoaicoaokaaW14
import Derived.Deep.RegionHeld3
import Derived.Deep.DrawnRows
namespace Go.Proofs.Ythhdhoaicoaokaa
open Go.RowKit
set_option maxRecDepth 100000
theorem law6long (m : Msg) (A : Option Addr) (cap : Nat) (w : World) :
    Calls Try.prog 11 #[msgV m A cap] w fun e w' => e = .returned (.bool (decide (1024 < m.table.length))) ∧ Ok w w' := by
  have hok := Ok.refl w
  unfold msgV
  go_enter Try.func11, Try.ntmps11
  have hd : decide ((1024 : Int) < (m.table.length : Int)) = decide (1024 < m.table.length) := decide_eq_decide.2 (by omega)
  go_wp2
  go_ret
  exact ⟨by simp only [hd]; rfl, hok.alloc _⟩
namespace wireGood
open Go.ChangeShapes Go.WideShapes Go.ChangeAt
set_option linter.unusedVariables false
attribute [local go_sem ↓] Go.wp_at_zero Go.wp_at_succ
/-- Two messages that the law asks of first. -/
def oneMsg : Msg := ⟨1, 0, 0, 0, 0, 0, false, false, 0, 0, 0, 0, 0, []⟩
def noMsg : Msg := ⟨0, 0, 0, 0, 0, 0, false, false, 0, 0, 0, 0, 0, []⟩
theorem one_good (w : World) : Calls Try.prog 10 #[.agg #[.int .i64 1, .int .i64 0, .int .i64 0, .int .i64 0, .int .i64 0, .int .i64 0, .bool false, .bool false, .int .i64 0, .int .i64 0, .int .i64 0, .int .i64 0, .int .i64 0, .slice none 0 0]] w fun e w' => e = .returned (.bool true) ∧ Ok w w' :=
  wireGood oneMsg none 0 w (PairsAt.empty _ _) (by decide)
theorem no_good (w : World) : Calls Try.prog 10 #[.agg #[.int .i64 0, .int .i64 0, .int .i64 0, .int .i64 0, .int .i64 0, .int .i64 0, .bool false, .bool false, .int .i64 0, .int .i64 0, .int .i64 0, .int .i64 0, .int .i64 0, .slice none 0 0]] w fun e w' => e = .returned (.bool false) ∧ Ok w w' :=
  wireGood noMsg none 0 w (PairsAt.empty _ _) (by decide)
/-- What each operation of the last statement leaves, where the table is too long. -/
def VL (m : Msg) (A : Option Addr) (cap : Nat) (i : Nat) (v : Value) (w : World) : Prop := match i with
  | 0 => v = msgV m A cap
  | 1 => v = .bool true
  | 2 => v = .bool true
  | 17 => v = .bool true
  | 18 => v = .bool true
  | _ => v = undef
set_option maxHeartbeats 4000000 in
theorem walk (w : World) (m : Msg) (A : Option Addr) (cap : Nat) (hA : PairsAt w A m.table) (hc : m.table.length ≤ cap) (hcm : cap ≤ maxLen) (wm : MsgWf m) :
    Calls Try.prog 3 #[msgV m A cap] w fun e w' => e = .returned (.bool true) ∧ Below w.heap.size w w' := by
  clear wm
  have hok := Ok.refl w
  have hlen : m.table.length ≤ 9223372036854775807 := by unfold maxLen at hcm; omega
  have KL := Lib.hid fun W => law6long m A cap W
  have KG := Lib.hid fun W (k : Ok w W) => wireGood m A cap W (hA.below k) hlen
  have KR := Lib.hid fun W (k : Ok w W) => ref6Good m A cap W (hA.below k) hlen
  have KT := Lib.hid fun W (k : Ok w W) => wireTable A m.table cap W (hA.below k) hlen
  have KU := Lib.hid fun W (k : Ok w W) => ref6Table A m.table cap W (hA.below k) hlen
  obtain ⟨b, hb⟩ : ∃ b, Wire.good m = b := ⟨_, rfl⟩
  rw [hb] at KG KR
  obtain ⟨t, ht⟩ : ∃ b, Wire.tab m.table = b := ⟨_, rfl⟩
  rw [ht] at KT KU
  have hbb : (b == b) = true := by cases b <;> rfl
  have htt : (t == t) = true := by cases t <;> rfl
  clear hb ht hA hc hcm hlen
  obtain ⟨L, hL⟩ : ∃ L, decide (1024 < m.table.length) = L := ⟨_, rfl⟩
  rw [hL] at KL
  clear hL
  unfold msgV at *
  go_enter Try.func3, Try.ntmps3
  go_upto_region 3 with (first | (go_at_call 10; (with_reducible refine (one_good _).mono ?_); rintro e w1 ⟨rfl, hb1⟩; have hB := (MB.new w m A cap 28 rfl).next hb1; clear hb1) | (go_at_call 10; (with_reducible refine (no_good _).mono ?_); rintro e w2 ⟨rfl, hb1⟩; replace hB := hB.next hb1; clear hb1))
  obtain ⟨g, hg⟩ : ∃ g, w.heap.size = g := ⟨_, rfl⟩
  rw [hg] at hB ⊢
  clear hg hok
  cases L
  · go_region_held3 (fun w' => w'.cell? ⟨g, 0, none⟩ = some (.int .i64 m.kind) ∧ w'.cell? ⟨g, 1, none⟩ = some (.int .i64 m.frm) ∧ w'.cell? ⟨g, 2, none⟩ = some (.int .i64 m.lo) ∧ w'.cell? ⟨g, 3, none⟩ = some (.int .i64 m.hi) ∧ w'.cell? ⟨g, 4, none⟩ = some (.int .i64 m.held) ∧ w'.cell? ⟨g, 5, none⟩ = some (.int .i64 m.hops) ∧ w'.cell? ⟨g, 6, none⟩ = some (.bool m.good) ∧ w'.cell? ⟨g, 7, none⟩ = some (.bool m.ref) ∧ w'.cell? ⟨g, 8, none⟩ = some (.int .i64 m.slo) ∧ w'.cell? ⟨g, 9, none⟩ = some (.int .i64 m.shi) ∧ w'.cell? ⟨g, 10, none⟩ = some (.int .i64 m.pulse) ∧ w'.cell? ⟨g, 11, none⟩ = some (.int .i64 m.time) ∧ w'.cell? ⟨g, 12, none⟩ = some (.int .i64 m.num) ∧ w'.cell? ⟨g, 13, none⟩ = some (.slice A m.table.length cap) ∧ g < w'.heap.size ∧ Ok w w')
      (first | assumption | exact MB.drew (by assumption) | exact MB.alloc (by assumption) _ | exact MB.next (by assumption) (by assumption) | exact MB.next (by assumption) (MB.drew (by assumption)) | exact MB.next (by assumption) (MB.alloc (by assumption) _))
      (first | (go_at_call 11; (with_reducible refine (KL.out _).mono ?_); rintro e w5 ⟨rfl, hb2⟩) | (go_at_call 10; (with_reducible refine (KG.out _ ?_).mono ?_); (focus (first | exact MB.ok (by assumption) | exact MB.ok (MB.drew (by assumption)))); rintro e w5 ⟨rfl, hb2⟩) | (go_at_call 12; (with_reducible refine (KR.out _ ?_).mono ?_); (focus (first | exact MB.ok (by assumption) | exact MB.ok (MB.drew (by assumption)))); rintro e w5 ⟨rfl, hb2⟩) | (go_at_call 13; (with_reducible refine (KT.out _ ?_).mono ?_); (focus (first | exact MB.ok (by assumption) | exact MB.ok (MB.drew (by assumption)))); rintro e w5 ⟨rfl, hb2⟩) | (go_at_call 14; (with_reducible refine (KU.out _ ?_).mono ?_); (focus (first | exact MB.ok (by assumption) | exact MB.ok (MB.drew (by assumption)))); rintro e w5 ⟨rfl, hb2⟩))
    all_goals
      rename_i hS
      have hok := MB.ok hS
      clear hS hB
      go_wp2
      go_ret
      exact ⟨rfl, hok⟩
  · refine wp_region_facts (by kernel_rfl) 28 rfl (VL m A cap) Ok (by kernel_rfl) (fun i v w w' h k => h) (fun a b c => Ok.trans) (Ok.refl _) [some 10, some 11, some 12, some 13, some 14, some 15, some 16, some 17, some 18, some 19, some 20, some 21, some 22, some 23, some 24, some 25, some 26, some 27, some 2] rfl 19 rfl ⟨?_, ?_, ?_, ?_, ?_, ?_, ?_, ?_, ?_, ?_, ?_, ?_, ?_, ?_, ?_, ?_, ?_, ?_, ?_, trivial⟩ ?_
    · intro a' w' hF hR
      have e : a'.tmps[1]? = some (.pointer (some ⟨g, 0, none⟩)) := hF.slot 1 (by kernel_rfl) rfl
      obtain ⟨c0, c1, c2, c3, c4, c5, c6, c7, c8, c9, c10, c11, c12, c13, hl, -⟩ := hB.drew.next hR
      refine wpOp_run (v := msgV m A cap) rfl rfl ?_ rfl (Ok.refl _)
      clear hF
      unfold msgV
      go_simp
    · intro a' w' hF hR
      obtain ⟨v, hv, e⟩ := hF.get 0 10 (by kernel_rfl) (by kernel_rfl)
      obtain rfl : v = _ := hv
      clear hF
      refine wpOp_call (f := 11) (args := #[msgV m A cap]) rfl rfl ?_ ((KL.out _).mono ?_)
      · go_simp
      · rintro e w2 ⟨rfl, hb2⟩
        exact ⟨_, rfl, rfl, hb2⟩
    · intro a' w' hF hR
      obtain ⟨v, hv, e⟩ := hF.get 1 11 (by kernel_rfl) (by kernel_rfl)
      obtain rfl : v = _ := hv
      refine wpOp_run (v := .bool true) rfl rfl ?_ rfl (Ok.refl _)
      clear hF
      go_simp
    · intro a' w' hF hR
      obtain ⟨v, hv, e⟩ := hF.get 2 12 (by kernel_rfl) (by kernel_rfl)
      obtain rfl : v = _ := hv
      exact wpOp_skip rfl (wanted_not rfl (by kernel_rfl) e (by intro h; cases h)) rfl (Ok.refl _)
    · intro a' w' hF hR
      obtain ⟨v, hv, e⟩ := hF.get 2 12 (by kernel_rfl) (by kernel_rfl)
      obtain rfl : v = _ := hv
      exact wpOp_skip rfl (wanted_not rfl (by kernel_rfl) e (by intro h; cases h)) rfl (Ok.refl _)
    · intro a' w' hF hR
      obtain ⟨v, hv, e⟩ := hF.get 2 12 (by kernel_rfl) (by kernel_rfl)
      obtain rfl : v = _ := hv
      exact wpOp_skip rfl (wanted_not rfl (by kernel_rfl) e (by intro h; cases h)) rfl (Ok.refl _)
    · intro a' w' hF hR
      obtain ⟨v, hv, e⟩ := hF.get 2 12 (by kernel_rfl) (by kernel_rfl)
      obtain rfl : v = _ := hv
      exact wpOp_skip rfl (wanted_not rfl (by kernel_rfl) e (by intro h; cases h)) rfl (Ok.refl _)
    · intro a' w' hF hR
      obtain ⟨v, hv, e⟩ := hF.get 2 12 (by kernel_rfl) (by kernel_rfl)
      obtain rfl : v = _ := hv
      exact wpOp_skip rfl (wanted_not rfl (by kernel_rfl) e (by intro h; cases h)) rfl (Ok.refl _)
    · intro a' w' hF hR
      obtain ⟨v, hv, e⟩ := hF.get 2 12 (by kernel_rfl) (by kernel_rfl)
      obtain rfl : v = _ := hv
      exact wpOp_skip rfl (wanted_not rfl (by kernel_rfl) e (by intro h; cases h)) rfl (Ok.refl _)
    · intro a' w' hF hR
      obtain ⟨v, hv, e⟩ := hF.get 8 18 (by kernel_rfl) (by kernel_rfl)
      obtain rfl : v = _ := hv
      exact wpOp_skip rfl (wanted_not rfl (by kernel_rfl) e (by intro h; cases h)) rfl (Ok.refl _)
    · intro a' w' hF hR
      obtain ⟨v, hv, e⟩ := hF.get 8 18 (by kernel_rfl) (by kernel_rfl)
      obtain rfl : v = _ := hv
      exact wpOp_skip rfl (wanted_not rfl (by kernel_rfl) e (by intro h; cases h)) rfl (Ok.refl _)
    · intro a' w' hF hR
      obtain ⟨v, hv, e⟩ := hF.get 8 18 (by kernel_rfl) (by kernel_rfl)
      obtain rfl : v = _ := hv
      exact wpOp_skip rfl (wanted_not rfl (by kernel_rfl) e (by intro h; cases h)) rfl (Ok.refl _)
    · intro a' w' hF hR
      obtain ⟨v, hv, e⟩ := hF.get 8 18 (by kernel_rfl) (by kernel_rfl)
      obtain rfl : v = _ := hv
      exact wpOp_skip rfl (wanted_not rfl (by kernel_rfl) e (by intro h; cases h)) rfl (Ok.refl _)
    · intro a' w' hF hR
      obtain ⟨v, hv, e⟩ := hF.get 8 18 (by kernel_rfl) (by kernel_rfl)
      obtain rfl : v = _ := hv
      exact wpOp_skip rfl (wanted_not rfl (by kernel_rfl) e (by intro h; cases h)) rfl (Ok.refl _)
    · intro a' w' hF hR
      obtain ⟨v, hv, e⟩ := hF.get 8 18 (by kernel_rfl) (by kernel_rfl)
      obtain rfl : v = _ := hv
      exact wpOp_skip rfl (wanted_not rfl (by kernel_rfl) e (by intro h; cases h)) rfl (Ok.refl _)
    · intro a' w' hF hR
      obtain ⟨v, hv, e⟩ := hF.get 8 18 (by kernel_rfl) (by kernel_rfl)
      obtain rfl : v = _ := hv
      exact wpOp_skip rfl (wanted_not rfl (by kernel_rfl) e (by intro h; cases h)) rfl (Ok.refl _)
    · intro a' w' hF hR
      obtain ⟨v, hv, e⟩ := hF.get 2 12 (by kernel_rfl) (by kernel_rfl)
      obtain rfl : v = _ := hv
      exact wpOp_skip rfl (wanted_not rfl (by kernel_rfl) e (by intro h; cases h)) rfl (Ok.refl _)
    · intro a' w' hF hR
      obtain ⟨v, hv, e⟩ := hF.get 2 12 (by kernel_rfl) (by kernel_rfl)
      obtain rfl : v = _ := hv
      refine wpOp_run (v := .bool true) rfl rfl ?_ rfl (Ok.refl _)
      clear hF
      go_simp
    · intro a' w' hF hR
      obtain ⟨v, hv, e⟩ := hF.get 17 27 (by kernel_rfl) (by kernel_rfl)
      obtain rfl : v = _ := hv
      refine wpOp_run (v := .bool true) rfl rfl ?_ rfl (Ok.refl _)
      clear hF
      go_simp
    · intro vs w' hvs hR
      have h18 := hvs 18 (by decide)
      have h18 : vs 18 = .bool true := h18
      have hok := MB.ok (hB.drew.next hR)
      clear hvs
      simp only [putFrom, h18]
      simp only [Act.put, List.setIfInBounds_toArray, List.set_cons_zero, List.set_cons_succ]
      go_wp2
      go_ret
      exact ⟨rfl, hok⟩
theorem own : ownKnob Try.prog.godebug = none := by kernel_rfl
theorem laidOut : laidOutB Try.prog = true := by kernel_rfl
set_option maxRecDepth 100000 in
theorem lifted (os : Os) (started : os.Started) (H : Type) (enc : TypeId × Value → H) :
    ReturnsInHanded {} Try.checked os 3 .any (Rows.wireGoodSpec.pre6 enc Try.prog Try.f3 Rows.wireGoodRow.domain false) (Rows.wireGoodSpec.post enc Try.prog Try.f3 false true false false) := by
  refine returnsInHanded_of_change (C := Try.checked) own started (by kernel_rfl) Try.func3
    (ChangeSpec.witness6 (enc := enc) (C := Try.checked) false ⟨#[], #[.agg #[.int .i64 0, .int .i64 0, .int .i64 0, .int .i64 0, .int .i64 0, .int .i64 0, .bool false, .bool false, .int .i64 0, .int .i64 0, .int .i64 0, .int .i64 0, .int .i64 0, .slice none 0 0]], []⟩ 8 (by kernel_rfl) (by kernel_rfl) (by kernel_rfl) (by kernel_rfl)) ?_
  intro W base args ds gs before hval0 hW _ _
  have hval : ∀ (j : Nat) t v, Try.f3.params[j]? = some t → args[j]? = some v → Value.okWide Try.prog W .any base t v := hval0
  have hW' := hW
  obtain ⟨p, q, hA, hV, rfl, _, _⟩ := hW
  obtain ⟨rfl, rfl⟩ := trodVars_none hV
  replace hA : DataW.TrodAll enc Try.prog W 0 (fun _ => true) true Try.f3.params.toList args.toList ds p := hA
  rw [Try.params3] at hA hval
  obtain ⟨v0, vs0, d0, ds0, p0, q0, hargs, rfl, rfl, h0, r0⟩ := trodAll_cons hA
  obtain ⟨rfl, rfl, rfl⟩ := trodAll_nil r0
  obtain rfl : args = #[v0] := by cases args; simp_all
  obtain ⟨m0, A0, c0, rfl, hA0, hc0, hm0, w0⟩ := open_msg (hval 0 28 v0 rfl rfl) h0
  refine (walk W m0 A0 c0 hA0 hc0 hm0 w0).mono fun e W' ⟨he, hb⟩ => ?_
  subst he
  exact ⟨_, rfl, law_post hW' laidOut (by rw [Try.params3]; exact params_ok (by kernel_rfl)) rfl (by kernel_rfl) Try.underlying4 rfl rfl rfl hb⟩
theorem over : Rows.wireGoodRow.holds Try.pinned (OpenSpec.ofChange Rows.wireGoodSpec) :=
  OpenClaim.holds_of_wide 3 Try.f3 rfl rfl rfl rfl rfl rfl rfl ⟨rfl, rfl, rfl, rfl, rfl⟩ rfl rfl rfl rfl rfl (by kernel_rfl) Try.func3 (by kernel_rfl)
    (of_decide_eq_true (by kernel_rfl)) (by unfold Func.isWrapper; first | (rw [if_pos (by decide +kernel)]; kernel_rfl) | (rw [if_neg (by decide +kernel)]; exact ⟨rfl, rfl⟩))
    (fun os started H enc _ => lifted os started H enc)
theorem proved : Rows.WireGoodSaid := over
end wireGood
end Go.Proofs.Ythhdhoaicoaokaa
