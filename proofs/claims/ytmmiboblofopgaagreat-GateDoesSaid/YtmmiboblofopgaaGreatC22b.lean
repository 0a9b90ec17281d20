/- Contracts of layer 22: what the law asks first. -/
import Derived.Test.YtmmiboblofopgaaGreatC22a
import Derived.Test.YtmmiboblofopgaaGreatB13
namespace Go.Proofs.YtmmiboblofopgaaGreat
open Go.RowKit
set_option linter.unusedVariables false
set_option maxRecDepth 100000
attribute [local go_sem ↓] Go.wp_at_zero Go.wp_at_succ
def in22 : In := ⟨1000, none, [], 0, true, 5000, false, none, [], 0⟩
def sta22 : Sta := ⟨4950, 5050, 0, false, 0, 0, true, [], 0, 0, 0⟩
theorem Trim.val_one (x : Int) : Trim.val 0 [x] = x := by simp [Trim.val, Trim.kth]
theorem state22 : Gate.state par22 0 zeroSta 1000 true 5000 [] false [] = Health.step par22 zeroSta 1000 sta22 := by
  have hr : Gate.reads par22 true 5000 = true := by decide +kernel
  have hs : Anchor.seen par22 5000 = (4950, 5050) := by decide +kernel
  have hsp : Gate.spans par22 0 true 5000 [] = [(4950, 5050)] := by
    unfold Gate.spans
    rw [if_pos hr, hs]
    have : Gate.told par22 0 [] = [] := by
      have := Gate.told_few par22 0 []
      exact List.length_eq_zero_iff.1 (Nat.le_zero.1 this)
    rw [this]
    rfl
  have hl : Gate.left par22.f [(4950, 5050)] = true := by
    show Gate.left 0 _ = true
    unfold Gate.left
    rw [show ((([((4950 : Int), (5050 : Int))] : List (Int × Int)).length : Int) - 1 - 0) = 0 from rfl, List.map_cons, List.map_cons, List.map_nil, List.map_nil, Trim.val_one, Trim.val_one]
    decide
  have hf : Gate.fused par22.f [(4950, 5050)] = (4950, 5050) := by
    unfold Gate.fused
    rw [if_pos hl]
    show (Sat.clip (Trim.val ((([((4950 : Int), (5050 : Int))] : List (Int × Int)).length : Int) - 1 - 0) _), Sat.clip (Trim.val 0 _)) = _
    rw [show ((([((4950 : Int), (5050 : Int))] : List (Int × Int)).length : Int) - 1 - 0) = 0 from rfl, List.map_cons, List.map_cons, List.map_nil, List.map_nil, Trim.val_one, Trim.val_one]
    decide
  unfold Gate.state
  rw [hsp]
  have hn : Gate.next par22 zeroSta 1000 [(4950, 5050)] false [] = sta22 := by
    unfold Gate.next
    rw [hf]
    simp only [hl, if_true]
    rfl
  rw [hn]
set_option maxHeartbeats 3200000 in
theorem law22AliveF (F : GateWorks) (w : World) : Calls Tryz.prog 8 #[] w fun e w' => e = .returned (.bool true) ∧ Ok w w' := by
  have hok := Ok.refl w
  have KN := Lib.hid fun w => F.new par22 0 zeroSta none 0 w (PairsAt.empty _ _) (by decide)
  rw [show Health.sane par22 zeroSta = zeroSta by decide +kernel] at KN
  have KB := Lib.hid fun w G A c h hA hAG => F.beat G par22 0 zeroSta A c in22 w h hA hAG (by decide) ⟨⟨CellsAt.empty _ _, by simp [in22]⟩, PairsAt.empty _ _⟩ (by decide) (by decide) (by decide) (by simp [in22])
  obtain ⟨t, ht⟩ : ∃ t, Gate.after par22 0 zeroSta in22 = t := ⟨_, rfl⟩
  obtain ⟨m, hm⟩ : ∃ m, Gate.tells par22 0 zeroSta in22 = m := ⟨_, rfl⟩
  have et : t = Health.stamped (Health.step par22 zeroSta 1000 sta22) := by rw [← ht]; exact congrArg Health.stamped state22
  have em : m = Gate.say par22 (Health.step par22 zeroSta 1000 sta22) 1 0 (Gate.reads par22 true 5000) (Gate.sees par22 true 5000) := by rw [← hm]; exact congrArg (fun s => Gate.say par22 s 1 0 (Gate.reads par22 true 5000) (Gate.sees par22 true 5000)) state22
  have h1 : (if Health.of par22 t = 0 then (0 : Int) else t.time) = 5000 := by rw [et]; decide +kernel
  have h2 : (if Health.of par22 t = 0 then (20 : Int) else 0) = 0 := by rw [et]; decide +kernel
  have m1 : m.lo = 4950 := by rw [em]; decide +kernel
  have m2 : m.hi = 5050 := by rw [em]; decide +kernel
  have m3 : m.kind = 1 := by rw [em]; decide +kernel
  have m4 : m.good = true := by rw [em]; decide +kernel
  rw [ht, hm] at KB
  unfold msgV at KB
  rw [m1, m2, m3, m4] at KB
  have KF := Lib.hid fun w G A c h => front21.frontNow [.int .i64 0] G par22 t A c w h
  rw [h1, h2] at KF
  have hE := eqSpan21 4950 5050 4950 5050
  have hz : ∀ w, Sem.run Tryz.prog (zeroValue 30) w = .ok (.agg #[.int .i64 0, .int .i64 0, .int .i64 0, .bool false, .int .i64 0, .int .i64 0, .bool false, .slice none 0 0, .int .i64 0, .int .i64 0, .int .i64 0]) w := fun w => by kernel_rfl
  have hzi : ∀ w, Sem.run Tryz.prog (zeroValue 44) w = .ok (.agg #[.int .i64 0, .slice none 0 0, .bool false, .int .i64 0, .bool false, .slice none 0 0]) w := fun w => by kernel_rfl
  clear ht hm et em h1 h2 m1 m2 m3 m4
  go_enter Tryz.func8, Tryz.ntmps8
  go_upto_region 4 with (first | (go_at_call 25; (with_reducible refine (law22Some _).mono ?_); rintro e w1 ⟨rfl, hb1⟩; replace hok := hok.trans hb1; clear hb1) | (go_at_call 10; refine (KN.out _).mono ?_; rintro e w2 ⟨G, A2, c2, rfl, hO, hT, hG, hAG, hb1⟩; have hwG := Nat.le_trans hok.size hG; replace hok := hok.trans hb1; clear hb1 hG))
  have hA := hT.pairs.1
  clear hT
  go_upto_region 5 with (go_at_call 16; refine (KB.out _ _ _ _ hO hA hAG).mono ?_; rintro e w3 ⟨A3, c3, A4, c4, rfl, hO2, -, -, hon⟩; replace hok := hon.then_ok hok hwG; clear hon hO hA hAG)
  change Code.wp _ _ _ _ (w3.alloc (.cells #[.int .i64 1, .int .i64 m.frm, .int .i64 4950, .int .i64 5050, .int .i64 m.held, .int .i64 m.hops, .bool true, .bool m.ref, .int .i64 m.slo, .int .i64 m.shi, .int .i64 m.pulse, .int .i64 m.time, .int .i64 m.num, .slice A3 m.table.length c3] 47))
  have hM := Own.new w3 #[.int .i64 1, .int .i64 m.frm, .int .i64 4950, .int .i64 5050, .int .i64 m.held, .int .i64 m.hops, .bool true, .bool m.ref, .int .i64 m.slo, .int .i64 m.shi, .int .i64 m.pulse, .int .i64 m.time, .int .i64 m.num, .slice A3 m.table.length c3] 47 rfl
  replace hO2 := hO2.alloc (.cells #[.int .i64 1, .int .i64 m.frm, .int .i64 4950, .int .i64 5050, .int .i64 m.held, .int .i64 m.hops, .bool true, .bool m.ref, .int .i64 m.slo, .int .i64 m.shi, .int .i64 m.pulse, .int .i64 m.time, .int .i64 m.num, .slice A3 m.table.length c3] 47)
  replace hok := hok.alloc (.cells #[.int .i64 1, .int .i64 m.frm, .int .i64 4950, .int .i64 5050, .int .i64 m.held, .int .i64 m.hops, .bool true, .bool m.ref, .int .i64 m.slo, .int .i64 m.shi, .int .i64 m.pulse, .int .i64 m.time, .int .i64 m.num, .slice A3 m.table.length c3] 47)
  generalize w3.alloc (.cells #[.int .i64 1, .int .i64 m.frm, .int .i64 4950, .int .i64 5050, .int .i64 m.held, .int .i64 m.hops, .bool true, .bool m.ref, .int .i64 m.slo, .int .i64 m.shi, .int .i64 m.pulse, .int .i64 m.time, .int .i64 m.num, .slice A3 m.table.length c3] 47) = W3 at hM hO2 hok ⊢
  generalize w3.heap.size = M at hM ⊢
  go_upto_region 6 with (go_at_call 26; refine (KF.out _ _ _ _ hO2).mono ?_; rintro e w4 ⟨rfl, hb1⟩; replace hM := hM.next hb1; replace hok := hok.trans hb1; clear hb1 hO2)
  have q0 := hM.cell 0 (v := .int .i64 1) rfl
  have q2 := hM.cell 2 (v := .int .i64 4950) rfl
  have q3 := hM.cell 3 (v := .int .i64 5050) rfl
  have q6 := hM.cell 6 (v := .bool true) rfl
  have hMl := hM.lt
  go_wp2_with fail
  go_ret
  exact ⟨rfl, hok⟩
end Go.Proofs.YtmmiboblofopgaaGreat
