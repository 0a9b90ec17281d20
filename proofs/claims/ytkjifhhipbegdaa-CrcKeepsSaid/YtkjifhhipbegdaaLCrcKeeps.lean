/- CrcKeeps: for every slice of bytes the law answers true: what is handed in stays, what is answered is its own. No condition. -/
import Derived.Test.YtkjifhhipbegdaaC05h
import Derived.Deep.CutRange
namespace Go.Proofs.Ytkjifhhipbegdaa.crcKeeps
open Go.ChangeShapes Go.WideShapes Go.ChangeAt Go.RowKit
set_option linter.unusedVariables false
set_option maxRecDepth 100000
/-- Nothing turned since w, so the four slices make the same strings. -/
def Conv4 (w : World) (v1 v2 v3 v4 : Value) (s1 s2 s3 s4 : ByteArray) (w' : World) : Prop := Ok w w' ∧ Sem.run Try.prog (convert 22 9 v1) w' = .ok (.string s1) w' ∧ Sem.run Try.prog (convert 22 9 v2) w' = .ok (.string s2) w' ∧ Sem.run Try.prog (convert 22 9 v3) w' = .ok (.string s3) w' ∧ Sem.run Try.prog (convert 22 9 v4) w' = .ok (.string s4) w'
namespace Conv4
variable {w w' w2 : World} {v1 v2 v3 v4 : Value} {s1 s2 s3 s4 : ByteArray}
theorem step (hK : ∀ w', Ok w w' → Conv4 w v1 v2 v3 v4 s1 s2 s3 s4 w') (h : Conv4 w v1 v2 v3 v4 s1 s2 s3 s4 w') (k : Ok w' w2) : Conv4 w v1 v2 v3 v4 s1 s2 s3 s4 w2 := hK _ (h.1.trans k)
theorem drew (hK : ∀ w', Ok w w' → Conv4 w v1 v2 v3 v4 s1 s2 s3 s4 w') (h : Conv4 w v1 v2 v3 v4 s1 s2 s3 s4 w') : Conv4 w v1 v2 v3 v4 s1 s2 s3 s4 w'.drew := hK _ h.1.drew
theorem alloc (hK : ∀ w', Ok w w' → Conv4 w v1 v2 v3 v4 s1 s2 s3 s4 w') (h : Conv4 w v1 v2 v3 v4 s1 s2 s3 s4 w') (x : Obj) : Conv4 w v1 v2 v3 v4 s1 s2 s3 s4 (w'.alloc x) := hK _ (h.1.alloc x)
end Conv4
attribute [local go_sem ↓] Go.wp_at_zero Go.wp_at_succ
theorem conv {w : World} {A : Option Addr} {l : List Nat} (hA : BytesAt w A l) (hw : ∀ x ∈ l, x < 256) (n : Nat) (hn : n = l.length) (cap : Nat) : Sem.run Try.prog (convert 22 9 (.slice A n cap)) w = .ok (.string (strOf l)) w :=
  run_bytes_string Try.underlying22 Try.underlying5 Try.underlying9 hA hw hn cap
theorem growOwn {w W w2 : World} {e : TypeId} {v : Value} {n : Nat} {xs : List Value} (h : Ok w W) (ho : W.ownsRow w.heap.size e 1 v n xs) (g : W.grownBy w2 v.ownBlock) : Ok w w2 := by
  refine ⟨g.os.trans h.os, g.tape.trans h.tape, g.output.trans h.output, Nat.le_trans h.size g.size, fun k hk => ?_⟩
  refine (g.block k (Nat.lt_of_lt_of_le hk h.size) ?_).trans (h.block k hk)
  rcases ho.2 with ⟨rfl, _⟩ | ⟨b, cap, cur, rfl, hb, _⟩
  · simp [Value.ownBlock]
  · simp [Value.ownBlock]; omega
set_option maxHeartbeats 1600000 in
theorem walk (w : World) (A : Option Addr) (l : List Nat) (cap : Nat) (hA : BytesAt w A l) (hl : l.length ≤ 9223372036854775807) (hw : ∀ x ∈ l, x < 256) (hcap : l.length ≤ cap) :
    Calls Try.prog 7 #[.slice A l.length cap] w fun e w' => e = .returned (.bool true) ∧ Below w.heap.size w w' := by
  have hok := Ok.refl w
  by_cases h : 8192 < l.length
  · clear hA hw
    have hd : decide ((8192 : Int) < (l.length : Int)) = true := decide_eq_true (by omega)
    go_enter Try.func7, Try.ntmps7
    go_wp2_with (go_at_call 9; refine (law5Alive _).mono ?_; rintro e w1 ⟨rfl, hb1⟩; replace hok := hok.trans hb1; clear hb1)
    go_ret
    exact ⟨rfl, hok⟩
  · have hd : decide ((8192 : Int) < (l.length : Int)) = false := decide_eq_false (by omega)
    have HA0 := Lib.hid hA
    have HW := Lib.hid hw
    clear hw
    have HU := Lib.hid Try.underlying22
    go_enter Try.func7, Try.ntmps7
    go_wp2_with (first
      | (go_at_call 9; refine (law5Alive _).mono ?_; rintro e w1 ⟨rfl, hb1⟩; replace hA := hA.below hb1; replace hok := hok.trans hb1; have hz := hok.size; clear hb1)
      | (at_builtin; go_loud (refine wpList_append_bytes rfl _ _ 22 rfl w.heap.size 5 HU.out uint8Info _ [] 0 rfl rfl (World.ownsRow_lit _ #[] 0 (by omega) (by decide) rfl) A l l.length cap rfl rfl (hA.alloc _) (by simp; omega) (by simp; omega) ?_)))
    intro v1 w2 hown1 hgrow1
    replace hok : Ok w w2 := growOwn (hok.alloc _) (World.ownsRow_lit w1 #[] 0 hz (by decide) rfl) hgrow1
    clear hA
    replace hz := hok.size
    have HO := Lib.hid hown1
    clear hown1 hgrow1
    go_wp2_with (at_builtin; go_loud (refine wpList_append_bytes rfl _ _ 22 rfl w.heap.size 5 HU.out uint8Info v1 l l.length rfl rfl (World.ownsRow.alloc HO.out _) (some ⟨w2.heap.size, 0, none⟩) [120, 121, 122, 117, 118] 5 5 rfl rfl (BytesAt.new _ _ _ _ rfl rfl) (by simp; omega) (by simp; omega) ?_))
    intro v2 w3 hown2 hgrow2
    replace hok : Ok w w3 := growOwn (hok.alloc _) (World.ownsRow.alloc HO.out _) hgrow2
    obtain ⟨A2, c2, rfl, hc2, hR2⟩ := RowAt.of_own (l := l ++ [120, 121, 122, 117, 118]) (by simpa using hown2)
    obtain ⟨b2, off2, rfl, -, -, -, -⟩ := hR2 0 (by simp)
    have hM := hR2.bytes
    have HM1 := Lib.hid (show BytesAt w3 (some ⟨b2, off2, none⟩) l by have := hM.cut 0 l.length; simpa using this)
    have HM2 := Lib.hid (show BytesAt w3 (some ⟨b2, off2 + l.length, none⟩) [120, 121, 122, 117, 118] by have := hM.cut l.length 5; simpa using this)
    have HAw := Lib.hid (HA0.out.below hok)
    have HOK := Lib.hid hok
    have hlc : (l.length : Int) ≤ (c2 : Int) := by simp at hc2; omega
    have hl0 : (0 : Int) ≤ (l.length : Int) := by omega
    have hn5 : ¬ (c2 = l.length) := by simp at hc2; omega
    have hlen5 : (l ++ [120, 121, 122, 117, 118]).length = l.length + 5 := by simp
    rw [hlen5]
    clear hown2 hgrow2 hR2 hM HA0 HO hok hz hc2 hlen5
    have hok3 := Ok.refl w3
    have KS := Lib.hid fun (W : World) (h : BytesAt W (some ⟨b2, off2, none⟩) l) => crcSeal (some ⟨b2, off2, none⟩) l c2 W h HW.out (by omega)
    have KT := Lib.hid fun (W : World) (g : Nat) (h : BytesAt W (some ⟨g, 0, none⟩) (sealL l)) => crcOpenRow (some ⟨g, 0, none⟩) (sealL l) (l.length + 4) (sealL_length l).symm (l.length + 4) W h (sealL_lt HW.out) (by rw [sealL_length]; omega) (by rw [sealL_length]; omega)
    have KV := Lib.hid fun (W : World) (g : Nat) (h : BytesAt W (some ⟨g, 0, none⟩) (sealL l)) => crcOpenAt (some ⟨g, 0, none⟩) (sealL l) (l.length + 4) (sealL_length l).symm (l.length + 4) W h (sealL_lt HW.out) (by rw [sealL_length]; omega) (by rw [sealL_length]; omega)
    rw [isSealed_sealL, opened_sealL] at KT KV
    obtain ⟨s, hs⟩ : ∃ s, sealL l = s := ⟨_, rfl⟩
    rw [hs] at KS KT KV
    clear hs
    go_upto_region 7 with ((go_at_call 13; (with_reducible refine (KS.out _ (HM1.out.below hok3)).mono ?_); rintro e w4 ⟨g, rfl, hg, hO, hb1⟩; have hB := hO.bytes; clear hO hg; replace hok3 := hok3.trans hb1; clear hb1))
    clear KS
    have hok4 := Ok.refl w4
    have HB := Lib.hid hB
    clear hB
    go_upto_region 8 with ((go_at_call 14; (with_reducible refine (KT.out _ _ HB.out).mono ?_); rintro e w5 ⟨A3, c3, rfl, hc3, hX, hb1⟩; replace hok4 := hok4.trans hb1; clear hb1 KT))
    go_wp2_with fail
    have HX := Lib.hid hX
    clear hX
    go_loopw [32] (fun i wx => ∃ k : Nat, k ≤ l.length ∧ i = .int .i64 k ∧ (∃ xs : List Nat, xs.length = l.length ∧ (∀ x ∈ xs, x < 256) ∧ RowAt wx w4.heap.size A3 xs) ∧ Ok w4 wx) (fun i _ => l.length - (intOf i).toNat)
    case atStart => exact ⟨0, Nat.zero_le _, rfl, ⟨l, rfl, HW.out, HX.out⟩, hok4⟩
    case round =>
      clear hok4
      obtain ⟨k, hk, rfl, ⟨xs, hxs, hxb, hX⟩, hok4⟩ := hrel
      by_cases hlt : k < l.length
      · obtain ⟨b, off, hA, hBb, hbs, hcell, hfr⟩ := hX k (by omega)
        subst hA
        have hby := hxb xs[k] (List.getElem_mem _)
        have HS := Lib.hid fun v => hX.set k (by omega) v
        have HL := Lib.hid hxs
        have HXB := Lib.hid hxb
        obtain ⟨y0, hy0⟩ : ∃ y, xs[k] = y := ⟨_, rfl⟩
        rw [hy0] at hcell hby
        clear hy0 hxs hxb hX
        go_wp2
        go_roundw
        case rel => exact ⟨k + 1, by omega, by go_num, ⟨xs.set k ((y0 + 1) % 256), by rw [List.length_set, HL.out], fun x hx => (by rcases List.mem_or_eq_of_mem_set hx with g | g; exact HXB.out x g; omega), by rw [show ((y0 : Int) + 1) % 256 = (((y0 + 1) % 256 : Nat) : Int) by omega]; exact HS.out _⟩, hok4.setCell hBb _⟩
        case measure => simp [intOf]; omega
      · clear hX hxb hxs HX
        go_upto_region 14 with ((go_at_call 14; (with_reducible refine (KV.out _ _ (HB.out.below hok4)).mono ?_); rintro e w6 ⟨A6, c6, rfl, hY, hb1⟩; replace hok4 := hok4.trans hb1; clear hb1 KV))
        have hok6 := hok3.trans hok4
        have HK := Lib.hid fun w' (k : Ok w6 w') => (⟨k, conv ((HM1.out.below hok6).below k) HW.out _ rfl c2, conv ((HAw.out.below hok6).below k) HW.out _ rfl cap, conv ((HM2.out.below hok6).below k) (by decide) 5 rfl (c2 - l.length), conv (hY.below k) HW.out _ rfl c6⟩ : Conv4 w6 (.slice (some ⟨b2, off2, none⟩) l.length c2) (.slice A l.length cap) (.slice (some ⟨b2, off2 + l.length, none⟩) 5 (c2 - l.length)) (.slice A6 l.length c6) (strOf l) (strOf l) (strOf [120, 121, 122, 117, 118]) (strOf l) w')
        rw [show strOf [120, 121, 122, 117, 118] = ⟨#[120, 121, 122, 117, 118]⟩ from rfl] at HK
        have hS := HK.out _ (Ok.refl w6)
        replace HOK := Lib.hid (HOK.out.trans hok6)
        obtain ⟨rl, hrl⟩ : ∃ r, strOf l = r := ⟨_, rfl⟩
        rw [hrl] at HK hS
        clear hrl hY HM1 HM2 HAw HW hok6 hok3 hok4 HB HU hcap hd hl h
        have hl5 : (l.length : Int) ≤ (l.length : Int) + 5 := by omega
        go_region_held3 (fun w' => Ok w6 w' ∧ Sem.run Try.prog (convert 22 9 (.slice (some ⟨b2, off2, none⟩) l.length c2)) w' = .ok (.string rl) w' ∧ Sem.run Try.prog (convert 22 9 (.slice A l.length cap)) w' = .ok (.string rl) w' ∧ Sem.run Try.prog (convert 22 9 (.slice (some ⟨b2, off2 + l.length, none⟩) 5 (c2 - l.length))) w' = .ok (.string ⟨#[120, 121, 122, 117, 118]⟩) w' ∧ Sem.run Try.prog (convert 22 9 (.slice A6 l.length c6)) w' = .ok (.string rl) w')
          (first | assumption | exact Conv4.drew HK.out (by assumption) | exact Conv4.alloc HK.out (by assumption) _ | exact Conv4.step HK.out (by assumption) (by assumption))
          (fail)
        all_goals
          rename_i hH
          have hok := HOK.out.trans hH.1
          clear hH hS HK HOK
          go_wp2
          go_ret
          exact ⟨rfl, hok⟩
theorem own : ownKnob Try.prog.godebug = none := by kernel_rfl
theorem laidOut : laidOutB Try.prog = true := by kernel_rfl
set_option maxRecDepth 100000 in
theorem lifted (os : Os) (started : os.Started) (H : Type) (enc : TypeId × Value → H) :
    ReturnsInHanded {} Try.checked os 7 .any (Rows.crcKeepsSpec.pre6 enc Try.prog Try.f7 Rows.crcKeepsRow.domain false) (Rows.crcKeepsSpec.post enc Try.prog Try.f7 false true false false) := by
  refine returnsInHanded_of_change (C := Try.checked) own started (by kernel_rfl) Try.func7
    (ChangeSpec.witness6 (enc := enc) (C := Try.checked) false ⟨#[], #[.slice none 0 0], []⟩ 8 (by kernel_rfl) (by kernel_rfl) (by kernel_rfl) (by kernel_rfl)) ?_
  intro W base args ds gs before hval0 hW _ _
  have hval : ∀ (j : Nat) t v, Try.f7.params[j]? = some t → args[j]? = some v → Value.okWide Try.prog W .any base t v := hval0
  have hW' := hW
  obtain ⟨p, q, hA, hV, rfl, _, _⟩ := hW
  obtain ⟨rfl, rfl⟩ := trodVars_none hV
  replace hA : DataW.TrodAll enc Try.prog W 0 (fun _ => true) true Try.f7.params.toList args.toList ds p := hA
  rw [Try.params7] at hA hval
  obtain ⟨v0, vs0, d0, ds0, p0, q0, hargs, rfl, rfl, h0, r0⟩ := trodAll_cons hA
  obtain ⟨rfl, rfl, rfl⟩ := trodAll_nil r0
  obtain rfl : args = #[v0] := by cases args; simp_all
  obtain ⟨A0, l0, c0, rfl, hA0, hl0, hw0, hc0⟩ := open_bytesC Try.underlying22 Try.underlying5 (by kernel_rfl) (hval 0 22 v0 rfl rfl) h0
  refine (walk W A0 l0 c0 hA0 hl0 hw0 hc0).mono fun e W' ⟨he, hb⟩ => ?_
  subst he
  exact ⟨_, rfl, law_post hW' laidOut (by rw [Try.params7]; exact params_ok (by kernel_rfl)) rfl (by kernel_rfl) Try.underlying4 rfl rfl rfl hb⟩
theorem over : Rows.crcKeepsRow.holds Try.pinned (OpenSpec.ofChange Rows.crcKeepsSpec) :=
  OpenClaim.holds_of_wide 7 Try.f7 rfl rfl rfl rfl rfl rfl rfl ⟨rfl, rfl, rfl, rfl, rfl⟩ rfl rfl rfl rfl rfl (by kernel_rfl) Try.func7 (by kernel_rfl)
    (of_decide_eq_true (by kernel_rfl)) (by unfold Func.isWrapper; first | (rw [if_pos (by decide +kernel)]; kernel_rfl) | (rw [if_neg (by decide +kernel)]; exact ⟨rfl, rfl⟩))
    (fun os started H enc _ => lifted os started H enc)
theorem proved : Rows.CrcKeepsSaid := over
end Go.Proofs.Ytkjifhhipbegdaa.crcKeeps
