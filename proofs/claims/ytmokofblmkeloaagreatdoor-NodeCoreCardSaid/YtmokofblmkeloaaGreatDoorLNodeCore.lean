import Derived.Test.YtmokofblmkeloaaGreatDoorP48
import Derived.Test.YtmokofblmkeloaaGreatDoorC23h
import Derived.Test.YtmokofblmkeloaaGreatDoorB03
import Derived.Test.YtmokofblmkeloaaGreatDoorB06
import Derived.Test.YtmokofblmkeloaaGreatDoorP45
import Derived.Test.YtmokofblmkeloaaGreatDoorP35
import Derived.Test.YtmokofblmkeloaaGreatDoorP30
import Derived.Test.YtmokofblmkeloaaGreatDoorW16
import Derived.Test.YtmokofblmkeloaaGreatDoorB00
import Derived.Test.YtmokofblmkeloaaGreatDoorB12
import Derived.Deep.CutRange
import Derived.BigQuiet
import Derived.BigGuardPart
namespace Go.Proofs.YtmokofblmkeloaaGreatDoor.nodeCore
open Go.ChangeShapes Go.WideShapes Go.ChangeAt Go.RowKit
set_option linter.unusedVariables false
set_option maxRecDepth 100000
attribute [local go_sem ↓] Go.wp_at_zero Go.wp_at_succ
/-- The region k of a body. -/
def regAt (k : Nat) : Code → Option Code
  | .region i ops d => if i = k then some (.region i ops d) else none
  | .seq a b => match regAt k a with
    | some c => some c
    | none => regAt k b
  | .cond _ a b => match regAt k a with
    | some c => some c
    | none => regAt k b
  | .block _ c => regAt k c
  | .loop c => regAt k c
  | _ => none
noncomputable def Rcond3 : Code := (Tryz.f4.body.bind (regAt 3)).getD .skip
set_option maxHeartbeats 12800000 in
theorem cond3 (w : World) (Bp H : Nat) (p : Par) (s : Sta) (A : Option Addr) (cap : Nat) (now : Int) (T : Option Addr) (ts : List Tl) (cT : Nat) (B : Option Addr) (l : List HA) (cB : Nat) (lg : Bool) (W : World) {u0 u1 u5 u8 u9 u10 u11 u12 u13 u14 u15 u16 u17 u18 u19 u20 u21 u22 u23 u24 u25 u26 u27 u28 u29 u30 u31 u32 u33 u34 u35 u36 u37 u38 u39 u40 u41 u42 u43 u44 u45 u46 u47 u48 u49 u50 u51 u52 u53 u54 u55 u56 u57 u58 u59 u60 u61 u62 u63 u64 u65 u66 u67 u68 u69 u70 u71 u72 u73 u74 u75 u76 u77 u78 u79 u80 u81 u82 u83 u84 u85 u86 u87 u88 u89 u90 u91 u92 u93 u94 u95 u96 u97 u98 u99 u100 u101 u102 u103 u104 u105 u106 u107 u108 u109 u110 u111 u112 u113 u114 u115 u116 u117 u118 u119 u120 u121 u122 u123 u124 u125 u126 u127 u128 u129 u130 u131 u132 u133 u134 u135 u136 u137 u138 u139 u140 u141 u142 u143 u144 u145 u146 u147 u148 u149 u150 u151 u152 u153 u154 u155 u156 u157 u158 u159 u160 u161 u162 u163 u164 u165 u166 u167 u168 u169 u170 u171 u172 u173 u174 u175 u176 u177 u178 u179 u180 u181 u182 u183 u184 u185 u186 u187 u188 u189 u190 u191 u192 u193 u194 u195 u196 u197 u198 u199 u200 u201 u202 u203 u204 u205 u206 u207 u208 u209 u210 u211 u212 u213 u214 u215 u216 u217 u218 u219 u220 u221 u222 u223 u224 u225 u226 u227 u228 u229 u230 u231 u232 u233 u234 u235 u236 u237 u238 u239 u240 u241 u242 u243 u244 u245 u246 u247 u248 u249 u250 u251 u252 u253 u254 u255 u256 u257 u258 u259 u260 u261 u262 u263 u264 u265 u266 u267 u268 u269 u270 u271 u272 u273 u274 u275 u276 u277 u278 u279 u280 u281 u282 u283 u284 u285 u286 u287 u288 : Value} {Q : Exit → Act → World → Prop} (hP : Own W Bp (parCells p)) (hS : Own W H (staCells s A cap)) (hok : Ok w W) (htl : ts.length ≤ 9223372036854775807) (hll : l.length ≤ 9223372036854775807) (KCH : Hid (∀ w, Calls Tryz.prog 19 #[parV p] w fun e w' => e = .returned (.int .i64 (Lim.check p)) ∧ Ok w w')) (KG : Hid (∀ (W' : World) (b : Addr), InsAt W' (some b) [(⟨0, B, l, cB, false, 0, false, none, [], 0⟩ : In)] → Calls Tryz.prog 9 #[staV s A cap, .slice (some b) 1 1] W' fun e w' => e = .returned (.bool lg) ∧ Ok W' w')) (HI1 : Hid (∀ (W' : World), Ok w W' → InAt W' (⟨0, B, l, cB, false, 0, false, none, [], 0⟩ : In))) (hQ : ∀ (v28 v29 v30 v31 v32 v33 v34 v35 v36 v37 v38 v39 v40 v41 v42 v43 v44 v45 v46 v47 v48 v49 v50 v51 v52 v53 v54 v55 v56 v57 v58 v59 v60 v61 : Value) (b : Bool) (wx : World), (b = false → (Lim.May p ∧ lg = false ∧ ¬ (1125899906842624 < now) ∧ ¬ (now < -1125899906842624) ∧ (ts.length : Int) = p.n - p.f ∧ ¬ (p.f < (l.length : Int)))) → Own wx Bp (parCells p) → Own wx H (staCells s A cap) → Ok w wx → Q .normal ⟨#[u0, u1, .int .i64 now, .slice T ts.length cT, .slice B l.length cB, u5, .pointer (some ⟨Bp, 0, none⟩), .pointer (some ⟨H, 0, none⟩), u8, u9, u10, u11, u12, u13, u14, u15, u16, u17, u18, u19, u20, u21, u22, u23, u24, u25, u26, u27, v28, v29, v30, v31, v32, v33, v34, v35, v36, v37, v38, v39, v40, v41, v42, v43, v44, v45, v46, v47, v48, v49, v50, v51, v52, v53, v54, v55, v56, v57, v58, v59, v60, v61, .bool b, u63, u64, u65, u66, u67, u68, u69, u70, u71, u72, u73, u74, u75, u76, u77, u78, u79, u80, u81, u82, u83, u84, u85, u86, u87, u88, u89, u90, u91, u92, u93, u94, u95, u96, u97, u98, u99, u100, u101, u102, u103, u104, u105, u106, u107, u108, u109, u110, u111, u112, u113, u114, u115, u116, u117, u118, u119, u120, u121, u122, u123, u124, u125, u126, u127, u128, u129, u130, u131, u132, u133, u134, u135, u136, u137, u138, u139, u140, u141, u142, u143, u144, u145, u146, u147, u148, u149, u150, u151, u152, u153, u154, u155, u156, u157, u158, u159, u160, u161, u162, u163, u164, u165, u166, u167, u168, u169, u170, u171, u172, u173, u174, u175, u176, u177, u178, u179, u180, u181, u182, u183, u184, u185, u186, u187, u188, u189, u190, u191, u192, u193, u194, u195, u196, u197, u198, u199, u200, u201, u202, u203, u204, u205, u206, u207, u208, u209, u210, u211, u212, u213, u214, u215, u216, u217, u218, u219, u220, u221, u222, u223, u224, u225, u226, u227, u228, u229, u230, u231, u232, u233, u234, u235, u236, u237, u238, u239, u240, u241, u242, u243, u244, u245, u246, u247, u248, u249, u250, u251, u252, u253, u254, u255, u256, u257, u258, u259, u260, u261, u262, u263, u264, u265, u266, u267, u268, u269, u270, u271, u272, u273, u274, u275, u276, u277, u278, u279, u280, u281, u282, u283, u284, u285, u286, u287, u288], []⟩ wx) :
    Code.wp Tryz.prog Rcond3 Q ⟨#[u0, u1, .int .i64 now, .slice T ts.length cT, .slice B l.length cB, u5, .pointer (some ⟨Bp, 0, none⟩), .pointer (some ⟨H, 0, none⟩), u8, u9, u10, u11, u12, u13, u14, u15, u16, u17, u18, u19, u20, u21, u22, u23, u24, u25, u26, u27, u28, u29, u30, u31, u32, u33, u34, u35, u36, u37, u38, u39, u40, u41, u42, u43, u44, u45, u46, u47, u48, u49, u50, u51, u52, u53, u54, u55, u56, u57, u58, u59, u60, u61, u62, u63, u64, u65, u66, u67, u68, u69, u70, u71, u72, u73, u74, u75, u76, u77, u78, u79, u80, u81, u82, u83, u84, u85, u86, u87, u88, u89, u90, u91, u92, u93, u94, u95, u96, u97, u98, u99, u100, u101, u102, u103, u104, u105, u106, u107, u108, u109, u110, u111, u112, u113, u114, u115, u116, u117, u118, u119, u120, u121, u122, u123, u124, u125, u126, u127, u128, u129, u130, u131, u132, u133, u134, u135, u136, u137, u138, u139, u140, u141, u142, u143, u144, u145, u146, u147, u148, u149, u150, u151, u152, u153, u154, u155, u156, u157, u158, u159, u160, u161, u162, u163, u164, u165, u166, u167, u168, u169, u170, u171, u172, u173, u174, u175, u176, u177, u178, u179, u180, u181, u182, u183, u184, u185, u186, u187, u188, u189, u190, u191, u192, u193, u194, u195, u196, u197, u198, u199, u200, u201, u202, u203, u204, u205, u206, u207, u208, u209, u210, u211, u212, u213, u214, u215, u216, u217, u218, u219, u220, u221, u222, u223, u224, u225, u226, u227, u228, u229, u230, u231, u232, u233, u234, u235, u236, u237, u238, u239, u240, u241, u242, u243, u244, u245, u246, u247, u248, u249, u250, u251, u252, u253, u254, u255, u256, u257, u258, u259, u260, u261, u262, u263, u264, u265, u266, u267, u268, u269, u270, u271, u272, u273, u274, u275, u276, u277, u278, u279, u280, u281, u282, u283, u284, u285, u286, u287, u288], []⟩ W := by
  conv => arg 2; whnf
  have HQ := Lib.hid hQ
  clear hQ
  obtain ⟨s0, s1, s2, s3, s4, s5, s6, s7, s8, s9, s10⟩ := hS.sta; have hsl := hS.lt
  obtain ⟨c0, c1, c2, c3, c4, c5, c6, c7, c8, c9, c10, c11⟩ := hP.pars; have hPl := hP.lt
  by_cases h0 : Lim.May p
  · rw [show Lim.check p = 0 from if_pos h0] at KCH
    have HM := Lib.hid h0
    have hf := h0.1.2
    have hn0 := h0.1.1
    have hk1 : IntKind.i64.wrap (p.n - p.f) = p.n - p.f := IntWalk.i64_in _ ⟨by omega, by omega⟩
    clear h0
    cases lg with
    | true =>
      go_wp2_with (first | (go_at_call 19; refine (KCH.out _).mono ?_; rintro e w2 ⟨rfl, hb1⟩; clear s0 s1 s2 s3 s4 s5 s6 s7 s8 s9 s10 hsl; clear c0 c1 c2 c3 c4 c5 c6 c7 c8 c9 c10 c11 hPl; replace hP := hP.next hb1; replace hS := hS.next hb1; replace hok := hok.trans hb1; clear hb1; obtain ⟨s0, s1, s2, s3, s4, s5, s6, s7, s8, s9, s10⟩ := hS.sta; have hsl := hS.lt; obtain ⟨c0, c1, c2, c3, c4, c5, c6, c7, c8, c9, c10, c11⟩ := hP.pars; have hPl := hP.lt) | (go_at_call 9; refine (KG.out _ _ (InsAt.new _ _ (HI1.out _ hok) _ rfl)).mono ?_; rintro e w3 ⟨rfl, hb1⟩; clear s0 s1 s2 s3 s4 s5 s6 s7 s8 s9 s10 hsl; clear c0 c1 c2 c3 c4 c5 c6 c7 c8 c9 c10 c11 hPl; replace hb1 := ((Ok.refl _).alloc _).trans hb1; replace hP := hP.next hb1; replace hS := hS.next hb1; replace hok := hok.trans hb1; clear hb1; obtain ⟨s0, s1, s2, s3, s4, s5, s6, s7, s8, s9, s10⟩ := hS.sta; have hsl := hS.lt; obtain ⟨c0, c1, c2, c3, c4, c5, c6, c7, c8, c9, c10, c11⟩ := hP.pars; have hPl := hP.lt))
      all_goals
        refine HQ.out _ _ _ _ _ _ _ _ _ _ _ _ _ _ _ _ _ _ _ _ _ _ _ _ _ _ _ _ _ _ _ _ _ _ _ _ ?_ hP hS hok
        intro hb
        cases hb
    | false =>
    by_cases h3 : (ts.length : Int) = p.n - p.f
    rotate_left
    · have e3 : ((ts.length : Int) != p.n - p.f) = true := by simpa using h3
      have f3 : ((ts.length : Int) == p.n - p.f) = false := by simpa using h3
      go_wp2_with (first | (go_at_call 19; refine (KCH.out _).mono ?_; rintro e w2 ⟨rfl, hb1⟩; clear s0 s1 s2 s3 s4 s5 s6 s7 s8 s9 s10 hsl; clear c0 c1 c2 c3 c4 c5 c6 c7 c8 c9 c10 c11 hPl; replace hP := hP.next hb1; replace hS := hS.next hb1; replace hok := hok.trans hb1; clear hb1; obtain ⟨s0, s1, s2, s3, s4, s5, s6, s7, s8, s9, s10⟩ := hS.sta; have hsl := hS.lt; obtain ⟨c0, c1, c2, c3, c4, c5, c6, c7, c8, c9, c10, c11⟩ := hP.pars; have hPl := hP.lt) | (go_at_call 9; refine (KG.out _ _ (InsAt.new _ _ (HI1.out _ hok) _ rfl)).mono ?_; rintro e w3 ⟨rfl, hb1⟩; clear s0 s1 s2 s3 s4 s5 s6 s7 s8 s9 s10 hsl; clear c0 c1 c2 c3 c4 c5 c6 c7 c8 c9 c10 c11 hPl; replace hb1 := ((Ok.refl _).alloc _).trans hb1; replace hP := hP.next hb1; replace hS := hS.next hb1; replace hok := hok.trans hb1; clear hb1; obtain ⟨s0, s1, s2, s3, s4, s5, s6, s7, s8, s9, s10⟩ := hS.sta; have hsl := hS.lt; obtain ⟨c0, c1, c2, c3, c4, c5, c6, c7, c8, c9, c10, c11⟩ := hP.pars; have hPl := hP.lt))
      all_goals
        refine HQ.out _ _ _ _ _ _ _ _ _ _ _ _ _ _ _ _ _ _ _ _ _ _ _ _ _ _ _ _ _ _ _ _ _ _ _ _ ?_ hP hS hok
        intro hb
        cases hb
    · have e3 : ((ts.length : Int) != p.n - p.f) = false := by simpa using h3
      have f3 : ((ts.length : Int) == p.n - p.f) = true := by simpa using h3
      go_wp2_with (first | (go_at_call 19; refine (KCH.out _).mono ?_; rintro e w2 ⟨rfl, hb1⟩; clear s0 s1 s2 s3 s4 s5 s6 s7 s8 s9 s10 hsl; clear c0 c1 c2 c3 c4 c5 c6 c7 c8 c9 c10 c11 hPl; replace hP := hP.next hb1; replace hS := hS.next hb1; replace hok := hok.trans hb1; clear hb1; obtain ⟨s0, s1, s2, s3, s4, s5, s6, s7, s8, s9, s10⟩ := hS.sta; have hsl := hS.lt; obtain ⟨c0, c1, c2, c3, c4, c5, c6, c7, c8, c9, c10, c11⟩ := hP.pars; have hPl := hP.lt) | (go_at_call 9; refine (KG.out _ _ (InsAt.new _ _ (HI1.out _ hok) _ rfl)).mono ?_; rintro e w3 ⟨rfl, hb1⟩; clear s0 s1 s2 s3 s4 s5 s6 s7 s8 s9 s10 hsl; clear c0 c1 c2 c3 c4 c5 c6 c7 c8 c9 c10 c11 hPl; replace hb1 := ((Ok.refl _).alloc _).trans hb1; replace hP := hP.next hb1; replace hS := hS.next hb1; replace hok := hok.trans hb1; clear hb1; obtain ⟨s0, s1, s2, s3, s4, s5, s6, s7, s8, s9, s10⟩ := hS.sta; have hsl := hS.lt; obtain ⟨c0, c1, c2, c3, c4, c5, c6, c7, c8, c9, c10, c11⟩ := hP.pars; have hPl := hP.lt))
      all_goals
        refine HQ.out _ _ _ _ _ _ _ _ _ _ _ _ _ _ _ _ _ _ _ _ _ _ _ _ _ _ _ _ _ _ _ _ _ _ _ _ ?_ hP hS hok
        intro hb
        first | (cases hb; done) | (refine ⟨HM.out, (by first | rfl | trivial), ?_⟩; simp only [decide_eq_false_iff_not] at hb; omega)
  · rw [show Lim.check p = 1 from if_neg h0] at KCH
    clear h0
    go_wp2_with (first | (go_at_call 19; refine (KCH.out _).mono ?_; rintro e w2 ⟨rfl, hb1⟩; clear s0 s1 s2 s3 s4 s5 s6 s7 s8 s9 s10 hsl; clear c0 c1 c2 c3 c4 c5 c6 c7 c8 c9 c10 c11 hPl; replace hP := hP.next hb1; replace hS := hS.next hb1; replace hok := hok.trans hb1; clear hb1; obtain ⟨s0, s1, s2, s3, s4, s5, s6, s7, s8, s9, s10⟩ := hS.sta; have hsl := hS.lt; obtain ⟨c0, c1, c2, c3, c4, c5, c6, c7, c8, c9, c10, c11⟩ := hP.pars; have hPl := hP.lt) | (go_at_call 9; refine (KG.out _ _ (InsAt.new _ _ (HI1.out _ hok) _ rfl)).mono ?_; rintro e w3 ⟨rfl, hb1⟩; clear s0 s1 s2 s3 s4 s5 s6 s7 s8 s9 s10 hsl; clear c0 c1 c2 c3 c4 c5 c6 c7 c8 c9 c10 c11 hPl; replace hb1 := ((Ok.refl _).alloc _).trans hb1; replace hP := hP.next hb1; replace hS := hS.next hb1; replace hok := hok.trans hb1; clear hb1; obtain ⟨s0, s1, s2, s3, s4, s5, s6, s7, s8, s9, s10⟩ := hS.sta; have hsl := hS.lt; obtain ⟨c0, c1, c2, c3, c4, c5, c6, c7, c8, c9, c10, c11⟩ := hP.pars; have hPl := hP.lt))
    all_goals
      refine HQ.out _ _ _ _ _ _ _ _ _ _ _ _ _ _ _ _ _ _ _ _ _ _ _ _ _ _ _ _ _ _ _ _ _ _ _ _ ?_ hP hS hok
      intro hb
      cases hb
noncomputable def Rcond10 : Code := (Tryz.f4.body.bind (regAt 10)).getD .skip
set_option maxHeartbeats 6400000 in
theorem cond10 (Bp Z : Nat) (p : Par) (le mo wy of hd : Int) (W : World) {u0 u1 u2 u3 u4 u5 u7 u8 u9 u10 u11 u12 u13 u14 u15 u16 u17 u19 u20 u21 u22 u23 u24 u25 u26 u27 u28 u29 u30 u31 u32 u33 u34 u35 u36 u37 u38 u39 u40 u41 u42 u43 u44 u45 u46 u47 u48 u49 u50 u51 u52 u53 u54 u55 u56 u57 u58 u59 u60 u61 u62 u63 u64 u65 u66 u67 u68 u69 u70 u71 u72 u73 u74 u75 u76 u77 u78 u79 u80 u81 u82 u83 u84 u85 u86 u87 u88 u89 u90 u91 u92 u93 u94 u95 u96 u97 u98 u99 u100 u101 u102 u103 u104 u105 u106 u107 u108 u109 u110 u111 u112 u113 u114 u115 u116 u117 u118 u119 u120 u121 u122 u123 u124 u125 u126 u127 u128 u129 u130 u131 u132 u133 u134 u135 u136 u137 u138 u139 u140 u141 u142 u143 u144 u145 u146 u147 u148 u149 u150 u151 u152 u153 u154 u155 u156 u157 u158 u159 u160 u161 u162 u163 u164 u165 u166 u167 u168 u169 u170 u171 u172 u173 u174 u175 u176 u177 u178 u179 u180 u181 u182 u183 u184 u185 u186 u187 u188 u189 u190 u191 u192 u193 u194 u195 u196 u197 u198 u199 u200 u201 u202 u203 u204 u205 u206 u207 u208 u209 u210 u211 u212 u213 u214 u215 u216 u217 u218 u219 u220 u221 u222 u223 u224 u225 u226 u227 u228 u229 u230 u231 u232 u233 u234 u235 u236 u237 u238 u239 u240 u241 u242 u243 u244 u245 u246 u247 u248 u249 u250 u251 u252 u253 u254 u255 u256 u257 u258 u259 u260 u261 u262 u263 u264 u265 u266 u267 u268 u269 u270 u271 u272 u273 u274 u275 u276 u277 u278 u279 u280 u281 u282 u283 u284 u285 u286 u287 u288 : Value} {Q : Exit → Act → World → Prop} (hP : Own W Bp (parCells p)) (hZ : Own W Z #[.int .i64 le, .int .i64 mo, .int .i64 wy, .int .i64 of, .int .i64 hd]) (hk3 : IntKind.i64.wrap (-p.rho) = -p.rho) (hk4 : IntKind.i64.wrap (p.delay - p.jit) = p.delay - p.jit) (hQ : ∀ (v72 v73 v74 v75 v76 v77 v78 v79 v80 v81 v82 v83 v84 v85 v86 v87 v88 v89 v90 v91 v92 v93 v94 v95 v96 v97 v98 v99 v100 v101 v102 v103 v104 v105 v106 v107 v108 v109 v110 v111 v112 v113 v114 v115 v116 v117 v118 v119 v120 v121 v122 v123 v124 v125 v126 v127 v128 v129 v130 : Value) (b : Bool), (b = false → (¬ (le < 0) ∧ ¬ (mo < 0) ∧ ¬ (562949953421312 < le) ∧ ¬ (562949953421312 < mo) ∧ ¬ (p.delay < wy) ∧ ¬ (wy < p.delay - p.jit) ∧ ¬ (p.rho < of) ∧ ¬ (of < -p.rho) ∧ ¬ (hd < 0) ∧ ¬ (1048576 < hd))) → Q .normal ⟨#[u0, u1, u2, u3, u4, u5, .pointer (some ⟨Bp, 0, none⟩), u7, u8, u9, u10, u11, u12, u13, u14, u15, u16, u17, .pointer (some ⟨Z, 0, none⟩), u19, u20, u21, u22, u23, u24, u25, u26, u27, u28, u29, u30, u31, u32, u33, u34, u35, u36, u37, u38, u39, u40, u41, u42, u43, u44, u45, u46, u47, u48, u49, u50, u51, u52, u53, u54, u55, u56, u57, u58, u59, u60, u61, u62, u63, u64, u65, u66, u67, u68, u69, u70, u71, v72, v73, v74, v75, v76, v77, v78, v79, v80, v81, v82, v83, v84, v85, v86, v87, v88, v89, v90, v91, v92, v93, v94, v95, v96, v97, v98, v99, v100, v101, v102, v103, v104, v105, v106, v107, v108, v109, v110, v111, v112, v113, v114, v115, v116, v117, v118, v119, v120, v121, v122, v123, v124, v125, v126, v127, v128, v129, v130, .bool b, u132, u133, u134, u135, u136, u137, u138, u139, u140, u141, u142, u143, u144, u145, u146, u147, u148, u149, u150, u151, u152, u153, u154, u155, u156, u157, u158, u159, u160, u161, u162, u163, u164, u165, u166, u167, u168, u169, u170, u171, u172, u173, u174, u175, u176, u177, u178, u179, u180, u181, u182, u183, u184, u185, u186, u187, u188, u189, u190, u191, u192, u193, u194, u195, u196, u197, u198, u199, u200, u201, u202, u203, u204, u205, u206, u207, u208, u209, u210, u211, u212, u213, u214, u215, u216, u217, u218, u219, u220, u221, u222, u223, u224, u225, u226, u227, u228, u229, u230, u231, u232, u233, u234, u235, u236, u237, u238, u239, u240, u241, u242, u243, u244, u245, u246, u247, u248, u249, u250, u251, u252, u253, u254, u255, u256, u257, u258, u259, u260, u261, u262, u263, u264, u265, u266, u267, u268, u269, u270, u271, u272, u273, u274, u275, u276, u277, u278, u279, u280, u281, u282, u283, u284, u285, u286, u287, u288], []⟩ W) :
    Code.wp Tryz.prog Rcond10 Q ⟨#[u0, u1, u2, u3, u4, u5, .pointer (some ⟨Bp, 0, none⟩), u7, u8, u9, u10, u11, u12, u13, u14, u15, u16, u17, .pointer (some ⟨Z, 0, none⟩), u19, u20, u21, u22, u23, u24, u25, u26, u27, u28, u29, u30, u31, u32, u33, u34, u35, u36, u37, u38, u39, u40, u41, u42, u43, u44, u45, u46, u47, u48, u49, u50, u51, u52, u53, u54, u55, u56, u57, u58, u59, u60, u61, u62, u63, u64, u65, u66, u67, u68, u69, u70, u71, u72, u73, u74, u75, u76, u77, u78, u79, u80, u81, u82, u83, u84, u85, u86, u87, u88, u89, u90, u91, u92, u93, u94, u95, u96, u97, u98, u99, u100, u101, u102, u103, u104, u105, u106, u107, u108, u109, u110, u111, u112, u113, u114, u115, u116, u117, u118, u119, u120, u121, u122, u123, u124, u125, u126, u127, u128, u129, u130, u131, u132, u133, u134, u135, u136, u137, u138, u139, u140, u141, u142, u143, u144, u145, u146, u147, u148, u149, u150, u151, u152, u153, u154, u155, u156, u157, u158, u159, u160, u161, u162, u163, u164, u165, u166, u167, u168, u169, u170, u171, u172, u173, u174, u175, u176, u177, u178, u179, u180, u181, u182, u183, u184, u185, u186, u187, u188, u189, u190, u191, u192, u193, u194, u195, u196, u197, u198, u199, u200, u201, u202, u203, u204, u205, u206, u207, u208, u209, u210, u211, u212, u213, u214, u215, u216, u217, u218, u219, u220, u221, u222, u223, u224, u225, u226, u227, u228, u229, u230, u231, u232, u233, u234, u235, u236, u237, u238, u239, u240, u241, u242, u243, u244, u245, u246, u247, u248, u249, u250, u251, u252, u253, u254, u255, u256, u257, u258, u259, u260, u261, u262, u263, u264, u265, u266, u267, u268, u269, u270, u271, u272, u273, u274, u275, u276, u277, u278, u279, u280, u281, u282, u283, u284, u285, u286, u287, u288], []⟩ W := by
  conv => arg 2; whnf
  have HQ := Lib.hid hQ
  clear hQ
  obtain ⟨c0, c1, c2, c3, c4, c5, c6, c7, c8, c9, c10, c11⟩ := hP.pars; have hPl := hP.lt
  have z0 := hZ.cell 0 rfl
  have z1 := hZ.cell 1 rfl
  have z2 := hZ.cell 2 rfl
  have z3 := hZ.cell 3 rfl
  have z4 := hZ.cell 4 rfl
  have hZl := hZ.lt
  clear hP hZ
  go_wp2_with fail
  all_goals
    refine HQ.out _ _ _ _ _ _ _ _ _ _ _ _ _ _ _ _ _ _ _ _ _ _ _ _ _ _ _ _ _ _ _ _ _ _ _ _ _ _ _ _ _ _ _ _ _ _ _ _ _ _ _ _ _ _ _ _ _ _ _ _ ?_
    intro hb
    first | (cases hb; done) | (simp only [decide_eq_false_iff_not] at hb; omega)
/-- What each operation leaves. -/
def VMNCb (Bp G X MB : Nat) (p : Par) (lo hi nx h wd le gr hd : Int) (w : World) (v : Value) : Nat → Prop
  | 0 => v = .pointer (some ⟨X, 0, none⟩)
  | 1 => v = .int .i64 lo
  | 2 => v = .int .i64 nx
  | 3 => v = .bool true
  | 4 => v = .bool true
  | 5 => v = .int .i64 nx
  | 6 => v = .pointer (some ⟨X, 1, none⟩)
  | 7 => v = .int .i64 hi
  | 8 => v = .bool true
  | 9 => v = .bool true
  | 10 => v = .bool true
  | 11 => v = .pointer (some ⟨X, 1, none⟩)
  | 12 => v = .int .i64 hi
  | 13 => v = .pointer (some ⟨X, 0, none⟩)
  | 14 => v = .int .i64 lo
  | 15 => v = .int .i64 (hi - lo)
  | 16 => v = .int .i64 wd
  | 17 => v = parV p
  | 18 => v = .int .i64 h
  | 19 => v = .int .i64 (wd + h)
  | 20 => v = .bool true
  | 21 => v = .bool true
  | 22 => v = .bool true
  | 23 => v = .pointer (some ⟨G, 0, none⟩)
  | 24 => v = .pointer (some ⟨G, 0, none⟩)
  | 25 => v = .pointer (some ⟨G, 0, none⟩)
  | 26 => v = .pointer (some ⟨G, 12, none⟩)
  | 27 => v = .pointer (some ⟨G, 17, none⟩)
  | 28 => v = .int .i64 0
  | 29 => v = .bool true
  | 30 => v = .bool true
  | 31 => v = .bool true
  | 32 => v = .pointer (some ⟨G, 0, none⟩)
  | 33 => v = .pointer (some ⟨G, 0, none⟩)
  | 34 => v = .pointer (some ⟨G, 0, none⟩)
  | 35 => v = .pointer (some ⟨G, 12, none⟩)
  | 36 => v = .pointer (some ⟨G, 18, none⟩)
  | 37 => v = .bool true
  | 38 => v = .bool true
  | 39 => v = .bool true
  | 40 => v = .int .i64 le
  | 41 => v = .int .i64 (le + 1)
  | 42 => v = .pointer (some ⟨G, 0, none⟩)
  | 43 => v = .pointer (some ⟨G, 0, none⟩)
  | 44 => v = .pointer (some ⟨G, 0, none⟩)
  | 45 => v = .pointer (some ⟨G, 12, none⟩)
  | 46 => v = .pointer (some ⟨G, 16, none⟩)
  | 47 => v = .int .i64 hd
  | 48 => v = .bool true
  | 49 => v = .bool true
  | 50 => v = .bool true
  | 51 => v = .pointer (some ⟨G, 0, none⟩)
  | 52 => v = .pointer (some ⟨G, 0, none⟩)
  | 53 => v = .pointer (some ⟨G, 0, none⟩)
  | 54 => v = .pointer (some ⟨G, 12, none⟩)
  | 55 => v = .pointer (some ⟨G, 16, none⟩)
  | 56 => v = .int .i64 hd
  | 57 => v = .int .i64 gr
  | 58 => v = .int .i64 (gr + 1)
  | 59 => v = .bool true
  | 60 => v = .bool true
  | 61 => v = .bool true
  | 62 => v = .pointer (some ⟨MB, 2, none⟩)
  | 63 => v = .agg #[.int .i64 lo, .int .i64 hi]
  | 64 => v = .agg #[.int .i64 lo, .int .i64 hi]
  | 65 => v = .bool true
  | 66 => v = .bool true
  | 67 => v = .bool true
  | 68 => v = .pointer (some ⟨MB, 0, none⟩)
  | 69 => v = .int .i64 2
  | 70 => v = .bool true
  | 71 => v = .bool true
  | 72 => v = .bool true
  | 73 => v = .pointer (some ⟨MB, 1, none⟩)
  | 74 => v = .int .i64 20
  | 75 => v = .bool true
  | 76 => v = .bool true
  | 77 => v = .bool true
  | _ => v = .bool true
/-- It stays so. -/
def VCNCb (Bp G X MB : Nat) (p : Par) (lo hi nx h wd le gr hd : Int) (i : Nat) (v : Value) (w : World) : Prop := ∀ w', Ok w w' → VMNCb Bp G X MB p lo hi nx h wd le gr hd w' v i
set_option maxHeartbeats 25600000 in
theorem walkF (w : World) (hpow : Pow w) (p : Par) (s : Sta) (A : Option Addr) (cap : Nat) (now : Int) (T : Option Addr) (ts : List Tl) (cT : Nat) (B : Option Addr) (l : List HA) (cB : Nat) (tk : Int) (hA : PairsAt w A s.table) (hl : s.table.length ≤ 9223372036854775807) (hT : CellsAt w T (ts.flatMap tldcells)) (htl : ts.length ≤ 9223372036854775807) (hB : HeardsAt w B l) (hll : l.length ≤ 9223372036854775807) :
    Calls Tryz.prog 4 #[parV p, staV s A cap, .int .i64 now, .slice T ts.length cT, .slice B l.length cB, .int .i64 tk] w fun e w' => e = .returned (.bool true) ∧ Ok w w' := by
  have KAL := Lib.hid fun W' (k : Ok w W') => law23Alive W' (hpow.next k)
  have HPOW := Lib.hid fun W' (k : Ok w W') => hpow.next k
  have KCH := Lib.hid fun w => limCheck p w
  obtain ⟨in1, hin1⟩ : ∃ x : In, (⟨0, B, l, cB, false, 0, false, none, [], 0⟩ : In) = x := ⟨_, rfl⟩
  obtain ⟨lg, hlg⟩ : ∃ b, great23 s [in1] = b := ⟨_, rfl⟩
  have HI1 := Lib.hid fun (W' : World) (k : Ok w W') => show InAt W' in1 from hin1 ▸ ⟨hB.below k, PairsAt.empty _ _⟩
  have KG : Hid (∀ (W' : World) (b : Addr), InsAt W' (some b) [in1] → Calls Tryz.prog 9 #[staV s A cap, .slice (some b) 1 1] W' fun e w' => e = .returned (.bool lg) ∧ Ok W' w') := Lib.hid fun W' b h => by
    have k := law23Great s A cap (some b) [in1] 1 W' h (by simp) (fun x hx => by rw [List.mem_singleton] at hx; subst hx; rw [← hin1]; exact hll)
    rw [hlg] at k
    exact k
  have HLG := Lib.hid fun (h : lg = false) => great23_few (hlg.trans h)
  subst hin1
  have HAA := Lib.hid hA
  have HBB := Lib.hid hB
  have HTT := Lib.hid hT
  have HSL := Lib.hid hl
  clear hlg hA hB hT hl
  have hP := (Own.new w (parCells p) 23 rfl).alloc (.cells (staCells s A cap) 30)
  have hS := Own.new (w.alloc (.cells (parCells p) 23)) (staCells s A cap) 30 (g := w.heap.size + 1) (by simp)
  have hok := ((Ok.refl w).alloc (.cells (parCells p) 23)).alloc (.cells (staCells s A cap) 30)
  go_enter Tryz.func4, Tryz.ntmps4
  go_upto_region 1 with fail
  change Code.wp _ _ _ _ ((w.alloc (.cells (parCells p) 23)).alloc (.cells (staCells s A cap) 30))
  generalize (w.alloc (.cells (parCells p) 23)).alloc (.cells (staCells s A cap) 30) = W at hP hS hok ⊢
  obtain ⟨H, hH⟩ : ∃ r, w.heap.size + 1 = r := ⟨_, rfl⟩
  obtain ⟨Bp, hB⟩ : ∃ r, w.heap.size = r := ⟨_, rfl⟩
  rw [hH] at hS
  rw [hB] at hP
  rw [hH, hB]
  clear hH hB
  go_upto_region 3 with (go_at_call 8; (with_reducible refine (KAL.out _ hok).mono ?_); rintro e w1 ⟨rfl, hb1⟩; replace hP := hP.next hb1; replace hS := hS.next hb1; replace hok := hok.trans hb1; clear hb1)
  go_cut [62] from 28 to 62 (fun v wx => ∃ b, v = .bool b ∧ (b = false → (Lim.May p ∧ lg = false ∧ ¬ (1125899906842624 < now) ∧ ¬ (now < -1125899906842624) ∧ (ts.length : Int) = p.n - p.f ∧ ¬ (p.f < (l.length : Int)))) ∧ Own wx Bp (parCells p) ∧ Own wx H (staCells s A cap) ∧ Ok w wx)
  case first =>
    refine cond3 w Bp H p s A cap now T ts cT B l cB lg _ hP hS hok htl hll KCH KG HI1 ?_
    intro v28 v29 v30 v31 v32 v33 v34 v35 v36 v37 v38 v39 v40 v41 v42 v43 v44 v45 v46 v47 v48 v49 v50 v51 v52 v53 v54 v55 v56 v57 v58 v59 v60 v61 b wx hb hP2 hS2 hok2
    go_wp2_with fail
    go_meet
    exact ⟨b, rfl, hb, hP2, hS2, hok2⟩
  case rest =>
  clear hP hS hok KCH KG
  obtain ⟨b, rfl, hc1, hP, hS, hok⟩ := hcut
  cases b with
  | true =>
    go_wp2_with fail
    go_ret
    exact ⟨rfl, hok⟩
  | false =>
  have HC1 := Lib.hid (hc1 rfl)
  clear hc1 htl
  go_upto_region 5 with fail
  go_upto_region 6 with fail
  have hI := Own.new wc #[.int .i64 tk, .slice none 0 0, .bool false, .int .i64 0, .bool false, .slice none 0 0] 49 rfl
  have hBI := hP.lt
  have hHI := hS.lt
  have hokr := (Ok.refl wc).alloc (.cells #[.int .i64 tk, .slice none 0 0, .bool false, .int .i64 0, .bool false, .slice none 0 0] 49)
  have hrow : (wc.alloc (.cells #[.int .i64 tk, .slice none 0 0, .bool false, .int .i64 0, .bool false, .slice none 0 0] 49)).ownsRow (wc.heap.size + 1) 65 15 (.slice none 0 0) 0 [] := World.ownsRow_nil _ _ _ _
  change Code.wp _ _ _ _ (wc.alloc (.cells #[.int .i64 tk, .slice none 0 0, .bool false, .int .i64 0, .bool false, .slice none 0 0] 49))
  generalize wc.alloc (.cells #[.int .i64 tk, .slice none 0 0, .bool false, .int .i64 0, .bool false, .slice none 0 0] 49) = W1 at hI hokr hrow ⊢
  obtain ⟨IN, hIN⟩ : ∃ r, wc.heap.size = r := ⟨_, rfl⟩
  rw [hIN] at hI hBI hHI hrow ⊢
  have hts : (ts.length : Int) ≤ 16 := by
    obtain ⟨hm, -, -, -, b3, -⟩ := HC1.out
    have := hm.1
    unfold Lim.Gates at this
    omega
  have HTS := Lib.hid hts
  have hts1 : 1 ≤ ts.length := by
    obtain ⟨hm, -, -, -, b3, -⟩ := HC1.out
    have := hm.1
    unfold Lim.Gates at this
    omega
  go_wp2_with fail
  go_loopw [14, 15, 16, 67] (fun a b c i wr => ∃ (k : Nat) (v : Value) (wd lo hi : Int), k ≤ ts.length ∧ a = .int .i64 wd ∧ b = .int .i64 lo ∧ c = .int .i64 hi ∧ i = .int .i64 k ∧ Own wr IN #[.int .i64 tk, v, .bool false, .int .i64 0, .bool false, .slice none 0 0] ∧ wr.ownsRow (IN + 1) 65 15 v k ((Nod.honNs p now ts k).flatMap haL) ∧ Ok wc wr ∧ Nod.Seen p (ts.take k) wd lo hi) (fun _ _ _ i _ => ts.length - (intOf i).toNat)
  case atStart => exact ⟨0, .slice none 0 0, 0, 1073741824, 0, Nat.zero_le _, rfl, rfl, rfl, rfl, hI, hrow, hokr, Nod.Seen.nil p⟩
  case round =>
    clear hI hrow hokr
    obtain ⟨k, v, wd, lo, hi, hk, rfl, rfl, rfl, rfl, hI, hrow, hokr, hseen⟩ := hrel
    by_cases hlt : k < ts.length
    · obtain ⟨b, off, hT2, hb, t0, t1, t2, t3, t4⟩ := tld_at ((HTT.out.below hok).below hokr) k hlt
      subst hT2
      have HN := Lib.hid fun (ht : Nod.Fine p ts[k]) (w2 l2 h2 : Int) e1 e2 e3 => show Nod.Seen p (ts.take (k + 1)) w2 l2 h2 by
        rw [take_more hlt]
        exact hseen.next ht e1 e2 e3
      have HX := Lib.hid (show Nod.Fine p ts[k] ↔ (0 ≤ ts[k].less ∧ ts[k].less ≤ 562949953421312) ∧ (0 ≤ ts[k].more ∧ ts[k].more ≤ 562949953421312) ∧ (p.delay - p.jit ≤ ts[k].way ∧ ts[k].way ≤ p.delay) ∧ (-p.rho ≤ ts[k].off ∧ ts[k].off ≤ p.rho) ∧ 0 ≤ ts[k].held ∧ ts[k].held ≤ 1048576 from Iff.rfl)
      have HD : Hid (ts.getD k Nod.noTl = ⟨ts[k].less, ts[k].more, ts[k].way, ts[k].off, ts[k].held⟩) := Lib.hid (getD_in23 hlt _)
      have hpw : p.delay - p.jit ≤ p.delay ∧ (-1152921504606846976 ≤ p.rho ∧ p.rho ≤ 1152921504606846976) ∧ (-1152921504606846976 ≤ p.delay ∧ p.delay ≤ 1152921504606846976) ∧ (-1152921504606846976 ≤ p.jit ∧ p.jit ≤ 1152921504606846976) ∧ (-1152921504606846976 ≤ p.beat ∧ p.beat ≤ 1152921504606846976) ∧ (-1125899906842624 ≤ now ∧ now ≤ 1125899906842624) := by
        obtain ⟨hm, -, a1, a2, -⟩ := HC1.out
        obtain ⟨b1, r1, d1, j1, e1⟩ := Lim.May.bds hm
        omega
      have HPW := Lib.hid hpw
      have HSB := Lib.hid hseen.b
      clear hseen
      generalize ts[k].less = le at t0 HX HD HN
      generalize ts[k].more = mo at t1 HX HD HN
      generalize ts[k].way = wy at t2 HX HD
      generalize ts[k].off = of at t3 HX HD
      generalize ts[k].held = hd at t4 HX HD HN
      have hZI := hI.lt
      go_upto_region 10 with fail
      have hZ := Own.new wr #[.int .i64 le, .int .i64 mo, .int .i64 wy, .int .i64 of, .int .i64 hd] 63 rfl
      replace hI := hI.alloc (.cells #[.int .i64 le, .int .i64 mo, .int .i64 wy, .int .i64 of, .int .i64 hd] 63)
      replace hrow := World.ownsRow.alloc hrow (.cells #[.int .i64 le, .int .i64 mo, .int .i64 wy, .int .i64 of, .int .i64 hd] 63)
      replace hokr := hokr.alloc (.cells #[.int .i64 le, .int .i64 mo, .int .i64 wy, .int .i64 of, .int .i64 hd] 63)
      change Code.wp _ _ _ _ (wr.alloc (.cells #[.int .i64 le, .int .i64 mo, .int .i64 wy, .int .i64 of, .int .i64 hd] 63))
      generalize wr.alloc (.cells #[.int .i64 le, .int .i64 mo, .int .i64 wy, .int .i64 of, .int .i64 hd] 63) = W3 at hZ hI hrow hokr ⊢
      generalize wr.heap.size = Z at hZ hZI ⊢
      clear t0 t1 t2 t3 t4 hb hpw
      go_cut [131] from 72 to 131 (fun v wx => ∃ b, v = .bool b ∧ (b = false → (¬ (le < 0) ∧ ¬ (mo < 0) ∧ ¬ (562949953421312 < le) ∧ ¬ (562949953421312 < mo) ∧ ¬ (p.delay < wy) ∧ ¬ (wy < p.delay - p.jit) ∧ ¬ (p.rho < of) ∧ ¬ (of < -p.rho) ∧ ¬ (hd < 0) ∧ ¬ (1048576 < hd))) ∧ wx = W3)
      case first =>
        obtain ⟨q1, q3, q4, q5, q6, q7⟩ := HPW.out
        have hk3 : IntKind.i64.wrap (-p.rho) = -p.rho := IntWalk.i64_in _ ⟨by omega, by omega⟩
        have hk4 : IntKind.i64.wrap (p.delay - p.jit) = p.delay - p.jit := IntWalk.i64_in _ ⟨by omega, by omega⟩
        clear q1 q3 q4 q5 q6 q7 hrow hI
        refine cond10 Bp Z p le mo wy of hd W3 (hP.next hokr) hZ hk3 hk4 ?_
        intro v72 v73 v74 v75 v76 v77 v78 v79 v80 v81 v82 v83 v84 v85 v86 v87 v88 v89 v90 v91 v92 v93 v94 v95 v96 v97 v98 v99 v100 v101 v102 v103 v104 v105 v106 v107 v108 v109 v110 v111 v112 v113 v114 v115 v116 v117 v118 v119 v120 v121 v122 v123 v124 v125 v126 v127 v128 v129 v130 b hb
        go_wp2_with fail
        go_meet
        exact ⟨b, rfl, hb, rfl⟩
      case rest =>
      obtain ⟨bb, rfl, hc2, rfl⟩ := hcut
      cases bb with
      | true =>
        go_wp2_with fail
        go_ret
        exact ⟨rfl, hok.trans hokr⟩
      | false =>
      obtain ⟨g0, g1, g2, g3, g4, g5, g6, g7, g8, g9⟩ := hc2 rfl
      have hsb := HSB.out
      replace HN := Lib.hid (HN.out (HX.out.2 ⟨⟨by omega, by omega⟩, ⟨by omega, by omega⟩, ⟨by omega, by omega⟩, ⟨by omega, by omega⟩, by omega, by omega⟩))
      have HBD := Lib.hid (show 0 ≤ le ∧ le ≤ 562949953421312 ∧ 0 ≤ mo ∧ mo ≤ 562949953421312 from ⟨by omega, by omega, by omega, by omega⟩)
      obtain ⟨w2, hw2⟩ : ∃ x, max wd (le + mo) = x := ⟨_, rfl⟩
      obtain ⟨l2, hl2⟩ : ∃ x, min lo hd = x := ⟨_, rfl⟩
      obtain ⟨h2, hh2⟩ : ∃ x, max hi hd = x := ⟨_, rfl⟩
      have HW2 := Lib.hid hw2
      have HL2 := Lib.hid hl2
      have HH2 := Lib.hid hh2
      replace HN := Lib.hid (HN.out w2 l2 h2 hw2.symm hl2.symm hh2.symm)
      clear hw2 hl2 hh2
      obtain ⟨q1, q3, q4, q5, q6, q7⟩ := HPW.out
      have hw3 : IntKind.i64.wrap (now - le) = now - le := IntWalk.i64_in _ ⟨by omega, by omega⟩
      have hw5 : IntKind.i64.wrap (now + mo) = now + mo := IntWalk.i64_in _ ⟨by omega, by omega⟩
      have hw6 : IntKind.i64.wrap (p.beat - wy) = p.beat - wy := IntWalk.i64_in _ ⟨by omega, by omega⟩
      have hw7 : IntKind.i64.wrap (p.beat - wy + of) = p.beat - wy + of := IntWalk.i64_in _ ⟨by omega, by omega⟩
      have hts16 : (ts.length : Int) ≤ 16 := HTS.out
      clear hc2 HX g0 g1 g2 g3 g4 g5 g6 g7 g8 g9 q1 q3 q4 q5 q6 q7 HPW hsb HSB
      go_upto_region 12 with fail
      go_cut [14, 15, 16] from 132 to 146 (fun a b c wx => a = .int .i64 w2 ∧ b = .int .i64 l2 ∧ c = .int .i64 h2 ∧ Ok wc wx)
      case first =>
        have z0 := hZ.cell 0 (v := .int .i64 le) rfl
        have z1 := hZ.cell 1 (v := .int .i64 mo) rfl
        have z4 := hZ.cell 4 (v := .int .i64 hd) rfl
        have hZl := hZ.lt
        have hw9 : IntKind.i64.wrap (le + mo) = le + mo := by obtain ⟨u1, u2, u3, u4⟩ := HBD.out; exact IntWalk.i64_in _ ⟨by omega, by omega⟩
        clear hI hrow
        go_quiet (fail)
        go_wp2_with fail
        go_meet
        exact ⟨(by rw [HW2.out]), (by rw [HL2.out]), (by rw [HH2.out]), by first | exact Ok.refl _ | exact (Ok.refl _).drewN _⟩
      case rest =>
      obtain ⟨rfl, rfl, rfl, hw0⟩ := hcut
      replace hZ := hZ.next hw0
      replace hI := hI.next hw0
      replace hrow := row_next19 hrow hw0
      replace hokr := hokr.trans hw0
      clear hw0 HBD HW2 HL2 HH2
      have z0 := hZ.cell 0 (v := .int .i64 le) rfl
      have z1 := hZ.cell 1 (v := .int .i64 mo) rfl
      have z4 := hZ.cell 4 (v := .int .i64 hd) rfl
      have hZl := hZ.lt
      go_upto_region 14 with fail
      clear z0 z1 z4 hZl
      have hY := Own.new wc #[.int .i64 1, .int .i64 (k : Int), .int .i64 (now - le), .int .i64 (now + mo), .int .i64 hd, .int .i64 0, .bool true, .bool false, .int .i64 0, .int .i64 0, .int .i64 0, .int .i64 0, .int .i64 0, .slice none 0 0] 51 rfl
      replace hI := hI.alloc (.cells #[.int .i64 1, .int .i64 (k : Int), .int .i64 (now - le), .int .i64 (now + mo), .int .i64 hd, .int .i64 0, .bool true, .bool false, .int .i64 0, .int .i64 0, .int .i64 0, .int .i64 0, .int .i64 0, .slice none 0 0] 51)
      replace hZ := hZ.alloc (.cells #[.int .i64 1, .int .i64 (k : Int), .int .i64 (now - le), .int .i64 (now + mo), .int .i64 hd, .int .i64 0, .bool true, .bool false, .int .i64 0, .int .i64 0, .int .i64 0, .int .i64 0, .int .i64 0, .slice none 0 0] 51)
      replace hrow := World.ownsRow.alloc hrow (.cells #[.int .i64 1, .int .i64 (k : Int), .int .i64 (now - le), .int .i64 (now + mo), .int .i64 hd, .int .i64 0, .bool true, .bool false, .int .i64 0, .int .i64 0, .int .i64 0, .int .i64 0, .int .i64 0, .slice none 0 0] 51)
      replace hokr := hokr.alloc (.cells #[.int .i64 1, .int .i64 (k : Int), .int .i64 (now - le), .int .i64 (now + mo), .int .i64 hd, .int .i64 0, .bool true, .bool false, .int .i64 0, .int .i64 0, .int .i64 0, .int .i64 0, .int .i64 0, .slice none 0 0] 51)
      change Code.wp _ _ _ _ (wc.alloc (.cells #[.int .i64 1, .int .i64 (k : Int), .int .i64 (now - le), .int .i64 (now + mo), .int .i64 hd, .int .i64 0, .bool true, .bool false, .int .i64 0, .int .i64 0, .int .i64 0, .int .i64 0, .int .i64 0, .slice none 0 0] 51))
      generalize wc.alloc (.cells #[.int .i64 1, .int .i64 (k : Int), .int .i64 (now - le), .int .i64 (now + mo), .int .i64 hd, .int .i64 0, .bool true, .bool false, .int .i64 0, .int .i64 0, .int .i64 0, .int .i64 0, .int .i64 0, .slice none 0 0] 51) = W4 at hY hZ hI hrow hokr ⊢
      generalize wc.heap.size = Y at hY ⊢
      have z2 := hZ.cell 2 (v := .int .i64 wy) rfl
      have z3 := hZ.cell 3 (v := .int .i64 of) rfl
      have hZl := hZ.lt
      have y0 := hY.cell 0 (v := .int .i64 1) rfl
      have y1 := hY.cell 1 (v := .int .i64 (k : Int)) rfl
      have y2 := hY.cell 2 (v := .int .i64 (now - le)) rfl
      have y3 := hY.cell 3 (v := .int .i64 (now + mo)) rfl
      have y4 := hY.cell 4 (v := .int .i64 hd) rfl
      have y5 := hY.cell 5 (v := .int .i64 0) rfl
      have y6 := hY.cell 6 (v := .bool true) rfl
      have y7 := hY.cell 7 (v := .bool false) rfl
      have y8 := hY.cell 8 (v := .int .i64 0) rfl
      have y9 := hY.cell 9 (v := .int .i64 0) rfl
      have y10 := hY.cell 10 (v := .int .i64 0) rfl
      have y11 := hY.cell 11 (v := .int .i64 0) rfl
      have y12 := hY.cell 12 (v := .int .i64 0) rfl
      have y13 := hY.cell 13 (v := .slice none 0 0) rfl
      have hYl := hY.lt
      have c3 := (hP.next hokr).cell 3 (v := .int .i64 p.beat) rfl
      have hPl := (hP.next hokr).lt
      have i1 := hI.cell 1 (v := v) rfl
      have hIl := hI.lt
      have HR := Lib.hid (row_far23 hrow)
      have hex : Nod.honNs p now ts k ++ [plainA (Nod.hon p now ⟨le, mo, wy, of, hd⟩ k)] = Nod.honNs p now ts (k + 1) := by rw [Nod.honNs_next, HD.out]
      go_upto_region 15 with (at_builtin; refine wpList_append_heard rfl _ _ rfl (IN + 1) v (Nod.honNs p now ts k) k rfl (World.ownsRow.alloc hrow _) _ (plainA (Nod.hon p now ⟨le, mo, wy, of, hd⟩ k)) rfl (Own.new _ _ _ rfl) (by omega) (by simp; omega) ?_; intro v2 w6 hown hgrow; obtain ⟨A3, m3, q3, rfl⟩ := row_slice23 hown; have hI6 := own_grown23 (hI.alloc _) hgrow (fun e => by have := HR.out _ e; omega); have hok6 := Below.grown (hokr.alloc _) hgrow (by simp; omega) (fun g e => by have := HR.out _ e; omega); clear i1 hIl; have i1 := hI6.cell 1 (v := v) rfl; have i1f := hI6.frozen 1; have hIl := hI6.lt)
      rw [hex] at hown
      clear i1 i1f hIl z2 z3 hZl hYl c3 hPl y0 y1 y2 y3 y4 y5 y6 y7 y8 y9 y10 y11 y12 y13
      go_wp2_with fail
      go_roundw
      case rel =>
        exact ⟨k + 1, .slice A3 m3 q3, w2, l2, h2, hlt, rfl, rfl, rfl, by go_num, hI6.set 1 (.slice A3 m3 q3), row_only hown ((Only.refl IN _).setR 1 _) (Nat.lt_succ_self _), hok6.setCell (p := ⟨IN, 1, none⟩) (by rw [hIN]; exact Nat.le_refl _) _, HN.out⟩
      case measure => simp [intOf]; omega
    · generalize lo = le at hseen ⊢
      generalize hi = gr at hseen ⊢
      have ek : k = ts.length := by omega
      subst ek
      rw [List.take_length] at hseen
      have HSE := Lib.hid hseen
      clear hseen hlt hk
      go_wp2_with fail
      go_loopw [178] (fun i wr => ∃ (k : Nat) (v : Value), k ≤ l.length ∧ i = .int .i64 k ∧ Own wr IN #[.int .i64 tk, v, .bool false, .int .i64 0, .bool false, .slice none 0 0] ∧ wr.ownsRow (IN + 1) 65 15 v (ts.length + k) ((Nod.honNs p now ts ts.length ++ lieNs ts.length l k).flatMap haL) ∧ Ok wc wr) (fun i _ => l.length - (intOf i).toNat)
      case atStart => exact ⟨0, v, Nat.zero_le _, rfl, hI, by rw [show lieNs ts.length l 0 = [] from rfl, List.append_nil]; exact hrow, hokr⟩
      case round =>
      clear hI hrow hokr
      obtain ⟨k, v, hk, rfl, hI, hrow, hokr⟩ := hrel
      by_cases hlt : k < l.length
      · obtain ⟨b, off, hB2, hb, hcx⟩ := ((HBB.out.below hok).below hokr).nthAt k hlt
        obtain ⟨x, hx⟩ : ∃ x, l[k] = x := ⟨_, rfl⟩
        obtain ⟨t0, t1, t2, t3, t4, t5, t6, t7, t8, t9, t10, t11, t12, t13, t14⟩ := hcx x hx
        have hgx : l.getD k noN = x := by rw [getD_in23 hlt, hx]
        have hll2 : (l.length : Int) ≤ 16 := by
          obtain ⟨hm, -, -, -, b3, b4⟩ := HC1.out
          have := hm.1
          unfold Lim.Gates at this
          omega
        have hts16 : (ts.length : Int) ≤ 16 := HTS.out
        clear hcx hx
        subst hB2
        have hZI := hI.lt
        have hrl := fun g hg => (World.ownsRow.lt hrow g hg).2
        go_upto_region 19 with fail
        clear t0 t1 t2 t3 t4 t5 t6 t7 t8 t9 t10 t11 t12 t13 t14 hb
        have hZ := Own.new wr #[.int .i64 x.m.kind, .int .i64 x.m.frm, .int .i64 x.m.lo, .int .i64 x.m.hi, .int .i64 x.m.held, .int .i64 x.m.hops, .bool x.m.good, .bool x.m.ref, .int .i64 x.m.slo, .int .i64 x.m.shi, .int .i64 x.m.pulse, .int .i64 x.m.time, .int .i64 x.m.num, .slice x.A x.m.table.length x.cap, .int .i64 x.age] 65 rfl
        replace hI := hI.alloc (.cells #[.int .i64 x.m.kind, .int .i64 x.m.frm, .int .i64 x.m.lo, .int .i64 x.m.hi, .int .i64 x.m.held, .int .i64 x.m.hops, .bool x.m.good, .bool x.m.ref, .int .i64 x.m.slo, .int .i64 x.m.shi, .int .i64 x.m.pulse, .int .i64 x.m.time, .int .i64 x.m.num, .slice x.A x.m.table.length x.cap, .int .i64 x.age] 65)
        replace hrow := World.ownsRow.alloc hrow (.cells #[.int .i64 x.m.kind, .int .i64 x.m.frm, .int .i64 x.m.lo, .int .i64 x.m.hi, .int .i64 x.m.held, .int .i64 x.m.hops, .bool x.m.good, .bool x.m.ref, .int .i64 x.m.slo, .int .i64 x.m.shi, .int .i64 x.m.pulse, .int .i64 x.m.time, .int .i64 x.m.num, .slice x.A x.m.table.length x.cap, .int .i64 x.age] 65)
        replace hokr := hokr.alloc (.cells #[.int .i64 x.m.kind, .int .i64 x.m.frm, .int .i64 x.m.lo, .int .i64 x.m.hi, .int .i64 x.m.held, .int .i64 x.m.hops, .bool x.m.good, .bool x.m.ref, .int .i64 x.m.slo, .int .i64 x.m.shi, .int .i64 x.m.pulse, .int .i64 x.m.time, .int .i64 x.m.num, .slice x.A x.m.table.length x.cap, .int .i64 x.age] 65)
        change Code.wp _ _ _ _ (wr.alloc (.cells #[.int .i64 x.m.kind, .int .i64 x.m.frm, .int .i64 x.m.lo, .int .i64 x.m.hi, .int .i64 x.m.held, .int .i64 x.m.hops, .bool x.m.good, .bool x.m.ref, .int .i64 x.m.slo, .int .i64 x.m.shi, .int .i64 x.m.pulse, .int .i64 x.m.time, .int .i64 x.m.num, .slice x.A x.m.table.length x.cap, .int .i64 x.age] 65))
        generalize wr.alloc (.cells #[.int .i64 x.m.kind, .int .i64 x.m.frm, .int .i64 x.m.lo, .int .i64 x.m.hi, .int .i64 x.m.held, .int .i64 x.m.hops, .bool x.m.good, .bool x.m.ref, .int .i64 x.m.slo, .int .i64 x.m.shi, .int .i64 x.m.pulse, .int .i64 x.m.time, .int .i64 x.m.num, .slice x.A x.m.table.length x.cap, .int .i64 x.age] 65) = W3 at hZ hI hrow hokr ⊢
        generalize wr.heap.size = Z at hZ hZI hrl ⊢
        have hw1 : IntKind.i64.wrap ((ts.length : Int) + (k : Int)) = ((ts.length : Int) + (k : Int)) := IntWalk.i64_in _ ⟨by omega, by omega⟩
        have z1 := hZ.cell 1 rfl
        have z1f := hZ.frozen 1
        have hZl := hZ.lt
        go_upto_region 20 with fail
        clear z1 z1f hZl
        replace hZ := hZ.set 1 (.int .i64 ((ts.length : Int) + (k : Int)))
        change Own _ Z #[.int .i64 x.m.kind, .int .i64 ((ts.length : Int) + (k : Int)), .int .i64 x.m.lo, .int .i64 x.m.hi, .int .i64 x.m.held, .int .i64 x.m.hops, .bool x.m.good, .bool x.m.ref, .int .i64 x.m.slo, .int .i64 x.m.shi, .int .i64 x.m.pulse, .int .i64 x.m.time, .int .i64 x.m.num, .slice x.A x.m.table.length x.cap, .int .i64 x.age] at hZ
        replace hI := hI.setOther (a := ⟨Z, 1, none⟩) (show IN ≠ Z by omega) (.int .i64 ((ts.length : Int) + (k : Int)))
        replace hrow := row_set23 hrow ⟨Z, 1, none⟩ (.int .i64 ((ts.length : Int) + (k : Int))) (fun e => by have := hrl _ e; simp at this)
        replace hokr := hokr.setCell (p := ⟨Z, 1, none⟩) (by rw [hIN]; exact Nat.le_of_lt hZI) (.int .i64 ((ts.length : Int) + (k : Int)))
        change Code.wp _ _ _ _ (W3.setCell ⟨Z, 1, none⟩ (.int .i64 ((ts.length : Int) + (k : Int))))
        generalize W3.setCell ⟨Z, 1, none⟩ (.int .i64 ((ts.length : Int) + (k : Int))) = W4 at hZ hI hrow hokr ⊢
        have z0 := hZ.cell 0 rfl
        have z1 := hZ.cell 1 rfl
        have z2 := hZ.cell 2 rfl
        have z3 := hZ.cell 3 rfl
        have z4 := hZ.cell 4 rfl
        have z5 := hZ.cell 5 rfl
        have z6 := hZ.cell 6 rfl
        have z7 := hZ.cell 7 rfl
        have z8 := hZ.cell 8 rfl
        have z9 := hZ.cell 9 rfl
        have z10 := hZ.cell 10 rfl
        have z11 := hZ.cell 11 rfl
        have z12 := hZ.cell 12 rfl
        have z13 := hZ.cell 13 rfl
        have z14 := hZ.cell 14 rfl
        have hZl := hZ.lt
        have i1 := hI.cell 1 (v := v) rfl
        have hIl := hI.lt
        have HR := Lib.hid (row_far23 hrow)
        have hex : (Nod.honNs p now ts ts.length ++ lieNs ts.length l k) ++ [lieN ts.length x k] = Nod.honNs p now ts ts.length ++ lieNs ts.length l (k + 1) := by
          rw [lieNs_next, hgx, List.append_assoc]
        go_upto_region 21 with (at_builtin; refine wpList_append_heard rfl _ _ rfl (IN + 1) v (Nod.honNs p now ts ts.length ++ lieNs ts.length l k) (ts.length + k) rfl (World.ownsRow.alloc hrow _) _ (lieN ts.length x k) rfl (Own.new _ _ _ rfl) (by omega) (by simp; omega) ?_; intro v2 w6 hown hgrow; obtain ⟨A3, m3, q3, rfl⟩ := row_slice23 hown; have hI6 := own_grown23 (hI.alloc _) hgrow (fun e => by have := HR.out _ e; omega); have hok6 := Below.grown (hokr.alloc _) hgrow (by simp; omega) (fun g e => by have := HR.out _ e; omega); clear i1 hIl; have i1 := hI6.cell 1 (v := v) rfl; have i1f := hI6.frozen 1; have hIl := hI6.lt)
        rw [hex] at hown
        clear i1 i1f hIl z0 z1 z2 z3 z4 z5 z6 z7 z8 z9 z10 z11 z12 z13 z14 hZl
        go_wp2_with fail
        go_roundw
        case rel => exact ⟨k + 1, .slice A3 m3 q3, hlt, by go_num, hI6.set 1 (.slice A3 m3 q3), row_only hown ((Only.refl IN _).setR 1 _) (Nat.lt_succ_self _), hok6.setCell (p := ⟨IN, 1, none⟩) (by rw [hIN]; exact Nat.le_refl _) _⟩
        case measure => simp [intOf]; omega
      · have ek : k = l.length := by omega
        subst ek
        obtain ⟨LL, hLL⟩ : ∃ x, Nod.honNs p now ts ts.length ++ lieNs ts.length l l.length = x := ⟨_, rfl⟩
        have hLh : LL.map HA.hd = Nod.heard p now ts (l.map HA.hd) := by rw [← hLL]; exact Nod.heardNs p now ts l
        have hLn : ts.length + l.length = LL.length := by rw [← hLL, List.length_append, Nod.honNs_len, lieNs_len]
        obtain ⟨B2, q2, rfl, hH⟩ := heards_of_row (by rw [hLL]; exact hLn) hrow (fun x hx => by
          rcases List.mem_append.1 hx with h | h
          · exact plain_tab _ _ (Nod.hons_table p now ts _) x h
          · exact lieNs_tab ((HBB.out.below hok).below hokr).tabs _ x h)
        rw [hLL] at hI hH
        obtain ⟨hm, hlgf, b1, b2, b3, b4⟩ := HC1.out
        have hmg := hm.1
        have hmd := hm.2.2.1.1
        unfold Lim.Gates at hmg
        have hL40 : LL.length ≤ 1000 := by omega
        have hfew := HLG.out hlgf
        have hLw : ∀ h ∈ LL, (Lit.int .i64 h.m.frm).wf = true := fun x hx => by
          rw [← hLL] at hx
          rcases List.mem_append.1 hx with h | h
          · obtain ⟨y, hy, rfl⟩ := List.mem_map.1 h
            obtain ⟨i, hi, e⟩ := Nod.hons_frm hy
            exact wf_small23 (by show 0 ≤ y.m.frm ∧ y.m.frm ≤ 1000; omega)
          · obtain ⟨y, hy, -, j, hj, e⟩ := lieNs_mem h
            exact wf_small23 (by omega)
        have hLt : ∀ h ∈ LL, h.m.table.length ≤ 8796093022208 := fun x hx => by
          rw [← hLL] at hx
          rcases List.mem_append.1 hx with h | h
          · obtain ⟨y, hy, rfl⟩ := List.mem_map.1 h
            show y.m.table.length ≤ _
            rw [Nod.hons_table p now ts _ y hy]
            simp
          · obtain ⟨y, hy, e, -⟩ := lieNs_mem h
            rw [e]
            exact Nat.le_trans (hfew.told _ List.mem_cons_self y hy) (by decide)
        clear hLL hLn hrow hlt hk
        obtain ⟨Y, hY⟩ : ∃ Y, (Nod.state p (Health.sane p s) tk ((Nod.known HA.hd 20 Mem.nobody LL).1.map HA.hd)) = Y := ⟨_, rfl⟩
        have hsb := HSE.out.b
        obtain ⟨⟨y1, y2⟩, y3, ⟨y4, y5⟩, y6, y7, y8, y9⟩ := Nod.core_holds hm ⟨by omega, by omega⟩ b3 HSE.out.fine (l.map HA.hd) (Health.sane p s) tk HSE.out.wide HSE.out.low HSE.out.high hsb.2.1.1 hsb.2.2.2 Y (by rw [← hY, ← hLh, Nod.known_map])
        have htl : (Health.sane p s).table.length ≤ 1048576 := Nat.le_trans (saneTable23 p s) (by decide)
        obtain ⟨X, hX⟩ : ∃ X, (⟨tk, B2, LL, q2, false, 0, false, none, [], 0⟩ : In) = X := ⟨_, rfl⟩
        obtain ⟨f2, hf2⟩ : ∃ z, Mem.tick 2 (Nod.known HA.hd 20 Mem.nobody LL).2 = z := ⟨_, rfl⟩
        have hsy : ∃ m : Msg, Nod.say p 20 Y = m ∧ m.kind = 2 ∧ m.frm = 20 ∧ m.lo = Y.lo ∧ m.hi = Y.hi := ⟨_, rfl, rfl, rfl, rfl, rfl⟩
        obtain ⟨mm, hmm, n1, n2, n3, n4⟩ := hsy
        have KN := Lib.hid fun w h => nodeNew p 20 s A cap w h HSL.out
        have KB : Hid (∀ (W' : World) (G t b : Nat) (A2 : Option Addr) (c2 : Nat), NodeAt W' G t b 20 p (Health.sane p s) A2 c2 Mem.nobody → PairsAt W' A2 (Health.sane p s).table → HeardsAt W' B2 LL → Pow W' → Calls Tryz.prog 13 #[.pointer (some ⟨G, 0, none⟩), .agg #[.int .i64 tk, .slice B2 LL.length q2, .bool false, .int .i64 0, .bool false, .slice none 0 0]] W' fun e w' => ∃ A3 c3 A4 c4, e = .returned (.agg #[.int .i64 2, .int .i64 20, .int .i64 Y.lo, .int .i64 Y.hi, .int .i64 mm.held, .int .i64 mm.hops, .bool mm.good, .bool mm.ref, .int .i64 mm.slo, .int .i64 mm.shi, .int .i64 mm.pulse, .int .i64 mm.time, .int .i64 mm.num, .slice A3 mm.table.length c3]) ∧ Own w' G (nodeCells 20 t p (Health.stamped Y) A4 c4) ∧ OnlyN G b W' w') := Lib.hid fun W' G t b A2 c2 h1 h2 h3 h4 => by
          have k := nodeBeat G t b 20 p (Health.sane p s) A2 c2 Mem.nobody X W' h1 h2 htl (by rw [← hX]; exact h3) (by rw [← hX]; exact hL40) (by rw [← hX]; exact hLw) (by rw [← hX]; exact hLt) ⟨by omega, by omega⟩ ⟨by omega, by omega⟩ h4
          rw [← hX] at k
          refine k.mono ?_
          rintro e w' ⟨A3, c3, A4, c4, rfl, q1, -, -, q2, -⟩
          refine ⟨A3, c3, A4, c4, ?_, ?_, q2⟩
          · show Ending.returned (msgV (Nod.say p 20 (Nod.state p (Health.sane p s) tk ((Nod.known HA.hd 20 Mem.nobody LL).1.map HA.hd))) A3 c3) = _
            rw [hY, hmm]
            unfold msgV
            rw [n1, n2, n3, n4]
          · have q3 := q1.own
            change Own w' G (nodeCells 20 t p (Health.stamped (Nod.state p (Health.sane p s) tk ((Nod.known HA.hd 20 Mem.nobody LL).1.map HA.hd))) A4 c4) at q3
            rw [hY] at q3
            exact q3
        have KHO := Lib.hid fun w => limHop p w
        have hhop := Lim.hop_in (Lim.May.small hm)
        obtain ⟨b5, r1, d1, j1, e1⟩ := Lim.May.bds hm
        have hh0 : 0 ≤ Lim.hop p ∧ Lim.hop p ≤ 4398046511104 := by omega
        have q12 : ∀ t A4 c4, (nodeCells 20 t p (Health.stamped Y) A4 c4)[12]? = some (.int .i64 Y.lo) := fun _ _ _ => rfl
        have q13 : ∀ t A4 c4, (nodeCells 20 t p (Health.stamped Y) A4 c4)[13]? = some (.int .i64 Y.hi) := fun _ _ _ => rfl
        have q16 : ∀ t A4 c4, (nodeCells 20 t p (Health.stamped Y) A4 c4)[16]? = some (.int .i64 Y.held) := fun _ _ _ => rfl
        have q17 : ∀ t A4 c4, (nodeCells 20 t p (Health.stamped Y) A4 c4)[17]? = some (.int .i64 0) := fun _ _ _ => by rw [← y6]; rfl
        have q18 : ∀ t A4 c4, (nodeCells 20 t p (Health.stamped Y) A4 c4)[18]? = some (.bool true) := fun _ _ _ => by rw [← y7]; rfl
        clear hhop n1 n2 n3 n4 hmm hX hY y6 y7 htl hLh hL40 hLw hLt hlgf hfew hf2 r1 d1 j1 e1
        obtain ⟨YY, hYY⟩ : ∃ z, Health.stamped Y = z := ⟨_, rfl⟩
        rw [hYY] at KB q12 q13 q16 q17 q18
        clear hYY
        generalize Health.sane p s = S0 at KN KB
        obtain ⟨h, hh⟩ : ∃ h, Lim.hop p = h := ⟨_, rfl⟩
        rw [hh] at KHO y3 hh0
        generalize Y.lo = lo at y1 y3 y4 q12 KB
        generalize Y.hi = hi at y2 y3 y5 q13 KB
        generalize Y.held = hd at y8 y9 q16
        obtain ⟨nx, hnx⟩ : ∃ nx, now + p.beat = nx := ⟨_, rfl⟩
        have hw1 : IntKind.i64.wrap (now + p.beat) = nx := by rw [hnx]; exact IntWalk.i64_in _ ⟨by omega, by omega⟩
        rw [hnx] at y1 y2
        have hw2 : IntKind.i64.wrap (hi - lo) = hi - lo := IntWalk.i64_in _ ⟨by omega, by omega⟩
        have hw3 : IntKind.i64.wrap (wd + h) = wd + h := IntWalk.i64_in _ ⟨by omega, by omega⟩
        have hw4 : IntKind.i64.wrap (le + 1) = le + 1 := IntWalk.i64_in _ ⟨by omega, by omega⟩
        have hw5 : IntKind.i64.wrap (gr + 1) = gr + 1 := IntWalk.i64_in _ ⟨by omega, by omega⟩
        have r1 : decide (lo ≤ nx) = true := decide_eq_true y1
        have r2 : decide (nx ≤ hi) = true := decide_eq_true y2
        have r3 : decide (hi - lo ≤ wd + h) = true := decide_eq_true y3
        have r4 : decide (le + 1 ≤ hd) = true := decide_eq_true y8
        have r5 : decide (hd ≤ gr + 1) = true := decide_eq_true y9
        have HRR := Lib.hid (And.intro r1 (And.intro r2 (And.intro r3 (And.intro r4 r5))))
        have HWW := Lib.hid (And.intro hw2 (And.intro hw3 (And.intro hw4 hw5)))
        clear hnx hh hh0 y1 y2 y3 y4 y5 y8 y9 b1 b2 b3 b4 b5 hm hmg hmd hsb r1 r2 r3 r4 r5 hw2 hw3 hw4 hw5
        replace hP := hP.next hokr
        replace hS := hS.next hokr
        replace hok := hok.trans hokr
        clear hokr
        obtain ⟨s0, s1, s2, s3, s4, s5, s6, s7, s8, s9, s10⟩ := hS.sta; have hsl := hS.lt
        obtain ⟨c0, c1, c2, c3, c4, c5, c6, c7, c8, c9, c10, c11⟩ := hP.pars; have hPl := hP.lt
        replace q12 := Lib.hid q12
        replace q13 := Lib.hid q13
        replace q16 := Lib.hid q16
        replace q17 := Lib.hid q17
        replace q18 := Lib.hid q18
        clear hts hts1 hll
        go_upto_region 22 with fail
        go_upto_region 23 with (go_at_call 10; refine (KN.out _ (HAA.out.below hok)).mono ?_; rintro e w4 ⟨G, t, b, A2, q5, rfl, hO, hT, hG, -, hb1⟩; clear s0 s1 s2 s3 s4 s5 s6 s7 s8 s9 s10 hsl; clear c0 c1 c2 c3 c4 c5 c6 c7 c8 c9 c10 c11 hPl; have hGB : Bp ≠ G ∧ Bp ≠ b := ⟨Nat.ne_of_lt (Nat.lt_of_lt_of_le hP.lt hG.1), Nat.ne_of_lt (Nat.lt_of_lt_of_le hP.lt hG.2.2)⟩; have hwG : w.heap.size ≤ G ∧ w.heap.size ≤ b := ⟨Nat.le_trans hok.size hG.1, Nat.le_trans hok.size hG.2.2⟩; replace hP := hP.next hb1; replace hI := hI.next hb1; replace hH := hH.below hb1; replace hok := hok.trans hb1; clear hb1 hS; clear hG)
        have hA2 := hT.pairs.1
        clear hT
        have i0 := hI.cell 0 (v := .int .i64 tk) rfl
        have i1 := hI.cell 1 (v := .slice B2 LL.length q2) rfl
        have i2 := hI.cell 2 (v := .bool false) rfl
        have i3 := hI.cell 3 (v := .int .i64 0) rfl
        have i4 := hI.cell 4 (v := .bool false) rfl
        have i5 := hI.cell 5 (v := .slice none 0 0) rfl
        have hIl := hI.lt
        go_upto_region 24 with (go_at_call 13; refine (KB.out _ _ _ _ _ _ hO hA2 hH (HPOW.out _ hok)).mono ?_; rintro e w5 ⟨A3, c3, A4, c4', rfl, hO2, hon⟩; clear i0 i1 i2 i3 i4 i5 hIl; replace hP := hon.own hP hGB.1 hGB.2; replace hok := hon.then_ok hok hwG.1 hwG.2; clear hon hO hA2 hH hI)
        have hM := Own.new w5 #[.int .i64 2, .int .i64 20, .int .i64 lo, .int .i64 hi, .int .i64 mm.held, .int .i64 mm.hops, .bool mm.good, .bool mm.ref, .int .i64 mm.slo, .int .i64 mm.shi, .int .i64 mm.pulse, .int .i64 mm.time, .int .i64 mm.num, .slice A3 mm.table.length c3] 51 rfl
        replace hP := hP.alloc (.cells #[.int .i64 2, .int .i64 20, .int .i64 lo, .int .i64 hi, .int .i64 mm.held, .int .i64 mm.hops, .bool mm.good, .bool mm.ref, .int .i64 mm.slo, .int .i64 mm.shi, .int .i64 mm.pulse, .int .i64 mm.time, .int .i64 mm.num, .slice A3 mm.table.length c3] 51)
        replace hO2 := hO2.alloc (.cells #[.int .i64 2, .int .i64 20, .int .i64 lo, .int .i64 hi, .int .i64 mm.held, .int .i64 mm.hops, .bool mm.good, .bool mm.ref, .int .i64 mm.slo, .int .i64 mm.shi, .int .i64 mm.pulse, .int .i64 mm.time, .int .i64 mm.num, .slice A3 mm.table.length c3] 51)
        replace hok := hok.alloc (.cells #[.int .i64 2, .int .i64 20, .int .i64 lo, .int .i64 hi, .int .i64 mm.held, .int .i64 mm.hops, .bool mm.good, .bool mm.ref, .int .i64 mm.slo, .int .i64 mm.shi, .int .i64 mm.pulse, .int .i64 mm.time, .int .i64 mm.num, .slice A3 mm.table.length c3] 51)
        change Code.wp _ _ _ _ (w5.alloc (.cells #[.int .i64 2, .int .i64 20, .int .i64 lo, .int .i64 hi, .int .i64 mm.held, .int .i64 mm.hops, .bool mm.good, .bool mm.ref, .int .i64 mm.slo, .int .i64 mm.shi, .int .i64 mm.pulse, .int .i64 mm.time, .int .i64 mm.num, .slice A3 mm.table.length c3] 51))
        generalize w5.alloc (.cells #[.int .i64 2, .int .i64 20, .int .i64 lo, .int .i64 hi, .int .i64 mm.held, .int .i64 mm.hops, .bool mm.good, .bool mm.ref, .int .i64 mm.slo, .int .i64 mm.shi, .int .i64 mm.pulse, .int .i64 mm.time, .int .i64 mm.num, .slice A3 mm.table.length c3] 51) = W5 at hM hP hO2 hok ⊢
        generalize w5.heap.size = MB at hM ⊢
        have c3' := hP.cell 3 (v := .int .i64 p.beat) rfl
        have hPl := hP.lt
        go_upto_region 25 with fail
        clear c3' hPl
        have g12 := hO2.cell 12 (q12.out t A4 c4')
        have g13 := hO2.cell 13 (q13.out t A4 c4')
        have g16 := hO2.cell 16 (q16.out t A4 c4')
        have g17 := hO2.cell 17 (q17.out t A4 c4')
        have g18 := hO2.cell 18 (q18.out t A4 c4')
        have hGl := hO2.lt
        have q16' := Lib.hid fun A4 c4 => q16.out t A4 c4
        have q17' := Lib.hid fun A4 c4 => q17.out t A4 c4
        have q18' := Lib.hid fun A4 c4 => q18.out t A4 c4
        have m0 := hM.cell 0 (v := .int .i64 2) rfl
        have m1 := hM.cell 1 (v := .int .i64 20) rfl
        have m2 := hM.cell 2 (v := .int .i64 lo) rfl
        have m3 := hM.cell 3 (v := .int .i64 hi) rfl
        have hMl := hM.lt
        clear KN KB q12 q13 q16 q17 q18 HAA HBB HTT HSL HPOW HSE HLG HC1 HTS hGB hwG
        go_upto_region 26 with fail
        clear g12 g13 g16 g17 g18 hGl m0 m1 m2 m3 hMl
        have hX := Own.new W5 #[.int .i64 lo, .int .i64 hi] 25 rfl
        replace hP := hP.alloc (.cells #[.int .i64 lo, .int .i64 hi] 25)
        replace hO2 := hO2.alloc (.cells #[.int .i64 lo, .int .i64 hi] 25)
        replace hM := hM.alloc (.cells #[.int .i64 lo, .int .i64 hi] 25)
        replace hok := hok.alloc (.cells #[.int .i64 lo, .int .i64 hi] 25)
        change Code.wp _ _ _ _ (W5.alloc (.cells #[.int .i64 lo, .int .i64 hi] 25))
        generalize W5.alloc (.cells #[.int .i64 lo, .int .i64 hi] 25) = W6 at hX hP hO2 hM hok ⊢
        generalize W5.heap.size = X at hX ⊢
        have HP := Lib.hid fun W' (k : Ok W6.drew W') => hP.drew.next k
        have HX := Lib.hid fun W' (k : Ok W6.drew W') => hX.drew.next k
        have HG := Lib.hid fun W' (k : Ok W6.drew W') => And.intro (hO2.drew.next k).lt (And.intro ((hO2.drew.next k).cell 16 (q16'.out A4 c4')) (And.intro ((hO2.drew.next k).cell 17 (q17'.out A4 c4')) ((hO2.drew.next k).cell 18 (q18'.out A4 c4'))))
        have HM := Lib.hid fun W' (k : Ok W6.drew W') => hM.drew.next k
        have HOK := Lib.hid hok
        clear hM hO2 hX hP q16' q17' q18' hok hw1
        dsimp only [List.append]
        refine wp_region_facts (by as_aux_lemma => kernel_rfl) 289 rfl (VCNCb Bp G X MB p lo hi nx h wd le gr hd) Ok (by as_aux_lemma => kernel_rfl) (fun i v w w' h k w'' k' => h w'' (k.trans k')) (fun a b c => Ok.trans) (Ok.refl _) [some 212, some 213, some 214, some 215, some 216, some 217, some 218, some 219, some 220, some 221, some 222, some 223, some 224, some 225, some 226, some 227, some 228, some 229, some 230, some 231, some 232, some 233, some 234, some 235, some 236, some 237, some 238, some 239, some 240, some 241, some 242, some 243, some 244, some 245, some 246, some 247, some 248, some 249, some 250, some 251, some 252, some 253, some 254, some 255, some 256, some 257, some 258, some 259, some 260, some 261, some 262, some 263, some 264, some 265, some 266, some 267, some 268, some 269, some 270, some 271, some 272, some 273, some 274, some 275, some 276, some 277, some 278, some 279, some 280, some 281, some 282, some 283, some 284, some 285, some 286, some 287, some 288, some 12] rfl 78 rfl ⟨?_, ?_, ?_, ?_, ?_, ?_, ?_, ?_, ?_, ?_, ?_, ?_, ?_, ?_, ?_, ?_, ?_, ?_, ?_, ?_, ?_, ?_, ?_, ?_, ?_, ?_, ?_, ?_, ?_, ?_, ?_, ?_, ?_, ?_, ?_, ?_, ?_, ?_, ?_, ?_, ?_, ?_, ?_, ?_, ?_, ?_, ?_, ?_, ?_, ?_, ?_, ?_, ?_, ?_, ?_, ?_, ?_, ?_, ?_, ?_, ?_, ?_, ?_, ?_, ?_, ?_, ?_, ?_, ?_, ?_, ?_, ?_, ?_, ?_, ?_, ?_, ?_, ?_, trivial⟩ ?_
        · intro a' w' hF hR
          have e25 : a'.tmps[25]? = some (.pointer (some ⟨X, 0, none⟩)) := hF.slot 25 (by as_aux_lemma => kernel_rfl) rfl
          refine wpOp_run (v := .pointer (some ⟨X, 0, none⟩)) rfl rfl ?_ (fun _ _ => rfl) (Ok.refl _)
          clear hF
          go_simp
        · intro a' w' hF hR
          obtain ⟨v0, hv0, e212⟩ := hF.get 0 212 (by as_aux_lemma => kernel_rfl) (by as_aux_lemma => kernel_rfl)
          obtain rfl : v0 = _ := hv0 _ (Ok.refl _)
          have s0 := (HX.out _ hR).cell 0 rfl
          have s1 := (HX.out _ hR).cell 1 rfl
          have hXl := (HX.out _ hR).lt
          refine wpOp_run (v := .int .i64 lo) rfl rfl ?_ (fun _ _ => rfl) (Ok.refl _)
          clear hF
          go_simp
        · intro a' w' hF hR
          have e24 : a'.tmps[24]? = some (.int .i64 nx) := hF.slot 24 (by as_aux_lemma => kernel_rfl) rfl
          refine wpOp_run (v := .int .i64 nx) rfl rfl ?_ (fun _ _ => rfl) (Ok.refl _)
          clear hF
          go_simp
        · intro a' w' hF hR
          obtain ⟨v1, hv1, e213⟩ := hF.get 1 213 (by as_aux_lemma => kernel_rfl) (by as_aux_lemma => kernel_rfl)
          obtain rfl : v1 = _ := hv1 _ (Ok.refl _)
          obtain ⟨v2, hv2, e214⟩ := hF.get 2 214 (by as_aux_lemma => kernel_rfl) (by as_aux_lemma => kernel_rfl)
          obtain rfl : v2 = _ := hv2 _ (Ok.refl _)
          obtain ⟨r1, r2, r3, r4, r5⟩ := HRR.out
          refine wpOp_run (v := .bool true) rfl rfl ?_ (fun _ _ => rfl) (Ok.refl _)
          clear hF
          go_simp
        · intro a' w' hF hR
          obtain ⟨v3, hv3, e215⟩ := hF.get 3 215 (by as_aux_lemma => kernel_rfl) (by as_aux_lemma => kernel_rfl)
          obtain rfl : v3 = _ := hv3 _ (Ok.refl _)
          refine wpOp_run (v := .bool true) rfl rfl ?_ (fun _ _ => rfl) (Ok.refl _)
          clear hF
          go_simp
        · intro a' w' hF hR
          have e24 : a'.tmps[24]? = some (.int .i64 nx) := hF.slot 24 (by as_aux_lemma => kernel_rfl) rfl
          obtain ⟨vg, hvg, eg⟩ := hF.get 4 216 (by as_aux_lemma => kernel_rfl) (by as_aux_lemma => kernel_rfl)
          obtain rfl : vg = _ := hvg _ (Ok.refl _)
          refine wpOp_runG (v := .int .i64 nx) rfl (wanted_yes rfl (by as_aux_lemma => kernel_rfl) eg) ?_ (fun _ _ => rfl) (Ok.refl _)
          clear hF
          go_simp
        · intro a' w' hF hR
          have e25 : a'.tmps[25]? = some (.pointer (some ⟨X, 0, none⟩)) := hF.slot 25 (by as_aux_lemma => kernel_rfl) rfl
          obtain ⟨vg, hvg, eg⟩ := hF.get 4 216 (by as_aux_lemma => kernel_rfl) (by as_aux_lemma => kernel_rfl)
          obtain rfl : vg = _ := hvg _ (Ok.refl _)
          refine wpOp_runG (v := .pointer (some ⟨X, 1, none⟩)) rfl (wanted_yes rfl (by as_aux_lemma => kernel_rfl) eg) ?_ (fun _ _ => rfl) (Ok.refl _)
          clear hF
          go_simp
        · intro a' w' hF hR
          obtain ⟨v6, hv6, e218⟩ := hF.get 6 218 (by as_aux_lemma => kernel_rfl) (by as_aux_lemma => kernel_rfl)
          obtain rfl : v6 = _ := hv6 _ (Ok.refl _)
          obtain ⟨vg, hvg, eg⟩ := hF.get 4 216 (by as_aux_lemma => kernel_rfl) (by as_aux_lemma => kernel_rfl)
          obtain rfl : vg = _ := hvg _ (Ok.refl _)
          have s0 := (HX.out _ hR).cell 0 rfl
          have s1 := (HX.out _ hR).cell 1 rfl
          have hXl := (HX.out _ hR).lt
          refine wpOp_runG (v := .int .i64 hi) rfl (wanted_yes rfl (by as_aux_lemma => kernel_rfl) eg) ?_ (fun _ _ => rfl) (Ok.refl _)
          clear hF
          go_simp
        · intro a' w' hF hR
          obtain ⟨v5, hv5, e217⟩ := hF.get 5 217 (by as_aux_lemma => kernel_rfl) (by as_aux_lemma => kernel_rfl)
          obtain rfl : v5 = _ := hv5 _ (Ok.refl _)
          obtain ⟨v7, hv7, e219⟩ := hF.get 7 219 (by as_aux_lemma => kernel_rfl) (by as_aux_lemma => kernel_rfl)
          obtain rfl : v7 = _ := hv7 _ (Ok.refl _)
          obtain ⟨vg, hvg, eg⟩ := hF.get 4 216 (by as_aux_lemma => kernel_rfl) (by as_aux_lemma => kernel_rfl)
          obtain rfl : vg = _ := hvg _ (Ok.refl _)
          obtain ⟨r1, r2, r3, r4, r5⟩ := HRR.out
          refine wpOp_runG (v := .bool true) rfl (wanted_yes rfl (by as_aux_lemma => kernel_rfl) eg) ?_ (fun _ _ => rfl) (Ok.refl _)
          clear hF
          go_simp
        · intro a' w' hF hR
          obtain ⟨v4, hv4, e216⟩ := hF.get 4 216 (by as_aux_lemma => kernel_rfl) (by as_aux_lemma => kernel_rfl)
          obtain rfl : v4 = _ := hv4 _ (Ok.refl _)
          obtain ⟨v8, hv8, e220⟩ := hF.get 8 220 (by as_aux_lemma => kernel_rfl) (by as_aux_lemma => kernel_rfl)
          obtain rfl : v8 = _ := hv8 _ (Ok.refl _)
          refine wpOp_run (v := .bool true) rfl rfl ?_ (fun _ _ => rfl) (Ok.refl _)
          clear hF
          go_simp
        · intro a' w' hF hR
          obtain ⟨v9, hv9, e221⟩ := hF.get 9 221 (by as_aux_lemma => kernel_rfl) (by as_aux_lemma => kernel_rfl)
          obtain rfl : v9 = _ := hv9 _ (Ok.refl _)
          refine wpOp_run (v := .bool true) rfl rfl ?_ (fun _ _ => rfl) (Ok.refl _)
          clear hF
          go_simp
        · intro a' w' hF hR
          have e25 : a'.tmps[25]? = some (.pointer (some ⟨X, 0, none⟩)) := hF.slot 25 (by as_aux_lemma => kernel_rfl) rfl
          obtain ⟨vg, hvg, eg⟩ := hF.get 10 222 (by as_aux_lemma => kernel_rfl) (by as_aux_lemma => kernel_rfl)
          obtain rfl : vg = _ := hvg _ (Ok.refl _)
          refine wpOp_runG (v := .pointer (some ⟨X, 1, none⟩)) rfl (wanted_yes rfl (by as_aux_lemma => kernel_rfl) eg) ?_ (fun _ _ => rfl) (Ok.refl _)
          clear hF
          go_simp
        · intro a' w' hF hR
          obtain ⟨v11, hv11, e223⟩ := hF.get 11 223 (by as_aux_lemma => kernel_rfl) (by as_aux_lemma => kernel_rfl)
          obtain rfl : v11 = _ := hv11 _ (Ok.refl _)
          obtain ⟨vg, hvg, eg⟩ := hF.get 10 222 (by as_aux_lemma => kernel_rfl) (by as_aux_lemma => kernel_rfl)
          obtain rfl : vg = _ := hvg _ (Ok.refl _)
          have s0 := (HX.out _ hR).cell 0 rfl
          have s1 := (HX.out _ hR).cell 1 rfl
          have hXl := (HX.out _ hR).lt
          refine wpOp_runG (v := .int .i64 hi) rfl (wanted_yes rfl (by as_aux_lemma => kernel_rfl) eg) ?_ (fun _ _ => rfl) (Ok.refl _)
          clear hF
          go_simp
        · intro a' w' hF hR
          have e25 : a'.tmps[25]? = some (.pointer (some ⟨X, 0, none⟩)) := hF.slot 25 (by as_aux_lemma => kernel_rfl) rfl
          obtain ⟨vg, hvg, eg⟩ := hF.get 10 222 (by as_aux_lemma => kernel_rfl) (by as_aux_lemma => kernel_rfl)
          obtain rfl : vg = _ := hvg _ (Ok.refl _)
          refine wpOp_runG (v := .pointer (some ⟨X, 0, none⟩)) rfl (wanted_yes rfl (by as_aux_lemma => kernel_rfl) eg) ?_ (fun _ _ => rfl) (Ok.refl _)
          clear hF
          go_simp
        · intro a' w' hF hR
          obtain ⟨v13, hv13, e225⟩ := hF.get 13 225 (by as_aux_lemma => kernel_rfl) (by as_aux_lemma => kernel_rfl)
          obtain rfl : v13 = _ := hv13 _ (Ok.refl _)
          obtain ⟨vg, hvg, eg⟩ := hF.get 10 222 (by as_aux_lemma => kernel_rfl) (by as_aux_lemma => kernel_rfl)
          obtain rfl : vg = _ := hvg _ (Ok.refl _)
          have s0 := (HX.out _ hR).cell 0 rfl
          have s1 := (HX.out _ hR).cell 1 rfl
          have hXl := (HX.out _ hR).lt
          refine wpOp_runG (v := .int .i64 lo) rfl (wanted_yes rfl (by as_aux_lemma => kernel_rfl) eg) ?_ (fun _ _ => rfl) (Ok.refl _)
          clear hF
          go_simp
        · intro a' w' hF hR
          obtain ⟨v12, hv12, e224⟩ := hF.get 12 224 (by as_aux_lemma => kernel_rfl) (by as_aux_lemma => kernel_rfl)
          obtain rfl : v12 = _ := hv12 _ (Ok.refl _)
          obtain ⟨v14, hv14, e226⟩ := hF.get 14 226 (by as_aux_lemma => kernel_rfl) (by as_aux_lemma => kernel_rfl)
          obtain rfl : v14 = _ := hv14 _ (Ok.refl _)
          obtain ⟨vg, hvg, eg⟩ := hF.get 10 222 (by as_aux_lemma => kernel_rfl) (by as_aux_lemma => kernel_rfl)
          obtain rfl : vg = _ := hvg _ (Ok.refl _)
          obtain ⟨hw2, hw3, hw4, hw5⟩ := HWW.out
          refine wpOp_runG (v := .int .i64 (hi - lo)) rfl (wanted_yes rfl (by as_aux_lemma => kernel_rfl) eg) ?_ (fun _ _ => rfl) (Ok.refl _)
          clear hF
          go_simp
        · intro a' w' hF hR
          have e14 : a'.tmps[14]? = some (.int .i64 wd) := hF.slot 14 (by as_aux_lemma => kernel_rfl) rfl
          obtain ⟨vg, hvg, eg⟩ := hF.get 10 222 (by as_aux_lemma => kernel_rfl) (by as_aux_lemma => kernel_rfl)
          obtain rfl : vg = _ := hvg _ (Ok.refl _)
          refine wpOp_runG (v := .int .i64 wd) rfl (wanted_yes rfl (by as_aux_lemma => kernel_rfl) eg) ?_ (fun _ _ => rfl) (Ok.refl _)
          clear hF
          go_simp
        · intro a' w' hF hR
          have e6 : a'.tmps[6]? = some (.pointer (some ⟨Bp, 0, none⟩)) := hF.slot 6 (by as_aux_lemma => kernel_rfl) rfl
          obtain ⟨vg, hvg, eg⟩ := hF.get 10 222 (by as_aux_lemma => kernel_rfl) (by as_aux_lemma => kernel_rfl)
          obtain rfl : vg = _ := hvg _ (Ok.refl _)
          obtain ⟨c0, c1, c2, c3, c4, c5, c6, c7, c8, c9, c10, c11⟩ := (HP.out _ hR).pars
          have hPl := (HP.out _ hR).lt
          refine wpOp_runG (v := parV p) rfl (wanted_yes rfl (by as_aux_lemma => kernel_rfl) eg) ?_ (fun _ _ => rfl) (Ok.refl _)
          clear hF
          go_simp
        · intro a' w' hF hR
          obtain ⟨v17, hv17, e229⟩ := hF.get 17 229 (by as_aux_lemma => kernel_rfl) (by as_aux_lemma => kernel_rfl)
          obtain rfl : v17 = _ := hv17 _ (Ok.refl _)
          obtain ⟨vg, hvg, eg⟩ := hF.get 10 222 (by as_aux_lemma => kernel_rfl) (by as_aux_lemma => kernel_rfl)
          obtain rfl : vg = _ := hvg _ (Ok.refl _)
          refine wpOp_callG (f := 20) (args := #[parV p]) rfl (wanted_yes rfl (by as_aux_lemma => kernel_rfl) eg) ?_ ((KHO.out _).mono ?_)
          · go_simp
          · rintro e w2 ⟨rfl, hb2⟩; exact ⟨_, rfl, fun _ _ => rfl, hb2⟩
        · intro a' w' hF hR
          obtain ⟨v16, hv16, e228⟩ := hF.get 16 228 (by as_aux_lemma => kernel_rfl) (by as_aux_lemma => kernel_rfl)
          obtain rfl : v16 = _ := hv16 _ (Ok.refl _)
          obtain ⟨v18, hv18, e230⟩ := hF.get 18 230 (by as_aux_lemma => kernel_rfl) (by as_aux_lemma => kernel_rfl)
          obtain rfl : v18 = _ := hv18 _ (Ok.refl _)
          obtain ⟨vg, hvg, eg⟩ := hF.get 10 222 (by as_aux_lemma => kernel_rfl) (by as_aux_lemma => kernel_rfl)
          obtain rfl : vg = _ := hvg _ (Ok.refl _)
          obtain ⟨hw2, hw3, hw4, hw5⟩ := HWW.out
          refine wpOp_runG (v := .int .i64 (wd + h)) rfl (wanted_yes rfl (by as_aux_lemma => kernel_rfl) eg) ?_ (fun _ _ => rfl) (Ok.refl _)
          clear hF
          go_simp
        · intro a' w' hF hR
          obtain ⟨v15, hv15, e227⟩ := hF.get 15 227 (by as_aux_lemma => kernel_rfl) (by as_aux_lemma => kernel_rfl)
          obtain rfl : v15 = _ := hv15 _ (Ok.refl _)
          obtain ⟨v19, hv19, e231⟩ := hF.get 19 231 (by as_aux_lemma => kernel_rfl) (by as_aux_lemma => kernel_rfl)
          obtain rfl : v19 = _ := hv19 _ (Ok.refl _)
          obtain ⟨vg, hvg, eg⟩ := hF.get 10 222 (by as_aux_lemma => kernel_rfl) (by as_aux_lemma => kernel_rfl)
          obtain rfl : vg = _ := hvg _ (Ok.refl _)
          obtain ⟨r1, r2, r3, r4, r5⟩ := HRR.out
          refine wpOp_runG (v := .bool true) rfl (wanted_yes rfl (by as_aux_lemma => kernel_rfl) eg) ?_ (fun _ _ => rfl) (Ok.refl _)
          clear hF
          go_simp
        · intro a' w' hF hR
          obtain ⟨v10, hv10, e222⟩ := hF.get 10 222 (by as_aux_lemma => kernel_rfl) (by as_aux_lemma => kernel_rfl)
          obtain rfl : v10 = _ := hv10 _ (Ok.refl _)
          obtain ⟨v20, hv20, e232⟩ := hF.get 20 232 (by as_aux_lemma => kernel_rfl) (by as_aux_lemma => kernel_rfl)
          obtain rfl : v20 = _ := hv20 _ (Ok.refl _)
          refine wpOp_run (v := .bool true) rfl rfl ?_ (fun _ _ => rfl) (Ok.refl _)
          clear hF
          go_simp
        · intro a' w' hF hR
          obtain ⟨v21, hv21, e233⟩ := hF.get 21 233 (by as_aux_lemma => kernel_rfl) (by as_aux_lemma => kernel_rfl)
          obtain rfl : v21 = _ := hv21 _ (Ok.refl _)
          refine wpOp_run (v := .bool true) rfl rfl ?_ (fun _ _ => rfl) (Ok.refl _)
          clear hF
          go_simp
        · intro a' w' hF hR
          have e22 : a'.tmps[22]? = some (.pointer (some ⟨G, 0, none⟩)) := hF.slot 22 (by as_aux_lemma => kernel_rfl) rfl
          obtain ⟨vg, hvg, eg⟩ := hF.get 22 234 (by as_aux_lemma => kernel_rfl) (by as_aux_lemma => kernel_rfl)
          obtain rfl : vg = _ := hvg _ (Ok.refl _)
          refine wpOp_runG (v := .pointer (some ⟨G, 0, none⟩)) rfl (wanted_yes rfl (by as_aux_lemma => kernel_rfl) eg) ?_ (fun _ _ => rfl) (Ok.refl _)
          clear hF
          go_simp
        · intro a' w' hF hR
          obtain ⟨v23, hv23, e235⟩ := hF.get 23 235 (by as_aux_lemma => kernel_rfl) (by as_aux_lemma => kernel_rfl)
          obtain rfl : v23 = _ := hv23 _ (Ok.refl _)
          obtain ⟨vg, hvg, eg⟩ := hF.get 22 234 (by as_aux_lemma => kernel_rfl) (by as_aux_lemma => kernel_rfl)
          obtain rfl : vg = _ := hvg _ (Ok.refl _)
          refine wpOp_runG (v := .pointer (some ⟨G, 0, none⟩)) rfl (wanted_yes rfl (by as_aux_lemma => kernel_rfl) eg) ?_ (fun _ _ => rfl) (Ok.refl _)
          clear hF
          go_simp
        · intro a' w' hF hR
          obtain ⟨v24, hv24, e236⟩ := hF.get 24 236 (by as_aux_lemma => kernel_rfl) (by as_aux_lemma => kernel_rfl)
          obtain rfl : v24 = _ := hv24 _ (Ok.refl _)
          obtain ⟨vg, hvg, eg⟩ := hF.get 22 234 (by as_aux_lemma => kernel_rfl) (by as_aux_lemma => kernel_rfl)
          obtain rfl : vg = _ := hvg _ (Ok.refl _)
          refine wpOp_runG (v := .pointer (some ⟨G, 0, none⟩)) rfl (wanted_yes rfl (by as_aux_lemma => kernel_rfl) eg) ?_ (fun _ _ => rfl) (Ok.refl _)
          clear hF
          go_simp
        · intro a' w' hF hR
          obtain ⟨v25, hv25, e237⟩ := hF.get 25 237 (by as_aux_lemma => kernel_rfl) (by as_aux_lemma => kernel_rfl)
          obtain rfl : v25 = _ := hv25 _ (Ok.refl _)
          obtain ⟨vg, hvg, eg⟩ := hF.get 22 234 (by as_aux_lemma => kernel_rfl) (by as_aux_lemma => kernel_rfl)
          obtain rfl : vg = _ := hvg _ (Ok.refl _)
          refine wpOp_runG (v := .pointer (some ⟨G, 12, none⟩)) rfl (wanted_yes rfl (by as_aux_lemma => kernel_rfl) eg) ?_ (fun _ _ => rfl) (Ok.refl _)
          clear hF
          go_simp
        · intro a' w' hF hR
          obtain ⟨v26, hv26, e238⟩ := hF.get 26 238 (by as_aux_lemma => kernel_rfl) (by as_aux_lemma => kernel_rfl)
          obtain rfl : v26 = _ := hv26 _ (Ok.refl _)
          obtain ⟨vg, hvg, eg⟩ := hF.get 22 234 (by as_aux_lemma => kernel_rfl) (by as_aux_lemma => kernel_rfl)
          obtain rfl : vg = _ := hvg _ (Ok.refl _)
          refine wpOp_runG (v := .pointer (some ⟨G, 17, none⟩)) rfl (wanted_yes rfl (by as_aux_lemma => kernel_rfl) eg) ?_ (fun _ _ => rfl) (Ok.refl _)
          clear hF
          go_simp
        · intro a' w' hF hR
          obtain ⟨v27, hv27, e239⟩ := hF.get 27 239 (by as_aux_lemma => kernel_rfl) (by as_aux_lemma => kernel_rfl)
          obtain rfl : v27 = _ := hv27 _ (Ok.refl _)
          obtain ⟨vg, hvg, eg⟩ := hF.get 22 234 (by as_aux_lemma => kernel_rfl) (by as_aux_lemma => kernel_rfl)
          obtain rfl : vg = _ := hvg _ (Ok.refl _)
          obtain ⟨hGl, g16, g17, g18⟩ := HG.out _ hR
          refine wpOp_runG (v := .int .i64 0) rfl (wanted_yes rfl (by as_aux_lemma => kernel_rfl) eg) ?_ (fun _ _ => rfl) (Ok.refl _)
          clear hF
          go_simp
        · intro a' w' hF hR
          obtain ⟨v28, hv28, e240⟩ := hF.get 28 240 (by as_aux_lemma => kernel_rfl) (by as_aux_lemma => kernel_rfl)
          obtain rfl : v28 = _ := hv28 _ (Ok.refl _)
          obtain ⟨vg, hvg, eg⟩ := hF.get 22 234 (by as_aux_lemma => kernel_rfl) (by as_aux_lemma => kernel_rfl)
          obtain rfl : vg = _ := hvg _ (Ok.refl _)
          refine wpOp_runG (v := .bool true) rfl (wanted_yes rfl (by as_aux_lemma => kernel_rfl) eg) ?_ (fun _ _ => rfl) (Ok.refl _)
          clear hF
          go_simp
        · intro a' w' hF hR
          obtain ⟨v22, hv22, e234⟩ := hF.get 22 234 (by as_aux_lemma => kernel_rfl) (by as_aux_lemma => kernel_rfl)
          obtain rfl : v22 = _ := hv22 _ (Ok.refl _)
          obtain ⟨v29, hv29, e241⟩ := hF.get 29 241 (by as_aux_lemma => kernel_rfl) (by as_aux_lemma => kernel_rfl)
          obtain rfl : v29 = _ := hv29 _ (Ok.refl _)
          refine wpOp_run (v := .bool true) rfl rfl ?_ (fun _ _ => rfl) (Ok.refl _)
          clear hF
          go_simp
        · intro a' w' hF hR
          obtain ⟨v30, hv30, e242⟩ := hF.get 30 242 (by as_aux_lemma => kernel_rfl) (by as_aux_lemma => kernel_rfl)
          obtain rfl : v30 = _ := hv30 _ (Ok.refl _)
          refine wpOp_run (v := .bool true) rfl rfl ?_ (fun _ _ => rfl) (Ok.refl _)
          clear hF
          go_simp
        · intro a' w' hF hR
          have e22 : a'.tmps[22]? = some (.pointer (some ⟨G, 0, none⟩)) := hF.slot 22 (by as_aux_lemma => kernel_rfl) rfl
          obtain ⟨vg, hvg, eg⟩ := hF.get 31 243 (by as_aux_lemma => kernel_rfl) (by as_aux_lemma => kernel_rfl)
          obtain rfl : vg = _ := hvg _ (Ok.refl _)
          refine wpOp_runG (v := .pointer (some ⟨G, 0, none⟩)) rfl (wanted_yes rfl (by as_aux_lemma => kernel_rfl) eg) ?_ (fun _ _ => rfl) (Ok.refl _)
          clear hF
          go_simp
        · intro a' w' hF hR
          obtain ⟨v32, hv32, e244⟩ := hF.get 32 244 (by as_aux_lemma => kernel_rfl) (by as_aux_lemma => kernel_rfl)
          obtain rfl : v32 = _ := hv32 _ (Ok.refl _)
          obtain ⟨vg, hvg, eg⟩ := hF.get 31 243 (by as_aux_lemma => kernel_rfl) (by as_aux_lemma => kernel_rfl)
          obtain rfl : vg = _ := hvg _ (Ok.refl _)
          refine wpOp_runG (v := .pointer (some ⟨G, 0, none⟩)) rfl (wanted_yes rfl (by as_aux_lemma => kernel_rfl) eg) ?_ (fun _ _ => rfl) (Ok.refl _)
          clear hF
          go_simp
        · intro a' w' hF hR
          obtain ⟨v33, hv33, e245⟩ := hF.get 33 245 (by as_aux_lemma => kernel_rfl) (by as_aux_lemma => kernel_rfl)
          obtain rfl : v33 = _ := hv33 _ (Ok.refl _)
          obtain ⟨vg, hvg, eg⟩ := hF.get 31 243 (by as_aux_lemma => kernel_rfl) (by as_aux_lemma => kernel_rfl)
          obtain rfl : vg = _ := hvg _ (Ok.refl _)
          refine wpOp_runG (v := .pointer (some ⟨G, 0, none⟩)) rfl (wanted_yes rfl (by as_aux_lemma => kernel_rfl) eg) ?_ (fun _ _ => rfl) (Ok.refl _)
          clear hF
          go_simp
        · intro a' w' hF hR
          obtain ⟨v34, hv34, e246⟩ := hF.get 34 246 (by as_aux_lemma => kernel_rfl) (by as_aux_lemma => kernel_rfl)
          obtain rfl : v34 = _ := hv34 _ (Ok.refl _)
          obtain ⟨vg, hvg, eg⟩ := hF.get 31 243 (by as_aux_lemma => kernel_rfl) (by as_aux_lemma => kernel_rfl)
          obtain rfl : vg = _ := hvg _ (Ok.refl _)
          refine wpOp_runG (v := .pointer (some ⟨G, 12, none⟩)) rfl (wanted_yes rfl (by as_aux_lemma => kernel_rfl) eg) ?_ (fun _ _ => rfl) (Ok.refl _)
          clear hF
          go_simp
        · intro a' w' hF hR
          obtain ⟨v35, hv35, e247⟩ := hF.get 35 247 (by as_aux_lemma => kernel_rfl) (by as_aux_lemma => kernel_rfl)
          obtain rfl : v35 = _ := hv35 _ (Ok.refl _)
          obtain ⟨vg, hvg, eg⟩ := hF.get 31 243 (by as_aux_lemma => kernel_rfl) (by as_aux_lemma => kernel_rfl)
          obtain rfl : vg = _ := hvg _ (Ok.refl _)
          refine wpOp_runG (v := .pointer (some ⟨G, 18, none⟩)) rfl (wanted_yes rfl (by as_aux_lemma => kernel_rfl) eg) ?_ (fun _ _ => rfl) (Ok.refl _)
          clear hF
          go_simp
        · intro a' w' hF hR
          obtain ⟨v36, hv36, e248⟩ := hF.get 36 248 (by as_aux_lemma => kernel_rfl) (by as_aux_lemma => kernel_rfl)
          obtain rfl : v36 = _ := hv36 _ (Ok.refl _)
          obtain ⟨vg, hvg, eg⟩ := hF.get 31 243 (by as_aux_lemma => kernel_rfl) (by as_aux_lemma => kernel_rfl)
          obtain rfl : vg = _ := hvg _ (Ok.refl _)
          obtain ⟨hGl, g16, g17, g18⟩ := HG.out _ hR
          refine wpOp_runG (v := .bool true) rfl (wanted_yes rfl (by as_aux_lemma => kernel_rfl) eg) ?_ (fun _ _ => rfl) (Ok.refl _)
          clear hF
          go_simp
        · intro a' w' hF hR
          obtain ⟨v31, hv31, e243⟩ := hF.get 31 243 (by as_aux_lemma => kernel_rfl) (by as_aux_lemma => kernel_rfl)
          obtain rfl : v31 = _ := hv31 _ (Ok.refl _)
          obtain ⟨v37, hv37, e249⟩ := hF.get 37 249 (by as_aux_lemma => kernel_rfl) (by as_aux_lemma => kernel_rfl)
          obtain rfl : v37 = _ := hv37 _ (Ok.refl _)
          refine wpOp_run (v := .bool true) rfl rfl ?_ (fun _ _ => rfl) (Ok.refl _)
          clear hF
          go_simp
        · intro a' w' hF hR
          obtain ⟨v38, hv38, e250⟩ := hF.get 38 250 (by as_aux_lemma => kernel_rfl) (by as_aux_lemma => kernel_rfl)
          obtain rfl : v38 = _ := hv38 _ (Ok.refl _)
          refine wpOp_run (v := .bool true) rfl rfl ?_ (fun _ _ => rfl) (Ok.refl _)
          clear hF
          go_simp
        · intro a' w' hF hR
          have e15 : a'.tmps[15]? = some (.int .i64 le) := hF.slot 15 (by as_aux_lemma => kernel_rfl) rfl
          obtain ⟨vg, hvg, eg⟩ := hF.get 39 251 (by as_aux_lemma => kernel_rfl) (by as_aux_lemma => kernel_rfl)
          obtain rfl : vg = _ := hvg _ (Ok.refl _)
          refine wpOp_runG (v := .int .i64 le) rfl (wanted_yes rfl (by as_aux_lemma => kernel_rfl) eg) ?_ (fun _ _ => rfl) (Ok.refl _)
          clear hF
          go_simp
        · intro a' w' hF hR
          obtain ⟨v40, hv40, e252⟩ := hF.get 40 252 (by as_aux_lemma => kernel_rfl) (by as_aux_lemma => kernel_rfl)
          obtain rfl : v40 = _ := hv40 _ (Ok.refl _)
          obtain ⟨vg, hvg, eg⟩ := hF.get 39 251 (by as_aux_lemma => kernel_rfl) (by as_aux_lemma => kernel_rfl)
          obtain rfl : vg = _ := hvg _ (Ok.refl _)
          obtain ⟨hw2, hw3, hw4, hw5⟩ := HWW.out
          refine wpOp_runG (v := .int .i64 (le + 1)) rfl (wanted_yes rfl (by as_aux_lemma => kernel_rfl) eg) ?_ (fun _ _ => rfl) (Ok.refl _)
          clear hF
          go_simp
        · intro a' w' hF hR
          have e22 : a'.tmps[22]? = some (.pointer (some ⟨G, 0, none⟩)) := hF.slot 22 (by as_aux_lemma => kernel_rfl) rfl
          obtain ⟨vg, hvg, eg⟩ := hF.get 39 251 (by as_aux_lemma => kernel_rfl) (by as_aux_lemma => kernel_rfl)
          obtain rfl : vg = _ := hvg _ (Ok.refl _)
          refine wpOp_runG (v := .pointer (some ⟨G, 0, none⟩)) rfl (wanted_yes rfl (by as_aux_lemma => kernel_rfl) eg) ?_ (fun _ _ => rfl) (Ok.refl _)
          clear hF
          go_simp
        · intro a' w' hF hR
          obtain ⟨v42, hv42, e254⟩ := hF.get 42 254 (by as_aux_lemma => kernel_rfl) (by as_aux_lemma => kernel_rfl)
          obtain rfl : v42 = _ := hv42 _ (Ok.refl _)
          obtain ⟨vg, hvg, eg⟩ := hF.get 39 251 (by as_aux_lemma => kernel_rfl) (by as_aux_lemma => kernel_rfl)
          obtain rfl : vg = _ := hvg _ (Ok.refl _)
          refine wpOp_runG (v := .pointer (some ⟨G, 0, none⟩)) rfl (wanted_yes rfl (by as_aux_lemma => kernel_rfl) eg) ?_ (fun _ _ => rfl) (Ok.refl _)
          clear hF
          go_simp
        · intro a' w' hF hR
          obtain ⟨v43, hv43, e255⟩ := hF.get 43 255 (by as_aux_lemma => kernel_rfl) (by as_aux_lemma => kernel_rfl)
          obtain rfl : v43 = _ := hv43 _ (Ok.refl _)
          obtain ⟨vg, hvg, eg⟩ := hF.get 39 251 (by as_aux_lemma => kernel_rfl) (by as_aux_lemma => kernel_rfl)
          obtain rfl : vg = _ := hvg _ (Ok.refl _)
          refine wpOp_runG (v := .pointer (some ⟨G, 0, none⟩)) rfl (wanted_yes rfl (by as_aux_lemma => kernel_rfl) eg) ?_ (fun _ _ => rfl) (Ok.refl _)
          clear hF
          go_simp
        · intro a' w' hF hR
          obtain ⟨v44, hv44, e256⟩ := hF.get 44 256 (by as_aux_lemma => kernel_rfl) (by as_aux_lemma => kernel_rfl)
          obtain rfl : v44 = _ := hv44 _ (Ok.refl _)
          obtain ⟨vg, hvg, eg⟩ := hF.get 39 251 (by as_aux_lemma => kernel_rfl) (by as_aux_lemma => kernel_rfl)
          obtain rfl : vg = _ := hvg _ (Ok.refl _)
          refine wpOp_runG (v := .pointer (some ⟨G, 12, none⟩)) rfl (wanted_yes rfl (by as_aux_lemma => kernel_rfl) eg) ?_ (fun _ _ => rfl) (Ok.refl _)
          clear hF
          go_simp
        · intro a' w' hF hR
          obtain ⟨v45, hv45, e257⟩ := hF.get 45 257 (by as_aux_lemma => kernel_rfl) (by as_aux_lemma => kernel_rfl)
          obtain rfl : v45 = _ := hv45 _ (Ok.refl _)
          obtain ⟨vg, hvg, eg⟩ := hF.get 39 251 (by as_aux_lemma => kernel_rfl) (by as_aux_lemma => kernel_rfl)
          obtain rfl : vg = _ := hvg _ (Ok.refl _)
          refine wpOp_runG (v := .pointer (some ⟨G, 16, none⟩)) rfl (wanted_yes rfl (by as_aux_lemma => kernel_rfl) eg) ?_ (fun _ _ => rfl) (Ok.refl _)
          clear hF
          go_simp
        · intro a' w' hF hR
          obtain ⟨v46, hv46, e258⟩ := hF.get 46 258 (by as_aux_lemma => kernel_rfl) (by as_aux_lemma => kernel_rfl)
          obtain rfl : v46 = _ := hv46 _ (Ok.refl _)
          obtain ⟨vg, hvg, eg⟩ := hF.get 39 251 (by as_aux_lemma => kernel_rfl) (by as_aux_lemma => kernel_rfl)
          obtain rfl : vg = _ := hvg _ (Ok.refl _)
          obtain ⟨hGl, g16, g17, g18⟩ := HG.out _ hR
          refine wpOp_runG (v := .int .i64 hd) rfl (wanted_yes rfl (by as_aux_lemma => kernel_rfl) eg) ?_ (fun _ _ => rfl) (Ok.refl _)
          clear hF
          go_simp
        · intro a' w' hF hR
          obtain ⟨v41, hv41, e253⟩ := hF.get 41 253 (by as_aux_lemma => kernel_rfl) (by as_aux_lemma => kernel_rfl)
          obtain rfl : v41 = _ := hv41 _ (Ok.refl _)
          obtain ⟨v47, hv47, e259⟩ := hF.get 47 259 (by as_aux_lemma => kernel_rfl) (by as_aux_lemma => kernel_rfl)
          obtain rfl : v47 = _ := hv47 _ (Ok.refl _)
          obtain ⟨vg, hvg, eg⟩ := hF.get 39 251 (by as_aux_lemma => kernel_rfl) (by as_aux_lemma => kernel_rfl)
          obtain rfl : vg = _ := hvg _ (Ok.refl _)
          obtain ⟨r1, r2, r3, r4, r5⟩ := HRR.out
          refine wpOp_runG (v := .bool true) rfl (wanted_yes rfl (by as_aux_lemma => kernel_rfl) eg) ?_ (fun _ _ => rfl) (Ok.refl _)
          clear hF
          go_simp
        · intro a' w' hF hR
          obtain ⟨v39, hv39, e251⟩ := hF.get 39 251 (by as_aux_lemma => kernel_rfl) (by as_aux_lemma => kernel_rfl)
          obtain rfl : v39 = _ := hv39 _ (Ok.refl _)
          obtain ⟨v48, hv48, e260⟩ := hF.get 48 260 (by as_aux_lemma => kernel_rfl) (by as_aux_lemma => kernel_rfl)
          obtain rfl : v48 = _ := hv48 _ (Ok.refl _)
          refine wpOp_run (v := .bool true) rfl rfl ?_ (fun _ _ => rfl) (Ok.refl _)
          clear hF
          go_simp
        · intro a' w' hF hR
          obtain ⟨v49, hv49, e261⟩ := hF.get 49 261 (by as_aux_lemma => kernel_rfl) (by as_aux_lemma => kernel_rfl)
          obtain rfl : v49 = _ := hv49 _ (Ok.refl _)
          refine wpOp_run (v := .bool true) rfl rfl ?_ (fun _ _ => rfl) (Ok.refl _)
          clear hF
          go_simp
        · intro a' w' hF hR
          have e22 : a'.tmps[22]? = some (.pointer (some ⟨G, 0, none⟩)) := hF.slot 22 (by as_aux_lemma => kernel_rfl) rfl
          obtain ⟨vg, hvg, eg⟩ := hF.get 50 262 (by as_aux_lemma => kernel_rfl) (by as_aux_lemma => kernel_rfl)
          obtain rfl : vg = _ := hvg _ (Ok.refl _)
          refine wpOp_runG (v := .pointer (some ⟨G, 0, none⟩)) rfl (wanted_yes rfl (by as_aux_lemma => kernel_rfl) eg) ?_ (fun _ _ => rfl) (Ok.refl _)
          clear hF
          go_simp
        · intro a' w' hF hR
          obtain ⟨v51, hv51, e263⟩ := hF.get 51 263 (by as_aux_lemma => kernel_rfl) (by as_aux_lemma => kernel_rfl)
          obtain rfl : v51 = _ := hv51 _ (Ok.refl _)
          obtain ⟨vg, hvg, eg⟩ := hF.get 50 262 (by as_aux_lemma => kernel_rfl) (by as_aux_lemma => kernel_rfl)
          obtain rfl : vg = _ := hvg _ (Ok.refl _)
          refine wpOp_runG (v := .pointer (some ⟨G, 0, none⟩)) rfl (wanted_yes rfl (by as_aux_lemma => kernel_rfl) eg) ?_ (fun _ _ => rfl) (Ok.refl _)
          clear hF
          go_simp
        · intro a' w' hF hR
          obtain ⟨v52, hv52, e264⟩ := hF.get 52 264 (by as_aux_lemma => kernel_rfl) (by as_aux_lemma => kernel_rfl)
          obtain rfl : v52 = _ := hv52 _ (Ok.refl _)
          obtain ⟨vg, hvg, eg⟩ := hF.get 50 262 (by as_aux_lemma => kernel_rfl) (by as_aux_lemma => kernel_rfl)
          obtain rfl : vg = _ := hvg _ (Ok.refl _)
          refine wpOp_runG (v := .pointer (some ⟨G, 0, none⟩)) rfl (wanted_yes rfl (by as_aux_lemma => kernel_rfl) eg) ?_ (fun _ _ => rfl) (Ok.refl _)
          clear hF
          go_simp
        · intro a' w' hF hR
          obtain ⟨v53, hv53, e265⟩ := hF.get 53 265 (by as_aux_lemma => kernel_rfl) (by as_aux_lemma => kernel_rfl)
          obtain rfl : v53 = _ := hv53 _ (Ok.refl _)
          obtain ⟨vg, hvg, eg⟩ := hF.get 50 262 (by as_aux_lemma => kernel_rfl) (by as_aux_lemma => kernel_rfl)
          obtain rfl : vg = _ := hvg _ (Ok.refl _)
          refine wpOp_runG (v := .pointer (some ⟨G, 12, none⟩)) rfl (wanted_yes rfl (by as_aux_lemma => kernel_rfl) eg) ?_ (fun _ _ => rfl) (Ok.refl _)
          clear hF
          go_simp
        · intro a' w' hF hR
          obtain ⟨v54, hv54, e266⟩ := hF.get 54 266 (by as_aux_lemma => kernel_rfl) (by as_aux_lemma => kernel_rfl)
          obtain rfl : v54 = _ := hv54 _ (Ok.refl _)
          obtain ⟨vg, hvg, eg⟩ := hF.get 50 262 (by as_aux_lemma => kernel_rfl) (by as_aux_lemma => kernel_rfl)
          obtain rfl : vg = _ := hvg _ (Ok.refl _)
          refine wpOp_runG (v := .pointer (some ⟨G, 16, none⟩)) rfl (wanted_yes rfl (by as_aux_lemma => kernel_rfl) eg) ?_ (fun _ _ => rfl) (Ok.refl _)
          clear hF
          go_simp
        · intro a' w' hF hR
          obtain ⟨v55, hv55, e267⟩ := hF.get 55 267 (by as_aux_lemma => kernel_rfl) (by as_aux_lemma => kernel_rfl)
          obtain rfl : v55 = _ := hv55 _ (Ok.refl _)
          obtain ⟨vg, hvg, eg⟩ := hF.get 50 262 (by as_aux_lemma => kernel_rfl) (by as_aux_lemma => kernel_rfl)
          obtain rfl : vg = _ := hvg _ (Ok.refl _)
          obtain ⟨hGl, g16, g17, g18⟩ := HG.out _ hR
          refine wpOp_runG (v := .int .i64 hd) rfl (wanted_yes rfl (by as_aux_lemma => kernel_rfl) eg) ?_ (fun _ _ => rfl) (Ok.refl _)
          clear hF
          go_simp
        · intro a' w' hF hR
          have e16 : a'.tmps[16]? = some (.int .i64 gr) := hF.slot 16 (by as_aux_lemma => kernel_rfl) rfl
          obtain ⟨vg, hvg, eg⟩ := hF.get 50 262 (by as_aux_lemma => kernel_rfl) (by as_aux_lemma => kernel_rfl)
          obtain rfl : vg = _ := hvg _ (Ok.refl _)
          refine wpOp_runG (v := .int .i64 gr) rfl (wanted_yes rfl (by as_aux_lemma => kernel_rfl) eg) ?_ (fun _ _ => rfl) (Ok.refl _)
          clear hF
          go_simp
        · intro a' w' hF hR
          obtain ⟨v57, hv57, e269⟩ := hF.get 57 269 (by as_aux_lemma => kernel_rfl) (by as_aux_lemma => kernel_rfl)
          obtain rfl : v57 = _ := hv57 _ (Ok.refl _)
          obtain ⟨vg, hvg, eg⟩ := hF.get 50 262 (by as_aux_lemma => kernel_rfl) (by as_aux_lemma => kernel_rfl)
          obtain rfl : vg = _ := hvg _ (Ok.refl _)
          obtain ⟨hw2, hw3, hw4, hw5⟩ := HWW.out
          refine wpOp_runG (v := .int .i64 (gr + 1)) rfl (wanted_yes rfl (by as_aux_lemma => kernel_rfl) eg) ?_ (fun _ _ => rfl) (Ok.refl _)
          clear hF
          go_simp
        · intro a' w' hF hR
          obtain ⟨v56, hv56, e268⟩ := hF.get 56 268 (by as_aux_lemma => kernel_rfl) (by as_aux_lemma => kernel_rfl)
          obtain rfl : v56 = _ := hv56 _ (Ok.refl _)
          obtain ⟨v58, hv58, e270⟩ := hF.get 58 270 (by as_aux_lemma => kernel_rfl) (by as_aux_lemma => kernel_rfl)
          obtain rfl : v58 = _ := hv58 _ (Ok.refl _)
          obtain ⟨vg, hvg, eg⟩ := hF.get 50 262 (by as_aux_lemma => kernel_rfl) (by as_aux_lemma => kernel_rfl)
          obtain rfl : vg = _ := hvg _ (Ok.refl _)
          obtain ⟨r1, r2, r3, r4, r5⟩ := HRR.out
          refine wpOp_runG (v := .bool true) rfl (wanted_yes rfl (by as_aux_lemma => kernel_rfl) eg) ?_ (fun _ _ => rfl) (Ok.refl _)
          clear hF
          go_simp
        · intro a' w' hF hR
          obtain ⟨v50, hv50, e262⟩ := hF.get 50 262 (by as_aux_lemma => kernel_rfl) (by as_aux_lemma => kernel_rfl)
          obtain rfl : v50 = _ := hv50 _ (Ok.refl _)
          obtain ⟨v59, hv59, e271⟩ := hF.get 59 271 (by as_aux_lemma => kernel_rfl) (by as_aux_lemma => kernel_rfl)
          obtain rfl : v59 = _ := hv59 _ (Ok.refl _)
          refine wpOp_run (v := .bool true) rfl rfl ?_ (fun _ _ => rfl) (Ok.refl _)
          clear hF
          go_simp
        · intro a' w' hF hR
          obtain ⟨v60, hv60, e272⟩ := hF.get 60 272 (by as_aux_lemma => kernel_rfl) (by as_aux_lemma => kernel_rfl)
          obtain rfl : v60 = _ := hv60 _ (Ok.refl _)
          refine wpOp_run (v := .bool true) rfl rfl ?_ (fun _ _ => rfl) (Ok.refl _)
          clear hF
          go_simp
        · intro a' w' hF hR
          have e23 : a'.tmps[23]? = some (.pointer (some ⟨MB, 0, none⟩)) := hF.slot 23 (by as_aux_lemma => kernel_rfl) rfl
          obtain ⟨vg, hvg, eg⟩ := hF.get 61 273 (by as_aux_lemma => kernel_rfl) (by as_aux_lemma => kernel_rfl)
          obtain rfl : vg = _ := hvg _ (Ok.refl _)
          refine wpOp_runG (v := .pointer (some ⟨MB, 2, none⟩)) rfl (wanted_yes rfl (by as_aux_lemma => kernel_rfl) eg) ?_ (fun _ _ => rfl) (Ok.refl _)
          clear hF
          go_simp
        · intro a' w' hF hR
          obtain ⟨v62, hv62, e274⟩ := hF.get 62 274 (by as_aux_lemma => kernel_rfl) (by as_aux_lemma => kernel_rfl)
          obtain rfl : v62 = _ := hv62 _ (Ok.refl _)
          obtain ⟨vg, hvg, eg⟩ := hF.get 61 273 (by as_aux_lemma => kernel_rfl) (by as_aux_lemma => kernel_rfl)
          obtain rfl : vg = _ := hvg _ (Ok.refl _)
          have m0 := (HM.out _ hR).cell 0 rfl
          have m1 := (HM.out _ hR).cell 1 rfl
          have m2 := (HM.out _ hR).cell 2 rfl
          have m3 := (HM.out _ hR).cell 3 rfl
          have hMl := (HM.out _ hR).lt
          refine wpOp_runG (v := .agg #[.int .i64 lo, .int .i64 hi]) rfl (wanted_yes rfl (by as_aux_lemma => kernel_rfl) eg) ?_ (fun _ _ => rfl) (Ok.refl _)
          clear hF
          go_simp
        · intro a' w' hF hR
          have e25 : a'.tmps[25]? = some (.pointer (some ⟨X, 0, none⟩)) := hF.slot 25 (by as_aux_lemma => kernel_rfl) rfl
          obtain ⟨vg, hvg, eg⟩ := hF.get 61 273 (by as_aux_lemma => kernel_rfl) (by as_aux_lemma => kernel_rfl)
          obtain rfl : vg = _ := hvg _ (Ok.refl _)
          have s0 := (HX.out _ hR).cell 0 rfl
          have s1 := (HX.out _ hR).cell 1 rfl
          have hXl := (HX.out _ hR).lt
          refine wpOp_runG (v := .agg #[.int .i64 lo, .int .i64 hi]) rfl (wanted_yes rfl (by as_aux_lemma => kernel_rfl) eg) ?_ (fun _ _ => rfl) (Ok.refl _)
          clear hF
          go_simp
        · intro a' w' hF hR
          obtain ⟨v63, hv63, e275⟩ := hF.get 63 275 (by as_aux_lemma => kernel_rfl) (by as_aux_lemma => kernel_rfl)
          obtain rfl : v63 = _ := hv63 _ (Ok.refl _)
          obtain ⟨v64, hv64, e276⟩ := hF.get 64 276 (by as_aux_lemma => kernel_rfl) (by as_aux_lemma => kernel_rfl)
          obtain rfl : v64 = _ := hv64 _ (Ok.refl _)
          obtain ⟨vg, hvg, eg⟩ := hF.get 61 273 (by as_aux_lemma => kernel_rfl) (by as_aux_lemma => kernel_rfl)
          obtain rfl : vg = _ := hvg _ (Ok.refl _)
          have hE := eqSpan21
          refine wpOp_runG (v := .bool true) rfl (wanted_yes rfl (by as_aux_lemma => kernel_rfl) eg) ?_ (fun _ _ => rfl) (Ok.refl _)
          clear hF
          go_simp
        · intro a' w' hF hR
          obtain ⟨v61, hv61, e273⟩ := hF.get 61 273 (by as_aux_lemma => kernel_rfl) (by as_aux_lemma => kernel_rfl)
          obtain rfl : v61 = _ := hv61 _ (Ok.refl _)
          obtain ⟨v65, hv65, e277⟩ := hF.get 65 277 (by as_aux_lemma => kernel_rfl) (by as_aux_lemma => kernel_rfl)
          obtain rfl : v65 = _ := hv65 _ (Ok.refl _)
          refine wpOp_run (v := .bool true) rfl rfl ?_ (fun _ _ => rfl) (Ok.refl _)
          clear hF
          go_simp
        · intro a' w' hF hR
          obtain ⟨v66, hv66, e278⟩ := hF.get 66 278 (by as_aux_lemma => kernel_rfl) (by as_aux_lemma => kernel_rfl)
          obtain rfl : v66 = _ := hv66 _ (Ok.refl _)
          refine wpOp_run (v := .bool true) rfl rfl ?_ (fun _ _ => rfl) (Ok.refl _)
          clear hF
          go_simp
        · intro a' w' hF hR
          have e23 : a'.tmps[23]? = some (.pointer (some ⟨MB, 0, none⟩)) := hF.slot 23 (by as_aux_lemma => kernel_rfl) rfl
          obtain ⟨vg, hvg, eg⟩ := hF.get 67 279 (by as_aux_lemma => kernel_rfl) (by as_aux_lemma => kernel_rfl)
          obtain rfl : vg = _ := hvg _ (Ok.refl _)
          refine wpOp_runG (v := .pointer (some ⟨MB, 0, none⟩)) rfl (wanted_yes rfl (by as_aux_lemma => kernel_rfl) eg) ?_ (fun _ _ => rfl) (Ok.refl _)
          clear hF
          go_simp
        · intro a' w' hF hR
          obtain ⟨v68, hv68, e280⟩ := hF.get 68 280 (by as_aux_lemma => kernel_rfl) (by as_aux_lemma => kernel_rfl)
          obtain rfl : v68 = _ := hv68 _ (Ok.refl _)
          obtain ⟨vg, hvg, eg⟩ := hF.get 67 279 (by as_aux_lemma => kernel_rfl) (by as_aux_lemma => kernel_rfl)
          obtain rfl : vg = _ := hvg _ (Ok.refl _)
          have m0 := (HM.out _ hR).cell 0 rfl
          have m1 := (HM.out _ hR).cell 1 rfl
          have m2 := (HM.out _ hR).cell 2 rfl
          have m3 := (HM.out _ hR).cell 3 rfl
          have hMl := (HM.out _ hR).lt
          refine wpOp_runG (v := .int .i64 2) rfl (wanted_yes rfl (by as_aux_lemma => kernel_rfl) eg) ?_ (fun _ _ => rfl) (Ok.refl _)
          clear hF
          go_simp
        · intro a' w' hF hR
          obtain ⟨v69, hv69, e281⟩ := hF.get 69 281 (by as_aux_lemma => kernel_rfl) (by as_aux_lemma => kernel_rfl)
          obtain rfl : v69 = _ := hv69 _ (Ok.refl _)
          obtain ⟨vg, hvg, eg⟩ := hF.get 67 279 (by as_aux_lemma => kernel_rfl) (by as_aux_lemma => kernel_rfl)
          obtain rfl : vg = _ := hvg _ (Ok.refl _)
          refine wpOp_runG (v := .bool true) rfl (wanted_yes rfl (by as_aux_lemma => kernel_rfl) eg) ?_ (fun _ _ => rfl) (Ok.refl _)
          clear hF
          go_simp
        · intro a' w' hF hR
          obtain ⟨v67, hv67, e279⟩ := hF.get 67 279 (by as_aux_lemma => kernel_rfl) (by as_aux_lemma => kernel_rfl)
          obtain rfl : v67 = _ := hv67 _ (Ok.refl _)
          obtain ⟨v70, hv70, e282⟩ := hF.get 70 282 (by as_aux_lemma => kernel_rfl) (by as_aux_lemma => kernel_rfl)
          obtain rfl : v70 = _ := hv70 _ (Ok.refl _)
          refine wpOp_run (v := .bool true) rfl rfl ?_ (fun _ _ => rfl) (Ok.refl _)
          clear hF
          go_simp
        · intro a' w' hF hR
          obtain ⟨v71, hv71, e283⟩ := hF.get 71 283 (by as_aux_lemma => kernel_rfl) (by as_aux_lemma => kernel_rfl)
          obtain rfl : v71 = _ := hv71 _ (Ok.refl _)
          refine wpOp_run (v := .bool true) rfl rfl ?_ (fun _ _ => rfl) (Ok.refl _)
          clear hF
          go_simp
        · intro a' w' hF hR
          have e23 : a'.tmps[23]? = some (.pointer (some ⟨MB, 0, none⟩)) := hF.slot 23 (by as_aux_lemma => kernel_rfl) rfl
          obtain ⟨vg, hvg, eg⟩ := hF.get 72 284 (by as_aux_lemma => kernel_rfl) (by as_aux_lemma => kernel_rfl)
          obtain rfl : vg = _ := hvg _ (Ok.refl _)
          refine wpOp_runG (v := .pointer (some ⟨MB, 1, none⟩)) rfl (wanted_yes rfl (by as_aux_lemma => kernel_rfl) eg) ?_ (fun _ _ => rfl) (Ok.refl _)
          clear hF
          go_simp
        · intro a' w' hF hR
          obtain ⟨v73, hv73, e285⟩ := hF.get 73 285 (by as_aux_lemma => kernel_rfl) (by as_aux_lemma => kernel_rfl)
          obtain rfl : v73 = _ := hv73 _ (Ok.refl _)
          obtain ⟨vg, hvg, eg⟩ := hF.get 72 284 (by as_aux_lemma => kernel_rfl) (by as_aux_lemma => kernel_rfl)
          obtain rfl : vg = _ := hvg _ (Ok.refl _)
          have m0 := (HM.out _ hR).cell 0 rfl
          have m1 := (HM.out _ hR).cell 1 rfl
          have m2 := (HM.out _ hR).cell 2 rfl
          have m3 := (HM.out _ hR).cell 3 rfl
          have hMl := (HM.out _ hR).lt
          refine wpOp_runG (v := .int .i64 20) rfl (wanted_yes rfl (by as_aux_lemma => kernel_rfl) eg) ?_ (fun _ _ => rfl) (Ok.refl _)
          clear hF
          go_simp
        · intro a' w' hF hR
          obtain ⟨v74, hv74, e286⟩ := hF.get 74 286 (by as_aux_lemma => kernel_rfl) (by as_aux_lemma => kernel_rfl)
          obtain rfl : v74 = _ := hv74 _ (Ok.refl _)
          obtain ⟨vg, hvg, eg⟩ := hF.get 72 284 (by as_aux_lemma => kernel_rfl) (by as_aux_lemma => kernel_rfl)
          obtain rfl : vg = _ := hvg _ (Ok.refl _)
          refine wpOp_runG (v := .bool true) rfl (wanted_yes rfl (by as_aux_lemma => kernel_rfl) eg) ?_ (fun _ _ => rfl) (Ok.refl _)
          clear hF
          go_simp
        · intro a' w' hF hR
          obtain ⟨v72, hv72, e284⟩ := hF.get 72 284 (by as_aux_lemma => kernel_rfl) (by as_aux_lemma => kernel_rfl)
          obtain rfl : v72 = _ := hv72 _ (Ok.refl _)
          obtain ⟨v75, hv75, e287⟩ := hF.get 75 287 (by as_aux_lemma => kernel_rfl) (by as_aux_lemma => kernel_rfl)
          obtain rfl : v75 = _ := hv75 _ (Ok.refl _)
          refine wpOp_run (v := .bool true) rfl rfl ?_ (fun _ _ => rfl) (Ok.refl _)
          clear hF
          go_simp
        · intro a' w' hF hR
          obtain ⟨v76, hv76, e288⟩ := hF.get 76 288 (by as_aux_lemma => kernel_rfl) (by as_aux_lemma => kernel_rfl)
          obtain rfl : v76 = _ := hv76 _ (Ok.refl _)
          refine wpOp_run (v := .bool true) rfl rfl ?_ (fun _ _ => rfl) (Ok.refl _)
          clear hF
          go_simp
        intro vs W7 hvs hR
        have e77 : vs 77 = .bool true := hvs 77 (by decide) _ (Ok.refl _)
        have hok4 := HOK.out.trans ((Ok.refl W6).drew.trans hR)
        simp only [putFrom, e77]
        simp only [Act.put, List.setIfInBounds_toArray, List.set_cons_zero, List.set_cons_succ]
        clear hvs
        go_wp2
        go_ret
        exact ⟨rfl, hok4⟩
theorem walk (w : World) (hT0 : Pow w) (p : Par) (wp : ParWf p) (s : Sta) (A : Option Addr) (cap : Nat) (hA : PairsAt w A s.table) (hcs : s.table.length ≤ cap) (hms : cap ≤ maxLen) (ws : StaWf s) (now : Int) (wnow : (Lit.int .i64 now).wf = true) (T : Option Addr) (ts : List Tl) (cT : Nat) (hT : CellsAt w T (ts.flatMap tldcells)) (hlT : ts.length ≤ 9223372036854775807) (hwT : ∀ x ∈ ts, tldok x) (B : Option Addr) (l : List HA) (cB : Nat) (hB : HeardsAt w B l) (hlB : l.length ≤ cB) (hcB : cB ≤ maxLen) (hwB : ∀ x ∈ l, HWf x) (tk : Int) (wtk : (Lit.int .i64 tk).wf = true) :
    Calls Tryz.prog 4 #[parV p, staV s A cap, .int .i64 now, .slice T ts.length cT, .slice B l.length cB, .int .i64 tk] w fun e w' => e = .returned (.bool true) ∧ Below w.heap.size w w' :=
  walkF w hT0 p s A cap now T ts cT B l cB tk hA (Nat.le_trans hcs (Nat.le_trans hms (by decide))) hT hlT hB (Nat.le_trans hlB (Nat.le_trans hcB (by decide)))
theorem own : ownKnob Tryz.prog.godebug = none := by kernel_rfl
theorem laidOut : laidOutB Tryz.prog = true := by kernel_rfl
theorem laid_met (os : Os) : laidMet Tryz.prog Rows.nodeCoreRow.laid ((laidWorld os).forCall (fun _ _ => 0) ⟨#[], #[.agg #[.int .i64 0, .int .i64 0, .int .i64 0, .int .i64 0, .int .i64 0, .int .i64 0, .int .i64 0, .int .i64 0, .int .i64 0, .int .i64 0, .int .i64 0, .int .i64 0], .agg #[.int .i64 0, .int .i64 0, .int .i64 0, .bool false, .int .i64 0, .int .i64 0, .bool false, .slice none 0 0, .int .i64 0, .int .i64 0, .int .i64 0], .int .i64 0, .slice none 0 0, .slice none 0 0, .int .i64 0], []⟩).memory :=
  laidMet_of_run' 8 (by kernel_rfl) (by kernel_rfl)
theorem reads (os : Os) {H : Type} (enc : TypeId × Value → H) : ∃ places, DataW.whole enc Tryz.prog ((laidWorld os).forCall (fun _ _ => 0) ⟨#[], #[.agg #[.int .i64 0, .int .i64 0, .int .i64 0, .int .i64 0, .int .i64 0, .int .i64 0, .int .i64 0, .int .i64 0, .int .i64 0, .int .i64 0, .int .i64 0, .int .i64 0], .agg #[.int .i64 0, .int .i64 0, .int .i64 0, .bool false, .int .i64 0, .int .i64 0, .bool false, .slice none 0 0, .int .i64 0, .int .i64 0, .int .i64 0], .int .i64 0, .slice none 0 0, .slice none 0 0, .int .i64 0], []⟩).memory Tryz.f4.params.toList Rows.nodeCoreSpec.vars false (#[.agg #[.int .i64 0, .int .i64 0, .int .i64 0, .int .i64 0, .int .i64 0, .int .i64 0, .int .i64 0, .int .i64 0, .int .i64 0, .int .i64 0, .int .i64 0, .int .i64 0], .agg #[.int .i64 0, .int .i64 0, .int .i64 0, .bool false, .int .i64 0, .int .i64 0, .bool false, .slice none 0 0, .int .i64 0, .int .i64 0, .int .i64 0], .int .i64 0, .slice none 0 0, .slice none 0 0, .int .i64 0] : Array Value).toList 8 = some ([.agg [.lit (.int .i64 0), .lit (.int .i64 0), .lit (.int .i64 0), .lit (.int .i64 0), .lit (.int .i64 0), .lit (.int .i64 0), .lit (.int .i64 0), .lit (.int .i64 0), .lit (.int .i64 0), .lit (.int .i64 0), .lit (.int .i64 0), .lit (.int .i64 0)], .agg [.agg [.lit (.int .i64 0), .lit (.int .i64 0)], .lit (.int .i64 0), .lit (.bool false), .lit (.int .i64 0), .lit (.int .i64 0), .lit (.bool false), .nil, .agg [.lit (.int .i64 0), .lit (.int .i64 0)], .lit (.int .i64 0)], .lit (.int .i64 0), .nil, .nil, .lit (.int .i64 0)], [], places) :=
  ⟨[], by kernel_rfl⟩
set_option maxRecDepth 100000 in
theorem lifted (os : Os) (started : os.Started) (H : Type) (enc : TypeId × Value → H) (F : Stop.Interp) :
    ReturnsInHanded {} Tryz.checked os 4 .any ((OpenSpec.ofChange Rows.nodeCoreSpec).preRow enc Tryz.prog Tryz.f4 Rows.nodeCoreRow.domain false Rows.nodeCoreRow.laid) (((OpenSpec.ofChange Rows.nodeCoreSpec).at F).post enc Tryz.prog Tryz.f4 false true false false) := by
  obtain ⟨places, hx⟩ := reads os enc
  refine returnsInHanded_of_row (C := Tryz.checked) (s := OpenSpec.ofChange Rows.nodeCoreSpec) own started (by kernel_rfl) Tryz.func4
    (witness_row_at (enc := enc) (C := Tryz.checked) false (laidWorld os) #[.agg #[.int .i64 0, .int .i64 0, .int .i64 0, .int .i64 0, .int .i64 0, .int .i64 0, .int .i64 0, .int .i64 0, .int .i64 0, .int .i64 0, .int .i64 0, .int .i64 0], .agg #[.int .i64 0, .int .i64 0, .int .i64 0, .bool false, .int .i64 0, .int .i64 0, .bool false, .slice none 0 0, .int .i64 0, .int .i64 0, .int .i64 0], .int .i64 0, .slice none 0 0, .slice none 0 0, .int .i64 0] rfl (by kernel_rfl) (by kernel_rfl) (by kernel_rfl)
      (OpenSpec.preRow_of_cond 8 hx (by kernel_rfl) (fun k hk => by cases hk) (by kernel_rfl) (laid_met os))) ?_
  intro W base args ds gs before hval0 hW _ _ _ hL _ _
  have hval : ∀ (j : Nat) t v, Tryz.f4.params[j]? = some t → args[j]? = some v → Value.okWide Tryz.prog W .any base t v := hval0
  have hW' := hW
  obtain ⟨p, q, hA, hV, rfl, _, _⟩ := hW
  obtain ⟨rfl, rfl⟩ := trodVars_none hV
  replace hA : DataW.TrodAll enc Tryz.prog W 0 (fun _ => true) true Tryz.f4.params.toList args.toList ds p := hA
  rw [Tryz.params4] at hA hval
  obtain ⟨v0, vs0, d0, ds0, p0, q0, hargs, rfl, rfl, h0, r0⟩ := trodAll_cons hA
  obtain ⟨v1, vs1, d1, ds1, p1, q1, rfl, rfl, rfl, h1, r1⟩ := trodAll_cons r0
  obtain ⟨v2, vs2, d2, ds2, p2, q2, rfl, rfl, rfl, h2, r2⟩ := trodAll_cons r1
  obtain ⟨v3, vs3, d3, ds3, p3, q3, rfl, rfl, rfl, h3, r3⟩ := trodAll_cons r2
  obtain ⟨v4, vs4, d4, ds4, p4, q4, rfl, rfl, rfl, h4, r4⟩ := trodAll_cons r3
  obtain ⟨v5, vs5, d5, ds5, p5, q5, rfl, rfl, rfl, h5, r5⟩ := trodAll_cons r4
  obtain ⟨rfl, rfl, rfl⟩ := trodAll_nil r5
  obtain rfl : args = #[v0, v1, v2, v3, v4, v5] := by cases args; simp_all
  obtain ⟨p0, rfl, wp0⟩ := open_par Tryz.underlying23 rfl (by kernel_rfl) (by kernel_rfl) (by kernel_rfl) (hval 0 23 v0 rfl rfl) h0
  obtain ⟨s1, A1, c1, rfl, hA1, hc1, hm1, w1⟩ := open_sta (hval 1 30 v1 rfl rfl) h1
  obtain ⟨a2, rfl, rfl, rfl, w2⟩ := open_int Tryz.underlying3 (hval 2 3 v2 rfl rfl) h2
  obtain ⟨A3, l3, c3, rfl, hA3, hl3, hw3⟩ := open_slice_rows tldcells tldok tldkinds tldlen tldof (by decide) Tryz.underlying59 Tryz.underlying63 (by kernel_rfl) (by kernel_rfl) (by kernel_rfl) (hval 3 59 v3 rfl rfl) h3
  obtain ⟨A4, l4, c4, rfl, hA4, hl4, hc4, hw4⟩ := open_heards (hval 4 47 v4 rfl rfl) h4
  obtain ⟨a5, rfl, rfl, rfl, w5⟩ := open_int Tryz.underlying3 (hval 5 3 v5 rfl rfl) h5
  refine (walk W (tab_of hL) p0 wp0 s1 A1 c1 hA1 hc1 hm1 w1 a2 w2 A3 l3 c3 hA3 hl3 hw3 A4 l4 c4 hA4 hl4 hc4 hw4 a5 w5).mono fun e W' ⟨he, hb⟩ => ?_
  subst he
  exact ⟨_, rfl, law_post hW' laidOut (by rw [Tryz.params4]; exact params_ok (by kernel_rfl)) rfl (by kernel_rfl) Tryz.underlying4 rfl rfl rfl hb⟩
theorem said : Rows.NodeCoreSaid :=
  OpenClaim.holds_of_cond 4 Tryz.f4 rfl rfl rfl rfl rfl rfl rfl ⟨rfl, rfl, rfl, rfl, rfl⟩ rfl rfl rfl rfl rfl (by kernel_rfl) Tryz.func4 (by kernel_rfl)
    (of_decide_eq_true (by kernel_rfl)) (by unfold Func.isWrapper; first | (rw [if_pos (by decide +kernel)]; kernel_rfl) | (rw [if_neg (by decide +kernel)]; exact ⟨rfl, rfl⟩))
    (fun os started H enc _ F => by rw [OpenClaim.pre_eq_preRow]; exact lifted os started H enc F)
theorem plain (f : FuncId) (fn : Func) (hf : Tryz.pinned.checked.prog.funcNamed "clepsydra/clepsydralaw23.NodeCore" = some f) (hfn : Tryz.pinned.checked.prog.funcs[f]? = some fn) :
    false = Tryz.pinned.checked.prog.looks [] ∧ ∀ (j : Nat) t, fn.params[j]? = some t → Tryz.pinned.checked.prog.wantsStandIn t = false := by
  obtain rfl : f = 4 := Option.some.inj ((show Tryz.prog.funcNamed "clepsydra/clepsydralaw23.NodeCore" = some 4 by kernel_rfl).symm.trans hf) |>.symm
  obtain rfl : fn = Tryz.f4 := (Option.some.inj (Tryz.func4.symm.trans hfn)).symm
  refine ⟨by kernel_rfl, fun j t ht => ?_⟩
  have hall : (Tryz.f4.params.toList.all fun u => !Tryz.prog.wantsStandIn u) = true := by kernel_rfl
  have hm : t ∈ Tryz.f4.params.toList := Array.mem_toList_iff.2 (Array.mem_of_getElem? ht)
  exact (show Tryz.prog.wantsStandIn t = false by simpa using List.all_eq_true.1 hall t hm)
theorem proved : Rows.NodeCoreCardSaid :=
  Claim7.holds_tied_plain_at .later [] _ _ _ _ said (fun _ h => by cases h) (by kernel_rfl) (fun _ h => by cases h) nodeCore_row_tie rfl ⟨rfl, rfl⟩ (by kernel_rfl) rfl plain (by kernel_rfl)
end Go.Proofs.YtmokofblmkeloaaGreatDoor.nodeCore
