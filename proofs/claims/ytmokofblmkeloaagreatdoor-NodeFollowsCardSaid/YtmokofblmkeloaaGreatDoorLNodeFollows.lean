import Derived.Test.YtmokofblmkeloaaGreatDoorP48
import Derived.Test.YtmokofblmkeloaaGreatDoorC23h
import Derived.Test.YtmokofblmkeloaaGreatDoorB03
import Derived.Test.YtmokofblmkeloaaGreatDoorB06
import Derived.Test.YtmokofblmkeloaaGreatDoorB23
import Derived.Test.YtmokofblmkeloaaGreatDoorP26
import Derived.Test.YtmokofblmkeloaaGreatDoorP35
import Derived.Test.YtmokofblmkeloaaGreatDoorP30
import Derived.Test.YtmokofblmkeloaaGreatDoorW16
import Derived.Test.YtmokofblmkeloaaGreatDoorB00
import Derived.Test.YtmokofblmkeloaaGreatDoorB12
import Derived.Deep.CutRange
import Derived.BigQuiet
import Derived.BigGuardPart
namespace Go.Proofs.YtmokofblmkeloaaGreatDoor.nodeFollows
open Go.ChangeShapes Go.WideShapes Go.ChangeAt Go.RowKit
set_option linter.unusedVariables false
set_option maxRecDepth 100000
attribute [local go_sem ↓] Go.wp_at_zero Go.wp_at_succ
/-- The region k of a body. -/
def regAt (k : Nat) : Code → Option Code
  | .region i ops d => if i = k then some (.region i ops d) else none
  | .seq a b => match regAt k a with
    | some c => some c
    | none => regAt k b
  | .cond _ a b => match regAt k a with
    | some c => some c
    | none => regAt k b
  | .block _ c => regAt k c
  | .loop c => regAt k c
  | _ => none
noncomputable def Rcond3 : Code := (Tryz.f5.body.bind (regAt 3)).getD .skip
set_option maxHeartbeats 12800000 in
theorem cond3 (w : World) (Bp H : Nat) (p : Par) (s : Sta) (A : Option Addr) (cap : Nat) (now : Int) (T : Option Addr) (ts : List Tl) (cT : Nat) (HA0 : Option Addr) (hs : List Int) (cH : Nat) (err : Int) (lg : Bool) (W : World) {u0 u1 u8 u9 u10 u11 u12 u13 u14 u15 u16 u17 u18 u19 u20 u21 u22 u23 u24 u25 u26 u27 u28 u29 u30 u31 u32 u33 u34 u35 u36 u37 u38 u39 u40 u41 u42 u43 u44 u45 u46 u47 u48 u49 u50 u51 u52 u53 u54 u55 u56 u57 u58 u59 u60 u61 u62 u63 u64 u65 u66 u67 u68 u69 u70 u71 u72 u73 u74 u75 u76 u77 u78 u79 u80 u81 u82 u83 u84 u85 u86 u87 u88 u89 u90 u91 u92 u93 u94 u95 u96 u97 u98 u99 u100 u101 u102 u103 u104 u105 u106 u107 u108 u109 u110 u111 u112 u113 u114 u115 u116 u117 u118 u119 u120 u121 u122 u123 u124 u125 u126 u127 u128 u129 u130 u131 u132 u133 u134 u135 u136 u137 u138 u139 u140 u141 u142 u143 u144 u145 u146 u147 u148 u149 u150 u151 u152 u153 u154 u155 u156 u157 u158 u159 u160 u161 u162 u163 u164 u165 u166 u167 u168 u169 u170 u171 u172 u173 u174 u175 u176 u177 u178 u179 u180 u181 u182 u183 u184 u185 u186 u187 u188 u189 u190 u191 u192 u193 u194 u195 u196 u197 u198 u199 u200 u201 u202 u203 u204 u205 u206 u207 u208 u209 u210 u211 u212 u213 u214 u215 u216 u217 u218 u219 u220 u221 u222 u223 u224 u225 u226 u227 u228 u229 u230 u231 u232 u233 u234 u235 u236 u237 u238 u239 u240 u241 u242 u243 u244 u245 u246 u247 u248 u249 u250 u251 u252 u253 u254 u255 u256 u257 u258 u259 u260 u261 u262 u263 u264 u265 u266 u267 u268 u269 u270 u271 u272 u273 u274 u275 u276 u277 u278 u279 u280 u281 u282 u283 u284 u285 u286 u287 u288 u289 u290 u291 u292 u293 u294 u295 u296 u297 u298 u299 u300 u301 u302 u303 u304 u305 u306 u307 u308 u309 u310 u311 u312 u313 u314 u315 u316 u317 u318 u319 u320 : Value} {Q : Exit → Act → World → Prop} (hP : Own W Bp (parCells p)) (hS : Own W H (staCells s A cap)) (hok : Ok w W) (htl : ts.length ≤ 9223372036854775807) (hhl : hs.length ≤ 9223372036854775807) (KCH : Hid (∀ w, Calls Tryz.prog 19 #[parV p] w fun e w' => e = .returned (.int .i64 (Lim.check p)) ∧ Ok w w')) (KG : Hid (∀ (W' : World), Calls Tryz.prog 9 #[staV s A cap, .slice none 0 0] W' fun e w' => e = .returned (.bool lg) ∧ Ok W' w')) (hQ : ∀ (v25 v26 v27 v28 v29 v30 v31 v32 v33 v34 v35 v36 v37 v38 v39 v40 v41 v42 v43 v44 v45 v46 v47 v48 v49 v50 v51 v52 v53 v54 v55 v56 v57 v58 v59 v60 v61 v62 v63 v64 v65 v66 v67 v68 v69 v70 v71 v72 v73 v74 v75 v76 v77 : Value) (b : Bool) (wx : World), (b = false → (Lim.May p ∧ lg = false ∧ ¬ (1125899906842624 < now) ∧ ¬ (now < -1125899906842624) ∧ ¬ (12 < (ts.length : Int)) ∧ (hs.length : Int) = (ts.length : Int) ∧ ¬ (p.rho < err) ∧ ¬ (err < -p.rho) ∧ ¬ (now < s.lo) ∧ ¬ (s.hi < now))) → Own wx Bp (parCells p) → Own wx H (staCells s A cap) → Ok w wx → Q .normal ⟨#[u0, u1, .int .i64 now, .slice T ts.length cT, .slice HA0 hs.length cH, .int .i64 err, .pointer (some ⟨Bp, 0, none⟩), .pointer (some ⟨H, 0, none⟩), u8, u9, u10, u11, u12, u13, u14, u15, u16, u17, u18, u19, u20, u21, u22, u23, u24, v25, v26, v27, v28, v29, v30, v31, v32, v33, v34, v35, v36, v37, v38, v39, v40, v41, v42, v43, v44, v45, v46, v47, v48, v49, v50, v51, v52, v53, v54, v55, v56, v57, v58, v59, v60, v61, v62, v63, v64, v65, v66, v67, v68, v69, v70, v71, v72, v73, v74, v75, v76, v77, .bool b, u79, u80, u81, u82, u83, u84, u85, u86, u87, u88, u89, u90, u91, u92, u93, u94, u95, u96, u97, u98, u99, u100, u101, u102, u103, u104, u105, u106, u107, u108, u109, u110, u111, u112, u113, u114, u115, u116, u117, u118, u119, u120, u121, u122, u123, u124, u125, u126, u127, u128, u129, u130, u131, u132, u133, u134, u135, u136, u137, u138, u139, u140, u141, u142, u143, u144, u145, u146, u147, u148, u149, u150, u151, u152, u153, u154, u155, u156, u157, u158, u159, u160, u161, u162, u163, u164, u165, u166, u167, u168, u169, u170, u171, u172, u173, u174, u175, u176, u177, u178, u179, u180, u181, u182, u183, u184, u185, u186, u187, u188, u189, u190, u191, u192, u193, u194, u195, u196, u197, u198, u199, u200, u201, u202, u203, u204, u205, u206, u207, u208, u209, u210, u211, u212, u213, u214, u215, u216, u217, u218, u219, u220, u221, u222, u223, u224, u225, u226, u227, u228, u229, u230, u231, u232, u233, u234, u235, u236, u237, u238, u239, u240, u241, u242, u243, u244, u245, u246, u247, u248, u249, u250, u251, u252, u253, u254, u255, u256, u257, u258, u259, u260, u261, u262, u263, u264, u265, u266, u267, u268, u269, u270, u271, u272, u273, u274, u275, u276, u277, u278, u279, u280, u281, u282, u283, u284, u285, u286, u287, u288, u289, u290, u291, u292, u293, u294, u295, u296, u297, u298, u299, u300, u301, u302, u303, u304, u305, u306, u307, u308, u309, u310, u311, u312, u313, u314, u315, u316, u317, u318, u319, u320], []⟩ wx) :
    Code.wp Tryz.prog Rcond3 Q ⟨#[u0, u1, .int .i64 now, .slice T ts.length cT, .slice HA0 hs.length cH, .int .i64 err, .pointer (some ⟨Bp, 0, none⟩), .pointer (some ⟨H, 0, none⟩), u8, u9, u10, u11, u12, u13, u14, u15, u16, u17, u18, u19, u20, u21, u22, u23, u24, u25, u26, u27, u28, u29, u30, u31, u32, u33, u34, u35, u36, u37, u38, u39, u40, u41, u42, u43, u44, u45, u46, u47, u48, u49, u50, u51, u52, u53, u54, u55, u56, u57, u58, u59, u60, u61, u62, u63, u64, u65, u66, u67, u68, u69, u70, u71, u72, u73, u74, u75, u76, u77, u78, u79, u80, u81, u82, u83, u84, u85, u86, u87, u88, u89, u90, u91, u92, u93, u94, u95, u96, u97, u98, u99, u100, u101, u102, u103, u104, u105, u106, u107, u108, u109, u110, u111, u112, u113, u114, u115, u116, u117, u118, u119, u120, u121, u122, u123, u124, u125, u126, u127, u128, u129, u130, u131, u132, u133, u134, u135, u136, u137, u138, u139, u140, u141, u142, u143, u144, u145, u146, u147, u148, u149, u150, u151, u152, u153, u154, u155, u156, u157, u158, u159, u160, u161, u162, u163, u164, u165, u166, u167, u168, u169, u170, u171, u172, u173, u174, u175, u176, u177, u178, u179, u180, u181, u182, u183, u184, u185, u186, u187, u188, u189, u190, u191, u192, u193, u194, u195, u196, u197, u198, u199, u200, u201, u202, u203, u204, u205, u206, u207, u208, u209, u210, u211, u212, u213, u214, u215, u216, u217, u218, u219, u220, u221, u222, u223, u224, u225, u226, u227, u228, u229, u230, u231, u232, u233, u234, u235, u236, u237, u238, u239, u240, u241, u242, u243, u244, u245, u246, u247, u248, u249, u250, u251, u252, u253, u254, u255, u256, u257, u258, u259, u260, u261, u262, u263, u264, u265, u266, u267, u268, u269, u270, u271, u272, u273, u274, u275, u276, u277, u278, u279, u280, u281, u282, u283, u284, u285, u286, u287, u288, u289, u290, u291, u292, u293, u294, u295, u296, u297, u298, u299, u300, u301, u302, u303, u304, u305, u306, u307, u308, u309, u310, u311, u312, u313, u314, u315, u316, u317, u318, u319, u320], []⟩ W := by
  conv => arg 2; whnf
  have HQ := Lib.hid hQ
  clear hQ
  obtain ⟨s0, s1, s2, s3, s4, s5, s6, s7, s8, s9, s10⟩ := hS.sta; have hsl := hS.lt
  obtain ⟨c0, c1, c2, c3, c4, c5, c6, c7, c8, c9, c10, c11⟩ := hP.pars; have hPl := hP.lt
  by_cases h0 : Lim.May p
  · rw [show Lim.check p = 0 from if_pos h0] at KCH
    have HM := Lib.hid h0
    have hr0 := h0.2.1.2.1
    have hr1 := h0.2.1.1
    have hk2 : IntKind.i64.wrap (-p.rho) = -p.rho := IntWalk.i64_in _ ⟨by omega, by omega⟩
    clear h0 hr0 hr1
    cases lg with
    | true =>
      go_wp2_with (first | (go_at_call 19; refine (KCH.out _).mono ?_; rintro e w2 ⟨rfl, hb1⟩; clear s0 s1 s2 s3 s4 s5 s6 s7 s8 s9 s10 hsl; clear c0 c1 c2 c3 c4 c5 c6 c7 c8 c9 c10 c11 hPl; replace hP := hP.next hb1; replace hS := hS.next hb1; replace hok := hok.trans hb1; clear hb1; obtain ⟨s0, s1, s2, s3, s4, s5, s6, s7, s8, s9, s10⟩ := hS.sta; have hsl := hS.lt; obtain ⟨c0, c1, c2, c3, c4, c5, c6, c7, c8, c9, c10, c11⟩ := hP.pars; have hPl := hP.lt) | (go_at_call 9; refine (KG.out _).mono ?_; rintro e w3 ⟨rfl, hb1⟩; clear s0 s1 s2 s3 s4 s5 s6 s7 s8 s9 s10 hsl; clear c0 c1 c2 c3 c4 c5 c6 c7 c8 c9 c10 c11 hPl; replace hP := hP.next hb1; replace hS := hS.next hb1; replace hok := hok.trans hb1; clear hb1; obtain ⟨s0, s1, s2, s3, s4, s5, s6, s7, s8, s9, s10⟩ := hS.sta; have hsl := hS.lt; obtain ⟨c0, c1, c2, c3, c4, c5, c6, c7, c8, c9, c10, c11⟩ := hP.pars; have hPl := hP.lt))
      all_goals
        refine HQ.out _ _ _ _ _ _ _ _ _ _ _ _ _ _ _ _ _ _ _ _ _ _ _ _ _ _ _ _ _ _ _ _ _ _ _ _ _ _ _ _ _ _ _ _ _ _ _ _ _ _ _ _ _ _ _ ?_ hP hS hok
        intro hb
        cases hb
    | false =>
    by_cases h3 : (hs.length : Int) = (ts.length : Int)
    rotate_left
    · have e3 : ((hs.length : Int) != (ts.length : Int)) = true := by simpa using h3
      have f3 : ((hs.length : Int) == (ts.length : Int)) = false := by simpa using h3
      go_wp2_with (first | (go_at_call 19; refine (KCH.out _).mono ?_; rintro e w2 ⟨rfl, hb1⟩; clear s0 s1 s2 s3 s4 s5 s6 s7 s8 s9 s10 hsl; clear c0 c1 c2 c3 c4 c5 c6 c7 c8 c9 c10 c11 hPl; replace hP := hP.next hb1; replace hS := hS.next hb1; replace hok := hok.trans hb1; clear hb1; obtain ⟨s0, s1, s2, s3, s4, s5, s6, s7, s8, s9, s10⟩ := hS.sta; have hsl := hS.lt; obtain ⟨c0, c1, c2, c3, c4, c5, c6, c7, c8, c9, c10, c11⟩ := hP.pars; have hPl := hP.lt) | (go_at_call 9; refine (KG.out _).mono ?_; rintro e w3 ⟨rfl, hb1⟩; clear s0 s1 s2 s3 s4 s5 s6 s7 s8 s9 s10 hsl; clear c0 c1 c2 c3 c4 c5 c6 c7 c8 c9 c10 c11 hPl; replace hP := hP.next hb1; replace hS := hS.next hb1; replace hok := hok.trans hb1; clear hb1; obtain ⟨s0, s1, s2, s3, s4, s5, s6, s7, s8, s9, s10⟩ := hS.sta; have hsl := hS.lt; obtain ⟨c0, c1, c2, c3, c4, c5, c6, c7, c8, c9, c10, c11⟩ := hP.pars; have hPl := hP.lt))
      all_goals
        refine HQ.out _ _ _ _ _ _ _ _ _ _ _ _ _ _ _ _ _ _ _ _ _ _ _ _ _ _ _ _ _ _ _ _ _ _ _ _ _ _ _ _ _ _ _ _ _ _ _ _ _ _ _ _ _ _ _ ?_ hP hS hok
        intro hb
        cases hb
    · have e3 : ((hs.length : Int) != (ts.length : Int)) = false := by simpa using h3
      have f3 : ((hs.length : Int) == (ts.length : Int)) = true := by simpa using h3
      go_wp2_with (first | (go_at_call 19; refine (KCH.out _).mono ?_; rintro e w2 ⟨rfl, hb1⟩; clear s0 s1 s2 s3 s4 s5 s6 s7 s8 s9 s10 hsl; clear c0 c1 c2 c3 c4 c5 c6 c7 c8 c9 c10 c11 hPl; replace hP := hP.next hb1; replace hS := hS.next hb1; replace hok := hok.trans hb1; clear hb1; obtain ⟨s0, s1, s2, s3, s4, s5, s6, s7, s8, s9, s10⟩ := hS.sta; have hsl := hS.lt; obtain ⟨c0, c1, c2, c3, c4, c5, c6, c7, c8, c9, c10, c11⟩ := hP.pars; have hPl := hP.lt) | (go_at_call 9; refine (KG.out _).mono ?_; rintro e w3 ⟨rfl, hb1⟩; clear s0 s1 s2 s3 s4 s5 s6 s7 s8 s9 s10 hsl; clear c0 c1 c2 c3 c4 c5 c6 c7 c8 c9 c10 c11 hPl; replace hP := hP.next hb1; replace hS := hS.next hb1; replace hok := hok.trans hb1; clear hb1; obtain ⟨s0, s1, s2, s3, s4, s5, s6, s7, s8, s9, s10⟩ := hS.sta; have hsl := hS.lt; obtain ⟨c0, c1, c2, c3, c4, c5, c6, c7, c8, c9, c10, c11⟩ := hP.pars; have hPl := hP.lt))
      all_goals
        refine HQ.out _ _ _ _ _ _ _ _ _ _ _ _ _ _ _ _ _ _ _ _ _ _ _ _ _ _ _ _ _ _ _ _ _ _ _ _ _ _ _ _ _ _ _ _ _ _ _ _ _ _ _ _ _ _ _ ?_ hP hS hok
        intro hb
        first | (cases hb; done) | (refine ⟨HM.out, (by first | rfl | trivial), ?_⟩; simp only [decide_eq_false_iff_not] at hb; omega)
  · rw [show Lim.check p = 1 from if_neg h0] at KCH
    clear h0
    go_wp2_with (first | (go_at_call 19; refine (KCH.out _).mono ?_; rintro e w2 ⟨rfl, hb1⟩; clear s0 s1 s2 s3 s4 s5 s6 s7 s8 s9 s10 hsl; clear c0 c1 c2 c3 c4 c5 c6 c7 c8 c9 c10 c11 hPl; replace hP := hP.next hb1; replace hS := hS.next hb1; replace hok := hok.trans hb1; clear hb1; obtain ⟨s0, s1, s2, s3, s4, s5, s6, s7, s8, s9, s10⟩ := hS.sta; have hsl := hS.lt; obtain ⟨c0, c1, c2, c3, c4, c5, c6, c7, c8, c9, c10, c11⟩ := hP.pars; have hPl := hP.lt) | (go_at_call 9; refine (KG.out _).mono ?_; rintro e w3 ⟨rfl, hb1⟩; clear s0 s1 s2 s3 s4 s5 s6 s7 s8 s9 s10 hsl; clear c0 c1 c2 c3 c4 c5 c6 c7 c8 c9 c10 c11 hPl; replace hP := hP.next hb1; replace hS := hS.next hb1; replace hok := hok.trans hb1; clear hb1; obtain ⟨s0, s1, s2, s3, s4, s5, s6, s7, s8, s9, s10⟩ := hS.sta; have hsl := hS.lt; obtain ⟨c0, c1, c2, c3, c4, c5, c6, c7, c8, c9, c10, c11⟩ := hP.pars; have hPl := hP.lt))
    all_goals
      refine HQ.out _ _ _ _ _ _ _ _ _ _ _ _ _ _ _ _ _ _ _ _ _ _ _ _ _ _ _ _ _ _ _ _ _ _ _ _ _ _ _ _ _ _ _ _ _ _ _ _ _ _ _ _ _ _ _ ?_ hP hS hok
      intro hb
      cases hb
noncomputable def Rcond10 : Code := (Tryz.f5.body.bind (regAt 10)).getD .skip
set_option maxHeartbeats 6400000 in
theorem cond10 (Bp Z : Nat) (p : Par) (le mo wy of hd : Int) (W : World) {u0 u1 u2 u3 u4 u5 u7 u8 u9 u10 u11 u12 u13 u14 u15 u17 u18 u19 u20 u21 u22 u23 u24 u25 u26 u27 u28 u29 u30 u31 u32 u33 u34 u35 u36 u37 u38 u39 u40 u41 u42 u43 u44 u45 u46 u47 u48 u49 u50 u51 u52 u53 u54 u55 u56 u57 u58 u59 u60 u61 u62 u63 u64 u65 u66 u67 u68 u69 u70 u71 u72 u73 u74 u75 u76 u77 u78 u79 u80 u81 u82 u83 u84 u85 u86 u87 u88 u89 u90 u91 u92 u93 u94 u95 u96 u97 u98 u99 u100 u101 u102 u103 u104 u105 u106 u107 u108 u109 u110 u111 u112 u113 u114 u115 u116 u117 u118 u119 u120 u121 u122 u123 u124 u125 u126 u127 u128 u129 u130 u131 u132 u133 u134 u135 u136 u137 u138 u139 u140 u141 u142 u143 u144 u145 u146 u147 u148 u149 u150 u151 u152 u153 u154 u155 u156 u157 u158 u159 u160 u161 u162 u163 u164 u165 u166 u167 u168 u169 u170 u171 u172 u173 u174 u175 u176 u177 u178 u179 u180 u181 u182 u183 u184 u185 u186 u187 u188 u189 u190 u191 u192 u193 u194 u195 u196 u197 u198 u199 u200 u201 u202 u203 u204 u205 u206 u207 u208 u209 u210 u211 u212 u213 u214 u215 u216 u217 u218 u219 u220 u221 u222 u223 u224 u225 u226 u227 u228 u229 u230 u231 u232 u233 u234 u235 u236 u237 u238 u239 u240 u241 u242 u243 u244 u245 u246 u247 u248 u249 u250 u251 u252 u253 u254 u255 u256 u257 u258 u259 u260 u261 u262 u263 u264 u265 u266 u267 u268 u269 u270 u271 u272 u273 u274 u275 u276 u277 u278 u279 u280 u281 u282 u283 u284 u285 u286 u287 u288 u289 u290 u291 u292 u293 u294 u295 u296 u297 u298 u299 u300 u301 u302 u303 u304 u305 u306 u307 u308 u309 u310 u311 u312 u313 u314 u315 u316 u317 u318 u319 u320 : Value} {Q : Exit → Act → World → Prop} (hP : Own W Bp (parCells p)) (hZ : Own W Z #[.int .i64 le, .int .i64 mo, .int .i64 wy, .int .i64 of, .int .i64 hd]) (hk3 : IntKind.i64.wrap (-p.rho) = -p.rho) (hk4 : IntKind.i64.wrap (p.delay - p.jit) = p.delay - p.jit) (hQ : ∀ (v94 v95 v96 v97 v98 v99 v100 v101 v102 v103 v104 v105 v106 v107 v108 v109 v110 v111 v112 v113 v114 v115 v116 v117 v118 v119 v120 v121 v122 v123 v124 v125 v126 v127 v128 v129 v130 v131 v132 v133 v134 v135 v136 v137 v138 v139 v140 v141 v142 v143 v144 v145 v146 v147 v148 v149 v150 v151 v152 : Value) (b : Bool), (b = false → (¬ (le < 0) ∧ ¬ (mo < 0) ∧ ¬ (562949953421312 < le) ∧ ¬ (562949953421312 < mo) ∧ ¬ (p.delay < wy) ∧ ¬ (wy < p.delay - p.jit) ∧ ¬ (p.rho < of) ∧ ¬ (of < -p.rho) ∧ ¬ (hd < 0) ∧ ¬ (1048576 < hd))) → Q .normal ⟨#[u0, u1, u2, u3, u4, u5, .pointer (some ⟨Bp, 0, none⟩), u7, u8, u9, u10, u11, u12, u13, u14, u15, .pointer (some ⟨Z, 0, none⟩), u17, u18, u19, u20, u21, u22, u23, u24, u25, u26, u27, u28, u29, u30, u31, u32, u33, u34, u35, u36, u37, u38, u39, u40, u41, u42, u43, u44, u45, u46, u47, u48, u49, u50, u51, u52, u53, u54, u55, u56, u57, u58, u59, u60, u61, u62, u63, u64, u65, u66, u67, u68, u69, u70, u71, u72, u73, u74, u75, u76, u77, u78, u79, u80, u81, u82, u83, u84, u85, u86, u87, u88, u89, u90, u91, u92, u93, v94, v95, v96, v97, v98, v99, v100, v101, v102, v103, v104, v105, v106, v107, v108, v109, v110, v111, v112, v113, v114, v115, v116, v117, v118, v119, v120, v121, v122, v123, v124, v125, v126, v127, v128, v129, v130, v131, v132, v133, v134, v135, v136, v137, v138, v139, v140, v141, v142, v143, v144, v145, v146, v147, v148, v149, v150, v151, v152, .bool b, u154, u155, u156, u157, u158, u159, u160, u161, u162, u163, u164, u165, u166, u167, u168, u169, u170, u171, u172, u173, u174, u175, u176, u177, u178, u179, u180, u181, u182, u183, u184, u185, u186, u187, u188, u189, u190, u191, u192, u193, u194, u195, u196, u197, u198, u199, u200, u201, u202, u203, u204, u205, u206, u207, u208, u209, u210, u211, u212, u213, u214, u215, u216, u217, u218, u219, u220, u221, u222, u223, u224, u225, u226, u227, u228, u229, u230, u231, u232, u233, u234, u235, u236, u237, u238, u239, u240, u241, u242, u243, u244, u245, u246, u247, u248, u249, u250, u251, u252, u253, u254, u255, u256, u257, u258, u259, u260, u261, u262, u263, u264, u265, u266, u267, u268, u269, u270, u271, u272, u273, u274, u275, u276, u277, u278, u279, u280, u281, u282, u283, u284, u285, u286, u287, u288, u289, u290, u291, u292, u293, u294, u295, u296, u297, u298, u299, u300, u301, u302, u303, u304, u305, u306, u307, u308, u309, u310, u311, u312, u313, u314, u315, u316, u317, u318, u319, u320], []⟩ W) :
    Code.wp Tryz.prog Rcond10 Q ⟨#[u0, u1, u2, u3, u4, u5, .pointer (some ⟨Bp, 0, none⟩), u7, u8, u9, u10, u11, u12, u13, u14, u15, .pointer (some ⟨Z, 0, none⟩), u17, u18, u19, u20, u21, u22, u23, u24, u25, u26, u27, u28, u29, u30, u31, u32, u33, u34, u35, u36, u37, u38, u39, u40, u41, u42, u43, u44, u45, u46, u47, u48, u49, u50, u51, u52, u53, u54, u55, u56, u57, u58, u59, u60, u61, u62, u63, u64, u65, u66, u67, u68, u69, u70, u71, u72, u73, u74, u75, u76, u77, u78, u79, u80, u81, u82, u83, u84, u85, u86, u87, u88, u89, u90, u91, u92, u93, u94, u95, u96, u97, u98, u99, u100, u101, u102, u103, u104, u105, u106, u107, u108, u109, u110, u111, u112, u113, u114, u115, u116, u117, u118, u119, u120, u121, u122, u123, u124, u125, u126, u127, u128, u129, u130, u131, u132, u133, u134, u135, u136, u137, u138, u139, u140, u141, u142, u143, u144, u145, u146, u147, u148, u149, u150, u151, u152, u153, u154, u155, u156, u157, u158, u159, u160, u161, u162, u163, u164, u165, u166, u167, u168, u169, u170, u171, u172, u173, u174, u175, u176, u177, u178, u179, u180, u181, u182, u183, u184, u185, u186, u187, u188, u189, u190, u191, u192, u193, u194, u195, u196, u197, u198, u199, u200, u201, u202, u203, u204, u205, u206, u207, u208, u209, u210, u211, u212, u213, u214, u215, u216, u217, u218, u219, u220, u221, u222, u223, u224, u225, u226, u227, u228, u229, u230, u231, u232, u233, u234, u235, u236, u237, u238, u239, u240, u241, u242, u243, u244, u245, u246, u247, u248, u249, u250, u251, u252, u253, u254, u255, u256, u257, u258, u259, u260, u261, u262, u263, u264, u265, u266, u267, u268, u269, u270, u271, u272, u273, u274, u275, u276, u277, u278, u279, u280, u281, u282, u283, u284, u285, u286, u287, u288, u289, u290, u291, u292, u293, u294, u295, u296, u297, u298, u299, u300, u301, u302, u303, u304, u305, u306, u307, u308, u309, u310, u311, u312, u313, u314, u315, u316, u317, u318, u319, u320], []⟩ W := by
  conv => arg 2; whnf
  have HQ := Lib.hid hQ
  clear hQ
  obtain ⟨c0, c1, c2, c3, c4, c5, c6, c7, c8, c9, c10, c11⟩ := hP.pars; have hPl := hP.lt
  have z0 := hZ.cell 0 rfl
  have z1 := hZ.cell 1 rfl
  have z2 := hZ.cell 2 rfl
  have z3 := hZ.cell 3 rfl
  have z4 := hZ.cell 4 rfl
  have hZl := hZ.lt
  clear hP hZ
  go_wp2_with fail
  all_goals
    refine HQ.out _ _ _ _ _ _ _ _ _ _ _ _ _ _ _ _ _ _ _ _ _ _ _ _ _ _ _ _ _ _ _ _ _ _ _ _ _ _ _ _ _ _ _ _ _ _ _ _ _ _ _ _ _ _ _ _ _ _ _ _ ?_
    intro hb
    first | (cases hb; done) | (simp only [decide_eq_false_iff_not] at hb; omega)
/-- What each operation leaves. -/
def VME31A (Bp G : Nat) (p : Par) (u ho : Int) (w : World) (v : Value) : Nat → Prop
  | 0 => v = .int .i64 u
  | 1 => v = .pointer (some ⟨Bp, 2, none⟩)
  | 2 => v = .int .i64 p.d
  | 3 => v = .bool true
  | 4 => v = .bool true
  | 5 => v = .pointer (some ⟨G, 0, none⟩)
  | 6 => v = .pointer (some ⟨G, 0, none⟩)
  | 7 => v = .pointer (some ⟨G, 0, none⟩)
  | 8 => v = .pointer (some ⟨G, 12, none⟩)
  | 9 => v = .pointer (some ⟨G, 17, none⟩)
  | 10 => v = .int .i64 ho
  | 11 => v = .pointer (some ⟨Bp, 2, none⟩)
  | 12 => v = .int .i64 p.d
  | 13 => v = .int .i64 (p.d + 1)
  | 14 => v = .bool true
  | 15 => v = .bool true
  | 16 => v = .bool true
  | 17 => v = .pointer (some ⟨G, 0, none⟩)
  | 18 => v = .pointer (some ⟨G, 0, none⟩)
  | 19 => v = .pointer (some ⟨G, 0, none⟩)
  | 20 => v = .pointer (some ⟨G, 12, none⟩)
  | 21 => v = .pointer (some ⟨G, 18, none⟩)
  | 22 => v = .bool false
  | 23 => v = .bool true
  | 24 => v = .bool true
  | 25 => v = .bool true
  | 26 => v = undef
  | 27 => v = undef
  | 28 => v = undef
  | 29 => v = undef
  | 30 => v = undef
  | 31 => v = undef
  | 32 => v = undef
  | 33 => v = undef
  | 34 => v = undef
  | 35 => v = undef
  | 36 => v = undef
  | 37 => v = undef
  | 38 => v = undef
  | 39 => v = undef
  | 40 => v = undef
  | 41 => v = undef
  | 42 => v = undef
  | 43 => v = undef
  | 44 => v = undef
  | 45 => v = undef
  | 46 => v = undef
  | 47 => v = undef
  | 48 => v = undef
  | 49 => v = .bool true
  | 50 => v = .bool true
  | _ => v = .bool true
/-- It stays so. -/
def VCE31A (Bp G : Nat) (p : Par) (u ho : Int) (i : Nat) (v : Value) (w : World) : Prop := ∀ w', Ok w w' → VME31A Bp G p u ho w' v i
/-- What each operation leaves. -/
def VME31B (Bp G : Nat) (p : Par) (u ho : Int) (w : World) (v : Value) : Nat → Prop
  | 0 => v = .int .i64 u
  | 1 => v = .pointer (some ⟨Bp, 2, none⟩)
  | 2 => v = .int .i64 p.d
  | 3 => v = .bool false
  | 4 => v = .bool false
  | 5 => v = undef
  | 6 => v = undef
  | 7 => v = undef
  | 8 => v = undef
  | 9 => v = undef
  | 10 => v = undef
  | 11 => v = undef
  | 12 => v = undef
  | 13 => v = undef
  | 14 => v = undef
  | 15 => v = .bool false
  | 16 => v = .bool false
  | 17 => v = undef
  | 18 => v = undef
  | 19 => v = undef
  | 20 => v = undef
  | 21 => v = undef
  | 22 => v = undef
  | 23 => v = undef
  | 24 => v = .bool false
  | 25 => v = .bool false
  | 26 => v = .int .i64 u
  | 27 => v = .pointer (some ⟨Bp, 2, none⟩)
  | 28 => v = .int .i64 p.d
  | 29 => v = .bool true
  | 30 => v = .bool true
  | 31 => v = .pointer (some ⟨G, 0, none⟩)
  | 32 => v = .pointer (some ⟨G, 0, none⟩)
  | 33 => v = .pointer (some ⟨G, 0, none⟩)
  | 34 => v = .pointer (some ⟨G, 12, none⟩)
  | 35 => v = .pointer (some ⟨G, 17, none⟩)
  | 36 => v = .int .i64 ho
  | 37 => v = .int .i64 u
  | 38 => v = .int .i64 (u + 1)
  | 39 => v = .bool true
  | 40 => v = .bool true
  | 41 => v = .bool true
  | 42 => v = .pointer (some ⟨G, 0, none⟩)
  | 43 => v = .pointer (some ⟨G, 0, none⟩)
  | 44 => v = .pointer (some ⟨G, 0, none⟩)
  | 45 => v = .pointer (some ⟨G, 12, none⟩)
  | 46 => v = .pointer (some ⟨G, 18, none⟩)
  | 47 => v = .bool true
  | 48 => v = .bool true
  | 49 => v = .bool true
  | 50 => v = .bool true
  | _ => v = .bool true
/-- It stays so. -/
def VCE31B (Bp G : Nat) (p : Par) (u ho : Int) (i : Nat) (v : Value) (w : World) : Prop := ∀ w', Ok w w' → VME31B Bp G p u ho w' v i
noncomputable def Rend31A : Code := (Tryz.f5.body.bind (regAt 31)).getD .skip
set_option maxHeartbeats 12800000 in
theorem end31A (Bp G : Nat) (p : Par) (u ho : Int) (W : World) {u0 u1 u2 u3 u4 u5 u7 u8 u9 u10 u11 u12 u13 u15 u16 u17 u19 u20 u21 u22 u23 u24 u25 u26 u27 u28 u29 u30 u31 u32 u33 u34 u35 u36 u37 u38 u39 u40 u41 u42 u43 u44 u45 u46 u47 u48 u49 u50 u51 u52 u53 u54 u55 u56 u57 u58 u59 u60 u61 u62 u63 u64 u65 u66 u67 u68 u69 u70 u71 u72 u73 u74 u75 u76 u77 u78 u79 u80 u81 u82 u83 u84 u85 u86 u87 u88 u89 u90 u91 u92 u93 u94 u95 u96 u97 u98 u99 u100 u101 u102 u103 u104 u105 u106 u107 u108 u109 u110 u111 u112 u113 u114 u115 u116 u117 u118 u119 u120 u121 u122 u123 u124 u125 u126 u127 u128 u129 u130 u131 u132 u133 u134 u135 u136 u137 u138 u139 u140 u141 u142 u143 u144 u145 u146 u147 u148 u149 u150 u151 u152 u153 u154 u155 u156 u157 u158 u159 u160 u161 u162 u163 u164 u165 u166 u167 u168 u169 u170 u171 u172 u173 u174 u175 u176 u177 u178 u179 u180 u181 u182 u183 u184 u185 u186 u187 u188 u189 u190 u191 u192 u193 u194 u195 u196 u197 u198 u199 u200 u201 u202 u203 u204 u205 u206 u207 u208 u209 u210 u211 u212 u213 u214 u215 u216 u217 u218 u219 u220 u221 u222 u223 u224 u225 u226 u227 u228 u229 u230 u231 u232 u233 u234 u235 u236 u237 u238 u239 u240 u241 u242 u243 u244 u245 u246 u247 u248 u249 u250 u251 u252 u253 u254 u255 u256 u257 u258 u259 u260 u261 u262 u263 u264 u265 u266 u267 u268 u269 u270 u271 u272 u273 u274 u275 u276 u277 u278 u279 u280 u281 u282 u283 u284 u285 u286 u287 u288 u289 u290 u291 u292 u293 u294 u295 u296 u297 u298 u299 u300 u301 u302 u303 u304 u305 u306 u307 u308 u309 u310 u311 u312 u313 u314 u315 u316 u317 u318 u319 u320 : Value} {Q : Exit → Act → World → Prop} (HC0 : Hid (∀ W', Ok W W' → W'.cell? ⟨Bp, 2, none⟩ = some (.int .i64 p.d) ∧ Bp < W'.heap.size ∧ W'.cell? ⟨G, 17, none⟩ = some (.int .i64 ho) ∧ W'.cell? ⟨G, 18, none⟩ = some (.bool false) ∧ G < W'.heap.size)) (HV : Hid (decide (p.d < u) = true ∧ IntKind.i64.wrap (p.d + 1) = p.d + 1 ∧ (ho == p.d + 1) = true)) (hQ : ∀ (v271 v272 v273 v274 v275 v276 v277 v278 v279 v280 v281 v282 v283 v284 v285 v286 v287 v288 v289 v290 v291 v292 v293 v294 v295 v296 v297 v298 v299 v300 v301 v302 v303 v304 v305 v306 v307 v308 v309 v310 v311 v312 v313 v314 v315 v316 v317 v318 v319 v320 : Value) (wx : World), Ok W wx → Q .normal ⟨#[u0, u1, u2, u3, u4, u5, .pointer (some ⟨Bp, 0, none⟩), u7, u8, u9, u10, u11, .bool true, u13, .int .i64 u, u15, u16, u17, .pointer (some ⟨G, 0, none⟩), u19, u20, u21, u22, u23, u24, u25, u26, u27, u28, u29, u30, u31, u32, u33, u34, u35, u36, u37, u38, u39, u40, u41, u42, u43, u44, u45, u46, u47, u48, u49, u50, u51, u52, u53, u54, u55, u56, u57, u58, u59, u60, u61, u62, u63, u64, u65, u66, u67, u68, u69, u70, u71, u72, u73, u74, u75, u76, u77, u78, u79, u80, u81, u82, u83, u84, u85, u86, u87, u88, u89, u90, u91, u92, u93, u94, u95, u96, u97, u98, u99, u100, u101, u102, u103, u104, u105, u106, u107, u108, u109, u110, u111, u112, u113, u114, u115, u116, u117, u118, u119, u120, u121, u122, u123, u124, u125, u126, u127, u128, u129, u130, u131, u132, u133, u134, u135, u136, u137, u138, u139, u140, u141, u142, u143, u144, u145, u146, u147, u148, u149, u150, u151, u152, u153, u154, u155, u156, u157, u158, u159, u160, u161, u162, u163, u164, u165, u166, u167, u168, u169, u170, u171, u172, u173, u174, u175, u176, u177, u178, u179, u180, u181, u182, u183, u184, u185, u186, u187, u188, u189, u190, u191, u192, u193, u194, u195, u196, u197, u198, u199, u200, u201, u202, u203, u204, u205, u206, u207, u208, u209, u210, u211, u212, u213, u214, u215, u216, u217, u218, u219, u220, u221, u222, u223, u224, u225, u226, u227, u228, u229, u230, u231, u232, u233, u234, u235, u236, u237, u238, u239, u240, u241, u242, u243, u244, u245, u246, u247, u248, u249, u250, u251, u252, u253, u254, u255, u256, u257, u258, u259, u260, u261, u262, u263, u264, u265, u266, u267, u268, u269, u270, v271, v272, v273, v274, v275, v276, v277, v278, v279, v280, v281, v282, v283, v284, v285, v286, v287, v288, v289, v290, v291, v292, v293, v294, v295, v296, v297, v298, v299, v300, v301, v302, v303, v304, v305, v306, v307, v308, v309, v310, v311, v312, v313, v314, v315, v316, v317, v318, v319, v320], []⟩ wx) :
    Code.wp Tryz.prog Rend31A Q ⟨#[u0, u1, u2, u3, u4, u5, .pointer (some ⟨Bp, 0, none⟩), u7, u8, u9, u10, u11, u12, u13, .int .i64 u, u15, u16, u17, .pointer (some ⟨G, 0, none⟩), u19, u20, u21, u22, u23, u24, u25, u26, u27, u28, u29, u30, u31, u32, u33, u34, u35, u36, u37, u38, u39, u40, u41, u42, u43, u44, u45, u46, u47, u48, u49, u50, u51, u52, u53, u54, u55, u56, u57, u58, u59, u60, u61, u62, u63, u64, u65, u66, u67, u68, u69, u70, u71, u72, u73, u74, u75, u76, u77, u78, u79, u80, u81, u82, u83, u84, u85, u86, u87, u88, u89, u90, u91, u92, u93, u94, u95, u96, u97, u98, u99, u100, u101, u102, u103, u104, u105, u106, u107, u108, u109, u110, u111, u112, u113, u114, u115, u116, u117, u118, u119, u120, u121, u122, u123, u124, u125, u126, u127, u128, u129, u130, u131, u132, u133, u134, u135, u136, u137, u138, u139, u140, u141, u142, u143, u144, u145, u146, u147, u148, u149, u150, u151, u152, u153, u154, u155, u156, u157, u158, u159, u160, u161, u162, u163, u164, u165, u166, u167, u168, u169, u170, u171, u172, u173, u174, u175, u176, u177, u178, u179, u180, u181, u182, u183, u184, u185, u186, u187, u188, u189, u190, u191, u192, u193, u194, u195, u196, u197, u198, u199, u200, u201, u202, u203, u204, u205, u206, u207, u208, u209, u210, u211, u212, u213, u214, u215, u216, u217, u218, u219, u220, u221, u222, u223, u224, u225, u226, u227, u228, u229, u230, u231, u232, u233, u234, u235, u236, u237, u238, u239, u240, u241, u242, u243, u244, u245, u246, u247, u248, u249, u250, u251, u252, u253, u254, u255, u256, u257, u258, u259, u260, u261, u262, u263, u264, u265, u266, u267, u268, u269, u270, u271, u272, u273, u274, u275, u276, u277, u278, u279, u280, u281, u282, u283, u284, u285, u286, u287, u288, u289, u290, u291, u292, u293, u294, u295, u296, u297, u298, u299, u300, u301, u302, u303, u304, u305, u306, u307, u308, u309, u310, u311, u312, u313, u314, u315, u316, u317, u318, u319, u320], []⟩ W := by
  conv => arg 2; whnf
  have HQ := Lib.hid hQ
  clear hQ
  have HC := Lib.hid fun W' (j : Ok W.drew W') => HC0.out _ ((Ok.refl W).drew.trans j)
  refine wp_region_facts (by kernel_rfl) 321 rfl (VCE31A Bp G p u ho) Ok (by kernel_rfl) (fun i v w w' h k w'' k' => h w'' (k.trans k')) (fun a b c => Ok.trans) (Ok.refl _) [some 271, some 272, some 273, some 274, some 275, some 276, some 277, some 278, some 279, some 280, some 281, some 282, some 283, some 284, some 285, some 286, some 287, some 288, some 289, some 290, some 291, some 292, some 293, some 294, some 295, some 296, some 297, some 298, some 299, some 300, some 301, some 302, some 303, some 304, some 305, some 306, some 307, some 308, some 309, some 310, some 311, some 312, some 313, some 314, some 315, some 316, some 317, some 318, some 319, some 320, some 12] rfl 51 rfl ⟨?_, ?_, ?_, ?_, ?_, ?_, ?_, ?_, ?_, ?_, ?_, ?_, ?_, ?_, ?_, ?_, ?_, ?_, ?_, ?_, ?_, ?_, ?_, ?_, ?_, ?_, ?_, ?_, ?_, ?_, ?_, ?_, ?_, ?_, ?_, ?_, ?_, ?_, ?_, ?_, ?_, ?_, ?_, ?_, ?_, ?_, ?_, ?_, ?_, ?_, ?_, trivial⟩ ?_
  · intro a' w' hF hR
    have e14 : a'.tmps[14]? = some (.int .i64 u) := hF.slot 14 (by kernel_rfl) rfl
    refine wpOp_run (v := .int .i64 u) rfl rfl ?_ (fun _ _ => rfl) (Ok.refl _)
    clear hF
    go_simp
  · intro a' w' hF hR
    have e6 : a'.tmps[6]? = some (.pointer (some ⟨Bp, 0, none⟩)) := hF.slot 6 (by kernel_rfl) rfl
    refine wpOp_run (v := .pointer (some ⟨Bp, 2, none⟩)) rfl rfl ?_ (fun _ _ => rfl) (Ok.refl _)
    clear hF
    go_simp
  · intro a' w' hF hR
    obtain ⟨v1, hv1, e272⟩ := hF.get 1 272 (by kernel_rfl) (by kernel_rfl)
    obtain rfl : v1 = _ := hv1 _ (Ok.refl _)
    obtain ⟨d2c, hPl, g17, g18, hGl⟩ := HC.out _ hR
    refine wpOp_run (v := .int .i64 p.d) rfl rfl ?_ (fun _ _ => rfl) (Ok.refl _)
    clear hF
    go_simp
  · intro a' w' hF hR
    obtain ⟨v0, hv0, e271⟩ := hF.get 0 271 (by kernel_rfl) (by kernel_rfl)
    obtain rfl : v0 = _ := hv0 _ (Ok.refl _)
    obtain ⟨v2, hv2, e273⟩ := hF.get 2 273 (by kernel_rfl) (by kernel_rfl)
    obtain rfl : v2 = _ := hv2 _ (Ok.refl _)
    have v1 := HV.out.1
    refine wpOp_run (v := .bool true) rfl rfl ?_ (fun _ _ => rfl) (Ok.refl _)
    clear hF
    go_simp
  · intro a' w' hF hR
    obtain ⟨v3, hv3, e274⟩ := hF.get 3 274 (by kernel_rfl) (by kernel_rfl)
    obtain rfl : v3 = _ := hv3 _ (Ok.refl _)
    refine wpOp_run (v := .bool true) rfl rfl ?_ (fun _ _ => rfl) (Ok.refl _)
    clear hF
    go_simp
  · intro a' w' hF hR
    have e18 : a'.tmps[18]? = some (.pointer (some ⟨G, 0, none⟩)) := hF.slot 18 (by kernel_rfl) rfl
    obtain ⟨vg, hvg, eg⟩ := hF.get 4 275 (by kernel_rfl) (by kernel_rfl)
    obtain rfl : vg = _ := hvg _ (Ok.refl _)
    refine wpOp_runG (v := .pointer (some ⟨G, 0, none⟩)) rfl (wanted_yes rfl (by kernel_rfl) eg) ?_ (fun _ _ => rfl) (Ok.refl _)
    clear hF
    go_simp
  · intro a' w' hF hR
    obtain ⟨v5, hv5, e276⟩ := hF.get 5 276 (by kernel_rfl) (by kernel_rfl)
    obtain rfl : v5 = _ := hv5 _ (Ok.refl _)
    obtain ⟨vg, hvg, eg⟩ := hF.get 4 275 (by kernel_rfl) (by kernel_rfl)
    obtain rfl : vg = _ := hvg _ (Ok.refl _)
    refine wpOp_runG (v := .pointer (some ⟨G, 0, none⟩)) rfl (wanted_yes rfl (by kernel_rfl) eg) ?_ (fun _ _ => rfl) (Ok.refl _)
    clear hF
    go_simp
  · intro a' w' hF hR
    obtain ⟨v6, hv6, e277⟩ := hF.get 6 277 (by kernel_rfl) (by kernel_rfl)
    obtain rfl : v6 = _ := hv6 _ (Ok.refl _)
    obtain ⟨vg, hvg, eg⟩ := hF.get 4 275 (by kernel_rfl) (by kernel_rfl)
    obtain rfl : vg = _ := hvg _ (Ok.refl _)
    refine wpOp_runG (v := .pointer (some ⟨G, 0, none⟩)) rfl (wanted_yes rfl (by kernel_rfl) eg) ?_ (fun _ _ => rfl) (Ok.refl _)
    clear hF
    go_simp
  · intro a' w' hF hR
    obtain ⟨v7, hv7, e278⟩ := hF.get 7 278 (by kernel_rfl) (by kernel_rfl)
    obtain rfl : v7 = _ := hv7 _ (Ok.refl _)
    obtain ⟨vg, hvg, eg⟩ := hF.get 4 275 (by kernel_rfl) (by kernel_rfl)
    obtain rfl : vg = _ := hvg _ (Ok.refl _)
    refine wpOp_runG (v := .pointer (some ⟨G, 12, none⟩)) rfl (wanted_yes rfl (by kernel_rfl) eg) ?_ (fun _ _ => rfl) (Ok.refl _)
    clear hF
    go_simp
  · intro a' w' hF hR
    obtain ⟨v8, hv8, e279⟩ := hF.get 8 279 (by kernel_rfl) (by kernel_rfl)
    obtain rfl : v8 = _ := hv8 _ (Ok.refl _)
    obtain ⟨vg, hvg, eg⟩ := hF.get 4 275 (by kernel_rfl) (by kernel_rfl)
    obtain rfl : vg = _ := hvg _ (Ok.refl _)
    refine wpOp_runG (v := .pointer (some ⟨G, 17, none⟩)) rfl (wanted_yes rfl (by kernel_rfl) eg) ?_ (fun _ _ => rfl) (Ok.refl _)
    clear hF
    go_simp
  · intro a' w' hF hR
    obtain ⟨v9, hv9, e280⟩ := hF.get 9 280 (by kernel_rfl) (by kernel_rfl)
    obtain rfl : v9 = _ := hv9 _ (Ok.refl _)
    obtain ⟨vg, hvg, eg⟩ := hF.get 4 275 (by kernel_rfl) (by kernel_rfl)
    obtain rfl : vg = _ := hvg _ (Ok.refl _)
    obtain ⟨d2c, hPl, g17, g18, hGl⟩ := HC.out _ hR
    refine wpOp_runG (v := .int .i64 ho) rfl (wanted_yes rfl (by kernel_rfl) eg) ?_ (fun _ _ => rfl) (Ok.refl _)
    clear hF
    go_simp
  · intro a' w' hF hR
    have e6 : a'.tmps[6]? = some (.pointer (some ⟨Bp, 0, none⟩)) := hF.slot 6 (by kernel_rfl) rfl
    obtain ⟨vg, hvg, eg⟩ := hF.get 4 275 (by kernel_rfl) (by kernel_rfl)
    obtain rfl : vg = _ := hvg _ (Ok.refl _)
    refine wpOp_runG (v := .pointer (some ⟨Bp, 2, none⟩)) rfl (wanted_yes rfl (by kernel_rfl) eg) ?_ (fun _ _ => rfl) (Ok.refl _)
    clear hF
    go_simp
  · intro a' w' hF hR
    obtain ⟨v11, hv11, e282⟩ := hF.get 11 282 (by kernel_rfl) (by kernel_rfl)
    obtain rfl : v11 = _ := hv11 _ (Ok.refl _)
    obtain ⟨vg, hvg, eg⟩ := hF.get 4 275 (by kernel_rfl) (by kernel_rfl)
    obtain rfl : vg = _ := hvg _ (Ok.refl _)
    obtain ⟨d2c, hPl, g17, g18, hGl⟩ := HC.out _ hR
    refine wpOp_runG (v := .int .i64 p.d) rfl (wanted_yes rfl (by kernel_rfl) eg) ?_ (fun _ _ => rfl) (Ok.refl _)
    clear hF
    go_simp
  · intro a' w' hF hR
    obtain ⟨v12, hv12, e283⟩ := hF.get 12 283 (by kernel_rfl) (by kernel_rfl)
    obtain rfl : v12 = _ := hv12 _ (Ok.refl _)
    obtain ⟨vg, hvg, eg⟩ := hF.get 4 275 (by kernel_rfl) (by kernel_rfl)
    obtain rfl : vg = _ := hvg _ (Ok.refl _)
    have hw2 := HV.out.2.1
    refine wpOp_runG (v := .int .i64 (p.d + 1)) rfl (wanted_yes rfl (by kernel_rfl) eg) ?_ (fun _ _ => rfl) (Ok.refl _)
    clear hF
    go_simp
  · intro a' w' hF hR
    obtain ⟨v10, hv10, e281⟩ := hF.get 10 281 (by kernel_rfl) (by kernel_rfl)
    obtain rfl : v10 = _ := hv10 _ (Ok.refl _)
    obtain ⟨v13, hv13, e284⟩ := hF.get 13 284 (by kernel_rfl) (by kernel_rfl)
    obtain rfl : v13 = _ := hv13 _ (Ok.refl _)
    obtain ⟨vg, hvg, eg⟩ := hF.get 4 275 (by kernel_rfl) (by kernel_rfl)
    obtain rfl : vg = _ := hvg _ (Ok.refl _)
    have hh := HV.out.2.2
    refine wpOp_runG (v := .bool true) rfl (wanted_yes rfl (by kernel_rfl) eg) ?_ (fun _ _ => rfl) (Ok.refl _)
    clear hF
    go_simp
  · intro a' w' hF hR
    obtain ⟨v4, hv4, e275⟩ := hF.get 4 275 (by kernel_rfl) (by kernel_rfl)
    obtain rfl : v4 = _ := hv4 _ (Ok.refl _)
    obtain ⟨v14, hv14, e285⟩ := hF.get 14 285 (by kernel_rfl) (by kernel_rfl)
    obtain rfl : v14 = _ := hv14 _ (Ok.refl _)
    refine wpOp_run (v := .bool true) rfl rfl ?_ (fun _ _ => rfl) (Ok.refl _)
    clear hF
    go_simp
  · intro a' w' hF hR
    obtain ⟨v15, hv15, e286⟩ := hF.get 15 286 (by kernel_rfl) (by kernel_rfl)
    obtain rfl : v15 = _ := hv15 _ (Ok.refl _)
    refine wpOp_run (v := .bool true) rfl rfl ?_ (fun _ _ => rfl) (Ok.refl _)
    clear hF
    go_simp
  · intro a' w' hF hR
    have e18 : a'.tmps[18]? = some (.pointer (some ⟨G, 0, none⟩)) := hF.slot 18 (by kernel_rfl) rfl
    obtain ⟨vg, hvg, eg⟩ := hF.get 16 287 (by kernel_rfl) (by kernel_rfl)
    obtain rfl : vg = _ := hvg _ (Ok.refl _)
    refine wpOp_runG (v := .pointer (some ⟨G, 0, none⟩)) rfl (wanted_yes rfl (by kernel_rfl) eg) ?_ (fun _ _ => rfl) (Ok.refl _)
    clear hF
    go_simp
  · intro a' w' hF hR
    obtain ⟨v17, hv17, e288⟩ := hF.get 17 288 (by kernel_rfl) (by kernel_rfl)
    obtain rfl : v17 = _ := hv17 _ (Ok.refl _)
    obtain ⟨vg, hvg, eg⟩ := hF.get 16 287 (by kernel_rfl) (by kernel_rfl)
    obtain rfl : vg = _ := hvg _ (Ok.refl _)
    refine wpOp_runG (v := .pointer (some ⟨G, 0, none⟩)) rfl (wanted_yes rfl (by kernel_rfl) eg) ?_ (fun _ _ => rfl) (Ok.refl _)
    clear hF
    go_simp
  · intro a' w' hF hR
    obtain ⟨v18, hv18, e289⟩ := hF.get 18 289 (by kernel_rfl) (by kernel_rfl)
    obtain rfl : v18 = _ := hv18 _ (Ok.refl _)
    obtain ⟨vg, hvg, eg⟩ := hF.get 16 287 (by kernel_rfl) (by kernel_rfl)
    obtain rfl : vg = _ := hvg _ (Ok.refl _)
    refine wpOp_runG (v := .pointer (some ⟨G, 0, none⟩)) rfl (wanted_yes rfl (by kernel_rfl) eg) ?_ (fun _ _ => rfl) (Ok.refl _)
    clear hF
    go_simp
  · intro a' w' hF hR
    obtain ⟨v19, hv19, e290⟩ := hF.get 19 290 (by kernel_rfl) (by kernel_rfl)
    obtain rfl : v19 = _ := hv19 _ (Ok.refl _)
    obtain ⟨vg, hvg, eg⟩ := hF.get 16 287 (by kernel_rfl) (by kernel_rfl)
    obtain rfl : vg = _ := hvg _ (Ok.refl _)
    refine wpOp_runG (v := .pointer (some ⟨G, 12, none⟩)) rfl (wanted_yes rfl (by kernel_rfl) eg) ?_ (fun _ _ => rfl) (Ok.refl _)
    clear hF
    go_simp
  · intro a' w' hF hR
    obtain ⟨v20, hv20, e291⟩ := hF.get 20 291 (by kernel_rfl) (by kernel_rfl)
    obtain rfl : v20 = _ := hv20 _ (Ok.refl _)
    obtain ⟨vg, hvg, eg⟩ := hF.get 16 287 (by kernel_rfl) (by kernel_rfl)
    obtain rfl : vg = _ := hvg _ (Ok.refl _)
    refine wpOp_runG (v := .pointer (some ⟨G, 18, none⟩)) rfl (wanted_yes rfl (by kernel_rfl) eg) ?_ (fun _ _ => rfl) (Ok.refl _)
    clear hF
    go_simp
  · intro a' w' hF hR
    obtain ⟨v21, hv21, e292⟩ := hF.get 21 292 (by kernel_rfl) (by kernel_rfl)
    obtain rfl : v21 = _ := hv21 _ (Ok.refl _)
    obtain ⟨vg, hvg, eg⟩ := hF.get 16 287 (by kernel_rfl) (by kernel_rfl)
    obtain rfl : vg = _ := hvg _ (Ok.refl _)
    obtain ⟨d2c, hPl, g17, g18, hGl⟩ := HC.out _ hR
    refine wpOp_runG (v := .bool false) rfl (wanted_yes rfl (by kernel_rfl) eg) ?_ (fun _ _ => rfl) (Ok.refl _)
    clear hF
    go_simp
  · intro a' w' hF hR
    obtain ⟨v22, hv22, e293⟩ := hF.get 22 293 (by kernel_rfl) (by kernel_rfl)
    obtain rfl : v22 = _ := hv22 _ (Ok.refl _)
    obtain ⟨vg, hvg, eg⟩ := hF.get 16 287 (by kernel_rfl) (by kernel_rfl)
    obtain rfl : vg = _ := hvg _ (Ok.refl _)
    refine wpOp_runG (v := .bool true) rfl (wanted_yes rfl (by kernel_rfl) eg) ?_ (fun _ _ => rfl) (Ok.refl _)
    clear hF
    go_simp
  · intro a' w' hF hR
    obtain ⟨v16, hv16, e287⟩ := hF.get 16 287 (by kernel_rfl) (by kernel_rfl)
    obtain rfl : v16 = _ := hv16 _ (Ok.refl _)
    obtain ⟨v23, hv23, e294⟩ := hF.get 23 294 (by kernel_rfl) (by kernel_rfl)
    obtain rfl : v23 = _ := hv23 _ (Ok.refl _)
    refine wpOp_run (v := .bool true) rfl rfl ?_ (fun _ _ => rfl) (Ok.refl _)
    clear hF
    go_simp
  · intro a' w' hF hR
    obtain ⟨v24, hv24, e295⟩ := hF.get 24 295 (by kernel_rfl) (by kernel_rfl)
    obtain rfl : v24 = _ := hv24 _ (Ok.refl _)
    refine wpOp_run (v := .bool true) rfl rfl ?_ (fun _ _ => rfl) (Ok.refl _)
    clear hF
    go_simp
  · intro a' w' hF hR
    obtain ⟨vg, hvg, eg⟩ := hF.get 25 296 (by kernel_rfl) (by kernel_rfl)
    obtain rfl : vg = _ := hvg _ (Ok.refl _)
    exact wpOp_skip rfl (wanted_not rfl (by kernel_rfl) eg (by simp)) (fun _ _ => rfl) (Ok.refl _)
  · intro a' w' hF hR
    obtain ⟨vg, hvg, eg⟩ := hF.get 25 296 (by kernel_rfl) (by kernel_rfl)
    obtain rfl : vg = _ := hvg _ (Ok.refl _)
    exact wpOp_skip rfl (wanted_not rfl (by kernel_rfl) eg (by simp)) (fun _ _ => rfl) (Ok.refl _)
  · intro a' w' hF hR
    obtain ⟨vg, hvg, eg⟩ := hF.get 25 296 (by kernel_rfl) (by kernel_rfl)
    obtain rfl : vg = _ := hvg _ (Ok.refl _)
    exact wpOp_skip rfl (wanted_not rfl (by kernel_rfl) eg (by simp)) (fun _ _ => rfl) (Ok.refl _)
  · intro a' w' hF hR
    obtain ⟨vg, hvg, eg⟩ := hF.get 25 296 (by kernel_rfl) (by kernel_rfl)
    obtain rfl : vg = _ := hvg _ (Ok.refl _)
    exact wpOp_skip rfl (wanted_not rfl (by kernel_rfl) eg (by simp)) (fun _ _ => rfl) (Ok.refl _)
  · intro a' w' hF hR
    obtain ⟨vg, hvg, eg⟩ := hF.get 25 296 (by kernel_rfl) (by kernel_rfl)
    obtain rfl : vg = _ := hvg _ (Ok.refl _)
    exact wpOp_skip rfl (wanted_not rfl (by kernel_rfl) eg (by simp)) (fun _ _ => rfl) (Ok.refl _)
  · intro a' w' hF hR
    obtain ⟨vg, hvg, eg⟩ := hF.get 30 301 (by kernel_rfl) (by kernel_rfl)
    obtain rfl : vg = _ := hvg _ (Ok.refl _)
    exact wpOp_skip rfl (wanted_not rfl (by kernel_rfl) eg (by simp [undef])) (fun _ _ => rfl) (Ok.refl _)
  · intro a' w' hF hR
    obtain ⟨vg, hvg, eg⟩ := hF.get 30 301 (by kernel_rfl) (by kernel_rfl)
    obtain rfl : vg = _ := hvg _ (Ok.refl _)
    exact wpOp_skip rfl (wanted_not rfl (by kernel_rfl) eg (by simp [undef])) (fun _ _ => rfl) (Ok.refl _)
  · intro a' w' hF hR
    obtain ⟨vg, hvg, eg⟩ := hF.get 30 301 (by kernel_rfl) (by kernel_rfl)
    obtain rfl : vg = _ := hvg _ (Ok.refl _)
    exact wpOp_skip rfl (wanted_not rfl (by kernel_rfl) eg (by simp [undef])) (fun _ _ => rfl) (Ok.refl _)
  · intro a' w' hF hR
    obtain ⟨vg, hvg, eg⟩ := hF.get 30 301 (by kernel_rfl) (by kernel_rfl)
    obtain rfl : vg = _ := hvg _ (Ok.refl _)
    exact wpOp_skip rfl (wanted_not rfl (by kernel_rfl) eg (by simp [undef])) (fun _ _ => rfl) (Ok.refl _)
  · intro a' w' hF hR
    obtain ⟨vg, hvg, eg⟩ := hF.get 30 301 (by kernel_rfl) (by kernel_rfl)
    obtain rfl : vg = _ := hvg _ (Ok.refl _)
    exact wpOp_skip rfl (wanted_not rfl (by kernel_rfl) eg (by simp [undef])) (fun _ _ => rfl) (Ok.refl _)
  · intro a' w' hF hR
    obtain ⟨vg, hvg, eg⟩ := hF.get 30 301 (by kernel_rfl) (by kernel_rfl)
    obtain rfl : vg = _ := hvg _ (Ok.refl _)
    exact wpOp_skip rfl (wanted_not rfl (by kernel_rfl) eg (by simp [undef])) (fun _ _ => rfl) (Ok.refl _)
  · intro a' w' hF hR
    obtain ⟨vg, hvg, eg⟩ := hF.get 30 301 (by kernel_rfl) (by kernel_rfl)
    obtain rfl : vg = _ := hvg _ (Ok.refl _)
    exact wpOp_skip rfl (wanted_not rfl (by kernel_rfl) eg (by simp [undef])) (fun _ _ => rfl) (Ok.refl _)
  · intro a' w' hF hR
    obtain ⟨vg, hvg, eg⟩ := hF.get 30 301 (by kernel_rfl) (by kernel_rfl)
    obtain rfl : vg = _ := hvg _ (Ok.refl _)
    exact wpOp_skip rfl (wanted_not rfl (by kernel_rfl) eg (by simp [undef])) (fun _ _ => rfl) (Ok.refl _)
  · intro a' w' hF hR
    obtain ⟨vg, hvg, eg⟩ := hF.get 30 301 (by kernel_rfl) (by kernel_rfl)
    obtain rfl : vg = _ := hvg _ (Ok.refl _)
    exact wpOp_skip rfl (wanted_not rfl (by kernel_rfl) eg (by simp [undef])) (fun _ _ => rfl) (Ok.refl _)
  · intro a' w' hF hR
    obtain ⟨vg, hvg, eg⟩ := hF.get 25 296 (by kernel_rfl) (by kernel_rfl)
    obtain rfl : vg = _ := hvg _ (Ok.refl _)
    exact wpOp_skip rfl (wanted_not rfl (by kernel_rfl) eg (by simp)) (fun _ _ => rfl) (Ok.refl _)
  · intro a' w' hF hR
    obtain ⟨vg, hvg, eg⟩ := hF.get 25 296 (by kernel_rfl) (by kernel_rfl)
    obtain rfl : vg = _ := hvg _ (Ok.refl _)
    exact wpOp_skip rfl (wanted_not rfl (by kernel_rfl) eg (by simp)) (fun _ _ => rfl) (Ok.refl _)
  · intro a' w' hF hR
    obtain ⟨vg, hvg, eg⟩ := hF.get 41 312 (by kernel_rfl) (by kernel_rfl)
    obtain rfl : vg = _ := hvg _ (Ok.refl _)
    exact wpOp_skip rfl (wanted_not rfl (by kernel_rfl) eg (by simp [undef])) (fun _ _ => rfl) (Ok.refl _)
  · intro a' w' hF hR
    obtain ⟨vg, hvg, eg⟩ := hF.get 41 312 (by kernel_rfl) (by kernel_rfl)
    obtain rfl : vg = _ := hvg _ (Ok.refl _)
    exact wpOp_skip rfl (wanted_not rfl (by kernel_rfl) eg (by simp [undef])) (fun _ _ => rfl) (Ok.refl _)
  · intro a' w' hF hR
    obtain ⟨vg, hvg, eg⟩ := hF.get 41 312 (by kernel_rfl) (by kernel_rfl)
    obtain rfl : vg = _ := hvg _ (Ok.refl _)
    exact wpOp_skip rfl (wanted_not rfl (by kernel_rfl) eg (by simp [undef])) (fun _ _ => rfl) (Ok.refl _)
  · intro a' w' hF hR
    obtain ⟨vg, hvg, eg⟩ := hF.get 41 312 (by kernel_rfl) (by kernel_rfl)
    obtain rfl : vg = _ := hvg _ (Ok.refl _)
    exact wpOp_skip rfl (wanted_not rfl (by kernel_rfl) eg (by simp [undef])) (fun _ _ => rfl) (Ok.refl _)
  · intro a' w' hF hR
    obtain ⟨vg, hvg, eg⟩ := hF.get 41 312 (by kernel_rfl) (by kernel_rfl)
    obtain rfl : vg = _ := hvg _ (Ok.refl _)
    exact wpOp_skip rfl (wanted_not rfl (by kernel_rfl) eg (by simp [undef])) (fun _ _ => rfl) (Ok.refl _)
  · intro a' w' hF hR
    obtain ⟨vg, hvg, eg⟩ := hF.get 41 312 (by kernel_rfl) (by kernel_rfl)
    obtain rfl : vg = _ := hvg _ (Ok.refl _)
    exact wpOp_skip rfl (wanted_not rfl (by kernel_rfl) eg (by simp [undef])) (fun _ _ => rfl) (Ok.refl _)
  · intro a' w' hF hR
    obtain ⟨vg, hvg, eg⟩ := hF.get 25 296 (by kernel_rfl) (by kernel_rfl)
    obtain rfl : vg = _ := hvg _ (Ok.refl _)
    exact wpOp_skip rfl (wanted_not rfl (by kernel_rfl) eg (by simp)) (fun _ _ => rfl) (Ok.refl _)
  · intro a' w' hF hR
    obtain ⟨v25, hv25, e296⟩ := hF.get 25 296 (by kernel_rfl) (by kernel_rfl)
    obtain rfl : v25 = _ := hv25 _ (Ok.refl _)
    obtain ⟨v48, hv48, e319⟩ := hF.get 48 319 (by kernel_rfl) (by kernel_rfl)
    obtain rfl : v48 = _ := hv48 _ (Ok.refl _)
    refine wpOp_run (v := .bool true) rfl rfl ?_ (fun _ _ => rfl) (Ok.refl _)
    clear hF
    go_simp
  · intro a' w' hF hR
    obtain ⟨v49, hv49, e320⟩ := hF.get 49 320 (by kernel_rfl) (by kernel_rfl)
    obtain rfl : v49 = _ := hv49 _ (Ok.refl _)
    refine wpOp_run (v := .bool true) rfl rfl ?_ (fun _ _ => rfl) (Ok.refl _)
    clear hF
    go_simp
  intro vs W7 hvs hR
  have e50 : vs 50 = .bool true := hvs 50 (by decide) _ (Ok.refl _)
  simp only [putFrom, e50]
  simp only [Act.put, List.setIfInBounds_toArray, List.set_cons_zero, List.set_cons_succ]
  refine HQ.out _ _ _ _ _ _ _ _ _ _ _ _ _ _ _ _ _ _ _ _ _ _ _ _ _ _ _ _ _ _ _ _ _ _ _ _ _ _ _ _ _ _ _ _ _ _ _ _ _ _ W7 ((Ok.refl W).drew.trans hR)
noncomputable def Rend31B : Code := (Tryz.f5.body.bind (regAt 31)).getD .skip
set_option maxHeartbeats 12800000 in
theorem end31B (Bp G : Nat) (p : Par) (u ho : Int) (W : World) {u0 u1 u2 u3 u4 u5 u7 u8 u9 u10 u11 u12 u13 u15 u16 u17 u19 u20 u21 u22 u23 u24 u25 u26 u27 u28 u29 u30 u31 u32 u33 u34 u35 u36 u37 u38 u39 u40 u41 u42 u43 u44 u45 u46 u47 u48 u49 u50 u51 u52 u53 u54 u55 u56 u57 u58 u59 u60 u61 u62 u63 u64 u65 u66 u67 u68 u69 u70 u71 u72 u73 u74 u75 u76 u77 u78 u79 u80 u81 u82 u83 u84 u85 u86 u87 u88 u89 u90 u91 u92 u93 u94 u95 u96 u97 u98 u99 u100 u101 u102 u103 u104 u105 u106 u107 u108 u109 u110 u111 u112 u113 u114 u115 u116 u117 u118 u119 u120 u121 u122 u123 u124 u125 u126 u127 u128 u129 u130 u131 u132 u133 u134 u135 u136 u137 u138 u139 u140 u141 u142 u143 u144 u145 u146 u147 u148 u149 u150 u151 u152 u153 u154 u155 u156 u157 u158 u159 u160 u161 u162 u163 u164 u165 u166 u167 u168 u169 u170 u171 u172 u173 u174 u175 u176 u177 u178 u179 u180 u181 u182 u183 u184 u185 u186 u187 u188 u189 u190 u191 u192 u193 u194 u195 u196 u197 u198 u199 u200 u201 u202 u203 u204 u205 u206 u207 u208 u209 u210 u211 u212 u213 u214 u215 u216 u217 u218 u219 u220 u221 u222 u223 u224 u225 u226 u227 u228 u229 u230 u231 u232 u233 u234 u235 u236 u237 u238 u239 u240 u241 u242 u243 u244 u245 u246 u247 u248 u249 u250 u251 u252 u253 u254 u255 u256 u257 u258 u259 u260 u261 u262 u263 u264 u265 u266 u267 u268 u269 u270 u271 u272 u273 u274 u275 u276 u277 u278 u279 u280 u281 u282 u283 u284 u285 u286 u287 u288 u289 u290 u291 u292 u293 u294 u295 u296 u297 u298 u299 u300 u301 u302 u303 u304 u305 u306 u307 u308 u309 u310 u311 u312 u313 u314 u315 u316 u317 u318 u319 u320 : Value} {Q : Exit → Act → World → Prop} (HC0 : Hid (∀ W', Ok W W' → W'.cell? ⟨Bp, 2, none⟩ = some (.int .i64 p.d) ∧ Bp < W'.heap.size ∧ W'.cell? ⟨G, 17, none⟩ = some (.int .i64 ho) ∧ W'.cell? ⟨G, 18, none⟩ = some (.bool true) ∧ G < W'.heap.size)) (HV : Hid (decide (p.d < u) = false ∧ decide (u ≤ p.d) = true ∧ IntKind.i64.wrap (u + 1) = u + 1 ∧ (ho == u + 1) = true)) (hQ : ∀ (v271 v272 v273 v274 v275 v276 v277 v278 v279 v280 v281 v282 v283 v284 v285 v286 v287 v288 v289 v290 v291 v292 v293 v294 v295 v296 v297 v298 v299 v300 v301 v302 v303 v304 v305 v306 v307 v308 v309 v310 v311 v312 v313 v314 v315 v316 v317 v318 v319 v320 : Value) (wx : World), Ok W wx → Q .normal ⟨#[u0, u1, u2, u3, u4, u5, .pointer (some ⟨Bp, 0, none⟩), u7, u8, u9, u10, u11, .bool true, u13, .int .i64 u, u15, u16, u17, .pointer (some ⟨G, 0, none⟩), u19, u20, u21, u22, u23, u24, u25, u26, u27, u28, u29, u30, u31, u32, u33, u34, u35, u36, u37, u38, u39, u40, u41, u42, u43, u44, u45, u46, u47, u48, u49, u50, u51, u52, u53, u54, u55, u56, u57, u58, u59, u60, u61, u62, u63, u64, u65, u66, u67, u68, u69, u70, u71, u72, u73, u74, u75, u76, u77, u78, u79, u80, u81, u82, u83, u84, u85, u86, u87, u88, u89, u90, u91, u92, u93, u94, u95, u96, u97, u98, u99, u100, u101, u102, u103, u104, u105, u106, u107, u108, u109, u110, u111, u112, u113, u114, u115, u116, u117, u118, u119, u120, u121, u122, u123, u124, u125, u126, u127, u128, u129, u130, u131, u132, u133, u134, u135, u136, u137, u138, u139, u140, u141, u142, u143, u144, u145, u146, u147, u148, u149, u150, u151, u152, u153, u154, u155, u156, u157, u158, u159, u160, u161, u162, u163, u164, u165, u166, u167, u168, u169, u170, u171, u172, u173, u174, u175, u176, u177, u178, u179, u180, u181, u182, u183, u184, u185, u186, u187, u188, u189, u190, u191, u192, u193, u194, u195, u196, u197, u198, u199, u200, u201, u202, u203, u204, u205, u206, u207, u208, u209, u210, u211, u212, u213, u214, u215, u216, u217, u218, u219, u220, u221, u222, u223, u224, u225, u226, u227, u228, u229, u230, u231, u232, u233, u234, u235, u236, u237, u238, u239, u240, u241, u242, u243, u244, u245, u246, u247, u248, u249, u250, u251, u252, u253, u254, u255, u256, u257, u258, u259, u260, u261, u262, u263, u264, u265, u266, u267, u268, u269, u270, v271, v272, v273, v274, v275, v276, v277, v278, v279, v280, v281, v282, v283, v284, v285, v286, v287, v288, v289, v290, v291, v292, v293, v294, v295, v296, v297, v298, v299, v300, v301, v302, v303, v304, v305, v306, v307, v308, v309, v310, v311, v312, v313, v314, v315, v316, v317, v318, v319, v320], []⟩ wx) :
    Code.wp Tryz.prog Rend31B Q ⟨#[u0, u1, u2, u3, u4, u5, .pointer (some ⟨Bp, 0, none⟩), u7, u8, u9, u10, u11, u12, u13, .int .i64 u, u15, u16, u17, .pointer (some ⟨G, 0, none⟩), u19, u20, u21, u22, u23, u24, u25, u26, u27, u28, u29, u30, u31, u32, u33, u34, u35, u36, u37, u38, u39, u40, u41, u42, u43, u44, u45, u46, u47, u48, u49, u50, u51, u52, u53, u54, u55, u56, u57, u58, u59, u60, u61, u62, u63, u64, u65, u66, u67, u68, u69, u70, u71, u72, u73, u74, u75, u76, u77, u78, u79, u80, u81, u82, u83, u84, u85, u86, u87, u88, u89, u90, u91, u92, u93, u94, u95, u96, u97, u98, u99, u100, u101, u102, u103, u104, u105, u106, u107, u108, u109, u110, u111, u112, u113, u114, u115, u116, u117, u118, u119, u120, u121, u122, u123, u124, u125, u126, u127, u128, u129, u130, u131, u132, u133, u134, u135, u136, u137, u138, u139, u140, u141, u142, u143, u144, u145, u146, u147, u148, u149, u150, u151, u152, u153, u154, u155, u156, u157, u158, u159, u160, u161, u162, u163, u164, u165, u166, u167, u168, u169, u170, u171, u172, u173, u174, u175, u176, u177, u178, u179, u180, u181, u182, u183, u184, u185, u186, u187, u188, u189, u190, u191, u192, u193, u194, u195, u196, u197, u198, u199, u200, u201, u202, u203, u204, u205, u206, u207, u208, u209, u210, u211, u212, u213, u214, u215, u216, u217, u218, u219, u220, u221, u222, u223, u224, u225, u226, u227, u228, u229, u230, u231, u232, u233, u234, u235, u236, u237, u238, u239, u240, u241, u242, u243, u244, u245, u246, u247, u248, u249, u250, u251, u252, u253, u254, u255, u256, u257, u258, u259, u260, u261, u262, u263, u264, u265, u266, u267, u268, u269, u270, u271, u272, u273, u274, u275, u276, u277, u278, u279, u280, u281, u282, u283, u284, u285, u286, u287, u288, u289, u290, u291, u292, u293, u294, u295, u296, u297, u298, u299, u300, u301, u302, u303, u304, u305, u306, u307, u308, u309, u310, u311, u312, u313, u314, u315, u316, u317, u318, u319, u320], []⟩ W := by
  conv => arg 2; whnf
  have HQ := Lib.hid hQ
  clear hQ
  have HC := Lib.hid fun W' (j : Ok W.drew W') => HC0.out _ ((Ok.refl W).drew.trans j)
  refine wp_region_facts (by kernel_rfl) 321 rfl (VCE31B Bp G p u ho) Ok (by kernel_rfl) (fun i v w w' h k w'' k' => h w'' (k.trans k')) (fun a b c => Ok.trans) (Ok.refl _) [some 271, some 272, some 273, some 274, some 275, some 276, some 277, some 278, some 279, some 280, some 281, some 282, some 283, some 284, some 285, some 286, some 287, some 288, some 289, some 290, some 291, some 292, some 293, some 294, some 295, some 296, some 297, some 298, some 299, some 300, some 301, some 302, some 303, some 304, some 305, some 306, some 307, some 308, some 309, some 310, some 311, some 312, some 313, some 314, some 315, some 316, some 317, some 318, some 319, some 320, some 12] rfl 51 rfl ⟨?_, ?_, ?_, ?_, ?_, ?_, ?_, ?_, ?_, ?_, ?_, ?_, ?_, ?_, ?_, ?_, ?_, ?_, ?_, ?_, ?_, ?_, ?_, ?_, ?_, ?_, ?_, ?_, ?_, ?_, ?_, ?_, ?_, ?_, ?_, ?_, ?_, ?_, ?_, ?_, ?_, ?_, ?_, ?_, ?_, ?_, ?_, ?_, ?_, ?_, ?_, trivial⟩ ?_
  · intro a' w' hF hR
    have e14 : a'.tmps[14]? = some (.int .i64 u) := hF.slot 14 (by kernel_rfl) rfl
    refine wpOp_run (v := .int .i64 u) rfl rfl ?_ (fun _ _ => rfl) (Ok.refl _)
    clear hF
    go_simp
  · intro a' w' hF hR
    have e6 : a'.tmps[6]? = some (.pointer (some ⟨Bp, 0, none⟩)) := hF.slot 6 (by kernel_rfl) rfl
    refine wpOp_run (v := .pointer (some ⟨Bp, 2, none⟩)) rfl rfl ?_ (fun _ _ => rfl) (Ok.refl _)
    clear hF
    go_simp
  · intro a' w' hF hR
    obtain ⟨v1, hv1, e272⟩ := hF.get 1 272 (by kernel_rfl) (by kernel_rfl)
    obtain rfl : v1 = _ := hv1 _ (Ok.refl _)
    obtain ⟨d2c, hPl, g17, g18, hGl⟩ := HC.out _ hR
    refine wpOp_run (v := .int .i64 p.d) rfl rfl ?_ (fun _ _ => rfl) (Ok.refl _)
    clear hF
    go_simp
  · intro a' w' hF hR
    obtain ⟨v0, hv0, e271⟩ := hF.get 0 271 (by kernel_rfl) (by kernel_rfl)
    obtain rfl : v0 = _ := hv0 _ (Ok.refl _)
    obtain ⟨v2, hv2, e273⟩ := hF.get 2 273 (by kernel_rfl) (by kernel_rfl)
    obtain rfl : v2 = _ := hv2 _ (Ok.refl _)
    have v1 := HV.out.1
    refine wpOp_run (v := .bool false) rfl rfl ?_ (fun _ _ => rfl) (Ok.refl _)
    clear hF
    go_simp
  · intro a' w' hF hR
    obtain ⟨v3, hv3, e274⟩ := hF.get 3 274 (by kernel_rfl) (by kernel_rfl)
    obtain rfl : v3 = _ := hv3 _ (Ok.refl _)
    refine wpOp_run (v := .bool false) rfl rfl ?_ (fun _ _ => rfl) (Ok.refl _)
    clear hF
    go_simp
  · intro a' w' hF hR
    obtain ⟨vg, hvg, eg⟩ := hF.get 4 275 (by kernel_rfl) (by kernel_rfl)
    obtain rfl : vg = _ := hvg _ (Ok.refl _)
    exact wpOp_skip rfl (wanted_not rfl (by kernel_rfl) eg (by simp)) (fun _ _ => rfl) (Ok.refl _)
  · intro a' w' hF hR
    obtain ⟨vg, hvg, eg⟩ := hF.get 4 275 (by kernel_rfl) (by kernel_rfl)
    obtain rfl : vg = _ := hvg _ (Ok.refl _)
    exact wpOp_skip rfl (wanted_not rfl (by kernel_rfl) eg (by simp)) (fun _ _ => rfl) (Ok.refl _)
  · intro a' w' hF hR
    obtain ⟨vg, hvg, eg⟩ := hF.get 4 275 (by kernel_rfl) (by kernel_rfl)
    obtain rfl : vg = _ := hvg _ (Ok.refl _)
    exact wpOp_skip rfl (wanted_not rfl (by kernel_rfl) eg (by simp)) (fun _ _ => rfl) (Ok.refl _)
  · intro a' w' hF hR
    obtain ⟨vg, hvg, eg⟩ := hF.get 4 275 (by kernel_rfl) (by kernel_rfl)
    obtain rfl : vg = _ := hvg _ (Ok.refl _)
    exact wpOp_skip rfl (wanted_not rfl (by kernel_rfl) eg (by simp)) (fun _ _ => rfl) (Ok.refl _)
  · intro a' w' hF hR
    obtain ⟨vg, hvg, eg⟩ := hF.get 4 275 (by kernel_rfl) (by kernel_rfl)
    obtain rfl : vg = _ := hvg _ (Ok.refl _)
    exact wpOp_skip rfl (wanted_not rfl (by kernel_rfl) eg (by simp)) (fun _ _ => rfl) (Ok.refl _)
  · intro a' w' hF hR
    obtain ⟨vg, hvg, eg⟩ := hF.get 4 275 (by kernel_rfl) (by kernel_rfl)
    obtain rfl : vg = _ := hvg _ (Ok.refl _)
    exact wpOp_skip rfl (wanted_not rfl (by kernel_rfl) eg (by simp)) (fun _ _ => rfl) (Ok.refl _)
  · intro a' w' hF hR
    obtain ⟨vg, hvg, eg⟩ := hF.get 4 275 (by kernel_rfl) (by kernel_rfl)
    obtain rfl : vg = _ := hvg _ (Ok.refl _)
    exact wpOp_skip rfl (wanted_not rfl (by kernel_rfl) eg (by simp)) (fun _ _ => rfl) (Ok.refl _)
  · intro a' w' hF hR
    obtain ⟨vg, hvg, eg⟩ := hF.get 4 275 (by kernel_rfl) (by kernel_rfl)
    obtain rfl : vg = _ := hvg _ (Ok.refl _)
    exact wpOp_skip rfl (wanted_not rfl (by kernel_rfl) eg (by simp)) (fun _ _ => rfl) (Ok.refl _)
  · intro a' w' hF hR
    obtain ⟨vg, hvg, eg⟩ := hF.get 4 275 (by kernel_rfl) (by kernel_rfl)
    obtain rfl : vg = _ := hvg _ (Ok.refl _)
    exact wpOp_skip rfl (wanted_not rfl (by kernel_rfl) eg (by simp)) (fun _ _ => rfl) (Ok.refl _)
  · intro a' w' hF hR
    obtain ⟨vg, hvg, eg⟩ := hF.get 4 275 (by kernel_rfl) (by kernel_rfl)
    obtain rfl : vg = _ := hvg _ (Ok.refl _)
    exact wpOp_skip rfl (wanted_not rfl (by kernel_rfl) eg (by simp)) (fun _ _ => rfl) (Ok.refl _)
  · intro a' w' hF hR
    obtain ⟨v4, hv4, e275⟩ := hF.get 4 275 (by kernel_rfl) (by kernel_rfl)
    obtain rfl : v4 = _ := hv4 _ (Ok.refl _)
    obtain ⟨v14, hv14, e285⟩ := hF.get 14 285 (by kernel_rfl) (by kernel_rfl)
    obtain rfl : v14 = _ := hv14 _ (Ok.refl _)
    refine wpOp_run (v := .bool false) rfl rfl ?_ (fun _ _ => rfl) (Ok.refl _)
    clear hF
    go_simp
  · intro a' w' hF hR
    obtain ⟨v15, hv15, e286⟩ := hF.get 15 286 (by kernel_rfl) (by kernel_rfl)
    obtain rfl : v15 = _ := hv15 _ (Ok.refl _)
    refine wpOp_run (v := .bool false) rfl rfl ?_ (fun _ _ => rfl) (Ok.refl _)
    clear hF
    go_simp
  · intro a' w' hF hR
    obtain ⟨vg, hvg, eg⟩ := hF.get 16 287 (by kernel_rfl) (by kernel_rfl)
    obtain rfl : vg = _ := hvg _ (Ok.refl _)
    exact wpOp_skip rfl (wanted_not rfl (by kernel_rfl) eg (by simp)) (fun _ _ => rfl) (Ok.refl _)
  · intro a' w' hF hR
    obtain ⟨vg, hvg, eg⟩ := hF.get 16 287 (by kernel_rfl) (by kernel_rfl)
    obtain rfl : vg = _ := hvg _ (Ok.refl _)
    exact wpOp_skip rfl (wanted_not rfl (by kernel_rfl) eg (by simp)) (fun _ _ => rfl) (Ok.refl _)
  · intro a' w' hF hR
    obtain ⟨vg, hvg, eg⟩ := hF.get 16 287 (by kernel_rfl) (by kernel_rfl)
    obtain rfl : vg = _ := hvg _ (Ok.refl _)
    exact wpOp_skip rfl (wanted_not rfl (by kernel_rfl) eg (by simp)) (fun _ _ => rfl) (Ok.refl _)
  · intro a' w' hF hR
    obtain ⟨vg, hvg, eg⟩ := hF.get 16 287 (by kernel_rfl) (by kernel_rfl)
    obtain rfl : vg = _ := hvg _ (Ok.refl _)
    exact wpOp_skip rfl (wanted_not rfl (by kernel_rfl) eg (by simp)) (fun _ _ => rfl) (Ok.refl _)
  · intro a' w' hF hR
    obtain ⟨vg, hvg, eg⟩ := hF.get 16 287 (by kernel_rfl) (by kernel_rfl)
    obtain rfl : vg = _ := hvg _ (Ok.refl _)
    exact wpOp_skip rfl (wanted_not rfl (by kernel_rfl) eg (by simp)) (fun _ _ => rfl) (Ok.refl _)
  · intro a' w' hF hR
    obtain ⟨vg, hvg, eg⟩ := hF.get 16 287 (by kernel_rfl) (by kernel_rfl)
    obtain rfl : vg = _ := hvg _ (Ok.refl _)
    exact wpOp_skip rfl (wanted_not rfl (by kernel_rfl) eg (by simp)) (fun _ _ => rfl) (Ok.refl _)
  · intro a' w' hF hR
    obtain ⟨vg, hvg, eg⟩ := hF.get 16 287 (by kernel_rfl) (by kernel_rfl)
    obtain rfl : vg = _ := hvg _ (Ok.refl _)
    exact wpOp_skip rfl (wanted_not rfl (by kernel_rfl) eg (by simp)) (fun _ _ => rfl) (Ok.refl _)
  · intro a' w' hF hR
    obtain ⟨v16, hv16, e287⟩ := hF.get 16 287 (by kernel_rfl) (by kernel_rfl)
    obtain rfl : v16 = _ := hv16 _ (Ok.refl _)
    obtain ⟨v23, hv23, e294⟩ := hF.get 23 294 (by kernel_rfl) (by kernel_rfl)
    obtain rfl : v23 = _ := hv23 _ (Ok.refl _)
    refine wpOp_run (v := .bool false) rfl rfl ?_ (fun _ _ => rfl) (Ok.refl _)
    clear hF
    go_simp
  · intro a' w' hF hR
    obtain ⟨v24, hv24, e295⟩ := hF.get 24 295 (by kernel_rfl) (by kernel_rfl)
    obtain rfl : v24 = _ := hv24 _ (Ok.refl _)
    refine wpOp_run (v := .bool false) rfl rfl ?_ (fun _ _ => rfl) (Ok.refl _)
    clear hF
    go_simp
  · intro a' w' hF hR
    have e14 : a'.tmps[14]? = some (.int .i64 u) := hF.slot 14 (by kernel_rfl) rfl
    obtain ⟨vg, hvg, eg⟩ := hF.get 25 296 (by kernel_rfl) (by kernel_rfl)
    obtain rfl : vg = _ := hvg _ (Ok.refl _)
    refine wpOp_runG (v := .int .i64 u) rfl (wanted_yes rfl (by kernel_rfl) eg) ?_ (fun _ _ => rfl) (Ok.refl _)
    clear hF
    go_simp
  · intro a' w' hF hR
    have e6 : a'.tmps[6]? = some (.pointer (some ⟨Bp, 0, none⟩)) := hF.slot 6 (by kernel_rfl) rfl
    obtain ⟨vg, hvg, eg⟩ := hF.get 25 296 (by kernel_rfl) (by kernel_rfl)
    obtain rfl : vg = _ := hvg _ (Ok.refl _)
    refine wpOp_runG (v := .pointer (some ⟨Bp, 2, none⟩)) rfl (wanted_yes rfl (by kernel_rfl) eg) ?_ (fun _ _ => rfl) (Ok.refl _)
    clear hF
    go_simp
  · intro a' w' hF hR
    obtain ⟨v27, hv27, e298⟩ := hF.get 27 298 (by kernel_rfl) (by kernel_rfl)
    obtain rfl : v27 = _ := hv27 _ (Ok.refl _)
    obtain ⟨vg, hvg, eg⟩ := hF.get 25 296 (by kernel_rfl) (by kernel_rfl)
    obtain rfl : vg = _ := hvg _ (Ok.refl _)
    obtain ⟨d2c, hPl, g17, g18, hGl⟩ := HC.out _ hR
    refine wpOp_runG (v := .int .i64 p.d) rfl (wanted_yes rfl (by kernel_rfl) eg) ?_ (fun _ _ => rfl) (Ok.refl _)
    clear hF
    go_simp
  · intro a' w' hF hR
    obtain ⟨v26, hv26, e297⟩ := hF.get 26 297 (by kernel_rfl) (by kernel_rfl)
    obtain rfl : v26 = _ := hv26 _ (Ok.refl _)
    obtain ⟨v28, hv28, e299⟩ := hF.get 28 299 (by kernel_rfl) (by kernel_rfl)
    obtain rfl : v28 = _ := hv28 _ (Ok.refl _)
    obtain ⟨vg, hvg, eg⟩ := hF.get 25 296 (by kernel_rfl) (by kernel_rfl)
    obtain rfl : vg = _ := hvg _ (Ok.refl _)
    have v2 := HV.out.2.1
    refine wpOp_runG (v := .bool true) rfl (wanted_yes rfl (by kernel_rfl) eg) ?_ (fun _ _ => rfl) (Ok.refl _)
    clear hF
    go_simp
  · intro a' w' hF hR
    obtain ⟨v29, hv29, e300⟩ := hF.get 29 300 (by kernel_rfl) (by kernel_rfl)
    obtain rfl : v29 = _ := hv29 _ (Ok.refl _)
    obtain ⟨vg, hvg, eg⟩ := hF.get 25 296 (by kernel_rfl) (by kernel_rfl)
    obtain rfl : vg = _ := hvg _ (Ok.refl _)
    refine wpOp_runG (v := .bool true) rfl (wanted_yes rfl (by kernel_rfl) eg) ?_ (fun _ _ => rfl) (Ok.refl _)
    clear hF
    go_simp
  · intro a' w' hF hR
    have e18 : a'.tmps[18]? = some (.pointer (some ⟨G, 0, none⟩)) := hF.slot 18 (by kernel_rfl) rfl
    obtain ⟨vg, hvg, eg⟩ := hF.get 30 301 (by kernel_rfl) (by kernel_rfl)
    obtain rfl : vg = _ := hvg _ (Ok.refl _)
    refine wpOp_runG (v := .pointer (some ⟨G, 0, none⟩)) rfl (wanted_yes rfl (by kernel_rfl) eg) ?_ (fun _ _ => rfl) (Ok.refl _)
    clear hF
    go_simp
  · intro a' w' hF hR
    obtain ⟨v31, hv31, e302⟩ := hF.get 31 302 (by kernel_rfl) (by kernel_rfl)
    obtain rfl : v31 = _ := hv31 _ (Ok.refl _)
    obtain ⟨vg, hvg, eg⟩ := hF.get 30 301 (by kernel_rfl) (by kernel_rfl)
    obtain rfl : vg = _ := hvg _ (Ok.refl _)
    refine wpOp_runG (v := .pointer (some ⟨G, 0, none⟩)) rfl (wanted_yes rfl (by kernel_rfl) eg) ?_ (fun _ _ => rfl) (Ok.refl _)
    clear hF
    go_simp
  · intro a' w' hF hR
    obtain ⟨v32, hv32, e303⟩ := hF.get 32 303 (by kernel_rfl) (by kernel_rfl)
    obtain rfl : v32 = _ := hv32 _ (Ok.refl _)
    obtain ⟨vg, hvg, eg⟩ := hF.get 30 301 (by kernel_rfl) (by kernel_rfl)
    obtain rfl : vg = _ := hvg _ (Ok.refl _)
    refine wpOp_runG (v := .pointer (some ⟨G, 0, none⟩)) rfl (wanted_yes rfl (by kernel_rfl) eg) ?_ (fun _ _ => rfl) (Ok.refl _)
    clear hF
    go_simp
  · intro a' w' hF hR
    obtain ⟨v33, hv33, e304⟩ := hF.get 33 304 (by kernel_rfl) (by kernel_rfl)
    obtain rfl : v33 = _ := hv33 _ (Ok.refl _)
    obtain ⟨vg, hvg, eg⟩ := hF.get 30 301 (by kernel_rfl) (by kernel_rfl)
    obtain rfl : vg = _ := hvg _ (Ok.refl _)
    refine wpOp_runG (v := .pointer (some ⟨G, 12, none⟩)) rfl (wanted_yes rfl (by kernel_rfl) eg) ?_ (fun _ _ => rfl) (Ok.refl _)
    clear hF
    go_simp
  · intro a' w' hF hR
    obtain ⟨v34, hv34, e305⟩ := hF.get 34 305 (by kernel_rfl) (by kernel_rfl)
    obtain rfl : v34 = _ := hv34 _ (Ok.refl _)
    obtain ⟨vg, hvg, eg⟩ := hF.get 30 301 (by kernel_rfl) (by kernel_rfl)
    obtain rfl : vg = _ := hvg _ (Ok.refl _)
    refine wpOp_runG (v := .pointer (some ⟨G, 17, none⟩)) rfl (wanted_yes rfl (by kernel_rfl) eg) ?_ (fun _ _ => rfl) (Ok.refl _)
    clear hF
    go_simp
  · intro a' w' hF hR
    obtain ⟨v35, hv35, e306⟩ := hF.get 35 306 (by kernel_rfl) (by kernel_rfl)
    obtain rfl : v35 = _ := hv35 _ (Ok.refl _)
    obtain ⟨vg, hvg, eg⟩ := hF.get 30 301 (by kernel_rfl) (by kernel_rfl)
    obtain rfl : vg = _ := hvg _ (Ok.refl _)
    obtain ⟨d2c, hPl, g17, g18, hGl⟩ := HC.out _ hR
    refine wpOp_runG (v := .int .i64 ho) rfl (wanted_yes rfl (by kernel_rfl) eg) ?_ (fun _ _ => rfl) (Ok.refl _)
    clear hF
    go_simp
  · intro a' w' hF hR
    have e14 : a'.tmps[14]? = some (.int .i64 u) := hF.slot 14 (by kernel_rfl) rfl
    obtain ⟨vg, hvg, eg⟩ := hF.get 30 301 (by kernel_rfl) (by kernel_rfl)
    obtain rfl : vg = _ := hvg _ (Ok.refl _)
    refine wpOp_runG (v := .int .i64 u) rfl (wanted_yes rfl (by kernel_rfl) eg) ?_ (fun _ _ => rfl) (Ok.refl _)
    clear hF
    go_simp
  · intro a' w' hF hR
    obtain ⟨v37, hv37, e308⟩ := hF.get 37 308 (by kernel_rfl) (by kernel_rfl)
    obtain rfl : v37 = _ := hv37 _ (Ok.refl _)
    obtain ⟨vg, hvg, eg⟩ := hF.get 30 301 (by kernel_rfl) (by kernel_rfl)
    obtain rfl : vg = _ := hvg _ (Ok.refl _)
    have hw3 := HV.out.2.2.1
    refine wpOp_runG (v := .int .i64 (u + 1)) rfl (wanted_yes rfl (by kernel_rfl) eg) ?_ (fun _ _ => rfl) (Ok.refl _)
    clear hF
    go_simp
  · intro a' w' hF hR
    obtain ⟨v36, hv36, e307⟩ := hF.get 36 307 (by kernel_rfl) (by kernel_rfl)
    obtain rfl : v36 = _ := hv36 _ (Ok.refl _)
    obtain ⟨v38, hv38, e309⟩ := hF.get 38 309 (by kernel_rfl) (by kernel_rfl)
    obtain rfl : v38 = _ := hv38 _ (Ok.refl _)
    obtain ⟨vg, hvg, eg⟩ := hF.get 30 301 (by kernel_rfl) (by kernel_rfl)
    obtain rfl : vg = _ := hvg _ (Ok.refl _)
    have hh := HV.out.2.2.2
    refine wpOp_runG (v := .bool true) rfl (wanted_yes rfl (by kernel_rfl) eg) ?_ (fun _ _ => rfl) (Ok.refl _)
    clear hF
    go_simp
  · intro a' w' hF hR
    obtain ⟨v30, hv30, e301⟩ := hF.get 30 301 (by kernel_rfl) (by kernel_rfl)
    obtain rfl : v30 = _ := hv30 _ (Ok.refl _)
    obtain ⟨v39, hv39, e310⟩ := hF.get 39 310 (by kernel_rfl) (by kernel_rfl)
    obtain rfl : v39 = _ := hv39 _ (Ok.refl _)
    obtain ⟨vg, hvg, eg⟩ := hF.get 25 296 (by kernel_rfl) (by kernel_rfl)
    obtain rfl : vg = _ := hvg _ (Ok.refl _)
    refine wpOp_runG (v := .bool true) rfl (wanted_yes rfl (by kernel_rfl) eg) ?_ (fun _ _ => rfl) (Ok.refl _)
    clear hF
    go_simp
  · intro a' w' hF hR
    obtain ⟨v40, hv40, e311⟩ := hF.get 40 311 (by kernel_rfl) (by kernel_rfl)
    obtain rfl : v40 = _ := hv40 _ (Ok.refl _)
    obtain ⟨vg, hvg, eg⟩ := hF.get 25 296 (by kernel_rfl) (by kernel_rfl)
    obtain rfl : vg = _ := hvg _ (Ok.refl _)
    refine wpOp_runG (v := .bool true) rfl (wanted_yes rfl (by kernel_rfl) eg) ?_ (fun _ _ => rfl) (Ok.refl _)
    clear hF
    go_simp
  · intro a' w' hF hR
    have e18 : a'.tmps[18]? = some (.pointer (some ⟨G, 0, none⟩)) := hF.slot 18 (by kernel_rfl) rfl
    obtain ⟨vg, hvg, eg⟩ := hF.get 41 312 (by kernel_rfl) (by kernel_rfl)
    obtain rfl : vg = _ := hvg _ (Ok.refl _)
    refine wpOp_runG (v := .pointer (some ⟨G, 0, none⟩)) rfl (wanted_yes rfl (by kernel_rfl) eg) ?_ (fun _ _ => rfl) (Ok.refl _)
    clear hF
    go_simp
  · intro a' w' hF hR
    obtain ⟨v42, hv42, e313⟩ := hF.get 42 313 (by kernel_rfl) (by kernel_rfl)
    obtain rfl : v42 = _ := hv42 _ (Ok.refl _)
    obtain ⟨vg, hvg, eg⟩ := hF.get 41 312 (by kernel_rfl) (by kernel_rfl)
    obtain rfl : vg = _ := hvg _ (Ok.refl _)
    refine wpOp_runG (v := .pointer (some ⟨G, 0, none⟩)) rfl (wanted_yes rfl (by kernel_rfl) eg) ?_ (fun _ _ => rfl) (Ok.refl _)
    clear hF
    go_simp
  · intro a' w' hF hR
    obtain ⟨v43, hv43, e314⟩ := hF.get 43 314 (by kernel_rfl) (by kernel_rfl)
    obtain rfl : v43 = _ := hv43 _ (Ok.refl _)
    obtain ⟨vg, hvg, eg⟩ := hF.get 41 312 (by kernel_rfl) (by kernel_rfl)
    obtain rfl : vg = _ := hvg _ (Ok.refl _)
    refine wpOp_runG (v := .pointer (some ⟨G, 0, none⟩)) rfl (wanted_yes rfl (by kernel_rfl) eg) ?_ (fun _ _ => rfl) (Ok.refl _)
    clear hF
    go_simp
  · intro a' w' hF hR
    obtain ⟨v44, hv44, e315⟩ := hF.get 44 315 (by kernel_rfl) (by kernel_rfl)
    obtain rfl : v44 = _ := hv44 _ (Ok.refl _)
    obtain ⟨vg, hvg, eg⟩ := hF.get 41 312 (by kernel_rfl) (by kernel_rfl)
    obtain rfl : vg = _ := hvg _ (Ok.refl _)
    refine wpOp_runG (v := .pointer (some ⟨G, 12, none⟩)) rfl (wanted_yes rfl (by kernel_rfl) eg) ?_ (fun _ _ => rfl) (Ok.refl _)
    clear hF
    go_simp
  · intro a' w' hF hR
    obtain ⟨v45, hv45, e316⟩ := hF.get 45 316 (by kernel_rfl) (by kernel_rfl)
    obtain rfl : v45 = _ := hv45 _ (Ok.refl _)
    obtain ⟨vg, hvg, eg⟩ := hF.get 41 312 (by kernel_rfl) (by kernel_rfl)
    obtain rfl : vg = _ := hvg _ (Ok.refl _)
    refine wpOp_runG (v := .pointer (some ⟨G, 18, none⟩)) rfl (wanted_yes rfl (by kernel_rfl) eg) ?_ (fun _ _ => rfl) (Ok.refl _)
    clear hF
    go_simp
  · intro a' w' hF hR
    obtain ⟨v46, hv46, e317⟩ := hF.get 46 317 (by kernel_rfl) (by kernel_rfl)
    obtain rfl : v46 = _ := hv46 _ (Ok.refl _)
    obtain ⟨vg, hvg, eg⟩ := hF.get 41 312 (by kernel_rfl) (by kernel_rfl)
    obtain rfl : vg = _ := hvg _ (Ok.refl _)
    obtain ⟨d2c, hPl, g17, g18, hGl⟩ := HC.out _ hR
    refine wpOp_runG (v := .bool true) rfl (wanted_yes rfl (by kernel_rfl) eg) ?_ (fun _ _ => rfl) (Ok.refl _)
    clear hF
    go_simp
  · intro a' w' hF hR
    obtain ⟨v41, hv41, e312⟩ := hF.get 41 312 (by kernel_rfl) (by kernel_rfl)
    obtain rfl : v41 = _ := hv41 _ (Ok.refl _)
    obtain ⟨v47, hv47, e318⟩ := hF.get 47 318 (by kernel_rfl) (by kernel_rfl)
    obtain rfl : v47 = _ := hv47 _ (Ok.refl _)
    obtain ⟨vg, hvg, eg⟩ := hF.get 25 296 (by kernel_rfl) (by kernel_rfl)
    obtain rfl : vg = _ := hvg _ (Ok.refl _)
    refine wpOp_runG (v := .bool true) rfl (wanted_yes rfl (by kernel_rfl) eg) ?_ (fun _ _ => rfl) (Ok.refl _)
    clear hF
    go_simp
  · intro a' w' hF hR
    obtain ⟨v25, hv25, e296⟩ := hF.get 25 296 (by kernel_rfl) (by kernel_rfl)
    obtain rfl : v25 = _ := hv25 _ (Ok.refl _)
    obtain ⟨v48, hv48, e319⟩ := hF.get 48 319 (by kernel_rfl) (by kernel_rfl)
    obtain rfl : v48 = _ := hv48 _ (Ok.refl _)
    refine wpOp_run (v := .bool true) rfl rfl ?_ (fun _ _ => rfl) (Ok.refl _)
    clear hF
    go_simp
  · intro a' w' hF hR
    obtain ⟨v49, hv49, e320⟩ := hF.get 49 320 (by kernel_rfl) (by kernel_rfl)
    obtain rfl : v49 = _ := hv49 _ (Ok.refl _)
    refine wpOp_run (v := .bool true) rfl rfl ?_ (fun _ _ => rfl) (Ok.refl _)
    clear hF
    go_simp
  intro vs W7 hvs hR
  have e50 : vs 50 = .bool true := hvs 50 (by decide) _ (Ok.refl _)
  simp only [putFrom, e50]
  simp only [Act.put, List.setIfInBounds_toArray, List.set_cons_zero, List.set_cons_succ]
  refine HQ.out _ _ _ _ _ _ _ _ _ _ _ _ _ _ _ _ _ _ _ _ _ _ _ _ _ _ _ _ _ _ _ _ _ _ _ _ _ _ _ _ _ _ _ _ _ _ _ _ _ _ W7 ((Ok.refl W).drew.trans hR)
/-- What each operation leaves. -/
def VMNFa (Z KK xb xo hl cH : Nat) (k : Nat) (now le mo hd hv : Int) (w : World) (v : Value) : Nat → Prop
  | 0 => v = .int .i64 (k : Int)
  | 1 => v = .int .i64 (21 + (k : Int))
  | 2 => v = .int .i64 now
  | 3 => v = .pointer (some ⟨Z, 0, none⟩)
  | 4 => v = .int .i64 le
  | 5 => v = .int .i64 (now - le)
  | 6 => v = .int .i64 now
  | 7 => v = .pointer (some ⟨Z, 1, none⟩)
  | 8 => v = .int .i64 mo
  | 9 => v = .int .i64 (now + mo)
  | 10 => v = .agg #[.int .i64 (now - le), .int .i64 (now + mo)]
  | 11 => v = .pointer (some ⟨Z, 4, none⟩)
  | 12 => v = .int .i64 hd
  | 13 => v = .slice (some ⟨xb, xo, none⟩) hl cH
  | 14 => v = .int .i64 (k : Int)
  | 15 => v = .pointer (some ⟨xb, xo + k, none⟩)
  | 16 => v = .int .i64 hv
  | 17 => v = .agg #[.int .i64 2, .int .i64 (21 + (k : Int)), .int .i64 (now - le), .int .i64 (now + mo), .int .i64 hd, .int .i64 hv, .bool true, .bool false, .int .i64 0, .int .i64 0, .int .i64 0, .int .i64 0, .int .i64 0, .slice none 0 0]
  | 18 => ∃ g : Nat, v = .pointer (some ⟨g, 0, none⟩) ∧ Own w g #[.int .i64 0, .int .i64 0, .int .i64 0, .int .i64 0, .int .i64 0, .int .i64 0, .bool false, .bool false, .int .i64 0, .int .i64 0, .int .i64 0, .int .i64 0, .int .i64 0, .slice none 0 0] ∧ KK ≤ g
  | _ => v = .bool true
/-- It stays so. -/
def VCNFa (Z KK xb xo hl cH : Nat) (k : Nat) (now le mo hd hv : Int) (i : Nat) (v : Value) (w : World) : Prop := ∀ w', Ok w w' → VMNFa Z KK xb xo hl cH k now le mo hd hv w' v i
noncomputable def Rtell14 : Code := (Tryz.f5.body.bind (regAt 14)).getD .skip
set_option maxHeartbeats 12800000 in
theorem tell14 (Z xb xo : Nat) (hs : List Int) (cH k : Nat) (now le mo wy of hd hv : Int) (W : World) {u0 u1 u3 u5 u6 u7 u8 u9 u10 u11 u12 u13 u14 u17 u18 u19 u20 u21 u22 u23 u24 u25 u26 u27 u28 u29 u30 u31 u32 u33 u34 u35 u36 u37 u38 u39 u40 u41 u42 u43 u44 u45 u46 u47 u48 u49 u50 u51 u52 u53 u54 u55 u56 u57 u58 u59 u60 u61 u62 u63 u64 u65 u66 u67 u68 u69 u70 u71 u72 u73 u74 u75 u76 u77 u78 u79 u80 u81 u82 u83 u84 u85 u86 u87 u88 u89 u90 u91 u92 u93 u94 u95 u96 u97 u98 u99 u100 u101 u102 u103 u104 u105 u106 u107 u108 u109 u110 u111 u112 u113 u114 u115 u116 u117 u118 u119 u120 u121 u122 u123 u124 u125 u126 u127 u128 u129 u130 u131 u132 u133 u134 u135 u136 u137 u138 u139 u140 u141 u142 u143 u144 u145 u146 u147 u148 u149 u150 u151 u152 u153 u154 u155 u156 u157 u158 u159 u160 u161 u162 u163 u164 u165 u166 u167 u168 u169 u170 u171 u172 u173 u174 u175 u176 u177 u178 u179 u180 u181 u182 u183 u184 u185 u186 u187 u188 u189 u190 u191 u192 u193 u194 u195 u196 u197 u198 u199 u200 u201 u202 u203 u204 u205 u206 u207 u208 u209 u210 u211 u212 u213 u214 u215 u216 u217 u218 u219 u220 u221 u222 u223 u224 u225 u226 u227 u228 u229 u230 u231 u232 u233 u234 u235 u236 u237 u238 u239 u240 u241 u242 u243 u244 u245 u246 u247 u248 u249 u250 u251 u252 u253 u254 u255 u256 u257 u258 u259 u260 u261 u262 u263 u264 u265 u266 u267 u268 u269 u270 u271 u272 u273 u274 u275 u276 u277 u278 u279 u280 u281 u282 u283 u284 u285 u286 u287 u288 u289 u290 u291 u292 u293 u294 u295 u296 u297 u298 u299 u300 u301 u302 u303 u304 u305 u306 u307 u308 u309 u310 u311 u312 u313 u314 u315 u316 u317 u318 u319 u320 : Value} {Q : Exit → Act → World → Prop} (hZ : Own W Z #[.int .i64 le, .int .i64 mo, .int .i64 wy, .int .i64 of, .int .i64 hd]) (HXC : Hid (∀ W', Ok W W' → W'.cell? ⟨xb, xo + k, none⟩ = some (.int .i64 hv) ∧ xb < W'.heap.size)) (HW3 : Hid (IntKind.i64.wrap (now - le) = now - le)) (HW5 : Hid (IntKind.i64.wrap (now + mo) = now + mo)) (HKB : Hid ((k : Int) < 12)) (HKL : Hid ((k : Int) < (hs.length : Int))) (hQ : ∀ (v180 v181 v182 v183 v184 v185 v186 v187 v188 v189 v190 v191 v192 v193 v194 v195 v196 v197 : Value) (Y : Nat) (W4 : World), Own W4 Y #[.int .i64 2, .int .i64 (21 + (k : Int)), .int .i64 (now - le), .int .i64 (now + mo), .int .i64 hd, .int .i64 hv, .bool true, .bool false, .int .i64 0, .int .i64 0, .int .i64 0, .int .i64 0, .int .i64 0, .slice none 0 0] → W.heap.size ≤ Y → Ok W W4 → Q .normal ⟨#[u0, u1, .int .i64 now, u3, .slice (some ⟨xb, xo, none⟩) hs.length cH, u5, u6, u7, u8, u9, u10, u11, u12, u13, u14, .int .i64 (k : Int), .pointer (some ⟨Z, 0, none⟩), .pointer (some ⟨Y, 0, none⟩), u18, u19, u20, u21, u22, u23, u24, u25, u26, u27, u28, u29, u30, u31, u32, u33, u34, u35, u36, u37, u38, u39, u40, u41, u42, u43, u44, u45, u46, u47, u48, u49, u50, u51, u52, u53, u54, u55, u56, u57, u58, u59, u60, u61, u62, u63, u64, u65, u66, u67, u68, u69, u70, u71, u72, u73, u74, u75, u76, u77, u78, u79, u80, u81, u82, u83, u84, u85, u86, u87, u88, u89, u90, u91, u92, u93, u94, u95, u96, u97, u98, u99, u100, u101, u102, u103, u104, u105, u106, u107, u108, u109, u110, u111, u112, u113, u114, u115, u116, u117, u118, u119, u120, u121, u122, u123, u124, u125, u126, u127, u128, u129, u130, u131, u132, u133, u134, u135, u136, u137, u138, u139, u140, u141, u142, u143, u144, u145, u146, u147, u148, u149, u150, u151, u152, u153, u154, u155, u156, u157, u158, u159, u160, u161, u162, u163, u164, u165, u166, u167, u168, u169, u170, u171, u172, u173, u174, u175, u176, u177, u178, u179, v180, v181, v182, v183, v184, v185, v186, v187, v188, v189, v190, v191, v192, v193, v194, v195, v196, v197, u198, u199, u200, u201, u202, u203, u204, u205, u206, u207, u208, u209, u210, u211, u212, u213, u214, u215, u216, u217, u218, u219, u220, u221, u222, u223, u224, u225, u226, u227, u228, u229, u230, u231, u232, u233, u234, u235, u236, u237, u238, u239, u240, u241, u242, u243, u244, u245, u246, u247, u248, u249, u250, u251, u252, u253, u254, u255, u256, u257, u258, u259, u260, u261, u262, u263, u264, u265, u266, u267, u268, u269, u270, u271, u272, u273, u274, u275, u276, u277, u278, u279, u280, u281, u282, u283, u284, u285, u286, u287, u288, u289, u290, u291, u292, u293, u294, u295, u296, u297, u298, u299, u300, u301, u302, u303, u304, u305, u306, u307, u308, u309, u310, u311, u312, u313, u314, u315, u316, u317, u318, u319, u320], []⟩ W4) :
    Code.wp Tryz.prog Rtell14 Q ⟨#[u0, u1, .int .i64 now, u3, .slice (some ⟨xb, xo, none⟩) hs.length cH, u5, u6, u7, u8, u9, u10, u11, u12, u13, u14, .int .i64 (k : Int), .pointer (some ⟨Z, 0, none⟩), u17, u18, u19, u20, u21, u22, u23, u24, u25, u26, u27, u28, u29, u30, u31, u32, u33, u34, u35, u36, u37, u38, u39, u40, u41, u42, u43, u44, u45, u46, u47, u48, u49, u50, u51, u52, u53, u54, u55, u56, u57, u58, u59, u60, u61, u62, u63, u64, u65, u66, u67, u68, u69, u70, u71, u72, u73, u74, u75, u76, u77, u78, u79, u80, u81, u82, u83, u84, u85, u86, u87, u88, u89, u90, u91, u92, u93, u94, u95, u96, u97, u98, u99, u100, u101, u102, u103, u104, u105, u106, u107, u108, u109, u110, u111, u112, u113, u114, u115, u116, u117, u118, u119, u120, u121, u122, u123, u124, u125, u126, u127, u128, u129, u130, u131, u132, u133, u134, u135, u136, u137, u138, u139, u140, u141, u142, u143, u144, u145, u146, u147, u148, u149, u150, u151, u152, u153, u154, u155, u156, u157, u158, u159, u160, u161, u162, u163, u164, u165, u166, u167, u168, u169, u170, u171, u172, u173, u174, u175, u176, u177, u178, u179, u180, u181, u182, u183, u184, u185, u186, u187, u188, u189, u190, u191, u192, u193, u194, u195, u196, u197, u198, u199, u200, u201, u202, u203, u204, u205, u206, u207, u208, u209, u210, u211, u212, u213, u214, u215, u216, u217, u218, u219, u220, u221, u222, u223, u224, u225, u226, u227, u228, u229, u230, u231, u232, u233, u234, u235, u236, u237, u238, u239, u240, u241, u242, u243, u244, u245, u246, u247, u248, u249, u250, u251, u252, u253, u254, u255, u256, u257, u258, u259, u260, u261, u262, u263, u264, u265, u266, u267, u268, u269, u270, u271, u272, u273, u274, u275, u276, u277, u278, u279, u280, u281, u282, u283, u284, u285, u286, u287, u288, u289, u290, u291, u292, u293, u294, u295, u296, u297, u298, u299, u300, u301, u302, u303, u304, u305, u306, u307, u308, u309, u310, u311, u312, u313, u314, u315, u316, u317, u318, u319, u320], []⟩ W := by
  conv => arg 2; whnf
  have HQ := Lib.hid hQ
  clear hQ
  obtain ⟨KK, hKK⟩ : ∃ z, W.heap.size = z := ⟨_, rfl⟩
  have HKK := Lib.hid fun W' (j : Ok W.drew W') => show KK ≤ W'.heap.size from hKK ▸ j.size
  have HKW := Lib.hid (show W.heap.size ≤ KK from Nat.le_of_eq hKK)
  clear hKK
  have HZ := Lib.hid fun W' (j : Ok W.drew W') => hZ.drew.next j
  have HHC := Lib.hid fun W' (j : Ok W.drew W') => (HXC.out W' ((Ok.refl W).drew.trans j)).1
  have HHL := Lib.hid fun W' (j : Ok W.drew W') => (HXC.out W' ((Ok.refl W).drew.trans j)).2
  clear hZ
  refine wp_region_facts_last (by as_aux_lemma => kernel_rfl) 321 rfl (VCNFa Z KK xb xo hs.length cH k now le mo hd hv) Ok _ rfl _ 19 rfl rfl rfl rfl (by as_aux_lemma => kernel_rfl) (by as_aux_lemma => kernel_rfl) (by as_aux_lemma => kernel_rfl) (fun i v w w' h k w'' k' => h w'' (k.trans k')) (fun a b c => Ok.trans) (Ok.refl _) [some 180, some 181, some 182, some 183, some 184, some 185, some 186, some 187, some 188, some 189, some 190, some 191, some 192, some 193, some 194, some 195, some 196, some 197, some 17] rfl ⟨?_, ?_, ?_, ?_, ?_, ?_, ?_, ?_, ?_, ?_, ?_, ?_, ?_, ?_, ?_, ?_, ?_, ?_, ?_, trivial⟩ ?_
  · intro a' w' hF hR
    have e15 : a'.tmps[15]? = some (.int .i64 (k : Int)) := hF.slot 15 (by as_aux_lemma => kernel_rfl) rfl
    refine wpOp_run (v := .int .i64 (k : Int)) rfl rfl ?_ (fun _ _ => rfl) (Ok.refl _)
    clear hF
    go_simp
  · intro a' w' hF hR
    obtain ⟨v0, hv0, e180⟩ := hF.get 0 180 (by as_aux_lemma => kernel_rfl) (by as_aux_lemma => kernel_rfl)
    obtain rfl : v0 = _ := hv0 _ (Ok.refl _)
    have u0 := HKB.out
    refine wpOp_run (v := .int .i64 (21 + (k : Int))) rfl rfl ?_ (fun _ _ => rfl) (Ok.refl _)
    clear hF
    go_simp; exact IntWalk.i64_in _ ⟨by omega, by omega⟩
  · intro a' w' hF hR
    have e2 : a'.tmps[2]? = some (.int .i64 now) := hF.slot 2 (by as_aux_lemma => kernel_rfl) rfl
    refine wpOp_run (v := .int .i64 now) rfl rfl ?_ (fun _ _ => rfl) (Ok.refl _)
    clear hF
    go_simp
  · intro a' w' hF hR
    have e16 : a'.tmps[16]? = some (.pointer (some ⟨Z, 0, none⟩)) := hF.slot 16 (by as_aux_lemma => kernel_rfl) rfl
    refine wpOp_run (v := .pointer (some ⟨Z, 0, none⟩)) rfl rfl ?_ (fun _ _ => rfl) (Ok.refl _)
    clear hF
    go_simp
  · intro a' w' hF hR
    obtain ⟨v3, hv3, e183⟩ := hF.get 3 183 (by as_aux_lemma => kernel_rfl) (by as_aux_lemma => kernel_rfl)
    obtain rfl : v3 = _ := hv3 _ (Ok.refl _)
    have z0 := (HZ.out _ hR).cell 0 rfl
    have z1 := (HZ.out _ hR).cell 1 rfl
    have z2 := (HZ.out _ hR).cell 2 rfl
    have z3 := (HZ.out _ hR).cell 3 rfl
    have z4 := (HZ.out _ hR).cell 4 rfl
    have hzl := (HZ.out _ hR).lt
    refine wpOp_run (v := .int .i64 le) rfl rfl ?_ (fun _ _ => rfl) (Ok.refl _)
    clear hF
    go_simp
  · intro a' w' hF hR
    obtain ⟨v2, hv2, e182⟩ := hF.get 2 182 (by as_aux_lemma => kernel_rfl) (by as_aux_lemma => kernel_rfl)
    obtain rfl : v2 = _ := hv2 _ (Ok.refl _)
    obtain ⟨v4, hv4, e184⟩ := hF.get 4 184 (by as_aux_lemma => kernel_rfl) (by as_aux_lemma => kernel_rfl)
    obtain rfl : v4 = _ := hv4 _ (Ok.refl _)
    have u0 := HW3.out
    refine wpOp_run (v := .int .i64 (now - le)) rfl rfl ?_ (fun _ _ => rfl) (Ok.refl _)
    clear hF
    go_simp
  · intro a' w' hF hR
    have e2 : a'.tmps[2]? = some (.int .i64 now) := hF.slot 2 (by as_aux_lemma => kernel_rfl) rfl
    refine wpOp_run (v := .int .i64 now) rfl rfl ?_ (fun _ _ => rfl) (Ok.refl _)
    clear hF
    go_simp
  · intro a' w' hF hR
    have e16 : a'.tmps[16]? = some (.pointer (some ⟨Z, 0, none⟩)) := hF.slot 16 (by as_aux_lemma => kernel_rfl) rfl
    refine wpOp_run (v := .pointer (some ⟨Z, 1, none⟩)) rfl rfl ?_ (fun _ _ => rfl) (Ok.refl _)
    clear hF
    go_simp
  · intro a' w' hF hR
    obtain ⟨v7, hv7, e187⟩ := hF.get 7 187 (by as_aux_lemma => kernel_rfl) (by as_aux_lemma => kernel_rfl)
    obtain rfl : v7 = _ := hv7 _ (Ok.refl _)
    have z0 := (HZ.out _ hR).cell 0 rfl
    have z1 := (HZ.out _ hR).cell 1 rfl
    have z2 := (HZ.out _ hR).cell 2 rfl
    have z3 := (HZ.out _ hR).cell 3 rfl
    have z4 := (HZ.out _ hR).cell 4 rfl
    have hzl := (HZ.out _ hR).lt
    refine wpOp_run (v := .int .i64 mo) rfl rfl ?_ (fun _ _ => rfl) (Ok.refl _)
    clear hF
    go_simp
  · intro a' w' hF hR
    obtain ⟨v6, hv6, e186⟩ := hF.get 6 186 (by as_aux_lemma => kernel_rfl) (by as_aux_lemma => kernel_rfl)
    obtain rfl : v6 = _ := hv6 _ (Ok.refl _)
    obtain ⟨v8, hv8, e188⟩ := hF.get 8 188 (by as_aux_lemma => kernel_rfl) (by as_aux_lemma => kernel_rfl)
    obtain rfl : v8 = _ := hv8 _ (Ok.refl _)
    have u0 := HW5.out
    refine wpOp_run (v := .int .i64 (now + mo)) rfl rfl ?_ (fun _ _ => rfl) (Ok.refl _)
    clear hF
    go_simp
  · intro a' w' hF hR
    obtain ⟨v5, hv5, e185⟩ := hF.get 5 185 (by as_aux_lemma => kernel_rfl) (by as_aux_lemma => kernel_rfl)
    obtain rfl : v5 = _ := hv5 _ (Ok.refl _)
    obtain ⟨v9, hv9, e189⟩ := hF.get 9 189 (by as_aux_lemma => kernel_rfl) (by as_aux_lemma => kernel_rfl)
    obtain rfl : v9 = _ := hv9 _ (Ok.refl _)
    refine wpOp_run (v := .agg #[.int .i64 (now - le), .int .i64 (now + mo)]) rfl rfl ?_ (fun _ _ => rfl) (Ok.refl _)
    clear hF
    go_simp
  · intro a' w' hF hR
    have e16 : a'.tmps[16]? = some (.pointer (some ⟨Z, 0, none⟩)) := hF.slot 16 (by as_aux_lemma => kernel_rfl) rfl
    refine wpOp_run (v := .pointer (some ⟨Z, 4, none⟩)) rfl rfl ?_ (fun _ _ => rfl) (Ok.refl _)
    clear hF
    go_simp
  · intro a' w' hF hR
    obtain ⟨v11, hv11, e191⟩ := hF.get 11 191 (by as_aux_lemma => kernel_rfl) (by as_aux_lemma => kernel_rfl)
    obtain rfl : v11 = _ := hv11 _ (Ok.refl _)
    have z0 := (HZ.out _ hR).cell 0 rfl
    have z1 := (HZ.out _ hR).cell 1 rfl
    have z2 := (HZ.out _ hR).cell 2 rfl
    have z3 := (HZ.out _ hR).cell 3 rfl
    have z4 := (HZ.out _ hR).cell 4 rfl
    have hzl := (HZ.out _ hR).lt
    refine wpOp_run (v := .int .i64 hd) rfl rfl ?_ (fun _ _ => rfl) (Ok.refl _)
    clear hF
    go_simp
  · intro a' w' hF hR
    have e4 : a'.tmps[4]? = some (.slice (some ⟨xb, xo, none⟩) hs.length cH) := hF.slot 4 (by as_aux_lemma => kernel_rfl) rfl
    refine wpOp_run (v := .slice (some ⟨xb, xo, none⟩) hs.length cH) rfl rfl ?_ (fun _ _ => rfl) (Ok.refl _)
    clear hF
    go_simp
  · intro a' w' hF hR
    have e15 : a'.tmps[15]? = some (.int .i64 (k : Int)) := hF.slot 15 (by as_aux_lemma => kernel_rfl) rfl
    refine wpOp_run (v := .int .i64 (k : Int)) rfl rfl ?_ (fun _ _ => rfl) (Ok.refl _)
    clear hF
    go_simp
  · intro a' w' hF hR
    obtain ⟨v13, hv13, e193⟩ := hF.get 13 193 (by as_aux_lemma => kernel_rfl) (by as_aux_lemma => kernel_rfl)
    obtain rfl : v13 = _ := hv13 _ (Ok.refl _)
    obtain ⟨v14, hv14, e194⟩ := hF.get 14 194 (by as_aux_lemma => kernel_rfl) (by as_aux_lemma => kernel_rfl)
    obtain rfl : v14 = _ := hv14 _ (Ok.refl _)
    have u0 := HKL.out
    refine wpOp_run (v := .pointer (some ⟨xb, xo + k, none⟩)) rfl rfl ?_ (fun _ _ => rfl) (Ok.refl _)
    clear hF
    go_simp
  · intro a' w' hF hR
    obtain ⟨v15, hv15, e195⟩ := hF.get 15 195 (by as_aux_lemma => kernel_rfl) (by as_aux_lemma => kernel_rfl)
    obtain rfl : v15 = _ := hv15 _ (Ok.refl _)
    have x0 := HHC.out _ hR
    have hxl := HHL.out _ hR
    refine wpOp_run (v := .int .i64 hv) rfl rfl ?_ (fun _ _ => rfl) (Ok.refl _)
    clear hF
    go_simp
  · intro a' w' hF hR
    obtain ⟨v1, hv1, e181⟩ := hF.get 1 181 (by as_aux_lemma => kernel_rfl) (by as_aux_lemma => kernel_rfl)
    obtain rfl : v1 = _ := hv1 _ (Ok.refl _)
    obtain ⟨v10, hv10, e190⟩ := hF.get 10 190 (by as_aux_lemma => kernel_rfl) (by as_aux_lemma => kernel_rfl)
    obtain rfl : v10 = _ := hv10 _ (Ok.refl _)
    obtain ⟨v12, hv12, e192⟩ := hF.get 12 192 (by as_aux_lemma => kernel_rfl) (by as_aux_lemma => kernel_rfl)
    obtain rfl : v12 = _ := hv12 _ (Ok.refl _)
    obtain ⟨v16, hv16, e196⟩ := hF.get 16 196 (by as_aux_lemma => kernel_rfl) (by as_aux_lemma => kernel_rfl)
    obtain rfl : v16 = _ := hv16 _ (Ok.refl _)
    refine wpOp_run (v := .agg #[.int .i64 2, .int .i64 (21 + (k : Int)), .int .i64 (now - le), .int .i64 (now + mo), .int .i64 hd, .int .i64 hv, .bool true, .bool false, .int .i64 0, .int .i64 0, .int .i64 0, .int .i64 0, .int .i64 0, .slice none 0 0]) rfl rfl ?_ (fun _ _ => rfl) (Ok.refl _)
    clear hF
    go_simp
  · intro a' w' hF hR
    have hzero : Sem.run Tryz.prog (zeroValue 51) w' = .ok (.agg #[.int .i64 0, .int .i64 0, .int .i64 0, .int .i64 0, .int .i64 0, .int .i64 0, .bool false, .bool false, .int .i64 0, .int .i64 0, .int .i64 0, .int .i64 0, .int .i64 0, .slice none 0 0]) w' := by kernel_rfl
    refine wpOp_run (v := .pointer (some ⟨w'.heap.size, 0, none⟩)) (w' := w'.alloc (.cells #[.int .i64 0, .int .i64 0, .int .i64 0, .int .i64 0, .int .i64 0, .int .i64 0, .bool false, .bool false, .int .i64 0, .int .i64 0, .int .i64 0, .int .i64 0, .int .i64 0, .slice none 0 0] 51)) rfl rfl ?_ (fun w'' k => ⟨_, rfl, (Own.new _ _ _ rfl).next k, (HKK.out _ hR)⟩) ((Ok.refl _).alloc _)
    clear hF
    go_simp
  intro vs W5 hvs hR
  obtain ⟨Y, e18, hY, hYK⟩ := hvs 18 (by decide) _ (Ok.refl _)
  have e17 : vs 17 = .agg #[.int .i64 2, .int .i64 (21 + (k : Int)), .int .i64 (now - le), .int .i64 (now + mo), .int .i64 hd, .int .i64 hv, .bool true, .bool false, .int .i64 0, .int .i64 0, .int .i64 0, .int .i64 0, .int .i64 0, .slice none 0 0] := hvs 17 (by decide) _ (Ok.refl _)
  clear hvs
  simp only [putFrom, e17, e18]
  simp only [Act.put, List.setIfInBounds_toArray, List.set_cons_zero, List.set_cons_succ]
  have m0 := hY.cell 0 rfl
  have m1 := hY.cell 1 rfl
  have m2 := hY.cell 2 rfl
  have m3 := hY.cell 3 rfl
  have m4 := hY.cell 4 rfl
  have m5 := hY.cell 5 rfl
  have m6 := hY.cell 6 rfl
  have m7 := hY.cell 7 rfl
  have m8 := hY.cell 8 rfl
  have m9 := hY.cell 9 rfl
  have m10 := hY.cell 10 rfl
  have m11 := hY.cell 11 rfl
  have m12 := hY.cell 12 rfl
  have m13 := hY.cell 13 rfl
  have f0 := hY.frozen 0
  have f1 := hY.frozen 1
  have f2 := hY.frozen 2
  have f3 := hY.frozen 3
  have f4 := hY.frozen 4
  have f5 := hY.frozen 5
  have f6 := hY.frozen 6
  have f7 := hY.frozen 7
  have f8 := hY.frozen 8
  have f9 := hY.frozen 9
  have f10 := hY.frozen 10
  have f11 := hY.frozen 11
  have f12 := hY.frozen 12
  have f13 := hY.frozen 13
  have hml := hY.lt
  refine wpOp_store (w' := ((((((((((((((W5.setCell ⟨Y, 0, none⟩ (.int .i64 2)).setCell ⟨Y, 1, none⟩ (.int .i64 (21 + (k : Int)))).setCell ⟨Y, 2, none⟩ (.int .i64 (now - le))).setCell ⟨Y, 3, none⟩ (.int .i64 (now + mo))).setCell ⟨Y, 4, none⟩ (.int .i64 hd)).setCell ⟨Y, 5, none⟩ (.int .i64 hv)).setCell ⟨Y, 6, none⟩ (.bool true)).setCell ⟨Y, 7, none⟩ (.bool false)).setCell ⟨Y, 8, none⟩ (.int .i64 0)).setCell ⟨Y, 9, none⟩ (.int .i64 0)).setCell ⟨Y, 10, none⟩ (.int .i64 0)).setCell ⟨Y, 11, none⟩ (.int .i64 0)).setCell ⟨Y, 12, none⟩ (.int .i64 0)).setCell ⟨Y, 13, none⟩ (.slice none 0 0))) rfl rfl rfl ?_ ?_
  · go_simp
  clear m0 f0 m1 f1 m2 f2 m3 f3 m4 f4 m5 f5 m6 f6 m7 f7 m8 f8 m9 f9 m10 f10 m11 f11 m12 f12 m13 f13 hml
  have hon8 : Only Y W5 ((((((((((((((W5.setCell ⟨Y, 0, none⟩ (.int .i64 2)).setCell ⟨Y, 1, none⟩ (.int .i64 (21 + (k : Int)))).setCell ⟨Y, 2, none⟩ (.int .i64 (now - le))).setCell ⟨Y, 3, none⟩ (.int .i64 (now + mo))).setCell ⟨Y, 4, none⟩ (.int .i64 hd)).setCell ⟨Y, 5, none⟩ (.int .i64 hv)).setCell ⟨Y, 6, none⟩ (.bool true)).setCell ⟨Y, 7, none⟩ (.bool false)).setCell ⟨Y, 8, none⟩ (.int .i64 0)).setCell ⟨Y, 9, none⟩ (.int .i64 0)).setCell ⟨Y, 10, none⟩ (.int .i64 0)).setCell ⟨Y, 11, none⟩ (.int .i64 0)).setCell ⟨Y, 12, none⟩ (.int .i64 0)).setCell ⟨Y, 13, none⟩ (.slice none 0 0)) := (((((((((((((((Only.refl Y W5).setR 0 (.int .i64 2)).setR 1 (.int .i64 (21 + (k : Int)))).setR 2 (.int .i64 (now - le))).setR 3 (.int .i64 (now + mo))).setR 4 (.int .i64 hd)).setR 5 (.int .i64 hv)).setR 6 (.bool true)).setR 7 (.bool false)).setR 8 (.int .i64 0)).setR 9 (.int .i64 0)).setR 10 (.int .i64 0)).setR 11 (.int .i64 0)).setR 12 (.int .i64 0)).setR 13 (.slice none 0 0))
  replace hY := own_over14 hY (.int .i64 2) (.int .i64 (21 + (k : Int))) (.int .i64 (now - le)) (.int .i64 (now + mo)) (.int .i64 hd) (.int .i64 hv) (.bool true) (.bool false) (.int .i64 0) (.int .i64 0) (.int .i64 0) (.int .i64 0) (.int .i64 0) (.slice none 0 0)
  have okc := Only.then_ok ((Ok.refl W).drew.trans hR) hon8 (Nat.le_trans HKW.out hYK)
  clear hon8 e17 e18 hR HZ HHC HHL HKK
  generalize ((((((((((((((W5.setCell ⟨Y, 0, none⟩ (.int .i64 2)).setCell ⟨Y, 1, none⟩ (.int .i64 (21 + (k : Int)))).setCell ⟨Y, 2, none⟩ (.int .i64 (now - le))).setCell ⟨Y, 3, none⟩ (.int .i64 (now + mo))).setCell ⟨Y, 4, none⟩ (.int .i64 hd)).setCell ⟨Y, 5, none⟩ (.int .i64 hv)).setCell ⟨Y, 6, none⟩ (.bool true)).setCell ⟨Y, 7, none⟩ (.bool false)).setCell ⟨Y, 8, none⟩ (.int .i64 0)).setCell ⟨Y, 9, none⟩ (.int .i64 0)).setCell ⟨Y, 10, none⟩ (.int .i64 0)).setCell ⟨Y, 11, none⟩ (.int .i64 0)).setCell ⟨Y, 12, none⟩ (.int .i64 0)).setCell ⟨Y, 13, none⟩ (.slice none 0 0)) = W4 at hY okc ⊢
  refine HQ.out _ _ _ _ _ _ _ _ _ _ _ _ _ _ _ _ _ _ Y W4 hY (Nat.le_trans HKW.out hYK) okc

set_option maxHeartbeats 25600000 in
theorem walkF (w : World) (hpow : Pow w) (p : Par) (s : Sta) (A : Option Addr) (cap : Nat) (now : Int) (T : Option Addr) (ts : List Tl) (cT : Nat) (HA0 : Option Addr) (hs : List Int) (cH : Nat) (err : Int) (hA : PairsAt w A s.table) (hl : s.table.length ≤ 9223372036854775807) (hT : CellsAt w T (ts.flatMap tldcells)) (htl : ts.length ≤ 9223372036854775807) (hH : IntsAt w HA0 hs) (hhl : hs.length ≤ 9223372036854775807) :
    Calls Tryz.prog 5 #[parV p, staV s A cap, .int .i64 now, .slice T ts.length cT, .slice HA0 hs.length cH, .int .i64 err] w fun e w' => e = .returned (.bool true) ∧ Ok w w' := by
  have KAL := Lib.hid fun W' (k : Ok w W') => law23Alive W' (hpow.next k)
  have HPOW := Lib.hid fun W' (k : Ok w W') => hpow.next k
  have KCH := Lib.hid fun w => limCheck p w
  obtain ⟨lg, hlg⟩ : ∃ b, great23 s [] = b := ⟨_, rfl⟩
  have KG : Hid (∀ (W' : World), Calls Tryz.prog 9 #[staV s A cap, .slice none 0 0] W' fun e w' => e = .returned (.bool lg) ∧ Ok W' w') := Lib.hid fun W' => by
    have k := law23Great s A cap none [] 0 W' ⟨CellsAt.empty _ _, fun y hy => absurd hy (by simp)⟩ (by simp) (fun y hy => absurd hy (by simp))
    rw [hlg] at k
    exact k
  have HLG := Lib.hid fun (h : lg = false) => great23_few (hlg.trans h)
  have HAA := Lib.hid hA
  have HHH := Lib.hid hH
  have HTT := Lib.hid hT
  have HSL := Lib.hid hl
  clear hlg hA hH hT hl
  have hP := (Own.new w (parCells p) 23 rfl).alloc (.cells (staCells s A cap) 30)
  have hS := Own.new (w.alloc (.cells (parCells p) 23)) (staCells s A cap) 30 (g := w.heap.size + 1) (by simp)
  have hok := ((Ok.refl w).alloc (.cells (parCells p) 23)).alloc (.cells (staCells s A cap) 30)
  go_enter Tryz.func5, Tryz.ntmps5
  go_upto_region 1 with fail
  change Code.wp _ _ _ _ ((w.alloc (.cells (parCells p) 23)).alloc (.cells (staCells s A cap) 30))
  generalize (w.alloc (.cells (parCells p) 23)).alloc (.cells (staCells s A cap) 30) = W at hP hS hok ⊢
  obtain ⟨H, hH⟩ : ∃ r, w.heap.size + 1 = r := ⟨_, rfl⟩
  obtain ⟨Bp, hB⟩ : ∃ r, w.heap.size = r := ⟨_, rfl⟩
  rw [hH] at hS
  rw [hB] at hP
  rw [hH, hB]
  clear hH hB
  go_upto_region 3 with (go_at_call 8; (with_reducible refine (KAL.out _ hok).mono ?_); rintro e w1 ⟨rfl, hb1⟩; replace hP := hP.next hb1; replace hS := hS.next hb1; replace hok := hok.trans hb1; clear hb1)
  go_cut [78] from 25 to 78 (fun v wx => ∃ b, v = .bool b ∧ (b = false → (Lim.May p ∧ lg = false ∧ ¬ (1125899906842624 < now) ∧ ¬ (now < -1125899906842624) ∧ ¬ (12 < (ts.length : Int)) ∧ (hs.length : Int) = (ts.length : Int) ∧ ¬ (p.rho < err) ∧ ¬ (err < -p.rho) ∧ ¬ (now < s.lo) ∧ ¬ (s.hi < now))) ∧ Own wx Bp (parCells p) ∧ Own wx H (staCells s A cap) ∧ Ok w wx)
  case first =>
    refine cond3 w Bp H p s A cap now T ts cT HA0 hs cH err lg _ hP hS hok htl hhl KCH KG ?_
    intro v25 v26 v27 v28 v29 v30 v31 v32 v33 v34 v35 v36 v37 v38 v39 v40 v41 v42 v43 v44 v45 v46 v47 v48 v49 v50 v51 v52 v53 v54 v55 v56 v57 v58 v59 v60 v61 v62 v63 v64 v65 v66 v67 v68 v69 v70 v71 v72 v73 v74 v75 v76 v77 b wx hb hP2 hS2 hok2
    go_wp2_with fail
    go_meet
    exact ⟨b, rfl, hb, hP2, hS2, hok2⟩
  case rest =>
  clear hP hS hok KCH KG
  obtain ⟨b, rfl, hc1, hP, hS, hok⟩ := hcut
  cases b with
  | true =>
    go_wp2_with fail
    go_ret
    exact ⟨rfl, hok⟩
  | false =>
  have HC1 := Lib.hid (hc1 rfl)
  clear hc1 htl hhl
  go_upto_region 5 with fail
  have hk1 : IntKind.i64.wrap (p.beat + err) = p.beat + err := by
    obtain ⟨hm, -, -, -, -, -, b4, b5, -⟩ := HC1.out
    have hr0 := hm.2.1.2.1
    have hr1 := hm.2.1.1
    exact IntWalk.i64_in _ ⟨by omega, by omega⟩
  have hk2 : IntKind.i64.wrap (p.d + 1) = p.d + 1 := by
    obtain ⟨hm, -⟩ := HC1.out
    have hmd := hm.2.2.1.1
    exact IntWalk.i64_in _ ⟨by omega, by omega⟩
  obtain ⟨tk, htk⟩ : ∃ x, p.beat + err = x := ⟨_, rfl⟩
  rw [htk] at hk1
  have c3 := hP.cell 3 (v := .int .i64 p.beat) rfl
  have c2 := hP.cell 2 (v := .int .i64 p.d) rfl
  have hPl := hP.lt
  go_upto_region 6 with fail
  have HTK := Lib.hid htk
  clear c3 hPl hk1 htk
  have hI := Own.new wc #[.int .i64 tk, .slice none 0 0, .bool false, .int .i64 0, .bool false, .slice none 0 0] 49 rfl
  have hBI := hP.lt
  have hHI := hS.lt
  have hokr := (Ok.refl wc).alloc (.cells #[.int .i64 tk, .slice none 0 0, .bool false, .int .i64 0, .bool false, .slice none 0 0] 49)
  have hrow : (wc.alloc (.cells #[.int .i64 tk, .slice none 0 0, .bool false, .int .i64 0, .bool false, .slice none 0 0] 49)).ownsRow (wc.heap.size + 1) 65 15 (.slice none 0 0) 0 [] := World.ownsRow_nil _ _ _ _
  change Code.wp _ _ _ _ (wc.alloc (.cells #[.int .i64 tk, .slice none 0 0, .bool false, .int .i64 0, .bool false, .slice none 0 0] 49))
  clear c2
  have hPl := (hP.next hokr).lt
  have c2 := (hP.next hokr).cell 2 (v := .int .i64 p.d) rfl
  generalize wc.alloc (.cells #[.int .i64 tk, .slice none 0 0, .bool false, .int .i64 0, .bool false, .slice none 0 0] 49) = W1 at hI hokr hrow c2 hPl ⊢
  obtain ⟨IN, hIN⟩ : ∃ r, wc.heap.size = r := ⟨_, rfl⟩
  rw [hIN] at hI hBI hHI hrow ⊢
  have hts : (ts.length : Int) ≤ 12 := by
    obtain ⟨hm, -, -, -, b3, -⟩ := HC1.out
    omega
  have HTS := Lib.hid hts
  go_upto_region 7 with fail
  clear c2 hPl hk2
  go_wp2_with fail
  go_loopw [14, 89] (fun a i wr => ∃ (k : Nat) (v : Value) (u : Int), k ≤ ts.length ∧ a = .int .i64 u ∧ i = .int .i64 k ∧ Own wr IN #[.int .i64 tk, v, .bool false, .int .i64 0, .bool false, .slice none 0 0] ∧ wr.ownsRow (IN + 1) 65 15 v k ((Nod.nbNs p now ts hs true k).flatMap haL) ∧ Ok wc wr ∧ (∀ t ∈ ts.take k, Nod.Fine p t) ∧ Nod.Least p.d hs k u) (fun _ i _ => ts.length - (intOf i).toNat)
  case atStart => exact ⟨0, .slice none 0 0, p.d + 1, Nat.zero_le _, rfl, rfl, hI, hrow, hokr, fun t h => by simp at h, Nod.Least.nil _ _⟩
  case round =>
    clear hI hrow hokr
    obtain ⟨k, v, u, hk, rfl, rfl, hI, hrow, hokr, hfine, hleast⟩ := hrel
    by_cases hlt : k < ts.length
    · obtain ⟨b, off, hT2, hb, t0, t1, t2, t3, t4⟩ := tld_at ((HTT.out.below hok).below hokr) k hlt
      subst hT2
      have hkh : k < hs.length := by have := HC1.out.2.2.2.2.2.1; omega
      obtain ⟨xb, xo, hxe, hxb, hxc⟩ := (HHH.out.below hok).below hokr k hkh
      subst hxe
      have hkhx : hs.getD k 0 = hs[k] := getD_in23 hkh _
      have HN := Lib.hid fun (ht : Nod.Fine p ts[k]) => show ∀ t ∈ ts.take (k + 1), Nod.Fine p t from fun t h => by
        rw [take_more hlt] at h
        rcases List.mem_append.1 h with j | j
        · exact hfine t j
        · rw [List.mem_singleton.1 j]; exact ht
      have HX := Lib.hid (show Nod.Fine p ts[k] ↔ (0 ≤ ts[k].less ∧ ts[k].less ≤ 562949953421312) ∧ (0 ≤ ts[k].more ∧ ts[k].more ≤ 562949953421312) ∧ (p.delay - p.jit ≤ ts[k].way ∧ ts[k].way ≤ p.delay) ∧ (-p.rho ≤ ts[k].off ∧ ts[k].off ≤ p.rho) ∧ 0 ≤ ts[k].held ∧ ts[k].held ≤ 1048576 from Iff.rfl)
      have HD : Hid (ts.getD k Nod.noTl = ⟨ts[k].less, ts[k].more, ts[k].way, ts[k].off, ts[k].held⟩) := Lib.hid (getD_in23 hlt _)
      have hpw : p.delay - p.jit ≤ p.delay ∧ (-1152921504606846976 ≤ p.rho ∧ p.rho ≤ 1152921504606846976) ∧ (-1152921504606846976 ≤ p.delay ∧ p.delay ≤ 1152921504606846976) ∧ (-1152921504606846976 ≤ p.jit ∧ p.jit ≤ 1152921504606846976) ∧ (-1152921504606846976 ≤ p.beat ∧ p.beat ≤ 1152921504606846976) ∧ (-1125899906842624 ≤ now ∧ now ≤ 1125899906842624) := by
        obtain ⟨hm, -, a1, a2, -⟩ := HC1.out
        obtain ⟨b1, r1, d1, j1, e1⟩ := Lim.May.bds hm
        omega
      have HPW := Lib.hid hpw
      have HLT := Lib.hid (And.intro (fun h1 h2 => hleast.take (k := k) h1 h2) (fun h => hleast.pass (k := k) h))
      rw [hkhx] at HLT
      obtain ⟨hv, hhk⟩ : ∃ x, hs[k] = x := ⟨_, rfl⟩
      rw [hhk] at hxc hkhx HLT
      have HKX := Lib.hid hkhx
      clear hfine hleast hhk hkhx
      generalize ts[k].less = le at t0 HX HD HN
      generalize ts[k].more = mo at t1 HX HD HN
      generalize ts[k].way = wy at t2 HX HD HN
      generalize ts[k].off = of at t3 HX HD HN
      generalize ts[k].held = hd at t4 HX HD HN
      have hZI := hI.lt
      go_upto_region 10 with fail
      have hZ := Own.new wr #[.int .i64 le, .int .i64 mo, .int .i64 wy, .int .i64 of, .int .i64 hd] 63 rfl
      replace hI := hI.alloc (.cells #[.int .i64 le, .int .i64 mo, .int .i64 wy, .int .i64 of, .int .i64 hd] 63)
      replace hrow := World.ownsRow.alloc hrow (.cells #[.int .i64 le, .int .i64 mo, .int .i64 wy, .int .i64 of, .int .i64 hd] 63)
      replace hokr := hokr.alloc (.cells #[.int .i64 le, .int .i64 mo, .int .i64 wy, .int .i64 of, .int .i64 hd] 63)
      have HXC := Lib.hid fun W' (j : Ok (wr.alloc (.cells #[.int .i64 le, .int .i64 mo, .int .i64 wy, .int .i64 of, .int .i64 hd] 63)) W') => And.intro ((((Ok.refl wr).alloc (.cells #[.int .i64 le, .int .i64 mo, .int .i64 wy, .int .i64 of, .int .i64 hd] 63)).trans j).cell (p := ⟨xb, xo + k, none⟩) hxb |>.trans hxc) (Nat.lt_of_lt_of_le hxb (((Ok.refl wr).alloc (.cells #[.int .i64 le, .int .i64 mo, .int .i64 wy, .int .i64 of, .int .i64 hd] 63)).trans j).size)
      change Code.wp _ _ _ _ (wr.alloc (.cells #[.int .i64 le, .int .i64 mo, .int .i64 wy, .int .i64 of, .int .i64 hd] 63))
      generalize wr.alloc (.cells #[.int .i64 le, .int .i64 mo, .int .i64 wy, .int .i64 of, .int .i64 hd] 63) = W3 at hZ hI hrow hokr HXC ⊢
      generalize wr.heap.size = Z at hZ hZI ⊢
      clear t0 t1 t2 t3 t4 hb hpw hxc hxb
      go_cut [153] from 94 to 153 (fun v wx => ∃ b, v = .bool b ∧ (b = false → (¬ (le < 0) ∧ ¬ (mo < 0) ∧ ¬ (562949953421312 < le) ∧ ¬ (562949953421312 < mo) ∧ ¬ (p.delay < wy) ∧ ¬ (wy < p.delay - p.jit) ∧ ¬ (p.rho < of) ∧ ¬ (of < -p.rho) ∧ ¬ (hd < 0) ∧ ¬ (1048576 < hd))) ∧ wx = W3)
      case first =>
        obtain ⟨q1, q3, q4, q5, q6, q7⟩ := HPW.out
        have hk3 : IntKind.i64.wrap (-p.rho) = -p.rho := IntWalk.i64_in _ ⟨by omega, by omega⟩
        have hk4 : IntKind.i64.wrap (p.delay - p.jit) = p.delay - p.jit := IntWalk.i64_in _ ⟨by omega, by omega⟩
        clear q1 q3 q4 q5 q6 q7 hrow hI
        refine cond10 Bp Z p le mo wy of hd W3 (hP.next hokr) hZ hk3 hk4 ?_
        intro v94 v95 v96 v97 v98 v99 v100 v101 v102 v103 v104 v105 v106 v107 v108 v109 v110 v111 v112 v113 v114 v115 v116 v117 v118 v119 v120 v121 v122 v123 v124 v125 v126 v127 v128 v129 v130 v131 v132 v133 v134 v135 v136 v137 v138 v139 v140 v141 v142 v143 v144 v145 v146 v147 v148 v149 v150 v151 v152 b hb
        go_wp2_with fail
        go_meet
        exact ⟨b, rfl, hb, rfl⟩
      case rest =>
      obtain ⟨bb, rfl, hc2, rfl⟩ := hcut
      cases bb with
      | true =>
        go_wp2_with fail
        go_ret
        exact ⟨rfl, hok.trans hokr⟩
      | false =>
      obtain ⟨g0, g1, g2, g3, g4, g5, g6, g7, g8, g9⟩ := hc2 rfl
      replace HN := Lib.hid (HN.out (HX.out.2 ⟨⟨by omega, by omega⟩, ⟨by omega, by omega⟩, ⟨by omega, by omega⟩, ⟨by omega, by omega⟩, by omega, by omega⟩))
      obtain ⟨q1, q3, q4, q5, q6, q7⟩ := HPW.out
      have hw3 : IntKind.i64.wrap (now - le) = now - le := IntWalk.i64_in _ ⟨by omega, by omega⟩
      have hw5 : IntKind.i64.wrap (now + mo) = now + mo := IntWalk.i64_in _ ⟨by omega, by omega⟩
      have hw6 : IntKind.i64.wrap (p.beat - wy) = p.beat - wy := IntWalk.i64_in _ ⟨by omega, by omega⟩
      have hw7 : IntKind.i64.wrap (p.beat - wy + of) = p.beat - wy + of := IntWalk.i64_in _ ⟨by omega, by omega⟩
      have HW3 := Lib.hid hw3
      have HW5 := Lib.hid hw5
      have hts12 : (ts.length : Int) ≤ 12 := HTS.out
      have hkb : (k : Int) < 12 := by omega
      have HKB := Lib.hid hkb
      have HKL : Hid ((k : Int) < (hs.length : Int)) := Lib.hid (by omega)
      clear hc2 HX g0 g1 g2 g3 g4 g5 g6 g7 g8 g9 q1 q3 q4 q5 q6 q7 HPW
      have hI0 := Lib.hid fun W' (j : Ok wc W') => hI.next j
      have hZ0 := Lib.hid fun W' (j : Ok wc W') => hZ.next j
      have hrow0 := Lib.hid fun W' (j : Ok wc W') => row_next19 hrow j
      have hokr0 := Lib.hid fun W' (j : Ok wc W') => hokr.trans j
      have hP0 := Lib.hid fun W' (j : Ok wc W') => (hP.next hokr).next j
      clear hI hZ hrow
      go_upto_region 12 with fail
      go_cut [175] from 154 to 175 (fun v wx => ∃ b, v = .bool b ∧ (b = true → (0 ≤ hv ∧ hv < p.d) ∧ hv < u) ∧ (b = false → ¬ ((0 ≤ hv ∧ hv < p.d) ∧ hv < u)) ∧ Ok wc wx)
      case first =>
        obtain ⟨c0, c1, c2, c3, c4, c5, c6, c7, c8, c9, c10, c11⟩ := (hP0.out _ (Ok.refl _)).pars; have hPl := (hP0.out _ (Ok.refl _)).lt
        obtain ⟨x0, hxl⟩ := HXC.out _ (Ok.refl _)
        have hkl : (k : Int) < (hs.length : Int) := HKL.out
        clear hw3 hw5 hw6 hw7
        by_cases a1 : 0 ≤ hv
        · have d1 : decide (0 ≤ hv) = true := decide_eq_true a1
          by_cases a2 : hv < p.d
          · have d2 : decide (hv < p.d) = true := decide_eq_true a2
            by_cases a3 : hv < u
            · have d3 : decide (hv < u) = true := decide_eq_true a3
              have HL := Lib.hid (And.intro (And.intro a1 a2) a3)
              clear a1 a2 a3
              go_quiet (fail)
              go_wp2_with fail
              go_meet
              exact ⟨true, rfl, fun _ => HL.out, fun h => (by cases h), by first | exact Ok.refl _ | exact (Ok.refl _).drewN _⟩
            · have d3 : decide (hv < u) = false := decide_eq_false a3
              have HL := Lib.hid (show ¬ ((0 ≤ hv ∧ hv < p.d) ∧ hv < u) from fun h => a3 h.2)
              clear a1 a2 a3
              go_quiet (fail)
              go_wp2_with fail
              go_meet
              exact ⟨false, rfl, fun h => (by cases h), fun _ => HL.out, by first | exact Ok.refl _ | exact (Ok.refl _).drewN _⟩
          · have d2 : decide (hv < p.d) = false := decide_eq_false a2
            have HL := Lib.hid (show ¬ ((0 ≤ hv ∧ hv < p.d) ∧ hv < u) from fun h => a2 h.1.2)
            clear a1 a2
            go_quiet (fail)
            go_wp2_with fail
            go_meet
            exact ⟨false, rfl, fun h => (by cases h), fun _ => HL.out, by first | exact Ok.refl _ | exact (Ok.refl _).drewN _⟩
        · have d1 : decide (0 ≤ hv) = false := decide_eq_false a1
          have HL := Lib.hid (show ¬ ((0 ≤ hv ∧ hv < p.d) ∧ hv < u) from fun h => a1 h.1.1)
          clear a1
          go_quiet (fail)
          go_wp2_with fail
          go_meet
          exact ⟨false, rfl, fun h => (by cases h), fun _ => HL.out, by first | exact Ok.refl _ | exact (Ok.refl _).drewN _⟩
      case rest =>
      obtain ⟨tb, rfl, hT1, hF1, hw0⟩ := hcut
      have HL1 : Hid (∃ u2, (tb = true → u2 = hv) ∧ (tb = false → u2 = u) ∧ Nod.Least p.d hs (k + 1) u2) := Lib.hid (by
        cases tb with
        | true => exact ⟨hv, fun _ => rfl, fun h => (by cases h), HLT.out.1 (hT1 rfl).1 (hT1 rfl).2⟩
        | false => exact ⟨u, fun h => (by cases h), fun _ => rfl, HLT.out.2 (hF1 rfl)⟩)
      obtain ⟨u2, hu1, hu2, hleast⟩ := HL1.out
      clear HL1 hT1 hF1
      have HU1 := Lib.hid hu1
      have HU2 := Lib.hid hu2
      clear hu1 hu2
      go_upto_if 175 with (fail)
      go_cut [14] from 176 to 179 (fun v wx => v = .int .i64 u2 ∧ wx = wc)
      case first =>
        obtain ⟨x0, hxl⟩ := HXC.out _ hw0
        have hkl : (k : Int) < (hs.length : Int) := HKL.out
        clear hw3 hw5 hw6 hw7
        cases tb with
        | true =>
          have hu := HU1.out rfl
          subst hu
          go_wp2_with fail
          go_meet
          exact ⟨rfl, rfl⟩
        | false =>
          have hu := HU2.out rfl
          subst hu
          go_wp2_with fail
          go_meet
          exact ⟨rfl, rfl⟩
      case rest =>
      obtain ⟨rfl, rfl⟩ := hcut
      clear HU1 HU2
      have hI := hI0.out _ hw0
      have hZ := hZ0.out _ hw0
      have hrow := hrow0.out _ hw0
      replace hokr := hokr0.out _ hw0
      clear hI0 hZ0 hrow0 hokr0 hP0 HLT
      go_upto_region 14 with fail
      refine tell14 Z xb xo hs cH k now le mo wy of hd hv wc hZ (Lib.hid fun W' j => HXC.out W' (hw0.trans j)) HW3 HW5 HKB HKL ?_
      intro v180 v181 v182 v183 v184 v185 v186 v187 v188 v189 v190 v191 v192 v193 v194 v195 v196 v197 Y W4 hY hYlo okc
      replace hZ := hZ.next okc
      replace hI := hI.next okc
      replace hrow := row_next19 hrow okc
      replace hokr := hokr.trans okc
      clear okc hYlo HXC hw0
      go_upto_region 15 with fail
      have z2 := hZ.cell 2 (v := .int .i64 wy) rfl
      have z3 := hZ.cell 3 (v := .int .i64 of) rfl
      have hZl := hZ.lt
      have y0 := hY.cell 0 (v := .int .i64 2) rfl
      have y1 := hY.cell 1 (v := .int .i64 (21 + (k : Int))) rfl
      have y2 := hY.cell 2 (v := .int .i64 (now - le)) rfl
      have y3 := hY.cell 3 (v := .int .i64 (now + mo)) rfl
      have y4 := hY.cell 4 (v := .int .i64 hd) rfl
      have y5 := hY.cell 5 (v := .int .i64 hv) rfl
      have y6 := hY.cell 6 (v := .bool true) rfl
      have y7 := hY.cell 7 (v := .bool false) rfl
      have y8 := hY.cell 8 (v := .int .i64 0) rfl
      have y9 := hY.cell 9 (v := .int .i64 0) rfl
      have y10 := hY.cell 10 (v := .int .i64 0) rfl
      have y11 := hY.cell 11 (v := .int .i64 0) rfl
      have y12 := hY.cell 12 (v := .int .i64 0) rfl
      have y13 := hY.cell 13 (v := .slice none 0 0) rfl
      have hYl := hY.lt
      have c3 := (hP.next hokr).cell 3 (v := .int .i64 p.beat) rfl
      have hPl := (hP.next hokr).lt
      have i1 := hI.cell 1 (v := v) rfl
      have hIl := hI.lt
      have HR := Lib.hid (row_far23 hrow)
      have hex : Nod.nbNs p now ts hs true k ++ [(plainA (Nod.tell p now 2 (21 + (k : Int)) hv true ⟨le, mo, wy, of, hd⟩))] = Nod.nbNs p now ts hs true (k + 1) := by
        rw [Nod.nbNs_next]
        unfold Nod.nb
        rw [HD.out, HKX.out]
      go_upto_region 16 with (at_builtin; refine wpList_append_heard rfl _ _ rfl (IN + 1) v (Nod.nbNs p now ts hs true k) k rfl (World.ownsRow.alloc hrow _) _ (plainA (Nod.tell p now 2 (21 + (k : Int)) hv true ⟨le, mo, wy, of, hd⟩)) rfl (Own.new _ _ _ rfl) (by omega) (by simp; omega) ?_; intro v2 w6 hown hgrow; obtain ⟨A3, m3, q3, rfl⟩ := row_slice23 hown; have hI6 := own_grown23 (hI.alloc _) hgrow (fun e => by have := HR.out _ e; omega); have hok6 := Below.grown (hokr.alloc _) hgrow (by simp; omega) (fun g e => by have := HR.out _ e; omega); clear i1 hIl; have i1 := hI6.cell 1 (v := v) rfl; have i1f := hI6.frozen 1; have hIl := hI6.lt)
      rw [hex] at hown
      clear i1 i1f hIl z2 z3 hZl hYl c3 hPl y0 y1 y2 y3 y4 y5 y6 y7 y8 y9 y10 y11 y12 y13
      go_wp2_with fail
      go_roundw
      case rel => exact ⟨k + 1, .slice A3 m3 q3, u2, hlt, rfl, by go_num, hI6.set 1 (.slice A3 m3 q3), row_only hown ((Only.refl IN _).setR 1 _) (Nat.lt_succ_self _), hok6.setCell (p := ⟨IN, 1, none⟩) (by rw [hIN]; exact Nat.le_refl _) _, HN.out, hleast⟩
      case measure => simp [intOf]; omega

    · have ek : k = ts.length := by omega
      subst ek
      rw [List.take_length] at hfine
      obtain ⟨LL, hLL⟩ : ∃ x, Nod.nbNs p now ts hs true ts.length = x := ⟨_, rfl⟩
      have hLn : ts.length = LL.length := by rw [← hLL, Nod.nbNs_len]
      have hLh : LL.map HA.hd = Nod.nbs p now ts hs true ts.length := by rw [← hLL, Nod.nbNs_hds]
      obtain ⟨B2, q2, hve, hH⟩ := heards_of_row (by rw [hLL]; exact hLn) hrow (plain_tab _ _ (Nod.nbs_table p now ts hs true _))
      rw [hLL] at hve hH
      subst hve
      obtain ⟨hm, hlgf, b1, b2, b3, b4, b5, b6, b7, b8⟩ := HC1.out
      have hmg := hm.1
      have hmd := hm.2.2.1.1
      unfold Lim.Gates at hmg
      have HL12 : Hid (LL.length ≤ 12) := Lib.hid (by omega)
      have HAT : Hid (∀ j (hj : j < LL.length) (x : HA), LL[j] = x → plainA (Nod.nb p now ts hs false j) = (⟨{ x.m with good := false }, x.A, x.cap, x.age⟩ : HA)) := Lib.hid fun j hj x hx => by
        subst hLL
        have e : (Nod.nbNs p now ts hs true ts.length)[j] = plainA (Nod.nb p now ts hs true j) := by simp [Nod.nbNs, Nod.nbs]
        rw [← hx, e]
        rfl
      have hLw : ∀ h ∈ LL, (Lit.int .i64 h.m.frm).wf = true := fun x hx => by
        rw [← hLL] at hx
        obtain ⟨y, hy, rfl⟩ := List.mem_map.1 hx
        obtain ⟨i, hi, rfl⟩ := List.mem_map.1 hy
        have := List.mem_range.1 hi
        exact wf_small23 (by show 0 ≤ 21 + (i : Int) ∧ 21 + (i : Int) ≤ 1000; omega)
      have hLt : ∀ h ∈ LL, h.m.table.length ≤ 8796093022208 := fun x hx => by
        rw [← hLL] at hx
        obtain ⟨y, hy, rfl⟩ := List.mem_map.1 hx
        show y.m.table.length ≤ _
        rw [Nod.nbs_table p now ts hs true _ y hy]
        simp
      obtain ⟨LF, hLF⟩ : ∃ x, Nod.nbNs p now ts hs false ts.length = x := ⟨_, rfl⟩
      have hFn : ts.length = LF.length := by rw [← hLF, Nod.nbNs_len]
      have hFh : LF.map HA.hd = Nod.nbs p now ts hs false ts.length := by rw [← hLF, Nod.nbNs_hds]
      have hFw : ∀ h ∈ LF, (Lit.int .i64 h.m.frm).wf = true := fun x hx => by
        rw [← hLF] at hx
        obtain ⟨y, hy, rfl⟩ := List.mem_map.1 hx
        obtain ⟨i, hi, rfl⟩ := List.mem_map.1 hy
        have := List.mem_range.1 hi
        exact wf_small23 (by show 0 ≤ 21 + (i : Int) ∧ 21 + (i : Int) ≤ 1000; omega)
      have hFt : ∀ h ∈ LF, h.m.table.length ≤ 8796093022208 := fun x hx => by
        rw [← hLF] at hx
        obtain ⟨y, hy, rfl⟩ := List.mem_map.1 hx
        show y.m.table.length ≤ _
        rw [Nod.nbs_table p now ts hs false _ y hy]
        simp
      have HFT := Lib.hid (fun W' => plain_tab W' _ (Nod.nbs_table p now ts hs false ts.length))
      obtain ⟨f1, hf1⟩ : ∃ z, Nod.nbsAt ts.length 0 = z := ⟨_, rfl⟩
      have hk1 : Mem.tick 2 (Nod.known HA.hd 20 Mem.nobody LF).2 = f1 := by
        have e := Nod.known_map HA.hd 20 Mem.nobody LF
        rw [hFh, Nod.known_first p now ts hs false _ (by omega)] at e
        rw [← hf1, ← Nod.tick_nbsTo]
        exact congrArg (fun z => Mem.tick 2 z.2) e.symm
      have hk2 : (Nod.known HA.hd 20 f1 LL).1.map HA.hd = Nod.nbs p now ts hs true ts.length := by
        have e := Nod.known_map HA.hd 20 f1 LL
        rw [hLh, ← hf1, Nod.known_again p now ts hs _ (by omega) _ (Nat.le_refl _)] at e
        rw [← hf1]
        exact (congrArg Prod.fst e).symm
      obtain ⟨Y, hY⟩ : ∃ Y, Nod.state p (Health.sane p s) tk ((Nod.known HA.hd 20 f1 LL).1.map HA.hd) = Y := ⟨_, rfl⟩
      have htk : p.beat + err = tk := HTK.out
      have hsh := Nod.sane_has p (u := s) (x := now) (by omega) (by omega) ⟨by omega, by omega⟩
      obtain ⟨⟨y1, y2⟩, hway⟩ := Nod.follows hm ⟨by omega, by omega⟩ hfine hs (err := err) ⟨by omega, by omega⟩ hsh.1 hsh.2 hleast Y (by rw [← hY, hk2, htk])
      have hu0 : 0 ≤ u := by
        rcases hleast with ⟨e, -⟩ | ⟨⟨i, -, ⟨h0, -⟩, e⟩, -⟩
        · omega
        · omega
      have htl : (Health.sane p s).table.length ≤ 1048576 := Nat.le_trans (saneTable23 p s) (by decide)
      have hbw : -2305843009213693952 ≤ p.beat ∧ p.beat ≤ 2305843009213693952 := by have := (Lim.May.bds hm).1; omega
      have KN := Lib.hid fun w h => nodeNew p 20 s A cap w h HSL.out
      have KSN := Lib.hid fun w h => healthSane p s A cap w h HSL.out
      obtain ⟨S0, hS0⟩ : ∃ z, Health.sane p s = z := ⟨_, rfl⟩
      rw [hS0] at KN KSN htl hY
      have KB1 : Hid (∀ (W' : World) (G t b : Nat) (A2 : Option Addr) (c2 : Nat) (B3 : Option Addr) (q3 : Nat), NodeAt W' G t b 20 p S0 A2 c2 Mem.nobody → PairsAt W' A2 S0.table → HeardsAt W' B3 LF → Pow W' → Calls Tryz.prog 13 #[.pointer (some ⟨G, 0, none⟩), .agg #[.int .i64 p.beat, .slice B3 LF.length q3, .bool false, .int .i64 0, .bool false, .slice none 0 0]] W' fun e w' => ∃ mm A3 c3 Y1 A4 c4, e = .returned (msgV mm A3 c3) ∧ NodeAt w' G t b 20 p Y1 A4 c4 f1 ∧ OnlyN G b W' w') := Lib.hid fun W' G t b A2 c2 B3 q3 h1 h2 h3 h4 => by
        have k := nodeBeat G t b 20 p S0 A2 c2 Mem.nobody ⟨p.beat, B3, LF, q3, false, 0, false, none, [], 0⟩ W' h1 h2 htl h3 (by simp only; omega) hFw hFt ⟨by omega, by omega⟩ ⟨by omega, by omega⟩ h4
        refine k.mono ?_
        rintro e w' ⟨A3, c3, A4, c4, rfl, j1, -, -, j2, -⟩
        rw [hk1] at j1
        exact ⟨_, A3, c3, _, A4, c4, rfl, j1, j2⟩
      have KB2 : Hid (∀ (W' : World) (G t b : Nat) (A2 : Option Addr) (c2 : Nat), NodeAt W' G t b 20 p S0 A2 c2 f1 → PairsAt W' A2 S0.table → HeardsAt W' B2 LL → Pow W' → Calls Tryz.prog 13 #[.pointer (some ⟨G, 0, none⟩), .agg #[.int .i64 tk, .slice B2 LL.length q2, .bool false, .int .i64 0, .bool false, .slice none 0 0]] W' fun e w' => ∃ mm A3 c3 A4 c4, e = .returned (msgV mm A3 c3) ∧ Own w' G (nodeCells 20 t p (Health.stamped Y) A4 c4) ∧ OnlyN G b W' w') := Lib.hid fun W' G t b A2 c2 h1 h2 h3 h4 => by
        have k := nodeBeat G t b 20 p S0 A2 c2 f1 ⟨tk, B2, LL, q2, false, 0, false, none, [], 0⟩ W' h1 h2 htl h3 (by simp only; omega) hLw hLt ⟨by omega, by omega⟩ ⟨by omega, by omega⟩ h4
        refine k.mono ?_
        rintro e w' ⟨A3, c3, A4, c4, rfl, j1, -, -, j2, -⟩
        have j3 := j1.own
        simp only at j3
        rw [hY] at j3
        exact ⟨_, A3, c3, A4, c4, rfl, j3, j2⟩
      have q12 : ∀ t A4 c4, (nodeCells 20 t p (Health.stamped Y) A4 c4)[12]? = some (.int .i64 Y.lo) := fun _ _ _ => rfl
      have q13 : ∀ t A4 c4, (nodeCells 20 t p (Health.stamped Y) A4 c4)[13]? = some (.int .i64 Y.hi) := fun _ _ _ => rfl
      have q17 : ∀ t A4 c4, (nodeCells 20 t p (Health.stamped Y) A4 c4)[17]? = some (.int .i64 Y.hops) := fun _ _ _ => rfl
      have q18 : ∀ t A4 c4, (nodeCells 20 t p (Health.stamped Y) A4 c4)[18]? = some (.bool Y.good) := fun _ _ _ => rfl
      obtain ⟨YY, hYY⟩ : ∃ z, Health.stamped Y = z := ⟨_, rfl⟩
      rw [hYY] at KB2 q12 q13 q17 q18
      generalize Y.lo = lo at y1 q12
      generalize Y.hi = hi at y2 q13
      generalize Y.hops = ho at hway q17
      generalize Y.good = gd at hway q18
      obtain ⟨nx, hnx⟩ : ∃ nx, now + p.beat = nx := ⟨_, rfl⟩
      have hw1 : IntKind.i64.wrap (now + p.beat) = nx := by rw [hnx]; have := Lim.May.bds hm; exact IntWalk.i64_in _ ⟨by omega, by omega⟩
      rw [hnx] at y1 y2
      have r1 : decide (nx < lo) = false := decide_eq_false (by omega)
      have r2 : decide (hi < nx) = false := decide_eq_false (by omega)
      have hw2 : IntKind.i64.wrap (p.d + 1) = p.d + 1 := IntWalk.i64_in _ ⟨by omega, by omega⟩
      have hw3 : IntKind.i64.wrap (u + 1) = u + 1 := IntWalk.i64_in _ ⟨by rcases hway with h | h <;> omega, by rcases hway with h | h <;> first | omega | (rcases hleast with ⟨e, -⟩ | ⟨⟨i, -, ⟨h0, h1⟩, e⟩, -⟩ <;> omega)⟩
      have HRR := Lib.hid (And.intro r1 (And.intro r2 (And.intro hw1 (And.intro hw2 hw3))))
      have HWAY := Lib.hid hway
      have HTS2 := Lib.hid hFn
      have HLFE := Lib.hid hLF
      clear hnx y1 y2 r1 r2 hw1 hw2 hw3 hway hYY hY hS0 hk1 hk2 hf1 hFh hLh hLw hLt hFw hFt hLL hfine hleast hsh htk hu0 hbw htl hm hlgf hmg hmd b1 b2 b3 b4 b5 b6 b7 b8 hrow hlt hk HLG
      replace hP := hP.next hokr
      replace hS := hS.next hokr
      replace hok := hok.trans hokr
      clear hokr
      have HQ := Lib.hid fun W' (j : Ok wr W') => And.intro (hP.next j) (And.intro (hS.next j) (And.intro (hI.next j) (hH.below j)))
      have HQ0 := Lib.hid fun W' (j : Ok wr W') => hok.trans j
      have hq := Ok.refl wr
      have HAA2 := Lib.hid fun W' (j : Ok wr W') => HAA.out.below (hok.trans j)
      have HPOW2 := Lib.hid fun W' (j : Ok wr W') => HPOW.out _ (hok.trans j)
      clear HAA HPOW hok
      obtain ⟨s0, s1, s2, s3, s4, s5, s6, s7, s8, s9, s10⟩ := hS.sta; have hsl := hS.lt
      obtain ⟨c0, c1, c2, c3, c4, c5, c6, c7, c8, c9, c10, c11⟩ := hP.pars; have hPl := hP.lt
      clear hP hS hI hH
      replace q12 := Lib.hid q12
      replace q13 := Lib.hid q13
      replace q17 := Lib.hid q17
      replace q18 := Lib.hid q18
      clear hts hFn
      go_upto_region 17 with fail
      go_upto_region 18 with (go_at_call 10; refine (KN.out _ (HAA2.out _ hq)).mono ?_; rintro e w4 ⟨G, t, b, A2, q5, rfl, hO, hT, hG, -, hb1⟩; clear s0 s1 s2 s3 s4 s5 s6 s7 s8 s9 s10 hsl; clear c0 c1 c2 c3 c4 c5 c6 c7 c8 c9 c10 c11 hPl; have hwG : wr.heap.size ≤ G ∧ wr.heap.size ≤ b := ⟨hG.1, hG.2.2⟩; replace hq := hq.trans hb1; clear hb1; clear hG)
      obtain ⟨-, -, hI, hH⟩ := HQ.out _ hq
      have hA2 := hT.pairs.1
      clear hT KN
      obtain ⟨K2, hK2⟩ : ∃ z, w4.heap.size = z := ⟨_, rfl⟩
      have HKW := Lib.hid hK2
      have HHW := Lib.hid hH
      have hrow : w4.ownsRow K2 65 15 (.slice none 0 0) 0 [] := World.ownsRow_nil _ _ _ _
      have hokr := Ok.refl w4
      have i1 := hI.cell 1 (v := .slice B2 LL.length q2) rfl
      have hIl := hI.lt
      clear hK2 hI hH
      go_wp2_with fail
      clear i1 hIl
      go_loopw [19, 220] (fun f i wr => ∃ (k : Nat) (v : Value), k ≤ LL.length ∧ v = f ∧ i = .int .i64 k ∧ wr.ownsRow K2 65 15 v k ((Nod.nbNs p now ts hs false k).flatMap haL) ∧ Ok w4 wr) (fun _ i _ => LL.length - (intOf i).toNat)
      case atStart => exact ⟨0, .slice none 0 0, Nat.zero_le _, rfl, rfl, hrow, hokr⟩
      case round =>
        clear hrow hokr
        obtain ⟨k, v, hk, rfl, rfl, hrow, hokr⟩ := hrel
        by_cases hlt : k < LL.length
        · obtain ⟨b2, off, hB2, hb, hcx⟩ := (HHW.out.below hokr).nthAt k hlt
          obtain ⟨x, hx⟩ : ∃ x, LL[k] = x := ⟨_, rfl⟩
          obtain ⟨t0, t1, t2, t3, t4, t5, t6, t7, t8, t9, t10, t11, t12, t13, t14⟩ := hcx x hx
          have HXE := Lib.hid hx
          have hll2 : LL.length ≤ 12 := HL12.out
          clear hcx hx
          subst hB2
          have hrl := fun g hg => (World.ownsRow.lt hrow g hg).2
          go_upto_region 22 with fail
          clear t0 t1 t2 t3 t4 t5 t6 t7 t8 t9 t10 t11 t12 t13 t14 hb
          have hZ := Own.new wr #[.int .i64 x.m.kind, .int .i64 x.m.frm, .int .i64 x.m.lo, .int .i64 x.m.hi, .int .i64 x.m.held, .int .i64 x.m.hops, .bool x.m.good, .bool x.m.ref, .int .i64 x.m.slo, .int .i64 x.m.shi, .int .i64 x.m.pulse, .int .i64 x.m.time, .int .i64 x.m.num, .slice x.A x.m.table.length x.cap, .int .i64 x.age] 65 rfl
          replace hrow := World.ownsRow.alloc hrow (.cells #[.int .i64 x.m.kind, .int .i64 x.m.frm, .int .i64 x.m.lo, .int .i64 x.m.hi, .int .i64 x.m.held, .int .i64 x.m.hops, .bool x.m.good, .bool x.m.ref, .int .i64 x.m.slo, .int .i64 x.m.shi, .int .i64 x.m.pulse, .int .i64 x.m.time, .int .i64 x.m.num, .slice x.A x.m.table.length x.cap, .int .i64 x.age] 65)
          have hZr := Nat.le_trans (Nat.le_of_eq HKW.out.symm) hokr.size
          replace hokr := hokr.alloc (.cells #[.int .i64 x.m.kind, .int .i64 x.m.frm, .int .i64 x.m.lo, .int .i64 x.m.hi, .int .i64 x.m.held, .int .i64 x.m.hops, .bool x.m.good, .bool x.m.ref, .int .i64 x.m.slo, .int .i64 x.m.shi, .int .i64 x.m.pulse, .int .i64 x.m.time, .int .i64 x.m.num, .slice x.A x.m.table.length x.cap, .int .i64 x.age] 65)
          change Code.wp _ _ _ _ (wr.alloc (.cells #[.int .i64 x.m.kind, .int .i64 x.m.frm, .int .i64 x.m.lo, .int .i64 x.m.hi, .int .i64 x.m.held, .int .i64 x.m.hops, .bool x.m.good, .bool x.m.ref, .int .i64 x.m.slo, .int .i64 x.m.shi, .int .i64 x.m.pulse, .int .i64 x.m.time, .int .i64 x.m.num, .slice x.A x.m.table.length x.cap, .int .i64 x.age] 65))
          generalize wr.alloc (.cells #[.int .i64 x.m.kind, .int .i64 x.m.frm, .int .i64 x.m.lo, .int .i64 x.m.hi, .int .i64 x.m.held, .int .i64 x.m.hops, .bool x.m.good, .bool x.m.ref, .int .i64 x.m.slo, .int .i64 x.m.shi, .int .i64 x.m.pulse, .int .i64 x.m.time, .int .i64 x.m.num, .slice x.A x.m.table.length x.cap, .int .i64 x.age] 65) = W3 at hZ hrow hokr ⊢
          generalize wr.heap.size = Z at hZ hrl hZr ⊢
          have z6 := hZ.cell 6 rfl
          have z6f := hZ.frozen 6
          have hZl := hZ.lt
          go_upto_region 23 with fail
          clear z6 z6f hZl
          replace hZ := hZ.set 6 (.bool false)
          change Own _ Z #[.int .i64 x.m.kind, .int .i64 x.m.frm, .int .i64 x.m.lo, .int .i64 x.m.hi, .int .i64 x.m.held, .int .i64 x.m.hops, .bool false, .bool x.m.ref, .int .i64 x.m.slo, .int .i64 x.m.shi, .int .i64 x.m.pulse, .int .i64 x.m.time, .int .i64 x.m.num, .slice x.A x.m.table.length x.cap, .int .i64 x.age] at hZ
          replace hrow := row_set23 hrow ⟨Z, 6, none⟩ (.bool false) (fun e => by have := hrl _ e; simp at this)
          replace hokr := hokr.setCell (p := ⟨Z, 6, none⟩) (by show w4.heap.size ≤ Z; have := HKW.out; omega) (.bool false)
          change Code.wp _ _ _ _ (W3.setCell ⟨Z, 6, none⟩ (.bool false))
          generalize W3.setCell ⟨Z, 6, none⟩ (.bool false) = W4 at hZ hrow hokr ⊢
          have z0 := hZ.cell 0 rfl
          have z1 := hZ.cell 1 rfl
          have z2 := hZ.cell 2 rfl
          have z3 := hZ.cell 3 rfl
          have z4 := hZ.cell 4 rfl
          have z5 := hZ.cell 5 rfl
          have z6 := hZ.cell 6 rfl
          have z7 := hZ.cell 7 rfl
          have z8 := hZ.cell 8 rfl
          have z9 := hZ.cell 9 rfl
          have z10 := hZ.cell 10 rfl
          have z11 := hZ.cell 11 rfl
          have z12 := hZ.cell 12 rfl
          have z13 := hZ.cell 13 rfl
          have z14 := hZ.cell 14 rfl
          have hZl := hZ.lt
          have HR := Lib.hid (row_far23 hrow)
          have hex : Nod.nbNs p now ts hs false k ++ [(⟨{ x.m with good := false }, x.A, x.cap, x.age⟩ : HA)] = Nod.nbNs p now ts hs false (k + 1) := by
            rw [Nod.nbNs_next, HAT.out k hlt x HXE.out]
          have hwk : w4.heap.size = K2 := HKW.out
          go_upto_region 24 with (at_builtin; refine wpList_append_heard rfl _ _ rfl K2 v (Nod.nbNs p now ts hs false k) k rfl (World.ownsRow.alloc hrow _) _ (⟨{ x.m with good := false }, x.A, x.cap, x.age⟩ : HA) rfl (Own.new _ _ _ rfl) (by omega) (by have := hokr.size; simp; omega) ?_; intro v2 w6 hown hgrow; obtain ⟨A3, m3, q3, rfl⟩ := row_slice23 hown; have hok6 := Below.grown (hokr.alloc _) hgrow (by have := hokr.size; simp; omega) (fun g e => by have := HR.out _ e; omega))
          rw [hex] at hown
          clear z0 z1 z2 z3 z4 z5 z6 z7 z8 z9 z10 z11 z12 z13 z14 hZl hwk
          go_wp2_with fail
          go_roundw
          case rel => exact ⟨k + 1, .slice A3 m3 q3, hlt, rfl, by go_num, hown, hok6⟩
          case measure => simp [intOf]; omega
        · have ek : k = ts.length := by omega
          subst ek
          rw [HLFE.out] at hrow
          obtain ⟨B3, q3, rfl, hF⟩ := heards_of_row HTS2.out hrow (fun x hx => by rw [← HLFE.out] at hx; exact HFT.out _ x hx)
          replace hO := hO.next hokr
          replace hA2 := hA2.below hokr
          replace hq := hq.trans hokr
          clear hokr hrow
          obtain ⟨hP, -, -, -⟩ := HQ.out _ hq
          have c3 := hP.cell 3 (v := .int .i64 p.beat) rfl
          have hPl := hP.lt
          clear hlt hk HFT HLFE HTS2 HAT HL12 HKW HHW hP
          go_upto_region 26 with (go_at_call 13; refine (KB1.out _ _ _ _ _ _ _ _ hO hA2 hF (HPOW2.out _ hq)).mono ?_; rintro e w5 ⟨mm, A3, c3', Y1, A4, c4', rfl, hO2, hon⟩; clear c3 hPl; replace hq := hon.then_ok hq hwG.1 hwG.2; clear hon hO hA2 hF)
          obtain ⟨hP, hS, -, -⟩ := HQ.out _ hq
          obtain ⟨s0, s1, s2, s3, s4, s5, s6, s7, s8, s9, s10⟩ := hS.sta; have hsl := hS.lt
          obtain ⟨c0, c1, c2, c3, c4, c5, c6, c7, c8, c9, c10, c11⟩ := hP.pars; have hPl := hP.lt
          clear hP hS
          go_upto_region 27 with (go_at_call 21; refine (KSN.out _ (HAA2.out _ hq)).mono ?_; rintro e W7 ⟨A5, d5, rfl, hT, hb1⟩; clear s0 s1 s2 s3 s4 s5 s6 s7 s8 s9 s10 hsl; clear c0 c1 c2 c3 c4 c5 c6 c7 c8 c9 c10 c11 hPl; have hGW := hO2.own.lt; replace hO2 := hO2.next hb1; replace hq := hq.trans hb1; clear hb1; obtain ⟨s0, s1, s2, s3, s4, s5, s6, s7, s8, s9, s10⟩ := hO2.own.frS; obtain ⟨y0, y1, y2, y3, y4, y5, y6, y7, y8, y9, y10⟩ := frozenF hO2.own; have hgl := hO2.own.lt; unfold staV)
          have k1 := only_setF (Only.refl G W7) S0 A5 d5
          have hG1 := own_setF hO2.own S0 A5 d5
          have hO3 := hO2.step k1 hG1
          clear s0 s1 s2 s3 s4 s5 s6 s7 s8 s9 s10 y0 y1 y2 y3 y4 y5 y6 y7 y8 y9 y10 hgl hG1 hO2
          change Code.wp _ _ _ _ (((((((((((W7.setCell ⟨G, 12, none⟩ (.int .i64 S0.lo)).setCell ⟨G, 13, none⟩ (.int .i64 S0.hi)).setCell ⟨G, 14, none⟩ (.int .i64 S0.time)).setCell ⟨G, 15, none⟩ (.bool S0.set)).setCell ⟨G, 16, none⟩ (.int .i64 S0.held)).setCell ⟨G, 17, none⟩ (.int .i64 S0.hops)).setCell ⟨G, 18, none⟩ (.bool S0.good)).setCell ⟨G, 19, none⟩ (.slice A5 S0.table.length d5)).setCell ⟨G, 20, none⟩ (.int .i64 S0.st)).setCell ⟨G, 21, none⟩ (.int .i64 S0.sn)).setCell ⟨G, 22, none⟩ (.int .i64 S0.life))
          generalize (((((((((((W7.setCell ⟨G, 12, none⟩ (.int .i64 S0.lo)).setCell ⟨G, 13, none⟩ (.int .i64 S0.hi)).setCell ⟨G, 14, none⟩ (.int .i64 S0.time)).setCell ⟨G, 15, none⟩ (.bool S0.set)).setCell ⟨G, 16, none⟩ (.int .i64 S0.held)).setCell ⟨G, 17, none⟩ (.int .i64 S0.hops)).setCell ⟨G, 18, none⟩ (.bool S0.good)).setCell ⟨G, 19, none⟩ (.slice A5 S0.table.length d5)).setCell ⟨G, 20, none⟩ (.int .i64 S0.st)).setCell ⟨G, 21, none⟩ (.int .i64 S0.sn)).setCell ⟨G, 22, none⟩ (.int .i64 S0.life)) = X4 at k1 hO3 ⊢
          replace hT := hT.only k1 hGW
          have hA5 := hT.pairs.1
          replace hq := Only.then_ok hq k1 hwG.1
          clear k1 hT hGW
          obtain ⟨-, -, hI, hH⟩ := HQ.out _ hq
          have i0 := hI.cell 0 (v := .int .i64 tk) rfl
          have i1 := hI.cell 1 (v := .slice B2 LL.length q2) rfl
          have i2 := hI.cell 2 (v := .bool false) rfl
          have i3 := hI.cell 3 (v := .int .i64 0) rfl
          have i4 := hI.cell 4 (v := .bool false) rfl
          have i5 := hI.cell 5 (v := .slice none 0 0) rfl
          have hIl := hI.lt
          clear hI
          go_upto_region 28 with (go_at_call 13; refine (KB2.out _ _ _ _ _ _ hO3 hA5 hH (HPOW2.out _ hq)).mono ?_; rintro e w8 ⟨mm2, A6, c6', A7, c7', rfl, hO4, hon⟩; clear i0 i1 i2 i3 i4 i5 hIl; replace hq := hon.then_ok hq hwG.1 hwG.2; clear hon hO3 hA5 hH)
          obtain ⟨hP, -, -, -⟩ := HQ.out _ hq
          have hok := HQ0.out _ hq
          obtain ⟨r1, r2, hw1, hw2, hw3⟩ := HRR.out
          have g12 := hO4.cell 12 (q12.out t A7 c7')
          have g13 := hO4.cell 13 (q13.out t A7 c7')
          have hGl := hO4.lt
          have c3 := hP.cell 3 (v := .int .i64 p.beat) rfl
          have d2c := hP.cell 2 (v := .int .i64 p.d) rfl
          have hPl := hP.lt
          have g17 := hO4.cell 17 (q17.out t A7 c7')
          have g18 := hO4.cell 18 (q18.out t A7 c7')
          have hway := HWAY.out
          have HC0 := Lib.hid fun W' (j : Ok w8 W') => And.intro ((hP.next j).cell 2 (v := .int .i64 p.d) rfl) (And.intro (hP.next j).lt (And.intro ((hO4.next j).cell 17 (q17.out t A7 c7')) (And.intro ((hO4.next j).cell 18 (q18.out t A7 c7')) (hO4.next j).lt)))
          clear hO4 hP HRR HWAY KB1 KB2 KSN q12 q13 q17 q18 HAA2 HTT HHH HSL HPOW2 HC1 HTS HTK hwG HQ HQ0 hq
          go_upto_region 31 with fail
          rcases hway with ⟨a1, rfl, rfl⟩ | ⟨a1, rfl, rfl⟩
          · refine end31A Bp G p u _ w8 HC0 (Lib.hid ⟨decide_eq_true a1, hw2, by simp⟩) ?_
            intro v271 v272 v273 v274 v275 v276 v277 v278 v279 v280 v281 v282 v283 v284 v285 v286 v287 v288 v289 v290 v291 v292 v293 v294 v295 v296 v297 v298 v299 v300 v301 v302 v303 v304 v305 v306 v307 v308 v309 v310 v311 v312 v313 v314 v315 v316 v317 v318 v319 v320 wx hb
            go_wp2_with fail
            go_ret
            exact ⟨rfl, hok.trans hb⟩
          · refine end31B Bp G p u _ w8 HC0 (Lib.hid ⟨decide_eq_false (by omega), decide_eq_true a1, hw3, by simp⟩) ?_
            intro v271 v272 v273 v274 v275 v276 v277 v278 v279 v280 v281 v282 v283 v284 v285 v286 v287 v288 v289 v290 v291 v292 v293 v294 v295 v296 v297 v298 v299 v300 v301 v302 v303 v304 v305 v306 v307 v308 v309 v310 v311 v312 v313 v314 v315 v316 v317 v318 v319 v320 wx hb
            go_wp2_with fail
            go_ret
            exact ⟨rfl, hok.trans hb⟩
theorem walk (w : World) (hT0 : Pow w) (p : Par) (wp : ParWf p) (s : Sta) (A : Option Addr) (cap : Nat) (hA : PairsAt w A s.table) (hcs : s.table.length ≤ cap) (hms : cap ≤ maxLen) (ws : StaWf s) (now : Int) (wnow : (Lit.int .i64 now).wf = true) (T : Option Addr) (ts : List Tl) (cT : Nat) (hT : CellsAt w T (ts.flatMap tldcells)) (hlT : ts.length ≤ 9223372036854775807) (hwT : ∀ x ∈ ts, tldok x) (B : Option Addr) (l : List Int) (cB : Nat) (hB : IntsAt w B l) (hlB : l.length ≤ 9223372036854775807) (hwB : ∀ x ∈ l, (Lit.int .i64 x).wf = true) (err : Int) (werr : (Lit.int .i64 err).wf = true) :
    Calls Tryz.prog 5 #[parV p, staV s A cap, .int .i64 now, .slice T ts.length cT, .slice B l.length cB, .int .i64 err] w fun e w' => e = .returned (.bool true) ∧ Below w.heap.size w w' :=
  walkF w hT0 p s A cap now T ts cT B l cB err hA (Nat.le_trans hcs (Nat.le_trans hms (by decide))) hT hlT hB hlB
theorem own : ownKnob Tryz.prog.godebug = none := by kernel_rfl
theorem laidOut : laidOutB Tryz.prog = true := by kernel_rfl
theorem laid_met (os : Os) : laidMet Tryz.prog Rows.nodeFollowsRow.laid ((laidWorld os).forCall (fun _ _ => 0) ⟨#[], #[.agg #[.int .i64 0, .int .i64 0, .int .i64 0, .int .i64 0, .int .i64 0, .int .i64 0, .int .i64 0, .int .i64 0, .int .i64 0, .int .i64 0, .int .i64 0, .int .i64 0], .agg #[.int .i64 0, .int .i64 0, .int .i64 0, .bool false, .int .i64 0, .int .i64 0, .bool false, .slice none 0 0, .int .i64 0, .int .i64 0, .int .i64 0], .int .i64 0, .slice none 0 0, .slice none 0 0, .int .i64 0], []⟩).memory :=
  laidMet_of_run' 8 (by kernel_rfl) (by kernel_rfl)
theorem reads (os : Os) {H : Type} (enc : TypeId × Value → H) : ∃ places, DataW.whole enc Tryz.prog ((laidWorld os).forCall (fun _ _ => 0) ⟨#[], #[.agg #[.int .i64 0, .int .i64 0, .int .i64 0, .int .i64 0, .int .i64 0, .int .i64 0, .int .i64 0, .int .i64 0, .int .i64 0, .int .i64 0, .int .i64 0, .int .i64 0], .agg #[.int .i64 0, .int .i64 0, .int .i64 0, .bool false, .int .i64 0, .int .i64 0, .bool false, .slice none 0 0, .int .i64 0, .int .i64 0, .int .i64 0], .int .i64 0, .slice none 0 0, .slice none 0 0, .int .i64 0], []⟩).memory Tryz.f5.params.toList Rows.nodeFollowsSpec.vars false (#[.agg #[.int .i64 0, .int .i64 0, .int .i64 0, .int .i64 0, .int .i64 0, .int .i64 0, .int .i64 0, .int .i64 0, .int .i64 0, .int .i64 0, .int .i64 0, .int .i64 0], .agg #[.int .i64 0, .int .i64 0, .int .i64 0, .bool false, .int .i64 0, .int .i64 0, .bool false, .slice none 0 0, .int .i64 0, .int .i64 0, .int .i64 0], .int .i64 0, .slice none 0 0, .slice none 0 0, .int .i64 0] : Array Value).toList 8 = some ([.agg [.lit (.int .i64 0), .lit (.int .i64 0), .lit (.int .i64 0), .lit (.int .i64 0), .lit (.int .i64 0), .lit (.int .i64 0), .lit (.int .i64 0), .lit (.int .i64 0), .lit (.int .i64 0), .lit (.int .i64 0), .lit (.int .i64 0), .lit (.int .i64 0)], .agg [.agg [.lit (.int .i64 0), .lit (.int .i64 0)], .lit (.int .i64 0), .lit (.bool false), .lit (.int .i64 0), .lit (.int .i64 0), .lit (.bool false), .nil, .agg [.lit (.int .i64 0), .lit (.int .i64 0)], .lit (.int .i64 0)], .lit (.int .i64 0), .nil, .nil, .lit (.int .i64 0)], [], places) :=
  ⟨[], by kernel_rfl⟩
set_option maxRecDepth 100000 in
theorem lifted (os : Os) (started : os.Started) (H : Type) (enc : TypeId × Value → H) (F : Stop.Interp) :
    ReturnsInHanded {} Tryz.checked os 5 .any ((OpenSpec.ofChange Rows.nodeFollowsSpec).preRow enc Tryz.prog Tryz.f5 Rows.nodeFollowsRow.domain false Rows.nodeFollowsRow.laid) (((OpenSpec.ofChange Rows.nodeFollowsSpec).at F).post enc Tryz.prog Tryz.f5 false true false false) := by
  obtain ⟨places, hx⟩ := reads os enc
  refine returnsInHanded_of_row (C := Tryz.checked) (s := OpenSpec.ofChange Rows.nodeFollowsSpec) own started (by kernel_rfl) Tryz.func5
    (witness_row_at (enc := enc) (C := Tryz.checked) false (laidWorld os) #[.agg #[.int .i64 0, .int .i64 0, .int .i64 0, .int .i64 0, .int .i64 0, .int .i64 0, .int .i64 0, .int .i64 0, .int .i64 0, .int .i64 0, .int .i64 0, .int .i64 0], .agg #[.int .i64 0, .int .i64 0, .int .i64 0, .bool false, .int .i64 0, .int .i64 0, .bool false, .slice none 0 0, .int .i64 0, .int .i64 0, .int .i64 0], .int .i64 0, .slice none 0 0, .slice none 0 0, .int .i64 0] rfl (by kernel_rfl) (by kernel_rfl) (by kernel_rfl)
      (OpenSpec.preRow_of_cond 8 hx (by kernel_rfl) (fun k hk => by cases hk) (by kernel_rfl) (laid_met os))) ?_
  intro W base args ds gs before hval0 hW _ _ _ hL _ _
  have hval : ∀ (j : Nat) t v, Tryz.f5.params[j]? = some t → args[j]? = some v → Value.okWide Tryz.prog W .any base t v := hval0
  have hW' := hW
  obtain ⟨p, q, hA, hV, rfl, _, _⟩ := hW
  obtain ⟨rfl, rfl⟩ := trodVars_none hV
  replace hA : DataW.TrodAll enc Tryz.prog W 0 (fun _ => true) true Tryz.f5.params.toList args.toList ds p := hA
  rw [Tryz.params5] at hA hval
  obtain ⟨v0, vs0, d0, ds0, p0, q0, hargs, rfl, rfl, h0, r0⟩ := trodAll_cons hA
  obtain ⟨v1, vs1, d1, ds1, p1, q1, rfl, rfl, rfl, h1, r1⟩ := trodAll_cons r0
  obtain ⟨v2, vs2, d2, ds2, p2, q2, rfl, rfl, rfl, h2, r2⟩ := trodAll_cons r1
  obtain ⟨v3, vs3, d3, ds3, p3, q3, rfl, rfl, rfl, h3, r3⟩ := trodAll_cons r2
  obtain ⟨v4, vs4, d4, ds4, p4, q4, rfl, rfl, rfl, h4, r4⟩ := trodAll_cons r3
  obtain ⟨v5, vs5, d5, ds5, p5, q5, rfl, rfl, rfl, h5, r5⟩ := trodAll_cons r4
  obtain ⟨rfl, rfl, rfl⟩ := trodAll_nil r5
  obtain rfl : args = #[v0, v1, v2, v3, v4, v5] := by cases args; simp_all
  obtain ⟨p0, rfl, wp0⟩ := open_par Tryz.underlying23 rfl (by kernel_rfl) (by kernel_rfl) (by kernel_rfl) (hval 0 23 v0 rfl rfl) h0
  obtain ⟨s1, A1, c1, rfl, hA1, hc1, hm1, w1⟩ := open_sta (hval 1 30 v1 rfl rfl) h1
  obtain ⟨a2, rfl, rfl, rfl, w2⟩ := open_int Tryz.underlying3 (hval 2 3 v2 rfl rfl) h2
  obtain ⟨A3, l3, c3, rfl, hA3, hl3, hw3⟩ := open_slice_rows tldcells tldok tldkinds tldlen tldof (by decide) Tryz.underlying59 Tryz.underlying63 (by kernel_rfl) (by kernel_rfl) (by kernel_rfl) (hval 3 59 v3 rfl rfl) h3
  obtain ⟨A4, l4, c4, rfl, hA4, hl4, hw4⟩ := open_sliceK Tryz.underlying56 Tryz.underlying3 (by kernel_rfl) (hval 4 56 v4 rfl rfl) h4
  obtain ⟨a5, rfl, rfl, rfl, w5⟩ := open_int Tryz.underlying3 (hval 5 3 v5 rfl rfl) h5
  refine (walk W (tab_of hL) p0 wp0 s1 A1 c1 hA1 hc1 hm1 w1 a2 w2 A3 l3 c3 hA3 hl3 hw3 A4 l4 c4 hA4 hl4 hw4 a5 w5).mono fun e W' ⟨he, hb⟩ => ?_
  subst he
  exact ⟨_, rfl, law_post hW' laidOut (by rw [Tryz.params5]; exact params_ok (by kernel_rfl)) rfl (by kernel_rfl) Tryz.underlying4 rfl rfl rfl hb⟩
theorem said : Rows.NodeFollowsSaid :=
  OpenClaim.holds_of_cond 5 Tryz.f5 rfl rfl rfl rfl rfl rfl rfl ⟨rfl, rfl, rfl, rfl, rfl⟩ rfl rfl rfl rfl rfl (by kernel_rfl) Tryz.func5 (by kernel_rfl)
    (of_decide_eq_true (by kernel_rfl)) (by unfold Func.isWrapper; first | (rw [if_pos (by decide +kernel)]; kernel_rfl) | (rw [if_neg (by decide +kernel)]; exact ⟨rfl, rfl⟩))
    (fun os started H enc _ F => by rw [OpenClaim.pre_eq_preRow]; exact lifted os started H enc F)
theorem plain (f : FuncId) (fn : Func) (hf : Tryz.pinned.checked.prog.funcNamed "clepsydra/clepsydralaw23.NodeFollows" = some f) (hfn : Tryz.pinned.checked.prog.funcs[f]? = some fn) :
    false = Tryz.pinned.checked.prog.looks [] ∧ ∀ (j : Nat) t, fn.params[j]? = some t → Tryz.pinned.checked.prog.wantsStandIn t = false := by
  obtain rfl : f = 5 := Option.some.inj ((show Tryz.prog.funcNamed "clepsydra/clepsydralaw23.NodeFollows" = some 5 by kernel_rfl).symm.trans hf) |>.symm
  obtain rfl : fn = Tryz.f5 := (Option.some.inj (Tryz.func5.symm.trans hfn)).symm
  refine ⟨by kernel_rfl, fun j t ht => ?_⟩
  have hall : (Tryz.f5.params.toList.all fun u => !Tryz.prog.wantsStandIn u) = true := by kernel_rfl
  have hm : t ∈ Tryz.f5.params.toList := Array.mem_toList_iff.2 (Array.mem_of_getElem? ht)
  exact (show Tryz.prog.wantsStandIn t = false by simpa using List.all_eq_true.1 hall t hm)
theorem proved : Rows.NodeFollowsCardSaid :=
  Claim7.holds_tied_plain_at .later [] _ _ _ _ said (fun _ h => by cases h) (by kernel_rfl) (fun _ h => by cases h) nodeFollows_row_tie rfl ⟨rfl, rfl⟩ (by kernel_rfl) rfl plain (by kernel_rfl)
end Go.Proofs.YtmokofblmkeloaaGreatDoor.nodeFollows
