/- Contracts of layer 8: a ring: one more item. -/
import Derived.Test.YtnjlamnpiafpdaaC08a
namespace Go.Proofs.Ytnjlamnpiafpdaa
open Go.RowKit
set_option maxRecDepth 100000
theorem ringPushRoom (g o f : Nat) (cs : Array Value) (l : List (ByteArray × Int)) (s : ByteArray) (w : World) (hO : Own w g cs) (hR : Ring cs o f l) (hlt : l.length < 64) :
    Calls Try.prog 21 #[.pointer (some ⟨g, o, none⟩), .string s] w fun e w' => e = .returned (.int .i64 0) ∧ Only g w w' ∧ ∃ cs', Own w' g cs' ∧ Aside o cs cs' ∧ Ring cs' o f (l ++ [(s, 0)]) := by
  have hf := hR.hf
  have hs := hR.hs
  have H1 := Lib.hid hR.first
  have H2 := Lib.hid hR.count
  obtain ⟨n, hn⟩ : ∃ n, l.length = n := ⟨_, rfl⟩
  rw [hn] at H2 hlt
  have HN := Lib.hid hn
  clear hn
  obtain ⟨v3, h3⟩ : ∃ v, cs[o + (f + n) % 64 * 2]? = some v := ⟨_, Array.getElem?_eq_getElem (by omega)⟩
  obtain ⟨v4, h4⟩ : ∃ v, cs[o + (f + n) % 64 * 2 + 1]? = some v := ⟨_, Array.getElem?_eq_getElem (by omega)⟩
  have H3 := Lib.hid h3
  have H4 := Lib.hid h4
  have HR := Lib.hid hR
  clear hR h3 h4
  have c0 := hO.cell _ H2.out
  have hd : ((n : Int) == 64) = false := by rw [beq_eq_false_iff_ne]; omega
  go_enter Try.func21, Try.ntmps21
  go_wp2_with fail
  refine (ringAt g o f n _ hf (by omega) ?c2 ?g2).mono ?_
  case c2 => exact hO.cell _ H1.out
  case g2 => exact hO.lt
  rintro e w2 ⟨rfl, hK2⟩
  have hO2 := hO.next hK2
  have hok := Lib.hid hK2
  clear hK2 c0
  have c1 := hO2.cell _ H2.out
  have c3 := hO2.cell _ H3.out
  have c4 := hO2.cell _ H4.out
  have f1 := hO2.frozen (o + (f + n) % 64 * 2)
  have f2 := hO2.frozen (o + (f + n) % 64 * 2 + 1)
  have f3 := hO2.frozen (o + 129)
  go_wp2_with fail
  go_ret
  refine ⟨rfl, ?_, _, (((hO2.set _ _).set _ _).set _ _), Ring.push_aside cs o f n _ _ _, ?_⟩
  · iterate 3 (refine Only.setR ?_ _ _)
    exact Only.of_ok hok.out
  · have h := HR.out.push (by rw [HN.out]; exact hlt) s
    rw [HN.out] at h
    exact h
theorem ringPushFull (g o f : Nat) (cs : Array Value) (x : ByteArray × Int) (l : List (ByteArray × Int)) (s : ByteArray) (w : World) (hO : Own w g cs) (hR : Ring cs o f (x :: l)) (hlt : l.length = 63) :
    Calls Try.prog 21 #[.pointer (some ⟨g, o, none⟩), .string s] w fun e w' => e = .returned (.int .i64 8) ∧ Only g w w' ∧ ∃ cs', Own w' g cs' ∧ Aside o cs cs' ∧ ∃ f', Ring cs' o f' (l ++ [(s, 0)]) := by
  have hc := hR.count
  simp only [List.length_cons, hlt] at hc
  have HL := Lib.hid hlt
  clear hlt
  have c0 := hO.cell _ hc
  have HR := Lib.hid hR
  clear hR hc
  go_enter Try.func21, Try.ntmps21
  go_wp2_with fail
  refine (ringPop g o f cs x l _ hO HR.out).mono ?_
  rintro e w1 ⟨rfl, hB, cs1, hO1, hA, hR1⟩
  have HB := Lib.hid hB
  have HA := Lib.hid hA
  have hf := hR1.hf
  have hs := hR1.hs
  have H1 := Lib.hid hR1.first
  have k2 := hR1.count
  rw [HL.out] at k2
  have H2 := Lib.hid k2
  clear k2 c0 hB hA HR
  generalize hF : (f + 1) % 64 = F at hf H1 hR1
  clear hF
  obtain ⟨v3, h3⟩ : ∃ v, cs1[o + (F + 63) % 64 * 2]? = some v := ⟨_, Array.getElem?_eq_getElem (by omega)⟩
  obtain ⟨v4, h4⟩ : ∃ v, cs1[o + (F + 63) % 64 * 2 + 1]? = some v := ⟨_, Array.getElem?_eq_getElem (by omega)⟩
  have H3 := Lib.hid h3
  have H4 := Lib.hid h4
  have HR := Lib.hid hR1
  clear hR1 h3 h4 hs
  have c0 := hO1.cell _ H2.out
  go_wp2_with fail
  refine (ringAt g o F 63 _ hf (by omega) ?c2 ?g2).mono ?_
  case c2 => exact hO1.cell _ H1.out
  case g2 => exact hO1.lt
  rintro e w2 ⟨rfl, hK2⟩
  have hO2 := hO1.next hK2
  have hok := Lib.hid hK2
  clear hK2 c0
  have c1 := hO2.cell _ H2.out
  have c3 := hO2.cell _ H3.out
  have c4 := hO2.cell _ H4.out
  have f1 := hO2.frozen (o + (F + 63) % 64 * 2)
  have f2 := hO2.frozen (o + (F + 63) % 64 * 2 + 1)
  have f3 := hO2.frozen (o + 129)
  go_wp2_with fail
  go_ret
  refine ⟨rfl, ?_, _, (((hO2.set _ _).set _ _).set _ _), HA.out.trans (Ring.push_aside cs1 o F 63 _ _ _), F, ?_⟩
  · iterate 3 (refine Only.setR ?_ _ _)
    exact HB.out.ok hok.out
  · have h := HR.out.push (by rw [HL.out]; decide) s
    rw [HL.out] at h
    exact h
end Go.Proofs.Ytnjlamnpiafpdaa
