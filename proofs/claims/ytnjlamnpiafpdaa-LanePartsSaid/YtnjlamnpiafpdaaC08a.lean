/- Contracts of layer 8: a ring: the place of an item, one item out, one in. -/
import Derived.Test.YtnjlamnpiafpdaaW22
import Derived.Deep.QuietTactic
import Derived.BigQuiet
namespace Go.Proofs.Ytnjlamnpiafpdaa
open Go.RowKit
set_option maxRecDepth 100000
theorem ringAt (g o f i : Nat) (w : World) (hf : f < 64) (hi : i ≤ 64) (hc : w.cell? ⟨g, o + 128, none⟩ = some (.int .i64 (f : Nat))) (_hg : g < w.heap.size) :
    Calls Try.prog 25 #[.pointer (some ⟨g, o, none⟩), .int .i64 (i : Nat)] w fun e w' => e = .returned (.pointer (some ⟨g, o + (f + i) % 64 * 2, none⟩)) ∧ Ok w w' := by
  have hok := Ok.refl w
  have h1 : IntKind.i64.wrap ((f : Int) + (i : Int)) = (f : Int) + (i : Int) := IntWalk.i64_in _ ⟨by omega, by omega⟩
  go_enter Try.func25, Try.ntmps25
  go_wp2
  go_quiet (fail)
  go_wp2
  go_ret
  exact ⟨rfl, hok.drewN _⟩
theorem ringAt0 (g o f : Nat) (w : World) (hf : f < 64) (hc : w.cell? ⟨g, o + 128, none⟩ = some (.int .i64 (f : Nat))) (hg : g < w.heap.size) :
    Calls Try.prog 25 #[.pointer (some ⟨g, o, none⟩), .int .i64 0] w fun e w' => e = .returned (.pointer (some ⟨g, o + f * 2, none⟩)) ∧ Ok w w' := by
  have h := ringAt g o f 0 w hf (by decide) hc hg
  have e : (f + 0) % 64 = f := by omega
  rw [e] at h
  exact h
theorem ringPop (g o f : Nat) (cs : Array Value) (x : ByteArray × Int) (l : List (ByteArray × Int)) (w : World) (hO : Own w g cs) (hR : Ring cs o f (x :: l)) :
    Calls Try.prog 23 #[.pointer (some ⟨g, o, none⟩)] w fun e w' => e = .returned (.agg #[.string x.1, .int .i64 x.2]) ∧ Only g w w' ∧ ∃ cs', Own w' g cs' ∧ Aside o cs cs' ∧ Ring cs' o ((f + 1) % 64) l := by
  have hf := hR.hf
  have hl := hR.hl
  simp only [List.length_cons] at hl
  have k1 := hR.first
  have k2 := hR.count
  have k3 : cs[o + f * 2]? = some (.string x.1) := by have := hR.text 0 (by simp); rwa [show (f + 0) % 64 = f by omega] at this
  have k4 : cs[o + f * 2 + 1]? = some (.int .i64 x.2) := by have := hR.age 0 (by simp); rwa [show (f + 0) % 64 = f by omega] at this
  have HR := Lib.hid hR
  clear hR
  simp only [List.length_cons] at k2
  obtain ⟨s, a⟩ := x
  have hg := hO.lt
  have H1 := Lib.hid k1
  have H2 := Lib.hid k2
  have H3 := Lib.hid k3
  have H4 := Lib.hid k4
  clear k1 k2 k3 k4
  have hok := Ok.refl w
  go_enter Try.func23, Try.ntmps23
  go_wp2_with fail
  refine (ringAt0 g o f _ hf ?c1 ?g1).mono ?_
  case c1 => exact (hO.alloc _).cell _ H1.out
  case g1 => exact (hO.alloc _).lt
  rintro e w1 ⟨rfl, hK1⟩
  have hO1 := (hO.alloc _).next hK1
  have c1 := hO1.cell _ H1.out
  have c2 := hO1.cell _ H2.out
  have c3 := hO1.cell _ H3.out
  have c4 := hO1.cell _ H4.out
  have f1 := hO1.frozen (o + f * 2)
  have f2 := hO1.frozen (o + f * 2 + 1)
  go_wp2_with fail
  refine (ringAt0 g o f _ hf ?c2 ?g2).mono ?_
  case c2 => exact (hO1.alloc _).cell _ H1.out
  case g2 => exact (hO1.alloc _).lt
  rintro e w2 ⟨rfl, hK2⟩
  have hX := (Own.new w1 #[.string s, .int .i64 a] 36 rfl).next hK2
  have hZ := (((Own.new w #[.string ⟨#[]⟩, .int .i64 0] 36 rfl).next hK1).alloc (.cells #[.string s, .int .i64 a] 36)).next hK2
  have hO2 := (hO1.alloc (.cells #[.string s, .int .i64 a] 36)).next hK2
  replace hok := ((((hok.alloc (.cells #[.string ⟨#[]⟩, .int .i64 0] 36)).trans hK1).alloc (.cells #[.string s, .int .i64 a] 36)).trans hK2)
  have hlt1 : w.heap.size < w1.heap.size := by have := hK1.size; simp at this; omega
  clear hO1 hK1 hK2 c1 c2 c3 c4 f1 f2
  have c3 := hO2.cell _ H3.out
  have c4 := hO2.cell _ H4.out
  have f1 := hO2.frozen (o + f * 2)
  have f2 := hO2.frozen (o + f * 2 + 1)
  have c1 := hO2.cell _ H1.out
  have c2 := hO2.cell _ H2.out
  have f3 := hO2.frozen (o + 128)
  have f4 := hO2.frozen (o + 129)
  have x1 := hX.cell 0 rfl
  have x2 := hX.cell 1 rfl
  have z1 := hZ.cell 0 rfl
  have z2 := hZ.cell 1 rfl
  have y1 := hZ.frozen 0
  have y2 := hZ.frozen 1
  have n1 : g ≠ w1.heap.size := by omega
  have n2 : g ≠ w.heap.size := by omega
  go_wp2_with fail
  refine bodyPost_ret (v := .agg #[.string s, .int .i64 a]) (by simp [results, Try.results23, go_sem, z1, z2]) rfl ⟨rfl, ?_, _, ((((((hO2.set _ _).set _ _).set _ _).set _ _).setOther n2 _).setOther n2 _), Ring.pop_aside cs o f hf _ _ _ _, ?_⟩
  · iterate 2 (refine Only.setN ?_ (Nat.le_refl _) _ _)
    iterate 4 (refine Only.setR ?_ _ _)
    exact Only.of_ok hok
  · exact HR.out.pop (.string ⟨#[]⟩) (.int .i64 0)
end Go.Proofs.Ytnjlamnpiafpdaa
