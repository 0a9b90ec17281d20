/- Contracts of layer 9: the order of timers, as the code asks for it. -/
import Derived.Test.YtfankcoomfmjlaaC09a
namespace Go.Proofs.Ytfankcoomfmjlaa
open Go.RowKit
set_option maxRecDepth 100000
/-- Two structs of two integers that were laid in new blocks. -/
def Two2 (g : Nat) (w : World) (a b c d : Int) (w' : World) : Prop :=
  w'.cell? ⟨g, 0, none⟩ = some (.int .i64 a) ∧ w'.cell? ⟨g, 1, none⟩ = some (.int .i64 b) ∧ w'.cell? ⟨g + 1, 0, none⟩ = some (.int .i64 c) ∧ w'.cell? ⟨g + 1, 1, none⟩ = some (.int .i64 d) ∧ g + 1 < w'.heap.size ∧ Ok w w'
theorem Two2.next {g : Nat} {w w' w1 : World} {a b c d : Int} (h : Two2 g w a b c d w') (k : Ok w' w1) : Two2 g w a b c d w1 := by
  obtain ⟨c0, c1, c2, c3, hs, ho⟩ := h
  exact ⟨(k.cell (p := ⟨g, 0, none⟩) (by show g < _; omega)).trans c0, (k.cell (p := ⟨g, 1, none⟩) (by show g < _; omega)).trans c1, (k.cell (p := ⟨g + 1, 0, none⟩) hs).trans c2, (k.cell (p := ⟨g + 1, 1, none⟩) hs).trans c3, Nat.lt_of_lt_of_le hs k.size, ho.trans k⟩
theorem Two2.start (w : World) (a b c d : Int) (t : TypeId) : Two2 w.heap.size w a b c d ((w.alloc (.cells #[.int .i64 a, .int .i64 b] t)).alloc (.cells #[.int .i64 c, .int .i64 d] t)) := by
  have h1 := (Own.new w #[.int .i64 a, .int .i64 b] t rfl).alloc (.cells #[.int .i64 c, .int .i64 d] t)
  have h2 := Own.new (w.alloc (.cells #[.int .i64 a, .int .i64 b] t)) #[.int .i64 c, .int .i64 d] t (g := w.heap.size + 1) (by simp)
  exact ⟨h1.cell 0 rfl, h1.cell 1 rfl, h2.cell 0 rfl, h2.cell 1 rfl, by simp, ((Ok.refl w).alloc _).alloc _⟩
theorem Two2.drew {g : Nat} {w w' : World} {a b c d : Int} (h : Two2 g w a b c d w') : Two2 g w a b c d w'.drew := h.next (Ok.refl _).drew
set_option maxHeartbeats 1600000 in
theorem insIs (x y : Tm) (w : World) :
    Calls Try.prog 25 #[.agg #[.int .i64 x.id, .int .i64 x.t], .agg #[.int .i64 y.id, .int .i64 y.t]] w fun e w' => e = .returned (.int .i64 (ord x y)) ∧ Ok w w' := by
  obtain ⟨xi, xt⟩ := x
  obtain ⟨yi, yt⟩ := y
  have hd : ord ⟨xi, xt⟩ ⟨yi, yt⟩ = if c3 xt yt ≠ 0 then c3 xt yt else c3 xi yi := rfl
  rw [hd]
  clear hd
  obtain ⟨P, hP⟩ : ∃ P, c3 xt yt = P := ⟨_, rfl⟩
  obtain ⟨Q, hQ⟩ : ∃ Q, c3 xi yi = Q := ⟨_, rfl⟩
  have KP := Lib.hid fun w => cmpCompare xt yt w
  have KQ := Lib.hid fun w => cmpCompare xi yi w
  rw [hP] at KP ⊢
  rw [hQ] at KQ ⊢
  have KR := Lib.hid fun W b h0 h1 => cmpOrAt P Q W b h0 h1
  obtain ⟨R, hR⟩ : ∃ R, (if P ≠ 0 then P else Q) = R := ⟨_, rfl⟩
  rw [hR] at KR ⊢
  clear hP hQ hR
  go_enter Try.func25, Try.ntmps25
  go_wp2
  have hB := Two2.start w xi xt yi yt 50
  obtain ⟨W, hW⟩ : ∃ W, (w.alloc (.cells #[.int .i64 xi, .int .i64 xt] 50)).alloc (.cells #[.int .i64 yi, .int .i64 yt] 50) = W := ⟨_, rfl⟩
  rw [hW] at hB ⊢
  clear hW
  obtain ⟨g, hg⟩ : ∃ g, w.heap.size = g := ⟨_, rfl⟩
  rw [hg] at hB ⊢
  go_region_held3 (fun w' => w'.cell? ⟨g, 0, none⟩ = some (.int .i64 xi) ∧ w'.cell? ⟨g, 1, none⟩ = some (.int .i64 xt) ∧ w'.cell? ⟨g + 1, 0, none⟩ = some (.int .i64 yi) ∧ w'.cell? ⟨g + 1, 1, none⟩ = some (.int .i64 yt) ∧ g + 1 < w'.heap.size ∧ Ok w w')
    (first | assumption | exact hB.drew | exact Two2.next (by assumption) (Ok.alloc (Ok.refl _) _))
    (first | (go_at_call 27; (with_reducible refine (KP.out _).mono ?_); rintro e w1 ⟨rfl, rfl⟩) | (go_at_call 27; (with_reducible refine (KQ.out _).mono ?_); rintro e w1 ⟨rfl, rfl⟩) | (go_at_call 26; refine (KR.out _ _ ((Own.new W #[.int .i64 P, .int .i64 Q] 3 rfl).drew.cell 0 rfl) ((Own.new W #[.int .i64 P, .int .i64 Q] 3 rfl).drew.cell 1 rfl)).mono ?_; rintro e w1 ⟨rfl, rfl⟩))
  rename_i hS
  have hok := hS.2.2.2.2.2
  clear hS hB
  go_wp2
  go_ret
  exact ⟨rfl, hok⟩
end Go.Proofs.Ytfankcoomfmjlaa
