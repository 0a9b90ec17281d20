/- Contracts of layer 14: the document's Hear and Tick. -/
import Derived.Test.YtcoeiedaopmpcaaC14g
namespace Go.Proofs.Ytcoeiedaopmpcaa
open Go.RowKit
set_option maxRecDepth 100000
attribute [local go_sem ↓] Go.wp_at_zero Go.wp_at_succ
theorem own_set3 {W : World} {g k : Nat} {cs : Array Value} (h : Own W g cs) (u v x : Value) : Own (((W.setCell ⟨g, k * 3, none⟩ u).setCell ⟨g, k * 3 + 1, none⟩ v).setCell ⟨g, k * 3 + 2, none⟩ x) g (((cs.set! (k * 3) u).set! (k * 3 + 1) v).set! (k * 3 + 2) x) := ((h.set _ _).set _ _).set _ _
theorem only_set3 {w W : World} {g k : Nat} (h : Only g w W) (u v x : Value) : Only g w (((W.setCell ⟨g, k * 3, none⟩ u).setCell ⟨g, k * 3 + 1, none⟩ v).setCell ⟨g, k * 3 + 2, none⟩ x) := ((h.setR _ _).setR _ _).setR _ _
theorem Cells3.quiet0 {cs : Array Value} {f : NF} (h : Cells3 cs f) {k : Nat} (hk : k < 48) {p : Int × Int} (hp : f k = some p) : Cells3 (cs.set! (k * 3 + 2) (.int .i64 0)) (Mem.put f k (p.1, 0)) := by
  have hs := h.size
  obtain ⟨h0, h1, -⟩ := h.row k hk
  have e : Mem.put f k (p.1, 0) k = some (p.1, 0) := if_pos rfl
  refine h.turn k (by simp) (fun j hj => set_else _ _ (by omega)) (fun j hj => if_neg hj) fun _ => ?_
  rw [e]
  rw [hp] at h0 h1
  refine ⟨?_, ?_, ?_⟩
  · rw [set_else _ _ (by omega)]; exact h0
  · rw [set_else _ _ (by omega)]; exact h1
  · rw [set_same _ _ _ (by omega)]; rfl
/-- What the document's Hear leaves. -/
def RHearEnd (g : Nat) (f : NF) (x : Int) (w : World) (e : Ending) (w' : World) : Prop := e = .returned (.int .i64 (Mem.hearE f x)) ∧ Only g w w' ∧ RefT w' g (Mem.hear f x)
theorem hearR_not {f : NF} {x : Int} (h : Mem.hearE f x ≠ 0) : Mem.hear f x = f := if_neg h
set_option maxHeartbeats 1600000 in
theorem refHear (g : Nat) (f : NF) (x : Int) (w : World) (hT : RefT w g f) :
    Calls Try.prog 10 #[.pointer (some ⟨g, 0, none⟩), .int .i64 x] w (RHearEnd g f x w) := by
  by_cases hin : 0 ≤ x ∧ x < 48
  · obtain ⟨k, rfl⟩ : ∃ k : Nat, x = k := ⟨x.toNat, by omega⟩
    have hk : k < 48 := by omega
    have KC := Lib.hid (refCount g f w hT)
    obtain ⟨cs, hO, hC⟩ := hT
    obtain ⟨r0, r1, r2⟩ := hC.row k hk
    have hsz := hC.size
    have hgl := hO.lt
    have hlk := Mem.look_at f k
    have HC := Lib.hid hC
    have HO := Lib.hid hO
    cases hf : f k with
    | some p =>
      have hE : Mem.hearE f k = 0 := by unfold Mem.hearE; rw [if_pos (by omega), hlk, hf]; simp
      have HQ : Hid (∀ W, Only g w W → Own W g (cs.set! (k * 3 + 2) (.int .i64 0)) → RHearEnd g f k w (.returned (.int .i64 0)) W) := Lib.hid fun W h1 h2 => by
        refine ⟨by rw [hE], h1, _, h2, ?_⟩
        have : Mem.hear f k = Mem.put f k (p.1, 0) := by
          unfold Mem.hear
          rw [if_pos hE, hlk, hf]; rfl
        rw [this]
        exact HC.out.quiet0 hk hf
      rw [hf] at r0
      have c0 := hO.cell _ r0
      have c2 := hO.cell _ r2
      have f2 := hO.frozen (k * 3 + 2)
      clear hin hE hlk hC hO r0 r1 r2 hf
      go_enter Try.func10, Try.ntmps10
      go_wp2_with fail
      go_ret
      exact HQ.out _ ((Only.refl _ _).setR _ _) (HO.out.set _ _)
    | none =>
      rw [hf] at r0
      have c0 := hO.cell _ r0
      by_cases h16 : (Mem.nums f).length = 16
      · have hE : Mem.hearE f k = 7 := by unfold Mem.hearE; rw [if_pos (by omega), hlk, hf, h16]; simp
        have HQ : Hid (∀ W, Ok w W → RHearEnd g f k w (.returned (.int .i64 7)) W) := Lib.hid fun W h1 => ⟨by rw [hE], Only.of_ok h1, by rw [hearR_not (by rw [hE]; decide)]; exact ⟨cs, HO.out.next h1, HC.out⟩⟩
        rw [h16] at KC
        clear hin hE hlk hC hO r0 r1 r2 hf
        go_enter Try.func10, Try.ntmps10
        go_wp2_with (go_at_call 18; (with_reducible refine KC.out.mono ?_); rintro e w1 ⟨rfl, hok1⟩; replace hok1 := Lib.hid hok1)
        go_ret
        exact HQ.out _ hok1.out
      · have hE : Mem.hearE f k = 0 := by unfold Mem.hearE; rw [if_pos (by omega), hlk, if_neg (fun h => h16 h.2)]
        have HQ : Hid (∀ W, Only g w W → Own W g ((((cs.set! (k * 3) (.bool true)).set! (k * 3 + 1) (.int .i64 0)).set! (k * 3 + 2) (.int .i64 0)).set! (k * 3 + 2) (.int .i64 0)) → RHearEnd g f k w (.returned (.int .i64 0)) W) := Lib.hid fun W h1 h2 => by
          refine ⟨by rw [hE], h1, _, h2, ?_⟩
          have : Mem.hear f k = Mem.put (Mem.put f k (0, 0)) k (0, 0) := by
            unfold Mem.hear
            rw [if_pos hE, hlk, hf]
            funext j
            simp only [Mem.put, Int.toNat_natCast, Mem.age]
            split <;> rfl
          rw [this]
          exact (HC.out.put hk (some (0, 0))).quiet0 hk (p := (0, 0)) (if_pos rfl)
        obtain ⟨n, hn⟩ : ∃ n, (Mem.nums f).length = n := ⟨_, rfl⟩
        rw [hn] at KC h16
        have hd : (((n : Nat) : Int) == 16) = false := by rw [beq_eq_false_iff_ne]; omega
        clear hin hE hlk hC hO r0 r1 r2 hf hn h16
        go_enter Try.func10, Try.ntmps10
        go_wp2_with (go_at_call 18; (with_reducible refine KC.out.mono ?_); rintro e w1 ⟨rfl, hok1⟩; have hO1 := HO.out.next hok1; replace hok1 := Lib.hid hok1; have g0 := hO1.cell (k * 3) (Array.getElem?_eq_getElem (show k * 3 < cs.size by omega)); have g1 := hO1.cell (k * 3 + 1) (Array.getElem?_eq_getElem (show k * 3 + 1 < cs.size by omega)); have g2 := hO1.cell (k * 3 + 2) (Array.getElem?_eq_getElem (show k * 3 + 2 < cs.size by omega)); have f0 := hO1.frozen (k * 3); have f1 := hO1.frozen (k * 3 + 1); have f2 := hO1.frozen (k * 3 + 2); replace hO1 := Lib.hid hO1; clear c0)
        go_ret
        exact HQ.out _ ((only_set3 (Only.of_ok hok1.out) _ _ _).setR _ _) ((own_set3 hO1.out _ _ _).set _ _)
  · have hE : Mem.hearE f x = 1 := by unfold Mem.hearE; rw [if_neg hin]
    have HQ : Hid (RHearEnd g f x w (.returned (.int .i64 1)) w) := Lib.hid ⟨by rw [hE], Only.refl _ _, by rw [hearR_not (by rw [hE]; decide)]; exact hT⟩
    clear hE hT
    by_cases h0 : x < 0
    · clear hin
      go_enter Try.func10, Try.ntmps10
      go_wp2
      go_ret
      exact HQ.out
    · have h48 : 47 < x := by omega
      clear hin
      go_enter Try.func10, Try.ntmps10
      go_wp2
      go_ret
      exact HQ.out
end Go.Proofs.Ytcoeiedaopmpcaa
