/- Layer 5: Open's answer, read; what is sealed opens. -/
import Derived.Test.YtacnoakbcilmfaaC05c
import Derived.Test.YtacnoakbcilmfaaC05f
import Derived.Test.YtacnoakbcilmfaaW10
namespace Go.Proofs.Ytacnoakbcilmfaa
open Go.RowKit
theorem isSealed_sealL (l : List Nat) : isSealed (sealL l) = true := by
  unfold sealL; rw [isSealed_iff (Crc.bytesOf_length _ _)]; exact decide_eq_true rfl
theorem opened_sealL (l : List Nat) : opened (sealL l) = l := by
  unfold opened
  rw [isSealed_sealL, if_pos rfl, sealL_length, Nat.add_sub_cancel, sealL, List.take_left]
/-- Open, its bytes read. -/
theorem crcOpenAt (A : Option Addr) (l : List Nat) (n : Nat) (hn : n = l.length) (cap : Nat) (w : World) (h : BytesAt w A l) (hb : ∀ x ∈ l, x < 256) (hl : l.length ≤ 1099511627776) (hcap : l.length ≤ cap) :
    Calls Try.prog 34 #[.slice A n cap] w fun e w' => ∃ A' cap', e = .returned (.tuple #[.slice A' (opened l).length cap', .bool (isSealed l)]) ∧ BytesAt w' A' (opened l) ∧ Ok w w' := by
  subst hn
  exact (crcOpen A l cap w h hb hl hcap).mono fun e w' ⟨v, h1, h2, h3⟩ => by
    obtain ⟨A', c', rfl, hB⟩ := BytesAt.of_own h2
    exact ⟨A', c', h1, hB, h3⟩
/-- Open, its answer a row of its own. -/
theorem crcOpenRow (A : Option Addr) (l : List Nat) (n : Nat) (hn : n = l.length) (cap : Nat) (w : World) (h : BytesAt w A l) (hb : ∀ x ∈ l, x < 256) (hl : l.length ≤ 1099511627776) (hcap : l.length ≤ cap) :
    Calls Try.prog 34 #[.slice A n cap] w fun e w' => ∃ A' cap', e = .returned (.tuple #[.slice A' (opened l).length cap', .bool (isSealed l)]) ∧ (opened l).length ≤ cap' ∧ RowAt w' w.heap.size A' (opened l) ∧ Ok w w' := by
  subst hn
  exact (crcOpen A l cap w h hb hl hcap).mono fun e w' ⟨v, h1, h2, h3⟩ => by
    obtain ⟨A', c', rfl, hc, hB⟩ := RowAt.of_own h2
    exact ⟨A', c', h1, hc, hB, h3⟩
end Go.Proofs.Ytacnoakbcilmfaa
