/- Contracts of layer 5: the program's crc (turn, More, Sum as landed at stage 5). -/
import Derived.Test.YtacnoakbcilmfaaC05b
import Derived.Test.YtacnoakbcilmfaaW08
namespace Go.Proofs.Ytacnoakbcilmfaa
open Go.RowKit
set_option maxRecDepth 100000
theorem and_u32 {x : Nat} (hx : x < 4294967296) : bits .and .u32 (x : Int) 1 = ((x % 2 : Nat) : Int) := by
  have e1 : (BitVec.ofInt 32 (x : Int)).toNat = x := by rw [BitVec.ofInt_natCast, BitVec.toNat_ofNat]; exact Nat.mod_eq_of_lt (by omega)
  show IntKind.u32.wrap ((BitVec.ofInt 32 (x : Int) &&& BitVec.ofInt 32 (1 : Int)).toNat : Int) = _
  rw [BitVec.toNat_and, e1, show (BitVec.ofInt 32 (1 : Int)).toNat = 1 from rfl, IntKind.wrap_u32, Nat.and_one_is_mod]
  omega
theorem not_u32 {x : Nat} (hx : x < 4294967296) : bits .xor .u32 IntKind.u32.max (x : Int) = ((Crc.turn x : Nat) : Int) := by
  have h := xor_u32 (x := 4294967295) (y := x) (by decide) hx
  rw [show IntKind.u32.max = ((4294967295 : Nat) : Int) from rfl, h]
  unfold Crc.turn
  rw [Nat.xor_comm]
set_option maxHeartbeats 800000 in
theorem crcTurn (x : Nat) (w : World) (hxb : x < 4294967296) :
    Calls Try.prog 44 #[.int .u32 x] w fun e w' => e = .returned (.int .u32 (Crc.shn 8 x : Nat)) ∧ w = w' := by
  go_enter Try.func44, Try.ntmps44
  go_wp2
  go_loop [0, 3] (fun c j => ∃ m : Nat, m ≤ 8 ∧ j = .int .i64 m ∧ c = .int .u32 ((Crc.shn m x : Nat) : Int)) (fun _ j => 8 - (intOf j).toNat)
  case atStart => exact ⟨0, by omega, rfl, rfl⟩
  case round =>
    obtain ⟨m, hm, rfl, rfl⟩ := hrel
    have hy := Crc.shn_lt m hxb
    have HN := Lib.hid (shn_one m x)
    by_cases hm8 : m < 8
    · obtain ⟨y, hye⟩ : ∃ y, Crc.shn m x = y := ⟨_, rfl⟩
      rw [hye] at hy HN ⊢
      clear hye
      have ha := and_u32 hy
      rcases Nat.mod_two_eq_zero_or_one y with h0 | h1
      · have HE := Lib.hid (show Crc.sh y = y / 2 by unfold Crc.sh; rw [if_neg (by omega), Nat.xor_zero])
        rw [h0] at ha
        clear h0
        go_wp2
        go_round
        case rel =>
          have hz := xor_u32 (x := y / 2) (y := 0) (by omega) (by decide)
          exact ⟨m + 1, by omega, by go_num, congrArg (Value.int .u32) (by rw [HN.out, HE.out, show bits .and .u32 3988292384 0 = ((0 : Nat) : Int) from rfl, show ((y : Int) / 2) = ((y / 2 : Nat) : Int) from by omega, hz, Nat.xor_zero])⟩
        case measure => simp [intOf]; omega
      · have HE := Lib.hid (show Crc.sh y = (y / 2) ^^^ 3988292384 by unfold Crc.sh; rw [if_pos h1]; rfl)
        rw [h1] at ha
        clear h1
        go_wp2
        go_round
        case rel =>
          have hz := xor_u32 (x := y / 2) (y := 3988292384) (by omega) (by decide)
          rw [← HE.out, ← HN.out] at hz
          exact ⟨m + 1, by omega, by go_num, congrArg (Value.int .u32) (by rw [← hz, show bits .and .u32 3988292384 4294967295 = ((3988292384 : Nat) : Int) from rfl]; congr 1)⟩
        case measure => simp [intOf]; omega
    · obtain rfl : m = 8 := by omega
      go_wp2
      go_ret
      exact ⟨rfl, rfl⟩
set_option maxHeartbeats 800000 in
theorem crcMore (c : Nat) (A : Option Addr) (l : List Nat) (cap : Nat) (w : World) (hc : c < 4294967296) (h : BytesAt w A l) (hb : ∀ b ∈ l, b < 256) (hl : l.length ≤ 9223372036854775807) :
    Calls Try.prog 43 #[.int .u32 c, .slice A l.length cap] w fun e w' => e = .returned (.int .u32 (Crc.turn (Crc.run (Crc.turn c) l) : Nat)) ∧ Ok w w' := by
  have hok := Ok.refl w
  have hn := not_u32 hc
  have hsg : IntKind.u32.signed = false := rfl
  have ht := Crc.turn_lt hc
  obtain ⟨t, hte⟩ : ∃ t, Crc.turn c = t := ⟨_, rfl⟩
  rw [hte] at hn ht ⊢
  clear hte hc
  go_enter Try.func43, Try.ntmps43
  go_wp2_with fail
  clear hn
  go_loop [5, 12] (fun c i => ∃ k : Nat, k ≤ l.length ∧ i = .int .i64 k ∧ c = .int .u32 ((Crc.run t (l.take k) : Nat) : Int)) (fun _ i => l.length - (intOf i).toNat)
  case atStart => exact ⟨0, Nat.zero_le _, rfl, rfl⟩
  case round =>
    obtain ⟨k, hk, rfl, rfl⟩ := hrel
    have hr : Crc.run t (l.take k) < 4294967296 := Crc.run_lt ht fun b hbm => hb b (List.mem_of_mem_take hbm)
    by_cases hlt : k < l.length
    · obtain ⟨b, off, hA, hbs, hcell⟩ := h k hlt
      subst hA
      have hby := hb l[k] (List.getElem_mem _)
      have HS := Lib.hid (show Crc.run t (l.take (k + 1)) = Crc.byte (Crc.run t (l.take k)) l[k] by rw [take_more hlt, Crc.run_snoc])
      obtain ⟨y0, hy0⟩ : ∃ y, l[k] = y := ⟨_, rfl⟩
      rw [hy0] at hcell hby HS
      obtain ⟨c, hc⟩ : ∃ c, Crc.run t (l.take k) = c := ⟨_, rfl⟩
      rw [hc] at hr HS ⊢
      clear hc hy0
      have hx := xor_u32 hr (show y0 < 4294967296 by omega)
      have hxb : c ^^^ y0 < 4294967296 := Nat.xor_lt_two_pow (n := 32) (by omega) (by omega)
      have HB := Lib.hid (show Crc.byte c y0 = Crc.shn 8 (c ^^^ y0) from rfl)
      obtain ⟨x, hxe⟩ : ∃ x, c ^^^ y0 = x := ⟨_, rfl⟩
      rw [hxe] at hx hxb HB
      clear hxe
      go_wp2_with (go_at_call 44; refine (crcTurn x _ hxb).mono ?_; rintro e w1 ⟨rfl, rfl⟩)
      go_round
      case rel => exact ⟨k + 1, by omega, by go_num, by rw [HS.out, HB.out]⟩
      case measure => simp [intOf]; omega
    · have hn := not_u32 hr
      go_wp2
      go_ret
      exact ⟨by rw [List.take_of_length_le (by omega)]; rfl, hok⟩
theorem check_more (ls : List (List Nat)) (k : Nat) (h : k < ls.length) : Crc.check (ls.take (k + 1)).flatten = Crc.turn (Crc.run (Crc.turn (Crc.check (ls.take k).flatten)) ls[k]) := by
  rw [take_more h, List.flatten_append, Crc.check_append]; simp
set_option maxHeartbeats 400000 in
theorem crcSum (A : Option Addr) (ls : List (List Nat)) (cap : Nat) (w : World) (h : PiecesAt w A ls) (hb : ∀ l ∈ ls, ∀ b ∈ l, b < 256) (hl : ∀ l ∈ ls, l.length ≤ 9223372036854775807) (hn : ls.length ≤ 9223372036854775807) :
    Calls Try.prog 39 #[.slice A ls.length cap] w fun e w' => e = .returned (.int .u32 (Crc.check ls.flatten : Nat)) ∧ Ok w w' := by
  go_enter Try.func39, Try.ntmps39
  go_wp2
  go_loopw [3, 8] (fun c i wx => ∃ k : Nat, k ≤ ls.length ∧ i = .int .i64 k ∧ c = .int .u32 ((Crc.check (ls.take k).flatten : Nat) : Int) ∧ Ok w wx) (fun _ i _ => ls.length - (intOf i).toNat)
  case atStart => exact ⟨0, Nat.zero_le _, rfl, by simp [Crc.check_nil], Ok.refl w⟩
  case round =>
    obtain ⟨k, hk, rfl, rfl, hok⟩ := hrel
    have hc : Crc.check (ls.take k).flatten < 4294967296 := Crc.check_lt fun b hbm => by
      obtain ⟨l, hlm, hbl⟩ := List.mem_flatten.1 hbm
      exact hb l (List.mem_of_mem_take hlm) b hbl
    by_cases hlt : k < ls.length
    · obtain ⟨b, off, Ak, ck, hA, hbs, hcell, hp⟩ := h.below hok k hlt
      subst hA
      have HM := Lib.hid (check_more ls k hlt)
      have KM := Lib.hid fun w1 (hq : BytesAt w1 Ak ls[k]) => crcMore (Crc.check (ls.take k).flatten) Ak ls[k] ck w1 hc hq (hb _ (List.getElem_mem _)) (hl _ (List.getElem_mem _))
      have HP := Lib.hid hp
      clear hp hb hl
      go_wp2_with (go_at_call 43; refine (KM.out _ HP.out).mono ?_; rintro e w1 ⟨rfl, hb1⟩; replace hok := hok.trans hb1; clear hb1)
      go_roundw
      case rel => exact ⟨k + 1, by omega, by go_num, by rw [HM.out], hok⟩
      case measure => simp [intOf]; omega
    · go_wp2
      go_ret
      exact ⟨by rw [List.take_of_length_le (by omega)]; rfl, hok⟩
theorem crcSum1 (W : World) (A : Option Addr) (a : List Nat) (ca : Nat) (hA : BytesAt W A a) (wa : ∀ x ∈ a, x < 256) (la : a.length ≤ 9223372036854775807) (p : Nat) (hp : p = W.heap.size) :
    Calls Try.prog 39 #[.slice (some ⟨p, 0, none⟩) 1 1] (W.alloc (.cells #[.slice A a.length ca] 41)) fun e w' => e = .returned (.int .u32 (Crc.check (a) : Nat)) ∧ Ok (W.alloc (.cells #[.slice A a.length ca] 41)) w' := by
  have h := crcSum (some ⟨p, 0, none⟩) [a] 1 _ (PiecesAt.new1 hA ca 41 hp) (by intro l hl; simp only [List.mem_cons, List.not_mem_nil, or_false] at hl; rcases hl with rfl; exact wa) (by intro l hl; simp only [List.mem_cons, List.not_mem_nil, or_false] at hl; rcases hl with rfl; exact la) (by simp)
  simp only [List.flatten_cons, List.flatten_nil, List.append_nil] at h
  exact h
theorem crcSum2 (W : World) (A : Option Addr) (a : List Nat) (ca : Nat) (hA : BytesAt W A a) (wa : ∀ x ∈ a, x < 256) (la : a.length ≤ 9223372036854775807) (B : Option Addr) (b : List Nat) (cb : Nat) (hB : BytesAt W B b) (wb : ∀ x ∈ b, x < 256) (lb : b.length ≤ 9223372036854775807) (p : Nat) (hp : p = W.heap.size) :
    Calls Try.prog 39 #[.slice (some ⟨p, 0, none⟩) 2 2] (W.alloc (.cells #[.slice A a.length ca, .slice B b.length cb] 41)) fun e w' => e = .returned (.int .u32 (Crc.check (a ++ b) : Nat)) ∧ Ok (W.alloc (.cells #[.slice A a.length ca, .slice B b.length cb] 41)) w' := by
  have h := crcSum (some ⟨p, 0, none⟩) [a, b] 2 _ (PiecesAt.new2 hA hB ca cb 41 hp) (by intro l hl; simp only [List.mem_cons, List.not_mem_nil, or_false] at hl; rcases hl with rfl | rfl; exact wa; exact wb) (by intro l hl; simp only [List.mem_cons, List.not_mem_nil, or_false] at hl; rcases hl with rfl | rfl; exact la; exact lb) (by simp)
  simp only [List.flatten_cons, List.flatten_nil, List.append_nil] at h
  exact h
theorem crcSum3 (W : World) (A : Option Addr) (a : List Nat) (ca : Nat) (hA : BytesAt W A a) (wa : ∀ x ∈ a, x < 256) (la : a.length ≤ 9223372036854775807) (B : Option Addr) (b : List Nat) (cb : Nat) (hB : BytesAt W B b) (wb : ∀ x ∈ b, x < 256) (lb : b.length ≤ 9223372036854775807) (C : Option Addr) (c : List Nat) (cc : Nat) (hC : BytesAt W C c) (wc : ∀ x ∈ c, x < 256) (lc : c.length ≤ 9223372036854775807) (p : Nat) (hp : p = W.heap.size) :
    Calls Try.prog 39 #[.slice (some ⟨p, 0, none⟩) 3 3] (W.alloc (.cells #[.slice A a.length ca, .slice B b.length cb, .slice C c.length cc] 41)) fun e w' => e = .returned (.int .u32 (Crc.check (a ++ b ++ c) : Nat)) ∧ Ok (W.alloc (.cells #[.slice A a.length ca, .slice B b.length cb, .slice C c.length cc] 41)) w' := by
  have h := crcSum (some ⟨p, 0, none⟩) [a, b, c] 3 _ (PiecesAt.new3 hA hB hC ca cb cc 41 hp) (by intro l hl; simp only [List.mem_cons, List.not_mem_nil, or_false] at hl; rcases hl with rfl | rfl | rfl; exact wa; exact wb; exact wc) (by intro l hl; simp only [List.mem_cons, List.not_mem_nil, or_false] at hl; rcases hl with rfl | rfl | rfl; exact la; exact lb; exact lc) (by simp)
  simp only [List.flatten_cons, List.flatten_nil, List.append_nil, ← List.append_assoc] at h
  exact h
end Go.Proofs.Ytacnoakbcilmfaa
