/- CrcMixes: for every three slices of bytes the law answers true: of three pieces of one length the checks' exclusive or is the check of the pieces' own. No condition. -/
import Derived.Test.YtkjifhhipbegdaaC05i
import Derived.Deep.CutRange
import Derived.BigGuardPart
import Derived.Test.YtkjifhhipbegdaaW11
namespace Go.Proofs.Ytkjifhhipbegdaa
open Go.RowKit
/-- Three pieces of one length, mixed. -/
def mix3 (a b c : List Nat) : List Nat := List.zipWith (· ^^^ ·) (List.zipWith (· ^^^ ·) a (b.take a.length)) (c.take a.length)
theorem mix3_length {a b c : List Nat} (hb : a.length ≤ b.length) (hc : a.length ≤ c.length) : (mix3 a b c).length = a.length := by simp [mix3]; omega
theorem mix3_at {a b c : List Nat} (hb : a.length ≤ b.length) (hc : a.length ≤ c.length) (k : Nat) (hk : k < a.length) : (mix3 a b c)[k]'(by rw [mix3_length hb hc]; exact hk) = a[k] ^^^ b[k] ^^^ c[k] := by simp [mix3]
theorem mix3_at' {a b c : List Nat} (hb : a.length ≤ b.length) (hc : a.length ≤ c.length) (k : Nat) (hk : k < a.length) : (mix3 a b c)[k]? = some (a[k] ^^^ b[k] ^^^ c[k]) := by
  rw [List.getElem?_eq_getElem (by rw [mix3_length hb hc]; exact hk), mix3_at hb hc k hk]
theorem mix3_lt {a b c : List Nat} (wa : ∀ x ∈ a, x < 256) (wb : ∀ x ∈ b, x < 256) (wc : ∀ x ∈ c, x < 256) (hb : a.length ≤ b.length) (hc : a.length ≤ c.length) : ∀ x ∈ mix3 a b c, x < 256 := by
  intro x hx
  obtain ⟨k, hk, rfl⟩ := List.mem_iff_getElem.1 hx
  rw [mix3_length hb hc] at hk
  rw [mix3_at hb hc k hk]
  exact Nat.xor_lt_two_pow (n := 8) (Nat.xor_lt_two_pow (n := 8) (wa _ (List.getElem_mem _)) (wb _ (List.getElem_mem _))) (wc _ (List.getElem_mem _))
/-- The first k mixed, nought behind them. -/
def mixTo (m : List Nat) (k : Nat) : List Nat := m.take k ++ List.replicate (m.length - k) 0
theorem mixTo_zero (m : List Nat) : mixTo m 0 = List.replicate m.length 0 := by simp [mixTo]
theorem mixTo_all (m : List Nat) : mixTo m m.length = m := by simp [mixTo]
theorem mixTo_length (m : List Nat) (k : Nat) (h : k ≤ m.length) : (mixTo m k).length = m.length := by simp [mixTo]; omega
theorem mixTo_set (m : List Nat) (k : Nat) (h : k < m.length) : (mixTo m k).set k m[k] = mixTo m (k + 1) := by
  unfold mixTo
  have hl : (m.take k).length = k := by simp; omega
  rw [List.set_append_right _ _ (by omega), hl, Nat.sub_self]
  obtain ⟨r, hr⟩ : ∃ r, m.length - k = r + 1 := ⟨m.length - k - 1, by omega⟩
  rw [hr, show m.length - (k + 1) = r by omega, List.replicate_succ, List.set_cons_zero, List.take_succ_eq_append_getElem h, List.append_assoc]
  rfl
theorem check_mix3 {a b c : List Nat} (hb : a.length ≤ b.length) (hc : a.length ≤ c.length) : Crc.check (mix3 a b c) = Crc.check a ^^^ Crc.check (b.take a.length) ^^^ Crc.check (c.take a.length) :=
  Crc.check_mix a (b.take a.length) (c.take a.length) (by simp; omega) (by simp; omega)
theorem PiecesAt.newN {w : World} {A1 : Option Addr} {l1 : List Nat} {n : Nat} (hn : n = l1.length) (h1 : BytesAt w A1 l1) (c1 : Nat) (t : TypeId) {b : Nat} (hb : b = w.heap.size) : PiecesAt (w.alloc (.cells #[.slice A1 n c1] t)) (some ⟨b, 0, none⟩) [l1] := by
  subst hn; exact PiecesAt.new1 h1 c1 t hb
theorem PiecesAt.newM {w : World} {A1 : Option Addr} {l1 : List Nat} {n b : Nat} (hb : b = w.heap.size) (hn : n = l1.length) (h1 : BytesAt w A1 l1) (c1 : Nat) (t : TypeId) : PiecesAt (w.alloc (.cells #[.slice A1 n c1] t)) (some ⟨b, 0, none⟩) [l1] := PiecesAt.newN hn h1 c1 t hb
theorem BytesAt.take {w : World} {A : Option Addr} {l : List Nat} (h : BytesAt w A l) (n : Nat) : BytesAt w A (l.take n) := fun k hk => by
  have hk2 : k < l.length := by simp at hk; omega
  obtain ⟨b, off, e, hlt, hc⟩ := h k hk2
  exact ⟨b, off, e, hlt, by rw [hc]; simp⟩
theorem u8s_zeros (n : Nat) : u8s (List.replicate n 0) = List.replicate n (.int .u8 0) := by simp [u8s]
end Go.Proofs.Ytkjifhhipbegdaa
namespace Go.Proofs.Ytkjifhhipbegdaa.crcMixes
open Go.ChangeShapes Go.WideShapes Go.ChangeAt Go.RowKit
set_option linter.unusedVariables false
set_option maxRecDepth 100000
attribute [local go_sem ↓] Go.wp_at_zero Go.wp_at_succ
/-- Nothing turned since w; a block that is there. -/
def OkG (w : World) (g : Nat) (w' : World) : Prop := Ok w w' ∧ g < w'.heap.size
namespace OkG
variable {w w' w2 : World} {g : Nat}
theorem step (h : OkG w g w') (k : Ok w' w2) : OkG w g w2 := ⟨h.1.trans k, Nat.lt_of_lt_of_le h.2 k.size⟩
theorem drew (h : OkG w g w') : OkG w g w'.drew := h.step (Ok.refl w').drew
theorem alloc (h : OkG w g w') (x : Obj) : OkG w g (w'.alloc x) := h.step ((Ok.refl w').alloc x)
theorem ok (h : OkG w g w') : Ok w w' := h.1
end OkG
/-- The slice v holds one slice of bytes, that reads as l. -/
def Piece (v : Value) (w : World) (l : List Nat) : Prop := ∃ n : Addr, v = .slice (some n) 1 1 ∧ PiecesAt w (some n) [l]
/-- What each operation of the last region leaves. -/
def VM (g n ca b cb c cc : Nat) (A B C : Option Addr) (m a p q : List Nat) (sx sa sb sab sc : Nat) (w : World) (v : Value) : Nat → Prop
  | 0 => v = .slice (some ⟨g, 0, none⟩) n n
  | 1 => Piece v w m
  | 2 => v = .int .u32 sx
  | 3 => v = .slice A n ca
  | 4 => Piece v w a
  | 5 => v = .int .u32 sa
  | 6 => v = .slice B b cb
  | 7 => v = .slice A n ca
  | 8 => v = .int .i64 n
  | 9 => v = .slice B n cb
  | 10 => Piece v w p
  | 11 => v = .int .u32 sb
  | 12 => v = .int .u32 sab
  | 13 => v = .slice C c cc
  | 14 => v = .slice A n ca
  | 15 => v = .int .i64 n
  | 16 => v = .slice C n cc
  | 17 => Piece v w q
  | 18 => v = .int .u32 sc
  | 19 => v = .int .u32 sx
  | _ => v = .bool true
/-- It stays so. -/
def VC (g n ca b cb c cc : Nat) (A B C : Option Addr) (m a p q : List Nat) (sx sa sb sab sc : Nat) (i : Nat) (v : Value) (w : World) : Prop := ∀ w', Ok w w' → VM g n ca b cb c cc A B C m a p q sx sa sb sab sc w' v i
set_option maxHeartbeats 1600000 in
theorem walk (w : World) (A : Option Addr) (a : List Nat) (ca : Nat) (hA : BytesAt w A a) (la : a.length ≤ 9223372036854775807) (wa : ∀ x ∈ a, x < 256) (za : a.length ≤ ca) (B : Option Addr) (b : List Nat) (cb : Nat) (hB : BytesAt w B b) (lb : b.length ≤ 9223372036854775807) (wb : ∀ x ∈ b, x < 256) (zb : b.length ≤ cb)
    (C : Option Addr) (c : List Nat) (cc : Nat) (hC : BytesAt w C c) (lc : c.length ≤ 9223372036854775807) (wc : ∀ x ∈ c, x < 256) (zc : c.length ≤ cc) :
    Calls Try.prog 8 #[.slice A a.length ca, .slice B b.length cb, .slice C c.length cc] w fun e w' => e = .returned (.bool true) ∧ Below w.heap.size w w' := by
  have hok := Ok.refl w
  by_cases h : a.length ≤ 8192 ∧ a.length ≤ b.length ∧ a.length ≤ c.length
  rotate_left
  · clear hA hB hC wa wb wc za zb zc
    go_enter Try.func8, Try.ntmps8
    go_wp2_with (go_at_call 9; refine (law5Alive _).mono ?_; rintro e w1 ⟨rfl, hb1⟩; replace hok := hok.trans hb1; clear hb1)
    all_goals
      go_ret
      exact ⟨rfl, hok⟩
  obtain ⟨h1, h2, h3⟩ := h
  have hmk : ∀ W : World, Sem.run Try.prog (Instr.makeSlice 22 (.int .i64 a.length) (.int .i64 a.length)) W = .ok (.slice (some ⟨W.heap.size, 0, none⟩) a.length a.length) (W.alloc (.cells (u8s (mixTo (mix3 a b c) 0)).toArray 5)) := fun W => by
    rw [mixTo_zero, mix3_length h2 h3, u8s_zeros]
    exact run_make_bytes Try.underlying22 uint8Info a.length (by omega) _ rfl W
  have HL := Lib.hid (mix3_length h2 h3)
  have HAT := Lib.hid (fun k hk => mix3_at' h2 h3 k hk)
  have HLT := Lib.hid (mix3_lt wa wb wc h2 h3)
  have HMX := Lib.hid (check_mix3 h2 h3)
  obtain ⟨m, hm⟩ : ∃ m, mix3 a b c = m := ⟨_, rfl⟩
  have d1 : decide ((8192 : Int) < (a.length : Int)) = false := decide_eq_false (by omega)
  have d2 : decide ((b.length : Int) < (a.length : Int)) = false := decide_eq_false (by omega)
  have d3 : decide ((c.length : Int) < (a.length : Int)) = false := decide_eq_false (by omega)
  have d2' : decide (b.length < a.length) = false := decide_eq_false (by omega)
  have d3' : decide (c.length < a.length) = false := decide_eq_false (by omega)
  simp only [hm] at hmk HL HAT HLT HMX
  clear hm
  go_enter Try.func8, Try.ntmps8
  go_upto_region 6 with ((go_at_call 9; refine (law5Alive _).mono ?_; rintro e w1 ⟨rfl, hb1⟩; replace hok := hok.trans hb1; replace hA := hA.below hb1; replace hB := hB.below hb1; replace hC := hC.below hb1; clear hb1))
  clear hmk d1 d2 d3 d2' d3'
  obtain ⟨W, hW⟩ : ∃ W, W = w1.alloc (.cells (u8s (mixTo m 0)).toArray 5) := ⟨_, rfl⟩
  rw [← hW]
  have hO : Own W w1.heap.size (u8s (mixTo m 0)).toArray := by rw [hW]; exact Own.new _ _ _ rfl
  have hgw := hok.size
  have hok1 : Ok w1 W := by rw [hW]; exact (Ok.refl w1).alloc _
  have HA := Lib.hid hA
  have HB := Lib.hid hB
  have HC := Lib.hid hC
  have HOK := Lib.hid hok
  have hgg : w1.heap.size ≤ w1.heap.size := Nat.le_refl _
  obtain ⟨g, hg⟩ : ∃ g, w1.heap.size = g := ⟨_, rfl⟩
  rw [hg] at hO hgw ⊢
  have hgg : w1.heap.size ≤ g := by omega
  clear hW hA hB hC hok hg
  go_wp2_with fail
  go_loopw [33] (fun i wx => ∃ k : Nat, k ≤ a.length ∧ i = .int .i64 k ∧ Own wx g (u8s (mixTo m k)).toArray ∧ Ok w1 wx) (fun i _ => a.length - (intOf i).toNat)
  case atStart => exact ⟨0, Nat.zero_le _, rfl, hO, hok1⟩
  case round =>
    clear hO hok1
    obtain ⟨k, hk, rfl, hO, hok1⟩ := hrel
    by_cases hlt : k < a.length
    · have hAk := HA.out.below hok1
      have hBk := HB.out.below hok1
      have hCk := HC.out.below hok1
      obtain ⟨ba, oa, eA, hba, cA⟩ := hAk k hlt
      obtain ⟨bb, ob, eB, hbb, cB⟩ := hBk k (by omega)
      obtain ⟨bc, oc, eC, hbc, cC⟩ := hCk k (by omega)
      subst eA eB eC
      have wka := wa a[k] (List.getElem_mem _)
      have wkb := wb (b[k]'(by omega)) (List.getElem_mem _)
      have wkc := wc (c[k]'(by omega)) (List.getElem_mem _)
      have hmk := HAT.out k hlt
      obtain ⟨ya, e1⟩ : ∃ y, a[k] = y := ⟨_, rfl⟩
      obtain ⟨yb, e2⟩ : ∃ y, b[k]'(by omega) = y := ⟨_, rfl⟩
      obtain ⟨yc, e3⟩ : ∃ y, c[k]'(by omega) = y := ⟨_, rfl⟩
      rw [e1] at cA wka hmk
      rw [e2] at cB wkb hmk
      rw [e3] at cC wkc hmk
      have hx1 := xor_u8 wka wkb
      have hx2 := xor_u8 (Nat.xor_lt_two_pow (n := 8) wka wkb) wkc
      have hml : k < m.length := by rw [HL.out]; exact hlt
      have hms : (mixTo m k).set k (ya ^^^ yb ^^^ yc) = mixTo m (k + 1) := by
        rw [← mixTo_set m k hml]; congr 1
        rw [List.getElem?_eq_getElem hml] at hmk
        exact (Option.some.inj hmk).symm
      have HMS := Lib.hid hms
      have hlk : k < (mixTo m k).length := by rw [mixTo_length _ _ (by omega)]; exact hml
      have cX := hO.cell k (by rw [List.getElem?_toArray]; exact u8s_at _ k hlk)
      have fX := hO.frozen k
      obtain ⟨yx, e4⟩ : ∃ y, (mixTo m k)[k] = y := ⟨_, rfl⟩
      rw [e4] at cX
      have HSet := Lib.hid fun v => hO.setByte k v
      obtain ⟨x1, e5⟩ : ∃ y, ya ^^^ yb = y := ⟨_, rfl⟩
      rw [e5] at hx1 hx2 HMS
      obtain ⟨x2, e6⟩ : ∃ y, x1 ^^^ yc = y := ⟨_, rfl⟩
      rw [e6] at hx2 HMS
      have hlb : k < b.length := by omega
      have hlc : k < c.length := by omega
      clear e1 e2 e3 e4 e5 e6 hms hml hlk hO hmk wa wb wc hAk hBk hCk
      go_wp2_with fail
      go_region
      go_wp2
      go_roundw
      case rel => exact ⟨k + 1, by omega, by go_num, by rw [← HMS.out]; exact ⟨(HSet.out x2).blk⟩, by first | exact hok1.drew.setCell hgg _ | exact (hok1.setCell hgg _).drew⟩
      case measure => simp [intOf]; omega
    · obtain rfl : k = a.length := by omega
      have hX := hO.bytes
      rw [show mixTo m a.length = m by rw [← HL.out]; exact mixTo_all m] at hX
      have GX := Lib.hid fun w' (q : Ok wr w') => hX.below q
      have GA := Lib.hid fun w' (q : Ok wr w') => HA.out.below (hok1.trans q)
      have GB := Lib.hid fun w' (q : Ok wr w') => (HB.out.below (hok1.trans q)).take a.length
      have GC := Lib.hid fun w' (q : Ok wr w') => (HC.out.below (hok1.trans q)).take a.length
      have LB := Lib.hid (show a.length = (b.take a.length).length by simp; omega)
      have LC := Lib.hid (show a.length = (c.take a.length).length by simp; omega)
      have one := fun (l : List Nat) (hl : l.length ≤ 9223372036854775807) (hw : ∀ x ∈ l, x < 256) (W : World) (n : Addr) (h : PiecesAt W (some n) [l]) => crcSum (some n) [l] 1 W h (by simpa using hw) (by simpa using hl) (by simp)
      simp only [List.flatten_cons, List.flatten_nil, List.append_nil] at one
      have KX := Lib.hid (one m (by rw [HL.out]; omega) HLT.out)
      have KA := Lib.hid (one a (by omega) wa)
      have KB := Lib.hid (one (b.take a.length) (by simp; omega) fun x hx => wb x (List.mem_of_mem_take hx))
      have KC := Lib.hid (one (c.take a.length) (by simp; omega) fun x hx => wc x (List.mem_of_mem_take hx))
      have x1 := xor_u32 (Crc.check_lt wa) (Crc.check_lt (l := b.take a.length) fun x hx => wb x (List.mem_of_mem_take hx))
      have x2 := xor_u32 (Nat.xor_lt_two_pow (n := 32) (Crc.check_lt wa) (Crc.check_lt (l := b.take a.length) fun x hx => wb x (List.mem_of_mem_take hx))) (Crc.check_lt (l := c.take a.length) fun x hx => wc x (List.mem_of_mem_take hx))
      rw [← HMX.out] at x2
      obtain ⟨p, hp⟩ : ∃ p, b.take a.length = p := ⟨_, rfl⟩
      obtain ⟨q, hq⟩ : ∃ p, c.take a.length = p := ⟨_, rfl⟩
      rw [hp] at KB GB LB x1 x2
      rw [hq] at KC GC LC x2
      obtain ⟨sx, e1⟩ : ∃ s, Crc.check m = s := ⟨_, rfl⟩
      obtain ⟨sa, e2⟩ : ∃ s, Crc.check a = s := ⟨_, rfl⟩
      obtain ⟨sb, e3⟩ : ∃ s, Crc.check p = s := ⟨_, rfl⟩
      obtain ⟨sc, e4⟩ : ∃ s, Crc.check q = s := ⟨_, rfl⟩
      rw [e1] at KX x2
      rw [e2] at KA x1 x2
      rw [e3] at KB x1 x2
      rw [e4] at KC x2
      obtain ⟨sab, e5⟩ : ∃ s, sa ^^^ sb = s := ⟨_, rfl⟩
      rw [e5] at x1 x2
      have hnb : (a.length : Int) ≤ (cb : Int) := by omega
      have hnc : (a.length : Int) ≤ (cc : Int) := by omega
      have hn0 : (0 : Int) ≤ (a.length : Int) := by omega
      replace HOK := Lib.hid (HOK.out.trans hok1)
      have hS : OkG wr g wr := ⟨Ok.refl wr, hO.lt⟩
      clear hp hq e1 e2 e3 e4 e5 one hX hO HMX HLT HAT HA HB HC wa wb wc hok1 la lb lc za zb zc hgw hgg hlt hk h1 h2 h3
      go_wp2_with fail
      refine wp_region_facts (by kernel_rfl) 75 rfl (VC g a.length ca b.length cb c.length cc A B C m a p q sx sa sb sab sc) Ok (by kernel_rfl) (fun i v w w' h k w'' k' => h w'' (k.trans k')) (fun a b c => Ok.trans) (Ok.refl _) [some 54, some 55, some 56, some 57, some 58, some 59, some 60, some 61, some 62, some 63, some 64, some 65, some 66, some 67, some 68, some 69, some 70, some 71, some 72, some 73, some 74, some 6] rfl 22 rfl ?_ ?_
      · refine ⟨?_, ?_, ?_, ?_, ?_, ?_, ?_, ?_, ?_, ?_, ?_, ?_, ?_, ?_, ?_, ?_, ?_, ?_, ?_, ?_, ?_, ?_, trivial⟩
        · intro a' w' hF hR
          have e : a'.tmps[7]? = some (.slice (some ⟨g, 0, none⟩) a.length a.length) := hF.slot 7 (by kernel_rfl) rfl
          refine wpOp_run (v := (.slice (some ⟨g, 0, none⟩) a.length a.length)) rfl rfl ?_ (fun _ _ => rfl) (Ok.refl _)
          clear hF
          go_simp
        · intro a' w' hF hR
          obtain ⟨v, hv, e⟩ := hF.get 0 54 (by kernel_rfl) (by kernel_rfl)
          obtain rfl : v = _ := hv _ (Ok.refl _)
          refine wpOp_run (v := .slice (some ⟨w'.heap.size, 0, none⟩) 1 1) (w' := w'.alloc (.cells #[.slice (some ⟨g, 0, none⟩) a.length a.length] 22)) rfl rfl ?_ (fun w'' k => ⟨_, rfl, (PiecesAt.newN HL.out.symm (GX.out _ ((Ok.refl wr).drew.trans hR)) _ _ rfl).below k⟩) ((Ok.refl _).alloc _)
          clear hF
          go_simp
        · intro a' w' hF hR
          obtain ⟨v, hv, e⟩ := hF.get 1 55 (by kernel_rfl) (by kernel_rfl)
          obtain ⟨n, rfl, hp⟩ := hv _ (Ok.refl _)
          clear hF
          refine wpOp_call (f := 10) (args := #[.slice (some n) 1 1]) rfl rfl ?_ ((KX.out _ _ hp).mono ?_)
          · go_simp
          · rintro e w2 ⟨rfl, hb2⟩
            exact ⟨_, rfl, fun _ _ => rfl, hb2⟩
        · intro a' w' hF hR
          have e : a'.tmps[0]? = some (.slice A a.length ca) := hF.slot 0 (by kernel_rfl) rfl
          refine wpOp_run (v := (.slice A a.length ca)) rfl rfl ?_ (fun _ _ => rfl) (Ok.refl _)
          clear hF
          go_simp
        · intro a' w' hF hR
          obtain ⟨v, hv, e⟩ := hF.get 3 57 (by kernel_rfl) (by kernel_rfl)
          obtain rfl : v = _ := hv _ (Ok.refl _)
          refine wpOp_run (v := .slice (some ⟨w'.heap.size, 0, none⟩) 1 1) (w' := w'.alloc (.cells #[.slice A a.length ca] 22)) rfl rfl ?_ (fun w'' k => ⟨_, rfl, (PiecesAt.newN rfl (GA.out _ ((Ok.refl wr).drew.trans hR)) _ _ rfl).below k⟩) ((Ok.refl _).alloc _)
          clear hF
          go_simp
        · intro a' w' hF hR
          obtain ⟨v, hv, e⟩ := hF.get 4 58 (by kernel_rfl) (by kernel_rfl)
          obtain ⟨n, rfl, hp⟩ := hv _ (Ok.refl _)
          clear hF
          refine wpOp_call (f := 10) (args := #[.slice (some n) 1 1]) rfl rfl ?_ ((KA.out _ _ hp).mono ?_)
          · go_simp
          · rintro e w2 ⟨rfl, hb2⟩
            exact ⟨_, rfl, fun _ _ => rfl, hb2⟩
        · intro a' w' hF hR
          have e : a'.tmps[1]? = some (.slice B b.length cb) := hF.slot 1 (by kernel_rfl) rfl
          refine wpOp_run (v := (.slice B b.length cb)) rfl rfl ?_ (fun _ _ => rfl) (Ok.refl _)
          clear hF
          go_simp
        · intro a' w' hF hR
          have e : a'.tmps[0]? = some (.slice A a.length ca) := hF.slot 0 (by kernel_rfl) rfl
          refine wpOp_run (v := (.slice A a.length ca)) rfl rfl ?_ (fun _ _ => rfl) (Ok.refl _)
          clear hF
          go_simp
        · intro a' w' hF hR
          obtain ⟨v, hv, e⟩ := hF.get 7 61 (by kernel_rfl) (by kernel_rfl)
          obtain rfl : v = _ := hv _ (Ok.refl _)
          refine wpOp_run (v := (.int .i64 a.length)) rfl rfl ?_ (fun _ _ => rfl) (Ok.refl _)
          clear hF
          go_simp
        · intro a' w' hF hR
          obtain ⟨v, hv, e⟩ := hF.get 6 60 (by kernel_rfl) (by kernel_rfl)
          obtain rfl : v = _ := hv _ (Ok.refl _)
          obtain ⟨v2, hv2, e2⟩ := hF.get 8 62 (by kernel_rfl) (by kernel_rfl)
          obtain rfl : v2 = _ := hv2 _ (Ok.refl _)
          refine wpOp_run (v := (.slice B a.length cb)) rfl rfl ?_ (fun _ _ => rfl) (Ok.refl _)
          clear hF
          go_simp
        · intro a' w' hF hR
          obtain ⟨v, hv, e⟩ := hF.get 9 63 (by kernel_rfl) (by kernel_rfl)
          obtain rfl : v = _ := hv _ (Ok.refl _)
          refine wpOp_run (v := .slice (some ⟨w'.heap.size, 0, none⟩) 1 1) (w' := w'.alloc (.cells #[.slice B a.length cb] 22)) rfl rfl ?_ (fun w'' k => ⟨_, rfl, (PiecesAt.newN LB.out (GB.out _ ((Ok.refl wr).drew.trans hR)) _ _ rfl).below k⟩) ((Ok.refl _).alloc _)
          clear hF
          go_simp
        · intro a' w' hF hR
          obtain ⟨v, hv, e⟩ := hF.get 10 64 (by kernel_rfl) (by kernel_rfl)
          obtain ⟨n, rfl, hp⟩ := hv _ (Ok.refl _)
          clear hF
          refine wpOp_call (f := 10) (args := #[.slice (some n) 1 1]) rfl rfl ?_ ((KB.out _ _ hp).mono ?_)
          · go_simp
          · rintro e w2 ⟨rfl, hb2⟩
            exact ⟨_, rfl, fun _ _ => rfl, hb2⟩
        · intro a' w' hF hR
          obtain ⟨v, hv, e⟩ := hF.get 5 59 (by kernel_rfl) (by kernel_rfl)
          obtain rfl : v = _ := hv _ (Ok.refl _)
          obtain ⟨v2, hv2, e2⟩ := hF.get 11 65 (by kernel_rfl) (by kernel_rfl)
          obtain rfl : v2 = _ := hv2 _ (Ok.refl _)
          refine wpOp_run (v := (.int .u32 sab)) rfl rfl ?_ (fun _ _ => rfl) (Ok.refl _)
          clear hF
          go_simp
        · intro a' w' hF hR
          have e : a'.tmps[2]? = some (.slice C c.length cc) := hF.slot 2 (by kernel_rfl) rfl
          refine wpOp_run (v := (.slice C c.length cc)) rfl rfl ?_ (fun _ _ => rfl) (Ok.refl _)
          clear hF
          go_simp
        · intro a' w' hF hR
          have e : a'.tmps[0]? = some (.slice A a.length ca) := hF.slot 0 (by kernel_rfl) rfl
          refine wpOp_run (v := (.slice A a.length ca)) rfl rfl ?_ (fun _ _ => rfl) (Ok.refl _)
          clear hF
          go_simp
        · intro a' w' hF hR
          obtain ⟨v, hv, e⟩ := hF.get 14 68 (by kernel_rfl) (by kernel_rfl)
          obtain rfl : v = _ := hv _ (Ok.refl _)
          refine wpOp_run (v := (.int .i64 a.length)) rfl rfl ?_ (fun _ _ => rfl) (Ok.refl _)
          clear hF
          go_simp
        · intro a' w' hF hR
          obtain ⟨v, hv, e⟩ := hF.get 13 67 (by kernel_rfl) (by kernel_rfl)
          obtain rfl : v = _ := hv _ (Ok.refl _)
          obtain ⟨v2, hv2, e2⟩ := hF.get 15 69 (by kernel_rfl) (by kernel_rfl)
          obtain rfl : v2 = _ := hv2 _ (Ok.refl _)
          refine wpOp_run (v := (.slice C a.length cc)) rfl rfl ?_ (fun _ _ => rfl) (Ok.refl _)
          clear hF
          go_simp
        · intro a' w' hF hR
          obtain ⟨v, hv, e⟩ := hF.get 16 70 (by kernel_rfl) (by kernel_rfl)
          obtain rfl : v = _ := hv _ (Ok.refl _)
          refine wpOp_run (v := .slice (some ⟨w'.heap.size, 0, none⟩) 1 1) (w' := w'.alloc (.cells #[.slice C a.length cc] 22)) rfl rfl ?_ (fun w'' k => ⟨_, rfl, (PiecesAt.newN LC.out (GC.out _ ((Ok.refl wr).drew.trans hR)) _ _ rfl).below k⟩) ((Ok.refl _).alloc _)
          clear hF
          go_simp
        · intro a' w' hF hR
          obtain ⟨v, hv, e⟩ := hF.get 17 71 (by kernel_rfl) (by kernel_rfl)
          obtain ⟨n, rfl, hp⟩ := hv _ (Ok.refl _)
          clear hF
          refine wpOp_call (f := 10) (args := #[.slice (some n) 1 1]) rfl rfl ?_ ((KC.out _ _ hp).mono ?_)
          · go_simp
          · rintro e w2 ⟨rfl, hb2⟩
            exact ⟨_, rfl, fun _ _ => rfl, hb2⟩
        · intro a' w' hF hR
          obtain ⟨v, hv, e⟩ := hF.get 12 66 (by kernel_rfl) (by kernel_rfl)
          obtain rfl : v = _ := hv _ (Ok.refl _)
          obtain ⟨v2, hv2, e2⟩ := hF.get 18 72 (by kernel_rfl) (by kernel_rfl)
          obtain rfl : v2 = _ := hv2 _ (Ok.refl _)
          refine wpOp_run (v := (.int .u32 sx)) rfl rfl ?_ (fun _ _ => rfl) (Ok.refl _)
          clear hF
          go_simp
        · intro a' w' hF hR
          obtain ⟨v, hv, e⟩ := hF.get 2 56 (by kernel_rfl) (by kernel_rfl)
          obtain rfl : v = _ := hv _ (Ok.refl _)
          obtain ⟨v2, hv2, e2⟩ := hF.get 19 73 (by kernel_rfl) (by kernel_rfl)
          obtain rfl : v2 = _ := hv2 _ (Ok.refl _)
          refine wpOp_run (v := (.bool true)) rfl rfl ?_ (fun _ _ => rfl) (Ok.refl _)
          clear hF
          go_simp
        · intro a' w' hF hR
          obtain ⟨v, hv, e⟩ := hF.get 20 74 (by kernel_rfl) (by kernel_rfl)
          obtain rfl : v = _ := hv _ (Ok.refl _)
          refine wpOp_run (v := (.bool true)) rfl rfl ?_ (fun _ _ => rfl) (Ok.refl _)
          clear hF
          go_simp
      · intro vs w' hV hR
        have h6 : vs 21 = .bool true := hV 21 (by omega) _ (Ok.refl _)
        have hok := HOK.out.trans ((Ok.refl wr).drew.trans hR)
        clear hV hS HOK KX KA KB KC GX GA GB GC LB LC x1 x2 HL hnb hnc hn0
        simp only [putFrom, h6]
        simp only [Act.put, List.setIfInBounds_toArray, List.set_cons_zero, List.set_cons_succ]
        go_wp2
        go_ret
        exact ⟨rfl, hok⟩
theorem own : ownKnob Try.prog.godebug = none := by kernel_rfl
theorem laidOut : laidOutB Try.prog = true := by kernel_rfl
set_option maxRecDepth 100000 in
theorem lifted (os : Os) (started : os.Started) (H : Type) (enc : TypeId × Value → H) :
    ReturnsInHanded {} Try.checked os 8 .any (Rows.crcMixesSpec.pre6 enc Try.prog Try.f8 Rows.crcMixesRow.domain false) (Rows.crcMixesSpec.post enc Try.prog Try.f8 false true false false) := by
  refine returnsInHanded_of_change (C := Try.checked) own started (by kernel_rfl) Try.func8
    (ChangeSpec.witness6 (enc := enc) (C := Try.checked) false ⟨#[], #[.slice none 0 0, .slice none 0 0, .slice none 0 0], []⟩ 8 (by kernel_rfl) (by kernel_rfl) (by kernel_rfl) (by kernel_rfl)) ?_
  intro W base args ds gs before hval0 hW _ _
  have hval : ∀ (j : Nat) t v, Try.f8.params[j]? = some t → args[j]? = some v → Value.okWide Try.prog W .any base t v := hval0
  have hW' := hW
  obtain ⟨p, q, hA, hV, rfl, _, _⟩ := hW
  obtain ⟨rfl, rfl⟩ := trodVars_none hV
  replace hA : DataW.TrodAll enc Try.prog W 0 (fun _ => true) true Try.f8.params.toList args.toList ds p := hA
  rw [Try.params8] at hA hval
  obtain ⟨v0, vs0, d0, ds0, p0, q0, hargs, rfl, rfl, h0, r0⟩ := trodAll_cons hA
  obtain ⟨v1, vs1, d1, ds1, p1, q1, rfl, rfl, rfl, h1, r1⟩ := trodAll_cons r0
  obtain ⟨v2, vs2, d2, ds2, p2, q2, rfl, rfl, rfl, h2, r2⟩ := trodAll_cons r1
  obtain ⟨rfl, rfl, rfl⟩ := trodAll_nil r2
  obtain rfl : args = #[v0, v1, v2] := by cases args; simp_all
  obtain ⟨A0, l0, c0, rfl, hA0, hl0, hw0, hc0⟩ := open_bytesC Try.underlying22 Try.underlying5 (by kernel_rfl) (hval 0 22 v0 rfl rfl) h0
  obtain ⟨A1, l1, c1, rfl, hA1, hl1, hw1, hc1⟩ := open_bytesC Try.underlying22 Try.underlying5 (by kernel_rfl) (hval 1 22 v1 rfl rfl) h1
  obtain ⟨A2, l2, c2, rfl, hA2, hl2, hw2, hc2⟩ := open_bytesC Try.underlying22 Try.underlying5 (by kernel_rfl) (hval 2 22 v2 rfl rfl) h2
  refine (walk W A0 l0 c0 hA0 hl0 hw0 hc0 A1 l1 c1 hA1 hl1 hw1 hc1 A2 l2 c2 hA2 hl2 hw2 hc2).mono fun e W' ⟨he, hb⟩ => ?_
  subst he
  exact ⟨_, rfl, law_post hW' laidOut (by rw [Try.params8]; exact params_ok (by kernel_rfl)) rfl (by kernel_rfl) Try.underlying4 rfl rfl rfl hb⟩
theorem over : Rows.crcMixesRow.holds Try.pinned (OpenSpec.ofChange Rows.crcMixesSpec) :=
  OpenClaim.holds_of_wide 8 Try.f8 rfl rfl rfl rfl rfl rfl rfl ⟨rfl, rfl, rfl, rfl, rfl⟩ rfl rfl rfl rfl rfl (by kernel_rfl) Try.func8 (by kernel_rfl)
    (of_decide_eq_true (by kernel_rfl)) (by unfold Func.isWrapper; first | (rw [if_pos (by decide +kernel)]; kernel_rfl) | (rw [if_neg (by decide +kernel)]; exact ⟨rfl, rfl⟩))
    (fun os started H enc _ => lifted os started H enc)
theorem proved : Rows.CrcMixesSaid := over
end Go.Proofs.Ytkjifhhipbegdaa.crcMixes
