/- Contracts of layer 15: Next, the program's and the document's. -/
import Derived.Test.YtgkcmiaagbgajaaC15a
import Derived.Test.YtgkcmiaagbgajaaW19
import Derived.Deep.CutRange
namespace Go.Proofs.Ytgkcmiaagbgajaa
open Go.RowKit
set_option maxRecDepth 100000
attribute [local go_sem ↓] Go.wp_at_zero Go.wp_at_succ
set_option maxHeartbeats 3200000 in
theorem routeNext (p : Par) (A : Option Addr) (l : List Int) (n cap : Nat) (w : World) (hI : IntsAt w A l) (hn : l.length = n) (hl : n ≤ 1048576) (hd : 0 ≤ p.d ∧ p.d ≤ 16) :
    Calls Try.prog 10 #[parV p, .slice A n cap] w fun e w' => e = .returned (.int .i64 (Route.next p.d l)) ∧ Ok w w' := by
  subst hn
  have KL := Lib.hid fun w => routeLost p w hd
  have KD := Lib.hid fun x w => routeLeads p x w
  have HP := Lib.hid (Own.new w (parCells p) 23 rfl)
  have HI := Lib.hid hI
  have hok := (Ok.refl w).alloc (.cells (parCells p) 23)
  clear hI
  go_enter Try.func10, Try.ntmps10
  go_wp2_with (go_at_call 12; (with_reducible refine (KL.out _).mono ?_); rintro e w1 ⟨rfl, hb1⟩; have hP := HP.out.next hb1; replace hok := hok.trans hb1; clear hb1)
  generalize w.heap.size = P at hP ⊢
  go_loopw [5, 12] (fun v i wr => ∃ k : Nat, k ≤ l.length ∧ i = .int .i64 k ∧ v = .int .i64 (Route.next p.d (l.take k)) ∧ Own wr P (parCells p) ∧ Ok w wr) (fun _ i _ => l.length - (intOf i).toNat)
  case atStart => exact ⟨0, Nat.zero_le _, rfl, rfl, hP, hok⟩
  case round =>
    clear hP hok HP KL
    obtain ⟨k, hk, rfl, rfl, hP, hok⟩ := hrel
    by_cases hlt : k < l.length
    · obtain ⟨b, off, hA, hb, hc⟩ := (hok.ints HI.out) k hlt
      subst hA
      have hbd := Route.next_bd (D := p.d) (by omega) (l.take k)
      have HN := Lib.hid (Route.next_snoc p.d (l.take k) l[k])
      rw [← take_more hlt] at HN
      have HD := Lib.hid fun w => KD.out l[k] w
      generalize l[k] = x at hc HN HD
      generalize Route.next p.d (l.take k) = v at hbd HN ⊢
      obtain ⟨p0, p1, p2, p3, p4, p5, p6, p7, p8, p9, p10, p11⟩ := hP.pars
      have hpl := hP.lt
      have HP := Lib.hid hP
      clear hP
      by_cases hx : 0 ≤ x ∧ x < p.d
      · rw [decide_eq_true hx] at HD
        rw [if_pos hx] at HN
        by_cases hm : x + 1 < v
        · rw [show min v (x + 1) = x + 1 by omega] at HN
          go_wp2_with (go_at_call 19; (with_reducible refine (HD.out _).mono ?_); rintro e w2 ⟨rfl, hb2⟩; have HP1 := Lib.hid (HP.out.next hb2); replace hok := hok.trans hb2; clear hb2)
          go_roundw
          case rel => exact ⟨k + 1, by omega, by go_num, by rw [HN.out], HP1.out, hok⟩
          case measure => simp [intOf]; omega
        · rw [show min v (x + 1) = v by omega] at HN
          go_wp2_with (go_at_call 19; (with_reducible refine (HD.out _).mono ?_); rintro e w2 ⟨rfl, hb2⟩; have HP1 := Lib.hid (HP.out.next hb2); replace hok := hok.trans hb2; clear hb2)
          go_roundw
          case rel => exact ⟨k + 1, by omega, by go_num, by rw [HN.out], HP1.out, hok⟩
          case measure => simp [intOf]; omega
      · rw [decide_eq_false hx] at HD
        rw [if_neg hx] at HN
        clear hx
        go_wp2_with (go_at_call 19; (with_reducible refine (HD.out _).mono ?_); rintro e w2 ⟨rfl, hb2⟩; have HP1 := Lib.hid (HP.out.next hb2); replace hok := hok.trans hb2; clear hb2)
        go_roundw
        case rel => exact ⟨k + 1, by omega, by go_num, by rw [HN.out], HP1.out, hok⟩
        case measure => simp [intOf]; omega
    · rw [List.take_of_length_le (show l.length ≤ k by omega)]
      obtain rfl : k = l.length := by omega
      clear hlt hk
      obtain ⟨v, hv⟩ : ∃ v, Route.next p.d l = v := ⟨_, rfl⟩
      have HV := Lib.hid hv
      rw [hv]
      clear hv
      go_wp2
      go_ret
      exact ⟨by rw [HV.out]; rfl, hok⟩
set_option maxHeartbeats 3200000 in
theorem ref15Next (p : Par) (A : Option Addr) (l : List Int) (n cap : Nat) (w : World) (hI : IntsAt w A l) (hn : l.length = n) (hl : n ≤ 1048576) (hd : 0 ≤ p.d ∧ p.d ≤ 16) :
    Calls Try.prog 11 #[parV p, .slice A n cap] w fun e w' => e = .returned (.int .i64 (Route.next p.d l)) ∧ Ok w w' := by
  subst hn
  have HF : Hid (∀ n : Int, 0 ≤ n → n < p.d → n ∈ l → (∀ x ∈ l, 0 ≤ x → n ≤ x) → Route.next p.d l = n + 1) := Lib.hid fun n h0 h1 h2 h3 => Route.next_found hd.1 h0 h1 h2 h3
  have HL : Hid ((∀ x ∈ l, ¬(0 ≤ x ∧ x < p.d)) → Route.next p.d l = p.d + 1) := Lib.hid fun h => Route.next_lost hd.1 h
  generalize Route.next p.d l = R at HF HL ⊢
  have hP := Own.new w (parCells p) 23 rfl
  have hok := (Ok.refl w).alloc (.cells (parCells p) 23)
  replace hI := hok.ints hI
  go_enter Try.func11, Try.ntmps11
  go_upto_region 1 with (fail)
  generalize w.alloc (.cells (parCells p) 23) = W at hP hok hI ⊢
  obtain ⟨p0, p1, p2, p3, p4, p5, p6, p7, p8, p9, p10, p11⟩ := hP.pars
  have hpl := hP.lt
  clear hP
  generalize w.heap.size = P at p0 p1 p2 p3 p4 p5 p6 p7 p8 p9 p10 p11 hpl ⊢
  go_wp2
  go_loop [5] (fun i => ∃ n : Nat, (n : Int) ≤ p.d ∧ i = .int .i64 n ∧ Hid (∀ x ∈ l, 0 ≤ x → (n : Int) ≤ x)) (fun i => (p.d - intOf i).toNat)
  case atStart => exact ⟨0, by simpa using hd.1, rfl, Lib.hid fun x _ h => by simpa using h⟩
  case round =>
    obtain ⟨n, hn, rfl, HN⟩ := hrel
    by_cases hlt : (n : Int) < p.d
    · go_wp2
      go_loop [16] (fun i => ∃ m : Nat, m ≤ l.length ∧ i = .int .i64 m ∧ Hid (∀ j (h : j < l.length), j < m → l[j] ≠ (n : Int))) (fun i => l.length - (intOf i).toNat)
      case atStart => exact ⟨0, Nat.zero_le _, rfl, Lib.hid fun j _ h => absurd h (Nat.not_lt_zero j)⟩
      case round =>
        obtain ⟨m, hm, rfl, HM⟩ := hrel
        by_cases hlt2 : m < l.length
        · obtain ⟨b, off, hA, hb, hc⟩ := hI m hlt2
          subst hA
          have HX : Hid (∀ x, l[m] = x → (x = (n : Int) → R = (n : Int) + 1) ∧ (x ≠ (n : Int) → ∀ j (h : j < l.length), j < m + 1 → l[j] ≠ (n : Int))) := Lib.hid fun x hx => ⟨fun e => HF.out n (by omega) hlt (by rw [← e, ← hx]; exact List.getElem_mem hlt2) HN.out, fun e j h hj => by
            by_cases q : j = m
            · subst q; rw [hx]; exact e
            · exact HM.out j h (by omega)⟩
          obtain ⟨x, hx⟩ : ∃ x, l[m] = x := ⟨_, rfl⟩
          rw [hx] at hc
          replace HX := Lib.hid (HX.out x hx)
          clear hx
          by_cases he : x = (n : Int)
          · have HR := Lib.hid (HX.out.1 he)
            subst he
            go_wp2
            go_ret
            exact ⟨by rw [HR.out]; rfl, hok⟩
          · have HR := Lib.hid (HX.out.2 he)
            have hq : (x == (n : Int)) = false := by rw [beq_eq_false_iff_ne]; exact he
            clear he HX
            go_wp2
            go_round
            case rel => exact ⟨m + 1, by omega, by go_num, HR⟩
            case measure => simp [intOf]; omega
        · have HR : Hid (∀ x ∈ l, 0 ≤ x → ((n + 1 : Nat) : Int) ≤ x) := Lib.hid fun x hx h0 => by
            obtain ⟨j, hj, rfl⟩ := List.mem_iff_getElem.1 hx
            have h1 := HN.out _ hx h0
            have h2 := HM.out j hj (by omega)
            omega
          clear HM
          go_wp2
          go_round
          case rel =>
            first
              | exact ⟨n + 1, by omega, by go_num, HR⟩
              | exact ⟨_, _, _, _, _, ⟨n + 1, by omega, by go_num, HR⟩, rfl, rfl, rfl, rfl, rfl⟩
          case measure => simp [intOf]; omega
    · have hnd : (n : Int) = p.d := by omega
      have HR := Lib.hid (HL.out fun x hx h => by have := HN.out x hx h.1; omega)
      have hw : IntKind.i64.wrap (p.d + 1) = p.d + 1 := IntWalk.i64_in _ ⟨by omega, by omega⟩
      clear hnd
      go_wp2
      go_ret
      exact ⟨by rw [HR.out]; rfl, hok⟩
end Go.Proofs.Ytgkcmiaagbgajaa
