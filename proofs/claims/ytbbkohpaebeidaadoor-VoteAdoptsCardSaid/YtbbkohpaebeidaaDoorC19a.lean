/- Layer 19: the table of powers of ten as it lies; a table's key, the program's and the document's. -/
import Derived.Test.YtbbkohpaebeidaaDoorM35
import Derived.Test.YtbbkohpaebeidaaDoorW04
import Derived.Test.YtbbkohpaebeidaaDoorW18
import Derived.Test.YtbbkohpaebeidaaDoorShelf
import Derived.Lib.AppendIntMem
import Derived.Lib.ItoaLen
import Derived.Lib.OthersKept
import Derived.Lib.BufferRead
import Derived.Laws.IdiomStrings
import Derived.Laws.AppendOwn
import Derived.Deep.QuietTactic
import Derived.BigQuiet
import Derived.Deep.RegionHeld3
import Derived.Deep.DrawnRows
import Derived.Deep.CutRange
import Derived.Deep.RegionWith
namespace Go.Proofs.YtbbkohpaebeidaaDoor
open Go.RowKit
set_option maxRecDepth 100000
attribute [local go_sem ↓] Go.wp_at_zero Go.wp_at_succ
/-- The table of powers of ten reads as its initialiser lays it. -/
def Pow (w : World) : Prop := Lib.TabIs Tryd.prog w "internal/strconv.uint64pow10" .u64 Lib.pow10Tab
theorem Pow.next {w w' : World} (h : Pow w) (k : Ok w w') : Pow w' := (Lib.tabBelow_of_tabIs h) w' k.below
/-- A text, as a value. -/
def strB (l : List UInt8) : ByteArray := ⟨l.toArray⟩
theorem strB_size (l : List UInt8) : (strB l).size = l.length := by simp [strB, ByteArray.size]
theorem strB_append (a b : List UInt8) : strB a ++ strB b = strB (a ++ b) := by
  apply ByteArray.ext
  simp [strB]
theorem strB_one {a b : List UInt8} (h : strB a = strB b) : a = b := by
  have := congrArg (fun s => s.data.toList) h
  simpa [strB] using this
theorem itoaOk (n : Int) (h : -9223372036854775808 ≤ n ∧ n ≤ 9223372036854775807) (w : World) (hT : Pow w) :
    Calls Tryd.prog 17 #[.int .i64 n] w fun e w' => e = .returned (.string (strB (Lib.itoa n))) ∧ Ok w w' :=
  (Tryd.strconv_Itoa n h.1 h.2 w hT).mono (by rintro e w' ⟨rfl, k, os, rfl⟩; exact ⟨rfl, Lib.below_grow _ _ (Nat.le_refl _) _ _⟩)
theorem appendIntOk {w0 w : World} (hok : Ok w0 w) (hT : Pow w0) (n : Nat) (i : Int) (h : -9223372036854775808 ≤ i ∧ i ≤ 9223372036854775807) (sv : Value) (xs : List Value) (hown : w.ownsRow w0.heap.size 5 1 sv n xs) (hlim : n + 21 ≤ 140737488355328) :
    Calls Tryd.prog 16 #[sv, .int .i64 i, .int .i64 10] w fun e w' => ∃ v', e = .returned v' ∧ w'.ownsRow w0.heap.size 5 1 v' (n + (Lib.itoa i).length) (xs ++ Lib.byteCells (Lib.itoa i)) ∧ Ok w0 w' ∧ Lib.OthersKept 5 none w w' :=
  (Tryd.strconv_AppendInt_10 w0.heap.size n i h.1 h.2 sv xs w hown hok.size hlim ((Lib.tabBelow_of_tabIs hT).on hok.below)).mono (by rintro e w' ⟨v', rfl, h1, h2, h3⟩; exact ⟨v', rfl, h1, Below.trans hok h2, h3⟩)
theorem itoa_le (n : Int) (h : -9223372036854775808 ≤ n ∧ n ≤ 9223372036854775807) : (Lib.itoa n).length ≤ 21 := Lib.itoa_length_le n h.1 h.2
/-- A row of one's own lies in a block of its elements' type. -/
theorem row_typed {w : World} {B n k : Nat} {e : TypeId} {v : Value} {xs : List Value} (h : w.ownsRow B e k v n xs) : ∀ g, v.ownBlock = some g → ∃ c fz, w.heap[g]? = some (.cells c e fz) := fun g hg => by
  rcases h.2 with ⟨rfl, _⟩ | ⟨g', cap, cur, rfl, _, hh, _⟩
  · cases hg
  · cases hg; exact ⟨_, _, hh⟩
theorem row_from {w : World} {B n k : Nat} {e : TypeId} {v : Value} {xs : List Value} (h : w.ownsRow B e k v n xs) : ∀ g, v.ownBlock = some g → B ≤ g := fun g hg => by
  rcases h.2 with ⟨rfl, _⟩ | ⟨g', cap, cur, rfl, hb, _⟩
  · cases hg
  · cases hg; exact hb
/-- 'string(b)' of a row of bytes of one's own. -/
theorem row_str {w : World} {B : Nat} {v : Value} {l : List UInt8} {n : Nat} (hn : n = l.length) (h : w.ownsRow B 5 1 v n (Lib.byteCells l)) : Sem.run Tryd.prog (convert 38 9 v) w = .ok (.string (strB l)) w := by
  subst hn
  rcases h.2 with ⟨rfl, hx⟩ | ⟨g, cap, cur, rfl, hb, hh, hnc, r⟩
  · have : l = [] := by simpa [Lib.byteCells] using hx
    subst this
    exact Lib.run_convert_nil_bytes w _ _ _ 0 Tryd.underlying38 Tryd.underlying5 Tryd.underlying9
  · refine run_convert_bytes_back w _ _ _ ⟨g, 0, none⟩ cap l Tryd.underlying38 Tryd.underlying5 Tryd.underlying9 fun j hj => ?_
    have := h.cellAt (g := g) j (by omega)
    rw [Go.WideShapes.add_plain, Nat.zero_add, this]
    simp [Lib.byteCells, hj]
/-- A key's length. -/
theorem key_length {l : List (Int × Int)} (h : ∀ e ∈ l, (-9223372036854775808 ≤ e.1 ∧ e.1 ≤ 9223372036854775807) ∧ -9223372036854775808 ≤ e.2 ∧ e.2 ≤ 9223372036854775807) : (Vote.key l).length ≤ l.length * 44 := by
  induction l with
  | nil => simp [Vote.key]
  | cons e l ih =>
    have h0 := h e List.mem_cons_self
    have h1 := itoa_le e.1 h0.1
    have h2 := itoa_le e.2 h0.2
    have h3 := ih fun x hx => h x (List.mem_cons_of_mem _ hx)
    rw [Vote.key_cons]
    simp only [List.length_append, List.length_cons]
    omega
theorem key_take {l : List (Int × Int)} {k : Nat} (hk : k < l.length) : Vote.key (l.take (k + 1)) = Vote.key (l.take k) ++ (Lib.itoa l[k].1 ++ 58 :: (Lib.itoa l[k].2 ++ [59])) := by
  rw [List.take_succ_eq_append_getElem hk, Vote.key_snoc]
theorem byteInfo : (Tryd.prog.info? 5).map (fun i => (i.zero, i.size, i.bytes)) = some (some (.int .u8 0), 1, 1) := by kernel_rfl
set_option maxHeartbeats 1600000 in
theorem ref19Key (A : Option Addr) (l : List (Int × Int)) (cap : Nat) (w : World) (hT : Pow w) (hA : PairsAt w A l) (hl : l.length ≤ 4096) (hb : ∀ e ∈ l, (-9223372036854775808 ≤ e.1 ∧ e.1 ≤ 9223372036854775807) ∧ -9223372036854775808 ≤ e.2 ∧ e.2 ≤ 9223372036854775807) :
    Calls Tryd.prog 11 #[.slice A l.length cap] w fun e w' => e = .returned (.string (strB (Vote.key l))) ∧ Ok w w' := by
  have hok := Ok.refl w
  have H := Lib.hid hA
  have HB := Lib.hid hb
  have HT := Lib.hid hT
  clear hA hb hT
  go_enter Tryd.func11, Tryd.ntmps11
  go_wp2
  go_loopw [3, 8] (fun s i wx => ∃ k : Nat, k ≤ l.length ∧ i = .int .i64 k ∧ s = .string (strB (Vote.key (l.take k))) ∧ Ok w wx) (fun _ i _ => l.length - (intOf i).toNat)
  case atStart => exact ⟨0, Nat.zero_le _, rfl, rfl, hok⟩
  case round =>
    obtain ⟨k, hkl, rfl, rfl, hok⟩ := hrel
    by_cases hlt : k < l.length
    · obtain ⟨b, off, hA, hbs, c1, c2⟩ := H.out.below hok k hlt
      subst hA
      have hm := HB.out l[k] (List.getElem_mem _)
      have K1 := Lib.hid fun W hT => itoaOk l[k].1 hm.1 W hT
      have K2 := Lib.hid fun W hT => itoaOk l[k].2 hm.2 W hT
      have za : (strB (Lib.itoa l[k].1)).size ≤ 21 := by rw [strB_size]; exact itoa_le _ hm.1
      have zb : (strB (Lib.itoa l[k].2)).size ≤ 21 := by rw [strB_size]; exact itoa_le _ hm.2
      have hstep : strB (Vote.key (l.take k)) ++ strB (Lib.itoa l[k].1) ++ ⟨#[58]⟩ ++ strB (Lib.itoa l[k].2) ++ ⟨#[59]⟩ = strB (Vote.key (l.take (k + 1))) := by
        rw [key_take hlt, show (⟨#[58]⟩ : ByteArray) = strB [58] from rfl, show (⟨#[59]⟩ : ByteArray) = strB [59] from rfl]
        simp only [strB_append, List.append_assoc, List.cons_append, List.nil_append]
      have HST := Lib.hid hstep
      have zs : (strB (Vote.key (l.take k))).size ≤ 200000 := by
        rw [strB_size]
        have := key_length (l := l.take k) (fun e he => HB.out e (List.mem_of_mem_take he))
        rw [List.length_take] at this
        omega
      obtain ⟨sk, h1⟩ : ∃ s, strB (Vote.key (l.take k)) = s := ⟨_, rfl⟩
      obtain ⟨sa, h2⟩ : ∃ s, strB (Lib.itoa l[k].1) = s := ⟨_, rfl⟩
      obtain ⟨sb, h3⟩ : ∃ s, strB (Lib.itoa l[k].2) = s := ⟨_, rfl⟩
      rw [h2] at K1
      rw [h3] at K2
      rw [h1, h2, h3] at HST
      rw [h1] at zs ⊢
      rw [h2] at za
      rw [h3] at zb
      obtain ⟨x, h4⟩ : ∃ s, l[k].1 = s := ⟨_, rfl⟩
      obtain ⟨y, h5⟩ : ∃ s, l[k].2 = s := ⟨_, rfl⟩
      rw [h4] at K1 c1
      rw [h5] at K2 c2
      clear hstep h1 h2 h3 h4 h5 hm
      go_upto_region 5 with fail
      have hbox := Box.new wr x y 37 rfl
      obtain ⟨g, hgg⟩ : ∃ g, wr.heap.size = g := ⟨_, rfl⟩
      rw [hgg] at hbox ⊢
      obtain ⟨W2, hW2⟩ : ∃ W2, W2 = wr.alloc (.cells #[.int .i64 x, .int .i64 y] 37) := ⟨_, rfl⟩
      rw [← hW2] at hbox ⊢
      have hok2 : Ok w W2 := by rw [hW2]; exact hok.alloc _
      have hS : Box1 g W2 x y W2 := ⟨hbox.c0, hbox.c1, hbox.lt, Ok.refl _⟩
      have HT2 := Lib.hid fun W' (k : Box1 g W2 x y W') => (HT.out.next hok2).next k.2.2.2
      clear hbox hgg hW2 hok c1 c2
      have zq1 : (9223372036854775807 < sk.size + sa.size) = False := eq_false (by omega)
      have zq2 : (9223372036854775807 < sk.size + sa.size + 1) = False := eq_false (by omega)
      have zq3 : (9223372036854775807 < sk.size + sa.size + 1 + sb.size) = False := eq_false (by omega)
      have zq4 : (9223372036854775807 < sk.size + sa.size + 1 + sb.size + 1) = False := eq_false (by omega)
      clear zs za zb
      go_region_held3 (fun w' => w'.cell? ⟨g, 0, none⟩ = some (.int .i64 x) ∧ w'.cell? ⟨g, 1, none⟩ = some (.int .i64 y) ∧ g < w'.heap.size ∧ Ok W2 w')
        (first | assumption | exact Box1.drew (by assumption) | exact Box1.next (by assumption) (by assumption) | exact Box1.next (by assumption) (Box1.drew (by assumption)))
        (first | (go_at_call 17; refine (K1.out _ (HT2.out _ ?_)).mono ?_; (focus (first | assumption | (exact Box1.drew (by assumption)); done)); rintro e w5 ⟨rfl, hb2⟩) | (go_at_call 17; refine (K2.out _ (HT2.out _ ?_)).mono ?_; (focus (first | assumption | (exact Box1.drew (by assumption)); done)); rintro e w5 ⟨rfl, hb2⟩))
      all_goals
        rename_i hH
        have hok5 := hok2.trans hH.2.2.2
        clear hH hS hok2 K1 K2 zq1 zq2 zq3 zq4
        go_wp2
        go_roundw
        case rel => exact ⟨k + 1, by omega, by go_num, by rw [HST.out], hok5⟩
        case measure => simp [intOf]; omega
    · obtain rfl : k = l.length := by omega
      rw [List.take_length]
      go_wp2
      go_ret
      exact ⟨rfl, hok⟩
end Go.Proofs.YtbbkohpaebeidaaDoor
