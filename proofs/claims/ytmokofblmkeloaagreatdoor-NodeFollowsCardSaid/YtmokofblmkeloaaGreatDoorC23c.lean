import Derived.Test.YtmokofblmkeloaaGreatDoorC23w
import Derived.Test.YtmokofblmkeloaaGreatDoorC15a
import Derived.Test.YtmokofblmkeloaaGreatDoorB12
import Derived.Test.YtmokofblmkeloaaGreatDoorP37
import Derived.Test.YtmokofblmkeloaaGreatDoorP38
import Derived.Deep.CutRange
namespace Go.Proofs.YtmokofblmkeloaaGreatDoor
open Go.RowKit
set_option linter.unusedVariables false
set_option maxRecDepth 100000
attribute [local go_sem ↓] Go.wp_at_zero Go.wp_at_succ
/-- What each operation leaves. -/
def VMLos (G N : Nat) (p : Par) (s : Sta) (A : Option Addr) (cap : Nat) (m h1 h2 d1 : Int) (w : World) (v : Value) : Nat → Prop
  | 0 => v = .pointer (some ⟨G, 0, none⟩)
  | 1 => v = .pointer (some ⟨G, 0, none⟩)
  | 2 => v = .pointer (some ⟨G, 0, none⟩)
  | 3 => v = .pointer (some ⟨G, 0, none⟩)
  | 4 => v = parV p
  | 5 => v = .pointer (some ⟨N, 0, none⟩)
  | 6 => v = .agg #[.int .i64 s.lo, .int .i64 s.hi]
  | 7 => v = .int .i64 m
  | 8 => v = .agg #[.int .i64 h1, .int .i64 h2]
  | 9 => v = .pointer (some ⟨G, 0, none⟩)
  | 10 => v = .pointer (some ⟨G, 0, none⟩)
  | 11 => v = .pointer (some ⟨G, 0, none⟩)
  | 12 => v = .pointer (some ⟨G, 0, none⟩)
  | 13 => v = parV p
  | 14 => v = .int .i64 d1
  | 15 => v = .pointer (some ⟨N, 0, none⟩)
  | 16 => Own w N #[.int .i64 h1, .int .i64 h2, .int .i64 s.time, .bool s.set, .int .i64 s.held, .int .i64 s.hops, .bool s.good, .slice A s.table.length cap, .int .i64 s.st, .int .i64 s.sn, .int .i64 s.life]
  | _ => v = .bool true
/-- It stays so. -/
def VCLos (G N : Nat) (p : Par) (s : Sta) (A : Option Addr) (cap : Nat) (m h1 h2 d1 : Int) (i : Nat) (v : Value) (w : World) : Prop := ∀ w', (Turned N #[.int .i64 s.lo, .int .i64 s.hi, .int .i64 s.time, .bool s.set, .int .i64 s.held, .int .i64 s.hops, .bool s.good, .slice A s.table.length cap, .int .i64 s.st, .int .i64 s.sn, .int .i64 s.life] #[.int .i64 h1, .int .i64 h2, .int .i64 s.time, .bool s.set, .int .i64 s.held, .int .i64 s.hops, .bool s.good, .slice A s.table.length cap, .int .i64 s.st, .int .i64 s.sn, .int .i64 s.life]) w w' → VMLos G N p s A cap m h1 h2 d1 w' v i
set_option maxHeartbeats 3200000 in
theorem nodeLost (G t : Nat) (me : Int) (p : Par) (s : Sta) (A : Option Addr) (cap : Nat) (m : Int) (w : World) (hO : Own w G (nodeCells me t p s A cap)) (hd : 0 ≤ p.d ∧ p.d ≤ 16) :
    Calls Tryz.prog 79 #[.pointer (some ⟨G, 0, none⟩), .int .i64 m] w fun e w' => e = .returned (staV (Nod.lost p s m) A cap) ∧ Ok w w' := by
  have KH := Lib.hid fun w => carryHold p s.lo s.hi m w
  have KM := Lib.hid fun w => anchorMore s.held w
  have KL := Lib.hid fun w => routeLost p w hd
  obtain ⟨u, hu⟩ : ∃ u, Nod.lost p s m = u := ⟨_, rfl⟩
  rw [hu]
  unfold Nod.lost at hu
  obtain ⟨⟨h1, h2⟩, hho⟩ : ∃ y, Carry.hold p (s.lo, s.hi) m = y := ⟨_, rfl⟩
  obtain ⟨h3, hmo⟩ : ∃ y, Anchor.more s.held = y := ⟨_, rfl⟩
  obtain ⟨d1, hd1⟩ : ∃ y, p.d + 1 = y := ⟨_, rfl⟩
  rw [hho, hmo, hd1] at hu
  rw [hho] at KH
  rw [hmo] at KM
  rw [hd1] at KL
  simp only at KH
  have HUA : Hid ((#[.int .i64 h1, .int .i64 h2, .int .i64 s.time, .bool s.set, .int .i64 h3, .int .i64 d1, .bool false, .slice A s.table.length cap, .int .i64 s.st, .int .i64 s.sn, .int .i64 s.life] : Array Value) = staCells u A cap) := Lib.hid (by rw [← hu]; rfl)
  clear hu hho hmo hd1 hd
  have hY := Own.new w (staCells zeroSta none 0) 30 rfl
  have hok := (Ok.refl w).alloc (.cells (staCells zeroSta none 0) 30)
  have hQ := hO.alloc (.cells (staCells zeroSta none 0) 30)
  have hGl := hO.lt
  clear hO
  go_enter Tryz.func79, Tryz.ntmps79
  go_upto_region 1 with fail
  change Code.wp _ _ _ _ (w.alloc (.cells (staCells zeroSta none 0) 30))
  generalize w.alloc (.cells (staCells zeroSta none 0) 30) = W at hY hok hQ ⊢
  obtain ⟨Y, hYe⟩ : ∃ r, w.heap.size = r := ⟨_, rfl⟩
  have HW : Hid (w.heap.size ≤ Y) := Lib.hid (by omega)
  rw [hYe] at hY
  rw [hYe]
  clear hYe
  have hGl := hQ.lt
  obtain ⟨s0, s1, s2, s3, s4, s5, s6, s7, s8, s9, s10⟩ := hQ.frS
  have hgl := hQ.lt
  have hYl := hY.lt
  go_upto_region 2 with fail
  clear s0 s1 s2 s3 s4 s5 s6 s7 s8 s9 s10 hgl
  have hN := Own.new W #[.int .i64 s.lo, .int .i64 s.hi, .int .i64 s.time, .bool s.set, .int .i64 s.held, .int .i64 s.hops, .bool s.good, .slice A s.table.length cap, .int .i64 s.st, .int .i64 s.sn, .int .i64 s.life] 30 rfl
  replace hY := hY.alloc (.cells #[.int .i64 s.lo, .int .i64 s.hi, .int .i64 s.time, .bool s.set, .int .i64 s.held, .int .i64 s.hops, .bool s.good, .slice A s.table.length cap, .int .i64 s.st, .int .i64 s.sn, .int .i64 s.life] 30)
  replace hQ := hQ.alloc (.cells #[.int .i64 s.lo, .int .i64 s.hi, .int .i64 s.time, .bool s.set, .int .i64 s.held, .int .i64 s.hops, .bool s.good, .slice A s.table.length cap, .int .i64 s.st, .int .i64 s.sn, .int .i64 s.life] 30)
  have hwn := hok.size
  replace hok := hok.alloc (.cells #[.int .i64 s.lo, .int .i64 s.hi, .int .i64 s.time, .bool s.set, .int .i64 s.held, .int .i64 s.hops, .bool s.good, .slice A s.table.length cap, .int .i64 s.st, .int .i64 s.sn, .int .i64 s.life] 30)
  change Code.wp _ _ _ _ (W.alloc (.cells #[.int .i64 s.lo, .int .i64 s.hi, .int .i64 s.time, .bool s.set, .int .i64 s.held, .int .i64 s.hops, .bool s.good, .slice A s.table.length cap, .int .i64 s.st, .int .i64 s.sn, .int .i64 s.life] 30))
  generalize W.alloc (.cells #[.int .i64 s.lo, .int .i64 s.hi, .int .i64 s.time, .bool s.set, .int .i64 s.held, .int .i64 s.hops, .bool s.good, .slice A s.table.length cap, .int .i64 s.st, .int .i64 s.sn, .int .i64 s.life] 30) = W1 at hN hY hQ hok ⊢
  obtain ⟨N, hNe⟩ : ∃ r, W.heap.size = r := ⟨_, rfl⟩
  rw [hNe] at hN hYl hwn
  rw [hNe]
  have HD : Hid (Y ≠ N ∧ w.heap.size ≤ N) := Lib.hid ⟨by omega, hwn⟩
  have HGN : Hid (G ≠ N) := Lib.hid (by omega)
  clear hNe hYl hwn hGl
  have HOK := Lib.hid hok
  have hGN : G ≠ N := HGN.out
  have HQ := Lib.hid fun W' (k : (Turned N #[.int .i64 s.lo, .int .i64 s.hi, .int .i64 s.time, .bool s.set, .int .i64 s.held, .int .i64 s.hops, .bool s.good, .slice A s.table.length cap, .int .i64 s.st, .int .i64 s.sn, .int .i64 s.life] #[.int .i64 h1, .int .i64 h2, .int .i64 s.time, .bool s.set, .int .i64 s.held, .int .i64 s.hops, .bool s.good, .slice A s.table.length cap, .int .i64 s.st, .int .i64 s.sn, .int .i64 s.life]) W1.drew W') => k.only.own hQ.drew hGN
  have HY := Lib.hid fun W' (k : (Turned N #[.int .i64 s.lo, .int .i64 s.hi, .int .i64 s.time, .bool s.set, .int .i64 s.held, .int .i64 s.hops, .bool s.good, .slice A s.table.length cap, .int .i64 s.st, .int .i64 s.sn, .int .i64 s.life] #[.int .i64 h1, .int .i64 h2, .int .i64 s.time, .bool s.set, .int .i64 s.held, .int .i64 s.hops, .bool s.good, .slice A s.table.length cap, .int .i64 s.st, .int .i64 s.sn, .int .i64 s.life]) W1.drew W') => k.only.own hY.drew HD.out.1
  have HI0 : Hid (∀ a : Act, TurnI N #[.int .i64 s.lo, .int .i64 s.hi, .int .i64 s.time, .bool s.set, .int .i64 s.held, .int .i64 s.hops, .bool s.good, .slice A s.table.length cap, .int .i64 s.st, .int .i64 s.sn, .int .i64 s.life] #[.int .i64 h1, .int .i64 h2, .int .i64 s.time, .bool s.set, .int .i64 s.held, .int .i64 s.hops, .bool s.good, .slice A s.table.length cap, .int .i64 s.st, .int .i64 s.sn, .int .i64 s.life] 17 (.agg #[.int .i64 s.lo, .int .i64 s.hi]) a W1.drew) := Lib.hid fun a => .inl hN.drew
  clear hok hQ hN hY hGN
  refine wp_region_facts_chainI (by kernel_rfl) 0 34 rfl (VCLos G N p s A cap m h1 h2 d1) (TurnI N #[.int .i64 s.lo, .int .i64 s.hi, .int .i64 s.time, .bool s.set, .int .i64 s.held, .int .i64 s.hops, .bool s.good, .slice A s.table.length cap, .int .i64 s.st, .int .i64 s.sn, .int .i64 s.life] #[.int .i64 h1, .int .i64 h2, .int .i64 s.time, .bool s.set, .int .i64 s.held, .int .i64 s.hops, .bool s.good, .slice A s.table.length cap, .int .i64 s.st, .int .i64 s.sn, .int .i64 s.life] 17 (.agg #[.int .i64 s.lo, .int .i64 s.hi])) (Turned N #[.int .i64 s.lo, .int .i64 s.hi, .int .i64 s.time, .bool s.set, .int .i64 s.held, .int .i64 s.hops, .bool s.good, .slice A s.table.length cap, .int .i64 s.st, .int .i64 s.sn, .int .i64 s.life] #[.int .i64 h1, .int .i64 h2, .int .i64 s.time, .bool s.set, .int .i64 s.held, .int .i64 s.hops, .bool s.good, .slice A s.table.length cap, .int .i64 s.st, .int .i64 s.sn, .int .i64 s.life]) _ 17 rfl rfl (by decide) (by kernel_rfl) (by kernel_rfl) (by kernel_rfl) (by kernel_rfl) (fun i v w w' h k w'' k' => h w'' (k.trans k')) (fun a b c => Turned.trans) (Turned.refl _) [some 11, some 12, some 13, some 14, some 15, some 16, some 17, some 18, some 19, some 20, some 21, some 22, some 23, some 24, some 25, some 26, none] rfl _ rfl (HI0.out _) ⟨?_, ?_, ?_, ?_, ?_, ?_, ?_, ?_, ?_, ?_, ?_, ?_, ?_, ?_, ?_, ?_, ?_, trivial⟩ ?_
  · intro a' w' hF hO' hU hIn hR
    have e0 : a'.tmps[0]? = some (.pointer (some ⟨G, 0, none⟩)) := hF.slot 0 (by kernel_rfl) rfl
    refine wpOp_runI (V := VCLos G N p s A cap m h1 h2 d1) (I := TurnI N #[.int .i64 s.lo, .int .i64 s.hi, .int .i64 s.time, .bool s.set, .int .i64 s.held, .int .i64 s.hops, .bool s.good, .slice A s.table.length cap, .int .i64 s.st, .int .i64 s.sn, .int .i64 s.life] #[.int .i64 h1, .int .i64 h2, .int .i64 s.time, .bool s.set, .int .i64 s.held, .int .i64 s.hops, .bool s.good, .slice A s.table.length cap, .int .i64 s.st, .int .i64 s.sn, .int .i64 s.life] 17 (.agg #[.int .i64 s.lo, .int .i64 s.hi])) (R := Turned N #[.int .i64 s.lo, .int .i64 s.hi, .int .i64 s.time, .bool s.set, .int .i64 s.held, .int .i64 s.hops, .bool s.good, .slice A s.table.length cap, .int .i64 s.st, .int .i64 s.sn, .int .i64 s.life] #[.int .i64 h1, .int .i64 h2, .int .i64 s.time, .bool s.set, .int .i64 s.held, .int .i64 s.hops, .bool s.good, .slice A s.table.length cap, .int .i64 s.st, .int .i64 s.sn, .int .i64 s.life]) (v := .pointer (some ⟨G, 0, none⟩)) rfl rfl ?_ (fun _ _ => rfl) (Turned.refl _) (hIn.put (Ok.refl _) (by decide))
    clear hF hO' hU hIn
    go_simp
  · intro a' w' hF hO' hU hIn hR
    obtain ⟨v0, hv0, e11⟩ := hF.get 0 11 (by kernel_rfl) (by kernel_rfl)
    obtain rfl : v0 = _ := hv0 _ (Turned.refl _)
    refine wpOp_runI (V := VCLos G N p s A cap m h1 h2 d1) (I := TurnI N #[.int .i64 s.lo, .int .i64 s.hi, .int .i64 s.time, .bool s.set, .int .i64 s.held, .int .i64 s.hops, .bool s.good, .slice A s.table.length cap, .int .i64 s.st, .int .i64 s.sn, .int .i64 s.life] #[.int .i64 h1, .int .i64 h2, .int .i64 s.time, .bool s.set, .int .i64 s.held, .int .i64 s.hops, .bool s.good, .slice A s.table.length cap, .int .i64 s.st, .int .i64 s.sn, .int .i64 s.life] 17 (.agg #[.int .i64 s.lo, .int .i64 s.hi])) (R := Turned N #[.int .i64 s.lo, .int .i64 s.hi, .int .i64 s.time, .bool s.set, .int .i64 s.held, .int .i64 s.hops, .bool s.good, .slice A s.table.length cap, .int .i64 s.st, .int .i64 s.sn, .int .i64 s.life] #[.int .i64 h1, .int .i64 h2, .int .i64 s.time, .bool s.set, .int .i64 s.held, .int .i64 s.hops, .bool s.good, .slice A s.table.length cap, .int .i64 s.st, .int .i64 s.sn, .int .i64 s.life]) (v := .pointer (some ⟨G, 0, none⟩)) rfl rfl ?_ (fun _ _ => rfl) (Turned.refl _) (hIn.put (Ok.refl _) (by decide))
    clear hF hO' hU hIn
    go_simp
  · intro a' w' hF hO' hU hIn hR
    obtain ⟨v1, hv1, e12⟩ := hF.get 1 12 (by kernel_rfl) (by kernel_rfl)
    obtain rfl : v1 = _ := hv1 _ (Turned.refl _)
    refine wpOp_runI (V := VCLos G N p s A cap m h1 h2 d1) (I := TurnI N #[.int .i64 s.lo, .int .i64 s.hi, .int .i64 s.time, .bool s.set, .int .i64 s.held, .int .i64 s.hops, .bool s.good, .slice A s.table.length cap, .int .i64 s.st, .int .i64 s.sn, .int .i64 s.life] #[.int .i64 h1, .int .i64 h2, .int .i64 s.time, .bool s.set, .int .i64 s.held, .int .i64 s.hops, .bool s.good, .slice A s.table.length cap, .int .i64 s.st, .int .i64 s.sn, .int .i64 s.life] 17 (.agg #[.int .i64 s.lo, .int .i64 s.hi])) (R := Turned N #[.int .i64 s.lo, .int .i64 s.hi, .int .i64 s.time, .bool s.set, .int .i64 s.held, .int .i64 s.hops, .bool s.good, .slice A s.table.length cap, .int .i64 s.st, .int .i64 s.sn, .int .i64 s.life] #[.int .i64 h1, .int .i64 h2, .int .i64 s.time, .bool s.set, .int .i64 s.held, .int .i64 s.hops, .bool s.good, .slice A s.table.length cap, .int .i64 s.st, .int .i64 s.sn, .int .i64 s.life]) (v := .pointer (some ⟨G, 0, none⟩)) rfl rfl ?_ (fun _ _ => rfl) (Turned.refl _) (hIn.put (Ok.refl _) (by decide))
    clear hF hO' hU hIn
    go_simp
  · intro a' w' hF hO' hU hIn hR
    obtain ⟨v2, hv2, e13⟩ := hF.get 2 13 (by kernel_rfl) (by kernel_rfl)
    obtain rfl : v2 = _ := hv2 _ (Turned.refl _)
    refine wpOp_runI (V := VCLos G N p s A cap m h1 h2 d1) (I := TurnI N #[.int .i64 s.lo, .int .i64 s.hi, .int .i64 s.time, .bool s.set, .int .i64 s.held, .int .i64 s.hops, .bool s.good, .slice A s.table.length cap, .int .i64 s.st, .int .i64 s.sn, .int .i64 s.life] #[.int .i64 h1, .int .i64 h2, .int .i64 s.time, .bool s.set, .int .i64 s.held, .int .i64 s.hops, .bool s.good, .slice A s.table.length cap, .int .i64 s.st, .int .i64 s.sn, .int .i64 s.life] 17 (.agg #[.int .i64 s.lo, .int .i64 s.hi])) (R := Turned N #[.int .i64 s.lo, .int .i64 s.hi, .int .i64 s.time, .bool s.set, .int .i64 s.held, .int .i64 s.hops, .bool s.good, .slice A s.table.length cap, .int .i64 s.st, .int .i64 s.sn, .int .i64 s.life] #[.int .i64 h1, .int .i64 h2, .int .i64 s.time, .bool s.set, .int .i64 s.held, .int .i64 s.hops, .bool s.good, .slice A s.table.length cap, .int .i64 s.st, .int .i64 s.sn, .int .i64 s.life]) (v := .pointer (some ⟨G, 0, none⟩)) rfl rfl ?_ (fun _ _ => rfl) (Turned.refl _) (hIn.put (Ok.refl _) (by decide))
    clear hF hO' hU hIn
    go_simp
  · intro a' w' hF hO' hU hIn hR
    obtain ⟨v3, hv3, e14⟩ := hF.get 3 14 (by kernel_rfl) (by kernel_rfl)
    obtain rfl : v3 = _ := hv3 _ (Turned.refl _)
    obtain ⟨c0, c1, c2, c3, c4, c5, c6, c7, c8, c9, c10, c11⟩ := (HQ.out _ hR).frP
    have hgl := (HQ.out _ hR).lt
    refine wpOp_runI (V := VCLos G N p s A cap m h1 h2 d1) (I := TurnI N #[.int .i64 s.lo, .int .i64 s.hi, .int .i64 s.time, .bool s.set, .int .i64 s.held, .int .i64 s.hops, .bool s.good, .slice A s.table.length cap, .int .i64 s.st, .int .i64 s.sn, .int .i64 s.life] #[.int .i64 h1, .int .i64 h2, .int .i64 s.time, .bool s.set, .int .i64 s.held, .int .i64 s.hops, .bool s.good, .slice A s.table.length cap, .int .i64 s.st, .int .i64 s.sn, .int .i64 s.life] 17 (.agg #[.int .i64 s.lo, .int .i64 s.hi])) (R := Turned N #[.int .i64 s.lo, .int .i64 s.hi, .int .i64 s.time, .bool s.set, .int .i64 s.held, .int .i64 s.hops, .bool s.good, .slice A s.table.length cap, .int .i64 s.st, .int .i64 s.sn, .int .i64 s.life] #[.int .i64 h1, .int .i64 h2, .int .i64 s.time, .bool s.set, .int .i64 s.held, .int .i64 s.hops, .bool s.good, .slice A s.table.length cap, .int .i64 s.st, .int .i64 s.sn, .int .i64 s.life]) (v := parV p) rfl rfl ?_ (fun _ _ => rfl) (Turned.refl _) (hIn.put (Ok.refl _) (by decide))
    clear hF hO' hU hIn
    go_simp
  · intro a' w' hF hO' hU hIn hR
    have e5 : a'.tmps[5]? = some (.pointer (some ⟨N, 0, none⟩)) := hF.slot 5 (by kernel_rfl) rfl
    refine wpOp_runI (V := VCLos G N p s A cap m h1 h2 d1) (I := TurnI N #[.int .i64 s.lo, .int .i64 s.hi, .int .i64 s.time, .bool s.set, .int .i64 s.held, .int .i64 s.hops, .bool s.good, .slice A s.table.length cap, .int .i64 s.st, .int .i64 s.sn, .int .i64 s.life] #[.int .i64 h1, .int .i64 h2, .int .i64 s.time, .bool s.set, .int .i64 s.held, .int .i64 s.hops, .bool s.good, .slice A s.table.length cap, .int .i64 s.st, .int .i64 s.sn, .int .i64 s.life] 17 (.agg #[.int .i64 s.lo, .int .i64 s.hi])) (R := Turned N #[.int .i64 s.lo, .int .i64 s.hi, .int .i64 s.time, .bool s.set, .int .i64 s.held, .int .i64 s.hops, .bool s.good, .slice A s.table.length cap, .int .i64 s.st, .int .i64 s.sn, .int .i64 s.life] #[.int .i64 h1, .int .i64 h2, .int .i64 s.time, .bool s.set, .int .i64 s.held, .int .i64 s.hops, .bool s.good, .slice A s.table.length cap, .int .i64 s.st, .int .i64 s.sn, .int .i64 s.life]) (v := .pointer (some ⟨N, 0, none⟩)) rfl rfl ?_ (fun _ _ => rfl) (Turned.refl _) (hIn.put (Ok.refl _) (by decide))
    clear hF hO' hU hIn
    go_simp
  · intro a' w' hF hO' hU hIn hR
    obtain ⟨v5, hv5, e16⟩ := hF.get 5 16 (by kernel_rfl) (by kernel_rfl)
    obtain rfl : v5 = _ := hv5 _ (Turned.refl _)
    rcases hIn with hc | ⟨-, hc⟩
    · have z0 := hc.cell 0 rfl
      have z1 := hc.cell 1 rfl
      have hnl := hc.lt
      refine wpOp_runI (V := VCLos G N p s A cap m h1 h2 d1) (I := TurnI N #[.int .i64 s.lo, .int .i64 s.hi, .int .i64 s.time, .bool s.set, .int .i64 s.held, .int .i64 s.hops, .bool s.good, .slice A s.table.length cap, .int .i64 s.st, .int .i64 s.sn, .int .i64 s.life] #[.int .i64 h1, .int .i64 h2, .int .i64 s.time, .bool s.set, .int .i64 s.held, .int .i64 s.hops, .bool s.good, .slice A s.table.length cap, .int .i64 s.st, .int .i64 s.sn, .int .i64 s.life] 17 (.agg #[.int .i64 s.lo, .int .i64 s.hi])) (R := Turned N #[.int .i64 s.lo, .int .i64 s.hi, .int .i64 s.time, .bool s.set, .int .i64 s.held, .int .i64 s.hops, .bool s.good, .slice A s.table.length cap, .int .i64 s.st, .int .i64 s.sn, .int .i64 s.life] #[.int .i64 h1, .int .i64 h2, .int .i64 s.time, .bool s.set, .int .i64 s.held, .int .i64 s.hops, .bool s.good, .slice A s.table.length cap, .int .i64 s.st, .int .i64 s.sn, .int .i64 s.life]) (v := .agg #[.int .i64 s.lo, .int .i64 s.hi]) rfl rfl ?_ (fun _ _ => rfl) (Turned.refl _) (.inl hc)
      · clear hF hO' hU
        go_simp
    · have hq := (hU 17 rfl).trans rfl
      rw [hc] at hq
      cases hq
  · intro a' w' hF hO' hU hIn hR
    have e1 : a'.tmps[1]? = some (.int .i64 m) := hF.slot 1 (by kernel_rfl) rfl
    refine wpOp_runI (V := VCLos G N p s A cap m h1 h2 d1) (I := TurnI N #[.int .i64 s.lo, .int .i64 s.hi, .int .i64 s.time, .bool s.set, .int .i64 s.held, .int .i64 s.hops, .bool s.good, .slice A s.table.length cap, .int .i64 s.st, .int .i64 s.sn, .int .i64 s.life] #[.int .i64 h1, .int .i64 h2, .int .i64 s.time, .bool s.set, .int .i64 s.held, .int .i64 s.hops, .bool s.good, .slice A s.table.length cap, .int .i64 s.st, .int .i64 s.sn, .int .i64 s.life] 17 (.agg #[.int .i64 s.lo, .int .i64 s.hi])) (R := Turned N #[.int .i64 s.lo, .int .i64 s.hi, .int .i64 s.time, .bool s.set, .int .i64 s.held, .int .i64 s.hops, .bool s.good, .slice A s.table.length cap, .int .i64 s.st, .int .i64 s.sn, .int .i64 s.life] #[.int .i64 h1, .int .i64 h2, .int .i64 s.time, .bool s.set, .int .i64 s.held, .int .i64 s.hops, .bool s.good, .slice A s.table.length cap, .int .i64 s.st, .int .i64 s.sn, .int .i64 s.life]) (v := .int .i64 m) rfl rfl ?_ (fun _ _ => rfl) (Turned.refl _) (hIn.put (Ok.refl _) (by decide))
    clear hF hO' hU hIn
    go_simp
  · intro a' w' hF hO' hU hIn hR
    obtain ⟨v4, hv4, e15⟩ := hF.get 4 15 (by kernel_rfl) (by kernel_rfl)
    obtain rfl : v4 = _ := hv4 _ (Turned.refl _)
    obtain ⟨v6, hv6, e17⟩ := hF.get 6 17 (by kernel_rfl) (by kernel_rfl)
    obtain rfl : v6 = _ := hv6 _ (Turned.refl _)
    obtain ⟨v7, hv7, e18⟩ := hF.get 7 18 (by kernel_rfl) (by kernel_rfl)
    obtain rfl : v7 = _ := hv7 _ (Turned.refl _)
    refine wpOp_callI (V := VCLos G N p s A cap m h1 h2 d1) (I := TurnI N #[.int .i64 s.lo, .int .i64 s.hi, .int .i64 s.time, .bool s.set, .int .i64 s.held, .int .i64 s.hops, .bool s.good, .slice A s.table.length cap, .int .i64 s.st, .int .i64 s.sn, .int .i64 s.life] #[.int .i64 h1, .int .i64 h2, .int .i64 s.time, .bool s.set, .int .i64 s.held, .int .i64 s.hops, .bool s.good, .slice A s.table.length cap, .int .i64 s.st, .int .i64 s.sn, .int .i64 s.life] 17 (.agg #[.int .i64 s.lo, .int .i64 s.hi])) (R := Turned N #[.int .i64 s.lo, .int .i64 s.hi, .int .i64 s.time, .bool s.set, .int .i64 s.held, .int .i64 s.hops, .bool s.good, .slice A s.table.length cap, .int .i64 s.st, .int .i64 s.sn, .int .i64 s.life] #[.int .i64 h1, .int .i64 h2, .int .i64 s.time, .bool s.set, .int .i64 s.held, .int .i64 s.hops, .bool s.good, .slice A s.table.length cap, .int .i64 s.st, .int .i64 s.sn, .int .i64 s.life]) (f := 127) (args := #[parV p, .agg #[.int .i64 s.lo, .int .i64 s.hi], .int .i64 m]) rfl rfl ?_ ((KH.out _).mono ?_)
    · clear hF hO' hU hIn
      go_simp
    · rintro e w2 ⟨rfl, hb2⟩; exact ⟨_, rfl, fun _ _ => rfl, Turned.of_ok hb2, hIn.put hb2 (by decide)⟩
  · intro a' w' hF hO' hU hIn hR
    have e0 : a'.tmps[0]? = some (.pointer (some ⟨G, 0, none⟩)) := hF.slot 0 (by kernel_rfl) rfl
    refine wpOp_runI (V := VCLos G N p s A cap m h1 h2 d1) (I := TurnI N #[.int .i64 s.lo, .int .i64 s.hi, .int .i64 s.time, .bool s.set, .int .i64 s.held, .int .i64 s.hops, .bool s.good, .slice A s.table.length cap, .int .i64 s.st, .int .i64 s.sn, .int .i64 s.life] #[.int .i64 h1, .int .i64 h2, .int .i64 s.time, .bool s.set, .int .i64 s.held, .int .i64 s.hops, .bool s.good, .slice A s.table.length cap, .int .i64 s.st, .int .i64 s.sn, .int .i64 s.life] 17 (.agg #[.int .i64 s.lo, .int .i64 s.hi])) (R := Turned N #[.int .i64 s.lo, .int .i64 s.hi, .int .i64 s.time, .bool s.set, .int .i64 s.held, .int .i64 s.hops, .bool s.good, .slice A s.table.length cap, .int .i64 s.st, .int .i64 s.sn, .int .i64 s.life] #[.int .i64 h1, .int .i64 h2, .int .i64 s.time, .bool s.set, .int .i64 s.held, .int .i64 s.hops, .bool s.good, .slice A s.table.length cap, .int .i64 s.st, .int .i64 s.sn, .int .i64 s.life]) (v := .pointer (some ⟨G, 0, none⟩)) rfl rfl ?_ (fun _ _ => rfl) (Turned.refl _) (hIn.put (Ok.refl _) (by decide))
    clear hF hO' hU hIn
    go_simp
  · intro a' w' hF hO' hU hIn hR
    obtain ⟨v9, hv9, e20⟩ := hF.get 9 20 (by kernel_rfl) (by kernel_rfl)
    obtain rfl : v9 = _ := hv9 _ (Turned.refl _)
    refine wpOp_runI (V := VCLos G N p s A cap m h1 h2 d1) (I := TurnI N #[.int .i64 s.lo, .int .i64 s.hi, .int .i64 s.time, .bool s.set, .int .i64 s.held, .int .i64 s.hops, .bool s.good, .slice A s.table.length cap, .int .i64 s.st, .int .i64 s.sn, .int .i64 s.life] #[.int .i64 h1, .int .i64 h2, .int .i64 s.time, .bool s.set, .int .i64 s.held, .int .i64 s.hops, .bool s.good, .slice A s.table.length cap, .int .i64 s.st, .int .i64 s.sn, .int .i64 s.life] 17 (.agg #[.int .i64 s.lo, .int .i64 s.hi])) (R := Turned N #[.int .i64 s.lo, .int .i64 s.hi, .int .i64 s.time, .bool s.set, .int .i64 s.held, .int .i64 s.hops, .bool s.good, .slice A s.table.length cap, .int .i64 s.st, .int .i64 s.sn, .int .i64 s.life] #[.int .i64 h1, .int .i64 h2, .int .i64 s.time, .bool s.set, .int .i64 s.held, .int .i64 s.hops, .bool s.good, .slice A s.table.length cap, .int .i64 s.st, .int .i64 s.sn, .int .i64 s.life]) (v := .pointer (some ⟨G, 0, none⟩)) rfl rfl ?_ (fun _ _ => rfl) (Turned.refl _) (hIn.put (Ok.refl _) (by decide))
    clear hF hO' hU hIn
    go_simp
  · intro a' w' hF hO' hU hIn hR
    obtain ⟨v10, hv10, e21⟩ := hF.get 10 21 (by kernel_rfl) (by kernel_rfl)
    obtain rfl : v10 = _ := hv10 _ (Turned.refl _)
    refine wpOp_runI (V := VCLos G N p s A cap m h1 h2 d1) (I := TurnI N #[.int .i64 s.lo, .int .i64 s.hi, .int .i64 s.time, .bool s.set, .int .i64 s.held, .int .i64 s.hops, .bool s.good, .slice A s.table.length cap, .int .i64 s.st, .int .i64 s.sn, .int .i64 s.life] #[.int .i64 h1, .int .i64 h2, .int .i64 s.time, .bool s.set, .int .i64 s.held, .int .i64 s.hops, .bool s.good, .slice A s.table.length cap, .int .i64 s.st, .int .i64 s.sn, .int .i64 s.life] 17 (.agg #[.int .i64 s.lo, .int .i64 s.hi])) (R := Turned N #[.int .i64 s.lo, .int .i64 s.hi, .int .i64 s.time, .bool s.set, .int .i64 s.held, .int .i64 s.hops, .bool s.good, .slice A s.table.length cap, .int .i64 s.st, .int .i64 s.sn, .int .i64 s.life] #[.int .i64 h1, .int .i64 h2, .int .i64 s.time, .bool s.set, .int .i64 s.held, .int .i64 s.hops, .bool s.good, .slice A s.table.length cap, .int .i64 s.st, .int .i64 s.sn, .int .i64 s.life]) (v := .pointer (some ⟨G, 0, none⟩)) rfl rfl ?_ (fun _ _ => rfl) (Turned.refl _) (hIn.put (Ok.refl _) (by decide))
    clear hF hO' hU hIn
    go_simp
  · intro a' w' hF hO' hU hIn hR
    obtain ⟨v11, hv11, e22⟩ := hF.get 11 22 (by kernel_rfl) (by kernel_rfl)
    obtain rfl : v11 = _ := hv11 _ (Turned.refl _)
    refine wpOp_runI (V := VCLos G N p s A cap m h1 h2 d1) (I := TurnI N #[.int .i64 s.lo, .int .i64 s.hi, .int .i64 s.time, .bool s.set, .int .i64 s.held, .int .i64 s.hops, .bool s.good, .slice A s.table.length cap, .int .i64 s.st, .int .i64 s.sn, .int .i64 s.life] #[.int .i64 h1, .int .i64 h2, .int .i64 s.time, .bool s.set, .int .i64 s.held, .int .i64 s.hops, .bool s.good, .slice A s.table.length cap, .int .i64 s.st, .int .i64 s.sn, .int .i64 s.life] 17 (.agg #[.int .i64 s.lo, .int .i64 s.hi])) (R := Turned N #[.int .i64 s.lo, .int .i64 s.hi, .int .i64 s.time, .bool s.set, .int .i64 s.held, .int .i64 s.hops, .bool s.good, .slice A s.table.length cap, .int .i64 s.st, .int .i64 s.sn, .int .i64 s.life] #[.int .i64 h1, .int .i64 h2, .int .i64 s.time, .bool s.set, .int .i64 s.held, .int .i64 s.hops, .bool s.good, .slice A s.table.length cap, .int .i64 s.st, .int .i64 s.sn, .int .i64 s.life]) (v := .pointer (some ⟨G, 0, none⟩)) rfl rfl ?_ (fun _ _ => rfl) (Turned.refl _) (hIn.put (Ok.refl _) (by decide))
    clear hF hO' hU hIn
    go_simp
  · intro a' w' hF hO' hU hIn hR
    obtain ⟨v12, hv12, e23⟩ := hF.get 12 23 (by kernel_rfl) (by kernel_rfl)
    obtain rfl : v12 = _ := hv12 _ (Turned.refl _)
    obtain ⟨c0, c1, c2, c3, c4, c5, c6, c7, c8, c9, c10, c11⟩ := (HQ.out _ hR).frP
    have hgl := (HQ.out _ hR).lt
    refine wpOp_runI (V := VCLos G N p s A cap m h1 h2 d1) (I := TurnI N #[.int .i64 s.lo, .int .i64 s.hi, .int .i64 s.time, .bool s.set, .int .i64 s.held, .int .i64 s.hops, .bool s.good, .slice A s.table.length cap, .int .i64 s.st, .int .i64 s.sn, .int .i64 s.life] #[.int .i64 h1, .int .i64 h2, .int .i64 s.time, .bool s.set, .int .i64 s.held, .int .i64 s.hops, .bool s.good, .slice A s.table.length cap, .int .i64 s.st, .int .i64 s.sn, .int .i64 s.life] 17 (.agg #[.int .i64 s.lo, .int .i64 s.hi])) (R := Turned N #[.int .i64 s.lo, .int .i64 s.hi, .int .i64 s.time, .bool s.set, .int .i64 s.held, .int .i64 s.hops, .bool s.good, .slice A s.table.length cap, .int .i64 s.st, .int .i64 s.sn, .int .i64 s.life] #[.int .i64 h1, .int .i64 h2, .int .i64 s.time, .bool s.set, .int .i64 s.held, .int .i64 s.hops, .bool s.good, .slice A s.table.length cap, .int .i64 s.st, .int .i64 s.sn, .int .i64 s.life]) (v := parV p) rfl rfl ?_ (fun _ _ => rfl) (Turned.refl _) (hIn.put (Ok.refl _) (by decide))
    clear hF hO' hU hIn
    go_simp
  · intro a' w' hF hO' hU hIn hR
    obtain ⟨v13, hv13, e24⟩ := hF.get 13 24 (by kernel_rfl) (by kernel_rfl)
    obtain rfl : v13 = _ := hv13 _ (Turned.refl _)
    refine wpOp_callI (V := VCLos G N p s A cap m h1 h2 d1) (I := TurnI N #[.int .i64 s.lo, .int .i64 s.hi, .int .i64 s.time, .bool s.set, .int .i64 s.held, .int .i64 s.hops, .bool s.good, .slice A s.table.length cap, .int .i64 s.st, .int .i64 s.sn, .int .i64 s.life] #[.int .i64 h1, .int .i64 h2, .int .i64 s.time, .bool s.set, .int .i64 s.held, .int .i64 s.hops, .bool s.good, .slice A s.table.length cap, .int .i64 s.st, .int .i64 s.sn, .int .i64 s.life] 17 (.agg #[.int .i64 s.lo, .int .i64 s.hi])) (R := Turned N #[.int .i64 s.lo, .int .i64 s.hi, .int .i64 s.time, .bool s.set, .int .i64 s.held, .int .i64 s.hops, .bool s.good, .slice A s.table.length cap, .int .i64 s.st, .int .i64 s.sn, .int .i64 s.life] #[.int .i64 h1, .int .i64 h2, .int .i64 s.time, .bool s.set, .int .i64 s.held, .int .i64 s.hops, .bool s.good, .slice A s.table.length cap, .int .i64 s.st, .int .i64 s.sn, .int .i64 s.life]) (f := 128) (args := #[parV p]) rfl rfl ?_ ((KL.out _).mono ?_)
    · clear hF hO' hU hIn
      go_simp
    · rintro e w2 ⟨rfl, hb2⟩; exact ⟨_, rfl, fun _ _ => rfl, Turned.of_ok hb2, hIn.put hb2 (by decide)⟩
  · intro a' w' hF hO' hU hIn hR
    have e5 : a'.tmps[5]? = some (.pointer (some ⟨N, 0, none⟩)) := hF.slot 5 (by kernel_rfl) rfl
    refine wpOp_runI (V := VCLos G N p s A cap m h1 h2 d1) (I := TurnI N #[.int .i64 s.lo, .int .i64 s.hi, .int .i64 s.time, .bool s.set, .int .i64 s.held, .int .i64 s.hops, .bool s.good, .slice A s.table.length cap, .int .i64 s.st, .int .i64 s.sn, .int .i64 s.life] #[.int .i64 h1, .int .i64 h2, .int .i64 s.time, .bool s.set, .int .i64 s.held, .int .i64 s.hops, .bool s.good, .slice A s.table.length cap, .int .i64 s.st, .int .i64 s.sn, .int .i64 s.life] 17 (.agg #[.int .i64 s.lo, .int .i64 s.hi])) (R := Turned N #[.int .i64 s.lo, .int .i64 s.hi, .int .i64 s.time, .bool s.set, .int .i64 s.held, .int .i64 s.hops, .bool s.good, .slice A s.table.length cap, .int .i64 s.st, .int .i64 s.sn, .int .i64 s.life] #[.int .i64 h1, .int .i64 h2, .int .i64 s.time, .bool s.set, .int .i64 s.held, .int .i64 s.hops, .bool s.good, .slice A s.table.length cap, .int .i64 s.st, .int .i64 s.sn, .int .i64 s.life]) (v := .pointer (some ⟨N, 0, none⟩)) rfl rfl ?_ (fun _ _ => rfl) (Turned.refl _) (hIn.put (Ok.refl _) (by decide))
    clear hF hO' hU hIn
    go_simp
  · intro a' w' hF hO' hU hIn hR
    obtain ⟨v15, hv15, e26⟩ := hF.get 15 26 (by kernel_rfl) (by kernel_rfl)
    obtain rfl : v15 = _ := hv15 _ (Turned.refl _)
    obtain ⟨v8, hv8, e19⟩ := hF.get 8 19 (by kernel_rfl) (by kernel_rfl)
    obtain rfl : v8 = _ := hv8 _ (Turned.refl _)
    have e17 := hF.get 6 17 (by kernel_rfl) (by kernel_rfl)
    obtain ⟨v6, hv6, e17⟩ := e17
    obtain rfl : v6 = _ := hv6 _ (Turned.refl _)
    rcases hIn with hc | ⟨hc, -⟩
    · have z0 := hc.cell 0 rfl
      have z1 := hc.cell 1 rfl
      have y0 := hc.frozen 0
      have y1 := hc.frozen 1
      have hnl := hc.lt
      have hc2 : Own ((w'.setCell ⟨N, 0, none⟩ (.int .i64 h1)).setCell ⟨N, 1, none⟩ (.int .i64 h2)) N #[.int .i64 h1, .int .i64 h2, .int .i64 s.time, .bool s.set, .int .i64 s.held, .int .i64 s.hops, .bool s.good, .slice A s.table.length cap, .int .i64 s.st, .int .i64 s.sn, .int .i64 s.life] := (hc.set 0 (.int .i64 h1)).set 1 (.int .i64 h2)
      refine wpOp_store (w' := (w'.setCell ⟨N, 0, none⟩ (.int .i64 h1)).setCell ⟨N, 1, none⟩ (.int .i64 h2)) rfl rfl rfl ?_ ⟨.bool true, rfl, fun w3 k => k.b hc2, ⟨((Only.refl N w').setR 0 _).setR 1 _, fun _ => .inr hc2, fun _ => hc2⟩, .inr ⟨hc2, e17⟩⟩
      clear hF hO' hU
      go_simp
    · have z0 := hc.cell 0 rfl
      have z1 := hc.cell 1 rfl
      have y0 := hc.frozen 0
      have y1 := hc.frozen 1
      have hnl := hc.lt
      have hc2 : Own ((w'.setCell ⟨N, 0, none⟩ (.int .i64 h1)).setCell ⟨N, 1, none⟩ (.int .i64 h2)) N #[.int .i64 h1, .int .i64 h2, .int .i64 s.time, .bool s.set, .int .i64 s.held, .int .i64 s.hops, .bool s.good, .slice A s.table.length cap, .int .i64 s.st, .int .i64 s.sn, .int .i64 s.life] := (hc.set 0 (.int .i64 h1)).set 1 (.int .i64 h2)
      refine wpOp_store (w' := (w'.setCell ⟨N, 0, none⟩ (.int .i64 h1)).setCell ⟨N, 1, none⟩ (.int .i64 h2)) rfl rfl rfl ?_ ⟨.bool true, rfl, fun w3 k => k.b hc2, ⟨((Only.refl N w').setR 0 _).setR 1 _, fun _ => .inr hc2, fun _ => hc2⟩, .inr ⟨hc2, e17⟩⟩
      clear hF hO' hU
      go_simp
  intro vs W' hvs hIn hR
  have e14 : vs 14 = .int .i64 d1 := hvs 14 (by decide) _ (Turned.refl _)
  have hN : Own W' N #[.int .i64 h1, .int .i64 h2, .int .i64 s.time, .bool s.set, .int .i64 s.held, .int .i64 s.hops, .bool s.good, .slice A s.table.length cap, .int .i64 s.st, .int .i64 s.sn, .int .i64 s.life] := hvs 16 (by decide) _ (Turned.refl _)
  have hY := HY.out _ hR
  have hok := Only.then_ok (HOK.out.trans (Ok.refl W1).drew) hR.only HD.out.2
  clear hvs hIn HY HQ HOK KH KL
  have z5 := hN.cell 5 rfl
  have z6 := hN.cell 6 rfl
  have y5 := hN.frozen 5
  have y6 := hN.frozen 6
  have hnl := hN.lt
  simp only [putFrom, e14]
  simp only [Act.put, List.setIfInBounds_toArray, List.set_cons_zero, List.set_cons_succ]
  refine wpOp_leaves (o := ⟨some 27, _, _, _, _, none⟩) (v := .pointer (some ⟨N, 5, none⟩)) (w' := W') rfl rfl ?_ ?_
  · go_simp
  simp only [Act.put, List.setIfInBounds_toArray, List.set_cons_zero, List.set_cons_succ]
  refine wpOp_store (w' := (W'.setCell ⟨N, 5, none⟩ (.int .i64 d1))) rfl rfl rfl ?_ ?_
  · go_simp
  refine wpOp_leaves (o := ⟨some 28, _, _, _, _, none⟩) (v := .pointer (some ⟨N, 6, none⟩)) (w' := (W'.setCell ⟨N, 5, none⟩ (.int .i64 d1))) rfl rfl ?_ ?_
  · go_simp
  simp only [Act.put, List.setIfInBounds_toArray, List.set_cons_zero, List.set_cons_succ]
  refine wpOp_store (w' := ((W'.setCell ⟨N, 5, none⟩ (.int .i64 d1)).setCell ⟨N, 6, none⟩ (.bool false))) rfl rfl rfl ?_ ?_
  · go_simp
  simp only [TailFrom]
  clear z5 z6 y5 y6 hnl e14
  replace hN := ((hN.set 5 (.int .i64 d1)).set 6 (.bool false))
  change Own _ N #[.int .i64 h1, .int .i64 h2, .int .i64 s.time, .bool s.set, .int .i64 s.held, .int .i64 d1, .bool false, .slice A s.table.length cap, .int .i64 s.st, .int .i64 s.sn, .int .i64 s.life] at hN
  replace hY := ((hY.setOther (a := ⟨N, 5, none⟩) HD.out.1 (.int .i64 d1)).setOther (a := ⟨N, 6, none⟩) HD.out.1 (.bool false))
  replace hok := ((hok.setCell (p := ⟨N, 5, none⟩) HD.out.2 (.int .i64 d1)).setCell (p := ⟨N, 6, none⟩) HD.out.2 (.bool false))
  generalize ((W'.setCell ⟨N, 5, none⟩ (.int .i64 d1)).setCell ⟨N, 6, none⟩ (.bool false)) = W5 at hN hY hok ⊢
  generalize vs 0 = x20
  generalize vs 1 = x21
  generalize vs 2 = x22
  generalize vs 3 = x23
  generalize vs 4 = x24
  generalize vs 5 = x25
  generalize vs 6 = x26
  generalize vs 7 = x27
  generalize vs 8 = x28
  generalize vs 9 = x29
  generalize vs 10 = x30
  generalize vs 11 = x31
  generalize vs 12 = x32
  generalize vs 13 = x33
  generalize vs 15 = x35
  clear hR vs
  have z4 := hN.cell 4 (v := .int .i64 s.held) rfl
  have y4 := hN.frozen 4
  have hnl := hN.lt
  go_upto_region 4 with (go_at_call 126; refine (KM.out _).mono ?_; rintro e w6 ⟨rfl, hb1⟩; clear z4 y4 hnl; replace hN := hN.next hb1; replace hY := hY.next hb1; replace hok := hok.trans hb1; clear hb1; have z4 := hN.cell 4 (v := .int .i64 s.held) rfl; have y4 := hN.frozen 4; have hnl := hN.lt)
  clear z4 y4 hnl
  replace hN := hN.set 4 (.int .i64 h3)
  change Own _ N #[.int .i64 h1, .int .i64 h2, .int .i64 s.time, .bool s.set, .int .i64 h3, .int .i64 d1, .bool false, .slice A s.table.length cap, .int .i64 s.st, .int .i64 s.sn, .int .i64 s.life] at hN
  replace hY := (hY.setOther (a := ⟨N, 4, none⟩) HD.out.1 (.int .i64 h3))
  replace hok := (hok.setCell (p := ⟨N, 4, none⟩) HD.out.2 (.int .i64 h3))
  change Code.wp _ _ _ _ (w6.setCell ⟨N, 4, none⟩ (.int .i64 h3))
  generalize w6.setCell ⟨N, 4, none⟩ (.int .i64 h3) = W7 at hN hY hok ⊢
  rw [HUA.out] at hN
  have hrw := HW.out
  obtain ⟨s0, s1, s2, s3, s4, s5, s6, s7, s8, s9, s10⟩ := hN.sta
  obtain ⟨z0, z1, z2, z3, z4, z5, z6, z7, z8, z9, z10⟩ := hY.sta
  obtain ⟨y0, y1, y2, y3, y4, y5, y6, y7, y8, y9, y10⟩ := frozenSta hY
  have hsl := hN.lt
  have hzl := hY.lt
  have hX := own_set11 hY u A cap
  have hok3 := ok_set11 hok hrw u A cap
  go_wp2_with fail
  clear s0 s1 s2 s3 s4 s5 s6 s7 s8 s9 s10 z0 z1 z2 z3 z4 z5 z6 z7 z8 z9 z10 y0 y1 y2 y3 y4 y5 y6 y7 y8 y9 y10 hsl hzl
  generalize (((((((((((W7.setCell ⟨Y, 0, none⟩ (.int .i64 u.lo)).setCell ⟨Y, 1, none⟩ (.int .i64 u.hi)).setCell ⟨Y, 2, none⟩ (.int .i64 u.time)).setCell ⟨Y, 3, none⟩ (.bool u.set)).setCell ⟨Y, 4, none⟩ (.int .i64 u.held)).setCell ⟨Y, 5, none⟩ (.int .i64 u.hops)).setCell ⟨Y, 6, none⟩ (.bool u.good)).setCell ⟨Y, 7, none⟩ (.slice A u.table.length cap)).setCell ⟨Y, 8, none⟩ (.int .i64 u.st)).setCell ⟨Y, 9, none⟩ (.int .i64 u.sn)).setCell ⟨Y, 10, none⟩ (.int .i64 u.life)) = W9 at hX hok3 ⊢
  obtain ⟨s0, s1, s2, s3, s4, s5, s6, s7, s8, s9, s10⟩ := hX.sta
  exact bodyPost_ret (v := staV u A cap) (by simp [results, Tryz.results79, go_sem, s0, s1, s2, s3, s4, s5, s6, s7, s8, s9, s10, staV]) rfl ⟨rfl, hok3⟩
end Go.Proofs.YtmokofblmkeloaaGreatDoor
