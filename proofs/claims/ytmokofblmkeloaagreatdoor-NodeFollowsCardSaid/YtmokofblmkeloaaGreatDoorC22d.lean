import Derived.Test.YtmokofblmkeloaaGreatDoorP36
import Derived.Test.YtmokofblmkeloaaGreatDoorShelfS
namespace Go.Proofs.YtmokofblmkeloaaGreatDoor
open Go.RowKit
set_option linter.unusedVariables false
set_option maxRecDepth 100000
/-- Behind a sort of the row v. -/
structure Sorted22 (B : Nat) (v : Value) (l : List HA) (w w' : World) (l' : List HA) : Prop where
  perm : l'.Perm l
  up : l'.Pairwise fun a b => a.m.frm ≤ b.m.frm
  row : w'.ownsRow B 65 15 v l.length (l'.flatMap haL)
  grown : w.grownBy w' v.ownBlock
theorem only_grown {r : Nat} {w w1 : World} (h : Only r w w1) : w.grownBy w1 (some r) := ⟨h.os, h.tape, h.output, h.size, fun i hi hn => h.block i hi fun e => hn (by rw [e])⟩
theorem toldSort {w : World} {B : Nat} {v : Value} {l : List HA} (h : w.ownsRow B 65 15 v l.length (l.flatMap haL)) (hl : l.length ≤ 100000) :
    Calls Tryz.prog 151 #[v, .func (.func 152) #[] #[]] w fun e w' => e = .returned (.tuple #[]) ∧ ∃ l', Sorted22 B v l w w' l' := by
  rcases h.2 with ⟨e, e0⟩ | ⟨g, c, cur, e, hb, hg, hnc, hcm, hsz, ht⟩
  · subst e
    have hl0 : l = [] := List.length_eq_zero_iff.1 e0
    subst hl0
    have hcon := AnyF.slices_SortFunc_none { Tryz.sortHeard with } none 0 (.func (.func 152) #[] #[]) w
    refine (show Calls Tryz.prog 151 _ w _ from hcon).mono ?_
    rintro e w' ⟨rfl, rfl⟩
    exact ⟨rfl, [], List.Perm.refl _, List.Pairwise.nil, h, ⟨rfl, rfl, rfl, Nat.le_refl _, fun _ _ _ => rfl⟩⟩
  · subst e
    have hgl : g < w.heap.size := (Array.getElem?_eq_some_iff.1 hg).1
    have hH := holds_of_row rfl h
    have eg : ∀ args w, (callFunc 152 args).run Tryz.prog w = .ok (.enter 152 args) w := enters_of Tryz.func152 (by kernel_rfl) rfl
    have hcon := AnyQ.slices_SortFunc Tryz.sortHeard 15 Tryz.isAgg65 Tryz.sizeOf65 haL (fun _ => rfl) haL_one cfHA swoHA 152 #[] g 0 c l.toArray w eg (fun _ _ _ _ x y => toldLess x y _) hH hgl (by simp; omega)
    refine (show Calls Tryz.prog 151 #[.slice (some ⟨g, 0, none⟩) l.length c, .func (.func 152) #[] #[]] w _ from hcon).mono ?_
    rintro e w' ⟨rfl, d, m, os, hp, hs, rfl⟩
    obtain ⟨h1, h2, h3⟩ := sorted_list hp hs
    exact ⟨rfl, d.toList, h2, h3, row_of_sorted rfl h h1 m os, only_grown sorted_only⟩
end Go.Proofs.YtmokofblmkeloaaGreatDoor
