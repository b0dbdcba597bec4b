import Derived.Shelf.Slices.Reverse
import Derived.Sort.OwnSortedInts
import Derived.Test.YtaoanagmgheicaaGreatQIdz
set_option linter.unusedSimpArgs false
set_option linter.unusedVariables false
namespace Go.Proofs.YtaoanagmgheicaaGreat
open Go.RowKit
attribute [local go_sem] Oper.semAt_some
def Src (w W : World) (A : Option Addr) (n c : Nat) (l : List Bnd) : Prop := RdB w A n c l ∨ OwnB W (w.heap.size + 3) A n c l
theorem Src.rd {w W : World} {A : Option Addr} {n c : Nat} {l : List Bnd} (h : Src w W A n c l) (hb : Below w.heap.size w W) : RdB W A n c l := h.elim (fun h => h.below hb) (fun h => (OwnB.rd h).1)
theorem Src.keep {w W W' : World} {A : Option Addr} {n c : Nat} {l : List Bnd} (h : Src w W A n c l) (hb : Below W.heap.size W W') : Src w W' A n c l := h.imp id (fun h => owns_below h hb)
theorem Src.set {w W : World} {A : Option Addr} {n c : Nat} {l : List Bnd} (h : Src w W A n c l) (a : Addr) (ha : a.block < w.heap.size + 3) (u : Value) : Src w (W.setCell a u) A n c l := h.imp id (fun h => ownsRow_setCell_below h ha _)
theorem Src.grown {w W W' : World} {A : Option Addr} {n c : Nat} {l : List Bnd} (h : Src w W A n c l) {v : Value} {base m : Nat} {xs : List Value} (hv : W.ownsRow base 3 1 v m xs) (hg : W.grownBy W' v.ownBlock) : Src w W' A n c l := h.imp id (fun h => by
 refine World.ownsRow.kept h hg ?_
 obtain ⟨_, h⟩ := h
 obtain ⟨_, hv⟩ := hv
 rcases h with ⟨h, _⟩ | ⟨g, cap, cur, h, _, hgc, _⟩
 · left; rw [h]; rfl
 · right
   rw [h]
   rcases hv with ⟨rfl, _⟩ | ⟨g', cap', cur', rfl, _, hgc', _⟩
   · intro e; cases e
   · intro e
     have e : some g = some g' := e
     injection e with e
     subst e
     rw [hgc] at hgc'
     injection hgc' with hgc'
     injection hgc' with _ hgc'
     cases hgc')
end Go.Proofs.YtaoanagmgheicaaGreat
