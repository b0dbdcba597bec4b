import Derived.Shelf.Slices.Reverse
import Derived.Sort.OwnSortedInts
import Derived.Test.YtebkniakflhhkaaGreatDoorAIdz
import Derived.Test.YtebkniakflhhkaaGreatDoorAJoined
import Derived.Test.YtebkniakflhhkaaGreatDoorProg
import Derived.Deep.DeepCutAuto
import Derived.Deep.OwnRows
import Derived.Deep.RegionHeld3
import Derived.Deep.WholeRow
import Derived.Great.BuildSlice
import Derived.Laws.AppendOwnNone
import Derived.Lib.Hide
import Derived.Lib.SmallJoins
import Derived.Maps.OwnIn
import Derived.RangeFuncNested
import Derived.Shelf.SlIterI.Nil
import Derived.Shelf.SortM.Plain
import Derived.Shelf.SortM.SortNone
import Derived.WalkLawsBesides
import Derived.WalkSpells
set_option linter.unusedSimpArgs false
set_option linter.unusedVariables false
namespace Go.Proofs.YtebkniakflhhkaaGreatDoor
open Go.RowKit
attribute [local go_sem] Oper.semAt_some
def Src (w W:World) (A:Option Addr) (n c:Nat) (l:List Bnd):Prop:=RdB w A n c l∨OwnB W (w.heap.size+3) A n c l
theorem Src.rd {w W:World} {A:Option Addr} {n c:Nat} {l:List Bnd} (h:Src w W A n c l) (hb:Below w.heap.size w W):RdB W A n c l:=h.elim (fun h=>h.below hb) (fun h=>(OwnB.rd h).1)
theorem Src.keep {w W W':World} {A:Option Addr} {n c:Nat} {l:List Bnd} (h:Src w W A n c l) (hb:Below W.heap.size W W'):Src w W' A n c l:=h.imp id (fun h=>owns_below h hb)
theorem Src.set {w W:World} {A:Option Addr} {n c:Nat} {l:List Bnd} (h:Src w W A n c l) (a:Addr) (ha:a.block<w.heap.size+3) (u:Value):Src w (W.setCell a u) A n c l:=h.imp id (fun h=>ownsRow_setCell_below h ha _)
theorem Src.grown {w W W':World} {A:Option Addr} {n c:Nat} {l:List Bnd} (h:Src w W A n c l) {v:Value} {base m:Nat} {xs:List Value} (hv:W.ownsRow base 3 1 v m xs) (hg:W.grownBy W' v.ownBlock):Src w W' A n c l:=h.imp id (fun h=>by
 refine World.ownsRow.kept h hg ?_
 obtain ⟨_,h⟩:=h
 obtain ⟨_,hv⟩:=hv
 rcases h with ⟨h,_⟩|⟨g,cap,cur,h,_,hgc,_⟩
 · left;rw [h];rfl
 · right
   rw [h]
   rcases hv with ⟨rfl,_⟩|⟨g',cap',cur',rfl,_,hgc',_⟩
   · intro e;cases e
   · intro e
     have e:some g=some g':=e
     injection e with e
     subst e
     rw [hgc] at hgc'
     injection hgc' with hgc'
     injection hgc' with _ hgc'
     cases hgc')
end Go.Proofs.YtebkniakflhhkaaGreatDoor
namespace Go.Proofs.YtebkniakflhhkaaGreatDoor
open Go.RowKit
attribute [local go_sem] Oper.semAt_some
def KeepQ (Bs Br:Nat) (W W':World):Prop:=W.heap.size≤W'.heap.size∧W'.heap[Bs]?=W.heap[Bs]?∧W'.heap[Br]?=W.heap[Br]?
theorem KeepQ.refl (Bs Br:Nat) (W:World):KeepQ Bs Br W W:=⟨Nat.le_refl _,rfl,rfl⟩
theorem KeepQ.trans {Bs Br:Nat} {A B C:World} (h:KeepQ Bs Br A B) (k:KeepQ Bs Br B C):KeepQ Bs Br A C:=⟨Nat.le_trans h.1 k.1,k.2.1.trans h.2.1,k.2.2.trans h.2.2⟩
theorem RdI.move {w W:World} {A:Option Addr} {n c:Nat} {x:List Int} (h:RdI w A n c x) {Br:Nat} (hA:∀ b o,A=some ⟨b,o,none⟩→b=Br) (hsz:w.heap.size≤W.heap.size) (hb:W.heap[Br]?=w.heap[Br]?):RdI W A n c x:=by
 refine ⟨h.len,h.cap,h.nil,?_⟩
 rcases h.cells with h1|⟨b,o,e,hlt,hc⟩
 · exact .inl h1
 · obtain rfl:=hA b o e
   refine .inr ⟨b,o,e,by omega,fun j u hu=>?_⟩
   rw [← hc j u hu]
   simp [World.cell?,hb]
end Go.Proofs.YtebkniakflhhkaaGreatDoor
/- slices.Reverse at numbers, and slices.Backward itself. -/
namespace Go.Proofs.YtebkniakflhhkaaGreatDoor
open Go.RowKit Go.Shelf Go.Sort
end Go.Proofs.YtebkniakflhhkaaGreatDoor
namespace Go.Proofs.YtebkniakflhhkaaGreatDoor
open Go.ChangeShapes Go.WideShapes Go.ChangeAt Go.RowKit
set_option maxRecDepth 100000
theorem Law.own:ownKnob Tryz.prog.godebug=none:=by kernel_rfl
section
variable {H:Type} {enc:TypeId × Value→H} {W:World} {base:Nat} {sp:Nat→Bool} {held:Bool}
end
end Go.Proofs.YtebkniakflhhkaaGreatDoor
namespace Go.Proofs.YtebkniakflhhkaaGreatDoor
open Go.RowKit
theorem rdB_at {w:World} {b o n c:Nat} {l:List Bnd} {k:Nat} {f t m i:Int} (h:RdB w (some ⟨b,o,none⟩) n c l) (hv:l[k]?=some ⟨f,t,m,i⟩) :
 w.cell? ⟨b,o+k * 4,none⟩=some (.int .i64 f)∧w.cell? ⟨b,o+k * 4+1,none⟩=some (.int .i64 t)∧w.cell? ⟨b,o+k * 4+2,none⟩=some (.int .i64 m)∧w.cell? ⟨b,o+k * 4+3,none⟩=some (.int .i64 i)∧b<w.heap.size:=by
 obtain ⟨b',o',f',t',m',i',h1,h2,h3,h4,h5,h6,h7⟩:=h.get (k:=k) (by rw [← h.len];exact (List.getElem?_eq_some_iff.1 hv).1)
 injection h1 with h1
 injection h1 with e1 e2
 subst e1 e2
 rw [hv] at h3
 injection h3 with h3
 injection h3 with e1 e2 e3 e4
 subst e1 e2 e3 e4
 exact ⟨h4,h5,h6,h7,h2⟩
theorem rdB_some {w:World} {A:Option Addr} {n c:Nat} {l:List Bnd} {k:Nat} {v:Bnd} (h:RdB w A n c l) (hv:l[k]?=some v):∃ b o,A=some ⟨b,o,none⟩:=by
 obtain ⟨b,o,f,t,m,i,h1,-⟩:=h.get (k:=k) (by rw [← h.len];exact (List.getElem?_eq_some_iff.1 hv).1)
 exact ⟨b,o,h1⟩
def Apart (v u:Value):Prop:=v.ownBlock=none∨v.ownBlock≠u.ownBlock
theorem Apart.symm {v u:Value} (h:Apart v u):Apart u v:=by
 unfold Apart at *
 rcases h with h|h
 · by_cases hu:u.ownBlock=none
   · exact .inl hu
   · exact .inr (by rw [h];exact hu)
 · exact .inr (fun e=>h e.symm)
theorem Apart.grown {w:World} {base:Nat} {e:TypeId} {size n:Nat} {v v' u:Value} {xs:List Value} (h:Apart v u) (hv:v'.ownBlock=v.ownBlock∨v'.ownBlock=some w.heap.size) (hu:w.ownsRow base e size u n xs):Apart v' u:=by
 rcases hv with hv|hv
 · unfold Apart at *;rw [hv];exact h
 · refine .inr (fun e=>?_)
   have:=(hu.lt _ (e.symm.trans hv)).2
   omega
end Go.Proofs.YtebkniakflhhkaaGreatDoor
