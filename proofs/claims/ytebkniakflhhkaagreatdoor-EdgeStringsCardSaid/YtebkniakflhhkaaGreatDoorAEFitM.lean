import Derived.Deep.OwnRows
import Derived.Test.YtebkniakflhhkaaGreatDoorAJoined
import Derived.Deep.DeepCutAuto
import Derived.Deep.RegionHeld3
import Derived.Deep.WholeRow
import Derived.Great.BuildSlice
import Derived.Lib.Hide
import Derived.LoopNIn
import Derived.OwnWalkIn
import Derived.RangeFuncBound
import Derived.RangeFuncNested
import Derived.Shelf.Abstract
import Derived.Sort.CutIn
import Derived.Sort.QuietIn
import Derived.WalkLawsBesides
import Derived.WalkSpells
import Derived.Test.YtebkniakflhhkaaGreatDoorANum
import Derived.Laws.AppendOwnNone
import Derived.Lib.SmallJoins
import Derived.Maps.OwnIn
import Derived.Shelf.SlIterI.Nil
import Derived.Shelf.Slices.Reverse
import Derived.Shelf.SortM.Plain
import Derived.Shelf.SortM.SortNone
import Derived.Sort.OwnSortedInts
import Derived.Test.YtebkniakflhhkaaGreatDoorAESpec
set_option linter.unusedSimpArgs false
set_option linter.unusedVariables false
namespace Go.Proofs.YtebkniakflhhkaaGreatDoor
open Go.RowKit
def IsWalk (l:List Bnd):List Nat→Int→Int→Int→Prop
 | [],a,b,s=>a=b∧s=0
 | i::r,a,b,s=>∃ c,l[i]?=some c∧c.f=a∧IsWalk l r c.t b (s-c.m)
theorem IsWalk.split {l:List Bnd}:∀ {r1 r2:List Nat} {a b s:Int},IsWalk l (r1++r2) a b s→∃ c s1,IsWalk l r1 a c s1∧IsWalk l r2 c b (s-s1)
 | [],r2,a,b,s,h=>⟨a,0,⟨rfl,rfl⟩,by rw [Int.sub_zero];exact h⟩
 | i::r1,r2,a,b,s,h=>by
  obtain ⟨x,hx,hf,h⟩:=h
  obtain ⟨c,s1,h1,h2⟩:=IsWalk.split h
  exact ⟨c,s1+x.m,⟨x,hx,hf,by rw [show s1+x.m-x.m=s1 from by omega];exact h1⟩,by rw [show s-(s1+x.m)=s-x.m-s1 from by omega];exact h2⟩
theorem edges60 {p:Int} {l:List Bnd} (hk:chk p l=0):∀ c∈l,0≤c.f∧c.f<p.toNat∧0≤c.t∧c.t<p.toNat∧c.f≠c.t∧-1000000≤c.m∧c.m≤1000000:=fun c hc=>by
 obtain ⟨h1,h2,_,h⟩:=chk_ok hk
 have:=of_decide_eq_true (h c hc)
 omega
def revB (b:Bnd):Bnd:=⟨b.t,b.f,b.m,b.b⟩
def revL (l:List Bnd):List Bnd:=l.map revB
end Go.Proofs.YtebkniakflhhkaaGreatDoor
/- ends of gauge: both ends, in a pair of arrays. -/
namespace Go.Proofs.YtebkniakflhhkaaGreatDoor
open Go.RowKit
end Go.Proofs.YtebkniakflhhkaaGreatDoor
/- Two pairs of arrays, compared. -/
namespace Go.Proofs.YtebkniakflhhkaaGreatDoor
open Go.RowKit
end Go.Proofs.YtebkniakflhhkaaGreatDoor
/- Changed of gauge. -/
namespace Go.Proofs.YtebkniakflhhkaaGreatDoor
open Go.RowKit
theorem chk_rev {p:Int} {l:List Bnd} (hk:chk p l=0):chk p (revL l)=0:=by
 obtain ⟨h1,h2,h3,h4⟩:=chk_ok hk
 unfold chk
 rw [if_neg (by simp [revL];omega),if_neg (by omega),if_pos]
 rw [List.all_eq_true]
 intro x hx
 obtain ⟨c,hc,rfl⟩:=List.mem_map.1 hx
 have:=of_decide_eq_true (h4 c hc)
 exact decide_eq_true (by simp only [revB];omega)
def slv (P:Int) (l:List Bnd):Bool:=(settle l P.toNat zeros).isSome
section
variable {P:Int} {l:List Bnd} {a b:Nat} (hk:chk P l=0) (hs:slv P l=true) (ha:a<P.toNat) (hb:b<P.toNat)
include hk hs ha hb
end
def jnt (n x lo hi:Int) (la lb:List Bnd):List Bnd:=la++lb.map fun c=>⟨ren n x lo hi c.f,ren n x lo hi c.t,c.m,c.b⟩
theorem wayL_jnt (a b:Otl) (p:Prg):wayL a b p=jnt (a.c+1) p.af p.bf p.bt a.ws (revL b.ws):=by
 unfold wayL jnt revL
 rw [List.map_map]
 rfl
theorem turnL_jnt (a b:Otl) (p:Prg):turnL a b p=jnt a.c p.af p.bf (p.bt-1) a.ts b.ts:=rfl
structure Jn (n Q x lo hi:Int):Prop where
 l0:0≤lo
 l1:lo≤hi
 l2:hi<Q
 x0:0≤x
 x1:x+(hi-lo)<n
theorem ren_in {n Q x lo hi q:Int} (h:Jn n Q x lo hi) (h0:0≤q) (h1:q<Q):0≤ren n x lo hi q∧ren n x lo hi q<n+Q-(hi-lo+1):=by
 obtain ⟨l0,l1,l2,x0,x1⟩:=h
 unfold ren
 split
 · omega
 · split<;>omega
theorem ren_inj {n Q x lo hi q r:Int} (h:Jn n Q x lo hi) (h0:0≤q) (h1:q<Q) (h2:0≤r) (h3:r<Q) (hn:q≠r):ren n x lo hi q≠ren n x lo hi r:=by
 obtain ⟨l0,l1,l2,x0,x1⟩:=h
 unfold ren
 split<;>split<;>(try split)<;>(try split)<;>omega
theorem chk_zero {P:Int} {l:List Bnd} (h1:1≤P) (h2:P≤60) (h3:l.length≤400) (h4:∀ x∈l,okBnd (P-1) x=true):chk P l=0:=by
 unfold chk
 rw [if_neg (by omega),if_neg (by omega),if_pos (List.all_eq_true.2 h4)]
theorem jnt_chk {n Q x lo hi:Int} {la lb:List Bnd} (h:Jn n Q x lo hi) (ha:chk n la=0) (hb:chk Q lb=0) (hl:la.length+lb.length≤400) (hs:n+Q-(hi-lo+1)≤60) :
 chk (n+Q-(hi-lo+1)) (jnt n x lo hi la lb)=0:=by
 obtain ⟨a1,a2,-,a4⟩:=chk_ok ha
 obtain ⟨b1,b2,-,b4⟩:=chk_ok hb
 have hh:=h
 obtain ⟨l0,l1,l2,x0,x1⟩:=h
 refine chk_zero (by omega) hs (by simp [jnt];omega) fun c hc=>?_
 unfold jnt at hc
 rcases List.mem_append.1 hc with hc|hc
 · have:=a4 c hc
   simp only [okBnd,decide_eq_true_eq] at this ⊢
   omega
 · obtain ⟨d,hd,rfl⟩:=List.mem_map.1 hc
   have hd2:=b4 d hd
   simp only [okBnd,decide_eq_true_eq] at hd2 ⊢
   have i1:=ren_in hh (q:=d.f) (by omega) (by omega)
   have i2:=ren_in hh (q:=d.t) (by omega) (by omega)
   have i3:=ren_inj hh (q:=d.f) (r:=d.t) (by omega) (by omega) (by omega) (by omega) (by omega)
   omega
def wayS (a b:Otl) (p:Prg):Bool:=slv (wayP a b p) (wayL a b p)
def turnS (a b:Otl) (p:Prg):Bool:=slv (turnP a b p) (turnL a b p)
def meetsB (a b:Otl) (p:Prg):Bool:=wayS a b p&&turnS a b p
section
variable {a b:Otl} {p:Prg} (h:asked a b p=0)
include h
theorem way_jn:Jn (a.c+1) (b.c+1) p.af p.bf p.bt∧chk (a.c+1) a.ws=0∧chk (b.c+1) (revL b.ws)=0∧chk (b.c+1) b.ws=0:=by
 obtain ⟨h1,h2,h3⟩:=asked_ok h
 obtain ⟨oa,ob,sa,sb,hk⟩:=chkP_ok h1
 obtain ⟨a1,a2,a3,a4⟩:=chkO_ok oa
 obtain ⟨b1,b2,b3,b4⟩:=chkO_ok ob
 exact ⟨⟨by omega,by omega,by omega,by omega,by omega⟩,a3,chk_rev b3,b3⟩
theorem turn_jn:Jn a.c b.c p.af p.bf (p.bt-1)∧chk a.c a.ts=0∧chk b.c b.ts=0:=by
 obtain ⟨h1,h2,h3⟩:=asked_ok h
 obtain ⟨oa,ob,sa,sb,hk⟩:=chkP_ok h1
 obtain ⟨a1,a2,a3,a4⟩:=chkO_ok oa
 obtain ⟨b1,b2,b3,b4⟩:=chkO_ok ob
 exact ⟨⟨by omega,by omega,by omega,by omega,by omega⟩,a4,b4⟩
theorem wayL_chk:chk (wayP a b p) (wayL a b p)=0:=by
 obtain ⟨j,c1,c2,-⟩:=way_jn h
 obtain ⟨h1,h2,h3⟩:=asked_ok h
 obtain ⟨oa,ob,sa,sb,hk⟩:=chkP_ok h1
 obtain ⟨a1,a2,a3,a4⟩:=chkO_ok oa
 obtain ⟨b1,b2,b3,b4⟩:=chkO_ok ob
 rw [wayL_jnt,show wayP a b p=a.c+1+(b.c+1)-(p.bt-p.bf+1) by unfold wayP;omega]
 exact jnt_chk j c1 c2 (by simp [revL];omega) (by omega)
theorem turnL_chk:chk (turnP a b p) (turnL a b p)=0:=by
 obtain ⟨j,c1,c2⟩:=turn_jn h
 obtain ⟨h1,h2,h3⟩:=asked_ok h
 obtain ⟨oa,ob,sa,sb,hk⟩:=chkP_ok h1
 obtain ⟨a1,a2,a3,a4⟩:=chkO_ok oa
 obtain ⟨b1,b2,b3,b4⟩:=chkO_ok ob
 rw [turnL_jnt,show turnP a b p=a.c+b.c-(p.bt-1-p.bf+1) by unfold turnP;omega]
 exact jnt_chk j c1 c2 (by omega) (by omega)
end
end Go.Proofs.YtebkniakflhhkaaGreatDoor
