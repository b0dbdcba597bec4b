import Derived.Deep.AppendLies
import Derived.Deep.DeepCutAuto
import Derived.Deep.OwnRows
import Derived.Great.BuildSlice
import Derived.Laws.AppendOwnNone
import Derived.Lib.SmallJoins
import Derived.Maps.OwnIn
import Derived.RangeFuncNested
import Derived.Shelf.SlIterI.Nil
import Derived.Shelf.Slices.Reverse
import Derived.Shelf.SortM.Plain
import Derived.Shelf.SortM.SortNone
import Derived.Sort.OwnSortedInts
import Derived.Test.YtebkniakflhhkaaGreatDoorAESpec
import Derived.Test.YtebkniakflhhkaaGreatDoorAEWays
import Derived.Test.YtebkniakflhhkaaGreatDoorAEFitM
set_option linter.unusedSimpArgs false
set_option linter.unusedVariables false
namespace Go.Proofs.YtebkniakflhhkaaGreatDoor
theorem isStr_yes {f t c:Int} (h:0≤f∧f<t∧t≤c):isStr f t c=true:=by simp [isStr,h]
theorem chkP_zero {a b:Otl} {p:Prg} (h1:chkO a=0) (h2:chkO b=0) (h3:0≤p.af∧p.af<p.at2∧p.at2≤a.c) (h4:0≤p.bf∧p.bf<p.bt∧p.bt≤b.c) (h5:p.at2-p.af=p.bt-p.bf):chkP a b p=0:=by
 unfold chkP
 have h6:chkOO a b=0:=by unfold chkOO;rw [if_neg (by simpa using h1),h2]
 rw [if_neg (by simpa using h6),if_neg (by rw [isStr_yes h3];simp),if_neg (by rw [isStr_yes h4];simp),if_neg (by simpa using h5)]
theorem asked_zero {a b:Otl} {p:Prg} (h1:chkP a b p=0) (h2:a.ws.length+b.ws.length≤400) (h3:a.ts.length+b.ts.length≤400):asked a b p=0:=by
 unfold asked
 rw [if_neg (by simpa using h1),if_neg]
 simp only [large,Bool.or_eq_true,decide_eq_true_eq,not_or]
 omega
def prAt (s:Int) (i j:Nat):Prg:=⟨i,i+s,j,j+s⟩
def pairsL (c d s:Int):List Prg:=if s<1 then [] else (List.range (c-s+1).toNat).flatMap fun i=>(List.range (d-s+1).toNat).map fun j=>prAt s i j
def meetL (a b:Otl) (s:Int):List Prg:=(pairsL a.c b.c s).filter (meetsB a b)
def longN (a b:Otl):Nat→Nat
 | 0=>0
 | n+1=>if (meetL a b ((n+1:Nat):Int)).isEmpty then longN a b n else n+1
def mostN (a b:Otl):Nat:=(min a.c b.c).toNat
def longV (a b:Otl):Int × Int:=if both a b=0 then ((longN a b (mostN a b):Nat),0) else (0,both a b)
def allL (a b:Otl) (n:Nat):List Prg:=(List.range n).flatMap fun (k:Nat)=>meetL a b ((k:Int)+1)
theorem allL_succ (a b:Otl) (n:Nat):allL a b (n+1)=allL a b n++meetL a b ((n:Int)+1):=by
 unfold allL
 rw [List.range_succ,List.flatMap_append]
 simp
def befP (p:Prg):Prg:=⟨p.af-1,p.at2,p.bf,p.bt+1⟩
def behP (p:Prg):Prg:=⟨p.af,p.at2+1,p.bf-1,p.bt⟩
def topB (M:List Prg) (p:Prg):Bool:=decide (befP p ∉ M)&&decide (behP p ∉ M)
theorem mem_pairsL {c d s:Int} {p:Prg}:p∈pairsL c d s ↔ 1≤s∧0≤p.af∧p.at2=p.af+s∧p.at2≤c∧0≤p.bf∧p.bt=p.bf+s∧p.bt≤d:=by
 unfold pairsL
 split
 · rename_i h
   constructor
   · intro h2;simp at h2
   · rintro ⟨h1,-⟩;omega
 · rename_i h
   simp only [List.mem_flatMap,List.mem_range,List.mem_map]
   constructor
   · rintro ⟨i,hi,j,hj,rfl⟩
     simp only [prAt]
     refine ⟨by omega,by omega,trivial,by omega,by omega,trivial,by omega⟩
   · rintro ⟨h1,h2,h3,h4,h5,h6,h7⟩
     refine ⟨p.af.toNat,by omega,p.bf.toNat,by omega,?_⟩
     obtain ⟨x,y,z,t⟩:=p
     simp only [prAt] at *
     simp only [Prg.mk.injEq]
     omega
theorem pairsL_chkP {a b:Otl} {s:Int} (ha:chkO a=0) (hb:chkO b=0) {p:Prg} (h:p∈pairsL a.c b.c s):chkP a b p=0:=by
 obtain ⟨h1,h2,h3,h4,h5,h6,h7⟩:=mem_pairsL.1 h
 exact chkP_zero ha hb ⟨by omega,by omega,by omega⟩ ⟨by omega,by omega,by omega⟩ (by omega)
theorem pairsL_of_chkP {a b:Otl} {p:Prg} (h:chkP a b p=0):p∈pairsL a.c b.c (p.at2-p.af):=by
 obtain ⟨oa,ob,sa,sb,hk⟩:=chkP_ok h
 exact mem_pairsL.2 ⟨by omega,by omega,by omega,by omega,by omega,by omega,by omega⟩
theorem both_asked {a b:Otl} (h:both a b=0) {p:Prg} (hp:chkP a b p=0):asked a b p=0:=by
 obtain ⟨h1,h2,h3,h4⟩:=both_ok h
 exact asked_zero hp h3 h4
theorem mem_meetL {a b:Otl} {s:Int} {p:Prg}:p∈meetL a b s ↔ p∈pairsL a.c b.c s∧meetsB a b p=true:=by simp [meetL]
theorem mem_allL {a b:Otl} {n:Nat} (ha:chkO a=0) (hb:chkO b=0) {p:Prg}:p∈allL a b n ↔ chkP a b p=0∧p.at2-p.af≤n∧meetsB a b p=true:=by
 unfold allL
 simp only [List.mem_flatMap,List.mem_range,mem_meetL]
 constructor
 · rintro ⟨k,hk,h1,h2⟩
   refine ⟨pairsL_chkP ha hb h1,?_,h2⟩
   obtain ⟨-,-,h3,-⟩:=mem_pairsL.1 h1
   omega
 · rintro ⟨h1,h2,h3⟩
   obtain ⟨oa,ob,sa,sb,hk⟩:=chkP_ok h1
   refine ⟨(p.at2-p.af-1).toNat,by omega,?_,h3⟩
   have h4:=pairsL_of_chkP h1
   rwa [show (((p.at2-p.af-1).toNat:Nat):Int)+1=p.at2-p.af by omega]
end Go.Proofs.YtebkniakflhhkaaGreatDoor
