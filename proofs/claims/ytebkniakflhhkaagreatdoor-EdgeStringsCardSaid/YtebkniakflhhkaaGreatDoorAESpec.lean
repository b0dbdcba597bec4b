import Derived.Test.YtebkniakflhhkaaGreatDoorAMem
set_option linter.unusedSimpArgs false
set_option linter.unusedVariables false
namespace Go.Proofs.YtebkniakflhhkaaGreatDoor
structure Otl where
 c:Int
 ws:List Bnd
 ts:List Bnd
deriving DecidableEq,Inhabited
structure Prg where
 af:Int
 at2:Int
 bf:Int
 bt:Int
deriving DecidableEq,Inhabited
def chkO (o:Otl):Int:=if o.c<3∨16<o.c then 1 else if chk (o.c+1) o.ws≠0 then chk (o.c+1) o.ws else chk o.c o.ts
def isStr (f t c:Int):Bool:=decide (0≤f)&&decide (f<t)&&decide (t≤c)
def chkOO (a b:Otl):Int:=if chkO a≠0 then chkO a else chkO b
def chkP (a b:Otl) (p:Prg):Int :=
 if chkOO a b≠0 then chkOO a b else if isStr p.af p.at2 a.c=false then 1 else if isStr p.bf p.bt b.c=false then 1 else if p.at2-p.af≠p.bt-p.bf then 31 else 0
def large (a b:Otl):Bool:=decide (400<a.ws.length+b.ws.length) || decide (400<a.ts.length+b.ts.length)
def asked (a b:Otl) (p:Prg):Int:=if chkP a b p≠0 then chkP a b p else if large a b then 2 else 0
def both (a b:Otl):Int:=if chkOO a b≠0 then chkOO a b else if large a b then 2 else 0
def ren (n x lo hi q:Int):Int:=if q<lo then n+q else if hi<q then n+q-(hi-lo+1) else x+hi-q
def cor (a:Otl) (p:Prg) (q:Int):Int:=ren (a.c+1) p.af p.bf p.bt q
def sid (a:Otl) (p:Prg) (q:Int):Int:=ren a.c p.af p.bf (p.bt-1) q
def wayB (a:Otl) (p:Prg) (x:Bnd):Bnd:=⟨cor a p x.t,cor a p x.f,x.m,x.b⟩
def turnB (a:Otl) (p:Prg) (x:Bnd):Bnd:=⟨sid a p x.f,sid a p x.t,x.m,x.b⟩
def wayL (a b:Otl) (p:Prg):List Bnd:=a.ws++b.ws.map (wayB a p)
def turnL (a b:Otl) (p:Prg):List Bnd:=a.ts++b.ts.map (turnB a p)
def wayP (a b:Otl) (p:Prg):Int:=a.c+b.c+1-(p.at2-p.af)
def turnP (a b:Otl) (p:Prg):Int:=a.c+b.c-(p.at2-p.af)
theorem chkO_ok {o:Otl} (h:chkO o=0):3≤o.c∧o.c≤16∧chk (o.c+1) o.ws=0∧chk o.c o.ts=0:=by
 unfold chkO at h
 split at h
 · cases h
 · split at h
   · rename_i h1 h2;exact absurd h h2
   · rename_i h1 h2;exact ⟨by omega,by omega,by simpa using h2,h⟩
theorem chkOO_ok {a b:Otl} (h:chkOO a b=0):chkO a=0∧chkO b=0:=by
 unfold chkOO at h
 split at h
 · rename_i h1;exact absurd h h1
 · rename_i h1;exact ⟨by simpa using h1,h⟩
theorem isStr_ok {f t c:Int} (h:isStr f t c=true):0≤f∧f<t∧t≤c:=by
 simpa [isStr,and_assoc] using h
theorem chkP_ok {a b:Otl} {p:Prg} (h:chkP a b p=0):chkO a=0∧chkO b=0∧(0≤p.af∧p.af<p.at2∧p.at2≤a.c)∧(0≤p.bf∧p.bf<p.bt∧p.bt≤b.c)∧p.at2-p.af=p.bt-p.bf:=by
 unfold chkP at h
 split at h
 · rename_i h1;exact absurd h h1
 · rename_i h1
   obtain ⟨h2,h3⟩:=chkOO_ok (by simpa using h1)
   split at h
   · cases h
   · rename_i h4
     split at h
     · cases h
     · rename_i h5
       split at h
       · cases h
       · rename_i h6
         exact ⟨h2,h3,isStr_ok (by simpa using h4),isStr_ok (by simpa using h5),by simpa using h6⟩
theorem asked_ok {a b:Otl} {p:Prg} (h:asked a b p=0):chkP a b p=0∧a.ws.length+b.ws.length≤400∧a.ts.length+b.ts.length≤400:=by
 unfold asked at h
 split at h
 · rename_i h1;exact absurd h h1
 · rename_i h1
   split at h
   · cases h
   · rename_i h2
     simp only [large,Bool.or_eq_true,decide_eq_true_eq,not_or] at h2
     exact ⟨by simpa using h1,by omega,by omega⟩
theorem both_ok {a b:Otl} (h:both a b=0):chkO a=0∧chkO b=0∧a.ws.length+b.ws.length≤400∧a.ts.length+b.ts.length≤400:=by
 unfold both at h
 split at h
 · rename_i h1;exact absurd h h1
 · rename_i h1
   split at h
   · cases h
   · rename_i h2
     simp only [large,Bool.or_eq_true,decide_eq_true_eq,not_or] at h2
     obtain ⟨h3,h4⟩:=chkOO_ok (by simpa using h1)
     exact ⟨h3,h4,by omega,by omega⟩
end Go.Proofs.YtebkniakflhhkaaGreatDoor
