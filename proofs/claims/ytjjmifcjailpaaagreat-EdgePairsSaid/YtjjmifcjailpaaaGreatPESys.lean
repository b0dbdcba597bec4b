import Derived.Test.YtjjmifcjailpaaaGreatPMem
set_option linter.unusedSimpArgs false
set_option linter.unusedVariables false
namespace Go.Proofs.YtjjmifcjailpaaaGreat
open Go.Lib (hid)
structure Otl where
 c:Int
 ws:List Bnd
 ts:List Bnd
deriving DecidableEq,Inhabited
structure Prg where
 af:Int
 at2:Int
 bf:Int
 bt:Int
deriving DecidableEq,Inhabited
def chkO (o:Otl):Int:=if o.c<3∨16<o.c then 1 else if chk (o.c+1) o.ws≠0 then chk (o.c+1) o.ws else chk o.c o.ts
def isStr (f t c:Int):Bool:=decide (0≤f)&&decide (f<t)&&decide (t≤c)
def chkOO (a b:Otl):Int:=if chkO a≠0 then chkO a else chkO b
def chkP (a b:Otl) (p:Prg):Int :=
 if chkOO a b≠0 then chkOO a b else if isStr p.af p.at2 a.c=false then 1 else if isStr p.bf p.bt b.c=false then 1 else if p.at2-p.af≠p.bt-p.bf then 31 else 0
def large (a b:Otl):Bool:=decide (400<a.ws.length+b.ws.length) || decide (400<a.ts.length+b.ts.length)
def asked (a b:Otl) (p:Prg):Int:=if chkP a b p≠0 then chkP a b p else if large a b then 2 else 0
def both (a b:Otl):Int:=if chkOO a b≠0 then chkOO a b else if large a b then 2 else 0
def ren (n x lo hi q:Int):Int:=if q<lo then n+q else if hi<q then n+q-(hi-lo+1) else x+hi-q
def cor (a:Otl) (p:Prg) (q:Int):Int:=ren (a.c+1) p.af p.bf p.bt q
def sid (a:Otl) (p:Prg) (q:Int):Int:=ren a.c p.af p.bf (p.bt-1) q
def wayB (a:Otl) (p:Prg) (x:Bnd):Bnd:=⟨cor a p x.t,cor a p x.f,x.m,x.b⟩
def turnB (a:Otl) (p:Prg) (x:Bnd):Bnd:=⟨sid a p x.f,sid a p x.t,x.m,x.b⟩
def wayL (a b:Otl) (p:Prg):List Bnd:=a.ws++b.ws.map (wayB a p)
def turnL (a b:Otl) (p:Prg):List Bnd:=a.ts++b.ts.map (turnB a p)
def wayP (a b:Otl) (p:Prg):Int:=a.c+b.c+1-(p.at2-p.af)
def turnP (a b:Otl) (p:Prg):Int:=a.c+b.c-(p.at2-p.af)
theorem chkO_ok {o:Otl} (h:chkO o=0):3≤o.c∧o.c≤16∧chk (o.c+1) o.ws=0∧chk o.c o.ts=0:=by
 unfold chkO at h
 split at h
 · cases h
 · split at h
   · rename_i h1 h2;exact absurd h h2
   · rename_i h1 h2;exact ⟨by omega,by omega,by simpa using h2,h⟩
theorem chkOO_ok {a b:Otl} (h:chkOO a b=0):chkO a=0∧chkO b=0:=by
 unfold chkOO at h
 split at h
 · rename_i h1;exact absurd h h1
 · rename_i h1;exact ⟨by simpa using h1,h⟩
theorem isStr_ok {f t c:Int} (h:isStr f t c=true):0≤f∧f<t∧t≤c:=by
 simpa [isStr,and_assoc] using h
theorem chkP_ok {a b:Otl} {p:Prg} (h:chkP a b p=0):chkO a=0∧chkO b=0∧(0≤p.af∧p.af<p.at2∧p.at2≤a.c)∧(0≤p.bf∧p.bf<p.bt∧p.bt≤b.c)∧p.at2-p.af=p.bt-p.bf:=by
 unfold chkP at h
 split at h
 · rename_i h1;exact absurd h h1
 · rename_i h1
   obtain ⟨h2,h3⟩:=chkOO_ok (by simpa using h1)
   split at h
   · cases h
   · rename_i h4
     split at h
     · cases h
     · rename_i h5
       split at h
       · cases h
       · rename_i h6
         exact ⟨h2,h3,isStr_ok (by simpa using h4),isStr_ok (by simpa using h5),by simpa using h6⟩
theorem asked_ok {a b:Otl} {p:Prg} (h:asked a b p=0):chkP a b p=0∧a.ws.length+b.ws.length≤400∧a.ts.length+b.ts.length≤400:=by
 unfold asked at h
 split at h
 · rename_i h1;exact absurd h h1
 · rename_i h1
   split at h
   · cases h
   · rename_i h2
     simp only [large,Bool.or_eq_true,decide_eq_true_eq,not_or] at h2
     exact ⟨by simpa using h1,by omega,by omega⟩
theorem both_ok {a b:Otl} (h:both a b=0):chkO a=0∧chkO b=0∧a.ws.length+b.ws.length≤400∧a.ts.length+b.ts.length≤400:=by
 unfold both at h
 split at h
 · rename_i h1;exact absurd h h1
 · rename_i h1
   split at h
   · cases h
   · rename_i h2
     simp only [large,Bool.or_eq_true,decide_eq_true_eq,not_or] at h2
     obtain ⟨h3,h4⟩:=chkOO_ok (by simpa using h1)
     exact ⟨h3,h4,by omega,by omega⟩
open Go.RowKit
theorem ownWays_any (c:Int) (A B:Option Addr) (n k m j:Nat) (w:World) (hc:-1000000≤c) (hc':c≤1000000) :
 Calls Tryz.prog 93 #[.agg #[.int .i64 c,.slice A n k,.slice B m j],.bool false] w fun e w'=>e=.returned (.agg #[.int .i64 (c+1),.slice A n k])∧Below w.heap.size w w':=by
 go_enter Tryz.func93,Tryz.ntmps93
 go_wp2
 refine bodyPost_ret (v:=.agg #[.int .i64 (c+1),.slice A n k]) (by simp [results,Tryz.results93,go_sem]) rfl ⟨rfl,(by (repeat (first|exact Below.refl _ _|refine Below.drew ?_|refine Below.alloc ?_ (by simp) _)))⟩
theorem ownTurns_any (c:Int) (A B:Option Addr) (n k m j:Nat) (w:World) :
 Calls Tryz.prog 93 #[.agg #[.int .i64 c,.slice A n k,.slice B m j],.bool true] w fun e w'=>e=.returned (.agg #[.int .i64 c,.slice B m j])∧Below w.heap.size w w':=by
 go_enter Tryz.func93,Tryz.ntmps93
 go_wp2
 refine bodyPost_ret (v:=.agg #[.int .i64 c,.slice B m j]) (by simp [results,Tryz.results93,go_sem]) rfl ⟨rfl,(by (repeat (first|exact Below.refl _ _|refine Below.drew ?_|refine Below.alloc ?_ (by simp) _)))⟩
set_option maxRecDepth 100000 in
set_option maxHeartbeats 1000000 in
theorem CheckOutline_any (c:Int) (A B:Option Addr) (n k m j:Nat) (ws ts:List Bnd) (w:World) (h1:RdB w A n k ws) (h2:RdB w B m j ts) (hn:n≤maxLen) (hm:m≤maxLen) :
 Calls Tryz.prog 70 #[.agg #[.int .i64 c,.slice A n k,.slice B m j]] w fun e w'=>e=.returned (.int .i64 (chkO ⟨c,ws,ts⟩))∧Below w.heap.size w w':=by
 have H1:=hid h1;have H2:=hid h2;clear h1 h2
 by_cases h3:3≤c
 · by_cases h16:c≤16
   · obtain ⟨q,hq⟩:∃ q,chkO ⟨c,ws,ts⟩=q:=⟨_,rfl⟩
     rw [hq]
     have HQ:=hid hq;clear hq
     go_enter Tryz.func70,Tryz.ntmps70
     go_wp2
     go_loopw [15] (fun i wr=>(i=.int .i64 0∨(i=.int .i64 1∧chk (c+1) ws=0)∨(i=.int .i64 2∧chk (c+1) ws=0∧chk c ts=0))∧Below (w.heap.size+1) (w.alloc (.cells #[.int .i64 c,.slice A n k,.slice B m j] 24)) wr) (fun i _=>2-(intOf i).toNat)
     case atStart=>exact ⟨.inl rfl,Below.refl _ _⟩
     case round =>
      obtain ⟨hi,hb⟩:=hrel
      have hz:=box_size hb
      have hc0:wr.cell? ⟨w.heap.size,0,none⟩=some (.int .i64 c):=box_cell hb 0
      have hc1:wr.cell? ⟨w.heap.size,1,none⟩=some (.slice A n k):=box_cell hb 1
      have hc2:wr.cell? ⟨w.heap.size,2,none⟩=some (.slice B m j):=box_cell hb 2
      have ho:=box_out hb
      have HB:=hid hb;clear hb
      have hx0:∀ W,(Instr.index 145 (.agg #[.bool false,.bool true]) (.int .i64 0)).run Tryz.prog W=.ok (.bool false) W:=fun W=>by kernel_rfl
      have hx1:∀ W,(Instr.index 145 (.agg #[.bool false,.bool true]) (.int .i64 1)).run Tryz.prog W=.ok (.bool true) W:=fun W=>by kernel_rfl
      rcases hi with rfl|⟨rfl,k1⟩|⟨rfl,k1,k2⟩
      · go_wp2_with fail
        refine (ownWays_any c A B n k m j _ (by omega) (by omega)).mono ?_
        rintro e w2 ⟨rfl,hb2⟩
        go_wp2_with fail
        refine (checkSystem_any (c+1) A n k ws _ (H1.out.below (ho.trans (hb2.mono ho.size))) hn).mono ?_
        rintro e w3 ⟨rfl,hb3⟩
        have a0:=hb2.trans (hb3.mono hb2.size)
        have ho3:=ho.trans (a0.mono ho.size)
        have a1:=HB.out.trans (a0.mono hz)
        clear hb2 hb3 a0
        by_cases hk:chk (c+1) ws=0
        · rw [hk]
          have HK:=hid hk;clear hk
          go_wp2
          go_roundw
          case rel=>exact ⟨.inr (.inl ⟨by go_num,HK.out⟩),a1⟩
          case measure=>simp [intOf]
        · have hne:(chk (c+1) ws != 0)=true:=by simpa using hk
          have HK:=hid hk;clear hk
          have hq:chk (c+1) ws=q:=by rw [← HQ.out];unfold chkO;rw [if_neg (by simp;omega),if_pos HK.out]
          rw [hq] at hne ⊢
          clear hq
          go_wp2
          go_ret
          exact ⟨rfl,ho3⟩
      · have K1:=hid k1;clear k1
        go_wp2_with fail
        refine (ownTurns_any c A B n k m j _).mono ?_
        rintro e w2 ⟨rfl,hb2⟩
        go_wp2_with fail
        refine (checkSystem_any c B m j ts _ (H2.out.below (ho.trans (hb2.mono ho.size))) hm).mono ?_
        rintro e w3 ⟨rfl,hb3⟩
        have a0:=hb2.trans (hb3.mono hb2.size)
        have ho3:=ho.trans (a0.mono ho.size)
        have a1:=HB.out.trans (a0.mono hz)
        clear hb2 hb3 a0
        by_cases hk:chk c ts=0
        · rw [hk]
          have HK:=hid hk;clear hk
          go_wp2
          go_roundw
          case rel=>exact ⟨.inr (.inr ⟨by go_num,K1.out,HK.out⟩),a1⟩
          case measure=>simp [intOf]
        · have hne:(chk c ts != 0)=true:=by simpa using hk
          have HK:=hid hk;clear hk
          have hq:chk c ts=q:=by rw [← HQ.out];unfold chkO;rw [if_neg (by simp;omega),if_neg (by simpa using K1.out)]
          rw [hq] at hne ⊢
          clear hq
          go_wp2
          go_ret
          exact ⟨rfl,ho3⟩
      · have K1:=hid k1;have K2:=hid k2;clear k1 k2
        obtain rfl:q=0:=by rw [← HQ.out];unfold chkO;rw [if_neg (by simp;omega),if_neg (by simpa using K1.out)];exact K2.out
        go_wp2
        go_ret
        exact ⟨rfl,ho⟩
   · go_enter Tryz.func70,Tryz.ntmps70
     go_wp2
     go_ret
     exact ⟨ret_int (by unfold chkO;rw [if_pos (by simp;omega)]),(by (repeat (first|exact Below.refl _ _|refine Below.drew ?_|refine Below.alloc ?_ (by simp) _)))⟩
 · go_enter Tryz.func70,Tryz.ntmps70
   go_wp2
   go_ret
   exact ⟨ret_int (by unfold chkO;rw [if_pos (by simp;omega)]),(by (repeat (first|exact Below.refl _ _|refine Below.drew ?_|refine Below.alloc ?_ (by simp) _)))⟩
end Go.Proofs.YtjjmifcjailpaaaGreat
