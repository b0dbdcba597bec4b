import Derived.Test.YtjjmifcjailpaaaGreatUMem
set_option maxHeartbeats 2000000
set_option linter.unusedSimpArgs false
set_option linter.unusedVariables false
namespace Go.Proofs.YtjjmifcjailpaaaGreat
open Go.Lib (hid)
structure Otl where
 c:Int
 ws:List Bnd
 ts:List Bnd
deriving DecidableEq,Inhabited
structure Prg where
 af:Int
 at2:Int
 bf:Int
 bt:Int
deriving DecidableEq,Inhabited
def chkO (o:Otl):Int:=if o.c<3∨16<o.c then 1 else if chk (o.c+1) o.ws≠0 then chk (o.c+1) o.ws else chk o.c o.ts
def isStr (f t c:Int):Bool:=decide (0≤f)&&decide (f<t)&&decide (t≤c)
def chkOO (a b:Otl):Int:=if chkO a≠0 then chkO a else chkO b
def chkP (a b:Otl) (p:Prg):Int :=
 if chkOO a b≠0 then chkOO a b else if isStr p.af p.at2 a.c=false then 1 else if isStr p.bf p.bt b.c=false then 1 else if p.at2-p.af≠p.bt-p.bf then 31 else 0
def large (a b:Otl):Bool:=decide (400<a.ws.length+b.ws.length) || decide (400<a.ts.length+b.ts.length)
def asked (a b:Otl) (p:Prg):Int:=if chkP a b p≠0 then chkP a b p else if large a b then 2 else 0
def both (a b:Otl):Int:=if chkOO a b≠0 then chkOO a b else if large a b then 2 else 0
def ren (n x lo hi q:Int):Int:=if q<lo then n+q else if hi<q then n+q-(hi-lo+1) else x+hi-q
def cor (a:Otl) (p:Prg) (q:Int):Int:=ren (a.c+1) p.af p.bf p.bt q
def sid (a:Otl) (p:Prg) (q:Int):Int:=ren a.c p.af p.bf (p.bt-1) q
def wayB (a:Otl) (p:Prg) (x:Bnd):Bnd:=⟨cor a p x.t,cor a p x.f,x.m,x.b⟩
def turnB (a:Otl) (p:Prg) (x:Bnd):Bnd:=⟨sid a p x.f,sid a p x.t,x.m,x.b⟩
def wayL (a b:Otl) (p:Prg):List Bnd:=a.ws++b.ws.map (wayB a p)
def turnL (a b:Otl) (p:Prg):List Bnd:=a.ts++b.ts.map (turnB a p)
def wayP (a b:Otl) (p:Prg):Int:=a.c+b.c+1-(p.at2-p.af)
def turnP (a b:Otl) (p:Prg):Int:=a.c+b.c-(p.at2-p.af)
theorem chkO_ok {o:Otl} (h:chkO o=0):3≤o.c∧o.c≤16∧chk (o.c+1) o.ws=0∧chk o.c o.ts=0:=by
 unfold chkO at h
 split at h
 · cases h
 · split at h
   · rename_i h1 h2;exact absurd h h2
   · rename_i h1 h2;exact ⟨by omega,by omega,by simpa using h2,h⟩
theorem chkOO_ok {a b:Otl} (h:chkOO a b=0):chkO a=0∧chkO b=0:=by
 unfold chkOO at h
 split at h
 · rename_i h1;exact absurd h h1
 · rename_i h1;exact ⟨by simpa using h1,h⟩
theorem isStr_ok {f t c:Int} (h:isStr f t c=true):0≤f∧f<t∧t≤c:=by
 simpa [isStr,and_assoc] using h
theorem chkP_ok {a b:Otl} {p:Prg} (h:chkP a b p=0):chkO a=0∧chkO b=0∧(0≤p.af∧p.af<p.at2∧p.at2≤a.c)∧(0≤p.bf∧p.bf<p.bt∧p.bt≤b.c)∧p.at2-p.af=p.bt-p.bf:=by
 unfold chkP at h
 split at h
 · rename_i h1;exact absurd h h1
 · rename_i h1
   obtain ⟨h2,h3⟩:=chkOO_ok (by simpa using h1)
   split at h
   · cases h
   · rename_i h4
     split at h
     · cases h
     · rename_i h5
       split at h
       · cases h
       · rename_i h6
         exact ⟨h2,h3,isStr_ok (by simpa using h4),isStr_ok (by simpa using h5),by simpa using h6⟩
theorem asked_ok {a b:Otl} {p:Prg} (h:asked a b p=0):chkP a b p=0∧a.ws.length+b.ws.length≤400∧a.ts.length+b.ts.length≤400:=by
 unfold asked at h
 split at h
 · rename_i h1;exact absurd h h1
 · rename_i h1
   split at h
   · cases h
   · rename_i h2
     simp only [large,Bool.or_eq_true,decide_eq_true_eq,not_or] at h2
     exact ⟨by simpa using h1,by omega,by omega⟩
theorem both_ok {a b:Otl} (h:both a b=0):chkO a=0∧chkO b=0∧a.ws.length+b.ws.length≤400∧a.ts.length+b.ts.length≤400:=by
 unfold both at h
 split at h
 · rename_i h1;exact absurd h h1
 · rename_i h1
   split at h
   · cases h
   · rename_i h2
     simp only [large,Bool.or_eq_true,decide_eq_true_eq,not_or] at h2
     obtain ⟨h3,h4⟩:=chkOO_ok (by simpa using h1)
     exact ⟨h3,h4,by omega,by omega⟩
open Go.RowKit
theorem ownWays_any (c:Int) (A B:Option Addr) (n k m j:Nat) (w:World) (hc:-1000000≤c) (hc':c≤1000000) :
 Calls Tryz.prog 93 #[.agg #[.int .i64 c,.slice A n k,.slice B m j],.bool false] w fun e w'=>e=.returned (.agg #[.int .i64 (c+1),.slice A n k])∧Below w.heap.size w w':=by
 go_enter Tryz.func93,Tryz.ntmps93
 go_wp2
 refine bodyPost_ret (v:=.agg #[.int .i64 (c+1),.slice A n k]) (by simp [results,Tryz.results93,go_sem]) rfl ⟨rfl,(by (repeat (first|exact Below.refl _ _|refine Below.drew ?_|refine Below.alloc ?_ (by simp) _)))⟩
theorem ownTurns_any (c:Int) (A B:Option Addr) (n k m j:Nat) (w:World) :
 Calls Tryz.prog 93 #[.agg #[.int .i64 c,.slice A n k,.slice B m j],.bool true] w fun e w'=>e=.returned (.agg #[.int .i64 c,.slice B m j])∧Below w.heap.size w w':=by
 go_enter Tryz.func93,Tryz.ntmps93
 go_wp2
 refine bodyPost_ret (v:=.agg #[.int .i64 c,.slice B m j]) (by simp [results,Tryz.results93,go_sem]) rfl ⟨rfl,(by (repeat (first|exact Below.refl _ _|refine Below.drew ?_|refine Below.alloc ?_ (by simp) _)))⟩
set_option maxRecDepth 100000 in
theorem CheckOutline_any (c:Int) (A B:Option Addr) (n k m j:Nat) (ws ts:List Bnd) (w:World) (h1:RdB w A n k ws) (h2:RdB w B m j ts) (hn:n≤maxLen) (hm:m≤maxLen) :
 Calls Tryz.prog 70 #[.agg #[.int .i64 c,.slice A n k,.slice B m j]] w fun e w'=>e=.returned (.int .i64 (chkO ⟨c,ws,ts⟩))∧Below w.heap.size w w':=by
 have H1:=hid h1;have H2:=hid h2;clear h1 h2
 by_cases h3:3≤c
 · by_cases h16:c≤16
   · obtain ⟨q,hq⟩:∃ q,chkO ⟨c,ws,ts⟩=q:=⟨_,rfl⟩
     rw [hq]
     have HQ:=hid hq;clear hq
     go_enter Tryz.func70,Tryz.ntmps70
     go_wp2
     go_loopw [15] (fun i wr=>(i=.int .i64 0∨(i=.int .i64 1∧chk (c+1) ws=0)∨(i=.int .i64 2∧chk (c+1) ws=0∧chk c ts=0))∧Below (w.heap.size+1) (w.alloc (.cells #[.int .i64 c,.slice A n k,.slice B m j] 24)) wr) (fun i _=>2-(intOf i).toNat)
     case atStart=>exact ⟨.inl rfl,Below.refl _ _⟩
     case round =>
      obtain ⟨hi,hb⟩:=hrel
      have hz:=box_size hb
      have hc0:wr.cell? ⟨w.heap.size,0,none⟩=some (.int .i64 c):=box_cell hb 0
      have hc1:wr.cell? ⟨w.heap.size,1,none⟩=some (.slice A n k):=box_cell hb 1
      have hc2:wr.cell? ⟨w.heap.size,2,none⟩=some (.slice B m j):=box_cell hb 2
      have ho:=box_out hb
      have HB:=hid hb;clear hb
      have hx0:∀ W,(Instr.index 145 (.agg #[.bool false,.bool true]) (.int .i64 0)).run Tryz.prog W=.ok (.bool false) W:=fun W=>by kernel_rfl
      have hx1:∀ W,(Instr.index 145 (.agg #[.bool false,.bool true]) (.int .i64 1)).run Tryz.prog W=.ok (.bool true) W:=fun W=>by kernel_rfl
      rcases hi with rfl|⟨rfl,k1⟩|⟨rfl,k1,k2⟩
      · go_wp2_with fail
        refine (ownWays_any c A B n k m j _ (by omega) (by omega)).mono ?_
        rintro e w2 ⟨rfl,hb2⟩
        go_wp2_with fail
        refine (checkSystem_any (c+1) A n k ws _ (H1.out.below (ho.trans (hb2.mono ho.size))) hn).mono ?_
        rintro e w3 ⟨rfl,hb3⟩
        have a0:=hb2.trans (hb3.mono hb2.size)
        have ho3:=ho.trans (a0.mono ho.size)
        have a1:=HB.out.trans (a0.mono hz)
        clear hb2 hb3 a0
        by_cases hk:chk (c+1) ws=0
        · rw [hk]
          have HK:=hid hk;clear hk
          go_wp2
          go_roundw
          case rel=>exact ⟨.inr (.inl ⟨by go_num,HK.out⟩),a1⟩
          case measure=>simp [intOf]
        · have hne:(chk (c+1) ws != 0)=true:=by simpa using hk
          have HK:=hid hk;clear hk
          have hq:chk (c+1) ws=q:=by rw [← HQ.out];unfold chkO;rw [if_neg (by simp;omega),if_pos HK.out]
          rw [hq] at hne ⊢
          clear hq
          go_wp2
          go_ret
          exact ⟨rfl,ho3⟩
      · have K1:=hid k1;clear k1
        go_wp2_with fail
        refine (ownTurns_any c A B n k m j _).mono ?_
        rintro e w2 ⟨rfl,hb2⟩
        go_wp2_with fail
        refine (checkSystem_any c B m j ts _ (H2.out.below (ho.trans (hb2.mono ho.size))) hm).mono ?_
        rintro e w3 ⟨rfl,hb3⟩
        have a0:=hb2.trans (hb3.mono hb2.size)
        have ho3:=ho.trans (a0.mono ho.size)
        have a1:=HB.out.trans (a0.mono hz)
        clear hb2 hb3 a0
        by_cases hk:chk c ts=0
        · rw [hk]
          have HK:=hid hk;clear hk
          go_wp2
          go_roundw
          case rel=>exact ⟨.inr (.inr ⟨by go_num,K1.out,HK.out⟩),a1⟩
          case measure=>simp [intOf]
        · have hne:(chk c ts != 0)=true:=by simpa using hk
          have HK:=hid hk;clear hk
          have hq:chk c ts=q:=by rw [← HQ.out];unfold chkO;rw [if_neg (by simp;omega),if_neg (by simpa using K1.out)]
          rw [hq] at hne ⊢
          clear hq
          go_wp2
          go_ret
          exact ⟨rfl,ho3⟩
      · have K1:=hid k1;have K2:=hid k2;clear k1 k2
        obtain rfl:q=0:=by rw [← HQ.out];unfold chkO;rw [if_neg (by simp;omega),if_neg (by simpa using K1.out)];exact K2.out
        go_wp2
        go_ret
        exact ⟨rfl,ho⟩
   · go_enter Tryz.func70,Tryz.ntmps70
     go_wp2
     go_ret
     exact ⟨ret_int (by unfold chkO;rw [if_pos (by simp;omega)]),(by (repeat (first|exact Below.refl _ _|refine Below.drew ?_|refine Below.alloc ?_ (by simp) _)))⟩
 · go_enter Tryz.func70,Tryz.ntmps70
   go_wp2
   go_ret
   exact ⟨ret_int (by unfold chkO;rw [if_pos (by simp;omega)]),(by (repeat (first|exact Below.refl _ _|refine Below.drew ?_|refine Below.alloc ?_ (by simp) _)))⟩
theorem isStretch_any (f t c:Int) (w:World):Calls Tryz.prog 113 #[.agg #[.int .i64 f,.int .i64 t],.int .i64 c] w fun e w'=>e=.returned (.bool (isStr f t c))∧Below w.heap.size w w':=by
 by_cases h1:0≤f
 · by_cases h2:f<t
   · go_enter Tryz.func113,Tryz.ntmps113
     go_wp2
     go_ret
     exact ⟨by simp [isStr,h1,h2],(by (repeat (first|exact Below.refl _ _|refine Below.drew ?_|refine Below.alloc ?_ (by simp) _)))⟩
   · go_enter Tryz.func113,Tryz.ntmps113
     go_wp2
     go_ret
     exact ⟨ret_bool (Bool.eq_iff_iff.2 (by simp [isStr];omega)),(by (repeat (first|exact Below.refl _ _|refine Below.drew ?_|refine Below.alloc ?_ (by simp) _)))⟩
 · go_enter Tryz.func113,Tryz.ntmps113
   go_wp2
   go_ret
   exact ⟨ret_bool (Bool.eq_iff_iff.2 (by simp [isStr];omega)),(by (repeat (first|exact Below.refl _ _|refine Below.drew ?_|refine Below.alloc ?_ (by simp) _)))⟩
theorem isStretch_is (f t c:Int) (b:Bool) (h:isStr f t c=b) (w:World):Calls Tryz.prog 113 #[.agg #[.int .i64 f,.int .i64 t],.int .i64 c] w fun e w'=>e=.returned (.bool b)∧Below w.heap.size w w':=by
 subst h
 exact isStretch_any f t c w
theorem sides_any (f t:Int) (w:World) (h:0≤f) (h2:t≤1000) (h3:0≤t) (h4:f≤1000):Calls Tryz.prog 84 #[.agg #[.int .i64 f,.int .i64 t]] w fun e w'=>e=.returned (.int .i64 (t-f))∧Below w.heap.size w w':=by
 go_enter Tryz.func84,Tryz.ntmps84
 go_wp2
 go_ret
 exact ⟨rfl,(by (repeat (first|exact Below.refl _ _|refine Below.drew ?_|refine Below.alloc ?_ (by simp) _)))⟩
set_option maxRecDepth 100000 in
theorem checkOutlines_any (c:Int) (A B:Option Addr) (n k m j:Nat) (ws ts:List Bnd) (d:Int) (C D:Option Addr) (n2 k2 m2 j2:Nat) (ws2 ts2:List Bnd) (w:World) (h1:RdB w A n k ws) (h2:RdB w B m j ts) (hn:n≤maxLen) (hm:m≤maxLen) (h3:RdB w C n2 k2 ws2) (h4:RdB w D m2 j2 ts2) (hn2:n2≤maxLen) (hm2:m2≤maxLen) :
 Calls Tryz.prog 104 #[.agg #[.int .i64 c,.slice A n k,.slice B m j],.agg #[.int .i64 d,.slice C n2 k2,.slice D m2 j2]] w fun e w'=>e=.returned (.int .i64 (chkOO ⟨c,ws,ts⟩ ⟨d,ws2,ts2⟩))∧Below w.heap.size w w':=by
 obtain ⟨q,hq⟩:∃ q,chkO ⟨c,ws,ts⟩=q:=⟨_,rfl⟩
 obtain ⟨q2,hq2⟩:∃ q,chkO ⟨d,ws2,ts2⟩=q:=⟨_,rfl⟩
 unfold chkOO
 rw [hq,hq2]
 have E1:=hid hq;have E2:=hid hq2;clear hq hq2
 by_cases h0:q=0
 · rw [if_neg (by simpa using h0)]
   subst h0
   go_enter Tryz.func104,Tryz.ntmps104
   obtain ⟨a1,a2,a0⟩:=ent2 w #[.int .i64 c,.slice A n k,.slice B m j] 24 #[.int .i64 d,.slice C n2 k2,.slice D m2 j2] 24
   have a7:=rI h1 a0
   have a8:=rI h2 a0
   have a4:=rI h3 a0
   have a5:=rI h4 a0
   clear h1 h2 h3 h4
   obtain ⟨b3,b4,a9⟩:=at3 a1
   obtain ⟨b0,b1,b2⟩:=at3 a2
   have hc:=CheckOutline_any c A B n k m j ws ts _ a7.out a8.out hn hm
   rw [E1.out] at hc
   try dsimp only at hc
   have HC:=hid hc;clear hc
   go_wp2_with fail
   refine HC.out.mono ?_
   rintro e c1 ⟨rfl,hb⟩
   clear HC
   clear b3 b4 a9 b0 b1 b2
   have a3:=hid hb
   clear hb
   replace a1:=kH a1 a3
   obtain ⟨b5,b6,b7⟩:=at3 a1
   replace a2:=kH a2 a3
   obtain ⟨b8,b9,c0⟩:=at3 a2
   replace a4:=rH a4 a3
   replace a5:=rH a5 a3
   have hc:=CheckOutline_any d C D n2 k2 m2 j2 ws2 ts2 _ a4.out a5.out hn2 hm2
   rw [E2.out] at hc
   try dsimp only at hc
   have HC:=hid hc;clear hc
   go_wp2_with fail
   refine HC.out.mono ?_
   rintro e c2 ⟨rfl,hb⟩
   clear HC
   clear b5 b6 b7 b8 b9 c0
   have a6:=hid hb
   clear hb
   replace a1:=kH a1 a6
   obtain ⟨c3,c4,c5⟩:=at3 a1
   replace a2:=kH a2 a6
   obtain ⟨c6,c7,c8⟩:=at3 a2
   go_wp2
   go_ret
   replace a0:=bH (bH a0 a3) a6
   exact ⟨rfl,a0.out⟩
 · rw [if_pos h0]
   have hne:(q != 0)=true:=by simpa using h0
   clear h0
   go_enter Tryz.func104,Tryz.ntmps104
   obtain ⟨a1,a2,a0⟩:=ent2 w #[.int .i64 c,.slice A n k,.slice B m j] 24 #[.int .i64 d,.slice C n2 k2,.slice D m2 j2] 24
   have a7:=rI h1 a0
   have a8:=rI h2 a0
   have a4:=rI h3 a0
   have a5:=rI h4 a0
   clear h1 h2 h3 h4
   obtain ⟨b3,b4,a9⟩:=at3 a1
   obtain ⟨b0,b1,b2⟩:=at3 a2
   have hc:=CheckOutline_any c A B n k m j ws ts _ a7.out a8.out hn hm
   rw [E1.out] at hc
   try dsimp only at hc
   have HC:=hid hc;clear hc
   go_wp2_with fail
   refine HC.out.mono ?_
   rintro e c1 ⟨rfl,hb⟩
   clear HC
   clear b3 b4 a9 b0 b1 b2
   have a3:=hid hb
   clear hb
   replace a1:=kH a1 a3
   obtain ⟨b5,b6,b7⟩:=at3 a1
   replace a2:=kH a2 a3
   obtain ⟨b8,b9,c0⟩:=at3 a2
   go_wp2
   go_ret
   replace a0:=bH a0 a3
   exact ⟨rfl,a0.out⟩
set_option maxRecDepth 100000 in
theorem CheckPairing_any (c:Int) (A B:Option Addr) (n k m j:Nat) (ws ts:List Bnd) (d:Int) (C D:Option Addr) (n2 k2 m2 j2:Nat) (ws2 ts2:List Bnd) (p1 p2 p3 p4:Int) (w:World) (h1:RdB w A n k ws) (h2:RdB w B m j ts) (hn:n≤maxLen) (hm:m≤maxLen) (h3:RdB w C n2 k2 ws2) (h4:RdB w D m2 j2 ts2) (hn2:n2≤maxLen) (hm2:m2≤maxLen) :
 Calls Tryz.prog 72 #[.agg #[.int .i64 c,.slice A n k,.slice B m j],.agg #[.int .i64 d,.slice C n2 k2,.slice D m2 j2],.agg #[.int .i64 p1,.int .i64 p2,.int .i64 p3,.int .i64 p4]] w fun e w'=>e=.returned (.int .i64 (chkP ⟨c,ws,ts⟩ ⟨d,ws2,ts2⟩ ⟨p1,p2,p3,p4⟩))∧Below w.heap.size w w':=by
 obtain ⟨q,hq⟩:∃ q,chkOO ⟨c,ws,ts⟩ ⟨d,ws2,ts2⟩=q:=⟨_,rfl⟩
 unfold chkP
 rw [hq]
 have HQ:=hid hq
 have E1:=hid hq;clear hq
 by_cases h0:q=0
 · subst h0
   rw [if_neg (by simp)]
   obtain ⟨o1,o2⟩:=chkOO_ok HQ.out
   have o1:=chkO_ok o1;have o2:=chkO_ok o2
   dsimp only at o1 o2
   have g1:=o1.2.1;have g2:=o2.2.1
   clear o1 o2 HQ
   dsimp only
   cases hs1:isStr p1 p2 c
   · rw [if_pos rfl]
     have E2:=hid hs1;clear hs1
     go_enter Tryz.func72,Tryz.ntmps72
     obtain ⟨a2,a3,a0,a1⟩:=ent3 w #[.int .i64 c,.slice A n k,.slice B m j] 24 #[.int .i64 d,.slice C n2 k2,.slice D m2 j2] 24 #[.int .i64 p1,.int .i64 p2,.int .i64 p3,.int .i64 p4] 28
     have a7:=rI h1 a1
     have a8:=rI h2 a1
     have a9:=rI h3 a1
     have b0:=rI h4 a1
     clear h1 h2 h3 h4
     obtain ⟨d1,b1,b2⟩:=at3 a2
     obtain ⟨b3,b4,b5⟩:=at3 a3
     obtain ⟨b6,b7,b8,b9⟩:=at4 a0
     have hc:=checkOutlines_any c A B n k m j ws ts d C D n2 k2 m2 j2 ws2 ts2 _ a7.out a8.out hn hm a9.out b0.out hn2 hm2
     rw [E1.out] at hc
     try dsimp only at hc
     have HC:=hid hc;clear hc
     go_wp2_with fail
     refine HC.out.mono ?_
     rintro e c0 ⟨rfl,hb⟩
     clear HC
     clear d1 b1 b2 b3 b4 b5 b6 b7 b8 b9
     have a4:=hid hb
     clear hb
     replace a2:=kH a2 a4
     obtain ⟨c1,c2,c3⟩:=at3 a2
     replace a3:=kH a3 a4
     obtain ⟨c4,c5,c6⟩:=at3 a3
     replace a0:=kH a0 a4
     obtain ⟨c7,c8,c9,d0⟩:=at4 a0
     have hc:=isStretch_is p1 p2 c _ E2.out (c0)
     have HC:=hid hc;clear hc
     go_wp2_with fail
     refine HC.out.mono ?_
     rintro e d2 ⟨rfl,hb⟩
     clear HC
     clear c1 c2 c3 c4 c5 c6 c7 c8 c9 d0
     have a5:=hid hb
     clear hb
     replace a2:=kH a2 a5
     obtain ⟨d3,d4,d5⟩:=at3 a2
     replace a3:=kH a3 a5
     obtain ⟨d6,d7,d8⟩:=at3 a3
     replace a0:=kH a0 a5
     obtain ⟨d9,e0,e1,e2⟩:=at4 a0
     go_wp2
     go_ret
     replace a1:=bH (bH a1 a4) a5
     exact ⟨rfl,a1.out⟩
   · rw [if_neg (by simp)]
     have i1:=isStr_ok hs1
     have E2:=hid hs1;clear hs1
     cases hs2:isStr p3 p4 d
     · rw [if_pos rfl]
       have E3:=hid hs2;clear hs2
       go_enter Tryz.func72,Tryz.ntmps72
       obtain ⟨a2,a3,a0,a1⟩:=ent3 w #[.int .i64 c,.slice A n k,.slice B m j] 24 #[.int .i64 d,.slice C n2 k2,.slice D m2 j2] 24 #[.int .i64 p1,.int .i64 p2,.int .i64 p3,.int .i64 p4] 28
       have a7:=rI h1 a1
       have a8:=rI h2 a1
       have a9:=rI h3 a1
       have b0:=rI h4 a1
       clear h1 h2 h3 h4
       obtain ⟨d1,b1,b2⟩:=at3 a2
       obtain ⟨b3,b4,b5⟩:=at3 a3
       obtain ⟨b6,b7,b8,b9⟩:=at4 a0
       have hc:=checkOutlines_any c A B n k m j ws ts d C D n2 k2 m2 j2 ws2 ts2 _ a7.out a8.out hn hm a9.out b0.out hn2 hm2
       rw [E1.out] at hc
       try dsimp only at hc
       have HC:=hid hc;clear hc
       go_wp2_with fail
       refine HC.out.mono ?_
       rintro e c0 ⟨rfl,hb⟩
       clear HC
       clear d1 b1 b2 b3 b4 b5 b6 b7 b8 b9
       have a4:=hid hb
       clear hb
       replace a2:=kH a2 a4
       obtain ⟨c1,c2,c3⟩:=at3 a2
       replace a3:=kH a3 a4
       obtain ⟨c4,c5,c6⟩:=at3 a3
       replace a0:=kH a0 a4
       obtain ⟨c7,c8,c9,d0⟩:=at4 a0
       have hc:=isStretch_is p1 p2 c _ E2.out (c0)
       have HC:=hid hc;clear hc
       go_wp2_with fail
       refine HC.out.mono ?_
       rintro e d2 ⟨rfl,hb⟩
       clear HC
       clear c1 c2 c3 c4 c5 c6 c7 c8 c9 d0
       have a5:=hid hb
       clear hb
       replace a2:=kH a2 a5
       obtain ⟨d3,d4,d5⟩:=at3 a2
       replace a3:=kH a3 a5
       obtain ⟨d6,d7,d8⟩:=at3 a3
       replace a0:=kH a0 a5
       obtain ⟨d9,e0,e1,e2⟩:=at4 a0
       have hc:=isStretch_is p3 p4 d _ E3.out (d2)
       have HC:=hid hc;clear hc
       go_wp2_with fail
       refine HC.out.mono ?_
       rintro e e3 ⟨rfl,hb⟩
       clear HC
       clear d3 d4 d5 d6 d7 d8 d9 e0 e1 e2
       have a6:=hid hb
       clear hb
       replace a2:=kH a2 a6
       obtain ⟨e4,e5,e6⟩:=at3 a2
       replace a3:=kH a3 a6
       obtain ⟨e7,e8,e9⟩:=at3 a3
       replace a0:=kH a0 a6
       obtain ⟨f0,f1,f2,f3⟩:=at4 a0
       go_wp2
       go_ret
       replace a1:=bH (bH (bH a1 a4) a5) a6
       exact ⟨rfl,a1.out⟩
     · rw [if_neg (by simp)]
       have i2:=isStr_ok hs2
       have E3:=hid hs2;clear hs2
       by_cases hk:p2-p1=p4-p3
       · rw [if_neg (by simpa using hk)]
         have hkb:(p2-p1 != p4-p3)=false:=by simpa using hk
         clear hk
         go_enter Tryz.func72,Tryz.ntmps72
         obtain ⟨a2,a3,a0,a1⟩:=ent3 w #[.int .i64 c,.slice A n k,.slice B m j] 24 #[.int .i64 d,.slice C n2 k2,.slice D m2 j2] 24 #[.int .i64 p1,.int .i64 p2,.int .i64 p3,.int .i64 p4] 28
         have a7:=rI h1 a1
         have a8:=rI h2 a1
         have a9:=rI h3 a1
         have b0:=rI h4 a1
         clear h1 h2 h3 h4
         obtain ⟨d1,b1,b2⟩:=at3 a2
         obtain ⟨b3,b4,b5⟩:=at3 a3
         obtain ⟨b6,b7,b8,b9⟩:=at4 a0
         have hc:=checkOutlines_any c A B n k m j ws ts d C D n2 k2 m2 j2 ws2 ts2 _ a7.out a8.out hn hm a9.out b0.out hn2 hm2
         rw [E1.out] at hc
         try dsimp only at hc
         have HC:=hid hc;clear hc
         go_wp2_with fail
         refine HC.out.mono ?_
         rintro e c0 ⟨rfl,hb⟩
         clear HC
         clear d1 b1 b2 b3 b4 b5 b6 b7 b8 b9
         have a4:=hid hb
         clear hb
         replace a2:=kH a2 a4
         obtain ⟨c1,c2,c3⟩:=at3 a2
         replace a3:=kH a3 a4
         obtain ⟨c4,c5,c6⟩:=at3 a3
         replace a0:=kH a0 a4
         obtain ⟨c7,c8,c9,d0⟩:=at4 a0
         have hc:=isStretch_is p1 p2 c _ E2.out (c0)
         have HC:=hid hc;clear hc
         go_wp2_with fail
         refine HC.out.mono ?_
         rintro e d2 ⟨rfl,hb⟩
         clear HC
         clear c1 c2 c3 c4 c5 c6 c7 c8 c9 d0
         have a5:=hid hb
         clear hb
         replace a2:=kH a2 a5
         obtain ⟨d3,d4,d5⟩:=at3 a2
         replace a3:=kH a3 a5
         obtain ⟨d6,d7,d8⟩:=at3 a3
         replace a0:=kH a0 a5
         obtain ⟨d9,e0,e1,e2⟩:=at4 a0
         have hc:=isStretch_is p3 p4 d _ E3.out (d2)
         have HC:=hid hc;clear hc
         go_wp2_with fail
         refine HC.out.mono ?_
         rintro e e3 ⟨rfl,hb⟩
         clear HC
         clear d3 d4 d5 d6 d7 d8 d9 e0 e1 e2
         have a6:=hid hb
         clear hb
         replace a2:=kH a2 a6
         obtain ⟨e4,e5,e6⟩:=at3 a2
         replace a3:=kH a3 a6
         obtain ⟨e7,e8,e9⟩:=at3 a3
         replace a0:=kH a0 a6
         obtain ⟨f0,f1,f2,f3⟩:=at4 a0
         go_wp2_with fail
         clear e4 e5 e6 e7 e8 e9 f0 f1 f2 f3
         replace a1:=bD (bH (bH (bH a1 a4) a5) a6)
         replace a7:=rD (rH (rH (rH a7 a4) a5) a6)
         replace a8:=rD (rH (rH (rH a8 a4) a5) a6)
         replace a9:=rD (rH (rH (rH a9 a4) a5) a6)
         replace b0:=rD (rH (rH (rH b0 a4) a5) a6)
         replace a2:=kD a2
         replace a3:=kD a3
         replace a0:=kD a0
         refine wp_region_held_drew (S:=(fun W'=>Blk W' (w.heap.size+1+1) 28 #[.int .i64 p1,.int .i64 p2,.int .i64 p3,.int .i64 p4])) (by kernel_rfl) a0.out (fun _=>?_)
         obtain ⟨w1,hw2⟩:∃ w',w'=(e3.drew):=⟨_,rfl⟩
         rw [← hw2] at a1 a7 a8 a9 b0 a2 a3 a0
         rw [← hw2]
         clear hw2
         refine' twH 0 a0.out ?_
         refine' tkH 1 a0.out ?hyR4 ?_
         case hyR4=>(rintro W' hS0;have hc0:=Blk.nth hS0 0;have hc1:=Blk.nth hS0 1;clear hS0;go_simp;try with_reducible rfl)
         refine' twH 3 a0.out ?_
         refine' tkH 4 a0.out ?hyR6 ?_
         case hyR6=>(rintro W' hS0;have hc0:=Blk.nth hS0 2;have hc1:=Blk.nth hS0 3;clear hS0;go_simp;try with_reducible rfl)
         try simp only [pq]
         refine oneH 2 rfl fun K hK=>?_
         go_simp
         go_at_call 84
         refine (sides_any p1 p2 _ (by omega) (by omega) (by omega) (by omega)).mono ?_
         rintro e w7 ⟨rfl,hb8⟩
         dsimp only
         replace hb8:=hid hb8
         replace a0:=kH a0 hb8
         refine hK.out _ _ a0.out (fun _=>?_);clear hK K
         try simp only [pq]
         refine oneH 5 rfl fun K hK=>?_
         go_simp
         go_at_call 84
         refine (sides_any p3 p4 _ (by omega) (by omega) (by omega) (by omega)).mono ?_
         rintro e w9 ⟨rfl,f4⟩
         dsimp only
         replace f4:=hid f4
         replace a0:=kH a0 f4
         refine hK.out _ _ a0.out (fun _=>?_);clear hK K
         try simp only [pq]
         refine' twH 6 a0.out ?_
         try simp only [pq]
         refine wpAnyH_done (by kernel_rfl) ?_ _
         go_wp2
         go_ret
         replace a1:=bH (bH a1 hb8) f4
         exact ⟨rfl,a1.out⟩
       · rw [if_pos hk]
         have hkb:(p2-p1 != p4-p3)=true:=by simpa using hk
         clear hk
         go_enter Tryz.func72,Tryz.ntmps72
         obtain ⟨a2,a3,a0,a1⟩:=ent3 w #[.int .i64 c,.slice A n k,.slice B m j] 24 #[.int .i64 d,.slice C n2 k2,.slice D m2 j2] 24 #[.int .i64 p1,.int .i64 p2,.int .i64 p3,.int .i64 p4] 28
         have a7:=rI h1 a1
         have a8:=rI h2 a1
         have a9:=rI h3 a1
         have b0:=rI h4 a1
         clear h1 h2 h3 h4
         obtain ⟨d1,b1,b2⟩:=at3 a2
         obtain ⟨b3,b4,b5⟩:=at3 a3
         obtain ⟨b6,b7,b8,b9⟩:=at4 a0
         have hc:=checkOutlines_any c A B n k m j ws ts d C D n2 k2 m2 j2 ws2 ts2 _ a7.out a8.out hn hm a9.out b0.out hn2 hm2
         rw [E1.out] at hc
         try dsimp only at hc
         have HC:=hid hc;clear hc
         go_wp2_with fail
         refine HC.out.mono ?_
         rintro e c0 ⟨rfl,hb⟩
         clear HC
         clear d1 b1 b2 b3 b4 b5 b6 b7 b8 b9
         have a4:=hid hb
         clear hb
         replace a2:=kH a2 a4
         obtain ⟨c1,c2,c3⟩:=at3 a2
         replace a3:=kH a3 a4
         obtain ⟨c4,c5,c6⟩:=at3 a3
         replace a0:=kH a0 a4
         obtain ⟨c7,c8,c9,d0⟩:=at4 a0
         have hc:=isStretch_is p1 p2 c _ E2.out (c0)
         have HC:=hid hc;clear hc
         go_wp2_with fail
         refine HC.out.mono ?_
         rintro e d2 ⟨rfl,hb⟩
         clear HC
         clear c1 c2 c3 c4 c5 c6 c7 c8 c9 d0
         have a5:=hid hb
         clear hb
         replace a2:=kH a2 a5
         obtain ⟨d3,d4,d5⟩:=at3 a2
         replace a3:=kH a3 a5
         obtain ⟨d6,d7,d8⟩:=at3 a3
         replace a0:=kH a0 a5
         obtain ⟨d9,e0,e1,e2⟩:=at4 a0
         have hc:=isStretch_is p3 p4 d _ E3.out (d2)
         have HC:=hid hc;clear hc
         go_wp2_with fail
         refine HC.out.mono ?_
         rintro e e3 ⟨rfl,hb⟩
         clear HC
         clear d3 d4 d5 d6 d7 d8 d9 e0 e1 e2
         have a6:=hid hb
         clear hb
         replace a2:=kH a2 a6
         obtain ⟨e4,e5,e6⟩:=at3 a2
         replace a3:=kH a3 a6
         obtain ⟨e7,e8,e9⟩:=at3 a3
         replace a0:=kH a0 a6
         obtain ⟨f0,f1,f2,f3⟩:=at4 a0
         go_wp2_with fail
         clear e4 e5 e6 e7 e8 e9 f0 f1 f2 f3
         replace a1:=bD (bH (bH (bH a1 a4) a5) a6)
         replace a7:=rD (rH (rH (rH a7 a4) a5) a6)
         replace a8:=rD (rH (rH (rH a8 a4) a5) a6)
         replace a9:=rD (rH (rH (rH a9 a4) a5) a6)
         replace b0:=rD (rH (rH (rH b0 a4) a5) a6)
         replace a2:=kD a2
         replace a3:=kD a3
         replace a0:=kD a0
         refine wp_region_held_drew (S:=(fun W'=>Blk W' (w.heap.size+1+1) 28 #[.int .i64 p1,.int .i64 p2,.int .i64 p3,.int .i64 p4])) (by kernel_rfl) a0.out (fun _=>?_)
         obtain ⟨g0,f7⟩:∃ w',w'=(e3.drew):=⟨_,rfl⟩
         rw [← f7] at a1 a7 a8 a9 b0 a2 a3 a0
         rw [← f7]
         clear f7
         refine' twH 0 a0.out ?_
         refine' tkH 1 a0.out ?f8 ?_
         case f8=>(rintro W' hS0;have hc0:=Blk.nth hS0 0;have hc1:=Blk.nth hS0 1;clear hS0;go_simp;try with_reducible rfl)
         refine' twH 3 a0.out ?_
         refine' tkH 4 a0.out ?f9 ?_
         case f9=>(rintro W' hS0;have hc0:=Blk.nth hS0 2;have hc1:=Blk.nth hS0 3;clear hS0;go_simp;try with_reducible rfl)
         try simp only [pq]
         refine oneH 2 rfl fun K hK=>?_
         go_simp
         go_at_call 84
         refine (sides_any p1 p2 _ (by omega) (by omega) (by omega) (by omega)).mono ?_
         rintro e g3 ⟨rfl,f5⟩
         dsimp only
         replace f5:=hid f5
         replace a0:=kH a0 f5
         refine hK.out _ _ a0.out (fun _=>?_);clear hK K
         try simp only [pq]
         refine oneH 5 rfl fun K hK=>?_
         go_simp
         go_at_call 84
         refine (sides_any p3 p4 _ (by omega) (by omega) (by omega) (by omega)).mono ?_
         rintro e g4 ⟨rfl,f6⟩
         dsimp only
         replace f6:=hid f6
         replace a0:=kH a0 f6
         refine hK.out _ _ a0.out (fun _=>?_);clear hK K
         try simp only [pq]
         refine' twH 6 a0.out ?_
         try simp only [pq]
         refine wpAnyH_done (by kernel_rfl) ?_ _
         go_wp2
         go_ret
         replace a1:=bH (bH a1 f5) f6
         exact ⟨rfl,a1.out⟩
 · rw [if_pos h0]
   have hne:(q != 0)=true:=by simpa using h0
   clear h0
   go_enter Tryz.func72,Tryz.ntmps72
   obtain ⟨a2,a3,a0,a1⟩:=ent3 w #[.int .i64 c,.slice A n k,.slice B m j] 24 #[.int .i64 d,.slice C n2 k2,.slice D m2 j2] 24 #[.int .i64 p1,.int .i64 p2,.int .i64 p3,.int .i64 p4] 28
   have a7:=rI h1 a1
   have a8:=rI h2 a1
   have a9:=rI h3 a1
   have b0:=rI h4 a1
   clear h1 h2 h3 h4
   obtain ⟨d1,b1,b2⟩:=at3 a2
   obtain ⟨b3,b4,b5⟩:=at3 a3
   obtain ⟨b6,b7,b8,b9⟩:=at4 a0
   have hc:=checkOutlines_any c A B n k m j ws ts d C D n2 k2 m2 j2 ws2 ts2 _ a7.out a8.out hn hm a9.out b0.out hn2 hm2
   rw [E1.out] at hc
   try dsimp only at hc
   have HC:=hid hc;clear hc
   go_wp2_with fail
   refine HC.out.mono ?_
   rintro e c0 ⟨rfl,hb⟩
   clear HC
   clear d1 b1 b2 b3 b4 b5 b6 b7 b8 b9
   have a4:=hid hb
   clear hb
   replace a2:=kH a2 a4
   obtain ⟨c1,c2,c3⟩:=at3 a2
   replace a3:=kH a3 a4
   obtain ⟨c4,c5,c6⟩:=at3 a3
   replace a0:=kH a0 a4
   obtain ⟨c7,c8,c9,d0⟩:=at4 a0
   go_wp2
   go_ret
   replace a1:=bH a1 a4
   exact ⟨rfl,a1.out⟩
end Go.Proofs.YtjjmifcjailpaaaGreat
