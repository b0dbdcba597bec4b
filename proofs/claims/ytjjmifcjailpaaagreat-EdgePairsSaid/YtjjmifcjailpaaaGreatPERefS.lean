import Derived.Test.YtjjmifcjailpaaaGreatPRSolve
import Derived.Test.YtjjmifcjailpaaaGreatPESols
import Derived.Test.YtjjmifcjailpaaaGreatPERefJ
import Derived.Test.YtjjmifcjailpaaaGreatPEShared
set_option maxHeartbeats 4000000
set_option linter.unusedSimpArgs false
set_option linter.unusedVariables false
namespace Go.Proofs.YtjjmifcjailpaaaGreat
open Go.Lib (hid)
open Go.RowKit
set_option maxRecDepth 100000 in
theorem rsolved_is (P:Int) (A:Option Addr) (n k:Nat) (l:List Bnd) (w:World) (hr:RdB w A n k l) (hn:n≤maxLen) (Z:List Int) (s:Bool) (HS:Hid (solveV P l=(Z,s,0))) :
 Calls Tryz.prog 49 #[.agg #[.int .i64 P,.slice A n k]] w fun e w'=>e=.returned (.bool s)∧Below w.heap.size w w':=by
 cases s
 · skip
   go_enter Tryz.func49,Tryz.ntmps49
   obtain ⟨a1,a0⟩:=ent1 w #[.int .i64 P,.slice A n k] 84
   have a3:=rI hr a0
   clear hr
   obtain ⟨a4,a5⟩:=at2 a1
   have hc:=rSolve_any P A n k l _ a3.out hn
   rw [HS.out] at hc
   unfold RetI at hc
   dsimp only at hc
   have hc:=hc
   have HC:=hid hc;clear hc
   go_wp2_with fail
   refine HC.out.mono ?_
   rintro e a6 ⟨A8,n8,c8,rfl,ho8,hb⟩
   clear HC
   clear a4 a5
   have a2:=hid hb
   clear hb
   clear ho8
   replace a1:=kH a1 a2
   obtain ⟨a7,a8⟩:=at2 a1
   go_wp2
   go_ret
   replace a0:=bH a0 a2
   exact ⟨rfl,a0.out⟩
 · skip
   go_enter Tryz.func49,Tryz.ntmps49
   obtain ⟨a1,a0⟩:=ent1 w #[.int .i64 P,.slice A n k] 84
   have a3:=rI hr a0
   clear hr
   obtain ⟨a4,a5⟩:=at2 a1
   have hc:=rSolve_any P A n k l _ a3.out hn
   rw [HS.out] at hc
   unfold RetI at hc
   dsimp only at hc
   have hc:=hc
   have HC:=hid hc;clear hc
   go_wp2_with fail
   refine HC.out.mono ?_
   rintro e a6 ⟨A8,n8,c8,rfl,ho8,hb⟩
   clear HC
   clear a4 a5
   have a2:=hid hb
   clear hb
   clear ho8
   replace a1:=kH a1 a2
   obtain ⟨a7,a8⟩:=at2 a1
   go_wp2
   go_ret
   replace a0:=bH a0 a2
   exact ⟨rfl,a0.out⟩
theorem rsolved_any (P:Int) (A:Option Addr) (n k:Nat) (l:List Bnd) (w:World) (hr:RdB w A n k l) (hn:n≤maxLen) (hk:chk P l=0) :
 Calls Tryz.prog 49 #[.agg #[.int .i64 P,.slice A n k]] w fun e w'=>e=.returned (.bool (slv P l))∧Below w.heap.size w w' :=
 rsolved_is P A n k l w hr hn (solveV P l).1 _ (hid (Prod.ext rfl (solveV_of hk)))
theorem chkP_rng {a b:Otl} {p:Prg} (h:chkP a b p=0):(3≤a.c∧a.c≤16)∧(3≤b.c∧b.c≤16)∧(0≤p.af∧p.af<p.at2∧p.at2≤a.c)∧(0≤p.bf∧p.bf<p.bt∧p.bt≤b.c)∧(∀ x∈b.ws,0≤x.f∧x.f≤16∧0≤x.t∧x.t≤16)∧∀ x∈b.ts,0≤x.f∧x.f≤16∧0≤x.t∧x.t≤16:=by
 obtain ⟨oa,ob,sa,sb,-⟩:=chkP_ok h
 obtain ⟨a1,a2,-,-⟩:=chkO_ok oa
 obtain ⟨b1,b2,b3,b4⟩:=chkO_ok ob
 exact ⟨⟨a1,a2⟩,⟨b1,b2⟩,sa,sb,chk_range b3 (by omega),chk_range b4 (by omega)⟩
theorem rjoint_any (u:Bool) (c:Int) (A B:Option Addr) (n k m j:Nat) (ws ts:List Bnd) (d:Int) (C D:Option Addr) (n2 k2 m2 j2:Nat) (ws2 ts2:List Bnd) (p1 p2 p3 p4:Int) (w:World) (h1:RdB w A n k ws) (h2:RdB w B m j ts) (hn:n≤maxLen) (hm:m≤maxLen) (h3:RdB w C n2 k2 ws2) (h4:RdB w D m2 j2 ts2) (hn2:n2≤maxLen) (hm2:m2≤maxLen) (hq:chkP ⟨c,ws,ts⟩ ⟨d,ws2,ts2⟩ ⟨p1,p2,p3,p4⟩=0) :
 Calls Tryz.prog 48 #[.agg #[.int .i64 c,.slice A n k,.slice B m j],.agg #[.int .i64 d,.slice C n2 k2,.slice D m2 j2],.agg #[.int .i64 p1,.int .i64 p2,.int .i64 p3,.int .i64 p4],.bool u] w fun e w'=>∃ Ar nr kr,e=.returned (.agg #[.int .i64 (jP u ⟨c,ws,ts⟩ ⟨d,ws2,ts2⟩ ⟨p1,p2,p3,p4⟩),.slice Ar nr kr])∧RdB w' Ar nr kr (jL u ⟨c,ws,ts⟩ ⟨d,ws2,ts2⟩ ⟨p1,p2,p3,p4⟩)∧Below w.heap.size w w':=by
 obtain ⟨g0,g1,g2,g3,r1,r2⟩:=chkP_rng hq
 obtain ⟨l1,l2,l3,l4⟩:=chkP_lens hq
 dsimp only at g0 g1 g2 g3 r1 r2 l1 l2 l3 l4
 cases u
 · exact rjoint_w c A B n k m j ws ts d C D n2 k2 m2 j2 ws2 ts2 p1 p2 p3 p4 w h1 h2 hn hm h3 h4 hn2 hm2 g0 g1 g2 g3 (by have:=h1.len;omega) (by have:=h3.len;omega) r1
 · exact rjoint_t c A B n k m j ws ts d C D n2 k2 m2 j2 ws2 ts2 p1 p2 p3 p4 w h1 h2 hn hm h3 h4 hn2 hm2 g0 g1 g2 g3 (by have:=h2.len;omega) (by have:=h4.len;omega) r2
set_option maxRecDepth 100000 in
theorem rmeets_no (c:Int) (A B:Option Addr) (n k m j:Nat) (ws ts:List Bnd) (d:Int) (C D:Option Addr) (n2 k2 m2 j2:Nat) (ws2 ts2:List Bnd) (p1 p2 p3 p4:Int) (w:World) (h1:RdB w A n k ws) (h2:RdB w B m j ts) (hn:n≤maxLen) (hm:m≤maxLen) (h3:RdB w C n2 k2 ws2) (h4:RdB w D m2 j2 ts2) (hn2:n2≤maxLen) (hm2:m2≤maxLen) (HQ1:Hid (chkP ⟨c,ws,ts⟩ ⟨d,ws2,ts2⟩ ⟨p1,p2,p3,p4⟩=0)) (HL1:Hid ((jL false ⟨c,ws,ts⟩ ⟨d,ws2,ts2⟩ ⟨p1,p2,p3,p4⟩).length≤400)) (HL2:Hid ((jL true ⟨c,ws,ts⟩ ⟨d,ws2,ts2⟩ ⟨p1,p2,p3,p4⟩).length≤400)) (K1:Hid (chk (jP false ⟨c,ws,ts⟩ ⟨d,ws2,ts2⟩ ⟨p1,p2,p3,p4⟩) (jL false ⟨c,ws,ts⟩ ⟨d,ws2,ts2⟩ ⟨p1,p2,p3,p4⟩)=0)) (K2:Hid (chk (jP true ⟨c,ws,ts⟩ ⟨d,ws2,ts2⟩ ⟨p1,p2,p3,p4⟩) (jL true ⟨c,ws,ts⟩ ⟨d,ws2,ts2⟩ ⟨p1,p2,p3,p4⟩)=0)) (S1:Hid (slv (jP false ⟨c,ws,ts⟩ ⟨d,ws2,ts2⟩ ⟨p1,p2,p3,p4⟩) (jL false ⟨c,ws,ts⟩ ⟨d,ws2,ts2⟩ ⟨p1,p2,p3,p4⟩)=false)):Calls Tryz.prog 44 #[.agg #[.int .i64 c,.slice A n k,.slice B m j],.agg #[.int .i64 d,.slice C n2 k2,.slice D m2 j2],.agg #[.int .i64 p1,.int .i64 p2,.int .i64 p3,.int .i64 p4]] w fun e w'=>e=.returned (.bool false)∧Below w.heap.size w w':=by
 go_enter Tryz.func44,Tryz.ntmps44
 obtain ⟨a1,a2,a3,a0⟩:=ent3 w #[.int .i64 c,.slice A n k,.slice B m j] 24 #[.int .i64 d,.slice C n2 k2,.slice D m2 j2] 24 #[.int .i64 p1,.int .i64 p2,.int .i64 p3,.int .i64 p4] 28
 have a7:=rI h1 a0
 have a8:=rI h2 a0
 have a9:=rI h3 a0
 have b0:=rI h4 a0
 clear h1 h2 h3 h4
 obtain ⟨d0,b1,b2⟩:=at3 a1
 obtain ⟨b3,b4,b5⟩:=at3 a2
 obtain ⟨b6,b7,b8,b9⟩:=at4 a3
 have hc:=rjoint_any false c A B n k m j ws ts d C D n2 k2 m2 j2 ws2 ts2 p1 p2 p3 p4 _ a7.out a8.out hn hm a9.out b0.out hn2 hm2 HQ1.out
 have HC:=hid hc;clear hc
 go_wp2_with fail
 refine HC.out.mono ?_
 rintro e d1 ⟨Ar1,nr1,kr1,rfl,hrl,hb⟩
 clear HC
 clear d0 b1 b2 b3 b4 b5 b6 b7 b8 b9
 have a4:=hid hb
 clear hb
 have a6:=hid (hrl)
 clear hrl
 replace a1:=kH a1 a4
 obtain ⟨c0,c1,c2⟩:=at3 a1
 replace a2:=kH a2 a4
 obtain ⟨c3,c4,c5⟩:=at3 a2
 replace a3:=kH a3 a4
 obtain ⟨c6,c7,c8,c9⟩:=at4 a3
 have hl1_:nr1≤maxLen:=by have h1:=(a6.out).len;have h2:=HL1.out;unfold maxLen;omega
 have hc:=rsolved_any _ Ar1 nr1 kr1 _ _ a6.out hl1_ K1.out
 rw [S1.out] at hc
 try dsimp only at hc
 have HC:=hid hc;clear hc
 go_wp2_with fail
 refine HC.out.mono ?_
 rintro e d2 ⟨rfl,hb⟩
 clear HC
 clear c0 c1 c2 c3 c4 c5 c6 c7 c8 c9
 have a5:=hid hb
 clear hb
 replace a1:=kH a1 a5
 obtain ⟨d3,d4,d5⟩:=at3 a1
 replace a2:=kH a2 a5
 obtain ⟨d6,d7,d8⟩:=at3 a2
 replace a3:=kH a3 a5
 obtain ⟨d9,e0,e1,e2⟩:=at4 a3
 go_wp2
 go_ret
 replace a0:=bH (bH a0 a4) a5
 exact ⟨rfl,a0.out⟩
set_option maxRecDepth 100000 in
theorem rmeets_yes (c:Int) (A B:Option Addr) (n k m j:Nat) (ws ts:List Bnd) (d:Int) (C D:Option Addr) (n2 k2 m2 j2:Nat) (ws2 ts2:List Bnd) (p1 p2 p3 p4:Int) (w:World) (h1:RdB w A n k ws) (h2:RdB w B m j ts) (hn:n≤maxLen) (hm:m≤maxLen) (h3:RdB w C n2 k2 ws2) (h4:RdB w D m2 j2 ts2) (hn2:n2≤maxLen) (hm2:m2≤maxLen) (HQ1:Hid (chkP ⟨c,ws,ts⟩ ⟨d,ws2,ts2⟩ ⟨p1,p2,p3,p4⟩=0)) (HL1:Hid ((jL false ⟨c,ws,ts⟩ ⟨d,ws2,ts2⟩ ⟨p1,p2,p3,p4⟩).length≤400)) (HL2:Hid ((jL true ⟨c,ws,ts⟩ ⟨d,ws2,ts2⟩ ⟨p1,p2,p3,p4⟩).length≤400)) (K1:Hid (chk (jP false ⟨c,ws,ts⟩ ⟨d,ws2,ts2⟩ ⟨p1,p2,p3,p4⟩) (jL false ⟨c,ws,ts⟩ ⟨d,ws2,ts2⟩ ⟨p1,p2,p3,p4⟩)=0)) (K2:Hid (chk (jP true ⟨c,ws,ts⟩ ⟨d,ws2,ts2⟩ ⟨p1,p2,p3,p4⟩) (jL true ⟨c,ws,ts⟩ ⟨d,ws2,ts2⟩ ⟨p1,p2,p3,p4⟩)=0)) (S1:Hid (slv (jP false ⟨c,ws,ts⟩ ⟨d,ws2,ts2⟩ ⟨p1,p2,p3,p4⟩) (jL false ⟨c,ws,ts⟩ ⟨d,ws2,ts2⟩ ⟨p1,p2,p3,p4⟩)=true)) (s2:Bool) (S2:Hid (slv (jP true ⟨c,ws,ts⟩ ⟨d,ws2,ts2⟩ ⟨p1,p2,p3,p4⟩) (jL true ⟨c,ws,ts⟩ ⟨d,ws2,ts2⟩ ⟨p1,p2,p3,p4⟩)=s2)):Calls Tryz.prog 44 #[.agg #[.int .i64 c,.slice A n k,.slice B m j],.agg #[.int .i64 d,.slice C n2 k2,.slice D m2 j2],.agg #[.int .i64 p1,.int .i64 p2,.int .i64 p3,.int .i64 p4]] w fun e w'=>e=.returned (.bool s2)∧Below w.heap.size w w':=by
 go_enter Tryz.func44,Tryz.ntmps44
 obtain ⟨a0,a1,a2,a5⟩:=ent3 w #[.int .i64 c,.slice A n k,.slice B m j] 24 #[.int .i64 d,.slice C n2 k2,.slice D m2 j2] 24 #[.int .i64 p1,.int .i64 p2,.int .i64 p3,.int .i64 p4] 28
 have a8:=rI h1 a5
 have a9:=rI h2 a5
 have b0:=rI h3 a5
 have b1:=rI h4 a5
 clear h1 h2 h3 h4
 obtain ⟨f3,b4,b5⟩:=at3 a0
 obtain ⟨b6,b7,b8⟩:=at3 a1
 obtain ⟨b9,c0,c1,c2⟩:=at4 a2
 have hc:=rjoint_any false c A B n k m j ws ts d C D n2 k2 m2 j2 ws2 ts2 p1 p2 p3 p4 _ a8.out a9.out hn hm b0.out b1.out hn2 hm2 HQ1.out
 have HC:=hid hc;clear hc
 go_wp2_with fail
 refine HC.out.mono ?_
 rintro e f4 ⟨Ar2,nr2,kr2,rfl,hrl,hb⟩
 clear HC
 clear f3 b4 b5 b6 b7 b8 b9 c0 c1 c2
 have a3:=hid hb
 clear hb
 have b2:=hid (hrl)
 clear hrl
 replace a0:=kH a0 a3
 obtain ⟨c3,c4,c5⟩:=at3 a0
 replace a1:=kH a1 a3
 obtain ⟨c6,c7,c8⟩:=at3 a1
 replace a2:=kH a2 a3
 obtain ⟨c9,d0,d1,d2⟩:=at4 a2
 have hl2_:nr2≤maxLen:=by have h1:=(b2.out).len;have h2:=HL1.out;unfold maxLen;omega
 have hc:=rsolved_any _ Ar2 nr2 kr2 _ _ b2.out hl2_ K1.out
 rw [S1.out] at hc
 try dsimp only at hc
 have HC:=hid hc;clear hc
 go_wp2_with fail
 refine HC.out.mono ?_
 rintro e f5 ⟨rfl,hb⟩
 clear HC
 clear c3 c4 c5 c6 c7 c8 c9 d0 d1 d2
 have a4:=hid hb
 clear hb
 replace a0:=kH a0 a4
 obtain ⟨d3,d4,d5⟩:=at3 a0
 replace a1:=kH a1 a4
 obtain ⟨d6,d7,d8⟩:=at3 a1
 replace a2:=kH a2 a4
 obtain ⟨d9,e0,e1,e2⟩:=at4 a2
 replace a8:=rH (rH a8 a3) a4
 replace a9:=rH (rH a9 a3) a4
 replace b0:=rH (rH b0 a3) a4
 replace b1:=rH (rH b1 a3) a4
 have hc:=rjoint_any true c A B n k m j ws ts d C D n2 k2 m2 j2 ws2 ts2 p1 p2 p3 p4 _ a8.out a9.out hn hm b0.out b1.out hn2 hm2 HQ1.out
 have HC:=hid hc;clear hc
 go_wp2_with fail
 refine HC.out.mono ?_
 rintro e f6 ⟨Ar3,nr3,kr3,rfl,hrl,hb⟩
 clear HC
 clear d3 d4 d5 d6 d7 d8 d9 e0 e1 e2
 have a6:=hid hb
 clear hb
 have b3:=hid (hrl)
 clear hrl
 replace a0:=kH a0 a6
 obtain ⟨e3,e4,e5⟩:=at3 a0
 replace a1:=kH a1 a6
 obtain ⟨e6,e7,e8⟩:=at3 a1
 replace a2:=kH a2 a6
 obtain ⟨e9,f0,f1,f2⟩:=at4 a2
 have hl3_:nr3≤maxLen:=by have h1:=(b3.out).len;have h2:=HL2.out;unfold maxLen;omega
 have hc:=rsolved_any _ Ar3 nr3 kr3 _ _ b3.out hl3_ K2.out
 rw [S2.out] at hc
 try dsimp only at hc
 have HC:=hid hc;clear hc
 go_wp2_with fail
 refine HC.out.mono ?_
 rintro e f7 ⟨rfl,hb⟩
 clear HC
 clear e3 e4 e5 e6 e7 e8 e9 f0 f1 f2
 have a7:=hid hb
 clear hb
 replace a0:=kH a0 a7
 obtain ⟨f8,f9,g0⟩:=at3 a0
 replace a1:=kH a1 a7
 obtain ⟨g1,g2,g3⟩:=at3 a1
 replace a2:=kH a2 a7
 obtain ⟨g4,g5,g6,g7⟩:=at4 a2
 go_wp2
 go_ret
 replace a5:=bH (bH (bH (bH a5 a3) a4) a6) a7
 exact ⟨rfl,a5.out⟩
theorem rmeets_any (c:Int) (A B:Option Addr) (n k m j:Nat) (ws ts:List Bnd) (d:Int) (C D:Option Addr) (n2 k2 m2 j2:Nat) (ws2 ts2:List Bnd) (p1 p2 p3 p4:Int) (w:World) (h1:RdB w A n k ws) (h2:RdB w B m j ts) (hn:n≤maxLen) (hm:m≤maxLen) (h3:RdB w C n2 k2 ws2) (h4:RdB w D m2 j2 ts2) (hn2:n2≤maxLen) (hm2:m2≤maxLen) (hq:asked ⟨c,ws,ts⟩ ⟨d,ws2,ts2⟩ ⟨p1,p2,p3,p4⟩=0):Calls Tryz.prog 44 #[.agg #[.int .i64 c,.slice A n k,.slice B m j],.agg #[.int .i64 d,.slice C n2 k2,.slice D m2 j2],.agg #[.int .i64 p1,.int .i64 p2,.int .i64 p3,.int .i64 p4]] w fun e w'=>e=.returned (.bool (meetsB ⟨c,ws,ts⟩ ⟨d,ws2,ts2⟩ ⟨p1,p2,p3,p4⟩))∧Below w.heap.size w w':=by
 unfold meetsB
 cases hs:wayS ⟨c,ws,ts⟩ ⟨d,ws2,ts2⟩ ⟨p1,p2,p3,p4⟩
 · exact rmeets_no c A B n k m j ws ts d C D n2 k2 m2 j2 ws2 ts2 p1 p2 p3 p4 w h1 h2 hn hm h3 h4 hn2 hm2 (hid (asked_ok hq).1) (hid (jL_len hq false)) (hid (jL_len hq true)) (hid (jL_chk hq false)) (hid (jL_chk hq true)) (hid hs)
 · exact rmeets_yes c A B n k m j ws ts d C D n2 k2 m2 j2 ws2 ts2 p1 p2 p3 p4 w h1 h2 hn hm h3 h4 hn2 hm2 (hid (asked_ok hq).1) (hid (jL_len hq false)) (hid (jL_len hq true)) (hid (jL_chk hq false)) (hid (jL_chk hq true)) (hid hs) _ (hid rfl)
end Go.Proofs.YtjjmifcjailpaaaGreat
