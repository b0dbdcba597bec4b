import Derived.Test.YtjjmifcjailpaaaGreatUEEithM
import Derived.Test.YtjjmifcjailpaaaGreatUERefCa
import Derived.Test.YtjjmifcjailpaaaGreatUERefC
import Derived.Test.YtjjmifcjailpaaaGreatUERefS
set_option maxHeartbeats 4000000
set_option linter.unusedSimpArgs false
set_option linter.unusedVariables false
namespace Go.Proofs.YtjjmifcjailpaaaGreat
open Go.Lib (hid)
open Go.RowKit
set_option maxRecDepth 100000 in
theorem rMeets_e (c:Int) (A B:Option Addr) (n k m j:Nat) (ws ts:List Bnd) (d:Int) (C D:Option Addr) (n2 k2 m2 j2:Nat) (ws2 ts2:List Bnd) (p1 p2 p3 p4:Int) (w:World) (h1:RdB w A n k ws) (h2:RdB w B m j ts) (hn:n≤maxLen) (hm:m≤maxLen) (h3:RdB w C n2 k2 ws2) (h4:RdB w D m2 j2 ts2) (hn2:n2≤maxLen) (hm2:m2≤maxLen) (q:Int) (hne:(q != 0)=true) (E1:Hid (asked ⟨c,ws,ts⟩ ⟨d,ws2,ts2⟩ ⟨p1,p2,p3,p4⟩=q)):Calls Tryz.prog 13 #[.agg #[.int .i64 c,.slice A n k,.slice B m j],.agg #[.int .i64 d,.slice C n2 k2,.slice D m2 j2],.agg #[.int .i64 p1,.int .i64 p2,.int .i64 p3,.int .i64 p4]] w fun e w'=>e=.returned (.tuple #[.bool false,.int .i64 q])∧Below w.heap.size w w':=by
 go_enter Tryz.func13,Tryz.ntmps13
 obtain ⟨a2,a3,a4,a0⟩:=ent3 w #[.int .i64 c,.slice A n k,.slice B m j] 24 #[.int .i64 d,.slice C n2 k2,.slice D m2 j2] 24 #[.int .i64 p1,.int .i64 p2,.int .i64 p3,.int .i64 p4] 28
 have a5:=rI h1 a0
 have a6:=rI h2 a0
 have a7:=rI h3 a0
 have a8:=rI h4 a0
 clear h1 h2 h3 h4
 obtain ⟨b8,a9,b0⟩:=at3 a2
 obtain ⟨b1,b2,b3⟩:=at3 a3
 obtain ⟨b4,b5,b6,b7⟩:=at4 a4
 have hc:=rAsked_any c A B n k m j ws ts d C D n2 k2 m2 j2 ws2 ts2 p1 p2 p3 p4 _ a5.out a6.out hn hm a7.out a8.out hn2 hm2
 rw [E1.out] at hc
 try dsimp only at hc
 have HC:=hid hc;clear hc
 go_wp2_with fail
 refine HC.out.mono ?_
 rintro e b9 ⟨rfl,hb⟩
 clear HC
 clear b8 a9 b0 b1 b2 b3 b4 b5 b6 b7
 have a1:=hid hb
 clear hb
 replace a2:=kH a2 a1
 obtain ⟨c0,c1,c2⟩:=at3 a2
 replace a3:=kH a3 a1
 obtain ⟨c3,c4,c5⟩:=at3 a3
 replace a4:=kH a4 a1
 obtain ⟨c6,c7,c8,c9⟩:=at4 a4
 go_wp2
 go_ret2
 replace a0:=bH a0 a1
 exact ⟨rfl,a0.out⟩
set_option maxRecDepth 100000 in
theorem rMeets_o (c:Int) (A B:Option Addr) (n k m j:Nat) (ws ts:List Bnd) (d:Int) (C D:Option Addr) (n2 k2 m2 j2:Nat) (ws2 ts2:List Bnd) (p1 p2 p3 p4:Int) (w:World) (h1:RdB w A n k ws) (h2:RdB w B m j ts) (hn:n≤maxLen) (hm:m≤maxLen) (h3:RdB w C n2 k2 ws2) (h4:RdB w D m2 j2 ts2) (hn2:n2≤maxLen) (hm2:m2≤maxLen) (E1:Hid (asked ⟨c,ws,ts⟩ ⟨d,ws2,ts2⟩ ⟨p1,p2,p3,p4⟩=0)) (b:Bool) (EM:Hid (meetsB ⟨c,ws,ts⟩ ⟨d,ws2,ts2⟩ ⟨p1,p2,p3,p4⟩=b)):Calls Tryz.prog 13 #[.agg #[.int .i64 c,.slice A n k,.slice B m j],.agg #[.int .i64 d,.slice C n2 k2,.slice D m2 j2],.agg #[.int .i64 p1,.int .i64 p2,.int .i64 p3,.int .i64 p4]] w fun e w'=>e=.returned (.tuple #[.bool b,.int .i64 0])∧Below w.heap.size w w':=by
 go_enter Tryz.func13,Tryz.ntmps13
 obtain ⟨a2,a3,a4,a1⟩:=ent3 w #[.int .i64 c,.slice A n k,.slice B m j] 24 #[.int .i64 d,.slice C n2 k2,.slice D m2 j2] 24 #[.int .i64 p1,.int .i64 p2,.int .i64 p3,.int .i64 p4] 28
 have a6:=rI h1 a1
 have a7:=rI h2 a1
 have a8:=rI h3 a1
 have a9:=rI h4 a1
 clear h1 h2 h3 h4
 obtain ⟨c9,b0,b1⟩:=at3 a2
 obtain ⟨b2,b3,b4⟩:=at3 a3
 obtain ⟨b5,b6,b7,b8⟩:=at4 a4
 have hc:=rAsked_any c A B n k m j ws ts d C D n2 k2 m2 j2 ws2 ts2 p1 p2 p3 p4 _ a6.out a7.out hn hm a8.out a9.out hn2 hm2
 rw [E1.out] at hc
 try dsimp only at hc
 have HC:=hid hc;clear hc
 go_wp2_with fail
 refine HC.out.mono ?_
 rintro e d0 ⟨rfl,hb⟩
 clear HC
 clear c9 b0 b1 b2 b3 b4 b5 b6 b7 b8
 have a0:=hid hb
 clear hb
 replace a2:=kH a2 a0
 obtain ⟨b9,c0,c1⟩:=at3 a2
 replace a3:=kH a3 a0
 obtain ⟨c2,c3,c4⟩:=at3 a3
 replace a4:=kH a4 a0
 obtain ⟨c5,c6,c7,c8⟩:=at4 a4
 replace a6:=rH a6 a0
 replace a7:=rH a7 a0
 replace a8:=rH a8 a0
 replace a9:=rH a9 a0
 have hc:=rmeets_any c A B n k m j ws ts d C D n2 k2 m2 j2 ws2 ts2 p1 p2 p3 p4 _ a6.out a7.out hn hm a8.out a9.out hn2 hm2 E1.out
 rw [EM.out] at hc
 try dsimp only at hc
 have HC:=hid hc;clear hc
 go_wp2_with fail
 refine HC.out.mono ?_
 rintro e d1 ⟨rfl,hb⟩
 clear HC
 clear b9 c0 c1 c2 c3 c4 c5 c6 c7 c8
 have a5:=hid hb
 clear hb
 replace a2:=kH a2 a5
 obtain ⟨d2,d3,d4⟩:=at3 a2
 replace a3:=kH a3 a5
 obtain ⟨d5,d6,d7⟩:=at3 a3
 replace a4:=kH a4 a5
 obtain ⟨d8,d9,e0,e1⟩:=at4 a4
 go_wp2
 go_ret2
 replace a1:=bH (bH a1 a0) a5
 exact ⟨rfl,a1.out⟩
theorem rMeets_any (c:Int) (A B:Option Addr) (n k m j:Nat) (ws ts:List Bnd) (d:Int) (C D:Option Addr) (n2 k2 m2 j2:Nat) (ws2 ts2:List Bnd) (p1 p2 p3 p4:Int) (w:World) (h1:RdB w A n k ws) (h2:RdB w B m j ts) (hn:n≤maxLen) (hm:m≤maxLen) (h3:RdB w C n2 k2 ws2) (h4:RdB w D m2 j2 ts2) (hn2:n2≤maxLen) (hm2:m2≤maxLen):Calls Tryz.prog 13 #[.agg #[.int .i64 c,.slice A n k,.slice B m j],.agg #[.int .i64 d,.slice C n2 k2,.slice D m2 j2],.agg #[.int .i64 p1,.int .i64 p2,.int .i64 p3,.int .i64 p4]] w fun e w'=>e=.returned (.tuple #[.bool (meetsV ⟨c,ws,ts⟩ ⟨d,ws2,ts2⟩ ⟨p1,p2,p3,p4⟩).1,.int .i64 (meetsV ⟨c,ws,ts⟩ ⟨d,ws2,ts2⟩ ⟨p1,p2,p3,p4⟩).2])∧Below w.heap.size w w':=by
 unfold meetsV
 by_cases hq:asked ⟨c,ws,ts⟩ ⟨d,ws2,ts2⟩ ⟨p1,p2,p3,p4⟩=0
 · rw [if_pos hq]
   exact rMeets_o c A B n k m j ws ts d C D n2 k2 m2 j2 ws2 ts2 p1 p2 p3 p4 w h1 h2 hn hm h3 h4 hn2 hm2 (hid hq) _ (hid rfl)
 · rw [if_neg hq]
   exact rMeets_e c A B n k m j ws ts d C D n2 k2 m2 j2 ws2 ts2 p1 p2 p3 p4 w h1 h2 hn hm h3 h4 hn2 hm2 _ (by simpa using hq) (hid rfl)
set_option maxRecDepth 100000 in
theorem rFewJ_w (c:Int) (A B:Option Addr) (n k m j:Nat) (ws ts:List Bnd) (d:Int) (C D:Option Addr) (n2 k2 m2 j2:Nat) (ws2 ts2:List Bnd) (p1 p2 p3 p4:Int) (w:World) (h1:RdB w A n k ws) (h2:RdB w B m j ts) (hn:n≤maxLen) (hm:m≤maxLen) (h3:RdB w C n2 k2 ws2) (h4:RdB w D m2 j2 ts2) (hn2:n2≤maxLen) (hm2:m2≤maxLen) (HQ1:Hid (chkP ⟨c,ws,ts⟩ ⟨d,ws2,ts2⟩ ⟨p1,p2,p3,p4⟩=0)) (HL1:Hid ((jL false ⟨c,ws,ts⟩ ⟨d,ws2,ts2⟩ ⟨p1,p2,p3,p4⟩).length≤400)) (HL2:Hid ((jL true ⟨c,ws,ts⟩ ⟨d,ws2,ts2⟩ ⟨p1,p2,p3,p4⟩).length≤400)) (K1:Hid (chk (jP false ⟨c,ws,ts⟩ ⟨d,ws2,ts2⟩ ⟨p1,p2,p3,p4⟩) (jL false ⟨c,ws,ts⟩ ⟨d,ws2,ts2⟩ ⟨p1,p2,p3,p4⟩)=0)) (K2:Hid (chk (jP true ⟨c,ws,ts⟩ ⟨d,ws2,ts2⟩ ⟨p1,p2,p3,p4⟩) (jL true ⟨c,ws,ts⟩ ⟨d,ws2,ts2⟩ ⟨p1,p2,p3,p4⟩)=0)) (S1:Hid (slv (jP false ⟨c,ws,ts⟩ ⟨d,ws2,ts2⟩ ⟨p1,p2,p3,p4⟩) (jL false ⟨c,ws,ts⟩ ⟨d,ws2,ts2⟩ ⟨p1,p2,p3,p4⟩)=false)) (f:Int) (F1:Hid ((fewA (jL false ⟨c,ws,ts⟩ ⟨d,ws2,ts2⟩ ⟨p1,p2,p3,p4⟩) (jP false ⟨c,ws,ts⟩ ⟨d,ws2,ts2⟩ ⟨p1,p2,p3,p4⟩).toNat (jP false ⟨c,ws,ts⟩ ⟨d,ws2,ts2⟩ ⟨p1,p2,p3,p4⟩).toNat:Nat)=f)):Calls Tryz.prog 16 #[.agg #[.int .i64 c,.slice A n k,.slice B m j],.agg #[.int .i64 d,.slice C n2 k2,.slice D m2 j2],.agg #[.int .i64 p1,.int .i64 p2,.int .i64 p3,.int .i64 p4]] w fun e w'=>e=.returned (.tuple #[.int .i64 f,.bool false])∧Below w.heap.size w w':=by
 go_enter Tryz.func16,Tryz.ntmps16
 obtain ⟨a0,a1,a2,a5⟩:=ent3 w #[.int .i64 c,.slice A n k,.slice B m j] 24 #[.int .i64 d,.slice C n2 k2,.slice D m2 j2] 24 #[.int .i64 p1,.int .i64 p2,.int .i64 p3,.int .i64 p4] 28
 have a8:=rI h1 a5
 have a9:=rI h2 a5
 have b0:=rI h3 a5
 have b1:=rI h4 a5
 clear h1 h2 h3 h4
 obtain ⟨f3,b4,b5⟩:=at3 a0
 obtain ⟨b6,b7,b8⟩:=at3 a1
 obtain ⟨b9,c0,c1,c2⟩:=at4 a2
 have hc:=rjoint_any false c A B n k m j ws ts d C D n2 k2 m2 j2 ws2 ts2 p1 p2 p3 p4 _ a8.out a9.out hn hm b0.out b1.out hn2 hm2 HQ1.out
 have HC:=hid hc;clear hc
 go_wp2_with fail
 refine HC.out.mono ?_
 rintro e f4 ⟨Ar4,nr4,kr4,rfl,hrl,hb⟩
 clear HC
 clear f3 b4 b5 b6 b7 b8 b9 c0 c1 c2
 have a3:=hid hb
 clear hb
 have b2:=hid (hrl)
 clear hrl
 replace a0:=kH a0 a3
 obtain ⟨c3,c4,c5⟩:=at3 a0
 replace a1:=kH a1 a3
 obtain ⟨c6,c7,c8⟩:=at3 a1
 replace a2:=kH a2 a3
 obtain ⟨c9,d0,d1,d2⟩:=at4 a2
 have hl4_:nr4≤maxLen:=by have h1:=(b2.out).len;have h2:=HL1.out;unfold maxLen;omega
 have hc:=rsolved_any _ Ar4 nr4 kr4 _ _ b2.out hl4_ K1.out
 rw [S1.out] at hc
 try dsimp only at hc
 have HC:=hid hc;clear hc
 go_wp2_with fail
 refine HC.out.mono ?_
 rintro e f5 ⟨rfl,hb⟩
 clear HC
 clear c3 c4 c5 c6 c7 c8 c9 d0 d1 d2
 have a4:=hid hb
 clear hb
 replace a0:=kH a0 a4
 obtain ⟨d3,d4,d5⟩:=at3 a0
 replace a1:=kH a1 a4
 obtain ⟨d6,d7,d8⟩:=at3 a1
 replace a2:=kH a2 a4
 obtain ⟨d9,e0,e1,e2⟩:=at4 a2
 replace a8:=rH (rH a8 a3) a4
 replace a9:=rH (rH a9 a3) a4
 replace b0:=rH (rH b0 a3) a4
 replace b1:=rH (rH b1 a3) a4
 have hc:=rjoint_any false c A B n k m j ws ts d C D n2 k2 m2 j2 ws2 ts2 p1 p2 p3 p4 _ a8.out a9.out hn hm b0.out b1.out hn2 hm2 HQ1.out
 have HC:=hid hc;clear hc
 go_wp2_with fail
 refine HC.out.mono ?_
 rintro e f6 ⟨Ar5,nr5,kr5,rfl,hrl,hb⟩
 clear HC
 clear d3 d4 d5 d6 d7 d8 d9 e0 e1 e2
 have a6:=hid hb
 clear hb
 have b3:=hid (hrl)
 clear hrl
 replace a0:=kH a0 a6
 obtain ⟨e3,e4,e5⟩:=at3 a0
 replace a1:=kH a1 a6
 obtain ⟨e6,e7,e8⟩:=at3 a1
 replace a2:=kH a2 a6
 obtain ⟨e9,f0,f1,f2⟩:=at4 a2
 have hl5_:nr5≤maxLen:=by have h1:=(b3.out).len;have h2:=HL1.out;unfold maxLen;omega
 have hc:=rFewest_at _ Ar5 nr5 kr5 _ _ b3.out K1.out
 rw [F1.out] at hc
 try dsimp only at hc
 have HC:=hid hc;clear hc
 go_wp2_with fail
 refine HC.out.mono ?_
 rintro e f7 ⟨rfl,hb⟩
 clear HC
 clear e3 e4 e5 e6 e7 e8 e9 f0 f1 f2
 have a7:=hid hb
 clear hb
 replace a0:=kH a0 a7
 obtain ⟨f8,f9,g0⟩:=at3 a0
 replace a1:=kH a1 a7
 obtain ⟨g1,g2,g3⟩:=at3 a1
 replace a2:=kH a2 a7
 obtain ⟨g4,g5,g6,g7⟩:=at4 a2
 go_wp2
 go_ret2
 replace a5:=bH (bH (bH (bH a5 a3) a4) a6) a7
 exact ⟨rfl,a5.out⟩
set_option maxRecDepth 100000 in
theorem rFewJ_t (c:Int) (A B:Option Addr) (n k m j:Nat) (ws ts:List Bnd) (d:Int) (C D:Option Addr) (n2 k2 m2 j2:Nat) (ws2 ts2:List Bnd) (p1 p2 p3 p4:Int) (w:World) (h1:RdB w A n k ws) (h2:RdB w B m j ts) (hn:n≤maxLen) (hm:m≤maxLen) (h3:RdB w C n2 k2 ws2) (h4:RdB w D m2 j2 ts2) (hn2:n2≤maxLen) (hm2:m2≤maxLen) (HQ1:Hid (chkP ⟨c,ws,ts⟩ ⟨d,ws2,ts2⟩ ⟨p1,p2,p3,p4⟩=0)) (HL1:Hid ((jL false ⟨c,ws,ts⟩ ⟨d,ws2,ts2⟩ ⟨p1,p2,p3,p4⟩).length≤400)) (HL2:Hid ((jL true ⟨c,ws,ts⟩ ⟨d,ws2,ts2⟩ ⟨p1,p2,p3,p4⟩).length≤400)) (K1:Hid (chk (jP false ⟨c,ws,ts⟩ ⟨d,ws2,ts2⟩ ⟨p1,p2,p3,p4⟩) (jL false ⟨c,ws,ts⟩ ⟨d,ws2,ts2⟩ ⟨p1,p2,p3,p4⟩)=0)) (K2:Hid (chk (jP true ⟨c,ws,ts⟩ ⟨d,ws2,ts2⟩ ⟨p1,p2,p3,p4⟩) (jL true ⟨c,ws,ts⟩ ⟨d,ws2,ts2⟩ ⟨p1,p2,p3,p4⟩)=0)) (S1:Hid (slv (jP false ⟨c,ws,ts⟩ ⟨d,ws2,ts2⟩ ⟨p1,p2,p3,p4⟩) (jL false ⟨c,ws,ts⟩ ⟨d,ws2,ts2⟩ ⟨p1,p2,p3,p4⟩)=true)) (S2:Hid (slv (jP true ⟨c,ws,ts⟩ ⟨d,ws2,ts2⟩ ⟨p1,p2,p3,p4⟩) (jL true ⟨c,ws,ts⟩ ⟨d,ws2,ts2⟩ ⟨p1,p2,p3,p4⟩)=false)) (f:Int) (F1:Hid ((fewA (jL true ⟨c,ws,ts⟩ ⟨d,ws2,ts2⟩ ⟨p1,p2,p3,p4⟩) (jP true ⟨c,ws,ts⟩ ⟨d,ws2,ts2⟩ ⟨p1,p2,p3,p4⟩).toNat (jP true ⟨c,ws,ts⟩ ⟨d,ws2,ts2⟩ ⟨p1,p2,p3,p4⟩).toNat:Nat)=f)):Calls Tryz.prog 16 #[.agg #[.int .i64 c,.slice A n k,.slice B m j],.agg #[.int .i64 d,.slice C n2 k2,.slice D m2 j2],.agg #[.int .i64 p1,.int .i64 p2,.int .i64 p3,.int .i64 p4]] w fun e w'=>e=.returned (.tuple #[.int .i64 f,.bool true])∧Below w.heap.size w w':=by
 go_enter Tryz.func16,Tryz.ntmps16
 obtain ⟨a0,a1,a2,a7⟩:=ent3 w #[.int .i64 c,.slice A n k,.slice B m j] 24 #[.int .i64 d,.slice C n2 k2,.slice D m2 j2] 24 #[.int .i64 p1,.int .i64 p2,.int .i64 p3,.int .i64 p4] 28
 have a8:=rI h1 a7
 have a9:=rI h2 a7
 have b0:=rI h3 a7
 have b1:=rI h4 a7
 clear h1 h2 h3 h4
 obtain ⟨i0,b7,b8⟩:=at3 a0
 obtain ⟨b9,c0,c1⟩:=at3 a1
 obtain ⟨c2,c3,c4,c5⟩:=at4 a2
 have hc:=rjoint_any false c A B n k m j ws ts d C D n2 k2 m2 j2 ws2 ts2 p1 p2 p3 p4 _ a8.out a9.out hn hm b0.out b1.out hn2 hm2 HQ1.out
 have HC:=hid hc;clear hc
 go_wp2_with fail
 refine HC.out.mono ?_
 rintro e i1 ⟨Ar6,nr6,kr6,rfl,hrl,hb⟩
 clear HC
 clear i0 b7 b8 b9 c0 c1 c2 c3 c4 c5
 have a3:=hid hb
 clear hb
 have b4:=hid (hrl)
 clear hrl
 replace a0:=kH a0 a3
 obtain ⟨c6,c7,c8⟩:=at3 a0
 replace a1:=kH a1 a3
 obtain ⟨c9,d0,d1⟩:=at3 a1
 replace a2:=kH a2 a3
 obtain ⟨d2,d3,d4,d5⟩:=at4 a2
 have hl6_:nr6≤maxLen:=by have h1:=(b4.out).len;have h2:=HL1.out;unfold maxLen;omega
 have hc:=rsolved_any _ Ar6 nr6 kr6 _ _ b4.out hl6_ K1.out
 rw [S1.out] at hc
 try dsimp only at hc
 have HC:=hid hc;clear hc
 go_wp2_with fail
 refine HC.out.mono ?_
 rintro e i2 ⟨rfl,hb⟩
 clear HC
 clear c6 c7 c8 c9 d0 d1 d2 d3 d4 d5
 have a4:=hid hb
 clear hb
 replace a0:=kH a0 a4
 obtain ⟨d6,d7,d8⟩:=at3 a0
 replace a1:=kH a1 a4
 obtain ⟨d9,e0,e1⟩:=at3 a1
 replace a2:=kH a2 a4
 obtain ⟨e2,e3,e4,e5⟩:=at4 a2
 replace a8:=rH (rH a8 a3) a4
 replace a9:=rH (rH a9 a3) a4
 replace b0:=rH (rH b0 a3) a4
 replace b1:=rH (rH b1 a3) a4
 have hc:=rjoint_any true c A B n k m j ws ts d C D n2 k2 m2 j2 ws2 ts2 p1 p2 p3 p4 _ a8.out a9.out hn hm b0.out b1.out hn2 hm2 HQ1.out
 have HC:=hid hc;clear hc
 go_wp2_with fail
 refine HC.out.mono ?_
 rintro e i3 ⟨Ar7,nr7,kr7,rfl,hrl,hb⟩
 clear HC
 clear d6 d7 d8 d9 e0 e1 e2 e3 e4 e5
 have a5:=hid hb
 clear hb
 have b5:=hid (hrl)
 clear hrl
 replace a0:=kH a0 a5
 obtain ⟨e6,e7,e8⟩:=at3 a0
 replace a1:=kH a1 a5
 obtain ⟨e9,f0,f1⟩:=at3 a1
 replace a2:=kH a2 a5
 obtain ⟨f2,f3,f4,f5⟩:=at4 a2
 have hl7_:nr7≤maxLen:=by have h1:=(b5.out).len;have h2:=HL2.out;unfold maxLen;omega
 have hc:=rsolved_any _ Ar7 nr7 kr7 _ _ b5.out hl7_ K2.out
 rw [S2.out] at hc
 try dsimp only at hc
 have HC:=hid hc;clear hc
 go_wp2_with fail
 refine HC.out.mono ?_
 rintro e i4 ⟨rfl,hb⟩
 clear HC
 clear e6 e7 e8 e9 f0 f1 f2 f3 f4 f5
 have a6:=hid hb
 clear hb
 replace a0:=kH a0 a6
 obtain ⟨f6,f7,f8⟩:=at3 a0
 replace a1:=kH a1 a6
 obtain ⟨f9,g0,g1⟩:=at3 a1
 replace a2:=kH a2 a6
 obtain ⟨g2,g3,g4,g5⟩:=at4 a2
 replace a8:=rH (rH a8 a5) a6
 replace a9:=rH (rH a9 a5) a6
 replace b0:=rH (rH b0 a5) a6
 replace b1:=rH (rH b1 a5) a6
 have hc:=rjoint_any true c A B n k m j ws ts d C D n2 k2 m2 j2 ws2 ts2 p1 p2 p3 p4 _ a8.out a9.out hn hm b0.out b1.out hn2 hm2 HQ1.out
 have HC:=hid hc;clear hc
 go_wp2_with fail
 refine HC.out.mono ?_
 rintro e i5 ⟨Ar8,nr8,kr8,rfl,hrl,hb⟩
 clear HC
 clear f6 f7 f8 f9 g0 g1 g2 g3 g4 g5
 have b2:=hid hb
 clear hb
 have b6:=hid (hrl)
 clear hrl
 replace a0:=kH a0 b2
 obtain ⟨g6,g7,g8⟩:=at3 a0
 replace a1:=kH a1 b2
 obtain ⟨g9,h0,h5⟩:=at3 a1
 replace a2:=kH a2 b2
 obtain ⟨h6,h7,h8,h9⟩:=at4 a2
 have hl8_:nr8≤maxLen:=by have h1:=(b6.out).len;have h2:=HL2.out;unfold maxLen;omega
 have hc:=rFewest_at _ Ar8 nr8 kr8 _ _ b6.out K2.out
 rw [F1.out] at hc
 try dsimp only at hc
 have HC:=hid hc;clear hc
 go_wp2_with fail
 refine HC.out.mono ?_
 rintro e i6 ⟨rfl,hb⟩
 clear HC
 clear g6 g7 g8 g9 h0 h5 h6 h7 h8 h9
 have b3:=hid hb
 clear hb
 replace a0:=kH a0 b3
 obtain ⟨i7,i8,i9⟩:=at3 a0
 replace a1:=kH a1 b3
 obtain ⟨j0,j1,j3⟩:=at3 a1
 replace a2:=kH a2 b3
 obtain ⟨j4,j5,j6,j7⟩:=at4 a2
 go_wp2
 go_ret2
 replace a7:=bH (bH (bH (bH (bH (bH a7 a3) a4) a5) a6) b2) b3
 exact ⟨rfl,a7.out⟩
set_option maxRecDepth 100000 in
theorem rFewJ_n (c:Int) (A B:Option Addr) (n k m j:Nat) (ws ts:List Bnd) (d:Int) (C D:Option Addr) (n2 k2 m2 j2:Nat) (ws2 ts2:List Bnd) (p1 p2 p3 p4:Int) (w:World) (h1:RdB w A n k ws) (h2:RdB w B m j ts) (hn:n≤maxLen) (hm:m≤maxLen) (h3:RdB w C n2 k2 ws2) (h4:RdB w D m2 j2 ts2) (hn2:n2≤maxLen) (hm2:m2≤maxLen) (HQ1:Hid (chkP ⟨c,ws,ts⟩ ⟨d,ws2,ts2⟩ ⟨p1,p2,p3,p4⟩=0)) (HL1:Hid ((jL false ⟨c,ws,ts⟩ ⟨d,ws2,ts2⟩ ⟨p1,p2,p3,p4⟩).length≤400)) (HL2:Hid ((jL true ⟨c,ws,ts⟩ ⟨d,ws2,ts2⟩ ⟨p1,p2,p3,p4⟩).length≤400)) (K1:Hid (chk (jP false ⟨c,ws,ts⟩ ⟨d,ws2,ts2⟩ ⟨p1,p2,p3,p4⟩) (jL false ⟨c,ws,ts⟩ ⟨d,ws2,ts2⟩ ⟨p1,p2,p3,p4⟩)=0)) (K2:Hid (chk (jP true ⟨c,ws,ts⟩ ⟨d,ws2,ts2⟩ ⟨p1,p2,p3,p4⟩) (jL true ⟨c,ws,ts⟩ ⟨d,ws2,ts2⟩ ⟨p1,p2,p3,p4⟩)=0)) (S1:Hid (slv (jP false ⟨c,ws,ts⟩ ⟨d,ws2,ts2⟩ ⟨p1,p2,p3,p4⟩) (jL false ⟨c,ws,ts⟩ ⟨d,ws2,ts2⟩ ⟨p1,p2,p3,p4⟩)=true)) (S2:Hid (slv (jP true ⟨c,ws,ts⟩ ⟨d,ws2,ts2⟩ ⟨p1,p2,p3,p4⟩) (jL true ⟨c,ws,ts⟩ ⟨d,ws2,ts2⟩ ⟨p1,p2,p3,p4⟩)=true)):Calls Tryz.prog 16 #[.agg #[.int .i64 c,.slice A n k,.slice B m j],.agg #[.int .i64 d,.slice C n2 k2,.slice D m2 j2],.agg #[.int .i64 p1,.int .i64 p2,.int .i64 p3,.int .i64 p4]] w fun e w'=>e=.returned (.tuple #[.int .i64 0,.bool false])∧Below w.heap.size w w':=by
 go_enter Tryz.func16,Tryz.ntmps16
 obtain ⟨a0,a1,a2,a5⟩:=ent3 w #[.int .i64 c,.slice A n k,.slice B m j] 24 #[.int .i64 d,.slice C n2 k2,.slice D m2 j2] 24 #[.int .i64 p1,.int .i64 p2,.int .i64 p3,.int .i64 p4] 28
 have a9:=rI h1 a5
 have b0:=rI h2 a5
 have b1:=rI h3 a5
 have b2:=rI h4 a5
 clear h1 h2 h3 h4
 obtain ⟨f3,b4,b5⟩:=at3 a0
 obtain ⟨b6,b7,b8⟩:=at3 a1
 obtain ⟨b9,c0,c1,c2⟩:=at4 a2
 have hc:=rjoint_any false c A B n k m j ws ts d C D n2 k2 m2 j2 ws2 ts2 p1 p2 p3 p4 _ a9.out b0.out hn hm b1.out b2.out hn2 hm2 HQ1.out
 have HC:=hid hc;clear hc
 go_wp2_with fail
 refine HC.out.mono ?_
 rintro e f4 ⟨Ar9,nr9,kr9,rfl,hrl,hb⟩
 clear HC
 clear f3 b4 b5 b6 b7 b8 b9 c0 c1 c2
 have a3:=hid hb
 clear hb
 have b3:=hid (hrl)
 clear hrl
 replace a0:=kH a0 a3
 obtain ⟨c3,c4,c5⟩:=at3 a0
 replace a1:=kH a1 a3
 obtain ⟨c6,c7,c8⟩:=at3 a1
 replace a2:=kH a2 a3
 obtain ⟨c9,d0,d1,d2⟩:=at4 a2
 have hl9_:nr9≤maxLen:=by have h1:=(b3.out).len;have h2:=HL1.out;unfold maxLen;omega
 have hc:=rsolved_any _ Ar9 nr9 kr9 _ _ b3.out hl9_ K1.out
 rw [S1.out] at hc
 try dsimp only at hc
 have HC:=hid hc;clear hc
 go_wp2_with fail
 refine HC.out.mono ?_
 rintro e f5 ⟨rfl,hb⟩
 clear HC
 clear c3 c4 c5 c6 c7 c8 c9 d0 d1 d2
 have a4:=hid hb
 clear hb
 replace a0:=kH a0 a4
 obtain ⟨d3,d4,d5⟩:=at3 a0
 replace a1:=kH a1 a4
 obtain ⟨d6,d7,d8⟩:=at3 a1
 replace a2:=kH a2 a4
 obtain ⟨d9,e0,e1,e2⟩:=at4 a2
 replace a9:=rH (rH a9 a3) a4
 replace b0:=rH (rH b0 a3) a4
 replace b1:=rH (rH b1 a3) a4
 replace b2:=rH (rH b2 a3) a4
 have hc:=rjoint_any true c A B n k m j ws ts d C D n2 k2 m2 j2 ws2 ts2 p1 p2 p3 p4 _ a9.out b0.out hn hm b1.out b2.out hn2 hm2 HQ1.out
 have HC:=hid hc;clear hc
 go_wp2_with fail
 refine HC.out.mono ?_
 rintro e f6 ⟨Ar10,nr10,kr10,rfl,hrl,hb⟩
 clear HC
 clear d3 d4 d5 d6 d7 d8 d9 e0 e1 e2
 have a6:=hid hb
 clear hb
 have a8:=hid (hrl)
 clear hrl
 replace a0:=kH a0 a6
 obtain ⟨e3,e4,e5⟩:=at3 a0
 replace a1:=kH a1 a6
 obtain ⟨e6,e7,e8⟩:=at3 a1
 replace a2:=kH a2 a6
 obtain ⟨e9,f0,f1,f2⟩:=at4 a2
 have hl10_:nr10≤maxLen:=by have h1:=(a8.out).len;have h2:=HL2.out;unfold maxLen;omega
 have hc:=rsolved_any _ Ar10 nr10 kr10 _ _ a8.out hl10_ K2.out
 rw [S2.out] at hc
 try dsimp only at hc
 have HC:=hid hc;clear hc
 go_wp2_with fail
 refine HC.out.mono ?_
 rintro e f7 ⟨rfl,hb⟩
 clear HC
 clear e3 e4 e5 e6 e7 e8 e9 f0 f1 f2
 have a7:=hid hb
 clear hb
 replace a0:=kH a0 a7
 obtain ⟨f8,f9,g0⟩:=at3 a0
 replace a1:=kH a1 a7
 obtain ⟨g1,g2,g3⟩:=at3 a1
 replace a2:=kH a2 a7
 obtain ⟨g4,g5,g6,g7⟩:=at4 a2
 go_wp2
 go_ret2
 replace a5:=bH (bH (bH (bH a5 a3) a4) a6) a7
 exact ⟨rfl,a5.out⟩
theorem rFewJ_any (c:Int) (A B:Option Addr) (n k m j:Nat) (ws ts:List Bnd) (d:Int) (C D:Option Addr) (n2 k2 m2 j2:Nat) (ws2 ts2:List Bnd) (p1 p2 p3 p4:Int) (w:World) (h1:RdB w A n k ws) (h2:RdB w B m j ts) (hn:n≤maxLen) (hm:m≤maxLen) (h3:RdB w C n2 k2 ws2) (h4:RdB w D m2 j2 ts2) (hn2:n2≤maxLen) (hm2:m2≤maxLen) (hq:asked ⟨c,ws,ts⟩ ⟨d,ws2,ts2⟩ ⟨p1,p2,p3,p4⟩=0) (V:Int × Bool) (hV:fewJ ⟨c,ws,ts⟩ ⟨d,ws2,ts2⟩ ⟨p1,p2,p3,p4⟩=V):Calls Tryz.prog 16 #[.agg #[.int .i64 c,.slice A n k,.slice B m j],.agg #[.int .i64 d,.slice C n2 k2,.slice D m2 j2],.agg #[.int .i64 p1,.int .i64 p2,.int .i64 p3,.int .i64 p4]] w fun e w'=>e=.returned (.tuple #[.int .i64 V.1,.bool V.2])∧Below w.heap.size w w':=by
 subst hV
 unfold fewJ
 cases hs:wayS ⟨c,ws,ts⟩ ⟨d,ws2,ts2⟩ ⟨p1,p2,p3,p4⟩
 · rw [if_pos rfl]
   exact rFewJ_w c A B n k m j ws ts d C D n2 k2 m2 j2 ws2 ts2 p1 p2 p3 p4 w h1 h2 hn hm h3 h4 hn2 hm2 (hid (asked_ok hq).1) (hid (jL_len hq false)) (hid (jL_len hq true)) (hid (jL_chk hq false)) (hid (jL_chk hq true)) (hid hs) _ (hid rfl)
 · rw [if_neg (by simp)]
   cases ht:turnS ⟨c,ws,ts⟩ ⟨d,ws2,ts2⟩ ⟨p1,p2,p3,p4⟩
   · rw [if_pos rfl]
     exact rFewJ_t c A B n k m j ws ts d C D n2 k2 m2 j2 ws2 ts2 p1 p2 p3 p4 w h1 h2 hn hm h3 h4 hn2 hm2 (hid (asked_ok hq).1) (hid (jL_len hq false)) (hid (jL_len hq true)) (hid (jL_chk hq false)) (hid (jL_chk hq true)) (hid hs) (hid ht) _ (hid rfl)
   · rw [if_neg (by simp)]
     exact rFewJ_n c A B n k m j ws ts d C D n2 k2 m2 j2 ws2 ts2 p1 p2 p3 p4 w h1 h2 hn hm h3 h4 hn2 hm2 (hid (asked_ok hq).1) (hid (jL_len hq false)) (hid (jL_len hq true)) (hid (jL_chk hq false)) (hid (jL_chk hq true)) (hid hs) (hid ht)
end Go.Proofs.YtjjmifcjailpaaaGreat
