import Derived.Test.YtjjmifcjailpaaaGreatUEShared
import Derived.Test.YtjjmifcjailpaaaGreatUREndsb
import Derived.Test.YtjjmifcjailpaaaGreatUERefC
import Derived.Test.YtjjmifcjailpaaaGreatUERefS
set_option maxHeartbeats 4000000
set_option linter.unusedSimpArgs false
set_option linter.unusedVariables false
namespace Go.Proofs.YtjjmifcjailpaaaGreat
open Go.Lib (hid)
open Go.RowKit
set_option maxRecDepth 100000 in
theorem rShared_e (c:Int) (A B:Option Addr) (n k m j:Nat) (ws ts:List Bnd) (d:Int) (C D:Option Addr) (n2 k2 m2 j2:Nat) (ws2 ts2:List Bnd) (p1 p2 p3 p4:Int) (w:World) (h1:RdB w A n k ws) (h2:RdB w B m j ts) (hn:n≤maxLen) (hm:m≤maxLen) (h3:RdB w C n2 k2 ws2) (h4:RdB w D m2 j2 ts2) (hn2:n2≤maxLen) (hm2:m2≤maxLen) (q:Int) (hne:(q != 0)=true) (E1:Hid (asked ⟨c,ws,ts⟩ ⟨d,ws2,ts2⟩ ⟨p1,p2,p3,p4⟩=q)):Calls Tryz.prog 24 #[.agg #[.int .i64 c,.slice A n k,.slice B m j],.agg #[.int .i64 d,.slice C n2 k2,.slice D m2 j2],.agg #[.int .i64 p1,.int .i64 p2,.int .i64 p3,.int .i64 p4]] w fun e w'=>e=.returned (.tuple #[.int .i64 0,.int .i64 0,.int .i64 q])∧Below w.heap.size w w':=by
 go_enter Tryz.func24,Tryz.ntmps24
 obtain ⟨a2,a3,a4,a0⟩:=ent3 w #[.int .i64 c,.slice A n k,.slice B m j] 24 #[.int .i64 d,.slice C n2 k2,.slice D m2 j2] 24 #[.int .i64 p1,.int .i64 p2,.int .i64 p3,.int .i64 p4] 28
 have a5:=rI h1 a0
 have a6:=rI h2 a0
 have a7:=rI h3 a0
 have a8:=rI h4 a0
 clear h1 h2 h3 h4
 obtain ⟨b8,a9,b0⟩:=at3 a2
 obtain ⟨b1,b2,b3⟩:=at3 a3
 obtain ⟨b4,b5,b6,b7⟩:=at4 a4
 have hc:=rAsked_any c A B n k m j ws ts d C D n2 k2 m2 j2 ws2 ts2 p1 p2 p3 p4 _ a5.out a6.out hn hm a7.out a8.out hn2 hm2
 rw [E1.out] at hc
 try dsimp only at hc
 have HC:=hid hc;clear hc
 go_wp2_with fail
 refine HC.out.mono ?_
 rintro e b9 ⟨rfl,hb⟩
 clear HC
 clear b8 a9 b0 b1 b2 b3 b4 b5 b6 b7
 have a1:=hid hb
 clear hb
 replace a2:=kH a2 a1
 obtain ⟨c0,c1,c2⟩:=at3 a2
 replace a3:=kH a3 a1
 obtain ⟨c3,c4,c5⟩:=at3 a3
 replace a4:=kH a4 a1
 obtain ⟨c6,c7,c8,c9⟩:=at4 a4
 go_wp2
 go_ret3
 replace a0:=bH a0 a1
 exact ⟨rfl,a0.out⟩
set_option maxRecDepth 100000 in
theorem rShared_n (c:Int) (A B:Option Addr) (n k m j:Nat) (ws ts:List Bnd) (d:Int) (C D:Option Addr) (n2 k2 m2 j2:Nat) (ws2 ts2:List Bnd) (p1 p2 p3 p4:Int) (w:World) (h1:RdB w A n k ws) (h2:RdB w B m j ts) (hn:n≤maxLen) (hm:m≤maxLen) (h3:RdB w C n2 k2 ws2) (h4:RdB w D m2 j2 ts2) (hn2:n2≤maxLen) (hm2:m2≤maxLen) (E1:Hid (asked ⟨c,ws,ts⟩ ⟨d,ws2,ts2⟩ ⟨p1,p2,p3,p4⟩=0)) (EM:Hid (meetsB ⟨c,ws,ts⟩ ⟨d,ws2,ts2⟩ ⟨p1,p2,p3,p4⟩=false)):Calls Tryz.prog 24 #[.agg #[.int .i64 c,.slice A n k,.slice B m j],.agg #[.int .i64 d,.slice C n2 k2,.slice D m2 j2],.agg #[.int .i64 p1,.int .i64 p2,.int .i64 p3,.int .i64 p4]] w fun e w'=>e=.returned (.tuple #[.int .i64 0,.int .i64 0,.int .i64 30])∧Below w.heap.size w w':=by
 go_enter Tryz.func24,Tryz.ntmps24
 obtain ⟨a2,a3,a4,a1⟩:=ent3 w #[.int .i64 c,.slice A n k,.slice B m j] 24 #[.int .i64 d,.slice C n2 k2,.slice D m2 j2] 24 #[.int .i64 p1,.int .i64 p2,.int .i64 p3,.int .i64 p4] 28
 have a6:=rI h1 a1
 have a7:=rI h2 a1
 have a8:=rI h3 a1
 have a9:=rI h4 a1
 clear h1 h2 h3 h4
 obtain ⟨c9,b0,b1⟩:=at3 a2
 obtain ⟨b2,b3,b4⟩:=at3 a3
 obtain ⟨b5,b6,b7,b8⟩:=at4 a4
 have hc:=rAsked_any c A B n k m j ws ts d C D n2 k2 m2 j2 ws2 ts2 p1 p2 p3 p4 _ a6.out a7.out hn hm a8.out a9.out hn2 hm2
 rw [E1.out] at hc
 try dsimp only at hc
 have HC:=hid hc;clear hc
 go_wp2_with fail
 refine HC.out.mono ?_
 rintro e d0 ⟨rfl,hb⟩
 clear HC
 clear c9 b0 b1 b2 b3 b4 b5 b6 b7 b8
 have a0:=hid hb
 clear hb
 replace a2:=kH a2 a0
 obtain ⟨b9,c0,c1⟩:=at3 a2
 replace a3:=kH a3 a0
 obtain ⟨c2,c3,c4⟩:=at3 a3
 replace a4:=kH a4 a0
 obtain ⟨c5,c6,c7,c8⟩:=at4 a4
 replace a6:=rH a6 a0
 replace a7:=rH a7 a0
 replace a8:=rH a8 a0
 replace a9:=rH a9 a0
 have hc:=rmeets_any c A B n k m j ws ts d C D n2 k2 m2 j2 ws2 ts2 p1 p2 p3 p4 _ a6.out a7.out hn hm a8.out a9.out hn2 hm2 E1.out
 rw [EM.out] at hc
 try dsimp only at hc
 have HC:=hid hc;clear hc
 go_wp2_with fail
 refine HC.out.mono ?_
 rintro e d1 ⟨rfl,hb⟩
 clear HC
 clear b9 c0 c1 c2 c3 c4 c5 c6 c7 c8
 have a5:=hid hb
 clear hb
 replace a2:=kH a2 a5
 obtain ⟨d2,d3,d4⟩:=at3 a2
 replace a3:=kH a3 a5
 obtain ⟨d5,d6,d7⟩:=at3 a3
 replace a4:=kH a4 a5
 obtain ⟨d8,d9,e0,e1⟩:=at4 a4
 go_wp2
 go_ret3
 replace a1:=bH (bH a1 a0) a5
 exact ⟨rfl,a1.out⟩
set_option maxRecDepth 100000 in
theorem rShared_tt (c:Int) (A B:Option Addr) (n k m j:Nat) (ws ts:List Bnd) (d:Int) (C D:Option Addr) (n2 k2 m2 j2:Nat) (ws2 ts2:List Bnd) (p1 p2 p3 p4:Int) (w:World) (h1:RdB w A n k ws) (h2:RdB w B m j ts) (hn:n≤maxLen) (hm:m≤maxLen) (h3:RdB w C n2 k2 ws2) (h4:RdB w D m2 j2 ts2) (hn2:n2≤maxLen) (hm2:m2≤maxLen) (HQ1:Hid (chkP ⟨c,ws,ts⟩ ⟨d,ws2,ts2⟩ ⟨p1,p2,p3,p4⟩=0)) (HL1:Hid ((jL false ⟨c,ws,ts⟩ ⟨d,ws2,ts2⟩ ⟨p1,p2,p3,p4⟩).length≤400)) (HL2:Hid ((jL true ⟨c,ws,ts⟩ ⟨d,ws2,ts2⟩ ⟨p1,p2,p3,p4⟩).length≤400)) (K1:Hid (chk (jP false ⟨c,ws,ts⟩ ⟨d,ws2,ts2⟩ ⟨p1,p2,p3,p4⟩) (jL false ⟨c,ws,ts⟩ ⟨d,ws2,ts2⟩ ⟨p1,p2,p3,p4⟩)=0)) (K2:Hid (chk (jP true ⟨c,ws,ts⟩ ⟨d,ws2,ts2⟩ ⟨p1,p2,p3,p4⟩) (jL true ⟨c,ws,ts⟩ ⟨d,ws2,ts2⟩ ⟨p1,p2,p3,p4⟩)=0)) (E1:Hid (asked ⟨c,ws,ts⟩ ⟨d,ws2,ts2⟩ ⟨p1,p2,p3,p4⟩=0)) (EM:Hid (meetsB ⟨c,ws,ts⟩ ⟨d,ws2,ts2⟩ ⟨p1,p2,p3,p4⟩=true)) (X1 X2:Int) (HE1:Hid (tup (leastT (jP false ⟨c,ws,ts⟩ ⟨d,ws2,ts2⟩ ⟨p1,p2,p3,p4⟩) (jL false ⟨c,ws,ts⟩ ⟨d,ws2,ts2⟩ ⟨p1,p2,p3,p4⟩) p1 p2)=.tuple #[.int .i64 X1,.bool true,.int .i64 0])) (HE2:Hid (tup (greatT (jP false ⟨c,ws,ts⟩ ⟨d,ws2,ts2⟩ ⟨p1,p2,p3,p4⟩) (jL false ⟨c,ws,ts⟩ ⟨d,ws2,ts2⟩ ⟨p1,p2,p3,p4⟩) p1 p2)=.tuple #[.int .i64 X2,.bool true,.int .i64 0])):Calls Tryz.prog 24 #[.agg #[.int .i64 c,.slice A n k,.slice B m j],.agg #[.int .i64 d,.slice C n2 k2,.slice D m2 j2],.agg #[.int .i64 p1,.int .i64 p2,.int .i64 p3,.int .i64 p4]] w fun e w'=>e=.returned (.tuple #[.int .i64 X1,.int .i64 X2,.int .i64 0])∧Below w.heap.size w w':=by
 go_enter Tryz.func24,Tryz.ntmps24
 obtain ⟨a0,a1,a2,a4⟩:=ent3 w #[.int .i64 c,.slice A n k,.slice B m j] 24 #[.int .i64 d,.slice C n2 k2,.slice D m2 j2] 24 #[.int .i64 p1,.int .i64 p2,.int .i64 p3,.int .i64 p4] 28
 have a8:=rI h1 a4
 have a9:=rI h2 a4
 have b0:=rI h3 a4
 have b1:=rI h4 a4
 clear h1 h2 h3 h4
 obtain ⟨g9,b5,b6⟩:=at3 a0
 obtain ⟨b7,b8,b9⟩:=at3 a1
 obtain ⟨c0,c1,c2,c3⟩:=at4 a2
 have hc:=rAsked_any c A B n k m j ws ts d C D n2 k2 m2 j2 ws2 ts2 p1 p2 p3 p4 _ a8.out a9.out hn hm b0.out b1.out hn2 hm2
 rw [E1.out] at hc
 try dsimp only at hc
 have HC:=hid hc;clear hc
 go_wp2_with fail
 refine HC.out.mono ?_
 rintro e h0 ⟨rfl,hb⟩
 clear HC
 clear g9 b5 b6 b7 b8 b9 c0 c1 c2 c3
 have a5:=hid hb
 clear hb
 replace a0:=kH a0 a5
 obtain ⟨c4,c5,c6⟩:=at3 a0
 replace a1:=kH a1 a5
 obtain ⟨c7,c8,c9⟩:=at3 a1
 replace a2:=kH a2 a5
 obtain ⟨d0,d1,d2,d3⟩:=at4 a2
 replace a8:=rH a8 a5
 replace a9:=rH a9 a5
 replace b0:=rH b0 a5
 replace b1:=rH b1 a5
 have hc:=rmeets_any c A B n k m j ws ts d C D n2 k2 m2 j2 ws2 ts2 p1 p2 p3 p4 _ a8.out a9.out hn hm b0.out b1.out hn2 hm2 E1.out
 rw [EM.out] at hc
 try dsimp only at hc
 have HC:=hid hc;clear hc
 go_wp2_with fail
 refine HC.out.mono ?_
 rintro e h5 ⟨rfl,hb⟩
 clear HC
 clear c4 c5 c6 c7 c8 c9 d0 d1 d2 d3
 have a6:=hid hb
 clear hb
 replace a0:=kH a0 a6
 obtain ⟨d4,d5,d6⟩:=at3 a0
 replace a1:=kH a1 a6
 obtain ⟨d7,d8,d9⟩:=at3 a1
 replace a2:=kH a2 a6
 obtain ⟨e0,e1,e2,e3⟩:=at4 a2
 replace a8:=rH a8 a6
 replace a9:=rH a9 a6
 replace b0:=rH b0 a6
 replace b1:=rH b1 a6
 have hc:=rjoint_any false c A B n k m j ws ts d C D n2 k2 m2 j2 ws2 ts2 p1 p2 p3 p4 _ a8.out a9.out hn hm b0.out b1.out hn2 hm2 HQ1.out
 have HC:=hid hc;clear hc
 go_wp2_with fail
 refine HC.out.mono ?_
 rintro e e4 ⟨Ar11,nr11,kr11,rfl,hrl,hb⟩
 clear HC
 clear d4 d5 d6 d7 d8 d9 e0 e1 e2 e3
 have a7:=hid hb
 clear hb
 have a3:=hid (hrl)
 clear hrl
 have hl11_:nr11≤maxLen:=by have h1:=(a3.out).len;have h2:=HL1.out;unfold maxLen;omega
 obtain ⟨o_,ho_⟩:∃ o,o=((.cells #[.int .i64 (jP false ⟨c,ws,ts⟩ ⟨d,ws2,ts2⟩ ⟨p1,p2,p3,p4⟩),.slice Ar11 nr11 kr11] 84):Obj):=⟨_,rfl⟩
 replace a4:=bA (bH (bH (bH a4 a5) a6) a7) o_
 replace a8:=rA (rH a8 a7) o_
 replace a9:=rA (rH a9 a7) o_
 replace b0:=rA (rH b0 a7) o_
 replace b1:=rA (rH b1 a7) o_
 replace a0:=kA (kH a0 a7) o_
 replace a1:=kA (kH a1 a7) o_
 replace a2:=kA (kH a2 a7) o_
 replace a3:=rA a3 o_
 subst ho_
 have b2:=hid (Blk.new e4 84 #[.int .i64 (jP false ⟨c,ws,ts⟩ ⟨d,ws2,ts2⟩ ⟨p1,p2,p3,p4⟩),.slice Ar11 nr11 kr11])
 obtain ⟨e5,e6,e7⟩:=at3 a0
 obtain ⟨e8,e9,f0⟩:=at3 a1
 obtain ⟨f1,f2,f3,f4⟩:=at4 a2
 obtain ⟨f5,f6⟩:=at2 b2
 have hc:=rLeast_any (jP false ⟨c,ws,ts⟩ ⟨d,ws2,ts2⟩ ⟨p1,p2,p3,p4⟩) p1 p2 Ar11 nr11 kr11 _ _ a3.out hl11_
 rw [HE1.out] at hc
 try dsimp only at hc
 have HC:=hid hc;clear hc
 go_wp2_with fail
 refine HC.out.mono ?_
 rintro e h6 ⟨rfl,hb⟩
 clear HC
 clear e5 e6 e7 e8 e9 f0 f1 f2 f3 f4 f5 f6
 have b3:=hid hb
 clear hb
 replace a0:=kH a0 b3
 obtain ⟨f7,f8,f9⟩:=at3 a0
 replace a1:=kH a1 b3
 obtain ⟨g0,g1,g2⟩:=at3 a1
 replace a2:=kH a2 b3
 obtain ⟨g3,g4,g5,g6⟩:=at4 a2
 replace b2:=kH b2 b3
 obtain ⟨g7,g8⟩:=at2 b2
 replace a3:=rH a3 b3
 have hc:=rGreatest_any (jP false ⟨c,ws,ts⟩ ⟨d,ws2,ts2⟩ ⟨p1,p2,p3,p4⟩) p1 p2 Ar11 nr11 kr11 _ _ a3.out hl11_
 rw [HE2.out] at hc
 try dsimp only at hc
 have HC:=hid hc;clear hc
 go_wp2_with fail
 refine HC.out.mono ?_
 rintro e h7 ⟨rfl,hb⟩
 clear HC
 clear f7 f8 f9 g0 g1 g2 g3 g4 g5 g6 g7 g8
 have b4:=hid hb
 clear hb
 replace a0:=kH a0 b4
 obtain ⟨h8,h9,i0⟩:=at3 a0
 replace a1:=kH a1 b4
 obtain ⟨i1,i2,i3⟩:=at3 a1
 replace a2:=kH a2 b4
 obtain ⟨i4,i5,i6,i7⟩:=at4 a2
 replace b2:=kH b2 b4
 obtain ⟨i8,i9⟩:=at2 b2
 go_wp2
 go_ret3
 replace a4:=bH (bH a4 b3) b4
 exact ⟨rfl,a4.out⟩
set_option maxRecDepth 100000 in
theorem rShared_tf (c:Int) (A B:Option Addr) (n k m j:Nat) (ws ts:List Bnd) (d:Int) (C D:Option Addr) (n2 k2 m2 j2:Nat) (ws2 ts2:List Bnd) (p1 p2 p3 p4:Int) (w:World) (h1:RdB w A n k ws) (h2:RdB w B m j ts) (hn:n≤maxLen) (hm:m≤maxLen) (h3:RdB w C n2 k2 ws2) (h4:RdB w D m2 j2 ts2) (hn2:n2≤maxLen) (hm2:m2≤maxLen) (HQ1:Hid (chkP ⟨c,ws,ts⟩ ⟨d,ws2,ts2⟩ ⟨p1,p2,p3,p4⟩=0)) (HL1:Hid ((jL false ⟨c,ws,ts⟩ ⟨d,ws2,ts2⟩ ⟨p1,p2,p3,p4⟩).length≤400)) (HL2:Hid ((jL true ⟨c,ws,ts⟩ ⟨d,ws2,ts2⟩ ⟨p1,p2,p3,p4⟩).length≤400)) (K1:Hid (chk (jP false ⟨c,ws,ts⟩ ⟨d,ws2,ts2⟩ ⟨p1,p2,p3,p4⟩) (jL false ⟨c,ws,ts⟩ ⟨d,ws2,ts2⟩ ⟨p1,p2,p3,p4⟩)=0)) (K2:Hid (chk (jP true ⟨c,ws,ts⟩ ⟨d,ws2,ts2⟩ ⟨p1,p2,p3,p4⟩) (jL true ⟨c,ws,ts⟩ ⟨d,ws2,ts2⟩ ⟨p1,p2,p3,p4⟩)=0)) (E1:Hid (asked ⟨c,ws,ts⟩ ⟨d,ws2,ts2⟩ ⟨p1,p2,p3,p4⟩=0)) (EM:Hid (meetsB ⟨c,ws,ts⟩ ⟨d,ws2,ts2⟩ ⟨p1,p2,p3,p4⟩=true)) (X1 X2:Int) (HE1:Hid (tup (leastT (jP false ⟨c,ws,ts⟩ ⟨d,ws2,ts2⟩ ⟨p1,p2,p3,p4⟩) (jL false ⟨c,ws,ts⟩ ⟨d,ws2,ts2⟩ ⟨p1,p2,p3,p4⟩) p1 p2)=.tuple #[.int .i64 X1,.bool true,.int .i64 0])) (HE2:Hid (tup (greatT (jP false ⟨c,ws,ts⟩ ⟨d,ws2,ts2⟩ ⟨p1,p2,p3,p4⟩) (jL false ⟨c,ws,ts⟩ ⟨d,ws2,ts2⟩ ⟨p1,p2,p3,p4⟩) p1 p2)=.tuple #[.int .i64 X2,.bool false,.int .i64 0])):Calls Tryz.prog 24 #[.agg #[.int .i64 c,.slice A n k,.slice B m j],.agg #[.int .i64 d,.slice C n2 k2,.slice D m2 j2],.agg #[.int .i64 p1,.int .i64 p2,.int .i64 p3,.int .i64 p4]] w fun e w'=>e=.returned (.tuple #[.int .i64 X1,.int .i64 1000000000,.int .i64 0])∧Below w.heap.size w w':=by
 go_enter Tryz.func24,Tryz.ntmps24
 obtain ⟨a0,a1,a2,a4⟩:=ent3 w #[.int .i64 c,.slice A n k,.slice B m j] 24 #[.int .i64 d,.slice C n2 k2,.slice D m2 j2] 24 #[.int .i64 p1,.int .i64 p2,.int .i64 p3,.int .i64 p4] 28
 have a8:=rI h1 a4
 have a9:=rI h2 a4
 have b0:=rI h3 a4
 have b1:=rI h4 a4
 clear h1 h2 h3 h4
 obtain ⟨g9,b5,b6⟩:=at3 a0
 obtain ⟨b7,b8,b9⟩:=at3 a1
 obtain ⟨c0,c1,c2,c3⟩:=at4 a2
 have hc:=rAsked_any c A B n k m j ws ts d C D n2 k2 m2 j2 ws2 ts2 p1 p2 p3 p4 _ a8.out a9.out hn hm b0.out b1.out hn2 hm2
 rw [E1.out] at hc
 try dsimp only at hc
 have HC:=hid hc;clear hc
 go_wp2_with fail
 refine HC.out.mono ?_
 rintro e h0 ⟨rfl,hb⟩
 clear HC
 clear g9 b5 b6 b7 b8 b9 c0 c1 c2 c3
 have a5:=hid hb
 clear hb
 replace a0:=kH a0 a5
 obtain ⟨c4,c5,c6⟩:=at3 a0
 replace a1:=kH a1 a5
 obtain ⟨c7,c8,c9⟩:=at3 a1
 replace a2:=kH a2 a5
 obtain ⟨d0,d1,d2,d3⟩:=at4 a2
 replace a8:=rH a8 a5
 replace a9:=rH a9 a5
 replace b0:=rH b0 a5
 replace b1:=rH b1 a5
 have hc:=rmeets_any c A B n k m j ws ts d C D n2 k2 m2 j2 ws2 ts2 p1 p2 p3 p4 _ a8.out a9.out hn hm b0.out b1.out hn2 hm2 E1.out
 rw [EM.out] at hc
 try dsimp only at hc
 have HC:=hid hc;clear hc
 go_wp2_with fail
 refine HC.out.mono ?_
 rintro e h5 ⟨rfl,hb⟩
 clear HC
 clear c4 c5 c6 c7 c8 c9 d0 d1 d2 d3
 have a6:=hid hb
 clear hb
 replace a0:=kH a0 a6
 obtain ⟨d4,d5,d6⟩:=at3 a0
 replace a1:=kH a1 a6
 obtain ⟨d7,d8,d9⟩:=at3 a1
 replace a2:=kH a2 a6
 obtain ⟨e0,e1,e2,e3⟩:=at4 a2
 replace a8:=rH a8 a6
 replace a9:=rH a9 a6
 replace b0:=rH b0 a6
 replace b1:=rH b1 a6
 have hc:=rjoint_any false c A B n k m j ws ts d C D n2 k2 m2 j2 ws2 ts2 p1 p2 p3 p4 _ a8.out a9.out hn hm b0.out b1.out hn2 hm2 HQ1.out
 have HC:=hid hc;clear hc
 go_wp2_with fail
 refine HC.out.mono ?_
 rintro e e4 ⟨Ar12,nr12,kr12,rfl,hrl,hb⟩
 clear HC
 clear d4 d5 d6 d7 d8 d9 e0 e1 e2 e3
 have a7:=hid hb
 clear hb
 have a3:=hid (hrl)
 clear hrl
 have hl12_:nr12≤maxLen:=by have h1:=(a3.out).len;have h2:=HL1.out;unfold maxLen;omega
 obtain ⟨o_,ho_⟩:∃ o,o=((.cells #[.int .i64 (jP false ⟨c,ws,ts⟩ ⟨d,ws2,ts2⟩ ⟨p1,p2,p3,p4⟩),.slice Ar12 nr12 kr12] 84):Obj):=⟨_,rfl⟩
 replace a4:=bA (bH (bH (bH a4 a5) a6) a7) o_
 replace a8:=rA (rH a8 a7) o_
 replace a9:=rA (rH a9 a7) o_
 replace b0:=rA (rH b0 a7) o_
 replace b1:=rA (rH b1 a7) o_
 replace a0:=kA (kH a0 a7) o_
 replace a1:=kA (kH a1 a7) o_
 replace a2:=kA (kH a2 a7) o_
 replace a3:=rA a3 o_
 subst ho_
 have b2:=hid (Blk.new e4 84 #[.int .i64 (jP false ⟨c,ws,ts⟩ ⟨d,ws2,ts2⟩ ⟨p1,p2,p3,p4⟩),.slice Ar12 nr12 kr12])
 obtain ⟨e5,e6,e7⟩:=at3 a0
 obtain ⟨e8,e9,f0⟩:=at3 a1
 obtain ⟨f1,f2,f3,f4⟩:=at4 a2
 obtain ⟨f5,f6⟩:=at2 b2
 have hc:=rLeast_any (jP false ⟨c,ws,ts⟩ ⟨d,ws2,ts2⟩ ⟨p1,p2,p3,p4⟩) p1 p2 Ar12 nr12 kr12 _ _ a3.out hl12_
 rw [HE1.out] at hc
 try dsimp only at hc
 have HC:=hid hc;clear hc
 go_wp2_with fail
 refine HC.out.mono ?_
 rintro e h6 ⟨rfl,hb⟩
 clear HC
 clear e5 e6 e7 e8 e9 f0 f1 f2 f3 f4 f5 f6
 have b3:=hid hb
 clear hb
 replace a0:=kH a0 b3
 obtain ⟨f7,f8,f9⟩:=at3 a0
 replace a1:=kH a1 b3
 obtain ⟨g0,g1,g2⟩:=at3 a1
 replace a2:=kH a2 b3
 obtain ⟨g3,g4,g5,g6⟩:=at4 a2
 replace b2:=kH b2 b3
 obtain ⟨g7,g8⟩:=at2 b2
 replace a3:=rH a3 b3
 have hc:=rGreatest_any (jP false ⟨c,ws,ts⟩ ⟨d,ws2,ts2⟩ ⟨p1,p2,p3,p4⟩) p1 p2 Ar12 nr12 kr12 _ _ a3.out hl12_
 rw [HE2.out] at hc
 try dsimp only at hc
 have HC:=hid hc;clear hc
 go_wp2_with fail
 refine HC.out.mono ?_
 rintro e h7 ⟨rfl,hb⟩
 clear HC
 clear f7 f8 f9 g0 g1 g2 g3 g4 g5 g6 g7 g8
 have b4:=hid hb
 clear hb
 replace a0:=kH a0 b4
 obtain ⟨h8,h9,i0⟩:=at3 a0
 replace a1:=kH a1 b4
 obtain ⟨i1,i2,i3⟩:=at3 a1
 replace a2:=kH a2 b4
 obtain ⟨i4,i5,i6,i7⟩:=at4 a2
 replace b2:=kH b2 b4
 obtain ⟨i8,i9⟩:=at2 b2
 go_wp2
 go_ret3
 replace a4:=bH (bH a4 b3) b4
 exact ⟨rfl,a4.out⟩
set_option maxRecDepth 100000 in
theorem rShared_ft (c:Int) (A B:Option Addr) (n k m j:Nat) (ws ts:List Bnd) (d:Int) (C D:Option Addr) (n2 k2 m2 j2:Nat) (ws2 ts2:List Bnd) (p1 p2 p3 p4:Int) (w:World) (h1:RdB w A n k ws) (h2:RdB w B m j ts) (hn:n≤maxLen) (hm:m≤maxLen) (h3:RdB w C n2 k2 ws2) (h4:RdB w D m2 j2 ts2) (hn2:n2≤maxLen) (hm2:m2≤maxLen) (HQ1:Hid (chkP ⟨c,ws,ts⟩ ⟨d,ws2,ts2⟩ ⟨p1,p2,p3,p4⟩=0)) (HL1:Hid ((jL false ⟨c,ws,ts⟩ ⟨d,ws2,ts2⟩ ⟨p1,p2,p3,p4⟩).length≤400)) (HL2:Hid ((jL true ⟨c,ws,ts⟩ ⟨d,ws2,ts2⟩ ⟨p1,p2,p3,p4⟩).length≤400)) (K1:Hid (chk (jP false ⟨c,ws,ts⟩ ⟨d,ws2,ts2⟩ ⟨p1,p2,p3,p4⟩) (jL false ⟨c,ws,ts⟩ ⟨d,ws2,ts2⟩ ⟨p1,p2,p3,p4⟩)=0)) (K2:Hid (chk (jP true ⟨c,ws,ts⟩ ⟨d,ws2,ts2⟩ ⟨p1,p2,p3,p4⟩) (jL true ⟨c,ws,ts⟩ ⟨d,ws2,ts2⟩ ⟨p1,p2,p3,p4⟩)=0)) (E1:Hid (asked ⟨c,ws,ts⟩ ⟨d,ws2,ts2⟩ ⟨p1,p2,p3,p4⟩=0)) (EM:Hid (meetsB ⟨c,ws,ts⟩ ⟨d,ws2,ts2⟩ ⟨p1,p2,p3,p4⟩=true)) (X1 X2:Int) (HE1:Hid (tup (leastT (jP false ⟨c,ws,ts⟩ ⟨d,ws2,ts2⟩ ⟨p1,p2,p3,p4⟩) (jL false ⟨c,ws,ts⟩ ⟨d,ws2,ts2⟩ ⟨p1,p2,p3,p4⟩) p1 p2)=.tuple #[.int .i64 X1,.bool false,.int .i64 0])) (HE2:Hid (tup (greatT (jP false ⟨c,ws,ts⟩ ⟨d,ws2,ts2⟩ ⟨p1,p2,p3,p4⟩) (jL false ⟨c,ws,ts⟩ ⟨d,ws2,ts2⟩ ⟨p1,p2,p3,p4⟩) p1 p2)=.tuple #[.int .i64 X2,.bool true,.int .i64 0])):Calls Tryz.prog 24 #[.agg #[.int .i64 c,.slice A n k,.slice B m j],.agg #[.int .i64 d,.slice C n2 k2,.slice D m2 j2],.agg #[.int .i64 p1,.int .i64 p2,.int .i64 p3,.int .i64 p4]] w fun e w'=>e=.returned (.tuple #[.int .i64 (-1000000000),.int .i64 X2,.int .i64 0])∧Below w.heap.size w w':=by
 go_enter Tryz.func24,Tryz.ntmps24
 obtain ⟨a0,a1,a2,a4⟩:=ent3 w #[.int .i64 c,.slice A n k,.slice B m j] 24 #[.int .i64 d,.slice C n2 k2,.slice D m2 j2] 24 #[.int .i64 p1,.int .i64 p2,.int .i64 p3,.int .i64 p4] 28
 have a8:=rI h1 a4
 have a9:=rI h2 a4
 have b0:=rI h3 a4
 have b1:=rI h4 a4
 clear h1 h2 h3 h4
 obtain ⟨g9,b5,b6⟩:=at3 a0
 obtain ⟨b7,b8,b9⟩:=at3 a1
 obtain ⟨c0,c1,c2,c3⟩:=at4 a2
 have hc:=rAsked_any c A B n k m j ws ts d C D n2 k2 m2 j2 ws2 ts2 p1 p2 p3 p4 _ a8.out a9.out hn hm b0.out b1.out hn2 hm2
 rw [E1.out] at hc
 try dsimp only at hc
 have HC:=hid hc;clear hc
 go_wp2_with fail
 refine HC.out.mono ?_
 rintro e h0 ⟨rfl,hb⟩
 clear HC
 clear g9 b5 b6 b7 b8 b9 c0 c1 c2 c3
 have a5:=hid hb
 clear hb
 replace a0:=kH a0 a5
 obtain ⟨c4,c5,c6⟩:=at3 a0
 replace a1:=kH a1 a5
 obtain ⟨c7,c8,c9⟩:=at3 a1
 replace a2:=kH a2 a5
 obtain ⟨d0,d1,d2,d3⟩:=at4 a2
 replace a8:=rH a8 a5
 replace a9:=rH a9 a5
 replace b0:=rH b0 a5
 replace b1:=rH b1 a5
 have hc:=rmeets_any c A B n k m j ws ts d C D n2 k2 m2 j2 ws2 ts2 p1 p2 p3 p4 _ a8.out a9.out hn hm b0.out b1.out hn2 hm2 E1.out
 rw [EM.out] at hc
 try dsimp only at hc
 have HC:=hid hc;clear hc
 go_wp2_with fail
 refine HC.out.mono ?_
 rintro e h5 ⟨rfl,hb⟩
 clear HC
 clear c4 c5 c6 c7 c8 c9 d0 d1 d2 d3
 have a6:=hid hb
 clear hb
 replace a0:=kH a0 a6
 obtain ⟨d4,d5,d6⟩:=at3 a0
 replace a1:=kH a1 a6
 obtain ⟨d7,d8,d9⟩:=at3 a1
 replace a2:=kH a2 a6
 obtain ⟨e0,e1,e2,e3⟩:=at4 a2
 replace a8:=rH a8 a6
 replace a9:=rH a9 a6
 replace b0:=rH b0 a6
 replace b1:=rH b1 a6
 have hc:=rjoint_any false c A B n k m j ws ts d C D n2 k2 m2 j2 ws2 ts2 p1 p2 p3 p4 _ a8.out a9.out hn hm b0.out b1.out hn2 hm2 HQ1.out
 have HC:=hid hc;clear hc
 go_wp2_with fail
 refine HC.out.mono ?_
 rintro e e4 ⟨Ar13,nr13,kr13,rfl,hrl,hb⟩
 clear HC
 clear d4 d5 d6 d7 d8 d9 e0 e1 e2 e3
 have a7:=hid hb
 clear hb
 have a3:=hid (hrl)
 clear hrl
 have hl13_:nr13≤maxLen:=by have h1:=(a3.out).len;have h2:=HL1.out;unfold maxLen;omega
 obtain ⟨o_,ho_⟩:∃ o,o=((.cells #[.int .i64 (jP false ⟨c,ws,ts⟩ ⟨d,ws2,ts2⟩ ⟨p1,p2,p3,p4⟩),.slice Ar13 nr13 kr13] 84):Obj):=⟨_,rfl⟩
 replace a4:=bA (bH (bH (bH a4 a5) a6) a7) o_
 replace a8:=rA (rH a8 a7) o_
 replace a9:=rA (rH a9 a7) o_
 replace b0:=rA (rH b0 a7) o_
 replace b1:=rA (rH b1 a7) o_
 replace a0:=kA (kH a0 a7) o_
 replace a1:=kA (kH a1 a7) o_
 replace a2:=kA (kH a2 a7) o_
 replace a3:=rA a3 o_
 subst ho_
 have b2:=hid (Blk.new e4 84 #[.int .i64 (jP false ⟨c,ws,ts⟩ ⟨d,ws2,ts2⟩ ⟨p1,p2,p3,p4⟩),.slice Ar13 nr13 kr13])
 obtain ⟨e5,e6,e7⟩:=at3 a0
 obtain ⟨e8,e9,f0⟩:=at3 a1
 obtain ⟨f1,f2,f3,f4⟩:=at4 a2
 obtain ⟨f5,f6⟩:=at2 b2
 have hc:=rLeast_any (jP false ⟨c,ws,ts⟩ ⟨d,ws2,ts2⟩ ⟨p1,p2,p3,p4⟩) p1 p2 Ar13 nr13 kr13 _ _ a3.out hl13_
 rw [HE1.out] at hc
 try dsimp only at hc
 have HC:=hid hc;clear hc
 go_wp2_with fail
 refine HC.out.mono ?_
 rintro e h6 ⟨rfl,hb⟩
 clear HC
 clear e5 e6 e7 e8 e9 f0 f1 f2 f3 f4 f5 f6
 have b3:=hid hb
 clear hb
 replace a0:=kH a0 b3
 obtain ⟨f7,f8,f9⟩:=at3 a0
 replace a1:=kH a1 b3
 obtain ⟨g0,g1,g2⟩:=at3 a1
 replace a2:=kH a2 b3
 obtain ⟨g3,g4,g5,g6⟩:=at4 a2
 replace b2:=kH b2 b3
 obtain ⟨g7,g8⟩:=at2 b2
 replace a3:=rH a3 b3
 have hc:=rGreatest_any (jP false ⟨c,ws,ts⟩ ⟨d,ws2,ts2⟩ ⟨p1,p2,p3,p4⟩) p1 p2 Ar13 nr13 kr13 _ _ a3.out hl13_
 rw [HE2.out] at hc
 try dsimp only at hc
 have HC:=hid hc;clear hc
 go_wp2_with fail
 refine HC.out.mono ?_
 rintro e h7 ⟨rfl,hb⟩
 clear HC
 clear f7 f8 f9 g0 g1 g2 g3 g4 g5 g6 g7 g8
 have b4:=hid hb
 clear hb
 replace a0:=kH a0 b4
 obtain ⟨h8,h9,i0⟩:=at3 a0
 replace a1:=kH a1 b4
 obtain ⟨i1,i2,i3⟩:=at3 a1
 replace a2:=kH a2 b4
 obtain ⟨i4,i5,i6,i7⟩:=at4 a2
 replace b2:=kH b2 b4
 obtain ⟨i8,i9⟩:=at2 b2
 go_wp2
 go_ret3
 replace a4:=bH (bH a4 b3) b4
 exact ⟨rfl,a4.out⟩
set_option maxRecDepth 100000 in
theorem rShared_ff (c:Int) (A B:Option Addr) (n k m j:Nat) (ws ts:List Bnd) (d:Int) (C D:Option Addr) (n2 k2 m2 j2:Nat) (ws2 ts2:List Bnd) (p1 p2 p3 p4:Int) (w:World) (h1:RdB w A n k ws) (h2:RdB w B m j ts) (hn:n≤maxLen) (hm:m≤maxLen) (h3:RdB w C n2 k2 ws2) (h4:RdB w D m2 j2 ts2) (hn2:n2≤maxLen) (hm2:m2≤maxLen) (HQ1:Hid (chkP ⟨c,ws,ts⟩ ⟨d,ws2,ts2⟩ ⟨p1,p2,p3,p4⟩=0)) (HL1:Hid ((jL false ⟨c,ws,ts⟩ ⟨d,ws2,ts2⟩ ⟨p1,p2,p3,p4⟩).length≤400)) (HL2:Hid ((jL true ⟨c,ws,ts⟩ ⟨d,ws2,ts2⟩ ⟨p1,p2,p3,p4⟩).length≤400)) (K1:Hid (chk (jP false ⟨c,ws,ts⟩ ⟨d,ws2,ts2⟩ ⟨p1,p2,p3,p4⟩) (jL false ⟨c,ws,ts⟩ ⟨d,ws2,ts2⟩ ⟨p1,p2,p3,p4⟩)=0)) (K2:Hid (chk (jP true ⟨c,ws,ts⟩ ⟨d,ws2,ts2⟩ ⟨p1,p2,p3,p4⟩) (jL true ⟨c,ws,ts⟩ ⟨d,ws2,ts2⟩ ⟨p1,p2,p3,p4⟩)=0)) (E1:Hid (asked ⟨c,ws,ts⟩ ⟨d,ws2,ts2⟩ ⟨p1,p2,p3,p4⟩=0)) (EM:Hid (meetsB ⟨c,ws,ts⟩ ⟨d,ws2,ts2⟩ ⟨p1,p2,p3,p4⟩=true)) (X1 X2:Int) (HE1:Hid (tup (leastT (jP false ⟨c,ws,ts⟩ ⟨d,ws2,ts2⟩ ⟨p1,p2,p3,p4⟩) (jL false ⟨c,ws,ts⟩ ⟨d,ws2,ts2⟩ ⟨p1,p2,p3,p4⟩) p1 p2)=.tuple #[.int .i64 X1,.bool false,.int .i64 0])) (HE2:Hid (tup (greatT (jP false ⟨c,ws,ts⟩ ⟨d,ws2,ts2⟩ ⟨p1,p2,p3,p4⟩) (jL false ⟨c,ws,ts⟩ ⟨d,ws2,ts2⟩ ⟨p1,p2,p3,p4⟩) p1 p2)=.tuple #[.int .i64 X2,.bool false,.int .i64 0])):Calls Tryz.prog 24 #[.agg #[.int .i64 c,.slice A n k,.slice B m j],.agg #[.int .i64 d,.slice C n2 k2,.slice D m2 j2],.agg #[.int .i64 p1,.int .i64 p2,.int .i64 p3,.int .i64 p4]] w fun e w'=>e=.returned (.tuple #[.int .i64 (-1000000000),.int .i64 1000000000,.int .i64 0])∧Below w.heap.size w w':=by
 go_enter Tryz.func24,Tryz.ntmps24
 obtain ⟨a0,a1,a2,a4⟩:=ent3 w #[.int .i64 c,.slice A n k,.slice B m j] 24 #[.int .i64 d,.slice C n2 k2,.slice D m2 j2] 24 #[.int .i64 p1,.int .i64 p2,.int .i64 p3,.int .i64 p4] 28
 have a8:=rI h1 a4
 have a9:=rI h2 a4
 have b0:=rI h3 a4
 have b1:=rI h4 a4
 clear h1 h2 h3 h4
 obtain ⟨g9,b5,b6⟩:=at3 a0
 obtain ⟨b7,b8,b9⟩:=at3 a1
 obtain ⟨c0,c1,c2,c3⟩:=at4 a2
 have hc:=rAsked_any c A B n k m j ws ts d C D n2 k2 m2 j2 ws2 ts2 p1 p2 p3 p4 _ a8.out a9.out hn hm b0.out b1.out hn2 hm2
 rw [E1.out] at hc
 try dsimp only at hc
 have HC:=hid hc;clear hc
 go_wp2_with fail
 refine HC.out.mono ?_
 rintro e h0 ⟨rfl,hb⟩
 clear HC
 clear g9 b5 b6 b7 b8 b9 c0 c1 c2 c3
 have a5:=hid hb
 clear hb
 replace a0:=kH a0 a5
 obtain ⟨c4,c5,c6⟩:=at3 a0
 replace a1:=kH a1 a5
 obtain ⟨c7,c8,c9⟩:=at3 a1
 replace a2:=kH a2 a5
 obtain ⟨d0,d1,d2,d3⟩:=at4 a2
 replace a8:=rH a8 a5
 replace a9:=rH a9 a5
 replace b0:=rH b0 a5
 replace b1:=rH b1 a5
 have hc:=rmeets_any c A B n k m j ws ts d C D n2 k2 m2 j2 ws2 ts2 p1 p2 p3 p4 _ a8.out a9.out hn hm b0.out b1.out hn2 hm2 E1.out
 rw [EM.out] at hc
 try dsimp only at hc
 have HC:=hid hc;clear hc
 go_wp2_with fail
 refine HC.out.mono ?_
 rintro e h5 ⟨rfl,hb⟩
 clear HC
 clear c4 c5 c6 c7 c8 c9 d0 d1 d2 d3
 have a6:=hid hb
 clear hb
 replace a0:=kH a0 a6
 obtain ⟨d4,d5,d6⟩:=at3 a0
 replace a1:=kH a1 a6
 obtain ⟨d7,d8,d9⟩:=at3 a1
 replace a2:=kH a2 a6
 obtain ⟨e0,e1,e2,e3⟩:=at4 a2
 replace a8:=rH a8 a6
 replace a9:=rH a9 a6
 replace b0:=rH b0 a6
 replace b1:=rH b1 a6
 have hc:=rjoint_any false c A B n k m j ws ts d C D n2 k2 m2 j2 ws2 ts2 p1 p2 p3 p4 _ a8.out a9.out hn hm b0.out b1.out hn2 hm2 HQ1.out
 have HC:=hid hc;clear hc
 go_wp2_with fail
 refine HC.out.mono ?_
 rintro e e4 ⟨Ar14,nr14,kr14,rfl,hrl,hb⟩
 clear HC
 clear d4 d5 d6 d7 d8 d9 e0 e1 e2 e3
 have a7:=hid hb
 clear hb
 have a3:=hid (hrl)
 clear hrl
 have hl14_:nr14≤maxLen:=by have h1:=(a3.out).len;have h2:=HL1.out;unfold maxLen;omega
 obtain ⟨o_,ho_⟩:∃ o,o=((.cells #[.int .i64 (jP false ⟨c,ws,ts⟩ ⟨d,ws2,ts2⟩ ⟨p1,p2,p3,p4⟩),.slice Ar14 nr14 kr14] 84):Obj):=⟨_,rfl⟩
 replace a4:=bA (bH (bH (bH a4 a5) a6) a7) o_
 replace a8:=rA (rH a8 a7) o_
 replace a9:=rA (rH a9 a7) o_
 replace b0:=rA (rH b0 a7) o_
 replace b1:=rA (rH b1 a7) o_
 replace a0:=kA (kH a0 a7) o_
 replace a1:=kA (kH a1 a7) o_
 replace a2:=kA (kH a2 a7) o_
 replace a3:=rA a3 o_
 subst ho_
 have b2:=hid (Blk.new e4 84 #[.int .i64 (jP false ⟨c,ws,ts⟩ ⟨d,ws2,ts2⟩ ⟨p1,p2,p3,p4⟩),.slice Ar14 nr14 kr14])
 obtain ⟨e5,e6,e7⟩:=at3 a0
 obtain ⟨e8,e9,f0⟩:=at3 a1
 obtain ⟨f1,f2,f3,f4⟩:=at4 a2
 obtain ⟨f5,f6⟩:=at2 b2
 have hc:=rLeast_any (jP false ⟨c,ws,ts⟩ ⟨d,ws2,ts2⟩ ⟨p1,p2,p3,p4⟩) p1 p2 Ar14 nr14 kr14 _ _ a3.out hl14_
 rw [HE1.out] at hc
 try dsimp only at hc
 have HC:=hid hc;clear hc
 go_wp2_with fail
 refine HC.out.mono ?_
 rintro e h6 ⟨rfl,hb⟩
 clear HC
 clear e5 e6 e7 e8 e9 f0 f1 f2 f3 f4 f5 f6
 have b3:=hid hb
 clear hb
 replace a0:=kH a0 b3
 obtain ⟨f7,f8,f9⟩:=at3 a0
 replace a1:=kH a1 b3
 obtain ⟨g0,g1,g2⟩:=at3 a1
 replace a2:=kH a2 b3
 obtain ⟨g3,g4,g5,g6⟩:=at4 a2
 replace b2:=kH b2 b3
 obtain ⟨g7,g8⟩:=at2 b2
 replace a3:=rH a3 b3
 have hc:=rGreatest_any (jP false ⟨c,ws,ts⟩ ⟨d,ws2,ts2⟩ ⟨p1,p2,p3,p4⟩) p1 p2 Ar14 nr14 kr14 _ _ a3.out hl14_
 rw [HE2.out] at hc
 try dsimp only at hc
 have HC:=hid hc;clear hc
 go_wp2_with fail
 refine HC.out.mono ?_
 rintro e h7 ⟨rfl,hb⟩
 clear HC
 clear f7 f8 f9 g0 g1 g2 g3 g4 g5 g6 g7 g8
 have b4:=hid hb
 clear hb
 replace a0:=kH a0 b4
 obtain ⟨h8,h9,i0⟩:=at3 a0
 replace a1:=kH a1 b4
 obtain ⟨i1,i2,i3⟩:=at3 a1
 replace a2:=kH a2 b4
 obtain ⟨i4,i5,i6,i7⟩:=at4 a2
 replace b2:=kH b2 b4
 obtain ⟨i8,i9⟩:=at2 b2
 go_wp2
 go_ret3
 replace a4:=bH (bH a4 b3) b4
 exact ⟨rfl,a4.out⟩
theorem rShared_any (c:Int) (A B:Option Addr) (n k m j:Nat) (ws ts:List Bnd) (d:Int) (C D:Option Addr) (n2 k2 m2 j2:Nat) (ws2 ts2:List Bnd) (p1 p2 p3 p4:Int) (w:World) (h1:RdB w A n k ws) (h2:RdB w B m j ts) (hn:n≤maxLen) (hm:m≤maxLen) (h3:RdB w C n2 k2 ws2) (h4:RdB w D m2 j2 ts2) (hn2:n2≤maxLen) (hm2:m2≤maxLen) (V:Int × Int × Int) (hV:sharedV ⟨c,ws,ts⟩ ⟨d,ws2,ts2⟩ ⟨p1,p2,p3,p4⟩=V):Calls Tryz.prog 24 #[.agg #[.int .i64 c,.slice A n k,.slice B m j],.agg #[.int .i64 d,.slice C n2 k2,.slice D m2 j2],.agg #[.int .i64 p1,.int .i64 p2,.int .i64 p3,.int .i64 p4]] w fun e w'=>e=.returned (.tuple #[.int .i64 V.1,.int .i64 V.2.1,.int .i64 V.2.2])∧Below w.heap.size w w':=by
 subst hV
 unfold sharedV
 by_cases hq:asked ⟨c,ws,ts⟩ ⟨d,ws2,ts2⟩ ⟨p1,p2,p3,p4⟩=0
 · rw [if_pos hq]
   cases hM:meetsB ⟨c,ws,ts⟩ ⟨d,ws2,ts2⟩ ⟨p1,p2,p3,p4⟩
   · rw [if_neg (by simp)]
     exact rShared_n c A B n k m j ws ts d C D n2 k2 m2 j2 ws2 ts2 p1 p2 p3 p4 w h1 h2 hn hm h3 h4 hn2 hm2 (hid hq) (hid hM)
   · rw [if_pos rfl]
     have hsc:=scode_way hq hM
     have hE1:tup (leastT (wayP ⟨c,ws,ts⟩ ⟨d,ws2,ts2⟩ ⟨p1,p2,p3,p4⟩) (wayL ⟨c,ws,ts⟩ ⟨d,ws2,ts2⟩ ⟨p1,p2,p3,p4⟩) p1 p2)=.tuple #[.int .i64 (-fin (dist (wayL ⟨c,ws,ts⟩ ⟨d,ws2,ts2⟩ ⟨p1,p2,p3,p4⟩) (wayP ⟨c,ws,ts⟩ ⟨d,ws2,ts2⟩ ⟨p1,p2,p3,p4⟩).toNat p2.toNat p1.toNat)),.bool (isF (dist (wayL ⟨c,ws,ts⟩ ⟨d,ws2,ts2⟩ ⟨p1,p2,p3,p4⟩) (wayP ⟨c,ws,ts⟩ ⟨d,ws2,ts2⟩ ⟨p1,p2,p3,p4⟩).toNat p2.toNat p1.toNat)),.int .i64 0]:=by
      unfold tup leastT;simp only [if_pos hsc]
     have hE2:tup (greatT (wayP ⟨c,ws,ts⟩ ⟨d,ws2,ts2⟩ ⟨p1,p2,p3,p4⟩) (wayL ⟨c,ws,ts⟩ ⟨d,ws2,ts2⟩ ⟨p1,p2,p3,p4⟩) p1 p2)=.tuple #[.int .i64 (fin (dist (wayL ⟨c,ws,ts⟩ ⟨d,ws2,ts2⟩ ⟨p1,p2,p3,p4⟩) (wayP ⟨c,ws,ts⟩ ⟨d,ws2,ts2⟩ ⟨p1,p2,p3,p4⟩).toNat p1.toNat p2.toNat)),.bool (isF (dist (wayL ⟨c,ws,ts⟩ ⟨d,ws2,ts2⟩ ⟨p1,p2,p3,p4⟩) (wayP ⟨c,ws,ts⟩ ⟨d,ws2,ts2⟩ ⟨p1,p2,p3,p4⟩).toNat p1.toNat p2.toNat)),.int .i64 0]:=by
      unfold tup greatT;simp only [if_pos hsc]
     unfold lowV highV
     dsimp only
     cases hl:isF (dist (wayL ⟨c,ws,ts⟩ ⟨d,ws2,ts2⟩ ⟨p1,p2,p3,p4⟩) (wayP ⟨c,ws,ts⟩ ⟨d,ws2,ts2⟩ ⟨p1,p2,p3,p4⟩).toNat p2.toNat p1.toNat)<;>cases hh:isF (dist (wayL ⟨c,ws,ts⟩ ⟨d,ws2,ts2⟩ ⟨p1,p2,p3,p4⟩) (wayP ⟨c,ws,ts⟩ ⟨d,ws2,ts2⟩ ⟨p1,p2,p3,p4⟩).toNat p1.toNat p2.toNat)<;>rw [hl] at hE1<;>rw [hh] at hE2<;>simp only [if_true,Bool.false_eq_true,if_false]
     · exact rShared_ff c A B n k m j ws ts d C D n2 k2 m2 j2 ws2 ts2 p1 p2 p3 p4 w h1 h2 hn hm h3 h4 hn2 hm2 (hid (asked_ok hq).1) (hid (jL_len hq false)) (hid (jL_len hq true)) (hid (jL_chk hq false)) (hid (jL_chk hq true)) (hid hq) (hid hM) _ _ (hid hE1) (hid hE2)
     · exact rShared_ft c A B n k m j ws ts d C D n2 k2 m2 j2 ws2 ts2 p1 p2 p3 p4 w h1 h2 hn hm h3 h4 hn2 hm2 (hid (asked_ok hq).1) (hid (jL_len hq false)) (hid (jL_len hq true)) (hid (jL_chk hq false)) (hid (jL_chk hq true)) (hid hq) (hid hM) _ _ (hid hE1) (hid hE2)
     · exact rShared_tf c A B n k m j ws ts d C D n2 k2 m2 j2 ws2 ts2 p1 p2 p3 p4 w h1 h2 hn hm h3 h4 hn2 hm2 (hid (asked_ok hq).1) (hid (jL_len hq false)) (hid (jL_len hq true)) (hid (jL_chk hq false)) (hid (jL_chk hq true)) (hid hq) (hid hM) _ _ (hid hE1) (hid hE2)
     · exact rShared_tt c A B n k m j ws ts d C D n2 k2 m2 j2 ws2 ts2 p1 p2 p3 p4 w h1 h2 hn hm h3 h4 hn2 hm2 (hid (asked_ok hq).1) (hid (jL_len hq false)) (hid (jL_len hq true)) (hid (jL_chk hq false)) (hid (jL_chk hq true)) (hid hq) (hid hM) _ _ (hid hE1) (hid hE2)
 · rw [if_neg hq]
   exact rShared_e c A B n k m j ws ts d C D n2 k2 m2 j2 ws2 ts2 p1 p2 p3 p4 w h1 h2 hn hm h3 h4 hn2 hm2 _ (by simpa using hq) (hid rfl)
end Go.Proofs.YtjjmifcjailpaaaGreat
