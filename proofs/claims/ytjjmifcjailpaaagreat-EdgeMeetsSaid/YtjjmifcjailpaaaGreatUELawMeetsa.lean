import Derived.Test.YtjjmifcjailpaaaGreatUEWith
import Derived.Test.YtjjmifcjailpaaaGreatUERefLa
import Derived.Test.YtjjmifcjailpaaaGreatRows
import Derived.Test.YtjjmifcjailpaaaGreatUEAlive
import Derived.Test.YtjjmifcjailpaaaGreatUEStd
import Derived.Test.YtjjmifcjailpaaaGreatUESmall
import Derived.Test.YtjjmifcjailpaaaGreatUEOpen
import Derived.Test.YtjjmifcjailpaaaGreatUERefCa
import Derived.Test.YtjjmifcjailpaaaGreatUERefSa
set_option maxHeartbeats 4000000
set_option linter.unusedSimpArgs false
set_option linter.unusedVariables false
namespace Go.Proofs.YtjjmifcjailpaaaGreat
open Go.Lib (hid)
open Go.RowKit
set_option maxRecDepth 100000 in
theorem rCheckPlace_any (c:Int) (A B:Option Addr) (n k m j:Nat) (ws ts:List Bnd) (d:Int) (C D:Option Addr) (n2 k2 m2 j2:Nat) (ws2 ts2:List Bnd) (p1 p2 p3 p4:Int) (w:World) (h1:RdB w A n k ws) (h2:RdB w B m j ts) (hn:n≤maxLen) (hm:m≤maxLen) (h3:RdB w C n2 k2 ws2) (h4:RdB w D m2 j2 ts2) (hn2:n2≤maxLen) (hm2:m2≤maxLen) (X1:Option Addr) (x1 k1:Nat) (xa:List Int) (X2:Option Addr) (x2 k2x:Nat) (xb:List Int) (X3:Option Addr) (x3 k3:Nat) (ya:List Int) (X4:Option Addr) (x4 k4:Nat) (yb:List Int) (hx0:RdI w X1 x1 k1 xa) (hl0:x1≤maxLen) (hx1:RdI w X2 x2 k2x xb) (hl1:x2≤maxLen) (hx2:RdI w X3 x3 k3 ya) (hl2:x3≤maxLen) (hx3:RdI w X4 x4 k4 yb) (hl3:x4≤maxLen):Calls Tryz.prog 14 #[.agg #[.int .i64 c,.slice A n k,.slice B m j],.agg #[.int .i64 d,.slice C n2 k2,.slice D m2 j2],.agg #[.int .i64 p1,.int .i64 p2,.int .i64 p3,.int .i64 p4],.agg #[.slice X1 x1 k1,.slice X2 x2 k2x,.slice X3 x3 k3,.slice X4 x4 k4]] w fun e w'=>e=.returned (.tuple #[.bool (checkPlaceV ⟨c,ws,ts⟩ ⟨d,ws2,ts2⟩ ⟨p1,p2,p3,p4⟩ xa xb ya yb).1,.int .i64 (checkPlaceV ⟨c,ws,ts⟩ ⟨d,ws2,ts2⟩ ⟨p1,p2,p3,p4⟩ xa xb ya yb).2])∧Below w.heap.size w w':=by
 unfold checkPlaceV
 by_cases hq0:asked ⟨c,ws,ts⟩ ⟨d,ws2,ts2⟩ ⟨p1,p2,p3,p4⟩=0
 · rw [if_pos hq0]
   have hq:=(asked_ok hq0).1
   obtain ⟨oa,ob,sa,sb,hk⟩:=chkP_ok hq
   dsimp only at sa sb hk
   obtain ⟨ho1,ho2,ca1,ca2⟩:=chkO_ok oa
   obtain ⟨hb1,hb2,cb1,cb2⟩:=chkO_ok ob
   dsimp only at ho1 ho2 ca1 ca2 hb1 hb2 cb1 cb2
   obtain ⟨q1,rfl⟩:=Int.eq_ofNat_of_zero_le sa.1
   obtain ⟨q2,rfl⟩:=Int.eq_ofNat_of_zero_le (show 0≤p2 by omega)
   obtain ⟨q3,rfl⟩:=Int.eq_ofNat_of_zero_le sb.1
   obtain ⟨q4,rfl⟩:=Int.eq_ofNat_of_zero_le (show 0≤p4 by omega)
   obtain ⟨kk,hkn⟩:∃ kk:Nat,(q4:Int)-q3=kk:=⟨q4-q3,by omega⟩
   have hkk:(Prg.mk (q1:Int) q2 q3 q4).bt-(Prg.mk (q1:Int) q2 q3 q4).bf=kk:=hkn
   dsimp only
   rw [plR_eq hq hkk]
   unfold plR
   exact rCheckPlace_o c A B n k m j ws ts d C D n2 k2 m2 j2 ws2 ts2 q1 q2 q3 q4 w h1 h2 hn hm h3 h4 hn2 hm2 X1 x1 k1 xa X2 x2 k2x xb X3 x3 k3 ya X4 x4 k4 yb hx0 hl0 hx1 hl1 hx2 hl2 hx3 hl3 (hid hq0) ho1 ho2 hb1 hb2 (hid ca1) (hid cb1) (hid ca2) (hid cb2) _ _ _ _ _ _ _ _ (hid rfl) (hid rfl) (hid rfl) (hid rfl) (hid rfl) (hid rfl) (hid rfl) (hid rfl) kk (hid (by omega))
 · rw [if_neg hq0]
   exact rCheckPlace_e c A B n k m j ws ts d C D n2 k2 m2 j2 ws2 ts2 p1 p2 p3 p4 w h1 h2 hn hm h3 h4 hn2 hm2 X1 x1 k1 xa X2 x2 k2x xb X3 x3 k3 ya X4 x4 k4 yb hx0 hl0 hx1 hl1 hx2 hl2 hx3 hl3 _ (by simpa using hq0) (hid rfl)
open Go.ChangeShapes Go.WideShapes Go.ChangeAt Go.RowKit
set_option maxRecDepth 100000 in
theorem xm_w (c:Int) (A B:Option Addr) (n k m j:Nat) (ws ts:List Bnd) (d:Int) (C D:Option Addr) (n2 k2 m2 j2:Nat) (ws2 ts2:List Bnd) (p1 p2 p3 p4:Int) (w:World) (h1:RdB w A n k ws) (h2:RdB w B m j ts) (hn:n≤maxLen) (hm:m≤maxLen) (h3:RdB w C n2 k2 ws2) (h4:RdB w D m2 j2 ts2) (hn2:n2≤maxLen) (hm2:m2≤maxLen) (hs:(decide (n≤40)&&decide (m≤40)&&decide (n2≤40)&&decide (m2≤40))=false):Calls Tryz.prog 3 #[.agg #[.int .i64 c,.slice A n k,.slice B m j],.agg #[.int .i64 d,.slice C n2 k2,.slice D m2 j2],.agg #[.int .i64 p1,.int .i64 p2,.int .i64 p3,.int .i64 p4]] w fun e w'=>e=.returned (.bool true)∧Below w.heap.size w w':=by
 go_enter Tryz.func3,Tryz.ntmps3
 obtain ⟨a1,a2,a3,a0⟩:=ent3 w #[.int .i64 c,.slice A n k,.slice B m j] 24 #[.int .i64 d,.slice C n2 k2,.slice D m2 j2] 24 #[.int .i64 p1,.int .i64 p2,.int .i64 p3,.int .i64 p4] 28
 have a6:=rI h1 a0
 have a7:=rI h2 a0
 have a8:=rI h3 a0
 have a9:=rI h4 a0
 clear h1 h2 h3 h4
 obtain ⟨d1,b1,b2⟩:=at3 a1
 obtain ⟨b3,b4,b5⟩:=at3 a2
 obtain ⟨b6,b7,b8,b9⟩:=at4 a3
 clear d1 b1 b2 b3 b4 b5 b6 b7 b8 b9
 obtain ⟨o_,ho_⟩:∃ o,o=((.cells #[.int .i64 c,.slice A n k,.slice B m j,.int .i64 d,.slice C n2 k2,.slice D m2 j2] 24):Obj):=⟨_,rfl⟩
 replace a0:=bA a0 o_
 replace a6:=rA a6 o_
 replace a7:=rA a7 o_
 replace a8:=rA a8 o_
 replace a9:=rA a9 o_
 replace a1:=kA a1 o_
 replace a2:=kA a2 o_
 replace a3:=kA a3 o_
 subst ho_
 have nb_:=Blk.new (((w.alloc (.cells #[.int .i64 c,.slice A n k,.slice B m j] 24)).alloc (.cells #[.int .i64 d,.slice C n2 k2,.slice D m2 j2] 24)).alloc (.cells #[.int .i64 p1,.int .i64 p2,.int .i64 p3,.int .i64 p4] 28)) 24 #[.int .i64 c,.slice A n k,.slice B m j,.int .i64 d,.slice C n2 k2,.slice D m2 j2]
 simp only [World.size_alloc] at nb_
 have b0:=hid nb_;clear nb_
 have hc:=small3_is c A B n k m j d C D n2 k2 m2 j2 _ _ b0.out _ hs
 have HC:=hid hc;clear hc
 go_wp2_with fail
 refine HC.out.mono ?_
 rintro e c0 ⟨rfl,hb⟩
 clear HC
 have a4:=hid hb
 clear hb
 replace a1:=kH a1 a4
 obtain ⟨c1,c2,c3⟩:=at3 a1
 replace a2:=kH a2 a4
 obtain ⟨c4,c5,c6⟩:=at3 a2
 replace a3:=kH a3 a4
 obtain ⟨c7,c8,c9,d0⟩:=at4 a3
 have hc:=joined_any (c0)
 have HC:=hid hc;clear hc
 go_wp2_with fail
 refine HC.out.mono ?_
 rintro e d2 ⟨rfl,hb⟩
 clear HC
 clear c1 c2 c3 c4 c5 c6 c7 c8 c9 d0
 have a5:=hid hb
 clear hb
 replace a1:=kH a1 a5
 obtain ⟨d3,d4,d5⟩:=at3 a1
 replace a2:=kH a2 a5
 obtain ⟨d6,d7,d8⟩:=at3 a2
 replace a3:=kH a3 a5
 obtain ⟨d9,e0,e1,e2⟩:=at4 a3
 go_wp2
 go_ret
 replace a0:=bH (bH a0 a4) a5
 exact ⟨rfl,a0.out⟩
set_option maxRecDepth 100000 in
theorem xm_main (c:Int) (A B:Option Addr) (n k m j:Nat) (ws ts:List Bnd) (d:Int) (C D:Option Addr) (n2 k2 m2 j2:Nat) (ws2 ts2:List Bnd) (p1 p2 p3 p4:Int) (w:World) (h1:RdB w A n k ws) (h2:RdB w B m j ts) (hn:n≤maxLen) (hm:m≤maxLen) (h3:RdB w C n2 k2 ws2) (h4:RdB w D m2 j2 ts2) (hn2:n2≤maxLen) (hm2:m2≤maxLen) (hs:(decide (n≤40)&&decide (m≤40)&&decide (n2≤40)&&decide (m2≤40))=true) (mb nb tn:Bool) (q:Int) (L1 L2 L3 L4 Z:List Int) (EM:Hid (meetsV ⟨c,ws,ts⟩ ⟨d,ws2,ts2⟩ ⟨p1,p2,p3,p4⟩=(mb,q))) (EL:Hid (placeV ⟨c,ws,ts⟩ ⟨d,ws2,ts2⟩ ⟨p1,p2,p3,p4⟩=(mb,q,L1,L2,L3,L4))) (ECL:Hid (clashV ⟨c,ws,ts⟩ ⟨d,ws2,ts2⟩ ⟨p1,p2,p3,p4⟩=((Z,tn,nb),q)))
 (HCS:Hid (((q != 0)=true∧mb=false∧nb=false∧tn=false∧Z=[]∧L1=[]∧L2=[]∧L3=[]∧L4=[])∨(q=0∧mb=true∧nb=false∧tn=false∧Z=[]∧checkPlaceV ⟨c,ws,ts⟩ ⟨d,ws2,ts2⟩ ⟨p1,p2,p3,p4⟩ L1 L2 L3 L4=(true,0))∨(q=0∧mb=false∧nb=true∧L1=[]∧L2=[]∧L3=[]∧L4=[]∧Z.length≤60∧checkClashV tn ⟨c,ws,ts⟩ ⟨d,ws2,ts2⟩ ⟨p1,p2,p3,p4⟩ Z=(true,0)∧fewJ ⟨c,ws,ts⟩ ⟨d,ws2,ts2⟩ ⟨p1,p2,p3,p4⟩=((Z.length:Int),tn)∧asked ⟨c,ws,ts⟩ ⟨d,ws2,ts2⟩ ⟨p1,p2,p3,p4⟩=0))):Calls Tryz.prog 3 #[.agg #[.int .i64 c,.slice A n k,.slice B m j],.agg #[.int .i64 d,.slice C n2 k2,.slice D m2 j2],.agg #[.int .i64 p1,.int .i64 p2,.int .i64 p3,.int .i64 p4]] w fun e w'=>e=.returned (.bool true)∧Below w.heap.size w w':=by
  go_enter Tryz.func3,Tryz.ntmps3
  obtain ⟨a2,a3,a4,a6⟩:=ent3 w #[.int .i64 c,.slice A n k,.slice B m j] 24 #[.int .i64 d,.slice C n2 k2,.slice D m2 j2] 24 #[.int .i64 p1,.int .i64 p2,.int .i64 p3,.int .i64 p4] 28
  have a8:=rI h1 a6
  have a9:=rI h2 a6
  have b0:=rI h3 a6
  have b5:=rI h4 a6
  clear h1 h2 h3 h4
  obtain ⟨r2,i9,j0⟩:=at3 a2
  obtain ⟨j1,j3,j4⟩:=at3 a3
  obtain ⟨j5,j6,j7,j8⟩:=at4 a4
  clear r2 i9 j0 j1 j3 j4 j5 j6 j7 j8
  obtain ⟨o_,ho_⟩:∃ o,o=((.cells #[.int .i64 c,.slice A n k,.slice B m j,.int .i64 d,.slice C n2 k2,.slice D m2 j2] 24):Obj):=⟨_,rfl⟩
  replace a6:=bA a6 o_
  replace a8:=rA a8 o_
  replace a9:=rA a9 o_
  replace b0:=rA b0 o_
  replace b5:=rA b5 o_
  replace a2:=kA a2 o_
  replace a3:=kA a3 o_
  replace a4:=kA a4 o_
  subst ho_
  have nb_:=Blk.new (((w.alloc (.cells #[.int .i64 c,.slice A n k,.slice B m j] 24)).alloc (.cells #[.int .i64 d,.slice C n2 k2,.slice D m2 j2] 24)).alloc (.cells #[.int .i64 p1,.int .i64 p2,.int .i64 p3,.int .i64 p4] 28)) 24 #[.int .i64 c,.slice A n k,.slice B m j,.int .i64 d,.slice C n2 k2,.slice D m2 j2]
  simp only [World.size_alloc] at nb_
  have i5:=hid nb_;clear nb_
  have hc:=small3_is c A B n k m j d C D n2 k2 m2 j2 _ _ i5.out _ hs
  have HC:=hid hc;clear hc
  go_wp2_with fail
  refine HC.out.mono ?_
  rintro e t0 ⟨rfl,hb⟩
  clear HC
  have c3:=hid hb
  clear hb
  replace a2:=kH a2 c3
  obtain ⟨j9,k0,k1⟩:=at3 a2
  replace a3:=kH a3 c3
  obtain ⟨k3,k4,k5⟩:=at3 a3
  replace a4:=kH a4 c3
  obtain ⟨k6,k7,k8,k9⟩:=at4 a4
  replace a8:=rH a8 c3
  replace a9:=rH a9 c3
  replace b0:=rH b0 c3
  replace b5:=rH b5 c3
  have hc:=Meets_any c A B n k m j ws ts d C D n2 k2 m2 j2 ws2 ts2 p1 p2 p3 p4 _ a8.out a9.out hn hm b0.out b5.out hn2 hm2
  rw [EM.out] at hc
  try dsimp only at hc
  have HC:=hid hc;clear hc
  go_wp2_with fail
  refine HC.out.mono ?_
  rintro e t1 ⟨rfl,hb⟩
  clear HC
  clear j9 k0 k1 k3 k4 k5 k6 k7 k8 k9
  have c4:=hid hb
  clear hb
  replace a2:=kH a2 c4
  obtain ⟨l0,l1,l2⟩:=at3 a2
  replace a3:=kH a3 c4
  obtain ⟨l3,l4,l5⟩:=at3 a3
  replace a4:=kH a4 c4
  obtain ⟨l6,l7,l8,l9⟩:=at4 a4
  replace a8:=rH a8 c4
  replace a9:=rH a9 c4
  replace b0:=rH b0 c4
  replace b5:=rH b5 c4
  have hc:=Place_any c A B n k m j ws ts d C D n2 k2 m2 j2 ws2 ts2 p1 p2 p3 p4 _ a8.out a9.out hn hm b0.out b5.out hn2 hm2 _ EL.out
  unfold RetPl at hc
  dsimp only at hc
  have hc:=hc
  have HC:=hid hc;clear hc
  go_wp2_with fail
  refine HC.out.mono ?_
  rintro e m0 ⟨B1,b1,e1,B2,b2,e2,B3,b3,e3,B4,b4,e4,rfl,⟨hr1,hr2,hr3,hr4⟩,⟨hb1,hb2,hb3,hb4⟩,hb⟩
  clear HC
  clear l0 l1 l2 l3 l4 l5 l6 l7 l8 l9
  have c5:=hid hb
  clear hb
  have b8:=hid (hr1)
  clear hr1
  have b9:=hid (hr2)
  clear hr2
  have c0:=hid (hr3)
  clear hr3
  have c1:=hid (hr4)
  clear hr4
  obtain ⟨o_,ho_⟩:∃ o,o=((.cells #[.slice B1 b1 e1,.slice B2 b2 e2,.slice B3 b3 e3,.slice B4 b4 e4] 36):Obj):=⟨_,rfl⟩
  replace a6:=bA (bH (bH (bH a6 c3) c4) c5) o_
  replace a8:=rA (rH a8 c5) o_
  replace a9:=rA (rH a9 c5) o_
  replace b0:=rA (rH b0 c5) o_
  replace b5:=rA (rH b5 c5) o_
  replace a2:=kA (kH a2 c5) o_
  replace a3:=kA (kH a3 c5) o_
  replace a4:=kA (kH a4 c5) o_
  replace b8:=iA b8 o_
  replace b9:=iA b9 o_
  replace c0:=iA c0 o_
  replace c1:=iA c1 o_
  subst ho_
  have a1:=hid (Blk.new m0 36 #[.slice B1 b1 e1,.slice B2 b2 e2,.slice B3 b3 e3,.slice B4 b4 e4])
  obtain ⟨m1,m3,m4⟩:=at3 a2
  obtain ⟨m5,m6,m7⟩:=at3 a3
  obtain ⟨m8,m9,n0,n1⟩:=at4 a4
  obtain ⟨n3,n4,n5,n6⟩:=at4 a1
  have hc:=Clash_any c A B n k m j ws ts d C D n2 k2 m2 j2 ws2 ts2 p1 p2 p3 p4 _ a8.out a9.out hn hm b0.out b5.out hn2 hm2
  unfold RetFE at hc
  rw [ECL.out] at hc
  dsimp only at hc
  have hc:=hc
  have HC:=hid hc;clear hc
  go_wp2_with fail
  refine HC.out.mono ?_
  rintro e n7 ⟨Ac,nc,cc,rfl,hrc,hmc,hb⟩
  clear HC
  clear m1 m3 m4 m5 m6 m7 m8 m9 n0 n1 n3 n4 n5 n6
  have b7:=hid hb
  clear hb
  have c6:=hid (hrc)
  clear hrc
  obtain ⟨o_,ho_⟩:∃ o,o=((.cells #[.bool tn,.slice Ac nc cc] 40):Obj):=⟨_,rfl⟩
  replace a6:=bA (bH a6 b7) o_
  replace a8:=rA (rH a8 b7) o_
  replace a9:=rA (rH a9 b7) o_
  replace b0:=rA (rH b0 b7) o_
  replace b5:=rA (rH b5 b7) o_
  replace a2:=kA (kH a2 b7) o_
  replace a3:=kA (kH a3 b7) o_
  replace a4:=kA (kH a4 b7) o_
  replace b8:=iA (iH b8 b7) o_
  replace b9:=iA (iH b9 b7) o_
  replace c0:=iA (iH c0 b7) o_
  replace c1:=iA (iH c1 b7) o_
  replace a1:=kA (kH a1 b7) o_
  replace c6:=iA c6 o_
  subst ho_
  have a5:=hid (Blk.new n7 40 #[.bool tn,.slice Ac nc cc])
  obtain ⟨n8,n9,o0⟩:=at3 a2
  obtain ⟨o1,o2,o3⟩:=at3 a3
  obtain ⟨o4,o5,o6,o7⟩:=at4 a4
  obtain ⟨o8,o9,p0,p5⟩:=at4 a1
  obtain ⟨p6,p7⟩:=at2 a5
  have hc:=rMeets_any c A B n k m j ws ts d C D n2 k2 m2 j2 ws2 ts2 p1 p2 p3 p4 _ a8.out a9.out hn hm b0.out b5.out hn2 hm2
  rw [EM.out] at hc
  try dsimp only at hc
  have HC:=hid hc;clear hc
  go_wp2_with fail
  refine HC.out.mono ?_
  rintro e p8 ⟨rfl,hb⟩
  clear HC
  clear n8 n9 o0 o1 o2 o3 o4 o5 o6 o7 o8 o9 p0 p5 p6 p7
  have b6:=hid hb
  clear hb
  replace a2:=kH a2 b6
  obtain ⟨p9,q0,q1⟩:=at3 a2
  replace a3:=kH a3 b6
  obtain ⟨q2,q3,q4⟩:=at3 a3
  replace a4:=kH a4 b6
  obtain ⟨q5,q6,q7,q8⟩:=at4 a4
  replace a1:=kH a1 b6
  obtain ⟨q9,r0,r1,i6⟩:=at4 a1
  replace a5:=kH a5 b6
  obtain ⟨i7,i8⟩:=at2 a5
  clear p9 q0 q1 q2 q3 q4 q5 q6 q7 q8 q9 r0 r1 i6 i7 i8
  replace a6:=bH a6 b6
  replace a8:=rH a8 b6
  replace a9:=rH a9 b6
  replace b0:=rH b0 b6
  replace b5:=rH b5 b6
  replace b8:=iH b8 b6
  replace b9:=iH b9 b6
  replace c0:=iH c0 b6
  replace c1:=iH c1 b6
  replace c6:=iH c6 b6
  have hcs:=HCS.out;clear HCS
  rcases hcs with ⟨hq,rfl,rfl,rfl,rfl,rfl,rfl,rfl,rfl⟩|⟨rfl,rfl,rfl,rfl,rfl,EP2⟩|⟨rfl,rfl,rfl,rfl,rfl,rfl,rfl,hz,EC2,EF,HQ⟩
  · obtain rfl:b1=0:=(b8.out).len.symm
    obtain rfl:b2=0:=(b9.out).len.symm
    obtain rfl:b3=0:=(c0.out).len.symm
    obtain rfl:b4=0:=(c1.out).len.symm
    obtain rfl:nc=0:=(c6.out).len.symm
    obtain ⟨c7,c8,c9⟩:=at3 a2
    obtain ⟨d0,d1,d2⟩:=at3 a3
    obtain ⟨d3,d4,d5,d6⟩:=at4 a4
    obtain ⟨d7,d8,d9,e0⟩:=at4 a1
    obtain ⟨e5,e6⟩:=at2 a5
    have h1_:(q != q)=false:=by simp
    have hc:=joined_any (p8)
    have HC:=hid hc;clear hc
    go_wp2_with fail
    refine HC.out.mono ?_
    rintro e g3 ⟨rfl,hb⟩
    clear HC
    clear c7 c8 c9 d0 d1 d2 d3 d4 d5 d6 d7 d8 d9 e0 e5 e6
    have a0:=hid hb
    clear hb
    replace a2:=kH a2 a0
    obtain ⟨e7,e8,e9⟩:=at3 a2
    replace a3:=kH a3 a0
    obtain ⟨f0,f1,f2⟩:=at3 a3
    replace a4:=kH a4 a0
    obtain ⟨f3,f4,f5,f6⟩:=at4 a4
    replace a1:=kH a1 a0
    obtain ⟨f7,f8,f9,g0⟩:=at4 a1
    replace a5:=kH a5 a0
    obtain ⟨g1,g2⟩:=at2 a5
    go_wp2
    go_ret
    replace a6:=bH a6 a0
    exact ⟨rfl,a6.out⟩
  · obtain rfl:nc=0:=(c6.out).len.symm
    obtain ⟨c7,c8,c9⟩:=at3 a2
    obtain ⟨d0,d1,d2⟩:=at3 a3
    obtain ⟨d3,d4,d5,d6⟩:=at4 a4
    obtain ⟨d7,d8,d9,e0⟩:=at4 a1
    obtain ⟨e5,e6⟩:=at2 a5
    have hc:=rCheckPlace_any c A B n k m j ws ts d C D n2 k2 m2 j2 ws2 ts2 p1 p2 p3 p4 _ a8.out a9.out hn hm b0.out b5.out hn2 hm2 B1 b1 e1 L1 B2 b2 e2 L2 B3 b3 e3 L3 B4 b4 e4 L4 b8.out (by unfold maxLen;omega) b9.out (by unfold maxLen;omega) c0.out (by unfold maxLen;omega) c1.out (by unfold maxLen;omega)
    rw [EP2] at hc
    try dsimp only at hc
    have HC:=hid hc;clear hc
    go_wp2_with fail
    refine HC.out.mono ?_
    rintro e g3 ⟨rfl,hb⟩
    clear HC
    clear c7 c8 c9 d0 d1 d2 d3 d4 d5 d6 d7 d8 d9 e0 e5 e6
    have a0:=hid hb
    clear hb
    replace a2:=kH a2 a0
    obtain ⟨e7,e8,e9⟩:=at3 a2
    replace a3:=kH a3 a0
    obtain ⟨f0,f1,f2⟩:=at3 a3
    replace a4:=kH a4 a0
    obtain ⟨f3,f4,f5,f6⟩:=at4 a4
    replace a1:=kH a1 a0
    obtain ⟨f7,f8,f9,g0⟩:=at4 a1
    replace a5:=kH a5 a0
    obtain ⟨g1,g2⟩:=at2 a5
    have hc:=joined_any (g3)
    have HC:=hid hc;clear hc
    go_wp2_with fail
    refine HC.out.mono ?_
    rintro e g4 ⟨rfl,hb⟩
    clear HC
    clear e7 e8 e9 f0 f1 f2 f3 f4 f5 f6 f7 f8 f9 g0 g1 g2
    have a7:=hid hb
    clear hb
    replace a2:=kH a2 a7
    obtain ⟨g5,g6,g7⟩:=at3 a2
    replace a3:=kH a3 a7
    obtain ⟨g8,g9,h0⟩:=at3 a3
    replace a4:=kH a4 a7
    obtain ⟨h5,h6,h7,h8⟩:=at4 a4
    replace a1:=kH a1 a7
    obtain ⟨h9,i0,i1,i2⟩:=at4 a1
    replace a5:=kH a5 a7
    obtain ⟨i3,i4⟩:=at2 a5
    go_wp2
    go_ret
    replace a6:=bH (bH a6 a0) a7
    exact ⟨rfl,a6.out⟩
  · obtain rfl:b1=0:=(b8.out).len.symm
    obtain rfl:b2=0:=(b9.out).len.symm
    obtain rfl:b3=0:=(c0.out).len.symm
    obtain rfl:b4=0:=(c1.out).len.symm
    obtain rfl:nc=Z.length:=(c6.out).len.symm
    obtain ⟨c7,c8,c9⟩:=at3 a2
    obtain ⟨d0,d1,d2⟩:=at3 a3
    obtain ⟨d3,d4,d5,d6⟩:=at4 a4
    obtain ⟨d7,d8,d9,e0⟩:=at4 a1
    obtain ⟨e5,e6⟩:=at2 a5
    have HEC:=hid EC2;have HEF:=hid EF;have HHQ:=hid HQ;clear EC2 EF HQ
    have hc:=rCheckClash_any c A B n k m j ws ts d C D n2 k2 m2 j2 ws2 ts2 p1 p2 p3 p4 _ a8.out a9.out hn hm b0.out b5.out hn2 hm2 tn Ac Z.length cc Z c6.out (by omega)
    rw [HEC.out] at hc
    try dsimp only at hc
    have HC:=hid hc;clear hc
    go_wp2_with fail
    refine HC.out.mono ?_
    rintro e g3 ⟨rfl,hb⟩
    clear HC
    clear c7 c8 c9 d0 d1 d2 d3 d4 d5 d6 d7 d8 d9 e0 e5 e6
    have a0:=hid hb
    clear hb
    replace a2:=kH a2 a0
    obtain ⟨e7,e8,e9⟩:=at3 a2
    replace a3:=kH a3 a0
    obtain ⟨f0,f1,f2⟩:=at3 a3
    replace a4:=kH a4 a0
    obtain ⟨f3,f4,f5,f6⟩:=at4 a4
    replace a1:=kH a1 a0
    obtain ⟨f7,f8,f9,g0⟩:=at4 a1
    replace a5:=kH a5 a0
    obtain ⟨g1,g2⟩:=at2 a5
    replace a8:=rH a8 a0
    replace a9:=rH a9 a0
    replace b0:=rH b0 a0
    replace b5:=rH b5 a0
    have hc:=rFewJ_any c A B n k m j ws ts d C D n2 k2 m2 j2 ws2 ts2 p1 p2 p3 p4 _ a8.out a9.out hn hm b0.out b5.out hn2 hm2 HHQ.out _ HEF.out
    have HC:=hid hc;clear hc
    go_wp2_with fail
    refine HC.out.mono ?_
    rintro e g4 ⟨rfl,hb⟩
    clear HC
    clear e7 e8 e9 f0 f1 f2 f3 f4 f5 f6 f7 f8 f9 g0 g1 g2
    have a7:=hid hb
    clear hb
    replace a2:=kH a2 a7
    obtain ⟨g5,g6,g7⟩:=at3 a2
    replace a3:=kH a3 a7
    obtain ⟨g8,g9,h0⟩:=at3 a3
    replace a4:=kH a4 a7
    obtain ⟨h5,h6,h7,h8⟩:=at4 a4
    replace a1:=kH a1 a7
    obtain ⟨h9,i0,i1,i2⟩:=at4 a1
    replace a5:=kH a5 a7
    obtain ⟨i3,i4⟩:=at2 a5
    have h1_:(tn == tn)=true:=by simp
    have h2_:((Z.length:Int) == (Z.length:Int))=true:=by simp
    have hc:=joined_any (g4)
    have HC:=hid hc;clear hc
    go_wp2_with fail
    refine HC.out.mono ?_
    rintro e r3 ⟨rfl,hb⟩
    clear HC
    clear g5 g6 g7 g8 g9 h0 h5 h6 h7 h8 h9 i0 i1 i2 i3 i4
    have c2:=hid hb
    clear hb
    replace a2:=kH a2 c2
    obtain ⟨r4,r5,r6⟩:=at3 a2
    replace a3:=kH a3 c2
    obtain ⟨r7,r8,r9⟩:=at3 a3
    replace a4:=kH a4 c2
    obtain ⟨s0,s1,s2,s3⟩:=at4 a4
    replace a1:=kH a1 c2
    obtain ⟨s4,s5,s6,s7⟩:=at4 a1
    replace a5:=kH a5 c2
    obtain ⟨s8,s9⟩:=at2 a5
    go_wp2
    go_ret
    replace a6:=bH (bH (bH a6 a0) a7) c2
    exact ⟨rfl,a6.out⟩
set_option maxRecDepth 100000 in
theorem xm_walk (w:World) (c:Int) (A:Option Addr) (n k:Nat) (B:Option Addr) (m j:Nat) (ws ts:List Bnd) (_:(Lit.int .i64 c).wf=true) (h1:RdB w A n k ws) (h2:RdB w B m j ts) (hn:n≤maxLen) (hm:m≤maxLen) (d:Int) (C:Option Addr) (n2 k2:Nat) (D:Option Addr) (m2 j2:Nat) (ws2 ts2:List Bnd) (_:(Lit.int .i64 d).wf=true) (h3:RdB w C n2 k2 ws2) (h4:RdB w D m2 j2 ts2) (hn2:n2≤maxLen) (hm2:m2≤maxLen) (p1 p2 p3 p4:Int):Calls Tryz.prog 3 #[.agg #[.int .i64 c,.slice A n k,.slice B m j],.agg #[.int .i64 d,.slice C n2 k2,.slice D m2 j2],.agg #[.int .i64 p1,.int .i64 p2,.int .i64 p3,.int .i64 p4]] w fun e w'=>e=.returned (.bool true)∧Below w.heap.size w w':=by
 cases hs:(decide (n≤40)&&decide (m≤40)&&decide (n2≤40)&&decide (m2≤40))
 · exact xm_w c A B n k m j ws ts d C D n2 k2 m2 j2 ws2 ts2 p1 p2 p3 p4 w h1 h2 hn hm h3 h4 hn2 hm2 hs
 by_cases hq:asked ⟨c,ws,ts⟩ ⟨d,ws2,ts2⟩ ⟨p1,p2,p3,p4⟩=0
 · obtain ⟨mb,L1,L2,L3,L4,Z,tn,e1,e2,e3,e4,e5,e6,e7,e8,e9,-⟩:=either_cases hq
   refine xm_main c A B n k m j ws ts d C D n2 k2 m2 j2 ws2 ts2 p1 p2 p3 p4 w h1 h2 hn hm h3 h4 hn2 hm2 hs _ _ _ _ _ _ _ _ _ (hid e1) (hid e2) (hid e3) (hid (.inr ?_))
   cases mb
   · obtain ⟨rfl,rfl,rfl,rfl⟩:=e9 rfl
     exact .inr ⟨rfl,rfl,rfl,rfl,rfl,rfl,rfl,e7,e5,e6,hq⟩
   · obtain ⟨rfl,rfl⟩:=e8 rfl
     exact .inl ⟨rfl,rfl,rfl,rfl,rfl,e4⟩
 · exact xm_main c A B n k m j ws ts d C D n2 k2 m2 j2 ws2 ts2 p1 p2 p3 p4 w h1 h2 hn hm h3 h4 hn2 hm2 hs _ _ _ _ _ _ _ _ _ (hid (by unfold meetsV;rw [if_neg hq])) (hid (by unfold placeV;rw [if_neg hq])) (hid (by unfold clashV;rw [if_neg hq])) (hid (.inl ⟨by simpa using hq,rfl,rfl,rfl,rfl,rfl,rfl,rfl,rfl⟩))
set_option maxRecDepth 100000 in
theorem edgeMeets_lifted (os:Os) (started:os.Started) (H:Type) (enc:TypeId × Value→H) :
 ReturnsInHanded {} Tryz.checked os 3 .any (Rows.edgeMeetsSpec.pre6 enc Tryz.prog Tryz.f3 Rows.edgeMeetsRow.domain false) (Rows.edgeMeetsSpec.post enc Tryz.prog Tryz.f3 false true false false):=by
 refine returnsInHanded_of_change (C:=Tryz.checked) Law.own started (by kernel_rfl) Tryz.func3
  (ChangeSpec.witness6 (enc:=enc) (C:=Tryz.checked) false ⟨#[],#[.agg #[.int .i64 0,.slice none 0 0,.slice none 0 0],.agg #[.int .i64 0,.slice none 0 0,.slice none 0 0],.agg #[.int .i64 0,.int .i64 0,.int .i64 0,.int .i64 0]],[]⟩ 8 (by kernel_rfl) (by kernel_rfl) (by kernel_rfl) (by kernel_rfl)) ?_
 intro W base args ds gs before hval0 hW hcnd _
 have hval:∀ (j:Nat) t v,Tryz.f3.params[j]?=some t→args[j]?=some v→Value.okWide Tryz.prog W .any base t v:=hval0
 have hW':=hW
 obtain ⟨p,q,hA0,hV,rfl,hfz,hnd⟩:=hW
 have hA:DataW.TrodAll enc Tryz.prog W 0 (fun _=>true) true Tryz.f3.params.toList args.toList ds p:=hA0
 rw [Tryz.params3] at hA hval
 obtain ⟨v0,vs0,d0,ds0,p0,q0,hargs,rfl,rfl,h0,r0⟩:=trodAll_cons hA
 obtain ⟨v1,vs1,d1,ds1,p1,q1,rfl,rfl,rfl,h1,r1⟩:=trodAll_cons r0
 obtain ⟨v2,vs2,d2,ds2,p2,q2,rfl,rfl,rfl,h2,r2⟩:=trodAll_cons r1
 obtain ⟨rfl,rfl,rfl⟩:=trodAll_nil r2
 obtain rfl:args=#[v0,v1,v2]:=by cases args;simp_all
 obtain ⟨rfl,rfl⟩:=trodVars_none hV
 have k0:=h0
 have lt0:∀ x∈p0,x.block<W.heap.size:=by obtain ⟨m,hm⟩:=k0;exact DataW.trod_lt m _ _ _ hm
 obtain ⟨c0,A0,n0,k0',B0,m0,j0,ws0,ts0,rfl,w0,ra0,rb0,xa0,xb0⟩:=open_outl (hval 0 24 v0 rfl rfl) h0
 have k1:=h1
 have lt1:∀ x∈p1,x.block<W.heap.size:=by obtain ⟨m,hm⟩:=k1;exact DataW.trod_lt m _ _ _ hm
 obtain ⟨c1,A1,n1,k1',B1,m1,j1,ws1,ts1,rfl,w1,ra1,rb1,xa1,xb1⟩:=open_outl (hval 1 24 v1 rfl rfl) h1
 have k2:=h2
 have lt2:∀ x∈p2,x.block<W.heap.size:=by obtain ⟨m,hm⟩:=k2;exact DataW.trod_lt m _ _ _ hm
 obtain ⟨f2,t2,m2,i2,rfl⟩:=open_pair (hval 2 28 v2 rfl rfl) h2
 clear hA0 hval0
 refine (xm_walk W c0 A0 n0 k0' B0 m0 j0 ws0 ts0 w0 ra0 rb0 xa0 xb0 c1 A1 n1 k1' B1 m1 j1 ws1 ts1 w1 ra1 rb1 xa1 xb1 f2 t2 m2 i2).mono fun e W' ⟨he,bel⟩=>?_
 subst he
 exact ⟨_,rfl,_,_,_,[],_,[],hW',trodAll_mk1 (shut_bool Tryz.underlying4 _),(trodAll_cons_mk (Below.trod Law.laidOut (by kernel_rfl) (of_decide_eq_true (by kernel_rfl)) k0 bel lt0) (trodAll_cons_mk (Below.trod Law.laidOut (by kernel_rfl) (of_decide_eq_true (by kernel_rfl)) k1 bel lt1) (trodAll_cons_mk (Below.trod Law.laidOut (by kernel_rfl) (of_decide_eq_true (by kernel_rfl)) k2 bel lt2) trodAll_mk0))),rfl,bel.frame _,fun h=>by cases h⟩
theorem edgeMeets_over:Rows.edgeMeetsRow.holds Tryz.pinned (OpenSpec.ofChange Rows.edgeMeetsSpec) :=
 OpenClaim.holds_of_wide 3 Tryz.f3 rfl rfl rfl rfl rfl rfl rfl ⟨rfl,rfl,rfl,rfl,rfl⟩ rfl rfl rfl rfl rfl (by kernel_rfl) Tryz.func3 (by kernel_rfl)
  (of_decide_eq_true (by kernel_rfl)) (by unfold Func.isWrapper;first | (rw [if_pos (by decide +kernel)];kernel_rfl) | (rw [if_neg (by decide +kernel)];exact ⟨rfl,rfl⟩))
  (fun os started H enc _=>edgeMeets_lifted os started H enc)
theorem edgeMeets_proved:Rows.EdgeMeetsSaid:=edgeMeets_over
end Go.Proofs.YtjjmifcjailpaaaGreat
