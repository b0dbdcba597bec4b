import Derived.Test.YtebkniakflhhkaaGreatDoorAChn
import Derived.Test.YtebkniakflhhkaaGreatDoorAEMeet
import Derived.Test.YtebkniakflhhkaaGreatDoorAEnds
import Derived.Test.YtebkniakflhhkaaGreatDoorAEIds
set_option maxHeartbeats 4000000
set_option linter.unusedSimpArgs false
set_option linter.unusedVariables false
namespace Go.Proofs.YtebkniakflhhkaaGreatDoor
open Go.Lib (hid)
open Go.RowKit
theorem jL_chk {a b:Otl} {p:Prg} (h:asked a b p=0) (u:Bool):chk (jP u a b p) (jL u a b p)=0:=by
 cases u
 · exact wayL_chk h
 · exact turnL_chk h
theorem jL_len {a b:Otl} {p:Prg} (h:asked a b p=0) (u:Bool):(jL u a b p).length≤400:=(chk_ok (jL_chk h u)).2.2.1
theorem CheckCircle_is (p:Int) (A B:Option Addr) (n c m d:Nat) (l:List Bnd) (x:List Int) (w:World) (hr:RdB w A n c l) (hn:n≤maxLen) (hq:RdI w B m d x) (hm:m≤maxLen) (V:Bool × Int) (hV:checkCircleV p l x=V) :
 Calls Tryz.prog 47 #[.agg #[.int .i64 p,.slice A n c],.slice B m d] w fun e w'=>e=.returned (.tuple #[.bool V.1,.int .i64 V.2])∧Below w.heap.size w w':=by
 subst hV
 exact CheckCircle_any p A B n c m d l x w hr hn hq hm
def erestsV (u:Bool) (a b:Otl) (p:Prg) (x:List Int):List Int × Int :=
 if asked a b p=0 then (if (checkCircleV (jP u a b p) (jL u a b p) x).1 then idsV (jP u a b p) (jL u a b p) x else ([],1)) else ([],asked a b p)
set_option maxRecDepth 100000 in
theorem Rests_any (c:Int) (A B:Option Addr) (n k m j:Nat) (ws ts:List Bnd) (d:Int) (C D:Option Addr) (n2 k2 m2 j2:Nat) (ws2 ts2:List Bnd) (p1 p2 p3 p4:Int) (w:World) (h1:RdB w A n k ws) (h2:RdB w B m j ts) (hn:n≤maxLen) (hm:m≤maxLen) (h3:RdB w C n2 k2 ws2) (h4:RdB w D m2 j2 ts2) (hn2:n2≤maxLen) (hm2:m2≤maxLen) (u:Bool) (X:Option Addr) (xn xk:Nat) (x:List Int) (hx:RdI w X xn xk x) (hxm:xn≤1000):Calls Tryz.prog 19 #[.agg #[.int .i64 c,.slice A n k,.slice B m j],.agg #[.int .i64 d,.slice C n2 k2,.slice D m2 j2],.agg #[.int .i64 p1,.int .i64 p2,.int .i64 p3,.int .i64 p4],.agg #[.bool u,.slice X xn xk]] w (RetLR (erestsV u ⟨c,ws,ts⟩ ⟨d,ws2,ts2⟩ ⟨p1,p2,p3,p4⟩ x) w):=by
 unfold erestsV
 by_cases hq:asked ⟨c,ws,ts⟩ ⟨d,ws2,ts2⟩ ⟨p1,p2,p3,p4⟩=0
 · rw [if_pos hq]
   have HQ1:=hid (asked_ok hq).1
   have hlen:=jL_len hq u
   obtain ⟨P,hP⟩:∃ P,jP u ⟨c,ws,ts⟩ ⟨d,ws2,ts2⟩ ⟨p1,p2,p3,p4⟩=P:=⟨_,rfl⟩
   obtain ⟨L,hL⟩:∃ P,jL u ⟨c,ws,ts⟩ ⟨d,ws2,ts2⟩ ⟨p1,p2,p3,p4⟩=P:=⟨_,rfl⟩
   rw [hP,hL]
   rw [hL] at hlen
   have HL1:=hid hlen;have HP:=hid hP;have HL:=hid hL;clear hP hL hlen
   obtain ⟨V,hV⟩:∃ V,checkCircleV P L x=V:=⟨_,rfl⟩
   rw [hV]
   have EV:=hid hV;clear hV
   obtain ⟨V1,V2⟩:=V
   obtain ⟨I,hI⟩:∃ V,idsV P L x=V:=⟨_,rfl⟩
   rw [hI]
   have EI:=hid hI;clear hI
   obtain ⟨I1,I2⟩:=I
   unfold RetLR
   dsimp only
   cases V1
   · simp only [Bool.false_eq_true,if_false]
     go_enter Tryz.func19,Tryz.ntmps19
     obtain ⟨a2,a3,a4,a5,a0⟩:=ent4 w #[.int .i64 c,.slice A n k,.slice B m j] 35 #[.int .i64 d,.slice C n2 k2,.slice D m2 j2] 35 #[.int .i64 p1,.int .i64 p2,.int .i64 p3,.int .i64 p4] 25 #[.bool u,.slice X xn xk] 53
     have b0:=rI h1 a0
     have b1:=rI h2 a0
     have b2:=rI h3 a0
     have b3:=rI h4 a0
     have a7:=iI hx a0
     clear h1 h2 h3 h4 hx
     obtain ⟨b6,b7,b8⟩:=at3 a2
     obtain ⟨b9,c0,c1⟩:=at3 a3
     obtain ⟨c2,c3,c4,c5⟩:=at4 a4
     obtain ⟨c6,c7⟩:=at2 a5
     have hc:=pairOf_yes c A B n k m j ws ts d C D n2 k2 m2 j2 ws2 ts2 p1 p2 p3 p4 _ b0.out b1.out hn hm b2.out b3.out hn2 hm2 hq
     have HC:=hid hc;clear hc
     go_wp2_with fail
     refine HC.out.mono ?_
     rintro e c8 ⟨rfl,hb⟩
     clear HC
     clear b6 b7 b8 b9 c0 c1 c2 c3 c4 c5 c6 c7
     have a1:=hid hb
     clear hb
     replace a2:=kH a2 a1
     obtain ⟨d0,d1,d2⟩:=at3 a2
     replace a3:=kH a3 a1
     obtain ⟨d3,d4,d5⟩:=at3 a3
     replace a4:=kH a4 a1
     obtain ⟨d6,d7,d8,d9⟩:=at4 a4
     replace a5:=kH a5 a1
     obtain ⟨e0,e1⟩:=at2 a5
     clear d0 d1 d2 d3 d4 d5 d6 d7 d8 d9 e0 e1
     obtain ⟨o_,ho_⟩:∃ o,o=((.cells #[.int .i64 c,.slice A n k,.slice B m j,.int .i64 d,.slice C n2 k2,.slice D m2 j2,.int .i64 p1,.int .i64 p2,.int .i64 p3,.int .i64 p4] 78):Obj):=⟨_,rfl⟩
     replace a0:=bA (bH a0 a1) o_
     replace b0:=rA (rH b0 a1) o_
     replace b1:=rA (rH b1 a1) o_
     replace b2:=rA (rH b2 a1) o_
     replace b3:=rA (rH b3 a1) o_
     replace a7:=iA (iH a7 a1) o_
     replace a2:=kA a2 o_
     replace a3:=kA a3 o_
     replace a4:=kA a4 o_
     replace a5:=kA a5 o_
     subst ho_
     have a8:=hid (Blk.new c8 78 #[.int .i64 c,.slice A n k,.slice B m j,.int .i64 d,.slice C n2 k2,.slice D m2 j2,.int .i64 p1,.int .i64 p2,.int .i64 p3,.int .i64 p4])
     obtain ⟨e2,e3,e4⟩:=at3 a2
     obtain ⟨e5,e6,e7⟩:=at3 a3
     obtain ⟨e8,e9,f0,f1⟩:=at4 a4
     obtain ⟨f2,f3⟩:=at2 a5
     obtain ⟨f4,f5,f6,f7,f8,f9,g0,g1,g2,g3⟩:=at10 a8
     have hc:=joint_q u c A B n k m j ws ts d C D n2 k2 m2 j2 ws2 ts2 p1 p2 p3 p4 _ b0.out b1.out hn hm b2.out b3.out hn2 hm2 HQ1.out
     rw [HP.out,HL.out] at hc
     try dsimp only at hc
     have HC:=hid hc;clear hc
     go_wp2_with fail
     refine HC.out.mono ?_
     rintro e g4 ⟨Ar,nr,kr,rfl,hrl,hb⟩
     clear HC
     clear e2 e3 e4 e5 e6 e7 e8 e9 f0 f1 f2 f3 f4 f5 f6 f7 f8 f9 g0 g1 g2 g3
     have a6:=hid hb
     clear hb
     have b4:=hid (hrl)
     clear hrl
     obtain ⟨o_,ho_⟩:∃ o,o=((.cells #[.int .i64 P,.slice Ar nr kr] 84):Obj):=⟨_,rfl⟩
     replace a0:=bA (bH a0 a6) o_
     replace b0:=rA (rH b0 a6) o_
     replace b1:=rA (rH b1 a6) o_
     replace b2:=rA (rH b2 a6) o_
     replace b3:=rA (rH b3 a6) o_
     replace a7:=iA (iH a7 a6) o_
     replace a2:=kA (kH a2 a6) o_
     replace a3:=kA (kH a3 a6) o_
     replace a4:=kA (kH a4 a6) o_
     replace a5:=kA (kH a5 a6) o_
     replace a8:=kA (kH a8 a6) o_
     replace b4:=rA b4 o_
     subst ho_
     have b5:=hid (Blk.new g4 84 #[.int .i64 P,.slice Ar nr kr])
     obtain ⟨g5,g6,g7⟩:=at3 a2
     obtain ⟨g8,g9,h0⟩:=at3 a3
     obtain ⟨h5,h6,h7,h8⟩:=at4 a4
     obtain ⟨h9,i0⟩:=at2 a5
     obtain ⟨i1,i2,i3,i4,i5,i6,i7,i8,i9,j0⟩:=at10 a8
     obtain ⟨j1,j3⟩:=at2 b5
     have hl_:nr≤maxLen:=by have h1:=(b4.out).len;have h2:=HL1.out;unfold maxLen;omega
     have hc:=CheckCircle_is P Ar X nr kr xn xk L x _ b4.out hl_ a7.out (by unfold maxLen;omega) _ EV.out
     have HC:=hid hc;clear hc
     go_wp2_with fail
     refine HC.out.mono ?_
     rintro e m1 ⟨rfl,hb⟩
     clear HC
     clear g5 g6 g7 g8 g9 h0 h5 h6 h7 h8 h9 i0 i1 i2 i3 i4 i5 i6 i7 i8 i9 j0 j1 j3
     have a9:=hid hb
     clear hb
     replace a2:=kH a2 a9
     obtain ⟨k9,l0,l1⟩:=at3 a2
     replace a3:=kH a3 a9
     obtain ⟨l2,l3,l4⟩:=at3 a3
     replace a4:=kH a4 a9
     obtain ⟨l5,l6,l7,l8⟩:=at4 a4
     replace a5:=kH a5 a9
     obtain ⟨j4,j5⟩:=at2 a5
     replace a8:=kH a8 a9
     obtain ⟨j6,j7,j8,j9,k0,k1,k3,k4,k5,k6⟩:=at10 a8
     replace b5:=kH b5 a9
     obtain ⟨k7,k8⟩:=at2 b5
     go_wp2
     go_ret2
     replace a0:=bH a0 a9
     exact ⟨none,0,0,rfl,RdI.nil_ _,by unfold maxLen;omega,a0.out⟩
   · simp only [if_true]
     go_enter Tryz.func19,Tryz.ntmps19
     obtain ⟨a2,a3,a4,a5,a0⟩:=ent4 w #[.int .i64 c,.slice A n k,.slice B m j] 35 #[.int .i64 d,.slice C n2 k2,.slice D m2 j2] 35 #[.int .i64 p1,.int .i64 p2,.int .i64 p3,.int .i64 p4] 25 #[.bool u,.slice X xn xk] 53
     have b0:=rI h1 a0
     have b1:=rI h2 a0
     have b2:=rI h3 a0
     have b3:=rI h4 a0
     have a7:=iI hx a0
     clear h1 h2 h3 h4 hx
     obtain ⟨b6,b7,b8⟩:=at3 a2
     obtain ⟨b9,c0,c1⟩:=at3 a3
     obtain ⟨c2,c3,c4,c5⟩:=at4 a4
     obtain ⟨c6,c7⟩:=at2 a5
     have hc:=pairOf_yes c A B n k m j ws ts d C D n2 k2 m2 j2 ws2 ts2 p1 p2 p3 p4 _ b0.out b1.out hn hm b2.out b3.out hn2 hm2 hq
     have HC:=hid hc;clear hc
     go_wp2_with fail
     refine HC.out.mono ?_
     rintro e c8 ⟨rfl,hb⟩
     clear HC
     clear b6 b7 b8 b9 c0 c1 c2 c3 c4 c5 c6 c7
     have a1:=hid hb
     clear hb
     replace a2:=kH a2 a1
     obtain ⟨d0,d1,d2⟩:=at3 a2
     replace a3:=kH a3 a1
     obtain ⟨d3,d4,d5⟩:=at3 a3
     replace a4:=kH a4 a1
     obtain ⟨d6,d7,d8,d9⟩:=at4 a4
     replace a5:=kH a5 a1
     obtain ⟨e0,e1⟩:=at2 a5
     clear d0 d1 d2 d3 d4 d5 d6 d7 d8 d9 e0 e1
     obtain ⟨o_,ho_⟩:∃ o,o=((.cells #[.int .i64 c,.slice A n k,.slice B m j,.int .i64 d,.slice C n2 k2,.slice D m2 j2,.int .i64 p1,.int .i64 p2,.int .i64 p3,.int .i64 p4] 78):Obj):=⟨_,rfl⟩
     replace a0:=bA (bH a0 a1) o_
     replace b0:=rA (rH b0 a1) o_
     replace b1:=rA (rH b1 a1) o_
     replace b2:=rA (rH b2 a1) o_
     replace b3:=rA (rH b3 a1) o_
     replace a7:=iA (iH a7 a1) o_
     replace a2:=kA a2 o_
     replace a3:=kA a3 o_
     replace a4:=kA a4 o_
     replace a5:=kA a5 o_
     subst ho_
     have a8:=hid (Blk.new c8 78 #[.int .i64 c,.slice A n k,.slice B m j,.int .i64 d,.slice C n2 k2,.slice D m2 j2,.int .i64 p1,.int .i64 p2,.int .i64 p3,.int .i64 p4])
     obtain ⟨e2,e3,e4⟩:=at3 a2
     obtain ⟨e5,e6,e7⟩:=at3 a3
     obtain ⟨e8,e9,f0,f1⟩:=at4 a4
     obtain ⟨f2,f3⟩:=at2 a5
     obtain ⟨f4,f5,f6,f7,f8,f9,g0,g1,g2,g3⟩:=at10 a8
     have hc:=joint_q u c A B n k m j ws ts d C D n2 k2 m2 j2 ws2 ts2 p1 p2 p3 p4 _ b0.out b1.out hn hm b2.out b3.out hn2 hm2 HQ1.out
     rw [HP.out,HL.out] at hc
     try dsimp only at hc
     have HC:=hid hc;clear hc
     go_wp2_with fail
     refine HC.out.mono ?_
     rintro e g4 ⟨Ar,nr,kr,rfl,hrl,hb⟩
     clear HC
     clear e2 e3 e4 e5 e6 e7 e8 e9 f0 f1 f2 f3 f4 f5 f6 f7 f8 f9 g0 g1 g2 g3
     have a6:=hid hb
     clear hb
     have b4:=hid (hrl)
     clear hrl
     obtain ⟨o_,ho_⟩:∃ o,o=((.cells #[.int .i64 P,.slice Ar nr kr] 84):Obj):=⟨_,rfl⟩
     replace a0:=bA (bH a0 a6) o_
     replace b0:=rA (rH b0 a6) o_
     replace b1:=rA (rH b1 a6) o_
     replace b2:=rA (rH b2 a6) o_
     replace b3:=rA (rH b3 a6) o_
     replace a7:=iA (iH a7 a6) o_
     replace a2:=kA (kH a2 a6) o_
     replace a3:=kA (kH a3 a6) o_
     replace a4:=kA (kH a4 a6) o_
     replace a5:=kA (kH a5 a6) o_
     replace a8:=kA (kH a8 a6) o_
     replace b4:=rA b4 o_
     subst ho_
     have b5:=hid (Blk.new g4 84 #[.int .i64 P,.slice Ar nr kr])
     obtain ⟨g5,g6,g7⟩:=at3 a2
     obtain ⟨g8,g9,h0⟩:=at3 a3
     obtain ⟨h5,h6,h7,h8⟩:=at4 a4
     obtain ⟨h9,i0⟩:=at2 a5
     obtain ⟨i1,i2,i3,i4,i5,i6,i7,i8,i9,j0⟩:=at10 a8
     obtain ⟨j1,j3⟩:=at2 b5
     have hl_:nr≤maxLen:=by have h1:=(b4.out).len;have h2:=HL1.out;unfold maxLen;omega
     have hc:=CheckCircle_is P Ar X nr kr xn xk L x _ b4.out hl_ a7.out (by unfold maxLen;omega) _ EV.out
     have HC:=hid hc;clear hc
     go_wp2_with fail
     refine HC.out.mono ?_
     rintro e m1 ⟨rfl,hb⟩
     clear HC
     clear g5 g6 g7 g8 g9 h0 h5 h6 h7 h8 h9 i0 i1 i2 i3 i4 i5 i6 i7 i8 i9 j0 j1 j3
     have a9:=hid hb
     clear hb
     replace a2:=kH a2 a9
     obtain ⟨k9,l0,l1⟩:=at3 a2
     replace a3:=kH a3 a9
     obtain ⟨l2,l3,l4⟩:=at3 a3
     replace a4:=kH a4 a9
     obtain ⟨l5,l6,l7,l8⟩:=at4 a4
     replace a5:=kH a5 a9
     obtain ⟨j4,j5⟩:=at2 a5
     replace a8:=kH a8 a9
     obtain ⟨j6,j7,j8,j9,k0,k1,k3,k4,k5,k6⟩:=at10 a8
     replace b5:=kH b5 a9
     obtain ⟨k7,k8⟩:=at2 b5
     replace b4:=rH b4 a9
     replace a7:=iH a7 a9
     have hc:=Ids_any P Ar nr kr L _ b4.out hl_ X xn xk x a7.out hxm
     unfold RetLR at hc
     rw [EI.out] at hc
     dsimp only at hc
     have hc:=hc
     have HC:=hid hc;clear hc
     go_wp2_with fail
     refine HC.out.mono ?_
     rintro e m3 ⟨A9,n9,c9,rfl,hr9,hm9,hb⟩
     clear HC
     clear k9 l0 l1 l2 l3 l4 l5 l6 l7 l8 j4 j5 j6 j7 j8 j9 k0 k1 k3 k4 k5 k6 k7 k8
     have l9:=hid hb
     clear hb
     have m0:=hid (hr9)
     clear hr9
     go_wp2
     go_ret2
     replace a0:=bH (bH a0 a9) l9
     exact ⟨A9,n9,c9,rfl,m0.out,hm9,a0.out⟩
 · rw [if_neg hq]
   obtain ⟨q,hq2⟩:∃ q,asked ⟨c,ws,ts⟩ ⟨d,ws2,ts2⟩ ⟨p1,p2,p3,p4⟩=q:=⟨_,rfl⟩
   rw [hq2] at hq
   rw [hq2]
   have hne:=hq
   have hqe:(q != 0)=true:=by simpa using hq
   clear hq
   have hq:=hq2;clear hq2
   unfold RetLR
   dsimp only
   go_enter Tryz.func19,Tryz.ntmps19
   obtain ⟨a2,a3,a4,a5,a0⟩:=ent4 w #[.int .i64 c,.slice A n k,.slice B m j] 35 #[.int .i64 d,.slice C n2 k2,.slice D m2 j2] 35 #[.int .i64 p1,.int .i64 p2,.int .i64 p3,.int .i64 p4] 25 #[.bool u,.slice X xn xk] 53
   have b0:=rI h1 a0
   have b1:=rI h2 a0
   have b2:=rI h3 a0
   have b3:=rI h4 a0
   have a7:=iI hx a0
   clear h1 h2 h3 h4 hx
   obtain ⟨b6,b7,b8⟩:=at3 a2
   obtain ⟨b9,c0,c1⟩:=at3 a3
   obtain ⟨c2,c3,c4,c5⟩:=at4 a4
   obtain ⟨c6,c7⟩:=at2 a5
   have hc:=pairOf_no c A B n k m j ws ts d C D n2 k2 m2 j2 ws2 ts2 p1 p2 p3 p4 _ b0.out b1.out hn hm b2.out b3.out hn2 hm2 q hq hne
   have HC:=hid hc;clear hc
   go_wp2_with fail
   refine HC.out.mono ?_
   rintro e c8 ⟨rfl,hb⟩
   clear HC
   clear b6 b7 b8 b9 c0 c1 c2 c3 c4 c5 c6 c7
   have a1:=hid hb
   clear hb
   replace a2:=kH a2 a1
   obtain ⟨d0,d1,d2⟩:=at3 a2
   replace a3:=kH a3 a1
   obtain ⟨d3,d4,d5⟩:=at3 a3
   replace a4:=kH a4 a1
   obtain ⟨d6,d7,d8,d9⟩:=at4 a4
   replace a5:=kH a5 a1
   obtain ⟨e0,e1⟩:=at2 a5
   clear d0 d1 d2 d3 d4 d5 d6 d7 d8 d9 e0 e1
   obtain ⟨o_,ho_⟩:∃ o,o=((.cells #[.int .i64 0,.slice none 0 0,.slice none 0 0,.int .i64 0,.slice none 0 0,.slice none 0 0,.int .i64 0,.int .i64 0,.int .i64 0,.int .i64 0] 78):Obj):=⟨_,rfl⟩
   replace a0:=bA (bH a0 a1) o_
   replace b0:=rA (rH b0 a1) o_
   replace b1:=rA (rH b1 a1) o_
   replace b2:=rA (rH b2 a1) o_
   replace b3:=rA (rH b3 a1) o_
   replace a7:=iA (iH a7 a1) o_
   replace a2:=kA a2 o_
   replace a3:=kA a3 o_
   replace a4:=kA a4 o_
   replace a5:=kA a5 o_
   subst ho_
   have a8:=hid (Blk.new c8 78 #[.int .i64 0,.slice none 0 0,.slice none 0 0,.int .i64 0,.slice none 0 0,.slice none 0 0,.int .i64 0,.int .i64 0,.int .i64 0,.int .i64 0])
   obtain ⟨e2,e3,e4⟩:=at3 a2
   obtain ⟨e5,e6,e7⟩:=at3 a3
   obtain ⟨e8,e9,f0,f1⟩:=at4 a4
   obtain ⟨f2,f3⟩:=at2 a5
   obtain ⟨f4,f5,f6,f7,f8,f9,g0,g1,g2,g3⟩:=at10 a8
   go_wp2
   go_ret2
   exact ⟨none,0,0,rfl,RdI.nil_ _,by unfold maxLen;omega,(by have hsz_:=Below.size a0.out;repeat' (first|with_reducible exact a0.out|with_reducible exact Below.refl _ _|with_reducible refine Below.alloc ?_ ?_ _|with_reducible refine Below.setCell ?_ ?_ _|with_reducible refine Below.drew ?_|with_reducible refine below_setRow ?_ ?_ _|omega | (simp;done) | (simp;omega)))⟩
def lowV (a b:Otl) (p:Prg):Int:=if isF (dist (wayL a b p) (wayP a b p).toNat p.at2.toNat p.af.toNat) then -fin (dist (wayL a b p) (wayP a b p).toNat p.at2.toNat p.af.toNat) else -1000000000
def highV (a b:Otl) (p:Prg):Int:=if isF (dist (wayL a b p) (wayP a b p).toNat p.af.toNat p.at2.toNat) then fin (dist (wayL a b p) (wayP a b p).toNat p.af.toNat p.at2.toNat) else 1000000000
def sharedV (a b:Otl) (p:Prg):Int × Int × Int:=if asked a b p=0 then (if meetsB a b p then (lowV a b p,highV a b p,0) else (0,0,30)) else (0,0,asked a b p)
theorem Least_is (p a b:Int) (A:Option Addr) (n c:Nat) (l:List Bnd) (w:World) (hr:RdB w A n c l) (hn:n≤maxLen) (X:Int) (T:Bool) (Q:Int) (hV:endV p l a b false=.tuple #[.int .i64 X,.bool T,.int .i64 Q]) :
 Calls Tryz.prog 32 #[.agg #[.int .i64 p,.slice A n c],.int .i64 a,.int .i64 b] w fun e w'=>e=.returned (.tuple #[.int .i64 X,.bool T,.int .i64 Q])∧Below w.heap.size w w' :=
 (Least_any p a b A n c l w hr hn).mono fun e w' ⟨x,t,q,h1,h2,h3⟩=>⟨by rw [h1,← h2,hV],h3⟩
theorem Greatest_is (p a b:Int) (A:Option Addr) (n c:Nat) (l:List Bnd) (w:World) (hr:RdB w A n c l) (hn:n≤maxLen) (X:Int) (T:Bool) (Q:Int) (hV:endV p l a b true=.tuple #[.int .i64 X,.bool T,.int .i64 Q]) :
 Calls Tryz.prog 34 #[.agg #[.int .i64 p,.slice A n c],.int .i64 a,.int .i64 b] w fun e w'=>e=.returned (.tuple #[.int .i64 X,.bool T,.int .i64 Q])∧Below w.heap.size w w' :=
 (Greatest_any p a b A n c l w hr hn).mono fun e w' ⟨x,t,q,h1,h2,h3⟩=>⟨by rw [h1,← h2,hV],h3⟩
theorem scode_way {a b:Otl} {p:Prg} (h:asked a b p=0) (hm:meetsB a b p=true):scode (wayP a b p) (wayL a b p) [p.af,p.at2]=0:=by
 obtain ⟨h1,-,-⟩:=asked_ok h
 obtain ⟨oa,ob,sa,sb,hk⟩:=chkP_ok h1
 have hs:slv (wayP a b p) (wayL a b p)=true:=by
  unfold meetsB wayS at hm
  rw [Bool.and_eq_true] at hm
  exact hm.1
 have hg:gcode (wayP a b p) (wayL a b p) [p.af,p.at2]=0:=by
  unfold gcode
  rw [if_pos (wayL_chk h),if_pos]
  obtain ⟨a1,a2,-,-⟩:=chkO_ok oa
  obtain ⟨b1,b2,-,-⟩:=chkO_ok ob
  simp [isPt,wayP]
  omega
 unfold slv at hs
 unfold scode
 rw [if_pos hg,if_pos hs]
set_option maxRecDepth 100000 in
theorem Shared_ok (c:Int) (A B:Option Addr) (n k m j:Nat) (ws ts:List Bnd) (d:Int) (C D:Option Addr) (n2 k2 m2 j2:Nat) (ws2 ts2:List Bnd) (p1 p2 p3 p4:Int) (w:World) (h1:RdB w A n k ws) (h2:RdB w B m j ts) (hn:n≤maxLen) (hm:m≤maxLen) (h3:RdB w C n2 k2 ws2) (h4:RdB w D m2 j2 ts2) (hn2:n2≤maxLen) (hm2:m2≤maxLen) (hq:asked ⟨c,ws,ts⟩ ⟨d,ws2,ts2⟩ ⟨p1,p2,p3,p4⟩=0) (HQ1:Hid (chkP ⟨c,ws,ts⟩ ⟨d,ws2,ts2⟩ ⟨p1,p2,p3,p4⟩=0)) (HL1:Hid ((wayL ⟨c,ws,ts⟩ ⟨d,ws2,ts2⟩ ⟨p1,p2,p3,p4⟩).length≤400)) (EM:Hid (meetsB ⟨c,ws,ts⟩ ⟨d,ws2,ts2⟩ ⟨p1,p2,p3,p4⟩=true)) (X1 X2 L0 H0:Int) (T1 T2:Bool)
 (HE1:Hid (endV (wayP ⟨c,ws,ts⟩ ⟨d,ws2,ts2⟩ ⟨p1,p2,p3,p4⟩) (wayL ⟨c,ws,ts⟩ ⟨d,ws2,ts2⟩ ⟨p1,p2,p3,p4⟩) p1 p2 false=.tuple #[.int .i64 X1,.bool T1,.int .i64 0])) (HE2:Hid (endV (wayP ⟨c,ws,ts⟩ ⟨d,ws2,ts2⟩ ⟨p1,p2,p3,p4⟩) (wayL ⟨c,ws,ts⟩ ⟨d,ws2,ts2⟩ ⟨p1,p2,p3,p4⟩) p1 p2 true=.tuple #[.int .i64 X2,.bool T2,.int .i64 0]))
 (HL:Hid (L0=if T1 then X1 else -1000000000)) (HH:Hid (H0=if T2 then X2 else 1000000000)) :
 Calls Tryz.prog 13 #[.agg #[.int .i64 c,.slice A n k,.slice B m j],.agg #[.int .i64 d,.slice C n2 k2,.slice D m2 j2],.agg #[.int .i64 p1,.int .i64 p2,.int .i64 p3,.int .i64 p4]] w fun e w'=>e=.returned (.tuple #[.int .i64 L0,.int .i64 H0,.int .i64 0])∧Below w.heap.size w w':=by
  go_enter Tryz.func13,Tryz.ntmps13
  obtain ⟨a3,a4,a1,a2⟩:=ent3 w #[.int .i64 c,.slice A n k,.slice B m j] 35 #[.int .i64 d,.slice C n2 k2,.slice D m2 j2] 35 #[.int .i64 p1,.int .i64 p2,.int .i64 p3,.int .i64 p4] 25
  have a5:=rI h1 a2
  have a6:=rI h2 a2
  have a7:=rI h3 a2
  have a8:=rI h4 a2
  clear h1 h2 h3 h4
  obtain ⟨m0,f4,f5⟩:=at3 a3
  obtain ⟨f6,f7,f8⟩:=at3 a4
  obtain ⟨f9,g0,g1,g2⟩:=at4 a1
  have hc:=pairOf_yes c A B n k m j ws ts d C D n2 k2 m2 j2 ws2 ts2 p1 p2 p3 p4 _ a5.out a6.out hn hm a7.out a8.out hn2 hm2 hq
  have HC:=hid hc;clear hc
  go_wp2_with fail
  refine HC.out.mono ?_
  rintro e c0 ⟨rfl,hb⟩
  clear HC
  clear m0 f4 f5 f6 f7 f8 f9 g0 g1 g2
  have b7:=hid hb
  clear hb
  replace a3:=kH a3 b7
  obtain ⟨g3,g4,g5⟩:=at3 a3
  replace a4:=kH a4 b7
  obtain ⟨g6,g7,g8⟩:=at3 a4
  replace a1:=kH a1 b7
  obtain ⟨g9,h0,h5,h6⟩:=at4 a1
  clear g3 g4 g5 g6 g7 g8 g9 h0 h5 h6
  obtain ⟨o_,ho_⟩:∃ o,o=((.cells #[.int .i64 c,.slice A n k,.slice B m j,.int .i64 d,.slice C n2 k2,.slice D m2 j2,.int .i64 p1,.int .i64 p2,.int .i64 p3,.int .i64 p4] 78):Obj):=⟨_,rfl⟩
  replace a2:=bA (bH a2 b7) o_
  replace a5:=rA (rH a5 b7) o_
  replace a6:=rA (rH a6 b7) o_
  replace a7:=rA (rH a7 b7) o_
  replace a8:=rA (rH a8 b7) o_
  replace a3:=kA a3 o_
  replace a4:=kA a4 o_
  replace a1:=kA a1 o_
  subst ho_
  have a0:=hid (Blk.new c0 78 #[.int .i64 c,.slice A n k,.slice B m j,.int .i64 d,.slice C n2 k2,.slice D m2 j2,.int .i64 p1,.int .i64 p2,.int .i64 p3,.int .i64 p4])
  obtain ⟨h7,h8,h9⟩:=at3 a3
  obtain ⟨i0,i1,i2⟩:=at3 a4
  obtain ⟨i3,i4,i5,i6⟩:=at4 a1
  obtain ⟨i7,i8,i9,j0,j1,j3,j4,j5,j6,j7⟩:=at10 a0
  have hc:=meets_q c A B n k m j ws ts d C D n2 k2 m2 j2 ws2 ts2 p1 p2 p3 p4 _ a5.out a6.out hn hm a7.out a8.out hn2 hm2 hq
  rw [EM.out] at hc
  try dsimp only at hc
  have HC:=hid hc;clear hc
  go_wp2_with fail
  refine HC.out.mono ?_
  rintro e j8 ⟨rfl,hb⟩
  clear HC
  clear h7 h8 h9 i0 i1 i2 i3 i4 i5 i6 i7 i8 i9 j0 j1 j3 j4 j5 j6 j7
  have b6:=hid hb
  clear hb
  replace a3:=kH a3 b6
  obtain ⟨j9,k0,k1⟩:=at3 a3
  replace a4:=kH a4 b6
  obtain ⟨k3,k4,k5⟩:=at3 a4
  replace a1:=kH a1 b6
  obtain ⟨k6,k7,k8,k9⟩:=at4 a1
  replace a0:=kH a0 b6
  obtain ⟨l0,l1,l2,l3,l4,l5,l6,l7,l8,l9⟩:=at10 a0
  clear hq
  go_wp2_with fail
  clear j9 k0 k1 k3 k4 k5 k6 k7 k8 k9 l0 l1 l2 l3 l4 l5 l6 l7 l8 l9
  replace a2:=bD (bH a2 b6)
  replace a5:=rD (rH a5 b6)
  replace a6:=rD (rH a6 b6)
  replace a7:=rD (rH a7 b6)
  replace a8:=rD (rH a8 b6)
  replace a3:=kD a3
  replace a4:=kD a4
  replace a1:=kD a1
  replace a0:=kD a0
  refine wp_region_held_drew (S:=(fun W'=>Blk W' (c0.heap.size) 78 #[.int .i64 c,.slice A n k,.slice B m j,.int .i64 d,.slice C n2 k2,.slice D m2 j2,.int .i64 p1,.int .i64 p2,.int .i64 p3,.int .i64 p4]∧Blk W' (w.heap.size+1+1) 25 #[.int .i64 p1,.int .i64 p2,.int .i64 p3,.int .i64 p4])) (by kernel_rfl) ⟨a0.out,a1.out⟩ (fun _=>?_)
  obtain ⟨m1,c1⟩:∃ w',w'=(j8.drew):=⟨_,rfl⟩
  rw [← c1] at a2 a5 a6 a7 a8 a3 a4 a1 a0
  rw [← c1]
  clear c1
  refine' tkH 0 ⟨a0.out,a1.out⟩ ?e4 ?_
  case e4=>(rintro W' ⟨hS0,hS1⟩;have hc0:=Blk.nth hS0 0;have hc1:=Blk.nth hS0 1;have hc2:=Blk.nth hS0 2;have hc3:=Blk.nth hS0 3;have hc4:=Blk.nth hS0 4;have hc5:=Blk.nth hS0 5;have hc6:=Blk.nth hS0 6;have hc7:=Blk.nth hS0 7;have hc8:=Blk.nth hS0 8;have hc9:=Blk.nth hS0 9;clear hS0 hS1;go_simp;try with_reducible rfl)
  refine' twH 2 ⟨a0.out,a1.out⟩ ?_
  refine' twH 3 ⟨a0.out,a1.out⟩ ?_
  refine' tkH 4 ⟨a0.out,a1.out⟩ ?e5 ?_
  case e5=>(rintro W' ⟨hS0,hS1⟩;have hc0:=Blk.nth hS1 0;clear hS0 hS1;go_simp;try with_reducible rfl)
  try simp only [pq]
  refine' twH 5 ⟨a0.out,a1.out⟩ ?_
  refine' twH 6 ⟨a0.out,a1.out⟩ ?_
  refine' tkH 7 ⟨a0.out,a1.out⟩ ?e6 ?_
  case e6=>(rintro W' ⟨hS0,hS1⟩;have hc0:=Blk.nth hS1 1;clear hS0 hS1;go_simp;try with_reducible rfl)
  try simp only [pq]
  refine oneH 1 rfl fun K hK=>?_
  go_simp
  go_at_call 33
  refine (ways_q c A B n k m j ws ts d C D n2 k2 m2 j2 ws2 ts2 p1 p2 p3 p4 _ a5.out a6.out hn hm a7.out a8.out hn2 hm2 HQ1.out).mono ?_
  rintro e m3 ⟨Ar,nr,kr,rfl,hrl,b5⟩
  dsimp only
  replace b5:=hid b5
  have a9:=hid (hrl)
  replace a0:=kH a0 b5
  replace a1:=kH a1 b5
  refine hK.out _ _ ⟨a0.out,a1.out⟩ (fun _=>?_);clear hK K
  try simp only [pq]
  refine oneH 8 rfl fun K hK=>?_
  have hl_:nr≤maxLen:=by have h1:=(a9.out).len;have h2:=HL1.out;unfold maxLen;omega
  go_simp
  go_at_call 32
  refine (Least_is _ _ _  Ar nr kr _ _ a9.out hl_ _ _ _ HE1.out).mono ?_
  rintro e e7 ⟨rfl,b2⟩
  dsimp only
  replace b2:=hid b2
  replace a0:=kH a0 b2
  replace a1:=kH a1 b2
  refine hK.out _ _ ⟨a0.out,a1.out⟩ (fun _=>?_);clear hK K
  try simp only [pq]
  refine' twH 9 ⟨a0.out,a1.out⟩ ?_
  refine' twH 10 ⟨a0.out,a1.out⟩ ?_
  refine' twH 11 ⟨a0.out,a1.out⟩ ?_
  refine' twH 12 ⟨a0.out,a1.out⟩ ?_
  try simp only [pq]
  refine' twH 13 ⟨a0.out,a1.out⟩ ?_
  refine' twH 14 ⟨a0.out,a1.out⟩ ?_
  refine' twH 15 ⟨a0.out,a1.out⟩ ?_
  try simp only [pq]
  refine wpAnyH_done (by kernel_rfl) ?_ _
  replace a3:=kH (kH a3 b5) b2
  obtain ⟨c4,c5,c6⟩:=at3 a3
  replace a4:=kH (kH a4 b5) b2
  obtain ⟨c7,c8,c9⟩:=at3 a4
  obtain ⟨d0,d1,d2,d3⟩:=at4 a1
  obtain ⟨d4,d5,d6,d7,d8,d9,e0,e1,e2,e3⟩:=at10 a0
  replace a2:=bH (bH a2 b5) b2
  replace a5:=rH (rH a5 b5) b2
  replace a6:=rH (rH a6 b5) b2
  replace a7:=rH (rH a7 b5) b2
  replace a8:=rH (rH a8 b5) b2
  replace a9:=rH a9 b2
  cases T1
  · have hL:L0=-1000000000:=HL.out
    subst hL
    clear HL
    go_wp2_with fail
    clear c4 c5 c6 c7 c8 c9 d0 d1 d2 d3 d4 d5 d6 d7 d8 d9 e0 e1 e2 e3
    replace a2:=bD a2
    replace a5:=rD a5
    replace a6:=rD a6
    replace a7:=rD a7
    replace a8:=rD a8
    replace a3:=kD a3
    replace a4:=kD a4
    replace a1:=kD a1
    replace a0:=kD a0
    replace a9:=rD a9
    refine wp_region_held_drew (S:=(fun W'=>Blk W' (c0.heap.size) 78 #[.int .i64 c,.slice A n k,.slice B m j,.int .i64 d,.slice C n2 k2,.slice D m2 j2,.int .i64 p1,.int .i64 p2,.int .i64 p3,.int .i64 p4]∧Blk W' (w.heap.size+1+1) 25 #[.int .i64 p1,.int .i64 p2,.int .i64 p3,.int .i64 p4])) (by kernel_rfl) ⟨a0.out,a1.out⟩ (fun _=>?_)
    obtain ⟨m4,c2⟩:∃ w',w'=(e7.drew):=⟨_,rfl⟩
    rw [← c2] at a2 a5 a6 a7 a8 a3 a4 a1 a0 a9
    rw [← c2]
    clear c2
    refine' tkH 0 ⟨a0.out,a1.out⟩ ?e8 ?_
    case e8=>(rintro W' ⟨hS0,hS1⟩;have hc0:=Blk.nth hS0 0;have hc1:=Blk.nth hS0 1;have hc2:=Blk.nth hS0 2;have hc3:=Blk.nth hS0 3;have hc4:=Blk.nth hS0 4;have hc5:=Blk.nth hS0 5;have hc6:=Blk.nth hS0 6;have hc7:=Blk.nth hS0 7;have hc8:=Blk.nth hS0 8;have hc9:=Blk.nth hS0 9;clear hS0 hS1;go_simp;try with_reducible rfl)
    refine' twH 2 ⟨a0.out,a1.out⟩ ?_
    refine' twH 3 ⟨a0.out,a1.out⟩ ?_
    refine' tkH 4 ⟨a0.out,a1.out⟩ ?e9 ?_
    case e9=>(rintro W' ⟨hS0,hS1⟩;have hc0:=Blk.nth hS1 0;clear hS0 hS1;go_simp;try with_reducible rfl)
    try simp only [pq]
    refine' twH 5 ⟨a0.out,a1.out⟩ ?_
    refine' twH 6 ⟨a0.out,a1.out⟩ ?_
    refine' tkH 7 ⟨a0.out,a1.out⟩ ?f0 ?_
    case f0=>(rintro W' ⟨hS0,hS1⟩;have hc0:=Blk.nth hS1 1;clear hS0 hS1;go_simp;try with_reducible rfl)
    try simp only [pq]
    refine oneH 1 rfl fun K hK=>?_
    go_simp
    go_at_call 33
    refine (ways_q c A B n k m j ws ts d C D n2 k2 m2 j2 ws2 ts2 p1 p2 p3 p4 _ a5.out a6.out hn hm a7.out a8.out hn2 hm2 HQ1.out).mono ?_
    rintro e m5 ⟨Ar2,nr2,kr2,rfl,hrl,b3⟩
    dsimp only
    replace b3:=hid b3
    have b8:=hid (hrl)
    replace a0:=kH a0 b3
    replace a1:=kH a1 b3
    refine hK.out _ _ ⟨a0.out,a1.out⟩ (fun _=>?_);clear hK K
    try simp only [pq]
    refine oneH 8 rfl fun K hK=>?_
    have hl_:nr2≤maxLen:=by have h1:=(b8.out).len;have h2:=HL1.out;unfold maxLen;omega
    go_simp
    go_at_call 34
    refine (Greatest_is _ _ _  Ar2 nr2 kr2 _ _ b8.out hl_ _ _ _ HE2.out).mono ?_
    rintro e m6 ⟨rfl,b0⟩
    dsimp only
    replace b0:=hid b0
    replace a0:=kH a0 b0
    replace a1:=kH a1 b0
    refine hK.out _ _ ⟨a0.out,a1.out⟩ (fun _=>?_);clear hK K
    try simp only [pq]
    refine' twH 9 ⟨a0.out,a1.out⟩ ?_
    refine' twH 10 ⟨a0.out,a1.out⟩ ?_
    refine' twH 11 ⟨a0.out,a1.out⟩ ?_
    refine' twH 12 ⟨a0.out,a1.out⟩ ?_
    try simp only [pq]
    refine' twH 13 ⟨a0.out,a1.out⟩ ?_
    refine' twH 14 ⟨a0.out,a1.out⟩ ?_
    refine' twH 15 ⟨a0.out,a1.out⟩ ?_
    try simp only [pq]
    refine wpAnyH_done (by kernel_rfl) ?_ _
    replace a2:=bH (bH a2 b3) b0
    replace a5:=rH (rH a5 b3) b0
    replace a6:=rH (rH a6 b3) b0
    replace a7:=rH (rH a7 b3) b0
    replace a8:=rH (rH a8 b3) b0
    replace a3:=kH (kH a3 b3) b0
    replace a4:=kH (kH a4 b3) b0
    replace a9:=rH (rH a9 b3) b0
    replace b8:=rH b8 b0
    cases T2
    · have hL:H0=1000000000:=HH.out
      subst hL
      clear HH
      go_wp2
      go_ret3
      exact ⟨rfl,a2.out⟩
    · have hL:H0=X2:=HH.out
      subst hL
      clear HH
      go_wp2
      go_ret3
      exact ⟨rfl,a2.out⟩
  · have hL:L0=X1:=HL.out
    subst hL
    clear HL
    go_wp2_with fail
    clear c4 c5 c6 c7 c8 c9 d0 d1 d2 d3 d4 d5 d6 d7 d8 d9 e0 e1 e2 e3
    replace a2:=bD a2
    replace a5:=rD a5
    replace a6:=rD a6
    replace a7:=rD a7
    replace a8:=rD a8
    replace a3:=kD a3
    replace a4:=kD a4
    replace a1:=kD a1
    replace a0:=kD a0
    replace a9:=rD a9
    refine wp_region_held_drew (S:=(fun W'=>Blk W' (c0.heap.size) 78 #[.int .i64 c,.slice A n k,.slice B m j,.int .i64 d,.slice C n2 k2,.slice D m2 j2,.int .i64 p1,.int .i64 p2,.int .i64 p3,.int .i64 p4]∧Blk W' (w.heap.size+1+1) 25 #[.int .i64 p1,.int .i64 p2,.int .i64 p3,.int .i64 p4])) (by kernel_rfl) ⟨a0.out,a1.out⟩ (fun _=>?_)
    obtain ⟨m7,c3⟩:∃ w',w'=(e7.drew):=⟨_,rfl⟩
    rw [← c3] at a2 a5 a6 a7 a8 a3 a4 a1 a0 a9
    rw [← c3]
    clear c3
    refine' tkH 0 ⟨a0.out,a1.out⟩ ?f1 ?_
    case f1=>(rintro W' ⟨hS0,hS1⟩;have hc0:=Blk.nth hS0 0;have hc1:=Blk.nth hS0 1;have hc2:=Blk.nth hS0 2;have hc3:=Blk.nth hS0 3;have hc4:=Blk.nth hS0 4;have hc5:=Blk.nth hS0 5;have hc6:=Blk.nth hS0 6;have hc7:=Blk.nth hS0 7;have hc8:=Blk.nth hS0 8;have hc9:=Blk.nth hS0 9;clear hS0 hS1;go_simp;try with_reducible rfl)
    refine' twH 2 ⟨a0.out,a1.out⟩ ?_
    refine' twH 3 ⟨a0.out,a1.out⟩ ?_
    refine' tkH 4 ⟨a0.out,a1.out⟩ ?f2 ?_
    case f2=>(rintro W' ⟨hS0,hS1⟩;have hc0:=Blk.nth hS1 0;clear hS0 hS1;go_simp;try with_reducible rfl)
    try simp only [pq]
    refine' twH 5 ⟨a0.out,a1.out⟩ ?_
    refine' twH 6 ⟨a0.out,a1.out⟩ ?_
    refine' tkH 7 ⟨a0.out,a1.out⟩ ?f3 ?_
    case f3=>(rintro W' ⟨hS0,hS1⟩;have hc0:=Blk.nth hS1 1;clear hS0 hS1;go_simp;try with_reducible rfl)
    try simp only [pq]
    refine oneH 1 rfl fun K hK=>?_
    go_simp
    go_at_call 33
    refine (ways_q c A B n k m j ws ts d C D n2 k2 m2 j2 ws2 ts2 p1 p2 p3 p4 _ a5.out a6.out hn hm a7.out a8.out hn2 hm2 HQ1.out).mono ?_
    rintro e m8 ⟨Ar2,nr2,kr2,rfl,hrl,b4⟩
    dsimp only
    replace b4:=hid b4
    have b9:=hid (hrl)
    replace a0:=kH a0 b4
    replace a1:=kH a1 b4
    refine hK.out _ _ ⟨a0.out,a1.out⟩ (fun _=>?_);clear hK K
    try simp only [pq]
    refine oneH 8 rfl fun K hK=>?_
    have hl_:nr2≤maxLen:=by have h1:=(b9.out).len;have h2:=HL1.out;unfold maxLen;omega
    go_simp
    go_at_call 34
    refine (Greatest_is _ _ _  Ar2 nr2 kr2 _ _ b9.out hl_ _ _ _ HE2.out).mono ?_
    rintro e m9 ⟨rfl,b1⟩
    dsimp only
    replace b1:=hid b1
    replace a0:=kH a0 b1
    replace a1:=kH a1 b1
    refine hK.out _ _ ⟨a0.out,a1.out⟩ (fun _=>?_);clear hK K
    try simp only [pq]
    refine' twH 9 ⟨a0.out,a1.out⟩ ?_
    refine' twH 10 ⟨a0.out,a1.out⟩ ?_
    refine' twH 11 ⟨a0.out,a1.out⟩ ?_
    refine' twH 12 ⟨a0.out,a1.out⟩ ?_
    try simp only [pq]
    refine' twH 13 ⟨a0.out,a1.out⟩ ?_
    refine' twH 14 ⟨a0.out,a1.out⟩ ?_
    refine' twH 15 ⟨a0.out,a1.out⟩ ?_
    try simp only [pq]
    refine wpAnyH_done (by kernel_rfl) ?_ _
    replace a2:=bH (bH a2 b4) b1
    replace a5:=rH (rH a5 b4) b1
    replace a6:=rH (rH a6 b4) b1
    replace a7:=rH (rH a7 b4) b1
    replace a8:=rH (rH a8 b4) b1
    replace a3:=kH (kH a3 b4) b1
    replace a4:=kH (kH a4 b4) b1
    replace a9:=rH (rH a9 b4) b1
    replace b9:=rH b9 b1
    cases T2
    · have hL:H0=1000000000:=HH.out
      subst hL
      clear HH
      go_wp2
      go_ret3
      exact ⟨rfl,a2.out⟩
    · have hL:H0=X2:=HH.out
      subst hL
      clear HH
      go_wp2
      go_ret3
      exact ⟨rfl,a2.out⟩
set_option maxRecDepth 100000 in
theorem Shared_any (c:Int) (A B:Option Addr) (n k m j:Nat) (ws ts:List Bnd) (d:Int) (C D:Option Addr) (n2 k2 m2 j2:Nat) (ws2 ts2:List Bnd) (p1 p2 p3 p4:Int) (w:World) (h1:RdB w A n k ws) (h2:RdB w B m j ts) (hn:n≤maxLen) (hm:m≤maxLen) (h3:RdB w C n2 k2 ws2) (h4:RdB w D m2 j2 ts2) (hn2:n2≤maxLen) (hm2:m2≤maxLen):Calls Tryz.prog 13 #[.agg #[.int .i64 c,.slice A n k,.slice B m j],.agg #[.int .i64 d,.slice C n2 k2,.slice D m2 j2],.agg #[.int .i64 p1,.int .i64 p2,.int .i64 p3,.int .i64 p4]] w fun e w'=>e=.returned (.tuple #[.int .i64 (sharedV ⟨c,ws,ts⟩ ⟨d,ws2,ts2⟩ ⟨p1,p2,p3,p4⟩).1,.int .i64 (sharedV ⟨c,ws,ts⟩ ⟨d,ws2,ts2⟩ ⟨p1,p2,p3,p4⟩).2.1,.int .i64 (sharedV ⟨c,ws,ts⟩ ⟨d,ws2,ts2⟩ ⟨p1,p2,p3,p4⟩).2.2])∧Below w.heap.size w w':=by
 unfold sharedV
 by_cases hq:asked ⟨c,ws,ts⟩ ⟨d,ws2,ts2⟩ ⟨p1,p2,p3,p4⟩=0
 · rw [if_pos hq]
   have HQ1:=hid (asked_ok hq).1
   have HL1:=hid (show (wayL ⟨c,ws,ts⟩ ⟨d,ws2,ts2⟩ ⟨p1,p2,p3,p4⟩).length≤400 from jL_len hq false)
   cases hM:meetsB ⟨c,ws,ts⟩ ⟨d,ws2,ts2⟩ ⟨p1,p2,p3,p4⟩
   · simp only [Bool.false_eq_true,if_false]
     have EM:=hid hM;clear hM
     go_enter Tryz.func13,Tryz.ntmps13
     obtain ⟨a2,a3,a4,a0⟩:=ent3 w #[.int .i64 c,.slice A n k,.slice B m j] 35 #[.int .i64 d,.slice C n2 k2,.slice D m2 j2] 35 #[.int .i64 p1,.int .i64 p2,.int .i64 p3,.int .i64 p4] 25
     have a5:=rI h1 a0
     have a6:=rI h2 a0
     have a7:=rI h3 a0
     have a8:=rI h4 a0
     clear h1 h2 h3 h4
     obtain ⟨d1,b1,b2⟩:=at3 a2
     obtain ⟨b3,b4,b5⟩:=at3 a3
     obtain ⟨b6,b7,b8,b9⟩:=at4 a4
     have hc:=pairOf_yes c A B n k m j ws ts d C D n2 k2 m2 j2 ws2 ts2 p1 p2 p3 p4 _ a5.out a6.out hn hm a7.out a8.out hn2 hm2 hq
     have HC:=hid hc;clear hc
     go_wp2_with fail
     refine HC.out.mono ?_
     rintro e c0 ⟨rfl,hb⟩
     clear HC
     clear d1 b1 b2 b3 b4 b5 b6 b7 b8 b9
     have a1:=hid hb
     clear hb
     replace a2:=kH a2 a1
     obtain ⟨c1,c2,c3⟩:=at3 a2
     replace a3:=kH a3 a1
     obtain ⟨c4,c5,c6⟩:=at3 a3
     replace a4:=kH a4 a1
     obtain ⟨c7,c8,c9,d0⟩:=at4 a4
     clear c1 c2 c3 c4 c5 c6 c7 c8 c9 d0
     obtain ⟨o_,ho_⟩:∃ o,o=((.cells #[.int .i64 c,.slice A n k,.slice B m j,.int .i64 d,.slice C n2 k2,.slice D m2 j2,.int .i64 p1,.int .i64 p2,.int .i64 p3,.int .i64 p4] 78):Obj):=⟨_,rfl⟩
     replace a0:=bA (bH a0 a1) o_
     replace a5:=rA (rH a5 a1) o_
     replace a6:=rA (rH a6 a1) o_
     replace a7:=rA (rH a7 a1) o_
     replace a8:=rA (rH a8 a1) o_
     replace a2:=kA a2 o_
     replace a3:=kA a3 o_
     replace a4:=kA a4 o_
     subst ho_
     have a9:=hid (Blk.new c0 78 #[.int .i64 c,.slice A n k,.slice B m j,.int .i64 d,.slice C n2 k2,.slice D m2 j2,.int .i64 p1,.int .i64 p2,.int .i64 p3,.int .i64 p4])
     obtain ⟨d2,d3,d4⟩:=at3 a2
     obtain ⟨d5,d6,d7⟩:=at3 a3
     obtain ⟨d8,d9,e0,e1⟩:=at4 a4
     obtain ⟨e2,e3,e4,e5,e6,e7,e8,e9,f0,f1⟩:=at10 a9
     have hc:=meets_q c A B n k m j ws ts d C D n2 k2 m2 j2 ws2 ts2 p1 p2 p3 p4 _ a5.out a6.out hn hm a7.out a8.out hn2 hm2 hq
     rw [EM.out] at hc
     try dsimp only at hc
     have HC:=hid hc;clear hc
     go_wp2_with fail
     refine HC.out.mono ?_
     rintro e f2 ⟨rfl,hb⟩
     clear HC
     clear d2 d3 d4 d5 d6 d7 d8 d9 e0 e1 e2 e3 e4 e5 e6 e7 e8 e9 f0 f1
     have b0:=hid hb
     clear hb
     replace a2:=kH a2 b0
     obtain ⟨f3,f4,f5⟩:=at3 a2
     replace a3:=kH a3 b0
     obtain ⟨f6,f7,f8⟩:=at3 a3
     replace a4:=kH a4 b0
     obtain ⟨f9,g0,g1,g2⟩:=at4 a4
     replace a9:=kH a9 b0
     obtain ⟨g3,g4,g5,g6,g7,g8,g9,h0,h5,h6⟩:=at10 a9
     go_wp2
     go_ret3
     replace a0:=bH a0 b0
     exact ⟨rfl,a0.out⟩
   · simp only [if_true]
     have hsc:=scode_way hq hM
     dsimp only at hsc
     have EM:=hid hM;clear hM
     have hE1:endV (wayP ⟨c,ws,ts⟩ ⟨d,ws2,ts2⟩ ⟨p1,p2,p3,p4⟩) (wayL ⟨c,ws,ts⟩ ⟨d,ws2,ts2⟩ ⟨p1,p2,p3,p4⟩) p1 p2 false=.tuple #[.int .i64 (-fin (dist (wayL ⟨c,ws,ts⟩ ⟨d,ws2,ts2⟩ ⟨p1,p2,p3,p4⟩) (wayP ⟨c,ws,ts⟩ ⟨d,ws2,ts2⟩ ⟨p1,p2,p3,p4⟩).toNat p2.toNat p1.toNat)),.bool (isF (dist (wayL ⟨c,ws,ts⟩ ⟨d,ws2,ts2⟩ ⟨p1,p2,p3,p4⟩) (wayP ⟨c,ws,ts⟩ ⟨d,ws2,ts2⟩ ⟨p1,p2,p3,p4⟩).toNat p2.toNat p1.toNat)),.int .i64 0]:=by
      unfold endV;rw [if_pos hsc];rfl
     have hE2:endV (wayP ⟨c,ws,ts⟩ ⟨d,ws2,ts2⟩ ⟨p1,p2,p3,p4⟩) (wayL ⟨c,ws,ts⟩ ⟨d,ws2,ts2⟩ ⟨p1,p2,p3,p4⟩) p1 p2 true=.tuple #[.int .i64 (fin (dist (wayL ⟨c,ws,ts⟩ ⟨d,ws2,ts2⟩ ⟨p1,p2,p3,p4⟩) (wayP ⟨c,ws,ts⟩ ⟨d,ws2,ts2⟩ ⟨p1,p2,p3,p4⟩).toNat p1.toNat p2.toNat)),.bool (isF (dist (wayL ⟨c,ws,ts⟩ ⟨d,ws2,ts2⟩ ⟨p1,p2,p3,p4⟩) (wayP ⟨c,ws,ts⟩ ⟨d,ws2,ts2⟩ ⟨p1,p2,p3,p4⟩).toNat p1.toNat p2.toNat)),.int .i64 0]:=by
      unfold endV;rw [if_pos hsc];rfl
     clear hsc
     unfold lowV highV
     dsimp only
     exact Shared_ok c A B n k m j ws ts d C D n2 k2 m2 j2 ws2 ts2 p1 p2 p3 p4 w h1 h2 hn hm h3 h4 hn2 hm2 hq HQ1 HL1 EM _ _ _ _ _ _ (hid hE1) (hid hE2) (hid rfl) (hid rfl)
 · rw [if_neg hq]
   obtain ⟨q,hq2⟩:∃ q,asked ⟨c,ws,ts⟩ ⟨d,ws2,ts2⟩ ⟨p1,p2,p3,p4⟩=q:=⟨_,rfl⟩
   rw [hq2] at hq
   rw [hq2]
   have hne:=hq
   have hqe:(q != 0)=true:=by simpa using hq
   clear hq
   have hq:=hq2;clear hq2
   dsimp only
   go_enter Tryz.func13,Tryz.ntmps13
   obtain ⟨a2,a3,a4,a0⟩:=ent3 w #[.int .i64 c,.slice A n k,.slice B m j] 35 #[.int .i64 d,.slice C n2 k2,.slice D m2 j2] 35 #[.int .i64 p1,.int .i64 p2,.int .i64 p3,.int .i64 p4] 25
   have a5:=rI h1 a0
   have a6:=rI h2 a0
   have a7:=rI h3 a0
   have a8:=rI h4 a0
   clear h1 h2 h3 h4
   obtain ⟨d1,b1,b2⟩:=at3 a2
   obtain ⟨b3,b4,b5⟩:=at3 a3
   obtain ⟨b6,b7,b8,b9⟩:=at4 a4
   have hc:=pairOf_no c A B n k m j ws ts d C D n2 k2 m2 j2 ws2 ts2 p1 p2 p3 p4 _ a5.out a6.out hn hm a7.out a8.out hn2 hm2 q hq hne
   have HC:=hid hc;clear hc
   go_wp2_with fail
   refine HC.out.mono ?_
   rintro e c0 ⟨rfl,hb⟩
   clear HC
   clear d1 b1 b2 b3 b4 b5 b6 b7 b8 b9
   have a1:=hid hb
   clear hb
   replace a2:=kH a2 a1
   obtain ⟨c1,c2,c3⟩:=at3 a2
   replace a3:=kH a3 a1
   obtain ⟨c4,c5,c6⟩:=at3 a3
   replace a4:=kH a4 a1
   obtain ⟨c7,c8,c9,d0⟩:=at4 a4
   clear c1 c2 c3 c4 c5 c6 c7 c8 c9 d0
   obtain ⟨o_,ho_⟩:∃ o,o=((.cells #[.int .i64 0,.slice none 0 0,.slice none 0 0,.int .i64 0,.slice none 0 0,.slice none 0 0,.int .i64 0,.int .i64 0,.int .i64 0,.int .i64 0] 78):Obj):=⟨_,rfl⟩
   replace a0:=bA (bH a0 a1) o_
   replace a5:=rA (rH a5 a1) o_
   replace a6:=rA (rH a6 a1) o_
   replace a7:=rA (rH a7 a1) o_
   replace a8:=rA (rH a8 a1) o_
   replace a2:=kA a2 o_
   replace a3:=kA a3 o_
   replace a4:=kA a4 o_
   subst ho_
   have a9:=hid (Blk.new c0 78 #[.int .i64 0,.slice none 0 0,.slice none 0 0,.int .i64 0,.slice none 0 0,.slice none 0 0,.int .i64 0,.int .i64 0,.int .i64 0,.int .i64 0])
   obtain ⟨d2,d3,d4⟩:=at3 a2
   obtain ⟨d5,d6,d7⟩:=at3 a3
   obtain ⟨d8,d9,e0,e1⟩:=at4 a4
   obtain ⟨e2,e3,e4,e5,e6,e7,e8,e9,f0,f1⟩:=at10 a9
   go_wp2
   go_ret3
   exact ⟨rfl,(by have hsz_:=Below.size a0.out;repeat' (first|with_reducible exact a0.out|with_reducible exact Below.refl _ _|with_reducible refine Below.alloc ?_ ?_ _|with_reducible refine Below.setCell ?_ ?_ _|with_reducible refine Below.drew ?_|with_reducible refine below_setRow ?_ ?_ _|omega | (simp;done) | (simp;omega)))⟩
end Go.Proofs.YtebkniakflhhkaaGreatDoor
