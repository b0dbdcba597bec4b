import Derived.Test.YtjjmifcjailpaaaGreatUGraph
import Derived.Test.YtjjmifcjailpaaaGreatURef
import Derived.Test.YtjjmifcjailpaaaGreatUEPair
import Derived.Test.YtjjmifcjailpaaaGreatUERefJ
set_option maxHeartbeats 4000000
set_option linter.unusedSimpArgs false
set_option linter.unusedVariables false
namespace Go.Proofs.YtjjmifcjailpaaaGreat
open Go.Lib (hid)
open Go.RowKit
theorem rways_any (c:Int) (A B:Option Addr) (n k m j:Nat) (w:World) (hc:-1000000≤c) (hc':c≤1000000) :
 Calls Tryz.prog 134 #[.agg #[.int .i64 c,.slice A n k,.slice B m j]] w fun e w'=>e=.returned (.agg #[.int .i64 (c+1),.slice A n k])∧Below w.heap.size w w':=by
 go_enter Tryz.func134,Tryz.ntmps134
 go_wp2
 refine bodyPost_ret (v:=.agg #[.int .i64 (c+1),.slice A n k]) (by simp [results,Tryz.results134,go_sem]) rfl ⟨rfl,(by (repeat (first|exact Below.refl _ _|refine Below.drew ?_|refine Below.alloc ?_ (by simp) _)))⟩
theorem rturns_any (c:Int) (A B:Option Addr) (n k m j:Nat) (w:World) :
 Calls Tryz.prog 135 #[.agg #[.int .i64 c,.slice A n k,.slice B m j]] w fun e w'=>e=.returned (.agg #[.int .i64 c,.slice B m j])∧Below w.heap.size w w':=by
 go_enter Tryz.func135,Tryz.ntmps135
 go_wp2
 refine bodyPost_ret (v:=.agg #[.int .i64 c,.slice B m j]) (by simp [results,Tryz.results135,go_sem]) rfl ⟨rfl,(by (repeat (first|exact Below.refl _ _|refine Below.drew ?_|refine Below.alloc ?_ (by simp) _)))⟩
set_option maxRecDepth 100000 in
theorem rCheckOutline_any (c:Int) (A B:Option Addr) (n k m j:Nat) (ws ts:List Bnd) (w:World) (h1:RdB w A n k ws) (h2:RdB w B m j ts) (hn:n≤maxLen) (hm:m≤maxLen) :
 Calls Tryz.prog 108 #[.agg #[.int .i64 c,.slice A n k,.slice B m j]] w fun e w'=>e=.returned (.int .i64 (chkO ⟨c,ws,ts⟩))∧Below w.heap.size w w':=by
 by_cases h3:3≤c
 · by_cases h16:c≤16
   · obtain ⟨q,hq⟩:∃ q,chk (c+1) ws=q:=⟨_,rfl⟩
     obtain ⟨q2,hq2⟩:∃ q,chk c ts=q:=⟨_,rfl⟩
     unfold chkO
     rw [if_neg (by simp;omega)]
     dsimp only
     rw [hq,hq2]
     have E1:=hid hq;have E2:=hid hq2;clear hq hq2
     by_cases h0:q=0
     · rw [if_neg (by simpa using h0)]
       subst h0
       go_enter Tryz.func108,Tryz.ntmps108
       obtain ⟨a0,a1⟩:=ent1 w #[.int .i64 c,.slice A n k,.slice B m j] 24
       have a4:=rI h1 a1
       have a5:=rI h2 a1
       clear h1 h2
       obtain ⟨b1,b2,b3⟩:=at3 a0
       have hc:=rways_any c A B n k m j ((w.alloc (.cells #[.int .i64 c,.slice A n k,.slice B m j] 24))) (by omega) (by omega)
       have HC:=hid hc;clear hc
       go_wp2_with fail
       refine HC.out.mono ?_
       rintro e b4 ⟨rfl,hb⟩
       clear HC
       clear b1 b2 b3
       have a2:=hid hb
       clear hb
       replace a0:=kH a0 a2
       obtain ⟨a7,a8,a9⟩:=at3 a0
       replace a4:=rH a4 a2
       have hc:=rCheckSystem_any (c+1) A n k ws (b4) a4.out hn
       rw [E1.out] at hc
       try dsimp only at hc
       have HC:=hid hc;clear hc
       go_wp2_with fail
       refine HC.out.mono ?_
       rintro e b5 ⟨rfl,hb⟩
       clear HC
       clear a7 a8 a9
       have a3:=hid hb
       clear hb
       replace a0:=kH a0 a3
       obtain ⟨b6,b7,b8⟩:=at3 a0
       have hc:=rturns_any c A B n k m j (b5)
       have HC:=hid hc;clear hc
       go_wp2_with fail
       refine HC.out.mono ?_
       rintro e b9 ⟨rfl,hb⟩
       clear HC
       clear b6 b7 b8
       have a6:=hid hb
       clear hb
       replace a0:=kH a0 a6
       obtain ⟨c0,c1,c2⟩:=at3 a0
       replace a5:=rH (rH (rH a5 a2) a3) a6
       have hc:=rCheckSystem_any c B m j ts (b9) a5.out hm
       rw [E2.out] at hc
       try dsimp only at hc
       have HC:=hid hc;clear hc
       go_wp2_with fail
       refine HC.out.mono ?_
       rintro e c3 ⟨rfl,hb⟩
       clear HC
       clear c0 c1 c2
       have b0:=hid hb
       clear hb
       replace a0:=kH a0 b0
       obtain ⟨c4,c5,c6⟩:=at3 a0
       go_wp2
       go_ret
       replace a1:=bH (bH (bH (bH a1 a2) a3) a6) b0
       exact ⟨rfl,a1.out⟩
     · rw [if_pos h0]
       have hne:(q == 0)=false:=by simpa using h0
       clear h0
       go_enter Tryz.func108,Tryz.ntmps108
       obtain ⟨a0,a1⟩:=ent1 w #[.int .i64 c,.slice A n k,.slice B m j] 24
       have a4:=rI h1 a1
       have a5:=rI h2 a1
       clear h1 h2
       obtain ⟨b1,b2,b3⟩:=at3 a0
       have hc:=rways_any c A B n k m j ((w.alloc (.cells #[.int .i64 c,.slice A n k,.slice B m j] 24))) (by omega) (by omega)
       have HC:=hid hc;clear hc
       go_wp2_with fail
       refine HC.out.mono ?_
       rintro e b4 ⟨rfl,hb⟩
       clear HC
       clear b1 b2 b3
       have a2:=hid hb
       clear hb
       replace a0:=kH a0 a2
       obtain ⟨a7,a8,a9⟩:=at3 a0
       replace a4:=rH a4 a2
       have hc:=rCheckSystem_any (c+1) A n k ws (b4) a4.out hn
       rw [E1.out] at hc
       try dsimp only at hc
       have HC:=hid hc;clear hc
       go_wp2_with fail
       refine HC.out.mono ?_
       rintro e b5 ⟨rfl,hb⟩
       clear HC
       clear a7 a8 a9
       have a3:=hid hb
       clear hb
       replace a0:=kH a0 a3
       obtain ⟨b6,b7,b8⟩:=at3 a0
       go_wp2
       go_ret
       replace a1:=bH (bH a1 a2) a3
       exact ⟨rfl,a1.out⟩
   · go_enter Tryz.func108,Tryz.ntmps108
     go_wp2
     go_ret
     exact ⟨ret_int (by unfold chkO;rw [if_pos (by simp;omega)]),(by (repeat (first|exact Below.refl _ _|refine Below.drew ?_|refine Below.alloc ?_ (by simp) _)))⟩
 · go_enter Tryz.func108,Tryz.ntmps108
   go_wp2
   go_ret
   exact ⟨ret_int (by unfold chkO;rw [if_pos (by simp;omega)]),(by (repeat (first|exact Below.refl _ _|refine Below.drew ?_|refine Below.alloc ?_ (by simp) _)))⟩
theorem rstretch_any (f t c:Int) (w:World):Calls Tryz.prog 118 #[.int .i64 c,.agg #[.int .i64 f,.int .i64 t]] w fun e w'=>e=.returned (.bool (isStr f t c))∧Below w.heap.size w w':=by
 by_cases h1:0≤f
 · by_cases h2:f<t
   · go_enter Tryz.func118,Tryz.ntmps118
     go_wp2
     go_ret
     exact ⟨by simp [isStr,h1,h2],(by (repeat (first|exact Below.refl _ _|refine Below.drew ?_|refine Below.alloc ?_ (by simp) _)))⟩
   · go_enter Tryz.func118,Tryz.ntmps118
     go_wp2
     go_ret
     exact ⟨ret_bool (Bool.eq_iff_iff.2 (by simp [isStr];omega)),(by (repeat (first|exact Below.refl _ _|refine Below.drew ?_|refine Below.alloc ?_ (by simp) _)))⟩
 · go_enter Tryz.func118,Tryz.ntmps118
   go_wp2
   go_ret
   exact ⟨ret_bool (Bool.eq_iff_iff.2 (by simp [isStr];omega)),(by (repeat (first|exact Below.refl _ _|refine Below.drew ?_|refine Below.alloc ?_ (by simp) _)))⟩
theorem rstretch_is (f t c:Int) (b:Bool) (h:isStr f t c=b) (w:World):Calls Tryz.prog 118 #[.int .i64 c,.agg #[.int .i64 f,.int .i64 t]] w fun e w'=>e=.returned (.bool b)∧Below w.heap.size w w':=by
 subst h
 exact rstretch_any f t c w
set_option maxRecDepth 100000 in
theorem rCheckPairing_any (c:Int) (A B:Option Addr) (n k m j:Nat) (ws ts:List Bnd) (d:Int) (C D:Option Addr) (n2 k2 m2 j2:Nat) (ws2 ts2:List Bnd) (p1 p2 p3 p4:Int) (w:World) (h1:RdB w A n k ws) (h2:RdB w B m j ts) (hn:n≤maxLen) (hm:m≤maxLen) (h3:RdB w C n2 k2 ws2) (h4:RdB w D m2 j2 ts2) (hn2:n2≤maxLen) (hm2:m2≤maxLen) :
 Calls Tryz.prog 85 #[.agg #[.int .i64 c,.slice A n k,.slice B m j],.agg #[.int .i64 d,.slice C n2 k2,.slice D m2 j2],.agg #[.int .i64 p1,.int .i64 p2,.int .i64 p3,.int .i64 p4]] w fun e w'=>e=.returned (.int .i64 (chkP ⟨c,ws,ts⟩ ⟨d,ws2,ts2⟩ ⟨p1,p2,p3,p4⟩))∧Below w.heap.size w w':=by
 obtain ⟨q,hq⟩:∃ q,chkO ⟨c,ws,ts⟩=q:=⟨_,rfl⟩
 obtain ⟨q2,hq2⟩:∃ q,chkO ⟨d,ws2,ts2⟩=q:=⟨_,rfl⟩
 unfold chkP chkOO
 rw [hq,hq2]
 have HQ:=hid hq;have HQ2:=hid hq2
 have E1:=hid hq;have E2:=hid hq2;clear hq hq2
 by_cases h0:q=0
 · subst h0
   have g1:=(chkO_ok HQ.out).2.1
   dsimp only at g1 ⊢
   clear HQ
   by_cases h00:q2=0
   · subst h00
     have g2:=(chkO_ok HQ2.out).2.1
     dsimp only at g2
     clear HQ2
     rw [if_neg (by simp)]
     cases hs1:isStr p1 p2 c
     · rw [if_pos rfl]
       have E3:=hid hs1;clear hs1
       go_enter Tryz.func85,Tryz.ntmps85
       obtain ⟨a0,a1,a2,a3⟩:=ent3 w #[.int .i64 c,.slice A n k,.slice B m j] 24 #[.int .i64 d,.slice C n2 k2,.slice D m2 j2] 24 #[.int .i64 p1,.int .i64 p2,.int .i64 p3,.int .i64 p4] 28
       have b0:=rI h1 a3
       have b1:=rI h2 a3
       have a7:=rI h3 a3
       have a8:=rI h4 a3
       clear h1 h2 h3 h4
       obtain ⟨d1,b2,b3⟩:=at3 a0
       obtain ⟨b4,b5,b6⟩:=at3 a1
       obtain ⟨b7,b8,b9,c0⟩:=at4 a2
       have hc:=rCheckOutline_any c A B n k m j ws ts _ b0.out b1.out hn hm
       rw [E1.out] at hc
       try dsimp only at hc
       have HC:=hid hc;clear hc
       go_wp2_with fail
       refine HC.out.mono ?_
       rintro e f4 ⟨rfl,hb⟩
       clear HC
       clear d1 b2 b3 b4 b5 b6 b7 b8 b9 c0
       have a4:=hid hb
       clear hb
       replace a0:=kH a0 a4
       obtain ⟨c1,c2,c3⟩:=at3 a0
       replace a1:=kH a1 a4
       obtain ⟨c4,c5,c6⟩:=at3 a1
       replace a2:=kH a2 a4
       obtain ⟨c7,c8,c9,d0⟩:=at4 a2
       replace a7:=rH a7 a4
       replace a8:=rH a8 a4
       have hc:=rCheckOutline_any d C D n2 k2 m2 j2 ws2 ts2 _ a7.out a8.out hn2 hm2
       rw [E2.out] at hc
       try dsimp only at hc
       have HC:=hid hc;clear hc
       go_wp2_with fail
       refine HC.out.mono ?_
       rintro e d2 ⟨rfl,hb⟩
       clear HC
       clear c1 c2 c3 c4 c5 c6 c7 c8 c9 d0
       have a5:=hid hb
       clear hb
       replace a0:=kH a0 a5
       obtain ⟨d3,d4,d5⟩:=at3 a0
       replace a1:=kH a1 a5
       obtain ⟨d6,d7,d8⟩:=at3 a1
       replace a2:=kH a2 a5
       obtain ⟨d9,e0,e1,e2⟩:=at4 a2
       have hc:=rstretch_is p1 p2 c _ E3.out (d2)
       have HC:=hid hc;clear hc
       go_wp2_with fail
       refine HC.out.mono ?_
       rintro e e3 ⟨rfl,hb⟩
       clear HC
       clear d3 d4 d5 d6 d7 d8 d9 e0 e1 e2
       have a6:=hid hb
       clear hb
       replace a0:=kH a0 a6
       obtain ⟨e4,e5,e6⟩:=at3 a0
       replace a1:=kH a1 a6
       obtain ⟨e7,e8,e9⟩:=at3 a1
       replace a2:=kH a2 a6
       obtain ⟨f0,f1,f2,f3⟩:=at4 a2
       go_wp2
       go_ret
       replace a3:=bH (bH (bH a3 a4) a5) a6
       exact ⟨rfl,a3.out⟩
     · rw [if_neg (by simp)]
       have i1:=isStr_ok hs1
       have E3:=hid hs1;clear hs1
       cases hs2:isStr p3 p4 d
       · rw [if_pos rfl]
         have E4:=hid hs2;clear hs2
         go_enter Tryz.func85,Tryz.ntmps85
         obtain ⟨a0,a1,a2,a3⟩:=ent3 w #[.int .i64 c,.slice A n k,.slice B m j] 24 #[.int .i64 d,.slice C n2 k2,.slice D m2 j2] 24 #[.int .i64 p1,.int .i64 p2,.int .i64 p3,.int .i64 p4] 28
         have b0:=rI h1 a3
         have b1:=rI h2 a3
         have a7:=rI h3 a3
         have a8:=rI h4 a3
         clear h1 h2 h3 h4
         obtain ⟨d1,b2,b3⟩:=at3 a0
         obtain ⟨b4,b5,b6⟩:=at3 a1
         obtain ⟨b7,b8,b9,c0⟩:=at4 a2
         have hc:=rCheckOutline_any c A B n k m j ws ts _ b0.out b1.out hn hm
         rw [E1.out] at hc
         try dsimp only at hc
         have HC:=hid hc;clear hc
         go_wp2_with fail
         refine HC.out.mono ?_
         rintro e f4 ⟨rfl,hb⟩
         clear HC
         clear d1 b2 b3 b4 b5 b6 b7 b8 b9 c0
         have a4:=hid hb
         clear hb
         replace a0:=kH a0 a4
         obtain ⟨c1,c2,c3⟩:=at3 a0
         replace a1:=kH a1 a4
         obtain ⟨c4,c5,c6⟩:=at3 a1
         replace a2:=kH a2 a4
         obtain ⟨c7,c8,c9,d0⟩:=at4 a2
         replace a7:=rH a7 a4
         replace a8:=rH a8 a4
         have hc:=rCheckOutline_any d C D n2 k2 m2 j2 ws2 ts2 _ a7.out a8.out hn2 hm2
         rw [E2.out] at hc
         try dsimp only at hc
         have HC:=hid hc;clear hc
         go_wp2_with fail
         refine HC.out.mono ?_
         rintro e d2 ⟨rfl,hb⟩
         clear HC
         clear c1 c2 c3 c4 c5 c6 c7 c8 c9 d0
         have a5:=hid hb
         clear hb
         replace a0:=kH a0 a5
         obtain ⟨d3,d4,d5⟩:=at3 a0
         replace a1:=kH a1 a5
         obtain ⟨d6,d7,d8⟩:=at3 a1
         replace a2:=kH a2 a5
         obtain ⟨d9,e0,e1,e2⟩:=at4 a2
         have hc:=rstretch_is p1 p2 c _ E3.out (d2)
         have HC:=hid hc;clear hc
         go_wp2_with fail
         refine HC.out.mono ?_
         rintro e e3 ⟨rfl,hb⟩
         clear HC
         clear d3 d4 d5 d6 d7 d8 d9 e0 e1 e2
         have a6:=hid hb
         clear hb
         replace a0:=kH a0 a6
         obtain ⟨e4,e5,e6⟩:=at3 a0
         replace a1:=kH a1 a6
         obtain ⟨e7,e8,e9⟩:=at3 a1
         replace a2:=kH a2 a6
         obtain ⟨f0,f1,f2,f3⟩:=at4 a2
         have hc:=rstretch_is p3 p4 d _ E4.out (e3)
         have HC:=hid hc;clear hc
         go_wp2_with fail
         refine HC.out.mono ?_
         rintro e f5 ⟨rfl,hb⟩
         clear HC
         clear e4 e5 e6 e7 e8 e9 f0 f1 f2 f3
         have a9:=hid hb
         clear hb
         replace a0:=kH a0 a9
         obtain ⟨f6,f7,f8⟩:=at3 a0
         replace a1:=kH a1 a9
         obtain ⟨f9,g0,g3⟩:=at3 a1
         replace a2:=kH a2 a9
         obtain ⟨g4,g5,g6,g7⟩:=at4 a2
         go_wp2
         go_ret
         replace a3:=bH (bH (bH (bH a3 a4) a5) a6) a9
         exact ⟨rfl,a3.out⟩
       · rw [if_neg (by simp)]
         have i2:=isStr_ok hs2
         have E4:=hid hs2;clear hs2
         by_cases hk:p2-p1=p4-p3
         · rw [if_neg (by simpa using hk)]
           have hkb:(p2-p1 != p4-p3)=false:=by simpa using hk
           clear hk
           go_enter Tryz.func85,Tryz.ntmps85
           obtain ⟨a0,a1,a2,a3⟩:=ent3 w #[.int .i64 c,.slice A n k,.slice B m j] 24 #[.int .i64 d,.slice C n2 k2,.slice D m2 j2] 24 #[.int .i64 p1,.int .i64 p2,.int .i64 p3,.int .i64 p4] 28
           have b0:=rI h1 a3
           have b1:=rI h2 a3
           have a7:=rI h3 a3
           have a8:=rI h4 a3
           clear h1 h2 h3 h4
           obtain ⟨d1,b2,b3⟩:=at3 a0
           obtain ⟨b4,b5,b6⟩:=at3 a1
           obtain ⟨b7,b8,b9,c0⟩:=at4 a2
           have hc:=rCheckOutline_any c A B n k m j ws ts _ b0.out b1.out hn hm
           rw [E1.out] at hc
           try dsimp only at hc
           have HC:=hid hc;clear hc
           go_wp2_with fail
           refine HC.out.mono ?_
           rintro e f4 ⟨rfl,hb⟩
           clear HC
           clear d1 b2 b3 b4 b5 b6 b7 b8 b9 c0
           have a4:=hid hb
           clear hb
           replace a0:=kH a0 a4
           obtain ⟨c1,c2,c3⟩:=at3 a0
           replace a1:=kH a1 a4
           obtain ⟨c4,c5,c6⟩:=at3 a1
           replace a2:=kH a2 a4
           obtain ⟨c7,c8,c9,d0⟩:=at4 a2
           replace a7:=rH a7 a4
           replace a8:=rH a8 a4
           have hc:=rCheckOutline_any d C D n2 k2 m2 j2 ws2 ts2 _ a7.out a8.out hn2 hm2
           rw [E2.out] at hc
           try dsimp only at hc
           have HC:=hid hc;clear hc
           go_wp2_with fail
           refine HC.out.mono ?_
           rintro e d2 ⟨rfl,hb⟩
           clear HC
           clear c1 c2 c3 c4 c5 c6 c7 c8 c9 d0
           have a5:=hid hb
           clear hb
           replace a0:=kH a0 a5
           obtain ⟨d3,d4,d5⟩:=at3 a0
           replace a1:=kH a1 a5
           obtain ⟨d6,d7,d8⟩:=at3 a1
           replace a2:=kH a2 a5
           obtain ⟨d9,e0,e1,e2⟩:=at4 a2
           have hc:=rstretch_is p1 p2 c _ E3.out (d2)
           have HC:=hid hc;clear hc
           go_wp2_with fail
           refine HC.out.mono ?_
           rintro e e3 ⟨rfl,hb⟩
           clear HC
           clear d3 d4 d5 d6 d7 d8 d9 e0 e1 e2
           have a6:=hid hb
           clear hb
           replace a0:=kH a0 a6
           obtain ⟨e4,e5,e6⟩:=at3 a0
           replace a1:=kH a1 a6
           obtain ⟨e7,e8,e9⟩:=at3 a1
           replace a2:=kH a2 a6
           obtain ⟨f0,f1,f2,f3⟩:=at4 a2
           have hc:=rstretch_is p3 p4 d _ E4.out (e3)
           have HC:=hid hc;clear hc
           go_wp2_with fail
           refine HC.out.mono ?_
           rintro e f5 ⟨rfl,hb⟩
           clear HC
           clear e4 e5 e6 e7 e8 e9 f0 f1 f2 f3
           have a9:=hid hb
           clear hb
           replace a0:=kH a0 a9
           obtain ⟨f6,f7,f8⟩:=at3 a0
           replace a1:=kH a1 a9
           obtain ⟨f9,g0,g3⟩:=at3 a1
           replace a2:=kH a2 a9
           obtain ⟨g4,g5,g6,g7⟩:=at4 a2
           go_wp2
           go_ret
           replace a3:=bH (bH (bH (bH a3 a4) a5) a6) a9
           exact ⟨rfl,a3.out⟩
         · rw [if_pos hk]
           have hkb:(p2-p1 != p4-p3)=true:=by simpa using hk
           clear hk
           go_enter Tryz.func85,Tryz.ntmps85
           obtain ⟨a0,a1,a2,a3⟩:=ent3 w #[.int .i64 c,.slice A n k,.slice B m j] 24 #[.int .i64 d,.slice C n2 k2,.slice D m2 j2] 24 #[.int .i64 p1,.int .i64 p2,.int .i64 p3,.int .i64 p4] 28
           have b0:=rI h1 a3
           have b1:=rI h2 a3
           have a7:=rI h3 a3
           have a8:=rI h4 a3
           clear h1 h2 h3 h4
           obtain ⟨d1,b2,b3⟩:=at3 a0
           obtain ⟨b4,b5,b6⟩:=at3 a1
           obtain ⟨b7,b8,b9,c0⟩:=at4 a2
           have hc:=rCheckOutline_any c A B n k m j ws ts _ b0.out b1.out hn hm
           rw [E1.out] at hc
           try dsimp only at hc
           have HC:=hid hc;clear hc
           go_wp2_with fail
           refine HC.out.mono ?_
           rintro e f4 ⟨rfl,hb⟩
           clear HC
           clear d1 b2 b3 b4 b5 b6 b7 b8 b9 c0
           have a4:=hid hb
           clear hb
           replace a0:=kH a0 a4
           obtain ⟨c1,c2,c3⟩:=at3 a0
           replace a1:=kH a1 a4
           obtain ⟨c4,c5,c6⟩:=at3 a1
           replace a2:=kH a2 a4
           obtain ⟨c7,c8,c9,d0⟩:=at4 a2
           replace a7:=rH a7 a4
           replace a8:=rH a8 a4
           have hc:=rCheckOutline_any d C D n2 k2 m2 j2 ws2 ts2 _ a7.out a8.out hn2 hm2
           rw [E2.out] at hc
           try dsimp only at hc
           have HC:=hid hc;clear hc
           go_wp2_with fail
           refine HC.out.mono ?_
           rintro e d2 ⟨rfl,hb⟩
           clear HC
           clear c1 c2 c3 c4 c5 c6 c7 c8 c9 d0
           have a5:=hid hb
           clear hb
           replace a0:=kH a0 a5
           obtain ⟨d3,d4,d5⟩:=at3 a0
           replace a1:=kH a1 a5
           obtain ⟨d6,d7,d8⟩:=at3 a1
           replace a2:=kH a2 a5
           obtain ⟨d9,e0,e1,e2⟩:=at4 a2
           have hc:=rstretch_is p1 p2 c _ E3.out (d2)
           have HC:=hid hc;clear hc
           go_wp2_with fail
           refine HC.out.mono ?_
           rintro e e3 ⟨rfl,hb⟩
           clear HC
           clear d3 d4 d5 d6 d7 d8 d9 e0 e1 e2
           have a6:=hid hb
           clear hb
           replace a0:=kH a0 a6
           obtain ⟨e4,e5,e6⟩:=at3 a0
           replace a1:=kH a1 a6
           obtain ⟨e7,e8,e9⟩:=at3 a1
           replace a2:=kH a2 a6
           obtain ⟨f0,f1,f2,f3⟩:=at4 a2
           have hc:=rstretch_is p3 p4 d _ E4.out (e3)
           have HC:=hid hc;clear hc
           go_wp2_with fail
           refine HC.out.mono ?_
           rintro e f5 ⟨rfl,hb⟩
           clear HC
           clear e4 e5 e6 e7 e8 e9 f0 f1 f2 f3
           have a9:=hid hb
           clear hb
           replace a0:=kH a0 a9
           obtain ⟨f6,f7,f8⟩:=at3 a0
           replace a1:=kH a1 a9
           obtain ⟨f9,g0,g3⟩:=at3 a1
           replace a2:=kH a2 a9
           obtain ⟨g4,g5,g6,g7⟩:=at4 a2
           go_wp2
           go_ret
           replace a3:=bH (bH (bH (bH a3 a4) a5) a6) a9
           exact ⟨rfl,a3.out⟩
   · have hne:(q2 != 0)=true:=by simpa using h00
     rw [if_neg (show ¬ ((0:Int)≠0) by simp),if_pos h00]
     clear h00 HQ2
     go_enter Tryz.func85,Tryz.ntmps85
     obtain ⟨a0,a1,a2,a3⟩:=ent3 w #[.int .i64 c,.slice A n k,.slice B m j] 24 #[.int .i64 d,.slice C n2 k2,.slice D m2 j2] 24 #[.int .i64 p1,.int .i64 p2,.int .i64 p3,.int .i64 p4] 28
     have b0:=rI h1 a3
     have b1:=rI h2 a3
     have a7:=rI h3 a3
     have a8:=rI h4 a3
     clear h1 h2 h3 h4
     obtain ⟨d1,b2,b3⟩:=at3 a0
     obtain ⟨b4,b5,b6⟩:=at3 a1
     obtain ⟨b7,b8,b9,c0⟩:=at4 a2
     have hc:=rCheckOutline_any c A B n k m j ws ts _ b0.out b1.out hn hm
     rw [E1.out] at hc
     try dsimp only at hc
     have HC:=hid hc;clear hc
     go_wp2_with fail
     refine HC.out.mono ?_
     rintro e f4 ⟨rfl,hb⟩
     clear HC
     clear d1 b2 b3 b4 b5 b6 b7 b8 b9 c0
     have a4:=hid hb
     clear hb
     replace a0:=kH a0 a4
     obtain ⟨c1,c2,c3⟩:=at3 a0
     replace a1:=kH a1 a4
     obtain ⟨c4,c5,c6⟩:=at3 a1
     replace a2:=kH a2 a4
     obtain ⟨c7,c8,c9,d0⟩:=at4 a2
     replace a7:=rH a7 a4
     replace a8:=rH a8 a4
     have hc:=rCheckOutline_any d C D n2 k2 m2 j2 ws2 ts2 _ a7.out a8.out hn2 hm2
     rw [E2.out] at hc
     try dsimp only at hc
     have HC:=hid hc;clear hc
     go_wp2_with fail
     refine HC.out.mono ?_
     rintro e d2 ⟨rfl,hb⟩
     clear HC
     clear c1 c2 c3 c4 c5 c6 c7 c8 c9 d0
     have a5:=hid hb
     clear hb
     replace a0:=kH a0 a5
     obtain ⟨d3,d4,d5⟩:=at3 a0
     replace a1:=kH a1 a5
     obtain ⟨d6,d7,d8⟩:=at3 a1
     replace a2:=kH a2 a5
     obtain ⟨d9,e0,e1,e2⟩:=at4 a2
     go_wp2
     go_ret
     replace a3:=bH (bH a3 a4) a5
     exact ⟨rfl,a3.out⟩
 · have hne:(q != 0)=true:=by simpa using h0
   have heq:(q == 0)=false:=by simpa using h0
   dsimp only
   rw [if_pos h0,if_pos h0]
   clear h0 HQ HQ2
   go_enter Tryz.func85,Tryz.ntmps85
   obtain ⟨a0,a1,a2,a3⟩:=ent3 w #[.int .i64 c,.slice A n k,.slice B m j] 24 #[.int .i64 d,.slice C n2 k2,.slice D m2 j2] 24 #[.int .i64 p1,.int .i64 p2,.int .i64 p3,.int .i64 p4] 28
   have b0:=rI h1 a3
   have b1:=rI h2 a3
   have a7:=rI h3 a3
   have a8:=rI h4 a3
   clear h1 h2 h3 h4
   obtain ⟨d1,b2,b3⟩:=at3 a0
   obtain ⟨b4,b5,b6⟩:=at3 a1
   obtain ⟨b7,b8,b9,c0⟩:=at4 a2
   have hc:=rCheckOutline_any c A B n k m j ws ts _ b0.out b1.out hn hm
   rw [E1.out] at hc
   try dsimp only at hc
   have HC:=hid hc;clear hc
   go_wp2_with fail
   refine HC.out.mono ?_
   rintro e f4 ⟨rfl,hb⟩
   clear HC
   clear d1 b2 b3 b4 b5 b6 b7 b8 b9 c0
   have a4:=hid hb
   clear hb
   replace a0:=kH a0 a4
   obtain ⟨c1,c2,c3⟩:=at3 a0
   replace a1:=kH a1 a4
   obtain ⟨c4,c5,c6⟩:=at3 a1
   replace a2:=kH a2 a4
   obtain ⟨c7,c8,c9,d0⟩:=at4 a2
   go_wp2
   go_ret
   replace a3:=bH a3 a4
   exact ⟨rfl,a3.out⟩
theorem chkP_rng {a b:Otl} {p:Prg} (h:chkP a b p=0):(3≤a.c∧a.c≤16)∧(3≤b.c∧b.c≤16)∧(0≤p.af∧p.af<p.at2∧p.at2≤a.c)∧(0≤p.bf∧p.bf<p.bt∧p.bt≤b.c)∧(∀ x∈b.ws,0≤x.f∧x.f≤16∧0≤x.t∧x.t≤16)∧∀ x∈b.ts,0≤x.f∧x.f≤16∧0≤x.t∧x.t≤16:=by
 obtain ⟨oa,ob,sa,sb,-⟩:=chkP_ok h
 obtain ⟨a1,a2,-,-⟩:=chkO_ok oa
 obtain ⟨b1,b2,b3,b4⟩:=chkO_ok ob
 exact ⟨⟨a1,a2⟩,⟨b1,b2⟩,sa,sb,chk_range b3 (by omega),chk_range b4 (by omega)⟩
theorem rjoint_any (u:Bool) (c:Int) (A B:Option Addr) (n k m j:Nat) (ws ts:List Bnd) (d:Int) (C D:Option Addr) (n2 k2 m2 j2:Nat) (ws2 ts2:List Bnd) (p1 p2 p3 p4:Int) (w:World) (h1:RdB w A n k ws) (h2:RdB w B m j ts) (hn:n≤maxLen) (hm:m≤maxLen) (h3:RdB w C n2 k2 ws2) (h4:RdB w D m2 j2 ts2) (hn2:n2≤maxLen) (hm2:m2≤maxLen) (hq:chkP ⟨c,ws,ts⟩ ⟨d,ws2,ts2⟩ ⟨p1,p2,p3,p4⟩=0) :
 Calls Tryz.prog 48 #[.agg #[.int .i64 c,.slice A n k,.slice B m j],.agg #[.int .i64 d,.slice C n2 k2,.slice D m2 j2],.agg #[.int .i64 p1,.int .i64 p2,.int .i64 p3,.int .i64 p4],.bool u] w fun e w'=>∃ Ar nr kr,e=.returned (.agg #[.int .i64 (jP u ⟨c,ws,ts⟩ ⟨d,ws2,ts2⟩ ⟨p1,p2,p3,p4⟩),.slice Ar nr kr])∧RdB w' Ar nr kr (jL u ⟨c,ws,ts⟩ ⟨d,ws2,ts2⟩ ⟨p1,p2,p3,p4⟩)∧Below w.heap.size w w':=by
 obtain ⟨g0,g1,g2,g3,r1,r2⟩:=chkP_rng hq
 obtain ⟨l1,l2,l3,l4⟩:=chkP_lens hq
 dsimp only at g0 g1 g2 g3 r1 r2 l1 l2 l3 l4
 cases u
 · exact rjoint_w c A B n k m j ws ts d C D n2 k2 m2 j2 ws2 ts2 p1 p2 p3 p4 w h1 h2 hn hm h3 h4 hn2 hm2 g0 g1 g2 g3 (by have:=h1.len;omega) (by have:=h3.len;omega) r1
 · exact rjoint_t c A B n k m j ws ts d C D n2 k2 m2 j2 ws2 ts2 p1 p2 p3 p4 w h1 h2 hn hm h3 h4 hn2 hm2 g0 g1 g2 g3 (by have:=h2.len;omega) (by have:=h4.len;omega) r2
end Go.Proofs.YtjjmifcjailpaaaGreat
