import Derived.Test.YtebkniakflhhkaaGreatDoorAEPair
set_option maxHeartbeats 2000000
set_option linter.unusedSimpArgs false
set_option linter.unusedVariables false
namespace Go.Proofs.YtebkniakflhhkaaGreatDoor
open Go.Lib (hid)
open Go.RowKit
theorem chkP_lens {a b:Otl} {p:Prg} (h:chkP a b p=0):a.ws.length≤400∧a.ts.length≤400∧b.ws.length≤400∧b.ts.length≤400:=by
 obtain ⟨oa,ob,-⟩:=chkP_ok h
 obtain ⟨a1,a2,a3,a4⟩:=chkO_ok oa
 obtain ⟨b1,b2,b3,b4⟩:=chkO_ok ob
 exact ⟨(chk_ok a3).2.2.1,(chk_ok a4).2.2.1,(chk_ok b3).2.2.1,(chk_ok b4).2.2.1⟩
set_option maxRecDepth 100000 in
theorem areLarge_any (c:Int) (A B:Option Addr) (n k m j:Nat) (ws ts:List Bnd) (d:Int) (C D:Option Addr) (n2 k2 m2 j2:Nat) (ws2 ts2:List Bnd) (w:World) (hl:ws.length=n∧ts.length=m∧ws2.length=n2∧ts2.length=m2) (h4:ws.length≤400∧ts.length≤400∧ws2.length≤400∧ts2.length≤400) :
 Calls Tryz.prog 57 #[.agg #[.int .i64 c,.slice A n k,.slice B m j],.agg #[.int .i64 d,.slice C n2 k2,.slice D m2 j2]] w fun e w'=>e=.returned (.bool (large ⟨c,ws,ts⟩ ⟨d,ws2,ts2⟩))∧Below w.heap.size w w':=by
 obtain ⟨l1,l2,l3,l4⟩:=hl
 obtain ⟨g1,g2,g3,g4⟩:=h4
 rw [l1] at g1;rw [l2] at g2;rw [l3] at g3;rw [l4] at g4
 have hq:large ⟨c,ws,ts⟩ ⟨d,ws2,ts2⟩=(decide (400<n+n2) || decide (400<m+m2)):=by unfold large;rw [← l1,← l2,← l3,← l4]
 rw [hq]
 clear hq l1 l2 l3 l4
 by_cases h1:n+n2≤400
 · by_cases h2:m+m2≤400
   · have e:(decide (400<n+n2) || decide (400<m+m2))=false:=by simp;omega
     rw [e];clear e
     go_enter Tryz.func57,Tryz.ntmps57
     obtain ⟨a1,a2,a0⟩:=ent2 w #[.int .i64 c,.slice A n k,.slice B m j] 35 #[.int .i64 d,.slice C n2 k2,.slice D m2 j2] 35
     obtain ⟨a3,a4,a5⟩:=at3 a1
     obtain ⟨a6,a7,a8⟩:=at3 a2
     go_wp2
     go_ret
     exact ⟨ret_bool (Bool.eq_iff_iff.2 (by simp;try omega)),a0.out⟩
   · have e:(decide (400<n+n2) || decide (400<m+m2))=true:=by simp;omega
     rw [e];clear e
     go_enter Tryz.func57,Tryz.ntmps57
     obtain ⟨a1,a2,a0⟩:=ent2 w #[.int .i64 c,.slice A n k,.slice B m j] 35 #[.int .i64 d,.slice C n2 k2,.slice D m2 j2] 35
     obtain ⟨a3,a4,a5⟩:=at3 a1
     obtain ⟨a6,a7,a8⟩:=at3 a2
     go_wp2
     go_ret
     exact ⟨ret_bool (Bool.eq_iff_iff.2 (by simp;try omega)),a0.out⟩
 · have e:(decide (400<n+n2) || decide (400<m+m2))=true:=by simp;omega
   rw [e];clear e
   go_enter Tryz.func57,Tryz.ntmps57
   obtain ⟨a1,a2,a0⟩:=ent2 w #[.int .i64 c,.slice A n k,.slice B m j] 35 #[.int .i64 d,.slice C n2 k2,.slice D m2 j2] 35
   obtain ⟨a3,a4,a5⟩:=at3 a1
   obtain ⟨a6,a7,a8⟩:=at3 a2
   go_wp2
   go_ret
   exact ⟨ret_bool (Bool.eq_iff_iff.2 (by simp;try omega)),a0.out⟩
set_option maxRecDepth 100000 in
theorem pairOf_yes (c:Int) (A B:Option Addr) (n k m j:Nat) (ws ts:List Bnd) (d:Int) (C D:Option Addr) (n2 k2 m2 j2:Nat) (ws2 ts2:List Bnd) (p1 p2 p3 p4:Int) (w:World) (h1:RdB w A n k ws) (h2:RdB w B m j ts) (hn:n≤maxLen) (hm:m≤maxLen) (h3:RdB w C n2 k2 ws2) (h4:RdB w D m2 j2 ts2) (hn2:n2≤maxLen) (hm2:m2≤maxLen) (h0:asked ⟨c,ws,ts⟩ ⟨d,ws2,ts2⟩ ⟨p1,p2,p3,p4⟩=0) :
 Calls Tryz.prog 30 #[.agg #[.int .i64 c,.slice A n k,.slice B m j],.agg #[.int .i64 d,.slice C n2 k2,.slice D m2 j2],.agg #[.int .i64 p1,.int .i64 p2,.int .i64 p3,.int .i64 p4]] w fun e w'=>e=.returned (.tuple #[.agg #[.int .i64 c,.slice A n k,.slice B m j,.int .i64 d,.slice C n2 k2,.slice D m2 j2,.int .i64 p1,.int .i64 p2,.int .i64 p3,.int .i64 p4],.int .i64 0])∧Below w.heap.size w w':=by
 unfold asked at h0
 split at h0
 · rename_i h1;exact absurd h0 h1
 · rename_i h1
   split at h0
   · cases h0
   · rename_i h2
     have E1:=hid (show chkP ⟨c,ws,ts⟩ ⟨d,ws2,ts2⟩ ⟨p1,p2,p3,p4⟩=0 by simpa using h1);have E2:=hid (show large ⟨c,ws,ts⟩ ⟨d,ws2,ts2⟩=false by simpa using h2);clear h0 h1 h2
     go_enter Tryz.func30,Tryz.ntmps30
     obtain ⟨a3,a4,a5,a0,a2⟩:=ent4 w #[.int .i64 c,.slice A n k,.slice B m j] 35 #[.int .i64 d,.slice C n2 k2,.slice D m2 j2] 35 #[.int .i64 p1,.int .i64 p2,.int .i64 p3,.int .i64 p4] 25 #[.int .i64 0,.slice none 0 0,.slice none 0 0,.int .i64 0,.slice none 0 0,.slice none 0 0,.int .i64 0,.int .i64 0,.int .i64 0,.int .i64 0] 78
     have a9:=rI h1 a2
     have b0:=rI h2 a2
     have b1:=rI h3 a2
     have b2:=rI h4 a2
     clear h1 h2 h3 h4
     have la:=a9.out.len
     have lb:=b0.out.len
     have lc:=b1.out.len
     have ld:=b2.out.len
     obtain ⟨c3,c4,c5⟩:=at3 a3
     obtain ⟨c6,c7,c8⟩:=at3 a4
     obtain ⟨c9,d0,d1,d2⟩:=at4 a5
     obtain ⟨d3,d4,d5,d6,d7,d8,d9,e0,e1,e2⟩:=at10 a0
     have hc:=CheckPairing_any c A B n k m j ws ts d C D n2 k2 m2 j2 ws2 ts2 p1 p2 p3 p4 _ a9.out b0.out hn hm b1.out b2.out hn2 hm2
     rw [E1.out] at hc
     try dsimp only at hc
     have HC:=hid hc;clear hc
     go_wp2_with fail
     refine HC.out.mono ?_
     rintro e e3 ⟨rfl,hb⟩
     clear HC
     clear c3 c4 c5 c6 c7 c8 c9 d0 d1 d2 d3 d4 d5 d6 d7 d8 d9 e0 e1 e2
     have a6:=hid hb
     clear hb
     replace a3:=kH a3 a6
     obtain ⟨e4,e5,e6⟩:=at3 a3
     replace a4:=kH a4 a6
     obtain ⟨e7,e8,e9⟩:=at3 a4
     replace a5:=kH a5 a6
     obtain ⟨f0,f1,f2,f3⟩:=at4 a5
     replace a0:=kH a0 a6
     obtain ⟨f4,f5,f6,f7,f8,f9,g0,g1,g2,g3⟩:=at10 a0
     have hc:=areLarge_any c A B n k m j ws ts d C D n2 k2 m2 j2 ws2 ts2 (e3) ⟨la,lb,lc,ld⟩ (chkP_lens E1.out)
     rw [E2.out] at hc
     try dsimp only at hc
     have HC:=hid hc;clear hc
     go_wp2_with fail
     refine HC.out.mono ?_
     rintro e a1 ⟨rfl,hb⟩
     clear HC
     clear e4 e5 e6 e7 e8 e9 f0 f1 f2 f3 f4 f5 f6 f7 f8 f9 g0 g1 g2 g3
     have a7:=hid hb
     clear hb
     replace a3:=kH a3 a7
     obtain ⟨g4,g5,g6⟩:=at3 a3
     replace a4:=kH a4 a7
     obtain ⟨g7,g8,g9⟩:=at3 a4
     replace a5:=kH a5 a7
     obtain ⟨h5,h6,h7,h8⟩:=at4 a5
     replace a0:=kH a0 a7
     obtain ⟨h9,i0,i1,i2,i3,i4,i5,i6,i7,i8⟩:=at10 a0
     clear la lb lc ld
     have b3:(a1).frozen? ⟨w.heap.size+1+1+1,0,none⟩=false:=Blk.frozen a0.out 0
     have b4:(a1).frozen? ⟨w.heap.size+1+1+1,1,none⟩=false:=Blk.frozen a0.out 1
     have b5:(a1).frozen? ⟨w.heap.size+1+1+1,2,none⟩=false:=Blk.frozen a0.out 2
     have b6:(a1).frozen? ⟨w.heap.size+1+1+1,3,none⟩=false:=Blk.frozen a0.out 3
     have b7:(a1).frozen? ⟨w.heap.size+1+1+1,4,none⟩=false:=Blk.frozen a0.out 4
     have b8:(a1).frozen? ⟨w.heap.size+1+1+1,5,none⟩=false:=Blk.frozen a0.out 5
     have b9:(a1).frozen? ⟨w.heap.size+1+1+1,6,none⟩=false:=Blk.frozen a0.out 6
     have c0:(a1).frozen? ⟨w.heap.size+1+1+1,7,none⟩=false:=Blk.frozen a0.out 7
     have c1:(a1).frozen? ⟨w.heap.size+1+1+1,8,none⟩=false:=Blk.frozen a0.out 8
     have c2:(a1).frozen? ⟨w.heap.size+1+1+1,9,none⟩=false:=Blk.frozen a0.out 9
     replace a2:=bH (bH a2 a6) a7
     have a8:=a2.out
     go_wp2
     refine bodyPost_ret (v:=.tuple #[.agg #[.int .i64 c,.slice A n k,.slice B m j,.int .i64 d,.slice C n2 k2,.slice D m2 j2,.int .i64 p1,.int .i64 p2,.int .i64 p3,.int .i64 p4],.int .i64 0]) (by simp [results,Tryz.results30,go_sem,g4,g5,g6,g7,g8,g9,h5,h6,h7,h8,h9,i0,i1,i2,i3,i4,i5,i6,i7,i8,b3,b4,b5,b6,b7,b8,b9,c0,c1,c2]) rfl ⟨rfl,(by have hsz_:=Below.size a8;repeat' (first|with_reducible exact a8|with_reducible exact Below.refl _ _|with_reducible refine Below.alloc ?_ ?_ _|with_reducible refine Below.setCell ?_ ?_ _|with_reducible refine Below.drew ?_|with_reducible refine below_setRow ?_ ?_ _|omega | (simp;done) | (simp;omega)))⟩
set_option maxRecDepth 100000 in
theorem pairOf_no (c:Int) (A B:Option Addr) (n k m j:Nat) (ws ts:List Bnd) (d:Int) (C D:Option Addr) (n2 k2 m2 j2:Nat) (ws2 ts2:List Bnd) (p1 p2 p3 p4:Int) (w:World) (h1:RdB w A n k ws) (h2:RdB w B m j ts) (hn:n≤maxLen) (hm:m≤maxLen) (h3:RdB w C n2 k2 ws2) (h4:RdB w D m2 j2 ts2) (hn2:n2≤maxLen) (hm2:m2≤maxLen) (q:Int) (h0:asked ⟨c,ws,ts⟩ ⟨d,ws2,ts2⟩ ⟨p1,p2,p3,p4⟩=q) (hne:q≠0) :
 Calls Tryz.prog 30 #[.agg #[.int .i64 c,.slice A n k,.slice B m j],.agg #[.int .i64 d,.slice C n2 k2,.slice D m2 j2],.agg #[.int .i64 p1,.int .i64 p2,.int .i64 p3,.int .i64 p4]] w fun e w'=>e=.returned (.tuple #[.agg #[.int .i64 0,.slice none 0 0,.slice none 0 0,.int .i64 0,.slice none 0 0,.slice none 0 0,.int .i64 0,.int .i64 0,.int .i64 0,.int .i64 0],.int .i64 q])∧Below w.heap.size w w':=by
 unfold asked at h0
 split at h0
 · have E1:=hid h0;clear h0
   have hq:(q != 0)=true:=by simpa using hne
   clear hne
   rename_i h1;clear h1
   go_enter Tryz.func30,Tryz.ntmps30
   obtain ⟨a3,a4,a5,a0,a1⟩:=ent4 w #[.int .i64 c,.slice A n k,.slice B m j] 35 #[.int .i64 d,.slice C n2 k2,.slice D m2 j2] 35 #[.int .i64 p1,.int .i64 p2,.int .i64 p3,.int .i64 p4] 25 #[.int .i64 0,.slice none 0 0,.slice none 0 0,.int .i64 0,.slice none 0 0,.slice none 0 0,.int .i64 0,.int .i64 0,.int .i64 0,.int .i64 0] 78
   have a9:=rI h1 a1
   have b0:=rI h2 a1
   have b1:=rI h3 a1
   have b2:=rI h4 a1
   clear h1 h2 h3 h4
   have la:=a9.out.len
   have lb:=b0.out.len
   have lc:=b1.out.len
   have ld:=b2.out.len
   obtain ⟨b3,b4,b5⟩:=at3 a3
   obtain ⟨b6,b7,b8⟩:=at3 a4
   obtain ⟨b9,c0,c1,c2⟩:=at4 a5
   obtain ⟨c3,c4,c5,c6,c7,c8,c9,d0,d1,d2⟩:=at10 a0
   have hc:=CheckPairing_any c A B n k m j ws ts d C D n2 k2 m2 j2 ws2 ts2 p1 p2 p3 p4 _ a9.out b0.out hn hm b1.out b2.out hn2 hm2
   rw [E1.out] at hc
   try dsimp only at hc
   have HC:=hid hc;clear hc
   go_wp2_with fail
   refine HC.out.mono ?_
   rintro e a6 ⟨rfl,hb⟩
   clear HC
   clear b3 b4 b5 b6 b7 b8 b9 c0 c1 c2 c3 c4 c5 c6 c7 c8 c9 d0 d1 d2
   have a2:=hid hb
   clear hb
   replace a3:=kH a3 a2
   obtain ⟨d3,d4,d5⟩:=at3 a3
   replace a4:=kH a4 a2
   obtain ⟨d6,d7,d8⟩:=at3 a4
   replace a5:=kH a5 a2
   obtain ⟨d9,e0,e1,e2⟩:=at4 a5
   replace a0:=kH a0 a2
   obtain ⟨e3,e4,e5,e6,e7,e8,e9,f0,f1,f2⟩:=at10 a0
   have f5:(a6).frozen? ⟨w.heap.size+1+1+1,0,none⟩=false:=Blk.frozen a0.out 0
   have f6:(a6).frozen? ⟨w.heap.size+1+1+1,1,none⟩=false:=Blk.frozen a0.out 1
   have f7:(a6).frozen? ⟨w.heap.size+1+1+1,2,none⟩=false:=Blk.frozen a0.out 2
   have f8:(a6).frozen? ⟨w.heap.size+1+1+1,3,none⟩=false:=Blk.frozen a0.out 3
   have f9:(a6).frozen? ⟨w.heap.size+1+1+1,4,none⟩=false:=Blk.frozen a0.out 4
   have g0:(a6).frozen? ⟨w.heap.size+1+1+1,5,none⟩=false:=Blk.frozen a0.out 5
   have g1:(a6).frozen? ⟨w.heap.size+1+1+1,6,none⟩=false:=Blk.frozen a0.out 6
   have g2:(a6).frozen? ⟨w.heap.size+1+1+1,7,none⟩=false:=Blk.frozen a0.out 7
   have g3:(a6).frozen? ⟨w.heap.size+1+1+1,8,none⟩=false:=Blk.frozen a0.out 8
   have g4:(a6).frozen? ⟨w.heap.size+1+1+1,9,none⟩=false:=Blk.frozen a0.out 9
   replace a1:=bH a1 a2
   have f3:=a1.out
   go_wp2
   refine bodyPost_ret (v:=.tuple #[.agg #[.int .i64 0,.slice none 0 0,.slice none 0 0,.int .i64 0,.slice none 0 0,.slice none 0 0,.int .i64 0,.int .i64 0,.int .i64 0,.int .i64 0],.int .i64 q]) (by simp [results,Tryz.results30,go_sem,d3,d4,d5,d6,d7,d8,d9,e0,e1,e2,e3,e4,e5,e6,e7,e8,e9,f0,f1,f2,f5,f6,f7,f8,f9,g0,g1,g2,g3,g4]) rfl ⟨rfl,(by have hsz_:=Below.size f3;repeat' (first|with_reducible exact f3|with_reducible exact Below.refl _ _|with_reducible refine Below.alloc ?_ ?_ _|with_reducible refine Below.setCell ?_ ?_ _|with_reducible refine Below.drew ?_|with_reducible refine below_setRow ?_ ?_ _|omega | (simp;done) | (simp;omega)))⟩
 · rename_i h1
   split at h0
   · rename_i h2
     subst h0
     have E1:=hid (show chkP ⟨c,ws,ts⟩ ⟨d,ws2,ts2⟩ ⟨p1,p2,p3,p4⟩=0 by simpa using h1);have E2:=hid h2;clear hne h1 h2
     go_enter Tryz.func30,Tryz.ntmps30
     obtain ⟨a3,a4,a5,a0,a1⟩:=ent4 w #[.int .i64 c,.slice A n k,.slice B m j] 35 #[.int .i64 d,.slice C n2 k2,.slice D m2 j2] 35 #[.int .i64 p1,.int .i64 p2,.int .i64 p3,.int .i64 p4] 25 #[.int .i64 0,.slice none 0 0,.slice none 0 0,.int .i64 0,.slice none 0 0,.slice none 0 0,.int .i64 0,.int .i64 0,.int .i64 0,.int .i64 0] 78
     have a9:=rI h1 a1
     have b0:=rI h2 a1
     have b1:=rI h3 a1
     have b2:=rI h4 a1
     clear h1 h2 h3 h4
     have la:=a9.out.len
     have lb:=b0.out.len
     have lc:=b1.out.len
     have ld:=b2.out.len
     obtain ⟨b3,b4,b5⟩:=at3 a3
     obtain ⟨b6,b7,b8⟩:=at3 a4
     obtain ⟨b9,c0,c1,c2⟩:=at4 a5
     obtain ⟨c3,c4,c5,c6,c7,c8,c9,d0,d1,d2⟩:=at10 a0
     have hc:=CheckPairing_any c A B n k m j ws ts d C D n2 k2 m2 j2 ws2 ts2 p1 p2 p3 p4 _ a9.out b0.out hn hm b1.out b2.out hn2 hm2
     rw [E1.out] at hc
     try dsimp only at hc
     have HC:=hid hc;clear hc
     go_wp2_with fail
     refine HC.out.mono ?_
     rintro e a6 ⟨rfl,hb⟩
     clear HC
     clear b3 b4 b5 b6 b7 b8 b9 c0 c1 c2 c3 c4 c5 c6 c7 c8 c9 d0 d1 d2
     have a2:=hid hb
     clear hb
     replace a3:=kH a3 a2
     obtain ⟨d3,d4,d5⟩:=at3 a3
     replace a4:=kH a4 a2
     obtain ⟨d6,d7,d8⟩:=at3 a4
     replace a5:=kH a5 a2
     obtain ⟨d9,e0,e1,e2⟩:=at4 a5
     replace a0:=kH a0 a2
     obtain ⟨e3,e4,e5,e6,e7,e8,e9,f0,f1,f2⟩:=at10 a0
     have hc:=areLarge_any c A B n k m j ws ts d C D n2 k2 m2 j2 ws2 ts2 (a6) ⟨la,lb,lc,ld⟩ (chkP_lens E1.out)
     rw [E2.out] at hc
     try dsimp only at hc
     have HC:=hid hc;clear hc
     go_wp2_with fail
     refine HC.out.mono ?_
     rintro e a7 ⟨rfl,hb⟩
     clear HC
     clear d3 d4 d5 d6 d7 d8 d9 e0 e1 e2 e3 e4 e5 e6 e7 e8 e9 f0 f1 f2
     have a8:=hid hb
     clear hb
     replace a3:=kH a3 a8
     obtain ⟨i0,i1,i2⟩:=at3 a3
     replace a4:=kH a4 a8
     obtain ⟨i3,i4,i5⟩:=at3 a4
     replace a5:=kH a5 a8
     obtain ⟨i6,i7,i8,i9⟩:=at4 a5
     replace a0:=kH a0 a8
     obtain ⟨j0,j1,j3,j4,j5,j6,j7,j8,j9,k0⟩:=at10 a0
     clear la lb lc ld
     have g5:(a7).frozen? ⟨w.heap.size+1+1+1,0,none⟩=false:=Blk.frozen a0.out 0
     have g6:(a7).frozen? ⟨w.heap.size+1+1+1,1,none⟩=false:=Blk.frozen a0.out 1
     have g7:(a7).frozen? ⟨w.heap.size+1+1+1,2,none⟩=false:=Blk.frozen a0.out 2
     have g8:(a7).frozen? ⟨w.heap.size+1+1+1,3,none⟩=false:=Blk.frozen a0.out 3
     have g9:(a7).frozen? ⟨w.heap.size+1+1+1,4,none⟩=false:=Blk.frozen a0.out 4
     have h5:(a7).frozen? ⟨w.heap.size+1+1+1,5,none⟩=false:=Blk.frozen a0.out 5
     have h6:(a7).frozen? ⟨w.heap.size+1+1+1,6,none⟩=false:=Blk.frozen a0.out 6
     have h7:(a7).frozen? ⟨w.heap.size+1+1+1,7,none⟩=false:=Blk.frozen a0.out 7
     have h8:(a7).frozen? ⟨w.heap.size+1+1+1,8,none⟩=false:=Blk.frozen a0.out 8
     have h9:(a7).frozen? ⟨w.heap.size+1+1+1,9,none⟩=false:=Blk.frozen a0.out 9
     replace a1:=bH (bH a1 a2) a8
     have f4:=a1.out
     go_wp2
     refine bodyPost_ret (v:=.tuple #[.agg #[.int .i64 0,.slice none 0 0,.slice none 0 0,.int .i64 0,.slice none 0 0,.slice none 0 0,.int .i64 0,.int .i64 0,.int .i64 0,.int .i64 0],.int .i64 2]) (by simp [results,Tryz.results30,go_sem,i0,i1,i2,i3,i4,i5,i6,i7,i8,i9,j0,j1,j3,j4,j5,j6,j7,j8,j9,k0,g5,g6,g7,g8,g9,h5,h6,h7,h8,h9]) rfl ⟨rfl,(by have hsz_:=Below.size f4;repeat' (first|with_reducible exact f4|with_reducible exact Below.refl _ _|with_reducible refine Below.alloc ?_ ?_ _|with_reducible refine Below.setCell ?_ ?_ _|with_reducible refine Below.drew ?_|with_reducible refine below_setRow ?_ ?_ _|omega | (simp;done) | (simp;omega)))⟩
   · exact absurd h0.symm hne
end Go.Proofs.YtebkniakflhhkaaGreatDoor
