import Derived.Test.YtebkniakflhhkaaGreatDoorAESys
set_option maxHeartbeats 2000000
set_option linter.unusedSimpArgs false
set_option linter.unusedVariables false
namespace Go.Proofs.YtebkniakflhhkaaGreatDoor
open Go.Lib (hid)
open Go.RowKit
theorem isStretch_any (f t c:Int) (w:World):Calls Tryz.prog 22 #[.agg #[.int .i64 f,.int .i64 t],.int .i64 c] w fun e w'=>e=.returned (.bool (isStr f t c))∧Below w.heap.size w w':=by
 by_cases h1:0≤f
 · by_cases h2:f<t
   · go_enter Tryz.func22,Tryz.ntmps22
     go_wp2
     go_ret
     exact ⟨by simp [isStr,h1,h2],(by (repeat (first|exact Below.refl _ _|refine Below.drew ?_|refine Below.alloc ?_ (by simp) _)))⟩
   · go_enter Tryz.func22,Tryz.ntmps22
     go_wp2
     go_ret
     exact ⟨ret_bool (Bool.eq_iff_iff.2 (by simp [isStr];omega)),(by (repeat (first|exact Below.refl _ _|refine Below.drew ?_|refine Below.alloc ?_ (by simp) _)))⟩
 · go_enter Tryz.func22,Tryz.ntmps22
   go_wp2
   go_ret
   exact ⟨ret_bool (Bool.eq_iff_iff.2 (by simp [isStr];omega)),(by (repeat (first|exact Below.refl _ _|refine Below.drew ?_|refine Below.alloc ?_ (by simp) _)))⟩
theorem isStretch_is (f t c:Int) (b:Bool) (h:isStr f t c=b) (w:World):Calls Tryz.prog 22 #[.agg #[.int .i64 f,.int .i64 t],.int .i64 c] w fun e w'=>e=.returned (.bool b)∧Below w.heap.size w w':=by
 subst h
 exact isStretch_any f t c w
theorem sides_any (f t:Int) (w:World) (h:0≤f) (h2:t≤1000) (h3:0≤t) (h4:f≤1000):Calls Tryz.prog 23 #[.agg #[.int .i64 f,.int .i64 t]] w fun e w'=>e=.returned (.int .i64 (t-f))∧Below w.heap.size w w':=by
 go_enter Tryz.func23,Tryz.ntmps23
 go_wp2
 go_ret
 exact ⟨rfl,(by (repeat (first|exact Below.refl _ _|refine Below.drew ?_|refine Below.alloc ?_ (by simp) _)))⟩
set_option maxRecDepth 100000 in
theorem checkOutlines_any (c:Int) (A B:Option Addr) (n k m j:Nat) (ws ts:List Bnd) (d:Int) (C D:Option Addr) (n2 k2 m2 j2:Nat) (ws2 ts2:List Bnd) (w:World) (h1:RdB w A n k ws) (h2:RdB w B m j ts) (hn:n≤maxLen) (hm:m≤maxLen) (h3:RdB w C n2 k2 ws2) (h4:RdB w D m2 j2 ts2) (hn2:n2≤maxLen) (hm2:m2≤maxLen) :
 Calls Tryz.prog 61 #[.agg #[.int .i64 c,.slice A n k,.slice B m j],.agg #[.int .i64 d,.slice C n2 k2,.slice D m2 j2]] w fun e w'=>e=.returned (.int .i64 (chkOO ⟨c,ws,ts⟩ ⟨d,ws2,ts2⟩))∧Below w.heap.size w w':=by
 obtain ⟨q,hq⟩:∃ q,chkO ⟨c,ws,ts⟩=q:=⟨_,rfl⟩
 obtain ⟨q2,hq2⟩:∃ q,chkO ⟨d,ws2,ts2⟩=q:=⟨_,rfl⟩
 unfold chkOO
 rw [hq,hq2]
 have E1:=hid hq;have E2:=hid hq2;clear hq hq2
 by_cases h0:q=0
 · rw [if_neg (by simpa using h0)]
   subst h0
   go_enter Tryz.func61,Tryz.ntmps61
   obtain ⟨a1,a2,a0⟩:=ent2 w #[.int .i64 c,.slice A n k,.slice B m j] 35 #[.int .i64 d,.slice C n2 k2,.slice D m2 j2] 35
   have a7:=rI h1 a0
   have a8:=rI h2 a0
   have a4:=rI h3 a0
   have a5:=rI h4 a0
   clear h1 h2 h3 h4
   obtain ⟨b3,b4,a9⟩:=at3 a1
   obtain ⟨b0,b1,b2⟩:=at3 a2
   have hc:=CheckOutline_any c A B n k m j ws ts _ a7.out a8.out hn hm
   rw [E1.out] at hc
   try dsimp only at hc
   have HC:=hid hc;clear hc
   go_wp2_with fail
   refine HC.out.mono ?_
   rintro e c1 ⟨rfl,hb⟩
   clear HC
   clear b3 b4 a9 b0 b1 b2
   have a3:=hid hb
   clear hb
   replace a1:=kH a1 a3
   obtain ⟨b5,b6,b7⟩:=at3 a1
   replace a2:=kH a2 a3
   obtain ⟨b8,b9,c0⟩:=at3 a2
   replace a4:=rH a4 a3
   replace a5:=rH a5 a3
   have hc:=CheckOutline_any d C D n2 k2 m2 j2 ws2 ts2 _ a4.out a5.out hn2 hm2
   rw [E2.out] at hc
   try dsimp only at hc
   have HC:=hid hc;clear hc
   go_wp2_with fail
   refine HC.out.mono ?_
   rintro e c2 ⟨rfl,hb⟩
   clear HC
   clear b5 b6 b7 b8 b9 c0
   have a6:=hid hb
   clear hb
   replace a1:=kH a1 a6
   obtain ⟨c3,c4,c5⟩:=at3 a1
   replace a2:=kH a2 a6
   obtain ⟨c6,c7,c8⟩:=at3 a2
   go_wp2
   go_ret
   replace a0:=bH (bH a0 a3) a6
   exact ⟨rfl,a0.out⟩
 · rw [if_pos h0]
   have hne:(q != 0)=true:=by simpa using h0
   clear h0
   go_enter Tryz.func61,Tryz.ntmps61
   obtain ⟨a1,a2,a0⟩:=ent2 w #[.int .i64 c,.slice A n k,.slice B m j] 35 #[.int .i64 d,.slice C n2 k2,.slice D m2 j2] 35
   have a7:=rI h1 a0
   have a8:=rI h2 a0
   have a4:=rI h3 a0
   have a5:=rI h4 a0
   clear h1 h2 h3 h4
   obtain ⟨b3,b4,a9⟩:=at3 a1
   obtain ⟨b0,b1,b2⟩:=at3 a2
   have hc:=CheckOutline_any c A B n k m j ws ts _ a7.out a8.out hn hm
   rw [E1.out] at hc
   try dsimp only at hc
   have HC:=hid hc;clear hc
   go_wp2_with fail
   refine HC.out.mono ?_
   rintro e c1 ⟨rfl,hb⟩
   clear HC
   clear b3 b4 a9 b0 b1 b2
   have a3:=hid hb
   clear hb
   replace a1:=kH a1 a3
   obtain ⟨b5,b6,b7⟩:=at3 a1
   replace a2:=kH a2 a3
   obtain ⟨b8,b9,c0⟩:=at3 a2
   go_wp2
   go_ret
   replace a0:=bH a0 a3
   exact ⟨rfl,a0.out⟩
set_option maxRecDepth 100000 in
theorem CheckPairing_any (c:Int) (A B:Option Addr) (n k m j:Nat) (ws ts:List Bnd) (d:Int) (C D:Option Addr) (n2 k2 m2 j2:Nat) (ws2 ts2:List Bnd) (p1 p2 p3 p4:Int) (w:World) (h1:RdB w A n k ws) (h2:RdB w B m j ts) (hn:n≤maxLen) (hm:m≤maxLen) (h3:RdB w C n2 k2 ws2) (h4:RdB w D m2 j2 ts2) (hn2:n2≤maxLen) (hm2:m2≤maxLen) :
 Calls Tryz.prog 56 #[.agg #[.int .i64 c,.slice A n k,.slice B m j],.agg #[.int .i64 d,.slice C n2 k2,.slice D m2 j2],.agg #[.int .i64 p1,.int .i64 p2,.int .i64 p3,.int .i64 p4]] w fun e w'=>e=.returned (.int .i64 (chkP ⟨c,ws,ts⟩ ⟨d,ws2,ts2⟩ ⟨p1,p2,p3,p4⟩))∧Below w.heap.size w w':=by
 obtain ⟨q,hq⟩:∃ q,chkOO ⟨c,ws,ts⟩ ⟨d,ws2,ts2⟩=q:=⟨_,rfl⟩
 unfold chkP
 rw [hq]
 have HQ:=hid hq
 have E1:=hid hq;clear hq
 by_cases h0:q=0
 · subst h0
   rw [if_neg (by simp)]
   obtain ⟨o1,o2⟩:=chkOO_ok HQ.out
   have o1:=chkO_ok o1;have o2:=chkO_ok o2
   dsimp only at o1 o2
   have g1:=o1.2.1;have g2:=o2.2.1
   clear o1 o2 HQ
   dsimp only
   cases hs1:isStr p1 p2 c
   · rw [if_pos rfl]
     have E2:=hid hs1;clear hs1
     go_enter Tryz.func56,Tryz.ntmps56
     obtain ⟨a2,a3,a0,a1⟩:=ent3 w #[.int .i64 c,.slice A n k,.slice B m j] 35 #[.int .i64 d,.slice C n2 k2,.slice D m2 j2] 35 #[.int .i64 p1,.int .i64 p2,.int .i64 p3,.int .i64 p4] 25
     have a7:=rI h1 a1
     have a8:=rI h2 a1
     have a9:=rI h3 a1
     have b0:=rI h4 a1
     clear h1 h2 h3 h4
     obtain ⟨d1,b1,b2⟩:=at3 a2
     obtain ⟨b3,b4,b5⟩:=at3 a3
     obtain ⟨b6,b7,b8,b9⟩:=at4 a0
     have hc:=checkOutlines_any c A B n k m j ws ts d C D n2 k2 m2 j2 ws2 ts2 _ a7.out a8.out hn hm a9.out b0.out hn2 hm2
     rw [E1.out] at hc
     try dsimp only at hc
     have HC:=hid hc;clear hc
     go_wp2_with fail
     refine HC.out.mono ?_
     rintro e c0 ⟨rfl,hb⟩
     clear HC
     clear d1 b1 b2 b3 b4 b5 b6 b7 b8 b9
     have a4:=hid hb
     clear hb
     replace a2:=kH a2 a4
     obtain ⟨c1,c2,c3⟩:=at3 a2
     replace a3:=kH a3 a4
     obtain ⟨c4,c5,c6⟩:=at3 a3
     replace a0:=kH a0 a4
     obtain ⟨c7,c8,c9,d0⟩:=at4 a0
     have hc:=isStretch_is p1 p2 c _ E2.out (c0)
     have HC:=hid hc;clear hc
     go_wp2_with fail
     refine HC.out.mono ?_
     rintro e d2 ⟨rfl,hb⟩
     clear HC
     clear c1 c2 c3 c4 c5 c6 c7 c8 c9 d0
     have a5:=hid hb
     clear hb
     replace a2:=kH a2 a5
     obtain ⟨d3,d4,d5⟩:=at3 a2
     replace a3:=kH a3 a5
     obtain ⟨d6,d7,d8⟩:=at3 a3
     replace a0:=kH a0 a5
     obtain ⟨d9,e0,e1,e2⟩:=at4 a0
     go_wp2
     go_ret
     replace a1:=bH (bH a1 a4) a5
     exact ⟨rfl,a1.out⟩
   · rw [if_neg (by simp)]
     have i1:=isStr_ok hs1
     have E2:=hid hs1;clear hs1
     cases hs2:isStr p3 p4 d
     · rw [if_pos rfl]
       have E3:=hid hs2;clear hs2
       go_enter Tryz.func56,Tryz.ntmps56
       obtain ⟨a2,a3,a0,a1⟩:=ent3 w #[.int .i64 c,.slice A n k,.slice B m j] 35 #[.int .i64 d,.slice C n2 k2,.slice D m2 j2] 35 #[.int .i64 p1,.int .i64 p2,.int .i64 p3,.int .i64 p4] 25
       have a7:=rI h1 a1
       have a8:=rI h2 a1
       have a9:=rI h3 a1
       have b0:=rI h4 a1
       clear h1 h2 h3 h4
       obtain ⟨d1,b1,b2⟩:=at3 a2
       obtain ⟨b3,b4,b5⟩:=at3 a3
       obtain ⟨b6,b7,b8,b9⟩:=at4 a0
       have hc:=checkOutlines_any c A B n k m j ws ts d C D n2 k2 m2 j2 ws2 ts2 _ a7.out a8.out hn hm a9.out b0.out hn2 hm2
       rw [E1.out] at hc
       try dsimp only at hc
       have HC:=hid hc;clear hc
       go_wp2_with fail
       refine HC.out.mono ?_
       rintro e c0 ⟨rfl,hb⟩
       clear HC
       clear d1 b1 b2 b3 b4 b5 b6 b7 b8 b9
       have a4:=hid hb
       clear hb
       replace a2:=kH a2 a4
       obtain ⟨c1,c2,c3⟩:=at3 a2
       replace a3:=kH a3 a4
       obtain ⟨c4,c5,c6⟩:=at3 a3
       replace a0:=kH a0 a4
       obtain ⟨c7,c8,c9,d0⟩:=at4 a0
       have hc:=isStretch_is p1 p2 c _ E2.out (c0)
       have HC:=hid hc;clear hc
       go_wp2_with fail
       refine HC.out.mono ?_
       rintro e d2 ⟨rfl,hb⟩
       clear HC
       clear c1 c2 c3 c4 c5 c6 c7 c8 c9 d0
       have a5:=hid hb
       clear hb
       replace a2:=kH a2 a5
       obtain ⟨d3,d4,d5⟩:=at3 a2
       replace a3:=kH a3 a5
       obtain ⟨d6,d7,d8⟩:=at3 a3
       replace a0:=kH a0 a5
       obtain ⟨d9,e0,e1,e2⟩:=at4 a0
       have hc:=isStretch_is p3 p4 d _ E3.out (d2)
       have HC:=hid hc;clear hc
       go_wp2_with fail
       refine HC.out.mono ?_
       rintro e e3 ⟨rfl,hb⟩
       clear HC
       clear d3 d4 d5 d6 d7 d8 d9 e0 e1 e2
       have a6:=hid hb
       clear hb
       replace a2:=kH a2 a6
       obtain ⟨e4,e5,e6⟩:=at3 a2
       replace a3:=kH a3 a6
       obtain ⟨e7,e8,e9⟩:=at3 a3
       replace a0:=kH a0 a6
       obtain ⟨f0,f1,f2,f3⟩:=at4 a0
       go_wp2
       go_ret
       replace a1:=bH (bH (bH a1 a4) a5) a6
       exact ⟨rfl,a1.out⟩
     · rw [if_neg (by simp)]
       have i2:=isStr_ok hs2
       have E3:=hid hs2;clear hs2
       by_cases hk:p2-p1=p4-p3
       · rw [if_neg (by simpa using hk)]
         have hkb:(p2-p1 != p4-p3)=false:=by simpa using hk
         clear hk
         go_enter Tryz.func56,Tryz.ntmps56
         obtain ⟨a2,a3,a0,a1⟩:=ent3 w #[.int .i64 c,.slice A n k,.slice B m j] 35 #[.int .i64 d,.slice C n2 k2,.slice D m2 j2] 35 #[.int .i64 p1,.int .i64 p2,.int .i64 p3,.int .i64 p4] 25
         have a7:=rI h1 a1
         have a8:=rI h2 a1
         have a9:=rI h3 a1
         have b0:=rI h4 a1
         clear h1 h2 h3 h4
         obtain ⟨d1,b1,b2⟩:=at3 a2
         obtain ⟨b3,b4,b5⟩:=at3 a3
         obtain ⟨b6,b7,b8,b9⟩:=at4 a0
         have hc:=checkOutlines_any c A B n k m j ws ts d C D n2 k2 m2 j2 ws2 ts2 _ a7.out a8.out hn hm a9.out b0.out hn2 hm2
         rw [E1.out] at hc
         try dsimp only at hc
         have HC:=hid hc;clear hc
         go_wp2_with fail
         refine HC.out.mono ?_
         rintro e c0 ⟨rfl,hb⟩
         clear HC
         clear d1 b1 b2 b3 b4 b5 b6 b7 b8 b9
         have a4:=hid hb
         clear hb
         replace a2:=kH a2 a4
         obtain ⟨c1,c2,c3⟩:=at3 a2
         replace a3:=kH a3 a4
         obtain ⟨c4,c5,c6⟩:=at3 a3
         replace a0:=kH a0 a4
         obtain ⟨c7,c8,c9,d0⟩:=at4 a0
         have hc:=isStretch_is p1 p2 c _ E2.out (c0)
         have HC:=hid hc;clear hc
         go_wp2_with fail
         refine HC.out.mono ?_
         rintro e d2 ⟨rfl,hb⟩
         clear HC
         clear c1 c2 c3 c4 c5 c6 c7 c8 c9 d0
         have a5:=hid hb
         clear hb
         replace a2:=kH a2 a5
         obtain ⟨d3,d4,d5⟩:=at3 a2
         replace a3:=kH a3 a5
         obtain ⟨d6,d7,d8⟩:=at3 a3
         replace a0:=kH a0 a5
         obtain ⟨d9,e0,e1,e2⟩:=at4 a0
         have hc:=isStretch_is p3 p4 d _ E3.out (d2)
         have HC:=hid hc;clear hc
         go_wp2_with fail
         refine HC.out.mono ?_
         rintro e e3 ⟨rfl,hb⟩
         clear HC
         clear d3 d4 d5 d6 d7 d8 d9 e0 e1 e2
         have a6:=hid hb
         clear hb
         replace a2:=kH a2 a6
         obtain ⟨e4,e5,e6⟩:=at3 a2
         replace a3:=kH a3 a6
         obtain ⟨e7,e8,e9⟩:=at3 a3
         replace a0:=kH a0 a6
         obtain ⟨f0,f1,f2,f3⟩:=at4 a0
         go_wp2_with fail
         clear e4 e5 e6 e7 e8 e9 f0 f1 f2 f3
         replace a1:=bD (bH (bH (bH a1 a4) a5) a6)
         replace a7:=rD (rH (rH (rH a7 a4) a5) a6)
         replace a8:=rD (rH (rH (rH a8 a4) a5) a6)
         replace a9:=rD (rH (rH (rH a9 a4) a5) a6)
         replace b0:=rD (rH (rH (rH b0 a4) a5) a6)
         replace a2:=kD a2
         replace a3:=kD a3
         replace a0:=kD a0
         refine wp_region_held_drew (S:=(fun W'=>Blk W' (w.heap.size+1+1) 25 #[.int .i64 p1,.int .i64 p2,.int .i64 p3,.int .i64 p4])) (by kernel_rfl) a0.out (fun _=>?_)
         obtain ⟨w1,hw2⟩:∃ w',w'=(e3.drew):=⟨_,rfl⟩
         rw [← hw2] at a1 a7 a8 a9 b0 a2 a3 a0
         rw [← hw2]
         clear hw2
         refine' twH 0 a0.out ?_
         refine' tkH 1 a0.out ?hyR4 ?_
         case hyR4=>(rintro W' hS0;have hc0:=Blk.nth hS0 0;have hc1:=Blk.nth hS0 1;clear hS0;go_simp;try with_reducible rfl)
         refine' twH 3 a0.out ?_
         refine' tkH 4 a0.out ?hyR6 ?_
         case hyR6=>(rintro W' hS0;have hc0:=Blk.nth hS0 2;have hc1:=Blk.nth hS0 3;clear hS0;go_simp;try with_reducible rfl)
         try simp only [pq]
         refine oneH 2 rfl fun K hK=>?_
         go_simp
         go_at_call 23
         refine (sides_any p1 p2 _ (by omega) (by omega) (by omega) (by omega)).mono ?_
         rintro e w7 ⟨rfl,hb8⟩
         dsimp only
         replace hb8:=hid hb8
         replace a0:=kH a0 hb8
         refine hK.out _ _ a0.out (fun _=>?_);clear hK K
         try simp only [pq]
         refine oneH 5 rfl fun K hK=>?_
         go_simp
         go_at_call 23
         refine (sides_any p3 p4 _ (by omega) (by omega) (by omega) (by omega)).mono ?_
         rintro e w9 ⟨rfl,f4⟩
         dsimp only
         replace f4:=hid f4
         replace a0:=kH a0 f4
         refine hK.out _ _ a0.out (fun _=>?_);clear hK K
         try simp only [pq]
         refine' twH 6 a0.out ?_
         try simp only [pq]
         refine wpAnyH_done (by kernel_rfl) ?_ _
         go_wp2
         go_ret
         replace a1:=bH (bH a1 hb8) f4
         exact ⟨rfl,a1.out⟩
       · rw [if_pos hk]
         have hkb:(p2-p1 != p4-p3)=true:=by simpa using hk
         clear hk
         go_enter Tryz.func56,Tryz.ntmps56
         obtain ⟨a2,a3,a0,a1⟩:=ent3 w #[.int .i64 c,.slice A n k,.slice B m j] 35 #[.int .i64 d,.slice C n2 k2,.slice D m2 j2] 35 #[.int .i64 p1,.int .i64 p2,.int .i64 p3,.int .i64 p4] 25
         have a7:=rI h1 a1
         have a8:=rI h2 a1
         have a9:=rI h3 a1
         have b0:=rI h4 a1
         clear h1 h2 h3 h4
         obtain ⟨d1,b1,b2⟩:=at3 a2
         obtain ⟨b3,b4,b5⟩:=at3 a3
         obtain ⟨b6,b7,b8,b9⟩:=at4 a0
         have hc:=checkOutlines_any c A B n k m j ws ts d C D n2 k2 m2 j2 ws2 ts2 _ a7.out a8.out hn hm a9.out b0.out hn2 hm2
         rw [E1.out] at hc
         try dsimp only at hc
         have HC:=hid hc;clear hc
         go_wp2_with fail
         refine HC.out.mono ?_
         rintro e c0 ⟨rfl,hb⟩
         clear HC
         clear d1 b1 b2 b3 b4 b5 b6 b7 b8 b9
         have a4:=hid hb
         clear hb
         replace a2:=kH a2 a4
         obtain ⟨c1,c2,c3⟩:=at3 a2
         replace a3:=kH a3 a4
         obtain ⟨c4,c5,c6⟩:=at3 a3
         replace a0:=kH a0 a4
         obtain ⟨c7,c8,c9,d0⟩:=at4 a0
         have hc:=isStretch_is p1 p2 c _ E2.out (c0)
         have HC:=hid hc;clear hc
         go_wp2_with fail
         refine HC.out.mono ?_
         rintro e d2 ⟨rfl,hb⟩
         clear HC
         clear c1 c2 c3 c4 c5 c6 c7 c8 c9 d0
         have a5:=hid hb
         clear hb
         replace a2:=kH a2 a5
         obtain ⟨d3,d4,d5⟩:=at3 a2
         replace a3:=kH a3 a5
         obtain ⟨d6,d7,d8⟩:=at3 a3
         replace a0:=kH a0 a5
         obtain ⟨d9,e0,e1,e2⟩:=at4 a0
         have hc:=isStretch_is p3 p4 d _ E3.out (d2)
         have HC:=hid hc;clear hc
         go_wp2_with fail
         refine HC.out.mono ?_
         rintro e e3 ⟨rfl,hb⟩
         clear HC
         clear d3 d4 d5 d6 d7 d8 d9 e0 e1 e2
         have a6:=hid hb
         clear hb
         replace a2:=kH a2 a6
         obtain ⟨e4,e5,e6⟩:=at3 a2
         replace a3:=kH a3 a6
         obtain ⟨e7,e8,e9⟩:=at3 a3
         replace a0:=kH a0 a6
         obtain ⟨f0,f1,f2,f3⟩:=at4 a0
         go_wp2_with fail
         clear e4 e5 e6 e7 e8 e9 f0 f1 f2 f3
         replace a1:=bD (bH (bH (bH a1 a4) a5) a6)
         replace a7:=rD (rH (rH (rH a7 a4) a5) a6)
         replace a8:=rD (rH (rH (rH a8 a4) a5) a6)
         replace a9:=rD (rH (rH (rH a9 a4) a5) a6)
         replace b0:=rD (rH (rH (rH b0 a4) a5) a6)
         replace a2:=kD a2
         replace a3:=kD a3
         replace a0:=kD a0
         refine wp_region_held_drew (S:=(fun W'=>Blk W' (w.heap.size+1+1) 25 #[.int .i64 p1,.int .i64 p2,.int .i64 p3,.int .i64 p4])) (by kernel_rfl) a0.out (fun _=>?_)
         obtain ⟨g0,f7⟩:∃ w',w'=(e3.drew):=⟨_,rfl⟩
         rw [← f7] at a1 a7 a8 a9 b0 a2 a3 a0
         rw [← f7]
         clear f7
         refine' twH 0 a0.out ?_
         refine' tkH 1 a0.out ?f8 ?_
         case f8=>(rintro W' hS0;have hc0:=Blk.nth hS0 0;have hc1:=Blk.nth hS0 1;clear hS0;go_simp;try with_reducible rfl)
         refine' twH 3 a0.out ?_
         refine' tkH 4 a0.out ?f9 ?_
         case f9=>(rintro W' hS0;have hc0:=Blk.nth hS0 2;have hc1:=Blk.nth hS0 3;clear hS0;go_simp;try with_reducible rfl)
         try simp only [pq]
         refine oneH 2 rfl fun K hK=>?_
         go_simp
         go_at_call 23
         refine (sides_any p1 p2 _ (by omega) (by omega) (by omega) (by omega)).mono ?_
         rintro e g3 ⟨rfl,f5⟩
         dsimp only
         replace f5:=hid f5
         replace a0:=kH a0 f5
         refine hK.out _ _ a0.out (fun _=>?_);clear hK K
         try simp only [pq]
         refine oneH 5 rfl fun K hK=>?_
         go_simp
         go_at_call 23
         refine (sides_any p3 p4 _ (by omega) (by omega) (by omega) (by omega)).mono ?_
         rintro e g4 ⟨rfl,f6⟩
         dsimp only
         replace f6:=hid f6
         replace a0:=kH a0 f6
         refine hK.out _ _ a0.out (fun _=>?_);clear hK K
         try simp only [pq]
         refine' twH 6 a0.out ?_
         try simp only [pq]
         refine wpAnyH_done (by kernel_rfl) ?_ _
         go_wp2
         go_ret
         replace a1:=bH (bH a1 f5) f6
         exact ⟨rfl,a1.out⟩
 · rw [if_pos h0]
   have hne:(q != 0)=true:=by simpa using h0
   clear h0
   go_enter Tryz.func56,Tryz.ntmps56
   obtain ⟨a2,a3,a0,a1⟩:=ent3 w #[.int .i64 c,.slice A n k,.slice B m j] 35 #[.int .i64 d,.slice C n2 k2,.slice D m2 j2] 35 #[.int .i64 p1,.int .i64 p2,.int .i64 p3,.int .i64 p4] 25
   have a7:=rI h1 a1
   have a8:=rI h2 a1
   have a9:=rI h3 a1
   have b0:=rI h4 a1
   clear h1 h2 h3 h4
   obtain ⟨d1,b1,b2⟩:=at3 a2
   obtain ⟨b3,b4,b5⟩:=at3 a3
   obtain ⟨b6,b7,b8,b9⟩:=at4 a0
   have hc:=checkOutlines_any c A B n k m j ws ts d C D n2 k2 m2 j2 ws2 ts2 _ a7.out a8.out hn hm a9.out b0.out hn2 hm2
   rw [E1.out] at hc
   try dsimp only at hc
   have HC:=hid hc;clear hc
   go_wp2_with fail
   refine HC.out.mono ?_
   rintro e c0 ⟨rfl,hb⟩
   clear HC
   clear d1 b1 b2 b3 b4 b5 b6 b7 b8 b9
   have a4:=hid hb
   clear hb
   replace a2:=kH a2 a4
   obtain ⟨c1,c2,c3⟩:=at3 a2
   replace a3:=kH a3 a4
   obtain ⟨c4,c5,c6⟩:=at3 a3
   replace a0:=kH a0 a4
   obtain ⟨c7,c8,c9,d0⟩:=at4 a0
   go_wp2
   go_ret
   replace a1:=bH a1 a4
   exact ⟨rfl,a1.out⟩
end Go.Proofs.YtebkniakflhhkaaGreatDoor
