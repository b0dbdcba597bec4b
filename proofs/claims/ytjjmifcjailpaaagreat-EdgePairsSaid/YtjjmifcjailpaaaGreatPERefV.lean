import Derived.Test.YtjjmifcjailpaaaGreatPERefU
set_option maxHeartbeats 4000000
set_option linter.unusedSimpArgs false
set_option linter.unusedVariables false
namespace Go.Proofs.YtjjmifcjailpaaaGreat
open Go.Lib (hid)
open Go.RowKit
theorem meetL_len {a b:Otl} (h:both a b=0) (s:Int):(meetL a b s).length≤1000:=Nat.le_trans (List.length_filter_le _ _) (pairsL_length h s)
theorem meet_wf {a b:Otl} (h:both a b=0) {s:Int} {f t mm i:Int} (hp:(⟨f,t,mm,i⟩:Prg)∈meetL a b s):IntKind.i64.wrap (f-1)=f-1∧IntKind.i64.wrap (t+1)=t+1∧IntKind.i64.wrap (mm-1)=mm-1∧IntKind.i64.wrap (i+1)=i+1:=by
 obtain ⟨oa,ob,-,-⟩:=both_ok h
 obtain ⟨a1,a2,-,-⟩:=chkO_ok oa
 obtain ⟨b1,b2,-,-⟩:=chkO_ok ob
 obtain ⟨g1,g2,g3,g4,g5,g6,g7⟩:=mem_pairsL.1 (mem_meetL.1 hp).1
 dsimp only at *
 exact ⟨IntWalk.i64_in _ (by omega),IntWalk.i64_in _ (by omega),IntWalk.i64_in _ (by omega),IntWalk.i64_in _ (by omega)⟩
theorem maxD_pred (a b:Otl) {q:Nat} (h:0<q) (hq:q≤16):maxD a b (16-(q-1))=stepM (meetL a b ((q:Int)+1)) (meetL a b (q:Int)) (maxD a b (16-q)):=by
 rw [show 16-(q-1)=(16-q)+1 by omega]
 show stepM (meetL a b (((16-(16-q):Nat):Int)+1)) (meetL a b ((16-(16-q):Nat):Int)) (maxD a b (16-q))=_
 rw [show 16-(16-q)=q by omega]
theorem List.length_eq_of_map {l:List Prg} {n:Nat} (h:(l.map pB).length=n):l.length=n:=by rwa [List.length_map] at h
theorem RdB.belowB {B:Nat} {w w':World} {A:Option Addr} {n c:Nat} {l:List Bnd} (h:RdB w A n c l) (hB:B=w.heap.size) (hb:Below B w w'):RdB w' A n c l:=by subst hB;exact h.below hb
theorem OutP.belowB {B:Nat} {w w':World} {A:Option Addr} {n c:Nat} {l:List Prg} (h:OutP w A n c l) (hB:B=w.heap.size) (hb:Below B w w'):OutP w' A n c l:=by subst hB;exact h.below hb
theorem OutP.tailX {w:World} {A:Option Addr} {n c:Nat} {l:List Prg} (h:OutP w A n c l) {i:Nat} (hi:i≤n):∃ A4,(∀ w',(Instr.sliceAt 56 (.slice A n c) (some (.int .i64 (i:Int))) none none).run Tryz.prog w'=.ok (.slice A4 (n-i) (c-i)) w')∧SrcP w A4 (n-i) (c-i) (l.drop i) :=
 ⟨_,OutP.runTail h hi,OutP.tail h hi⟩
set_option maxRecDepth 100000 in
theorem rMaximal_err (c:Int) (A B:Option Addr) (n k m j:Nat) (ws ts:List Bnd) (d:Int) (C D:Option Addr) (n2 k2 m2 j2:Nat) (ws2 ts2:List Bnd) (w:World) (h1:RdB w A n k ws) (h2:RdB w B m j ts) (hn:n≤maxLen) (hm:m≤maxLen) (h3:RdB w C n2 k2 ws2) (h4:RdB w D m2 j2 ts2) (hn2:n2≤maxLen) (hm2:m2≤maxLen) (q:Int) (hne:(q != 0)=true) (HQ:Hid (both ⟨c,ws,ts⟩ ⟨d,ws2,ts2⟩=q)):Calls Tryz.prog 30 #[.agg #[.int .i64 c,.slice A n k,.slice B m j],.agg #[.int .i64 d,.slice C n2 k2,.slice D m2 j2]] w (RetPL ([],q) w):=by
 unfold RetPL
 have H1:=hid h1;have H2:=hid h2;have H3:=hid h3;have H4:=hid h4;clear h1 h2 h3 h4
 go_enter Tryz.func30,Tryz.ntmps30
 obtain ⟨a1,a2,a0⟩:=ent2 w #[.int .i64 c,.slice A n k,.slice B m j] 24 #[.int .i64 d,.slice C n2 k2,.slice D m2 j2] 24
 obtain ⟨a4,a5,a6⟩:=at3 a1
 obtain ⟨a7,a8,a9⟩:=at3 a2
 have hc:=rboth_any c A B n k m j ws ts d C D n2 k2 m2 j2 ws2 ts2 _ (RdB.below H1.out a0.out) (RdB.below H2.out a0.out) hn hm (RdB.below H3.out a0.out) (RdB.below H4.out a0.out) hn2 hm2
 rw [HQ.out] at hc
 try dsimp only at hc
 have HC:=hid hc;clear hc
 go_wp2_with fail
 refine HC.out.mono ?_
 rintro e b0 ⟨rfl,hb⟩
 clear HC
 clear a4 a5 a6 a7 a8 a9
 have a3:=hid hb
 clear hb
 replace a1:=kH a1 a3
 obtain ⟨b1,b2,b3⟩:=at3 a1
 replace a2:=kH a2 a3
 obtain ⟨b4,b5,b6⟩:=at3 a2
 go_wp2
 go_ret2
 replace a0:=bH a0 a3
 exact ⟨none,0,0,rfl,RdB.nil_ _,Nat.zero_le _,a0.out⟩
set_option maxRecDepth 100000 in
theorem rMaximal_ok (c:Int) (A B:Option Addr) (n k m j:Nat) (ws ts:List Bnd) (d:Int) (C D:Option Addr) (n2 k2 m2 j2:Nat) (ws2 ts2:List Bnd) (w:World) (h1:RdB w A n k ws) (h2:RdB w B m j ts) (hn:n≤maxLen) (hm:m≤maxLen) (h3:RdB w C n2 k2 ws2) (h4:RdB w D m2 j2 ts2) (hn2:n2≤maxLen) (hm2:m2≤maxLen) (HQ:Hid (both ⟨c,ws,ts⟩ ⟨d,ws2,ts2⟩=0)) (HM17:Hid (meetL ⟨c,ws,ts⟩ ⟨d,ws2,ts2⟩ (((16:Nat):Int)+1)=[])):Calls Tryz.prog 30 #[.agg #[.int .i64 c,.slice A n k,.slice B m j],.agg #[.int .i64 d,.slice C n2 k2,.slice D m2 j2]] w (RetPL (maxD ⟨c,ws,ts⟩ ⟨d,ws2,ts2⟩ 16,0) w):=by
 unfold RetPL
 have H1:=hid h1;have H2:=hid h2;have H3:=hid h3;have H4:=hid h4;clear h1 h2 h3 h4
 go_enter Tryz.func30,Tryz.ntmps30
 obtain ⟨b7,b8,b3⟩:=ent2 w #[.int .i64 c,.slice A n k,.slice B m j] 24 #[.int .i64 d,.slice C n2 k2,.slice D m2 j2] 24
 obtain ⟨j9,k0,k3⟩:=at3 b7
 obtain ⟨k4,k5,k6⟩:=at3 b8
 have hc:=rboth_any c A B n k m j ws ts d C D n2 k2 m2 j2 ws2 ts2 _ (RdB.below H1.out b3.out) (RdB.below H2.out b3.out) hn hm (RdB.below H3.out b3.out) (RdB.below H4.out b3.out) hn2 hm2
 rw [HQ.out] at hc
 try dsimp only at hc
 have HC:=hid hc;clear hc
 go_wp2_with fail
 refine HC.out.mono ?_
 rintro e l0 ⟨rfl,hb⟩
 clear HC
 clear j9 k0 k3 k4 k5 k6
 have e9:=hid hb
 clear hb
 replace b7:=kH b7 e9
 obtain ⟨j3,j4,j5⟩:=at3 b7
 replace b8:=kH b8 e9
 obtain ⟨j6,j7,j8⟩:=at3 b8
 go_wp2
 clear j3 j4 j5 j6 j7 j8
 replace b3:=bH b3 e9
 go_loopw [7,8,9] (fun v7 v8 v9 wr=>∃ (q:Nat) (A7:Option Addr) (n7 c7:Nat) (A8:Option Addr) (n8 c8:Nat),q≤16∧v7=.slice A7 n7 c7∧v8=.slice A8 n8 c8∧v9=.int .i64 q∧OutP wr A7 n7 c7 (maxD ⟨c,ws,ts⟩ ⟨d,ws2,ts2⟩ (16-q))∧n7≤(16-q) * 1000∧RdB wr A8 n8 c8 ((meetL ⟨c,ws,ts⟩ ⟨d,ws2,ts2⟩ ((q:Int)+1)).map pB)∧n8≤maxLen∧Blk wr (w.heap.size) 24 #[.int .i64 c,.slice A n k,.slice B m j]∧Blk wr (w.heap.size+1) 24 #[.int .i64 d,.slice C n2 k2,.slice D m2 j2]∧Below w.heap.size w wr) (fun _ _ i _=>(intOf i).toNat)
 case atStart=>exact ⟨16,none,0,0,none,0,0,Nat.le_refl _,rfl,rfl,rfl,OutP.nil_ _,Nat.zero_le _,by rw [HM17.out];exact RdB.nil_ _,Nat.zero_le _,b7.out,b8.out,b3.out⟩
 case round =>
  clear b3 b7 b8
  obtain ⟨q,A7,n7,c7,A8,n8,c8,hq,rfl,rfl,rfl,i1,hn7,i2,hn8,i3,i4,i5⟩:=hrel
  obtain ⟨wo,rfl⟩:∃ wo,wo=wr:=⟨wr,rfl⟩
  have HF:=hid i1.2;have HN7:=hid hn7;have HN8:=hid hn8;clear hn7 hn8
  have b6:=hid (i1.1)
  have a5:=hid (i2)
  have a2:=hid (i3)
  have a3:=hid (i4)
  have a4:=hid (i5)
  clear i1 i2 i3 i4 i5
  by_cases hz:0<q
  · have hwq:IntKind.i64.wrap ((q:Int)-1)=((q-1:Nat):Int):=by rw [IntWalk.i64_in _ (by omega)];omega
    have HZ:=hid hz
    obtain ⟨f3,f4,f5⟩:=at3 a2
    obtain ⟨f6,f7,f8⟩:=at3 a3
    have hc:=rPairs_yes c A B n k m j ws ts d C D n2 k2 m2 j2 ws2 ts2 (q:Int) _ (RdB.below H1.out a4.out) (RdB.below H2.out a4.out) hn hm (RdB.below H3.out a4.out) (RdB.below H4.out a4.out) hn2 hm2 HQ.out
    have HC:=hid hc;clear hc
    go_wp2_with fail
    refine HC.out.mono ?_
    rintro e f9 ⟨A9,n9,c9,rfl,hrd,hm9,hb⟩
    clear HC
    clear f3 f4 f5 f6 f7 f8
    have b4:=hid hb
    clear hb
    have a0:=hid (hrd)
    clear hrd
    have hn9:n9≤1000:=by have h:=(a0.out).len;rw [List.length_map] at h;rw [← h];exact meetL_len HQ.out _
    have HN9:=hid hn9;clear hn9
    replace b6:=rH b6 b4
    replace a5:=rH a5 b4
    replace a2:=kH a2 b4
    replace a3:=kH a3 b4
    replace a4:=bH a4 b4
    obtain ⟨h0,h5,h6⟩:=at3 a2
    obtain ⟨h7,h8,h9⟩:=at3 a3
    go_wp2
    clear h0 h5 h6 h7 h8 h9
    go_loopw [7,12] (fun v7 v12 wr=>∃ (r:Nat) (A6:Option Addr) (n6 c6:Nat),r≤n9∧v7=.slice A6 n6 c6∧v12=.int .i64 r∧OutP wr A6 n6 c6 (stepM (meetL ⟨c,ws,ts⟩ ⟨d,ws2,ts2⟩ ((q:Int)+1)) ((meetL ⟨c,ws,ts⟩ ⟨d,ws2,ts2⟩ (q:Int)).take r) (maxD ⟨c,ws,ts⟩ ⟨d,ws2,ts2⟩ (16-q)))∧n6≤(16-q) * 1000+r∧Below (f9).heap.size (f9) wr) (fun _ i _=>n9-(intOf i).toNat)
    case atStart=>exact ⟨0,A7,n7,c7,Nat.zero_le _,rfl,rfl,⟨b6.out,HF.out⟩,HN7.out,Below.refl _ _⟩
    case round =>
     obtain ⟨r,A6,n6,c6,hr,rfl,rfl,j1,hn6,j2⟩:=hrel
     obtain ⟨wi,rfl⟩:∃ wi,wi=wr:=⟨wr,rfl⟩
     have HF6:=hid j1.2;have HN6:=hid hn6;clear hn6
     have b5:=hid j2
     have a1:=hid (j1.1)
     have a6:=hid (j2)
     replace a5:=rH a5 b5
     replace a2:=kH a2 b5
     replace a3:=kH a3 b5
     replace a4:=bH a4 b5
     replace a0:=rH a0 b5
     clear j1 j2
     by_cases hlt:r<n9
     · obtain ⟨b,o,f,t,mm,i,hA,hbw,hx,c0,c1,c2,c3⟩:=(a0.out).get hlt
       subst hA
       have HBX:=hid hx
       obtain ⟨hp,-⟩:=long_at hx ⟨f,t,mm,i⟩
       clear hx
       have hw4:=meet_wf HQ.out (List.mem_of_getElem? hp);obtain ⟨hw1,hw2,hw3,hw4⟩:=hw4;have HW1:=hid hw1;have HW2:=hid hw2;have HW3:=hid hw3;have HW4:=hid hw4;clear hw1 hw2 hw3 hw4
       have HST:=hid (stepM_take (meetL ⟨c,ws,ts⟩ ⟨d,ws2,ts2⟩ ((q:Int)+1)) (meetL ⟨c,ws,ts⟩ ⟨d,ws2,ts2⟩ (q:Int)) (maxD ⟨c,ws,ts⟩ ⟨d,ws2,ts2⟩ (16-q)) hp);have HP:=hid hp;clear hp;have HLT:=hid hlt
       have hlr:(r:Int)<(n9:Int):=by omega
       have hn9s:=HN9.out;have hn6s:n6≤20000:=by have:=HN6.out;omega
       obtain ⟨b9,c4,d4⟩:=at3 a2
       obtain ⟨d5,d6,d7⟩:=at3 a3
       cases hL:longB (meetL ⟨c,ws,ts⟩ ⟨d,ws2,ts2⟩ ((q:Int)+1)) ⟨f,t,mm,i⟩
       · have HL:=hid hL;clear hL
         have hc:=rlonger_any A8 n8 c8 (meetL ⟨c,ws,ts⟩ ⟨d,ws2,ts2⟩ ((q:Int)+1)) f t mm i _ a5.out HN8.out HW1.out HW2.out HW3.out HW4.out
         rw [HL.out] at hc
         try dsimp only at hc
         have HC:=hid hc;clear hc
         go_wp2_with fail
         refine HC.out.mono ?_
         rintro e d8 ⟨rfl,hb⟩
         clear HC
         clear b9 c4 d4 d5 d6 d7
         have a7:=hid hb
         clear hb
         replace a5:=rH a5 a7
         replace a2:=kH a2 a7
         replace a3:=kH a3 a7
         replace a4:=bH a4 a7
         replace a0:=rH a0 a7
         replace a1:=rH a1 a7
         replace a6:=bH a6 a7
         obtain ⟨g0,g1,g2⟩:=at3 a2
         obtain ⟨g3,g4,g5⟩:=at3 a3
         go_wp2
         clear g0 g1 g2 g3 g4 g5
         clear c0 c1 c2 c3
         go_loopw [13] (fun v13 wr=>∃ u:Nat,u≤n6∧v13=.int .i64 u∧(∀ x∈(stepM (meetL ⟨c,ws,ts⟩ ⟨d,ws2,ts2⟩ ((q:Int)+1)) ((meetL ⟨c,ws,ts⟩ ⟨d,ws2,ts2⟩ (q:Int)).take r) (maxD ⟨c,ws,ts⟩ ⟨d,ws2,ts2⟩ (16-q))).take u,strB x ⟨f,t,mm,i⟩=true)∧Below (d8).heap.size (d8) wr) (fun i _=>n6-(intOf i).toNat)
         case atStart=>exact ⟨0,Nat.zero_le _,rfl,by simp,Below.refl _ _⟩
         case round =>
          obtain ⟨u,hu,rfl,k1,k2⟩:=hrel
          obtain ⟨wk,rfl⟩:∃ wk,wk=wr:=⟨wr,rfl⟩
          have HK1:=hid k1;clear k1
          have b1:=hid k2
          have a8:=hid (k2)
          replace a5:=rH a5 b1
          replace a2:=kH a2 b1
          replace a3:=kH a3 b1
          replace a4:=bH a4 b1
          replace a0:=rH a0 b1
          replace a1:=rH a1 b1
          replace a6:=bH a6 b1
          clear k2
          by_cases hut:u<n6
          · obtain ⟨b2,o2,f2,t2,mm2,i2,hA2,hbw2,hx2,d0,d1,d2,d3⟩:=(a1.out).get hut
            subst hA2
            clear d0 d1 d2 d3 hbw2
            have HBY:=hid hx2
            obtain ⟨hp2,-⟩:=long_at hx2 ⟨f,t,mm,i⟩
            have HP2:=hid hp2;clear hx2 hp2
            have hul:(u:Int)<(n6:Int):=by omega
            cases hS:strB ⟨f2,t2,mm2,i2⟩ ⟨f,t,mm,i⟩
            · have HSB:=hid hS;clear hS
              have hbc:=fun W=>rbefore_any f2 t2 mm2 i2 f t mm i W
              simp only [HSB.out] at hbc
              have HBC:=hid hbc;clear hbc
              obtain ⟨d9,e0,e1⟩:=at3 a2
              obtain ⟨e2,e3,e4⟩:=at3 a3
              go_wp2_with fail
              clear d9 e0 e1 e2 e3 e4
              replace a5:=rD a5
              replace a2:=kD a2
              replace a3:=kD a3
              replace a4:=bD a4
              replace a0:=rD a0
              replace a1:=rD a1
              replace a6:=bD a6
              replace a8:=bD a8
              refine wp_region_held_drew (S:=(fun W'=>RdB W' (some ⟨b2,o2,none⟩) n6 c6 ((stepM (meetL ⟨c,ws,ts⟩ ⟨d,ws2,ts2⟩ ((q:Int)+1)) ((meetL ⟨c,ws,ts⟩ ⟨d,ws2,ts2⟩ (q:Int)).take r) (maxD ⟨c,ws,ts⟩ ⟨d,ws2,ts2⟩ (16-q))).map pB)∧RdB W' (some ⟨b,o,none⟩) n9 c9 ((meetL ⟨c,ws,ts⟩ ⟨d,ws2,ts2⟩ (q:Int)).map pB))) (by kernel_rfl) ⟨a1.out,a0.out⟩ (fun _=>?_)
              obtain ⟨k7,e5⟩:∃ w',w'=(wk.drew):=⟨_,rfl⟩
              rw [← e5] at a5 a2 a3 a4 a0 a1 a6 a8
              rw [← e5]
              clear e5
              refine' twH 0 ⟨a1.out,a0.out⟩ ?_
              refine' twH 1 ⟨a1.out,a0.out⟩ ?_
              refine' twH 2 ⟨a1.out,a0.out⟩ ?_
              refine' twH 3 ⟨a1.out,a0.out⟩ ?_
              try simp only [pq]
              refine' twH 4 ⟨a1.out,a0.out⟩ ?_
              refine' twH 5 ⟨a1.out,a0.out⟩ ?_
              refine' twH 6 ⟨a1.out,a0.out⟩ ?_
              refine' twH 7 ⟨a1.out,a0.out⟩ ?_
              try simp only [pq]
              refine' tkH 8 ⟨a1.out,a0.out⟩ ?g6 ?_
              case g6=>(rintro W' ⟨hS0,hS1⟩;obtain ⟨c0_,c1_,c2_,c3_,cl_⟩:=rdB_at hS0 HBY.out;clear hS0 hS1;go_simp;try with_reducible rfl)
              refine' twH 9 ⟨a1.out,a0.out⟩ ?_
              refine' twH 10 ⟨a1.out,a0.out⟩ ?_
              refine' twH 11 ⟨a1.out,a0.out⟩ ?_
              try simp only [pq]
              refine' tkH 12 ⟨a1.out,a0.out⟩ ?g7 ?_
              case g7=>(rintro W' ⟨hS0,hS1⟩;obtain ⟨c0_,c1_,c2_,c3_,cl_⟩:=rdB_at hS1 HBX.out;clear hS0 hS1;go_simp;try with_reducible rfl)
              try simp only [pq]
              refine oneH 13 rfl fun K hK=>?_
              go_simp
              go_at_call 69
              refine (HBC.out _).mono ?_
              rintro e f0 ⟨rfl,a9⟩
              dsimp only
              replace a9:=hid a9
              replace a1:=rH a1 a9
              replace a0:=rH a0 a9
              refine hK.out _ _ ⟨a1.out,a0.out⟩ (fun _=>?_);clear hK K
              try simp only [pq]
              refine' twH 14 ⟨a1.out,a0.out⟩ ?_
              try simp only [pq]
              refine wpAnyH_done (by kernel_rfl) ?_ _
              have HIN:=hid (insL_at (p:=⟨f,t,mm,i⟩) (S:=(stepM (meetL ⟨c,ws,ts⟩ ⟨d,ws2,ts2⟩ ((q:Int)+1)) ((meetL ⟨c,ws,ts⟩ ⟨d,ws2,ts2⟩ (q:Int)).take r) (maxD ⟨c,ws,ts⟩ ⟨d,ws2,ts2⟩ (16-q)))) (t:=u) (by rw [List.length_eq_of_map ((a1.out).len)];exact hu) HK1.out (fun x hx=>by rw [HP2.out] at hx;injection hx with hx;rw [← hx];exact HSB.out))
              replace a5:=rH a5 a9
              replace a2:=kH a2 a9
              replace a3:=kH a3 a9
              replace a4:=bH a4 a9
              replace a6:=bH a6 a9
              replace a8:=bH a8 a9
              obtain ⟨B,hB⟩:∃ B,B=(f0).heap.size:=⟨_,rfl⟩
              have HBB:=hid hB
              have hown7:(f0).ownsRow B 28 4 (.slice none 0 0) 0 (bcells (([]:List Prg).map pB)):=World.ownsRow_nil _ _ _ _
              have OW:=hid hown7;clear hown7 hB
              have HO:=hid (⟨a1.out,HF6.out⟩:OutP (f0) (some ⟨b2,o2,none⟩) n6 c6 (stepM (meetL ⟨c,ws,ts⟩ ⟨d,ws2,ts2⟩ ((q:Int)+1)) ((meetL ⟨c,ws,ts⟩ ⟨d,ws2,ts2⟩ (q:Int)).take r) (maxD ⟨c,ws,ts⟩ ⟨d,ws2,ts2⟩ (16-q))))
              have hh:=OutP.runHead HO.out hu
              have HS:=hid (OutP.head HO.out hu)
              go_wp2_with (at_builtin;first | (refine wpList_append_part rfl _ _ rfl B _ 0 [] rfl OW.out (some ⟨b2,o2,none⟩) u c6 ((stepM (meetL ⟨c,ws,ts⟩ ⟨d,ws2,ts2⟩ ((q:Int)+1)) ((meetL ⟨c,ws,ts⟩ ⟨d,ws2,ts2⟩ (q:Int)).take r) (maxD ⟨c,ws,ts⟩ ⟨d,ws2,ts2⟩ (16-q))).take u) rfl HS.out (by rw [HBB.out];exact Nat.le_refl _) (by have:=HN6.out;have:=HN9.out;have:=HLT.out;omega) ?_;intro v2 w7 hown7 hb7;clear hh HS OW;have OW:=hid hown7;have BT:=hid hb7;clear hown7 hb7;obtain ⟨c0,c1,c2,c3,cl⟩:=rdB_at (RdB.belowB a0.out HBB.out BT.out) HBX.out;have hown8:=(OW.out).alloc (.cells #[.int .i64 f,.int .i64 t,.int .i64 mm,.int .i64 i] 28);clear OW;have OW:=hid hown8;clear hown8;have hb8:=Below.alloc BT.out (by rw [HBB.out];exact Below.size BT.out) (.cells #[.int .i64 f,.int .i64 t,.int .i64 mm,.int .i64 i] 28);clear BT;have BT:=hid hb8;clear hb8) | (refine wpList_append_part rfl _ _ rfl B _ (0+u) _ rfl OW.out (some ⟨w7.heap.size,0,none⟩) 1 1 [⟨f,t,mm,i⟩] rfl (src_one w7 ⟨f,t,mm,i⟩) (by rw [HBB.out];exact Below.size BT.out) (by have:=HN6.out;have:=HN9.out;have:=HLT.out;omega) ?_;intro v3 w8 hown8 hb8;clear OW c0 c1 c2 c3 cl;have OW:=hid hown8;clear hown8;have hb9:=Below.trans BT.out hb8;clear BT hb8;have BT:=hid hb9;clear hb9;obtain ⟨A4,hh,hs4⟩:=OutP.tailX (OutP.belowB HO.out HBB.out BT.out) hu;have HS:=hid hs4;clear hs4) | (refine wpList_append_part rfl _ _ rfl B _ (0+u+1) _ rfl OW.out A4 (n6-u) (c6-u) ((stepM (meetL ⟨c,ws,ts⟩ ⟨d,ws2,ts2⟩ ((q:Int)+1)) ((meetL ⟨c,ws,ts⟩ ⟨d,ws2,ts2⟩ (q:Int)).take r) (maxD ⟨c,ws,ts⟩ ⟨d,ws2,ts2⟩ (16-q))).drop u) rfl HS.out (by rw [HBB.out];exact Below.size BT.out) (by have:=HN6.out;have:=HN9.out;have:=HLT.out;omega) ?_;intro v4 w9 hown9 hb9;clear hh HS OW;have e6:=Below.trans BT.out hb9;clear BT hb9;have BT:=hid e6;clear e6;rw [List.nil_append,← HIN.out,show 0+u+1+(n6-u)=n6+1 by omega] at hown9;obtain ⟨A5,c5,rfl,ho5⟩:=own_out hown9 (by rw [insL_length,OutP.len HO.out]);have HO5:=hid ho5;clear ho5 hown9))
              go_roundw
              case rel=>exact ⟨r+1,A5,n6+1,c5,HLT.out,rfl,by go_num,(by rw [HST.out,HL.out,if_neg (by simp)];exact HO5.out),by have:=HN6.out;omega,Below.trans (a6.out) (Below.mono BT.out (by rw [HBB.out];exact Below.size (a6.out)))⟩
              case measure=>have:=HLT.out;simp [intOf];omega
            · have HSB:=hid hS;clear hS
              have hbc:=fun W=>rbefore_any f2 t2 mm2 i2 f t mm i W
              simp only [HSB.out] at hbc
              have HBC:=hid hbc;clear hbc
              obtain ⟨d9,e0,e1⟩:=at3 a2
              obtain ⟨e2,e3,e4⟩:=at3 a3
              go_wp2_with fail
              clear d9 e0 e1 e2 e3 e4
              replace a5:=rD a5
              replace a2:=kD a2
              replace a3:=kD a3
              replace a4:=bD a4
              replace a0:=rD a0
              replace a1:=rD a1
              replace a6:=bD a6
              replace a8:=bD a8
              refine wp_region_held_drew (S:=(fun W'=>RdB W' (some ⟨b2,o2,none⟩) n6 c6 ((stepM (meetL ⟨c,ws,ts⟩ ⟨d,ws2,ts2⟩ ((q:Int)+1)) ((meetL ⟨c,ws,ts⟩ ⟨d,ws2,ts2⟩ (q:Int)).take r) (maxD ⟨c,ws,ts⟩ ⟨d,ws2,ts2⟩ (16-q))).map pB)∧RdB W' (some ⟨b,o,none⟩) n9 c9 ((meetL ⟨c,ws,ts⟩ ⟨d,ws2,ts2⟩ (q:Int)).map pB))) (by kernel_rfl) ⟨a1.out,a0.out⟩ (fun _=>?_)
              obtain ⟨k8,e7⟩:∃ w',w'=(wk.drew):=⟨_,rfl⟩
              rw [← e7] at a5 a2 a3 a4 a0 a1 a6 a8
              rw [← e7]
              clear e7
              refine' twH 0 ⟨a1.out,a0.out⟩ ?_
              refine' twH 1 ⟨a1.out,a0.out⟩ ?_
              refine' twH 2 ⟨a1.out,a0.out⟩ ?_
              refine' twH 3 ⟨a1.out,a0.out⟩ ?_
              try simp only [pq]
              refine' twH 4 ⟨a1.out,a0.out⟩ ?_
              refine' twH 5 ⟨a1.out,a0.out⟩ ?_
              refine' twH 6 ⟨a1.out,a0.out⟩ ?_
              refine' twH 7 ⟨a1.out,a0.out⟩ ?_
              try simp only [pq]
              refine' tkH 8 ⟨a1.out,a0.out⟩ ?g8 ?_
              case g8=>(rintro W' ⟨hS0,hS1⟩;obtain ⟨c0_,c1_,c2_,c3_,cl_⟩:=rdB_at hS0 HBY.out;clear hS0 hS1;go_simp;try with_reducible rfl)
              refine' twH 9 ⟨a1.out,a0.out⟩ ?_
              refine' twH 10 ⟨a1.out,a0.out⟩ ?_
              refine' twH 11 ⟨a1.out,a0.out⟩ ?_
              try simp only [pq]
              refine' tkH 12 ⟨a1.out,a0.out⟩ ?g9 ?_
              case g9=>(rintro W' ⟨hS0,hS1⟩;obtain ⟨c0_,c1_,c2_,c3_,cl_⟩:=rdB_at hS1 HBX.out;clear hS0 hS1;go_simp;try with_reducible rfl)
              try simp only [pq]
              refine oneH 13 rfl fun K hK=>?_
              go_simp
              go_at_call 69
              refine (HBC.out _).mono ?_
              rintro e k9 ⟨rfl,b0⟩
              dsimp only
              replace b0:=hid b0
              replace a1:=rH a1 b0
              replace a0:=rH a0 b0
              refine hK.out _ _ ⟨a1.out,a0.out⟩ (fun _=>?_);clear hK K
              try simp only [pq]
              refine' twH 14 ⟨a1.out,a0.out⟩ ?_
              try simp only [pq]
              refine wpAnyH_done (by kernel_rfl) ?_ _
              go_wp2
              replace a5:=rH a5 b0
              replace a2:=kH a2 b0
              replace a3:=kH a3 b0
              replace a4:=bH a4 b0
              replace a6:=bH a6 b0
              replace a8:=bH a8 b0
              go_roundw
              case rel=>exact ⟨u+1,hut,by go_num,by rw [List.take_add_one,HP2.out];intro x hx;rcases List.mem_append.1 hx with h|h;exact HK1.out x h;(simp only [Option.toList_some,List.mem_singleton] at h;subst h;exact HSB.out),a8.out⟩
              case measure=>simp [intOf];omega
          · have hul:¬ (u:Int)<(n6:Int):=by omega
            have hulb:decide ((u:Int)<(n6:Int))=false:=decide_eq_false hul
            have hulc:decide (u<n6)=false:=decide_eq_false hut
            have HUT:=hid hut
            obtain ⟨i0,i6,i7⟩:=at3 a2
            obtain ⟨i8,i9,j0⟩:=at3 a3
            go_wp2_with fail
            clear i0 i6 i7 i8 i9 j0
            replace a5:=rD a5
            replace a2:=kD a2
            replace a3:=kD a3
            replace a4:=bD a4
            replace a0:=rD a0
            replace a1:=rD a1
            replace a6:=bD a6
            replace a8:=bD a8
            refine wp_region_any (by kernel_rfl) ?_
            change wpAny _ _ _ _ _ _ _ (World.drew _)
            obtain ⟨f1,e8⟩:∃ w',w'=(wk.drew):=⟨_,rfl⟩
            rw [← e8] at a5 a2 a3 a4 a0 a1 a6 a8
            rw [← e8]
            clear e8
            refine' twY 0 ?_
            refine' twY 1 ?_
            refine' twY 2 ?_
            refine' twY 3 ?_
            try simp only [pq]
            refine' twY 4 ?_
            refine' tkNY 5 ?_
            refine' tkNY 6 ?_
            refine' tkNY 7 ?_
            try simp only [pq]
            refine' tkNY 8 ?_
            refine' tkNY 9 ?_
            refine' tkNY 10 ?_
            refine' tkNY 11 ?_
            try simp only [pq]
            refine' tkNY 12 ?_
            refine' tkNY 13 ?_
            refine' twY 14 ?_
            try simp only [pq]
            refine wpAny_done (by kernel_rfl) ?_ _
            have HIN:=hid (insL_at (p:=⟨f,t,mm,i⟩) (S:=(stepM (meetL ⟨c,ws,ts⟩ ⟨d,ws2,ts2⟩ ((q:Int)+1)) ((meetL ⟨c,ws,ts⟩ ⟨d,ws2,ts2⟩ (q:Int)).take r) (maxD ⟨c,ws,ts⟩ ⟨d,ws2,ts2⟩ (16-q)))) (t:=u) (by rw [List.length_eq_of_map ((a1.out).len)];exact hu) HK1.out (fun x hx=>by have:=(List.getElem?_eq_some_iff.1 hx).1;rw [List.length_eq_of_map ((a1.out).len)] at this;exact (HUT.out this).elim))
            obtain ⟨B,hB⟩:∃ B,B=(f1).heap.size:=⟨_,rfl⟩
            have HBB:=hid hB
            have hown7:(f1).ownsRow B 28 4 (.slice none 0 0) 0 (bcells (([]:List Prg).map pB)):=World.ownsRow_nil _ _ _ _
            have OW:=hid hown7;clear hown7 hB
            have HO:=hid (⟨a1.out,HF6.out⟩:OutP (f1) A6 n6 c6 (stepM (meetL ⟨c,ws,ts⟩ ⟨d,ws2,ts2⟩ ((q:Int)+1)) ((meetL ⟨c,ws,ts⟩ ⟨d,ws2,ts2⟩ (q:Int)).take r) (maxD ⟨c,ws,ts⟩ ⟨d,ws2,ts2⟩ (16-q))))
            have hh:=OutP.runHead HO.out hu
            have HS:=hid (OutP.head HO.out hu)
            go_wp2_with (at_builtin;first | (refine wpList_append_part rfl _ _ rfl B _ 0 [] rfl OW.out A6 u c6 ((stepM (meetL ⟨c,ws,ts⟩ ⟨d,ws2,ts2⟩ ((q:Int)+1)) ((meetL ⟨c,ws,ts⟩ ⟨d,ws2,ts2⟩ (q:Int)).take r) (maxD ⟨c,ws,ts⟩ ⟨d,ws2,ts2⟩ (16-q))).take u) rfl HS.out (by rw [HBB.out];exact Nat.le_refl _) (by have:=HN6.out;have:=HN9.out;have:=HLT.out;omega) ?_;intro v2 w7 hown7 hb7;clear hh HS OW;have OW:=hid hown7;have BT:=hid hb7;clear hown7 hb7;obtain ⟨c0,c1,c2,c3,cl⟩:=rdB_at (RdB.belowB a0.out HBB.out BT.out) HBX.out;have hown8:=(OW.out).alloc (.cells #[.int .i64 f,.int .i64 t,.int .i64 mm,.int .i64 i] 28);clear OW;have OW:=hid hown8;clear hown8;have hb8:=Below.alloc BT.out (by rw [HBB.out];exact Below.size BT.out) (.cells #[.int .i64 f,.int .i64 t,.int .i64 mm,.int .i64 i] 28);clear BT;have BT:=hid hb8;clear hb8) | (refine wpList_append_part rfl _ _ rfl B _ (0+u) _ rfl OW.out (some ⟨w7.heap.size,0,none⟩) 1 1 [⟨f,t,mm,i⟩] rfl (src_one w7 ⟨f,t,mm,i⟩) (by rw [HBB.out];exact Below.size BT.out) (by have:=HN6.out;have:=HN9.out;have:=HLT.out;omega) ?_;intro v3 w8 hown8 hb8;clear OW c0 c1 c2 c3 cl;have OW:=hid hown8;clear hown8;have hb9:=Below.trans BT.out hb8;clear BT hb8;have BT:=hid hb9;clear hb9;obtain ⟨A4,hh,hs4⟩:=OutP.tailX (OutP.belowB HO.out HBB.out BT.out) hu;have HS:=hid hs4;clear hs4) | (refine wpList_append_part rfl _ _ rfl B _ (0+u+1) _ rfl OW.out A4 (n6-u) (c6-u) ((stepM (meetL ⟨c,ws,ts⟩ ⟨d,ws2,ts2⟩ ((q:Int)+1)) ((meetL ⟨c,ws,ts⟩ ⟨d,ws2,ts2⟩ (q:Int)).take r) (maxD ⟨c,ws,ts⟩ ⟨d,ws2,ts2⟩ (16-q))).drop u) rfl HS.out (by rw [HBB.out];exact Below.size BT.out) (by have:=HN6.out;have:=HN9.out;have:=HLT.out;omega) ?_;intro v4 w9 hown9 hb9;clear hh HS OW;have e6:=Below.trans BT.out hb9;clear BT hb9;have BT:=hid e6;clear e6;rw [List.nil_append,← HIN.out,show 0+u+1+(n6-u)=n6+1 by omega] at hown9;obtain ⟨A5,c5,rfl,ho5⟩:=own_out hown9 (by rw [insL_length,OutP.len HO.out]);have HO5:=hid ho5;clear ho5 hown9))
            go_roundw
            case rel=>exact ⟨r+1,A5,n6+1,c5,HLT.out,rfl,by go_num,(by rw [HST.out,HL.out,if_neg (by simp)];exact HO5.out),by have:=HN6.out;omega,Below.trans (a6.out) (Below.mono BT.out (by rw [HBB.out];exact Below.size (a6.out)))⟩
            case measure=>have:=HLT.out;simp [intOf];omega
       · have HL:=hid hL;clear hL
         have hc:=rlonger_any A8 n8 c8 (meetL ⟨c,ws,ts⟩ ⟨d,ws2,ts2⟩ ((q:Int)+1)) f t mm i _ a5.out HN8.out HW1.out HW2.out HW3.out HW4.out
         rw [HL.out] at hc
         try dsimp only at hc
         have HC:=hid hc;clear hc
         go_wp2_with fail
         refine HC.out.mono ?_
         rintro e d8 ⟨rfl,hb⟩
         clear HC
         clear b9 c4 d4 d5 d6 d7
         have a7:=hid hb
         clear hb
         replace a2:=kH a2 a7
         obtain ⟨g0,g1,g2⟩:=at3 a2
         replace a3:=kH a3 a7
         obtain ⟨g3,g4,g5⟩:=at3 a3
         go_wp2
         replace a5:=rH a5 a7
         replace a4:=bH a4 a7
         replace a0:=rH a0 a7
         replace a1:=rH a1 a7
         replace a6:=bH a6 a7
         go_roundw
         case rel=>exact ⟨r+1,A6,n6,c6,HLT.out,rfl,by go_num,⟨by rw [HST.out,HL.out,if_pos rfl];exact a1.out,HF6.out⟩,by have:=HN6.out;omega,a6.out⟩
         case measure=>have:=HLT.out;simp [intOf];omega
     · obtain rfl:n9=r:=by omega
       have HTA:=hid (show (meetL ⟨c,ws,ts⟩ ⟨d,ws2,ts2⟩ (q:Int)).take n9=(meetL ⟨c,ws,ts⟩ ⟨d,ws2,ts2⟩ (q:Int)) from List.take_of_length_le (by have h:=(a0.out).len;rw [List.length_map] at h;omega))
       have HMP:=hid (maxD_pred ⟨c,ws,ts⟩ ⟨d,ws2,ts2⟩ HZ.out hq)
       have HCQ:=hid (show (((q-1:Nat):Int))+1=(q:Int) by have:=HZ.out;omega)
       obtain ⟨b9,c4,d4⟩:=at3 a2
       obtain ⟨d5,d6,d7⟩:=at3 a3
       go_wp2
       go_roundw
       case rel=>exact ⟨q-1,A6,n6,c6,A9,n9,c9,by omega,rfl,rfl,rfl,⟨by rw [HMP.out,← HTA.out];exact a1.out,HF6.out⟩,by have:=HN6.out;have:=HN9.out;have:=HZ.out;omega,by rw [HCQ.out];exact a0.out,hm9,a2.out,a3.out,a4.out⟩
       case measure=>have:=HZ.out;simp [intOf];omega
  · obtain rfl:q=0:=by omega
    obtain ⟨f3,f4,f5⟩:=at3 a2
    obtain ⟨f6,f7,f8⟩:=at3 a3
    go_wp2
    go_ret2
    exact ⟨A7,n7,c7,rfl,b6.out,by have:=HN7.out;unfold maxLen;omega,a4.out⟩
end Go.Proofs.YtjjmifcjailpaaaGreat
