import Derived.Test.YtokpblmgdmokoaaGreatAVTol
import Derived.Test.YtokpblmgdmokoaaGreatFVPub
import Derived.Test.YtokpblmgdmokoaaGreatFVOrm
import Derived.Test.YtokpblmgdmokoaaGreatFVSml
set_option maxHeartbeats 4000000
set_option linter.unusedSimpArgs false
set_option linter.unusedVariables false
namespace Go.Proofs.YtokpblmgdmokoaaGreat
open Go.Lib (hid)
open Go.RowKit Go.Maps
set_option maxRecDepth 100000 in
theorem wo_w1 (w:World) (ware:ByteArray) (lim by_:Int) (A:Option Addr) (n k:Nat) (ps:List Prt) (t:Int) (hr:RdP w A n k ps) (hn:n≤maxLen) (hf:smlB ⟨ware,lim,by_,ps⟩ 12=false):Calls Tryz.prog 15 #[.agg #[.string ware,.int .i64 lim,.int .i64 by_,.slice A n k],.int .u8 t] w fun e w'=>e=.returned (.bool true)∧Below w.heap.size w w':=by
 have HF:=hid hf;clear hf
 go_enter Tryz.func15,Tryz.ntmps15
 obtain ⟨a0,a1⟩:=ent1 w #[.string ware,.int .i64 lim,.int .i64 by_,.slice A n k] 24
 have a4:=hid (RdP.below (hr) a1.out)
 clear hr
 obtain ⟨a9,b0,b1,b2⟩:=at4 a0
 have hc:=small_is ware lim by_ A n k ps 12 ((w.alloc (.cells #[.string ware,.int .i64 lim,.int .i64 by_,.slice A n k] 24))) a4.out hn _ HF.out
 have HC:=hid hc;clear hc
 go_wp2_with fail
 refine HC.out.mono ?_
 rintro e b3 ⟨rfl,hb⟩
 clear HC
 clear a9 b0 b1 b2
 have a3:=hid hb
 clear hb
 replace a0:=kH a0 a3
 obtain ⟨a5,a6,a7,a8⟩:=at4 a0
 have hc:=told_any (b3)
 have HC:=hid hc;clear hc
 go_wp2_with fail
 refine HC.out.mono ?_
 rintro e b4 ⟨rfl,hb⟩
 clear HC
 clear a5 a6 a7 a8
 have a2:=hid hb
 clear hb
 replace a0:=kH a0 a2
 obtain ⟨b5,b6,b7,b8⟩:=at4 a0
 go_wp2
 go_ret
 replace a1:=bH (bH a1 a3) a2
 exact ⟨rfl,a1.out⟩
set_option maxRecDepth 100000 in
theorem wo_w2 (w:World) (ware:ByteArray) (lim by_:Int) (A:Option Addr) (n k:Nat) (ps:List Prt) (t:Int) (hr:RdP w A n k ps) (hn:n≤maxLen) (hf:smlB ⟨ware,lim,by_,ps⟩ 12=true) (h0:((n:Int) == 0)=true):Calls Tryz.prog 15 #[.agg #[.string ware,.int .i64 lim,.int .i64 by_,.slice A n k],.int .u8 t] w fun e w'=>e=.returned (.bool true)∧Below w.heap.size w w':=by
 have HF:=hid hf;clear hf
 go_enter Tryz.func15,Tryz.ntmps15
 obtain ⟨a0,a1⟩:=ent1 w #[.string ware,.int .i64 lim,.int .i64 by_,.slice A n k] 24
 have a4:=hid (RdP.below (hr) a1.out)
 clear hr
 obtain ⟨a9,b0,b1,b2⟩:=at4 a0
 have hc:=small_is ware lim by_ A n k ps 12 ((w.alloc (.cells #[.string ware,.int .i64 lim,.int .i64 by_,.slice A n k] 24))) a4.out hn _ HF.out
 have HC:=hid hc;clear hc
 go_wp2_with fail
 refine HC.out.mono ?_
 rintro e b3 ⟨rfl,hb⟩
 clear HC
 clear a9 b0 b1 b2
 have a3:=hid hb
 clear hb
 replace a0:=kH a0 a3
 obtain ⟨a5,a6,a7,a8⟩:=at4 a0
 have hc:=told_any (b3)
 have HC:=hid hc;clear hc
 go_wp2_with fail
 refine HC.out.mono ?_
 rintro e b4 ⟨rfl,hb⟩
 clear HC
 clear a5 a6 a7 a8
 have a2:=hid hb
 clear hb
 replace a0:=kH a0 a2
 obtain ⟨b5,b6,b7,b8⟩:=at4 a0
 go_wp2
 go_ret
 replace a1:=bH (bH a1 a3) a2
 exact ⟨rfl,a1.out⟩
set_option maxRecDepth 100000 in
theorem wo_no (w:World) (ware:ByteArray) (lim by_:Int) (b o:Nat) (n k:Nat) (ps:List Prt) (t:Int) (hr:RdP w (some ⟨b,o,none⟩) n k ps) (hn:n≤maxLen) (hf:smlB ⟨ware,lim,by_,ps⟩ 12=true) (h0:((n:Int) == 0)=false) (hn0:0<n) (h12:n≤12) (ht0:0≤t) (ht1:t<256) (kk:Nat) (hkk:kk<n) (hrem:Int.tmod t (n:Int)=(kk:Int)) (qe:Int) (hq:chkC ⟨ware,lim,by_,ps⟩=qe) (hne:qe≠0):Calls Tryz.prog 15 #[.agg #[.string ware,.int .i64 lim,.int .i64 by_,.slice (some ⟨b,o,none⟩) n k],.int .u8 t] w fun e w'=>e=.returned (.bool true)∧Below w.heap.size w w':=by
 have hr0:=hr
 have HF:=hid hf;have HQ:=hid hq;clear hf hq
 go_enter Tryz.func15,Tryz.ntmps15
 obtain ⟨a4,a5⟩:=ent1 w #[.string ware,.int .i64 lim,.int .i64 by_,.slice (some ⟨b,o,none⟩) n k] 24
 have e8:=hid (RdP.below (hr) a5.out)
 clear hr
 obtain ⟨w1,w2,w3,w4⟩:=at4 a4
 have HR:=hid (show RdP w (some ⟨b,o,none⟩) n k ps from hr0);clear hr0
 have hc:=small_is ware lim by_ (some ⟨b,o,none⟩) n k ps 12 ((w.alloc (.cells #[.string ware,.int .i64 lim,.int .i64 by_,.slice (some ⟨b,o,none⟩) n k] 24))) e8.out hn _ HF.out
 have HC:=hid hc;clear hc
 go_wp2_with fail
 refine HC.out.mono ?_
 rintro e b7 ⟨rfl,hb⟩
 clear HC
 clear w1 w2 w3 w4
 have f9:=hid hb
 clear hb
 replace a4:=kH a4 f9
 obtain ⟨t4,t5,t6,t7⟩:=at4 a4
 clear t4 t5 t6 t7
 have hlc:=Blk.lt a4.out
 obtain ⟨t8,t9,u0,u1⟩:=at4 a4
 obtain ⟨o_,ho_⟩:∃ oQ,oQ=((.cells #[.string ware,.int .i64 lim,.int .i64 by_,.slice (some ⟨b,o,none⟩) n k] 24):Obj):=⟨_,rfl⟩
 replace a5:=bA (bH a5 f9) o_
 replace e8:=hid (RdP.alloc ((hid (RdP.below (e8.out) f9.out)).out) (o_))
 replace a4:=kA a4 o_
 subst ho_
 have b8:=hid (Blk.new b7 24 #[.string ware,.int .i64 lim,.int .i64 by_,.slice (some ⟨b,o,none⟩) n k])
 obtain ⟨u2,u3,u4,u5⟩:=at4 a4
 obtain ⟨u6,u7,u9,v0⟩:=at4 b8
 go_upto_region 5 with fail
 clear t8 t9 u0 u1 u2 u3 u4 u5 u6 u7 u9 v0
 obtain ⟨w5,hW⟩:∃ w',w'=(b7.alloc (.cells #[.string ware,.int .i64 lim,.int .i64 by_,.slice (some ⟨b,o,none⟩) n k] 24)):=⟨_,rfl⟩
 rw [← hW] at a5 e8 a4 b8
 rw [← hW]
 clear hW
 have HBC5:=hid (a4.out)
 have HBD5:=hid (b8.out)
 have HBE5:=hid (a5.out)
 have hld:=Blk.lt HBD5.out
 have hls:=HBE5.out.size
 have hcd:w.heap.size<b7.heap.size:=hlc
 have b9:=hid (Below.refl w5.heap.size w5)
 have htl:=tailP_slice b o n k kk (by omega) (by have:=HR.out.cap;omega)
 have HTL:=hid htl;clear htl
 have hhd:=headP_slice (some ⟨b,o,none⟩) n k kk (by simp) (by have:=HR.out.cap;omega)
 have HHD:=hid hhd;clear hhd
 replace a5:=bD a5
 replace a4:=kD a4
 replace b8:=kD b8
 replace b9:=bD b9
 refine wp_region_held_drew (S:=(fun W'=>Blk W' (w.heap.size) 24 #[.string ware,.int .i64 lim,.int .i64 by_,.slice (some ⟨b,o,none⟩) n k]∧Below w.heap.size w W')) (by kernel_rfl) ⟨a4.out,a5.out⟩ (fun _=>?_)
 obtain ⟨e9,d4⟩:∃ w',w'=(w5.drew):=⟨_,rfl⟩
 rw [← d4] at a5 a4 b8 b9
 rw [← d4]
 clear d4
 refine' twH 1 ⟨a4.out,a5.out⟩ ?_
 refine' tkH 2 ⟨a4.out,a5.out⟩ ?g0 ?_
 case g0=>(rintro W' ⟨hS0,hS1⟩;have hc0:=Blk.nth hS0 3;clear hS0 hS1;go_simp;try with_reducible rfl)
 refine' twH 3 ⟨a4.out,a5.out⟩ ?_
 refine' tkH 4 ⟨a4.out,a5.out⟩ ?g1 ?_
 case g1=>(rintro W' -;have hq_:=HTL.out W';go_simp;try with_reducible rfl)
 try simp only [pq]
 refine' twH 6 ⟨a4.out,a5.out⟩ ?_
 refine' tkH 7 ⟨a4.out,a5.out⟩ ?g2 ?_
 case g2=>(rintro W' ⟨hS0,hS1⟩;have hc0:=Blk.nth hS0 3;clear hS0 hS1;go_simp;try with_reducible rfl)
 refine' twH 8 ⟨a4.out,a5.out⟩ ?_
 refine' tkH 9 ⟨a4.out,a5.out⟩ ?g3 ?_
 case g3=>(rintro W' -;have hq_:=HHD.out W';go_simp;try with_reducible rfl)
 try simp only [pq]
 refine oneH 0 rfl fun K hK=>?_
 go_simp
 have b51162:=hid ((b9.out).alloc ((b9.out).size) (.cells #[] 48))
 have oq1163:=hid (ownQ_lit (w:=e9) (base:=w.heap.size) (b2:=w5.heap.size) ((b9.out).size))
 obtain ⟨z2,d5⟩:∃ g,g=(e9).heap.size:=⟨_,rfl⟩
 obtain ⟨z3,d6⟩:∃ w',w'=(e9).alloc (.cells #[] 48):=⟨_,rfl⟩
 rw [← d6] at b51162 oq1163
 rw [← d5] at oq1163
 rw [← d5,← d6]
 clear d5 d6
 have bc1164:=hid (HBC5.out.keep b51162.out)
 have bel1165:=hid (HBE5.out.trans (b51162.out.mono hls))
 refine hK.out _ _ ⟨bc1164.out,bel1165.out⟩ (fun _=>?_);clear hK K
 try simp only [pq]
 refine oneH 5 rfl fun K hK=>?_
 refine wp_appP (w0:=w) (.tmp 39) (.tmp 43) rfl (Nat.le_refl _) hls (bel1165.out) (b51162.out.size) oq1163.out rfl (RdP.tail HR.out (Nat.le_of_lt hkk)) rfl (by omega) (N:=n-kk) (by omega) ?_
 intro R1 k1 z4 oq1168 hb_
 replace oq1168:=hid oq1168
 have b51167:=hid (b51162.out.trans hb_)
 clear hb_
 have bc1169:=hid (HBC5.out.keep b51167.out)
 have bel1170:=hid (HBE5.out.trans (b51167.out.mono hls))
 refine hK.out _ _ ⟨bc1169.out,bel1170.out⟩ (fun _=>?_);clear hK K
 try simp only [pq]
 refine oneH 10 rfl fun K hK=>?_
 refine wp_appP (w0:=w) (.tmp 44) (.tmp 48) rfl (Nat.le_refl _) hls (bel1170.out) (b51167.out.size) oq1168.out rfl (RdP.head HR.out (Nat.le_of_lt hkk)) rfl (by omega) (N:=n) (by omega) ?_
 intro R2 k2 f8 oq1173 hb_
 replace oq1173:=hid oq1173
 have b51172:=hid (b51167.out.trans hb_)
 clear hb_
 have bc1174:=hid (HBC5.out.keep b51172.out)
 have bel1175:=hid (HBE5.out.trans (b51172.out.mono hls))
 refine hK.out _ _ ⟨bc1174.out,bel1175.out⟩ (fun _=>?_);clear hK K
 try simp only [pq]
 refine' twH 11 ⟨bc1174.out,bel1175.out⟩ ?_
 try simp only [pq]
 refine oneH 12 rfl fun K hK=>?_
 have hbd_:=HBD5.out.keep b51172.out
 have t1:(f8).cell? ⟨b7.heap.size,3,none⟩=some (.slice (some ⟨b,o,none⟩) n k):=Blk.cell hbd_ 3
 have t2:(f8).frozen? ⟨b7.heap.size,3,none⟩=false:=Blk.frozen hbd_ 3
 go_simp
 have bc1179:=hid (Blk.far (bc1174.out) (p:=⟨b7.heap.size,3,none⟩) (by dsimp only;omega) (.slice R2 n k2))
 have bd1180:=hid (Blk.set_ hbd_ 3 (.slice R2 n k2))
 have bel1181:=hid (Below.setCell (bel1175.out) (p:=⟨b7.heap.size,3,none⟩) (by dsimp only;omega) (.slice R2 n k2))
 have oq1182:=hid (OwnPt.out oq1173.out (b:=b7.heap.size) (j:=3) hld (Nat.le_of_lt hcd) (.slice R2 n k2))
 obtain ⟨t3,d7⟩:∃ w',w'=(f8).setCell ⟨b7.heap.size,3,none⟩ (.slice R2 n k2):=⟨_,rfl⟩
 rw [← d7] at bc1179 bd1180 bel1181 oq1182
 rw [← d7]
 clear d7 t1 t2 hbd_
 refine hK.out _ _ ⟨bc1179.out,bel1181.out⟩ (fun _=>?_);clear hK K
 try simp only [pq]
 refine wpAnyH_done (by kernel_rfl) ?_ _
 obtain ⟨g,hg9⟩:=OwnPt.addr (oq1182.out) hn0
 subst hg9
 by_cases h127:(127:Int)<t
 · have hdiv:Int.tdiv (n:Int) 2=((n / 2:Nat):Int):=by rw [Int.tdiv_eq_ediv_of_nonneg (by omega)];omega
   obtain ⟨l3,l4,l5,l6⟩:=at4 bc1179
   obtain ⟨l7,l8,l9,m0⟩:=at4 bd1180
   go_wp2
   clear l3 l4 l5 l6 l7 l8 l9 m0
   go_loopw [7] (fun i wr=>∃ (q:Nat) (L:List Prt),q≤n / 2∧i=.int .i64 q∧L.Perm (ps.drop kk++ps.take kk)∧OwnQ wr w.heap.size w5.heap.size (some ⟨g,0,none⟩) n k2 L∧Blk wr w.heap.size 24 #[.string ware,.int .i64 lim,.int .i64 by_,.slice (some ⟨b,o,none⟩) n k]∧Blk wr (b7.heap.size) 24 #[.string ware,.int .i64 lim,.int .i64 by_,.slice (some ⟨g,0,none⟩) n k2]∧Below w.heap.size w wr) (fun i _=>n / 2-(intOf i).toNat)
   case atStart=>exact ⟨0,_,Nat.zero_le _,rfl,List.Perm.refl _,oq1182.out,bc1179.out,bd1180.out,bel1181.out⟩
   case round =>
    clear bc1179 bd1180 bel1181 oq1182
    obtain ⟨q,L,hq,rfl,hpm,hoq,hbc,hbd,hbe⟩:=hrel
    have a1:=hid (hbc)
    have a0:=hid (hbd)
    have a2:=hid (hbe)
    have a3:=hid (hoq)
    clear hbc hbd hbe hoq
    by_cases hlt:q<n / 2
    · have HPM0:=hid hpm;clear hpm
      have hlt':(q:Int)<((n / 2:Nat):Int):=by omega
      obtain ⟨j,hj⟩:∃ j,j=n-1-q:=⟨_,rfl⟩
      have hjn:j<n:=by omega
      have hqn:q<n:=by omega
      have hqj:q<j:=by omega
      have hj1:(n:Int)-1-(q:Int)=(j:Int):=by omega
      clear hj
      have hj2:IntKind.i64.wrap ((n:Int)-1)=(n:Int)-1:=IntWalk.i64_in _ (by omega)
      have hj3:IntKind.i64.wrap (j:Int)=(j:Int):=IntWalk.i64_in _ (by omega)
      have hjn':(j:Int)<n:=by omega
      have hqn':(q:Int)<n:=by omega
      have hbk:=OwnPt.blk (a3.out)
      have hlen:=hbk.2.2.1
      have hg1:=hbk.1;have hg2:=hbk.2.1;clear hbk
      obtain ⟨p1,hp1⟩:∃ p,L[q]?=some p:=⟨L[q]'(by omega),List.getElem?_eq_getElem _⟩
      obtain ⟨p2,hp2⟩:∃ p,L[j]?=some p:=⟨L[j]'(by omega),List.getElem?_eq_getElem _⟩
      have HLE:=hid hlen;clear hlen
      have HP1:=hid hp1;have HP2:=hid hp2;clear hp1 hp2
      obtain ⟨x1,hx1,hf1,c0,c1,c2,c3,c4,c5,c6,c7⟩:=OwnQ.getQ (a3.out) HP1.out
      have HX1:=hid hx1;have HF1:=hid hf1;clear hx1 hf1
      obtain ⟨m1,m2,m3,m4⟩:=at4 a1
      obtain ⟨m5,m6,m7,m8⟩:=at4 a0
      obtain ⟨o_,ho_⟩:∃ oQ,oQ=((.cells #[.slice x1.A x1.n x1.c,.int .i64 p1.lo,.int .i64 p1.hi,.int .i64 p1.lb,.int .i64 p1.hb,.bool p1.ft,.int .i64 p1.fb,.slice x1.B x1.m x1.d] 48):Obj):=⟨_,rfl⟩
      replace a1:=kA a1 o_
      replace a0:=kA a0 o_
      replace a2:=bA a2 o_
      replace a3:=hid (OwnPt.alloc (a3.out) (o_))
      subst ho_
      have a9:=hid (Blk.new wr 48 #[.slice x1.A x1.n x1.c,.int .i64 p1.lo,.int .i64 p1.hi,.int .i64 p1.lb,.int .i64 p1.hb,.bool p1.ft,.int .i64 p1.fb,.slice x1.B x1.m x1.d])
      obtain ⟨m9,n0,n1,n2⟩:=at4 a1
      obtain ⟨n3,n4,n5,n6⟩:=at4 a0
      obtain ⟨n7,n8,n9,o0,o1,o2,o3,o4⟩:=at8 a9
      go_upto_region 12 with fail
      clear c0 c1 c2 c3 c4 c5 c6 c7
      clear m1 m2 m3 m4 m5 m6 m7 m8 m9 n0 n1 n2 n3 n4 n5 n6 n7 n8 n9 o0 o1 o2 o3 o4
      have HX1w:=hid (HX1.out.below ((Below.refl wr.heap.size wr).alloc (Nat.le_refl _) (.cells #[.slice x1.A x1.n x1.c,.int .i64 p1.lo,.int .i64 p1.hi,.int .i64 p1.lb,.int .i64 p1.hb,.bool p1.ft,.int .i64 p1.fb,.slice x1.B x1.m x1.d] 48)));clear HX1
      obtain ⟨w6,hW⟩:∃ w',w'=(wr.alloc (.cells #[.slice x1.A x1.n x1.c,.int .i64 p1.lo,.int .i64 p1.hi,.int .i64 p1.lb,.int .i64 p1.hb,.bool p1.ft,.int .i64 p1.fb,.slice x1.B x1.m x1.d] 48)):=⟨_,rfl⟩
      rw [← hW] at a1 a0 a2 a3 a9 HX1w
      rw [← hW]
      clear hW
      have c8:=hid (Below.refl w6.heap.size w6)
      have hgx:g<wr.heap.size:=hg2
      have hdx:b7.heap.size<wr.heap.size:=Nat.lt_of_lt_of_le hld (Nat.le_of_lt (Nat.lt_of_le_of_lt hg1 hg2))
      replace a1:=kD a1
      replace a0:=kD a0
      replace a2:=bD a2
      replace a3:=hid (OwnPt.drew (a3.out))
      replace a9:=kD a9
      replace c8:=bD c8
      refine wp_region_held_drew (S:=(fun W'=>Blk W' (b7.heap.size) 24 #[.string ware,.int .i64 lim,.int .i64 by_,.slice (some ⟨g,0,none⟩) n k2]∧Below w.heap.size w W')) (by kernel_rfl) ⟨a0.out,a2.out⟩ (fun _=>?_)
      obtain ⟨a6,d8⟩:∃ w',w'=(w6.drew):=⟨_,rfl⟩
      rw [← d8] at a1 a0 a2 a3 a9 c8
      rw [← d8]
      clear d8
      refine' twH 0 ⟨a0.out,a2.out⟩ ?_
      refine' tkH 1 ⟨a0.out,a2.out⟩ ?g4 ?_
      case g4=>(rintro W' ⟨hS0,hS1⟩;have hc0:=Blk.nth hS0 3;clear hS0 hS1;go_simp;try with_reducible rfl)
      refine' twH 2 ⟨a0.out,a2.out⟩ ?_
      refine' twH 3 ⟨a0.out,a2.out⟩ ?_
      try simp only [pq]
      refine' tkH 4 ⟨a0.out,a2.out⟩ ?g5 ?_
      case g5=>(rintro W' ⟨hS0,hS1⟩;have hc0:=Blk.nth hS0 3;clear hS0 hS1;go_simp;try with_reducible rfl)
      refine' twH 5 ⟨a0.out,a2.out⟩ ?_
      refine' twH 6 ⟨a0.out,a2.out⟩ ?_
      try simp only [pq]
      refine oneH 7 rfl fun K hK=>?_
      obtain ⟨x2,hx2,hf2,e0,e1,e2,e3,e4,e5,e6,e7⟩:=OwnQ.getQ (a3.out) HP2.out
      have HX2:=hid hx2;have HF2:=hid hf2;clear hx2 hf2
      go_simp
      clear e0 e1 e2 e3 e4 e5 e6 e7
      refine hK.out _ _ ⟨a0.out,a2.out⟩ (fun _=>?_);clear hK K
      try simp only [pq]
      refine' twH 8 ⟨a0.out,a2.out⟩ ?_
      try simp only [pq]
      refine oneH 9 rfl fun K hK=>?_
      obtain ⟨y1,-,-,e0,e1,e2,e3,e4,e5,e6,e7⟩:=OwnQ.getQ (a3.out) HP1.out
      have f0:(a6).frozen? ⟨g,q * 8,none⟩=false:=OwnPt.frozen (a3.out) _
      have f1:(a6).frozen? ⟨g,q * 8+1,none⟩=false:=OwnPt.frozen (a3.out) _
      have f2:(a6).frozen? ⟨g,q * 8+2,none⟩=false:=OwnPt.frozen (a3.out) _
      have f3:(a6).frozen? ⟨g,q * 8+3,none⟩=false:=OwnPt.frozen (a3.out) _
      have f4:(a6).frozen? ⟨g,q * 8+4,none⟩=false:=OwnPt.frozen (a3.out) _
      have f5:(a6).frozen? ⟨g,q * 8+5,none⟩=false:=OwnPt.frozen (a3.out) _
      have f6:(a6).frozen? ⟨g,q * 8+6,none⟩=false:=OwnPt.frozen (a3.out) _
      have f7:(a6).frozen? ⟨g,q * 8+7,none⟩=false:=OwnPt.frozen (a3.out) _
      go_simp
      clear e0 e1 e2 e3 e4 e5 e6 e7 f0 f1 f2 f3 f4 f5 f6 f7
      have bc1197:=hid ((Blk.far ((Blk.far ((Blk.far ((Blk.far ((Blk.far ((Blk.far ((Blk.far ((Blk.far (a1.out) (p:=⟨g,q * 8,none⟩) (by dsimp only;omega) (.slice x2.A x2.n x2.c))) (p:=⟨g,q * 8+1,none⟩) (by dsimp only;omega) (.int .i64 p2.lo))) (p:=⟨g,q * 8+2,none⟩) (by dsimp only;omega) (.int .i64 p2.hi))) (p:=⟨g,q * 8+3,none⟩) (by dsimp only;omega) (.int .i64 p2.lb))) (p:=⟨g,q * 8+4,none⟩) (by dsimp only;omega) (.int .i64 p2.hb))) (p:=⟨g,q * 8+5,none⟩) (by dsimp only;omega) (.bool p2.ft))) (p:=⟨g,q * 8+6,none⟩) (by dsimp only;omega) (.int .i64 p2.fb))) (p:=⟨g,q * 8+7,none⟩) (by dsimp only;omega) (.slice x2.B x2.m x2.d)))
      have bd1198:=hid ((Blk.far ((Blk.far ((Blk.far ((Blk.far ((Blk.far ((Blk.far ((Blk.far ((Blk.far (a0.out) (p:=⟨g,q * 8,none⟩) (by dsimp only;omega) (.slice x2.A x2.n x2.c))) (p:=⟨g,q * 8+1,none⟩) (by dsimp only;omega) (.int .i64 p2.lo))) (p:=⟨g,q * 8+2,none⟩) (by dsimp only;omega) (.int .i64 p2.hi))) (p:=⟨g,q * 8+3,none⟩) (by dsimp only;omega) (.int .i64 p2.lb))) (p:=⟨g,q * 8+4,none⟩) (by dsimp only;omega) (.int .i64 p2.hb))) (p:=⟨g,q * 8+5,none⟩) (by dsimp only;omega) (.bool p2.ft))) (p:=⟨g,q * 8+6,none⟩) (by dsimp only;omega) (.int .i64 p2.fb))) (p:=⟨g,q * 8+7,none⟩) (by dsimp only;omega) (.slice x2.B x2.m x2.d)))
      have bx1199:=hid ((Blk.far ((Blk.far ((Blk.far ((Blk.far ((Blk.far ((Blk.far ((Blk.far ((Blk.far (a9.out) (p:=⟨g,q * 8,none⟩) (by dsimp only;omega) (.slice x2.A x2.n x2.c))) (p:=⟨g,q * 8+1,none⟩) (by dsimp only;omega) (.int .i64 p2.lo))) (p:=⟨g,q * 8+2,none⟩) (by dsimp only;omega) (.int .i64 p2.hi))) (p:=⟨g,q * 8+3,none⟩) (by dsimp only;omega) (.int .i64 p2.lb))) (p:=⟨g,q * 8+4,none⟩) (by dsimp only;omega) (.int .i64 p2.hb))) (p:=⟨g,q * 8+5,none⟩) (by dsimp only;omega) (.bool p2.ft))) (p:=⟨g,q * 8+6,none⟩) (by dsimp only;omega) (.int .i64 p2.fb))) (p:=⟨g,q * 8+7,none⟩) (by dsimp only;omega) (.slice x2.B x2.m x2.d)))
      have bel1200:=hid ((Below.setCell ((Below.setCell ((Below.setCell ((Below.setCell ((Below.setCell ((Below.setCell ((Below.setCell ((Below.setCell (a2.out) (p:=⟨g,q * 8,none⟩) (by dsimp only;omega) (.slice x2.A x2.n x2.c))) (p:=⟨g,q * 8+1,none⟩) (by dsimp only;omega) (.int .i64 p2.lo))) (p:=⟨g,q * 8+2,none⟩) (by dsimp only;omega) (.int .i64 p2.hi))) (p:=⟨g,q * 8+3,none⟩) (by dsimp only;omega) (.int .i64 p2.lb))) (p:=⟨g,q * 8+4,none⟩) (by dsimp only;omega) (.int .i64 p2.hb))) (p:=⟨g,q * 8+5,none⟩) (by dsimp only;omega) (.bool p2.ft))) (p:=⟨g,q * 8+6,none⟩) (by dsimp only;omega) (.int .i64 p2.fb))) (p:=⟨g,q * 8+7,none⟩) (by dsimp only;omega) (.slice x2.B x2.m x2.d)))
      have oq1201:Hid (OwnQ (((((((((a6).setCell ⟨g,q * 8,none⟩ (.slice x2.A x2.n x2.c)).setCell ⟨g,q * 8+1,none⟩ (.int .i64 p2.lo)).setCell ⟨g,q * 8+2,none⟩ (.int .i64 p2.hi)).setCell ⟨g,q * 8+3,none⟩ (.int .i64 p2.lb)).setCell ⟨g,q * 8+4,none⟩ (.int .i64 p2.hb)).setCell ⟨g,q * 8+5,none⟩ (.bool p2.ft)).setCell ⟨g,q * 8+6,none⟩ (.int .i64 p2.fb)).setCell ⟨g,q * 8+7,none⟩ (.slice x2.B x2.m x2.d)) w.heap.size w5.heap.size (some ⟨g,0,none⟩) n k2 (L.set q p2)):=hid (OwnQ.set8 hls (a3.out) hqn HX2.out HF2.out)
      have hx11202:Hid (x1.ok (((((((((a6).setCell ⟨g,q * 8,none⟩ (.slice x2.A x2.n x2.c)).setCell ⟨g,q * 8+1,none⟩ (.int .i64 p2.lo)).setCell ⟨g,q * 8+2,none⟩ (.int .i64 p2.hi)).setCell ⟨g,q * 8+3,none⟩ (.int .i64 p2.lb)).setCell ⟨g,q * 8+4,none⟩ (.int .i64 p2.hb)).setCell ⟨g,q * 8+5,none⟩ (.bool p2.ft)).setCell ⟨g,q * 8+6,none⟩ (.int .i64 p2.fb)).setCell ⟨g,q * 8+7,none⟩ (.slice x2.B x2.m x2.d)) p1):=hid (ok_set8 (HF1.out g (by omega)) (HX1w.out.below (c8.out)) (q * 8) (.slice x2.A x2.n x2.c) (.int .i64 p2.lo) (.int .i64 p2.hi) (.int .i64 p2.lb) (.int .i64 p2.hb) (.bool p2.ft) (.int .i64 p2.fb) (.slice x2.B x2.m x2.d))
      obtain ⟨a8,d9⟩:∃ w',w'=(((((((((a6).setCell ⟨g,q * 8,none⟩ (.slice x2.A x2.n x2.c)).setCell ⟨g,q * 8+1,none⟩ (.int .i64 p2.lo)).setCell ⟨g,q * 8+2,none⟩ (.int .i64 p2.hi)).setCell ⟨g,q * 8+3,none⟩ (.int .i64 p2.lb)).setCell ⟨g,q * 8+4,none⟩ (.int .i64 p2.hb)).setCell ⟨g,q * 8+5,none⟩ (.bool p2.ft)).setCell ⟨g,q * 8+6,none⟩ (.int .i64 p2.fb)).setCell ⟨g,q * 8+7,none⟩ (.slice x2.B x2.m x2.d)):=⟨_,rfl⟩
      rw [← d9] at bc1197 bd1198 bx1199 bel1200 oq1201 hx11202
      rw [← d9]
      clear d9 HX1w HX2
      have HX1:=hx11202;clear hx11202
      refine hK.out _ _ ⟨bd1198.out,bel1200.out⟩ (fun _=>?_);clear hK K
      try simp only [pq]
      refine wpAnyH_done (by kernel_rfl) ?_ _
      obtain ⟨y2,-,-,e0,e1,e2,e3,e4,e5,e6,e7⟩:=OwnQ.getQ (oq1201.out) (q:=j) (p:=p2) (by rw [List.getElem?_set_ne (by omega)];exact HP2.out)
      have f0:(a8).frozen? ⟨g,j * 8,none⟩=false:=OwnPt.frozen (oq1201.out) _
      have f1:(a8).frozen? ⟨g,j * 8+1,none⟩=false:=OwnPt.frozen (oq1201.out) _
      have f2:(a8).frozen? ⟨g,j * 8+2,none⟩=false:=OwnPt.frozen (oq1201.out) _
      have f3:(a8).frozen? ⟨g,j * 8+3,none⟩=false:=OwnPt.frozen (oq1201.out) _
      have f4:(a8).frozen? ⟨g,j * 8+4,none⟩=false:=OwnPt.frozen (oq1201.out) _
      have f5:(a8).frozen? ⟨g,j * 8+5,none⟩=false:=OwnPt.frozen (oq1201.out) _
      have f6:(a8).frozen? ⟨g,j * 8+6,none⟩=false:=OwnPt.frozen (oq1201.out) _
      have f7:(a8).frozen? ⟨g,j * 8+7,none⟩=false:=OwnPt.frozen (oq1201.out) _
      obtain ⟨w7,w8,w9,x0⟩:=at4 bd1198
      obtain ⟨x3,x4,x5,x6,x7,x8,x9,y0⟩:=at8 bx1199
      have HOQ:=hid (show OwnQ (((((((((a8).setCell ⟨g,j * 8,none⟩ (.slice x1.A x1.n x1.c)).setCell ⟨g,j * 8+1,none⟩ (.int .i64 p1.lo)).setCell ⟨g,j * 8+2,none⟩ (.int .i64 p1.hi)).setCell ⟨g,j * 8+3,none⟩ (.int .i64 p1.lb)).setCell ⟨g,j * 8+4,none⟩ (.int .i64 p1.hb)).setCell ⟨g,j * 8+5,none⟩ (.bool p1.ft)).setCell ⟨g,j * 8+6,none⟩ (.int .i64 p1.fb)).setCell ⟨g,j * 8+7,none⟩ (.slice x1.B x1.m x1.d)) w.heap.size w5.heap.size (some ⟨g,0,none⟩) n k2 ((L.set q p2).set j p1) from OwnQ.set8 hls (oq1201.out) hjn HX1.out HF1.out)
      have Qbc:=hid ((Blk.far ((Blk.far ((Blk.far ((Blk.far ((Blk.far ((Blk.far ((Blk.far ((Blk.far (bc1197.out) (p:=⟨g,j * 8,none⟩) (by dsimp only;omega) (.slice x1.A x1.n x1.c))) (p:=⟨g,j * 8+1,none⟩) (by dsimp only;omega) (.int .i64 p1.lo))) (p:=⟨g,j * 8+2,none⟩) (by dsimp only;omega) (.int .i64 p1.hi))) (p:=⟨g,j * 8+3,none⟩) (by dsimp only;omega) (.int .i64 p1.lb))) (p:=⟨g,j * 8+4,none⟩) (by dsimp only;omega) (.int .i64 p1.hb))) (p:=⟨g,j * 8+5,none⟩) (by dsimp only;omega) (.bool p1.ft))) (p:=⟨g,j * 8+6,none⟩) (by dsimp only;omega) (.int .i64 p1.fb))) (p:=⟨g,j * 8+7,none⟩) (by dsimp only;omega) (.slice x1.B x1.m x1.d)))
      have Qbd:=hid ((Blk.far ((Blk.far ((Blk.far ((Blk.far ((Blk.far ((Blk.far ((Blk.far ((Blk.far (bd1198.out) (p:=⟨g,j * 8,none⟩) (by dsimp only;omega) (.slice x1.A x1.n x1.c))) (p:=⟨g,j * 8+1,none⟩) (by dsimp only;omega) (.int .i64 p1.lo))) (p:=⟨g,j * 8+2,none⟩) (by dsimp only;omega) (.int .i64 p1.hi))) (p:=⟨g,j * 8+3,none⟩) (by dsimp only;omega) (.int .i64 p1.lb))) (p:=⟨g,j * 8+4,none⟩) (by dsimp only;omega) (.int .i64 p1.hb))) (p:=⟨g,j * 8+5,none⟩) (by dsimp only;omega) (.bool p1.ft))) (p:=⟨g,j * 8+6,none⟩) (by dsimp only;omega) (.int .i64 p1.fb))) (p:=⟨g,j * 8+7,none⟩) (by dsimp only;omega) (.slice x1.B x1.m x1.d)))
      have Qbel:=hid ((Below.setCell ((Below.setCell ((Below.setCell ((Below.setCell ((Below.setCell ((Below.setCell ((Below.setCell ((Below.setCell (bel1200.out) (p:=⟨g,j * 8,none⟩) (by dsimp only;omega) (.slice x1.A x1.n x1.c))) (p:=⟨g,j * 8+1,none⟩) (by dsimp only;omega) (.int .i64 p1.lo))) (p:=⟨g,j * 8+2,none⟩) (by dsimp only;omega) (.int .i64 p1.hi))) (p:=⟨g,j * 8+3,none⟩) (by dsimp only;omega) (.int .i64 p1.lb))) (p:=⟨g,j * 8+4,none⟩) (by dsimp only;omega) (.int .i64 p1.hb))) (p:=⟨g,j * 8+5,none⟩) (by dsimp only;omega) (.bool p1.ft))) (p:=⟨g,j * 8+6,none⟩) (by dsimp only;omega) (.int .i64 p1.fb))) (p:=⟨g,j * 8+7,none⟩) (by dsimp only;omega) (.slice x1.B x1.m x1.d)))
      go_wp2
      go_roundw
      case rel=>exact ⟨q+1,(L.set q p2).set j p1,by omega,by go_num,(swap_perm HP1.out HP2.out).trans HPM0.out,HOQ.out,Qbc.out,Qbd.out,Qbel.out⟩
      case measure=>simp [intOf];omega
    · have hqe:¬ (q:Int)<((n / 2:Nat):Int):=by omega
      have HPM:=hid (hpm.trans (rot_perm ps kk))
      clear hpm
      have hrd9:=OwnPt.rd a3.out
      have b0:=hid (hrd9)
      clear hrd9
      clear a3
      have HRC:=hid (HR.out.below a2.out)
      obtain ⟨o5,o6,o7,o8⟩:=at4 a1
      obtain ⟨o9,p0,p3,p4⟩:=at4 a0
      have HQD:=hid ((chk_perm (ware:=ware) (lim:=lim) (by_:=by_) HPM.out.symm).trans HQ.out)
      have hc:=Least_no ware lim by_ (some ⟨b,o,none⟩) n k ps (wr) HRC.out hn qe HQ.out hne
      have HC:=hid hc;clear hc
      go_wp2_with fail
      refine HC.out.mono ?_
      rintro e p5 ⟨rfl,hb⟩
      clear HC
      clear o5 o6 o7 o8 o9 p0 p3 p4
      have b4:=hid hb
      clear hb
      replace a1:=kH a1 b4
      obtain ⟨p6,p7,p8,p9⟩:=at4 a1
      replace a0:=kH a0 b4
      obtain ⟨q0,q1,q2,q3⟩:=at4 a0
      replace b0:=hid (RdP.below (b0.out) b4.out)
      have hc:=Least_no ware lim by_ (some ⟨g,0,none⟩) n k2 L (p5) b0.out hn qe HQD.out hne
      have HC:=hid hc;clear hc
      go_wp2_with fail
      refine HC.out.mono ?_
      rintro e q4 ⟨rfl,hb⟩
      clear HC
      clear p6 p7 p8 p9 q0 q1 q2 q3
      have b5:=hid hb
      clear hb
      replace a1:=kH a1 b5
      obtain ⟨q5,q6,q7,q8⟩:=at4 a1
      replace a0:=kH a0 b5
      obtain ⟨q9,r0,r1,r2⟩:=at4 a0
      replace HRC:=hid (RdP.below (RdP.below (HRC.out) b4.out) b5.out)
      have hc:=Numbers_no ware lim by_ (some ⟨b,o,none⟩) n k ps (q4) HRC.out hn qe HQ.out hne
      have HC:=hid hc;clear hc
      go_wp2_with fail
      refine HC.out.mono ?_
      rintro e r3 ⟨rfl,hb⟩
      clear HC
      clear q5 q6 q7 q8 q9 r0 r1 r2
      have c9:=hid hb
      clear hb
      replace a1:=kH a1 c9
      obtain ⟨r4,r5,r6,r7⟩:=at4 a1
      replace a0:=kH a0 c9
      obtain ⟨r8,r9,s0,s1⟩:=at4 a0
      replace b0:=hid (RdP.below (RdP.below (b0.out) b5.out) c9.out)
      have hc:=Numbers_no ware lim by_ (some ⟨g,0,none⟩) n k2 L (r3) b0.out hn qe HQD.out hne
      have HC:=hid hc;clear hc
      go_wp2_with fail
      refine HC.out.mono ?_
      rintro e s2 ⟨rfl,hb⟩
      clear HC
      clear r4 r5 r6 r7 r8 r9 s0 s1
      have d2:=hid hb
      clear hb
      replace a1:=kH a1 d2
      obtain ⟨s3,s4,s5,s6⟩:=at4 a1
      replace a0:=kH a0 d2
      obtain ⟨s7,s8,s9,t0⟩:=at4 a0
      have hc:=told_any (s2)
      have HC:=hid hc;clear hc
      go_wp2_with fail
      refine HC.out.mono ?_
      rintro e y3 ⟨rfl,hb⟩
      clear HC
      clear s3 s4 s5 s6 s7 s8 s9 t0
      have d3:=hid hb
      clear hb
      replace a1:=kH a1 d3
      obtain ⟨y4,y5,y6,y7⟩:=at4 a1
      replace a0:=kH a0 d3
      obtain ⟨y8,y9,z0,z1⟩:=at4 a0
      go_wp2
      go_ret
      replace a2:=bH (bH (bH (bH (bH a2 b4) b5) c9) d2) d3
      exact ⟨rfl,a2.out⟩
 · have hpm:((ps.drop kk++ps.take kk)).Perm (ps.drop kk++ps.take kk):=List.Perm.refl _
   have HPM:=hid (hpm.trans (rot_perm ps kk))
   clear hpm
   have hrd9:=OwnPt.rd oq1182.out
   have a7:=hid (hrd9)
   clear hrd9
   clear oq1182
   have HRC:=hid (HR.out.below bel1181.out)
   obtain ⟨g6,g7,g8,g9⟩:=at4 bc1179
   obtain ⟨h1,h2,h3,h4⟩:=at4 bd1180
   have HQD:=hid ((chk_perm (ware:=ware) (lim:=lim) (by_:=by_) HPM.out.symm).trans HQ.out)
   have hc:=Least_no ware lim by_ (some ⟨b,o,none⟩) n k ps (t3) HRC.out hn qe HQ.out hne
   have HC:=hid hc;clear hc
   go_wp2_with fail
   refine HC.out.mono ?_
   rintro e h5 ⟨rfl,hb⟩
   clear HC
   clear g6 g7 g8 g9 h1 h2 h3 h4
   have b1:=hid hb
   clear hb
   replace bc1179:=kH bc1179 b1
   obtain ⟨h6,h7,h8,h9⟩:=at4 bc1179
   replace bd1180:=kH bd1180 b1
   obtain ⟨i0,i1,i2,i3⟩:=at4 bd1180
   replace a7:=hid (RdP.below (a7.out) b1.out)
   have hc:=Least_no ware lim by_ (some ⟨g,0,none⟩) n k2 (ps.drop kk++ps.take kk) (h5) a7.out hn qe HQD.out hne
   have HC:=hid hc;clear hc
   go_wp2_with fail
   refine HC.out.mono ?_
   rintro e i4 ⟨rfl,hb⟩
   clear HC
   clear h6 h7 h8 h9 i0 i1 i2 i3
   have b3:=hid hb
   clear hb
   replace bc1179:=kH bc1179 b3
   obtain ⟨i5,i6,i7,i8⟩:=at4 bc1179
   replace bd1180:=kH bd1180 b3
   obtain ⟨i9,j0,j1,j2⟩:=at4 bd1180
   replace HRC:=hid (RdP.below (RdP.below (HRC.out) b1.out) b3.out)
   have hc:=Numbers_no ware lim by_ (some ⟨b,o,none⟩) n k ps (i4) HRC.out hn qe HQ.out hne
   have HC:=hid hc;clear hc
   go_wp2_with fail
   refine HC.out.mono ?_
   rintro e j3 ⟨rfl,hb⟩
   clear HC
   clear i5 i6 i7 i8 i9 j0 j1 j2
   have b6:=hid hb
   clear hb
   replace bc1179:=kH bc1179 b6
   obtain ⟨j4,j5,j6,j7⟩:=at4 bc1179
   replace bd1180:=kH bd1180 b6
   obtain ⟨j8,j9,k0,k3⟩:=at4 bd1180
   replace a7:=hid (RdP.below (RdP.below (a7.out) b3.out) b6.out)
   have hc:=Numbers_no ware lim by_ (some ⟨g,0,none⟩) n k2 (ps.drop kk++ps.take kk) (j3) a7.out hn qe HQD.out hne
   have HC:=hid hc;clear hc
   go_wp2_with fail
   refine HC.out.mono ?_
   rintro e k4 ⟨rfl,hb⟩
   clear HC
   clear j4 j5 j6 j7 j8 j9 k0 k3
   have d0:=hid hb
   clear hb
   replace bc1179:=kH bc1179 d0
   obtain ⟨k5,k6,k7,k8⟩:=at4 bc1179
   replace bd1180:=kH bd1180 d0
   obtain ⟨k9,l0,l1,l2⟩:=at4 bd1180
   have hc:=told_any (k4)
   have HC:=hid hc;clear hc
   go_wp2_with fail
   refine HC.out.mono ?_
   rintro e v1 ⟨rfl,hb⟩
   clear HC
   clear k5 k6 k7 k8 k9 l0 l1 l2
   have d1:=hid hb
   clear hb
   replace bc1179:=kH bc1179 d1
   obtain ⟨v2,v3,v4,v5⟩:=at4 bc1179
   replace bd1180:=kH bd1180 d1
   obtain ⟨v6,v7,v8,v9⟩:=at4 bd1180
   go_wp2
   go_ret
   replace bel1181:=bH (bH (bH (bH (bH bel1181 b1) b3) b6) d0) d1
   exact ⟨rfl,bel1181.out⟩
end Go.Proofs.YtokpblmgdmokoaaGreat
