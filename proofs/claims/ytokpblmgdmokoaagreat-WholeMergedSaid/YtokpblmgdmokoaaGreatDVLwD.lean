/- WholeMerged holds: for every case, two parts and list it returns true. No condition. -/
import Derived.Test.YtokpblmgdmokoaaGreatRows
import Derived.Test.YtokpblmgdmokoaaGreatDVLwC
import Derived.Test.YtokpblmgdmokoaaGreatDVOpn
set_option maxHeartbeats 4000000
set_option linter.unusedSimpArgs false
set_option linter.unusedVariables false
namespace Go.Proofs.YtokpblmgdmokoaaGreat
open Go.Lib (hid)
open Go.ChangeShapes Go.WideShapes Go.ChangeAt Go.RowKit
set_option maxRecDepth 100000 in
theorem wm_ab (w:World) (ware:ByteArray) (lim by_:Int) (A:Option Addr) (n k:Nat) (ps:List Prt) (B:Option Addr) (m d:Nat) (l:List Int) (hr:RdP w A n k ps) (hn:n≤maxLen) (hl:RdI w B m d l) (hm:m≤maxLen) (hf:smlB ⟨ware,lim,by_,ps⟩ 12=true) (h60:¬ (60:Int)<m) (a b:Nat) (hq:askP2 ⟨ware,lim,by_,ps⟩ (a:Int) (b:Int)=0) (hcl:clN ps a b=false) (hbg:(mrgP (ps.getD (min a b) default) (ps.getD (max a b) default)).sh.length≤40∧(mrgP (ps.getD (min a b) default) (ps.getD (max a b) default)).rs.length≤200) (hv:isAB (jntL ps a b) lim l=true) (hlo:a<b):Calls Tryz.prog 14 #[.agg #[.string ware,.int .i64 lim,.int .i64 by_,.slice A n k],.int .i64 a,.int .i64 b,.slice B m d] w fun e w'=>e=.returned (.bool true)∧Below w.heap.size w w':=by
 have hpl:=hr.len
 obtain ⟨hck,ha,hb,hab⟩:=askP2_ok hq
 dsimp only at ha hb
 rw [hpl] at ha hb
 have h12:n≤12:=by have:=hf;unfold smlB at this;rw [Bool.and_eq_true,decide_eq_true_eq] at this;have:=this.2;dsimp only at this;omega
 have h20:n<20:=by omega
 have h203:n-1<20:=by omega
 have hn3:n-1≤maxLen:=by unfold maxLen;omega
 have hxm:max a b<n:=by omega
 have HQD:=hid (chk_jnt (ware:=ware) (lim:=lim) (by_:=by_) hpl ha hb hab hcl hck hbg.1 hbg.2)
 have hw1:∀ p∈ps,p.lo≤p.hi:=fun p hp=>(prtB_ok ((chkC_ok hck).2.2.2.2.2.1 p hp)).2.2.2.2.1
 have hw2:∀ p∈jntL ps a b,p.lo≤p.hi:=fun p hp=>(prtB_ok ((chkC_ok HQD.out).2.2.2.2.2.1 p hp)).2.2.2.2.1
 have g1:=ves_least hw1 (jnt_more hpl ha hb hab hcl (ves_col (jntL ps a b)))
 have g2:=ves_least hw2 (jnt_one hpl ha hb hab (ves_col ps))
 have g3:=(vesL_ok hpl).1
 obtain ⟨i0,hi0,hz0,hz1,hz2⟩:=info_parts infoIv
 have HI:=hid hi0;have HZ0:=hid hz0;have HZ1:=hid hz1;have HZ2:=hid hz2;clear hi0 hz0 hz1 hz2
 obtain ⟨N1,hN1⟩:∃ v,(vesL ps).length=v:=⟨_,rfl⟩
 obtain ⟨N2,hN2⟩:∃ v,(vesL (jntL ps a b)).length=v:=⟨_,rfl⟩
 rw [hN1,hN2] at g1 g2
 rw [hN1] at g3
 have y1:¬ ((N2:Int)<(N1:Int)):=by omega
 have y2:¬ ((N1:Int)+1<(N2:Int)):=by omega
 have y3:IntKind.i64.wrap ((N1:Int)+1)=(N1:Int)+1:=IntWalk.i64_in _ (by omega)
 have HF:=hid hf;have HQ:=hid hq;have HQC:=hid hck;have HN1:=hid hN1;have HN2:=hid hN2;have HBG:=hid hbg;have HCL:=hid hcl;have HAB:=hid hv
 have hv2:=merged_assign hpl ha hb hab hcl hv
 have hmn:=hv2.1;rw [hl.len] at hmn
 have hmn1:n≤m+1:=by omega
 have hmn2:m+1≤n:=by omega
 have HALL:=hid (show isAB ps lim (allV l a b n)=true by have:=hv2.2;rwa [show min a b=a by omega,show max a b=b by omega] at this);clear hv2
 have y4:((m:Int) != (n:Int)-1)=false:=by rw [bne_eq_false_iff_eq];omega
 have y5:IntKind.i64.wrap ((n:Int)-1)=(n:Int)-1:=IntWalk.i64_in _ (by omega)
 clear hmn
 have y6:min (a:Int) (b:Int)=(a:Int):=by omega
 have y7:max (a:Int) (b:Int)=(b:Int):=by omega
 clear hf hq hck hN1 hN2 hbg hcl hv hw1 hw2 g1 g2 hpl
 go_enter Tryz.func14,Tryz.ntmps14
 obtain ⟨a0,a5⟩:=ent1 w #[.string ware,.int .i64 lim,.int .i64 by_,.slice A n k] 24
 have a3:=hid (RdP.below (hr) a5.out)
 have a6:=iI hl a5
 clear hr hl
 obtain ⟨h3,h4,h5,h6⟩:=at4 a0
 have hc:=small_is ware lim by_ A n k ps 12 ((w.alloc (.cells #[.string ware,.int .i64 lim,.int .i64 by_,.slice A n k] 24))) a3.out hn _ HF.out
 have HC:=hid hc;clear hc
 go_wp2_with fail
 refine HC.out.mono ?_
 rintro e h7 ⟨rfl,hb⟩
 clear HC
 clear h3 h4 h5 h6
 have b2:=hid hb
 clear hb
 replace a0:=kH a0 b2
 obtain ⟨d1,d2,d3,d4⟩:=at4 a0
 replace a3:=hid (RdP.below (a3.out) b2.out)
 have hc:=Merge_yes ware lim by_ A n k ps a b (h7) a3.out hn HQ.out HCL.out HBG.out
 have HC:=hid hc;clear hc
 go_wp2_with fail
 refine HC.out.mono ?_
 rintro e b6 ⟨⟨R,k1,rfl,hopt⟩,hb⟩
 clear HC
 clear d1 d2 d3 d4
 have b3:=hid hb
 clear hb
 have hrd2:=OwnPt.rd hopt
 have a1:=hid (hrd2)
 clear hrd2 hopt
 obtain ⟨o_,ho_⟩:∃ o,o=((.cells #[.string ware,.int .i64 lim,.int .i64 by_,.slice R (n-1) k1] 24):Obj):=⟨_,rfl⟩
 replace a5:=bA (bH (bH a5 b2) b3) o_
 replace a3:=hid (RdP.alloc ((hid (RdP.below (a3.out) b3.out)).out) (o_))
 replace a6:=iA (iH (iH a6 b2) b3) o_
 replace a0:=kA (kH a0 b3) o_
 replace a1:=hid (RdP.alloc (a1.out) (o_))
 subst ho_
 have a2:=hid (Blk.new b6 24 #[.string ware,.int .i64 lim,.int .i64 by_,.slice R (n-1) k1])
 obtain ⟨d5,d6,d7,d8⟩:=at4 a0
 obtain ⟨d9,e1,e2,e3⟩:=at4 a2
 have hc:=Least_yes ware lim by_ A n k ps ((b6.alloc (.cells #[.string ware,.int .i64 lim,.int .i64 by_,.slice R (n-1) k1] 24))) a3.out hn HQC.out h20
 rw [HN1.out] at hc
 try dsimp only at hc
 have HC:=hid hc;clear hc
 go_wp2_with fail
 refine HC.out.mono ?_
 rintro e e4 ⟨rfl,hb⟩
 clear HC
 clear d5 d6 d7 d8 d9 e1 e2 e3
 have a7:=hid hb
 clear hb
 replace a0:=kH a0 a7
 obtain ⟨e5,e6,e7,e8⟩:=at4 a0
 replace a2:=kH a2 a7
 obtain ⟨e9,f0,f1,f2⟩:=at4 a2
 replace a1:=hid (RdP.below (a1.out) a7.out)
 have hc:=Least_yes ware lim by_ R (n-1) k1 (jntL ps a b) (e4) a1.out hn3 HQD.out h203
 rw [HN2.out] at hc
 try dsimp only at hc
 have HC:=hid hc;clear hc
 go_wp2_with fail
 refine HC.out.mono ?_
 rintro e f3 ⟨rfl,hb⟩
 clear HC
 clear e5 e6 e7 e8 e9 f0 f1 f2
 have a8:=hid hb
 clear hb
 replace a0:=kH a0 a8
 obtain ⟨f4,f5,f6,f7⟩:=at4 a0
 replace a2:=kH a2 a8
 obtain ⟨f8,f9,g0,g4⟩:=at4 a2
 replace a1:=hid (RdP.below (a1.out) a8.out)
 replace a6:=iH (iH a6 a7) a8
 have hc:=CheckAssign_yes ware lim by_ R (n-1) k1 (jntL ps a b) B m d l (f3) a1.out a6.out hn3 hm HQD.out
 rw [HAB.out] at hc
 try dsimp only at hc
 have HC:=hid hc;clear hc
 go_wp2_with fail
 refine HC.out.mono ?_
 rintro e b0 ⟨rfl,hb⟩
 clear HC
 clear f4 f5 f6 f7 f8 f9 g0 g4
 have a9:=hid hb
 clear hb
 replace a0:=kH a0 a9
 obtain ⟨g5,g6,g7,g8⟩:=at4 a0
 replace a2:=kH a2 a9
 obtain ⟨g9,h0,h1,h2⟩:=at4 a2
 go_wp2
 clear g5 g6 g7 g8 g9 h0 h1 h2
 replace a3:=hid (RdP.below (RdP.below (RdP.below (a3.out) a7.out) a8.out) a9.out)
 have HR1:=hid (a3.out)
 replace a6:=iH a6 a9
 have HL1:=hid (a6.out)
 have HBC1:=hid (a0.out)
 replace a5:=bH (bH (bH a5 a7) a8) a9
 have HBE1:=hid (a5.out)
 clear a5 a3 a6 a0 a1 a2
 go_loopw [17,20] (fun s17 s20 wr=>∃ (q:Nat) (V:Value),s17=V∧s20=.int .i64 q∧q≤n∧wr.ownsRow b0.heap.size 3 1 V (allV l a b q).length ((allV l a b q).map (Value.int .i64))∧Below b0.heap.size b0 wr) (fun _ s20 _=>n-(intOf s20).toNat)
 case atStart=>exact ⟨0,_,rfl,rfl,Nat.zero_le _,World.ownsRow_nil _ _ _ _,Below.refl _ _⟩
 case round =>
  obtain ⟨q,V,hV,rfl,hq,hown,hb⟩:=hrel
  replace hV:=hV.symm
  subst hV
  have HOW:=hid hown;have HB:=hid hb;clear hown hb
  have hlen0:(allV l a b q).length=q:=by unfold allV;simp
  have HLEN:=hid hlen0;have hlen:=Nat.le_of_eq hlen0;clear hlen0
  by_cases hlt:q<n
  · have hlt':(q:Int)<n:=by omega
    have hszr:=HB.out.size
    have b7:=hid (HBC1.out.keep HB.out)
    obtain ⟨h8,h9,i1,i2⟩:=at4 b7
    rcases Nat.lt_trichotomy q b with hqh|hqh|hqh
    · have x1:((q:Int) == (b:Int))=false:=by rw [beq_eq_false_iff_ne];omega
      have x2:¬ ((b:Int)<(q:Int)):=by omega
      have x3:(q:Int)<m:=by omega
      obtain ⟨b9,o9,u,rfl,hb9,hv,e0⟩:=RdI.get (HL1.out.below HB.out) (k:=q) (by omega)
      have HS2:=hid (show (allV l a b (q+1))=(allV l a b q)++[u] by rw [allV_succ];congr 1;rw [show tau a b q=q by unfold tau;rw [if_neg (by omega),if_neg (by omega)],List.getD_eq_getElem?_getD,hv];rfl)
      clear hv
      have OW:=hid (HOW.out.alloc (.cells #[.int .i64 u] 3));have N1:=hid (Blk.new wr 3 #[.int .i64 u]);have hbb:=hid (HB.out.alloc HB.out.size (.cells #[.int .i64 u] 3))
      go_wp2_with (at_builtin;refine wpList_append_own _ rfl (.tmp 106) (.tmp 111) 30 rfl (b0.heap.size) 3 i0 _ 1 8 Tryz.underlying30 HI.out HZ0.out HZ1.out HZ2.out rfl (by omega) V _ _ rfl OW.out ⟨wr.heap.size,0,none⟩ 1 1 [.int .i64 u] rfl rfl (fun j u hu=>by rw [Addr.add_lit,Nat.zero_add,N1.out.cell];simpa using hu) (by simp [Value.oneCell']) (by unfold maxLen;omega) (by omega) (by simp;omega) ?_;intro v' w4 hown4 hg4 _;have HO4:=hid hown4;have HG4:=hid (show World.grownBy _ w4 V.ownBlock from hg4);clear hown4 hg4)
      go_roundw
      case rel=>exact ⟨q+1,_,rfl,by go_num,by omega,(by rw [HS2.out];simpa using HO4.out),hbb.out.grown HG4.out hbb.out.size (fun r e=>(OW.out.lt r e).1)⟩
      case measure=>simp [intOf];omega
    · have x1:((q:Int) == (b:Int))=true:=by rw [beq_iff_eq];omega
      have x3:(a:Int)<m:=by omega
      obtain ⟨b9,o9,u,rfl,hb9,hv,e0⟩:=RdI.get (HL1.out.below HB.out) (k:=a) (by omega)
      have HS2:=hid (show (allV l a b (q+1))=(allV l a b q)++[u] by rw [allV_succ];congr 1;rw [show tau a b q=a by unfold tau;rw [if_pos hqh],List.getD_eq_getElem?_getD,hv];rfl)
      clear hv
      have OW:=hid (HOW.out.alloc (.cells #[.int .i64 u] 3));have N1:=hid (Blk.new wr 3 #[.int .i64 u]);have hbb:=hid (HB.out.alloc HB.out.size (.cells #[.int .i64 u] 3))
      go_wp2_with (at_builtin;refine wpList_append_own _ rfl (.tmp 117) (.tmp 122) 30 rfl (b0.heap.size) 3 i0 _ 1 8 Tryz.underlying30 HI.out HZ0.out HZ1.out HZ2.out rfl (by omega) V _ _ rfl OW.out ⟨wr.heap.size,0,none⟩ 1 1 [.int .i64 u] rfl rfl (fun j u hu=>by rw [Addr.add_lit,Nat.zero_add,N1.out.cell];simpa using hu) (by simp [Value.oneCell']) (by unfold maxLen;omega) (by omega) (by simp;omega) ?_;intro v' w4 hown4 hg4 _;have HO4:=hid hown4;have HG4:=hid (show World.grownBy _ w4 V.ownBlock from hg4);clear hown4 hg4)
      go_roundw
      case rel=>exact ⟨q+1,_,rfl,by go_num,by omega,(by rw [HS2.out];simpa using HO4.out),hbb.out.grown HG4.out hbb.out.size (fun r e=>(OW.out.lt r e).1)⟩
      case measure=>simp [intOf];omega
    · obtain ⟨j,rfl⟩:∃ j,q=j+1:=⟨q-1,by omega⟩
      have x1:(((j+1:Nat):Int) == (b:Int))=false:=by rw [beq_eq_false_iff_ne];omega
      have x2:(b:Int)<((j+1:Nat):Int):=by omega
      have x1':((j:Int)+1 == (b:Int))=false:=by rw [beq_eq_false_iff_ne];omega
      have x2':(b:Int)<(j:Int)+1:=by omega
      have x3:(j:Int)<m:=by omega
      have hj1:(((j+1:Nat):Int)-1)=(j:Int):=by omega
      have hjw:IntKind.i64.wrap (j:Int)=(j:Int):=IntWalk.i64_in _ (by omega)
      obtain ⟨b9,o9,u,rfl,hb9,hv,e0⟩:=RdI.get (HL1.out.below HB.out) (k:=j) (by omega)
      have HS2:=hid (show (allV l a b ((j+1)+1))=(allV l a b (j+1))++[u] by rw [allV_succ];congr 1;rw [show tau a b (j+1)=j by unfold tau;rw [if_neg (by omega),if_pos (by omega),Nat.add_sub_cancel],List.getD_eq_getElem?_getD,hv];rfl)
      clear hv
      have OW:=hid (HOW.out.alloc (.cells #[.int .i64 u] 3));have N1:=hid (Blk.new wr 3 #[.int .i64 u]);have hbb:=hid (HB.out.alloc HB.out.size (.cells #[.int .i64 u] 3))
      go_wp2_with (at_builtin;refine wpList_append_own _ rfl (.tmp 128) (.tmp 134) 30 rfl (b0.heap.size) 3 i0 _ 1 8 Tryz.underlying30 HI.out HZ0.out HZ1.out HZ2.out rfl (by omega) V _ _ rfl OW.out ⟨wr.heap.size,0,none⟩ 1 1 [.int .i64 u] rfl rfl (fun j u hu=>by rw [Addr.add_lit,Nat.zero_add,N1.out.cell];simpa using hu) (by simp [Value.oneCell']) (by unfold maxLen;omega) (by omega) (by simp;omega) ?_;intro v' w4 hown4 hg4 _;have HO4:=hid hown4;have HG4:=hid (show World.grownBy _ w4 V.ownBlock from hg4);clear hown4 hg4)
      go_roundw
      case rel=>exact ⟨(j+1)+1,_,rfl,by go_num,by omega,(by rw [HS2.out];simpa using HO4.out),hbb.out.grown HG4.out hbb.out.size (fun r e=>(OW.out.lt r e).1)⟩
      case measure=>simp [intOf];omega
  · obtain rfl:n=q:=by omega
    rw [HLEN.out] at HOW
    obtain ⟨A9,c9,rfl,ho9⟩:=ownI_of HOW.out
    obtain ⟨hr9,hm9⟩:=OwnI.rd ho9
    have hm9':n≤maxLen:=hn
    have b8:=hid (HR1.out.below HB.out)
    have c0:=hid (hr9)
    have a4:=hid (HBC1.out.keep HB.out)
    have b1:=hid (HBE1.out.trans (HB.out.mono HBE1.out.size))
    clear hr9 ho9
    obtain ⟨c1,c2,c3,c4⟩:=at4 a4
    have hc:=CheckAssign_yes ware lim by_ A n k ps A9 n c9 (allV l a b n) (wr) b8.out c0.out hn hm9' HQC.out
    rw [HALL.out] at hc
    try dsimp only at hc
    have HC:=hid hc;clear hc
    go_wp2_with fail
    refine HC.out.mono ?_
    rintro e c5 ⟨rfl,hb⟩
    clear HC
    clear c1 c2 c3 c4
    have b4:=hid hb
    clear hb
    replace a4:=kH a4 b4
    obtain ⟨c6,c7,c8,d0⟩:=at4 a4
    have hc:=told_any (c5)
    have HC:=hid hc;clear hc
    go_wp2_with fail
    refine HC.out.mono ?_
    rintro e i3 ⟨rfl,hb⟩
    clear HC
    clear c6 c7 c8 d0
    have b5:=hid hb
    clear hb
    replace a4:=kH a4 b5
    obtain ⟨i4,i5,i6,i7⟩:=at4 a4
    go_wp2
    go_ret
    replace b1:=bH (bH b1 b4) b5
    exact ⟨rfl,b1.out⟩
set_option maxRecDepth 100000 in
theorem wm_ba (w:World) (ware:ByteArray) (lim by_:Int) (A:Option Addr) (n k:Nat) (ps:List Prt) (B:Option Addr) (m d:Nat) (l:List Int) (hr:RdP w A n k ps) (hn:n≤maxLen) (hl:RdI w B m d l) (hm:m≤maxLen) (hf:smlB ⟨ware,lim,by_,ps⟩ 12=true) (h60:¬ (60:Int)<m) (a b:Nat) (hq:askP2 ⟨ware,lim,by_,ps⟩ (a:Int) (b:Int)=0) (hcl:clN ps a b=false) (hbg:(mrgP (ps.getD (min a b) default) (ps.getD (max a b) default)).sh.length≤40∧(mrgP (ps.getD (min a b) default) (ps.getD (max a b) default)).rs.length≤200) (hv:isAB (jntL ps a b) lim l=true) (hlo:b<a):Calls Tryz.prog 14 #[.agg #[.string ware,.int .i64 lim,.int .i64 by_,.slice A n k],.int .i64 a,.int .i64 b,.slice B m d] w fun e w'=>e=.returned (.bool true)∧Below w.heap.size w w':=by
 have hpl:=hr.len
 obtain ⟨hck,ha,hb,hab⟩:=askP2_ok hq
 dsimp only at ha hb
 rw [hpl] at ha hb
 have h12:n≤12:=by have:=hf;unfold smlB at this;rw [Bool.and_eq_true,decide_eq_true_eq] at this;have:=this.2;dsimp only at this;omega
 have h20:n<20:=by omega
 have h203:n-1<20:=by omega
 have hn3:n-1≤maxLen:=by unfold maxLen;omega
 have hxm:max a b<n:=by omega
 have HQD:=hid (chk_jnt (ware:=ware) (lim:=lim) (by_:=by_) hpl ha hb hab hcl hck hbg.1 hbg.2)
 have hw1:∀ p∈ps,p.lo≤p.hi:=fun p hp=>(prtB_ok ((chkC_ok hck).2.2.2.2.2.1 p hp)).2.2.2.2.1
 have hw2:∀ p∈jntL ps a b,p.lo≤p.hi:=fun p hp=>(prtB_ok ((chkC_ok HQD.out).2.2.2.2.2.1 p hp)).2.2.2.2.1
 have g1:=ves_least hw1 (jnt_more hpl ha hb hab hcl (ves_col (jntL ps a b)))
 have g2:=ves_least hw2 (jnt_one hpl ha hb hab (ves_col ps))
 have g3:=(vesL_ok hpl).1
 obtain ⟨i0,hi0,hz0,hz1,hz2⟩:=info_parts infoIv
 have HI:=hid hi0;have HZ0:=hid hz0;have HZ1:=hid hz1;have HZ2:=hid hz2;clear hi0 hz0 hz1 hz2
 obtain ⟨N1,hN1⟩:∃ v,(vesL ps).length=v:=⟨_,rfl⟩
 obtain ⟨N2,hN2⟩:∃ v,(vesL (jntL ps a b)).length=v:=⟨_,rfl⟩
 rw [hN1,hN2] at g1 g2
 rw [hN1] at g3
 have y1:¬ ((N2:Int)<(N1:Int)):=by omega
 have y2:¬ ((N1:Int)+1<(N2:Int)):=by omega
 have y3:IntKind.i64.wrap ((N1:Int)+1)=(N1:Int)+1:=IntWalk.i64_in _ (by omega)
 have HF:=hid hf;have HQ:=hid hq;have HQC:=hid hck;have HN1:=hid hN1;have HN2:=hid hN2;have HBG:=hid hbg;have HCL:=hid hcl;have HAB:=hid hv
 have hv2:=merged_assign hpl ha hb hab hcl hv
 have hmn:=hv2.1;rw [hl.len] at hmn
 have hmn1:n≤m+1:=by omega
 have hmn2:m+1≤n:=by omega
 have HALL:=hid (show isAB ps lim (allV l b a n)=true by have:=hv2.2;rwa [show min a b=b by omega,show max a b=a by omega] at this);clear hv2
 have y4:((m:Int) != (n:Int)-1)=false:=by rw [bne_eq_false_iff_eq];omega
 have y5:IntKind.i64.wrap ((n:Int)-1)=(n:Int)-1:=IntWalk.i64_in _ (by omega)
 clear hmn
 have y6:min (a:Int) (b:Int)=(b:Int):=by omega
 have y7:max (a:Int) (b:Int)=(a:Int):=by omega
 clear hf hq hck hN1 hN2 hbg hcl hv hw1 hw2 g1 g2 hpl
 go_enter Tryz.func14,Tryz.ntmps14
 obtain ⟨a0,a5⟩:=ent1 w #[.string ware,.int .i64 lim,.int .i64 by_,.slice A n k] 24
 have a3:=hid (RdP.below (hr) a5.out)
 have a6:=iI hl a5
 clear hr hl
 obtain ⟨h3,h4,h5,h6⟩:=at4 a0
 have hc:=small_is ware lim by_ A n k ps 12 ((w.alloc (.cells #[.string ware,.int .i64 lim,.int .i64 by_,.slice A n k] 24))) a3.out hn _ HF.out
 have HC:=hid hc;clear hc
 go_wp2_with fail
 refine HC.out.mono ?_
 rintro e h7 ⟨rfl,hb⟩
 clear HC
 clear h3 h4 h5 h6
 have b2:=hid hb
 clear hb
 replace a0:=kH a0 b2
 obtain ⟨d1,d2,d3,d4⟩:=at4 a0
 replace a3:=hid (RdP.below (a3.out) b2.out)
 have hc:=Merge_yes ware lim by_ A n k ps a b (h7) a3.out hn HQ.out HCL.out HBG.out
 have HC:=hid hc;clear hc
 go_wp2_with fail
 refine HC.out.mono ?_
 rintro e b6 ⟨⟨R,k1,rfl,hopt⟩,hb⟩
 clear HC
 clear d1 d2 d3 d4
 have b3:=hid hb
 clear hb
 have hrd2:=OwnPt.rd hopt
 have a1:=hid (hrd2)
 clear hrd2 hopt
 obtain ⟨o_,ho_⟩:∃ o,o=((.cells #[.string ware,.int .i64 lim,.int .i64 by_,.slice R (n-1) k1] 24):Obj):=⟨_,rfl⟩
 replace a5:=bA (bH (bH a5 b2) b3) o_
 replace a3:=hid (RdP.alloc ((hid (RdP.below (a3.out) b3.out)).out) (o_))
 replace a6:=iA (iH (iH a6 b2) b3) o_
 replace a0:=kA (kH a0 b3) o_
 replace a1:=hid (RdP.alloc (a1.out) (o_))
 subst ho_
 have a2:=hid (Blk.new b6 24 #[.string ware,.int .i64 lim,.int .i64 by_,.slice R (n-1) k1])
 obtain ⟨d5,d6,d7,d8⟩:=at4 a0
 obtain ⟨d9,e1,e2,e3⟩:=at4 a2
 have hc:=Least_yes ware lim by_ A n k ps ((b6.alloc (.cells #[.string ware,.int .i64 lim,.int .i64 by_,.slice R (n-1) k1] 24))) a3.out hn HQC.out h20
 rw [HN1.out] at hc
 try dsimp only at hc
 have HC:=hid hc;clear hc
 go_wp2_with fail
 refine HC.out.mono ?_
 rintro e e4 ⟨rfl,hb⟩
 clear HC
 clear d5 d6 d7 d8 d9 e1 e2 e3
 have a7:=hid hb
 clear hb
 replace a0:=kH a0 a7
 obtain ⟨e5,e6,e7,e8⟩:=at4 a0
 replace a2:=kH a2 a7
 obtain ⟨e9,f0,f1,f2⟩:=at4 a2
 replace a1:=hid (RdP.below (a1.out) a7.out)
 have hc:=Least_yes ware lim by_ R (n-1) k1 (jntL ps a b) (e4) a1.out hn3 HQD.out h203
 rw [HN2.out] at hc
 try dsimp only at hc
 have HC:=hid hc;clear hc
 go_wp2_with fail
 refine HC.out.mono ?_
 rintro e f3 ⟨rfl,hb⟩
 clear HC
 clear e5 e6 e7 e8 e9 f0 f1 f2
 have a8:=hid hb
 clear hb
 replace a0:=kH a0 a8
 obtain ⟨f4,f5,f6,f7⟩:=at4 a0
 replace a2:=kH a2 a8
 obtain ⟨f8,f9,g0,g4⟩:=at4 a2
 replace a1:=hid (RdP.below (a1.out) a8.out)
 replace a6:=iH (iH a6 a7) a8
 have hc:=CheckAssign_yes ware lim by_ R (n-1) k1 (jntL ps a b) B m d l (f3) a1.out a6.out hn3 hm HQD.out
 rw [HAB.out] at hc
 try dsimp only at hc
 have HC:=hid hc;clear hc
 go_wp2_with fail
 refine HC.out.mono ?_
 rintro e b0 ⟨rfl,hb⟩
 clear HC
 clear f4 f5 f6 f7 f8 f9 g0 g4
 have a9:=hid hb
 clear hb
 replace a0:=kH a0 a9
 obtain ⟨g5,g6,g7,g8⟩:=at4 a0
 replace a2:=kH a2 a9
 obtain ⟨g9,h0,h1,h2⟩:=at4 a2
 go_wp2
 clear g5 g6 g7 g8 g9 h0 h1 h2
 replace a3:=hid (RdP.below (RdP.below (RdP.below (a3.out) a7.out) a8.out) a9.out)
 have HR1:=hid (a3.out)
 replace a6:=iH a6 a9
 have HL1:=hid (a6.out)
 have HBC1:=hid (a0.out)
 replace a5:=bH (bH (bH a5 a7) a8) a9
 have HBE1:=hid (a5.out)
 clear a5 a3 a6 a0 a1 a2
 go_loopw [17,20] (fun s17 s20 wr=>∃ (q:Nat) (V:Value),s17=V∧s20=.int .i64 q∧q≤n∧wr.ownsRow b0.heap.size 3 1 V (allV l b a q).length ((allV l b a q).map (Value.int .i64))∧Below b0.heap.size b0 wr) (fun _ s20 _=>n-(intOf s20).toNat)
 case atStart=>exact ⟨0,_,rfl,rfl,Nat.zero_le _,World.ownsRow_nil _ _ _ _,Below.refl _ _⟩
 case round =>
  obtain ⟨q,V,hV,rfl,hq,hown,hb⟩:=hrel
  replace hV:=hV.symm
  subst hV
  have HOW:=hid hown;have HB:=hid hb;clear hown hb
  have hlen0:(allV l b a q).length=q:=by unfold allV;simp
  have HLEN:=hid hlen0;have hlen:=Nat.le_of_eq hlen0;clear hlen0
  by_cases hlt:q<n
  · have hlt':(q:Int)<n:=by omega
    have hszr:=HB.out.size
    have b7:=hid (HBC1.out.keep HB.out)
    obtain ⟨h8,h9,i1,i2⟩:=at4 b7
    rcases Nat.lt_trichotomy q a with hqh|hqh|hqh
    · have x1:((q:Int) == (a:Int))=false:=by rw [beq_eq_false_iff_ne];omega
      have x2:¬ ((a:Int)<(q:Int)):=by omega
      have x3:(q:Int)<m:=by omega
      obtain ⟨b9,o9,u,rfl,hb9,hv,e0⟩:=RdI.get (HL1.out.below HB.out) (k:=q) (by omega)
      have HS2:=hid (show (allV l b a (q+1))=(allV l b a q)++[u] by rw [allV_succ];congr 1;rw [show tau b a q=q by unfold tau;rw [if_neg (by omega),if_neg (by omega)],List.getD_eq_getElem?_getD,hv];rfl)
      clear hv
      have OW:=hid (HOW.out.alloc (.cells #[.int .i64 u] 3));have N1:=hid (Blk.new wr 3 #[.int .i64 u]);have hbb:=hid (HB.out.alloc HB.out.size (.cells #[.int .i64 u] 3))
      go_wp2_with (at_builtin;refine wpList_append_own _ rfl (.tmp 106) (.tmp 111) 30 rfl (b0.heap.size) 3 i0 _ 1 8 Tryz.underlying30 HI.out HZ0.out HZ1.out HZ2.out rfl (by omega) V _ _ rfl OW.out ⟨wr.heap.size,0,none⟩ 1 1 [.int .i64 u] rfl rfl (fun j u hu=>by rw [Addr.add_lit,Nat.zero_add,N1.out.cell];simpa using hu) (by simp [Value.oneCell']) (by unfold maxLen;omega) (by omega) (by simp;omega) ?_;intro v' w4 hown4 hg4 _;have HO4:=hid hown4;have HG4:=hid (show World.grownBy _ w4 V.ownBlock from hg4);clear hown4 hg4)
      go_roundw
      case rel=>exact ⟨q+1,_,rfl,by go_num,by omega,(by rw [HS2.out];simpa using HO4.out),hbb.out.grown HG4.out hbb.out.size (fun r e=>(OW.out.lt r e).1)⟩
      case measure=>simp [intOf];omega
    · have x1:((q:Int) == (a:Int))=true:=by rw [beq_iff_eq];omega
      have x3:(b:Int)<m:=by omega
      obtain ⟨b9,o9,u,rfl,hb9,hv,e0⟩:=RdI.get (HL1.out.below HB.out) (k:=b) (by omega)
      have HS2:=hid (show (allV l b a (q+1))=(allV l b a q)++[u] by rw [allV_succ];congr 1;rw [show tau b a q=b by unfold tau;rw [if_pos hqh],List.getD_eq_getElem?_getD,hv];rfl)
      clear hv
      have OW:=hid (HOW.out.alloc (.cells #[.int .i64 u] 3));have N1:=hid (Blk.new wr 3 #[.int .i64 u]);have hbb:=hid (HB.out.alloc HB.out.size (.cells #[.int .i64 u] 3))
      go_wp2_with (at_builtin;refine wpList_append_own _ rfl (.tmp 117) (.tmp 122) 30 rfl (b0.heap.size) 3 i0 _ 1 8 Tryz.underlying30 HI.out HZ0.out HZ1.out HZ2.out rfl (by omega) V _ _ rfl OW.out ⟨wr.heap.size,0,none⟩ 1 1 [.int .i64 u] rfl rfl (fun j u hu=>by rw [Addr.add_lit,Nat.zero_add,N1.out.cell];simpa using hu) (by simp [Value.oneCell']) (by unfold maxLen;omega) (by omega) (by simp;omega) ?_;intro v' w4 hown4 hg4 _;have HO4:=hid hown4;have HG4:=hid (show World.grownBy _ w4 V.ownBlock from hg4);clear hown4 hg4)
      go_roundw
      case rel=>exact ⟨q+1,_,rfl,by go_num,by omega,(by rw [HS2.out];simpa using HO4.out),hbb.out.grown HG4.out hbb.out.size (fun r e=>(OW.out.lt r e).1)⟩
      case measure=>simp [intOf];omega
    · obtain ⟨j,rfl⟩:∃ j,q=j+1:=⟨q-1,by omega⟩
      have x1:(((j+1:Nat):Int) == (a:Int))=false:=by rw [beq_eq_false_iff_ne];omega
      have x2:(a:Int)<((j+1:Nat):Int):=by omega
      have x1':((j:Int)+1 == (a:Int))=false:=by rw [beq_eq_false_iff_ne];omega
      have x2':(a:Int)<(j:Int)+1:=by omega
      have x3:(j:Int)<m:=by omega
      have hj1:(((j+1:Nat):Int)-1)=(j:Int):=by omega
      have hjw:IntKind.i64.wrap (j:Int)=(j:Int):=IntWalk.i64_in _ (by omega)
      obtain ⟨b9,o9,u,rfl,hb9,hv,e0⟩:=RdI.get (HL1.out.below HB.out) (k:=j) (by omega)
      have HS2:=hid (show (allV l b a ((j+1)+1))=(allV l b a (j+1))++[u] by rw [allV_succ];congr 1;rw [show tau b a (j+1)=j by unfold tau;rw [if_neg (by omega),if_pos (by omega),Nat.add_sub_cancel],List.getD_eq_getElem?_getD,hv];rfl)
      clear hv
      have OW:=hid (HOW.out.alloc (.cells #[.int .i64 u] 3));have N1:=hid (Blk.new wr 3 #[.int .i64 u]);have hbb:=hid (HB.out.alloc HB.out.size (.cells #[.int .i64 u] 3))
      go_wp2_with (at_builtin;refine wpList_append_own _ rfl (.tmp 128) (.tmp 134) 30 rfl (b0.heap.size) 3 i0 _ 1 8 Tryz.underlying30 HI.out HZ0.out HZ1.out HZ2.out rfl (by omega) V _ _ rfl OW.out ⟨wr.heap.size,0,none⟩ 1 1 [.int .i64 u] rfl rfl (fun j u hu=>by rw [Addr.add_lit,Nat.zero_add,N1.out.cell];simpa using hu) (by simp [Value.oneCell']) (by unfold maxLen;omega) (by omega) (by simp;omega) ?_;intro v' w4 hown4 hg4 _;have HO4:=hid hown4;have HG4:=hid (show World.grownBy _ w4 V.ownBlock from hg4);clear hown4 hg4)
      go_roundw
      case rel=>exact ⟨(j+1)+1,_,rfl,by go_num,by omega,(by rw [HS2.out];simpa using HO4.out),hbb.out.grown HG4.out hbb.out.size (fun r e=>(OW.out.lt r e).1)⟩
      case measure=>simp [intOf];omega
  · obtain rfl:n=q:=by omega
    rw [HLEN.out] at HOW
    obtain ⟨A9,c9,rfl,ho9⟩:=ownI_of HOW.out
    obtain ⟨hr9,hm9⟩:=OwnI.rd ho9
    have hm9':n≤maxLen:=hn
    have b8:=hid (HR1.out.below HB.out)
    have c0:=hid (hr9)
    have a4:=hid (HBC1.out.keep HB.out)
    have b1:=hid (HBE1.out.trans (HB.out.mono HBE1.out.size))
    clear hr9 ho9
    obtain ⟨c1,c2,c3,c4⟩:=at4 a4
    have hc:=CheckAssign_yes ware lim by_ A n k ps A9 n c9 (allV l b a n) (wr) b8.out c0.out hn hm9' HQC.out
    rw [HALL.out] at hc
    try dsimp only at hc
    have HC:=hid hc;clear hc
    go_wp2_with fail
    refine HC.out.mono ?_
    rintro e c5 ⟨rfl,hb⟩
    clear HC
    clear c1 c2 c3 c4
    have b4:=hid hb
    clear hb
    replace a4:=kH a4 b4
    obtain ⟨c6,c7,c8,d0⟩:=at4 a4
    have hc:=told_any (c5)
    have HC:=hid hc;clear hc
    go_wp2_with fail
    refine HC.out.mono ?_
    rintro e i3 ⟨rfl,hb⟩
    clear HC
    clear c6 c7 c8 d0
    have b5:=hid hb
    clear hb
    replace a4:=kH a4 b5
    obtain ⟨i4,i5,i6,i7⟩:=at4 a4
    go_wp2
    go_ret
    replace b1:=bH (bH b1 b4) b5
    exact ⟨rfl,b1.out⟩
theorem wm_walk (w:World) (ware:ByteArray) (lim by_:Int) (A:Option Addr) (n k:Nat) (ps:List Prt) (hr:RdP w A n k ps) (hn:n≤maxLen) (a:Int) (_:(Lit.int .i64 a).wf=true) (b:Int) (_:(Lit.int .i64 b).wf=true) (B:Option Addr) (m d:Nat) (l:List Int) (hl:RdI w B m d l) (hm:m≤maxLen) (_:∀ x∈l,(Lit.int .i64 x).wf=true):Calls Tryz.prog 14 #[.agg #[.string ware,.int .i64 lim,.int .i64 by_,.slice A n k],.int .i64 a,.int .i64 b,.slice B m d] w fun e w'=>e=.returned (.bool true)∧Below w.heap.size w w':=by
 cases hf:smlB ⟨ware,lim,by_,ps⟩ 12
 · exact wm_w1 w ware lim by_ A n k ps B m d l hr hn hl hm a b hf
 · by_cases h60:(60:Int)<m
   · exact wm_w2 w ware lim by_ A n k ps B m d l hr hn hl hm a b hf h60
   · by_cases hq:askP2 ⟨ware,lim,by_,ps⟩ a b=0
     · obtain ⟨a',rfl,ha'⟩:=askP_in (show askP ⟨ware,lim,by_,ps⟩ [a,b]=0 by unfold askP2 at hq;split at hq;exact hq;rename_i h;simpa using h) (x:=a) (by simp)
       obtain ⟨b',rfl,hb'⟩:=askP_in (show askP ⟨ware,lim,by_,ps⟩ [(a':Int),b]=0 by unfold askP2 at hq;split at hq;exact hq;rename_i h;simpa using h) (x:=b) (by simp)
       cases hcl:clN ps a' b'
       · by_cases hbg:(mrgP (ps.getD (min a' b') default) (ps.getD (max a' b') default)).sh.length≤40∧(mrgP (ps.getD (min a' b') default) (ps.getD (max a' b') default)).rs.length≤200
         · cases hv:isAB (jntL ps a' b') lim l
           · exact wm_wrong w ware lim by_ A n k ps B m d l hr hn hl hm hf h60 a' b' hq hcl hbg hv
           · obtain ⟨-,-,-,hab⟩:=askP2_ok hq
             rcases Nat.lt_or_gt_of_ne hab with h|h
             · exact wm_ab w ware lim by_ A n k ps B m d l hr hn hl hm hf h60 a' b' hq hcl hbg hv h
             · exact wm_ba w ware lim by_ A n k ps B m d l hr hn hl hm hf h60 a' b' hq hcl hbg hv h
         · exact wm_big w ware lim by_ A n k ps B m d l hr hn hl hm hf h60 a' b' hq hcl hbg
       · exact wm_clash w ware lim by_ A n k ps B m d l hr hn hl hm hf h60 a' b' hq hcl
     · exact wm_no w ware lim by_ A n k ps B m d l hr hn hl hm a b hf h60 _ rfl hq
set_option maxRecDepth 100000 in
theorem wholeMerged_lifted (os:Os) (started:os.Started) (H:Type) (enc:TypeId × Value→H) :
 ReturnsInHanded {} Tryz.checked os 14 .any (Rows.wholeMergedSpec.pre6 enc Tryz.prog Tryz.f14 Rows.wholeMergedRow.domain false) (Rows.wholeMergedSpec.post enc Tryz.prog Tryz.f14 false true false false):=by
 refine returnsInHanded_of_change (C:=Tryz.checked) Law.own started (by kernel_rfl) Tryz.func14
  (ChangeSpec.witness6 (enc:=enc) (C:=Tryz.checked) false ⟨#[],#[.agg #[.string ⟨#[]⟩,.int .i64 0,.int .i64 0,.slice none 0 0],.int .i64 0,.int .i64 0,.slice none 0 0],[]⟩ 8 (by kernel_rfl) (by kernel_rfl) (by kernel_rfl) (by kernel_rfl)) ?_
 intro W base args ds gs before hval0 hW hcnd _
 have hval:∀ (j:Nat) t v,Tryz.f14.params[j]?=some t→args[j]?=some v→Value.okWide Tryz.prog W .any base t v:=hval0
 have hW':=hW
 obtain ⟨p,q,hA0,hV,rfl,hfz,hnd⟩:=hW
 have hA:DataW.TrodAll enc Tryz.prog W 0 (fun _=>true) true Tryz.f14.params.toList args.toList ds p:=hA0
 rw [Tryz.params14] at hA hval
 obtain ⟨v0,vs0,d0,ds0,p0,q0,hargs,rfl,rfl,h0,r0⟩:=trodAll_cons hA
 obtain ⟨v1,vs1,d1,ds1,p1,q1,rfl,rfl,rfl,h1,r1⟩:=trodAll_cons r0
 obtain ⟨v2,vs2,d2,ds2,p2,q2,rfl,rfl,rfl,h2,r2⟩:=trodAll_cons r1
 obtain ⟨v3,vs3,d3,ds3,p3,q3,rfl,rfl,rfl,h3,r3⟩:=trodAll_cons r2
 obtain ⟨rfl,rfl,rfl⟩:=trodAll_nil r3
 obtain rfl:args=#[v0,v1,v2,v3]:=by cases args;simp_all
 obtain ⟨rfl,rfl⟩:=trodVars_none hV
 have k0:=h0
 have lt0:∀ x∈p0,x.block<W.heap.size:=by obtain ⟨m,hm⟩:=k0;exact DataW.trod_lt m _ _ _ hm
 obtain ⟨s0,x0,y0,A0,n0,c0,l0,rfl,rd0,mx0⟩:=open_case (hval 0 24 v0 rfl rfl) h0
 obtain ⟨a1,rfl,rfl,rfl,w1⟩:=open_int Tryz.underlying3 (hval 1 3 v1 rfl rfl) h1
 obtain ⟨a2,rfl,rfl,rfl,w2⟩:=open_int Tryz.underlying3 (hval 2 3 v2 rfl rfl) h2
 have k3:=h3
 have lt3:∀ x∈p3,x.block<W.heap.size:=by obtain ⟨m,hm⟩:=k3;exact DataW.trod_lt m _ _ _ hm
 obtain ⟨A3,n3,c3,l3,rfl,rd3,mx3,w3⟩:=open_nums (hval 3 30 v3 rfl rfl) h3
 clear hA0 hval0
 refine (wm_walk W s0 x0 y0 A0 n0 c0 l0 rd0 mx0 a1 w1 a2 w2 A3 n3 c3 l3 rd3 mx3 w3).mono fun e W' ⟨he,bel⟩=>?_
 subst he
 exact ⟨_,rfl,_,_,_,[],_,[],hW',trodAll_mk1 (shut_bool Tryz.underlying4 _),(trodAll_cons_mk (Below.trod Law.laidOut (by kernel_rfl) (of_decide_eq_true (by kernel_rfl)) k0 bel lt0) (trodAll_cons_mk (shut_int Tryz.underlying3 w1) (trodAll_cons_mk (shut_int Tryz.underlying3 w2) (trodAll_cons_mk (Below.trod Law.laidOut (by kernel_rfl) (of_decide_eq_true (by kernel_rfl)) k3 bel lt3) trodAll_mk0)))),rfl,bel.frame _,fun h=>by cases h⟩
theorem wholeMerged_over:Rows.wholeMergedRow.holds Tryz.pinned (OpenSpec.ofChange Rows.wholeMergedSpec) :=
 OpenClaim.holds_of_wide 14 Tryz.f14 rfl rfl rfl rfl rfl rfl rfl ⟨rfl,rfl,rfl,rfl,rfl⟩ rfl rfl rfl rfl rfl (by kernel_rfl) Tryz.func14 (by kernel_rfl)
  (of_decide_eq_true (by kernel_rfl)) (by unfold Func.isWrapper;first | (rw [if_pos (by decide +kernel)];kernel_rfl) | (rw [if_neg (by decide +kernel)];exact ⟨rfl,rfl⟩))
  (fun os started H enc _=>wholeMerged_lifted os started H enc)
theorem wholeMerged_proved:Rows.WholeMergedSaid:=wholeMerged_over
end Go.Proofs.YtokpblmgdmokoaaGreat
