import Derived.Test.YtokpblmgdmokoaaGreatAVOwn
set_option linter.unusedSimpArgs false
set_option linter.unusedVariables false
namespace Go.Proofs.YtokpblmgdmokoaaGreat
open Go.Lib (hid)
open Go.RowKit Go.Maps
theorem ownP_base {w:World} {base n k:Nat} {R:Option Addr} {xs:List Value} (h:w.ownsRow (base+1+1) 48 8 (.slice R n k) n xs) {g:Nat} (hg:R=some ⟨g,0,none⟩):base≤g:=by
 subst hg
 rcases h.2 with ⟨h0,_⟩|⟨g',cap,cur,hv,hb,_⟩
 · cases h0
 · injection hv with a1
   injection a1 with a1
   injection a1 with a1
   omega
set_option maxRecDepth 100000 in
set_option maxHeartbeats 4000000 in
theorem copied_T (ware:ByteArray) (lim by_:Int) (A:Option Addr) (n k:Nat) (ps:List Prt) (T:Nat→Prop) (w:World) (hr:RdP w A n k ps) (hn:n≤100000) (hsm:∀ p∈ps,p.sh.length≤100000∧p.rs.length≤100000) (xs:List (Prt × PAd)) (h1:xs.map (·.1)=ps) (h2:∀ x∈xs,x.2.ok w x.1∧∀ g,T g→x.2.far g x.1) (h3:Cells w A (xs.flatMap pv)) (hT:∀ g,T g→g<w.heap.size):Calls Tryz.prog 72 #[.agg #[.string ware,.int .i64 lim,.int .i64 by_,.slice A n k]] w fun e w'=>(∃ R k1,e=.returned (.agg #[.string ware,.int .i64 lim,.int .i64 by_,.slice R n k1])∧OwnPt w' w.heap.size T R n k1 ps)∧Below w.heap.size w w':=by
 have HSM:=hid hsm;have HT:=hid hT;clear hsm hT
 have hxl:xs.length=n:=by have:=congrArg List.length h1;rw [List.length_map,hr.len] at this;exact this
 go_enter Tryz.func72,Tryz.ntmps72
 obtain ⟨a8,b2,b1⟩:=ent2 w #[.string ware,.int .i64 lim,.int .i64 by_,.slice A n k] 24 #[.string ⟨#[]⟩,.int .i64 0,.int .i64 0,.slice none 0 0] 24
 have d4:=hid (RdP.below (hr) b1.out)
 clear hr
 obtain ⟨j1,j2,j3,j4⟩:=at4 a8
 obtain ⟨j5,h8,h9,i0⟩:=at4 b2
 have HC:=hid (cloneP_xs (w:=((w.alloc (.cells #[.string ware,.int .i64 lim,.int .i64 by_,.slice A n k] 24)).alloc (.cells #[.string ⟨#[]⟩,.int .i64 0,.int .i64 0,.slice none 0 0] 24))) (A:=A) (n:=n) (c:=k) xs hxl (d4.out).nil (h3.alloc _ |>.alloc _) hn)
 go_wp2_with fail
 refine HC.out.mono ?_
 rintro e w1 ⟨R,k1,rfl,hown,hb⟩
 clear HC
 clear j1 j2 j3 j4 j5 h8 h9 i0
 have hsz1:=hb.size
 simp only [World.size_alloc] at hsz1 hown
 have HOWN:=hid hown;clear hown
 have b7:=hid hb
 clear hb
 replace a8:=kH a8 b7
 obtain ⟨i1,i2,i3,i4⟩:=at4 a8
 replace b2:=kH b2 b7
 obtain ⟨i5,i6,i7,i8⟩:=at4 b2
 have e7:(w1).frozen? ⟨w.heap.size,0,none⟩=false:=Blk.frozen a8.out 0
 have e8:(w1).frozen? ⟨w.heap.size,1,none⟩=false:=Blk.frozen a8.out 1
 have e9:(w1).frozen? ⟨w.heap.size,2,none⟩=false:=Blk.frozen a8.out 2
 have f0:(w1).frozen? ⟨w.heap.size,3,none⟩=false:=Blk.frozen a8.out 3
 go_wp2
 clear i1 i2 i3 i4 i5 i6 i7 i8 e7 e8 e9 f0
 have HBC:=hid (Blk.set_ (a8.out) 3 (.slice R n k1))
 have HBZ:=hid (Blk.far (b2.out) (p:=⟨w.heap.size,3,none⟩) (by simp) (.slice R n k1))
 replace b1:=bH b1 b7
 have HBE:=hid (Below.setCell (b1.out) (p:=⟨w.heap.size,3,none⟩) (by simp) (.slice R n k1))
 have HO:=hid (show OwnPt (w1.setCell ⟨w.heap.size,3,none⟩ (.slice R n k1)) (w.heap.size+1+1) (fun b=>T b∨(w.heap.size≤b∧b<w.heap.size+1+1)) R n k1 ps from ⟨xs,h1,fun x hx=>⟨(h2 x hx).1.below HBE.out,fun g hg=>by rcases hg with hg|hg|hg;exact (h2 x hx).1.out (ownP_base HOWN.out hg);exact (h2 x hx).2 g hg;exact (h2 x hx).1.out hg.1⟩,ownsRow_setCell_below HOWN.out (by simp;omega) _⟩)
 have hsz2:w.heap.size+1+1≤(w1.setCell ⟨w.heap.size,3,none⟩ (.slice R n k1)).heap.size:=by rw [World.size_setCell];exact hsz1
 obtain ⟨w2,hw2⟩:∃ v,v=w1.setCell ⟨w.heap.size,3,none⟩ (.slice R n k1):=⟨_,rfl⟩
 rw [← hw2] at HBC HBZ HBE HO hsz2 ⊢
 clear hw2 HOWN h1 h2 h3 hxl hsz1 b1 d4 a8 b2
 go_loopw [12] (fun i wr=>∃ q:Nat,q≤n∧i=.int .i64 q∧Blk wr w.heap.size 24 #[.string ware,.int .i64 lim,.int .i64 by_,.slice R n k1]∧Blk wr (w.heap.size+1) 24 #[.string ⟨#[]⟩,.int .i64 0,.int .i64 0,.slice none 0 0]∧OwnPt wr (w.heap.size+1+1) (fun b=>T b∨(w.heap.size≤b∧b<w.heap.size+1+1)) R n k1 ps∧Below w.heap.size w wr) (fun i _=>n-(intOf i).toNat)
 case atStart=>exact ⟨0,Nat.zero_le _,rfl,HBC.out,HBZ.out,HO.out,HBE.out⟩
 case round =>
  clear HBC HBZ HO HBE hsz2
  obtain ⟨q,hq,rfl,hbc,hbz,ho,hbe⟩:=hrel
  have a4:=hid (hbe)
  have a0:=hid (hbc)
  have a3:=hid (hbz)
  have a2:=hid (ho)
  clear hbe hbc hbz ho
  by_cases hlt:q<n
  · have hlt':(q:Int)<n:=by omega
    obtain ⟨g,rfl⟩:=OwnPt.addr (a2.out) (by omega)
    obtain ⟨hgb,hgl,hpl,hnk⟩:=OwnPt.blk (a2.out)
    have hx:ps[q]?=some (ps[q]'(by omega)):=List.getElem?_eq_getElem _
    obtain ⟨p,hp⟩:∃ p,p=ps[q]'(by omega):=⟨_,rfl⟩
    rw [← hp] at hx
    clear hp
    obtain ⟨x,hok,hfar,c0,c1,c2,c3,c4,c5,c6,c7⟩:=OwnPt.get (a2.out) hx
    obtain ⟨hs1,hs2⟩:=HSM.out p (List.mem_of_getElem? hx)
    obtain ⟨sa,sb,sn,sm⟩:=hok
    have hl1:=sa.len;have hl2:=sb.len
    have hxn:x.n≤100000:=by omega
    have hxm:x.m≤100000:=by omega
    clear hl1 hl2 hs1 hs2 hfar
    have a9:=hid (sa)
    have a5:=hid (sb)
    clear sa sb
    have HX:=hid hx;clear hx
    have HMX:=hid (And.intro sn sm);clear sn sm
    have HNE:=hid (show wr.heap.size≠g∧w.heap.size≠g∧w.heap.size+1≠g∧w.heap.size≤g∧w.heap.size+1<g from ⟨by omega,by omega,by omega,by omega,by omega⟩)
    obtain ⟨o_,ho_⟩:∃ o,o=((.cells #[.slice x.A x.n x.c,.int .i64 p.lo,.int .i64 p.hi,.int .i64 p.lb,.int .i64 p.hb,.bool p.ft,.int .i64 p.fb,.slice x.B x.m x.d] 48):Obj):=⟨_,rfl⟩
    replace a4:=bA a4 o_
    replace a0:=kA a0 o_
    replace a3:=kA a3 o_
    replace a2:=hid (OwnPt.alloc (a2.out) (o_))
    replace a9:=iA a9 o_
    replace a5:=iA a5 o_
    subst ho_
    have a1:=hid (Blk.new wr 48 #[.slice x.A x.n x.c,.int .i64 p.lo,.int .i64 p.hi,.int .i64 p.lb,.int .i64 p.hb,.bool p.ft,.int .i64 p.fb,.slice x.B x.m x.d])
    obtain ⟨f1,f2,f3,f4⟩:=at4 a0
    obtain ⟨f5,f6,f7,f8⟩:=at4 a3
    obtain ⟨f9,g0,g1,g2,g3,g4,g5,g6⟩:=at8 a1
    go_wp2
    clear c0 c1 c2 c3 c4 c5 c6 c7
    clear f1 f2 f3 f4 f5 f6 f7 f8 f9 g0 g1 g2 g3 g4 g5 g6
    replace a4:=bD a4
    replace a0:=kD a0
    replace a3:=kD a3
    replace a2:=hid (OwnPt.drew (a2.out))
    replace a9:=iD a9
    replace a5:=iD a5
    replace a1:=kD a1
    refine wp_region_held_drew (S:=(fun W'=>Blk W' (w.heap.size) 24 #[.string ware,.int .i64 lim,.int .i64 by_,.slice (some ⟨g,0,none⟩) n k1]∧Blk W' (wr.heap.size) 48 #[.slice x.A x.n x.c,.int .i64 p.lo,.int .i64 p.hi,.int .i64 p.lb,.int .i64 p.hb,.bool p.ft,.int .i64 p.fb,.slice x.B x.m x.d])) (by kernel_rfl) ⟨a0.out,a1.out⟩ (fun _=>?_)
    obtain ⟨j6,b8⟩:∃ w',w'=((wr.alloc (.cells #[.slice x.A x.n x.c,.int .i64 p.lo,.int .i64 p.hi,.int .i64 p.lb,.int .i64 p.hb,.bool p.ft,.int .i64 p.fb,.slice x.B x.m x.d] 48)).drew):=⟨_,rfl⟩
    rw [← b8] at a4 a0 a3 a2 a9 a5 a1
    rw [← b8]
    clear b8
    refine' twH 0 ⟨a0.out,a1.out⟩ ?_
    refine' tkH 1 ⟨a0.out,a1.out⟩ ?d5 ?_
    case d5=>(rintro W' ⟨hS0,hS1⟩;have hc0:=Blk.nth hS0 3;clear hS0 hS1;go_simp;try with_reducible rfl)
    refine' twH 2 ⟨a0.out,a1.out⟩ ?_
    refine' twH 3 ⟨a0.out,a1.out⟩ ?_
    try simp only [pq]
    refine' tkH 4 ⟨a0.out,a1.out⟩ ?d6 ?_
    case d6=>(rintro W' ⟨hS0,hS1⟩;have hc0:=Blk.nth hS0 3;clear hS0 hS1;go_simp;try with_reducible rfl)
    refine' twH 5 ⟨a0.out,a1.out⟩ ?_
    refine' twH 6 ⟨a0.out,a1.out⟩ ?_
    refine' tkH 7 ⟨a0.out,a1.out⟩ ?d7 ?_
    case d7=>(rintro W' ⟨hS0,hS1⟩;have hc0:=Blk.nth hS1 0;clear hS0 hS1;go_simp;try with_reducible rfl)
    try simp only [pq]
    refine' twH 9 ⟨a0.out,a1.out⟩ ?_
    refine' tkH 10 ⟨a0.out,a1.out⟩ ?d8 ?_
    case d8=>(rintro W' ⟨hS0,hS1⟩;have hc0:=Blk.nth hS1 7;clear hS0 hS1;go_simp;try with_reducible rfl)
    try simp only [pq]
    refine oneH 8 rfl fun K hK=>?_
    have hgl_:=(OwnPt.blk (a2.out)).2.1
    go_simp
    go_at_call 107
    refine (cloneI_any (a9.out) hxn).mono ?_
    rintro e j7 ⟨R429,K430,rfl,ho_,a6⟩
    dsimp only
    have far431:=hid (fun (g':Nat) (hg':g'=g∨(T g'∨(w.heap.size≤g'∧g'<w.heap.size+1+1)))=>ownI_far ho_ (show g'<_ by rcases hg' with rfl|hg'|hg';exact hgl_;(have:=HNE.out.2.2.2.2;have:=HT.out g' hg';omega);(have:=HNE.out.2.2.2.2;omega)))
    replace a6:=hid a6
    have b0:=hid ((OwnI.rd ho_).1)
    clear ho_ hgl_
    replace a0:=kH a0 a6
    replace a1:=kH a1 a6
    refine hK.out _ _ ⟨a0.out,a1.out⟩ (fun _=>?_);clear hK K
    try simp only [pq]
    refine oneH 11 rfl fun K hK=>?_
    replace a5:=iH a5 a6
    replace a2:=hid (OwnPt.keep (a2.out) a6.out)
    have hgl_:=(OwnPt.blk (a2.out)).2.1
    go_simp
    go_at_call 107
    refine (cloneI_any (a5.out) hxm).mono ?_
    rintro e i9 ⟨R435,K436,rfl,ho_,a7⟩
    dsimp only
    have far437:=hid (fun (g':Nat) (hg':g'=g∨(T g'∨(w.heap.size≤g'∧g'<w.heap.size+1+1)))=>ownI_far ho_ (show g'<_ by rcases hg' with rfl|hg'|hg';exact hgl_;(have:=HNE.out.2.2.2.2;have:=HT.out g' hg';omega);(have:=HNE.out.2.2.2.2;omega)))
    replace a7:=hid a7
    have b6:=hid ((OwnI.rd ho_).1)
    clear ho_ hgl_
    replace a0:=kH a0 a7
    replace a1:=kH a1 a7
    refine hK.out _ _ ⟨a0.out,a1.out⟩ (fun _=>?_);clear hK K
    try simp only [pq]
    refine' twH 12 ⟨a0.out,a1.out⟩ ?_
    refine' twH 13 ⟨a0.out,a1.out⟩ ?_
    try simp only [pq]
    refine oneH 14 rfl fun K hK=>?_
    replace a2:=hid (OwnPt.keep (a2.out) a7.out)
    replace b0:=iH b0 a7
    replace a3:=kH (kH a3 a6) a7
    replace a4:=bH (bH a4 a6) a7
    obtain ⟨xo_,-,-,c0_,-,-,-,-,-,-,c7_⟩:=OwnPt.get (a2.out) HX.out
    have fz_:=OwnPt.frozen (a2.out) (q * 8)
    have hgl_:=(OwnPt.blk (a2.out)).2.1
    go_simp
    have b3:=hid (OwnPt.setA (a2.out) HX.out (b0.out) (fun g' hg'=>Or.inr (far431.out g' hg')) HMX.out.1)
    have b4:=hid (Blk.far (a0.out) (p:=⟨g,q * 8,none⟩) HNE.out.2.1 (.slice R429 x.n K430))
    have d0:=hid (Blk.far (a3.out) (p:=⟨g,q * 8,none⟩) HNE.out.2.2.1 (.slice R429 x.n K430))
    have b5:=hid (Blk.far (a1.out) (p:=⟨g,q * 8,none⟩) HNE.out.1 (.slice R429 x.n K430))
    have d1:=hid (Below.setCell (a4.out) (p:=⟨g,q * 8,none⟩) HNE.out.2.2.2.1 (.slice R429 x.n K430))
    have d2:=hid (rdI_far (b6.out) (p:=⟨g,q * 8,none⟩) (Or.inr (far437.out g (Or.inl rfl))) (.slice R429 x.n K430))
    obtain ⟨j0,b9⟩:∃ w',w'=((i9).setCell ⟨g,q * 8,none⟩ (.slice R429 x.n K430)):=⟨_,rfl⟩
    rw [← b9] at b3 b4 d0 b5 d1 d2
    rw [← b9]
    clear b9 c0_ c7_ fz_ hgl_ a4 a0 a3 a2 a1 b0 b6
    refine hK.out _ _ ⟨b4.out,b5.out⟩ (fun _=>?_);clear hK K
    try simp only [pq]
    refine' twH 15 ⟨b4.out,b5.out⟩ ?_
    refine' twH 16 ⟨b4.out,b5.out⟩ ?_
    try simp only [pq]
    refine oneH 17 rfl fun K hK=>?_
    obtain ⟨xo_,-,-,c0_,-,-,-,-,-,-,c7_⟩:=OwnPt.get (b3.out) HX.out
    have fz_:=OwnPt.frozen (b3.out) (q * 8+7)
    have hgl_:=(OwnPt.blk (b3.out)).2.1
    go_simp
    have d9:=hid (OwnPt.setB (b3.out) HX.out (d2.out) (fun g' hg'=>Or.inr (far437.out g' hg')) HMX.out.2)
    have d3:=hid (Blk.far (b4.out) (p:=⟨g,q * 8+7,none⟩) HNE.out.2.1 (.slice R435 x.m K436))
    have e0:=hid (Blk.far (d0.out) (p:=⟨g,q * 8+7,none⟩) HNE.out.2.2.1 (.slice R435 x.m K436))
    have e1:=hid (Blk.far (b5.out) (p:=⟨g,q * 8+7,none⟩) HNE.out.1 (.slice R435 x.m K436))
    have e2:=hid (Below.setCell (d1.out) (p:=⟨g,q * 8+7,none⟩) HNE.out.2.2.2.1 (.slice R435 x.m K436))
    obtain ⟨j8,c8⟩:∃ w',w'=((j0).setCell ⟨g,q * 8+7,none⟩ (.slice R435 x.m K436)):=⟨_,rfl⟩
    rw [← c8] at d9 d3 e0 e1 e2
    rw [← c8]
    clear c8 c0_ c7_ fz_ hgl_ b3 b4 d0 b5 d1 d2
    refine hK.out _ _ ⟨d3.out,e1.out⟩ (fun _=>?_);clear hK K
    try simp only [pq]
    refine wpAnyH_done (by kernel_rfl) ?_ _
    go_wp2
    go_roundw
    case rel=>exact ⟨q+1,by omega,by go_num,d3.out,e0.out,d9.out,e2.out⟩
    case measure=>simp [intOf];omega
  · have hqn:q=n:=by omega
    clear hqn
    have hgb:=(a4.out).size
    obtain ⟨g7,g8,g9,h0⟩:=at4 a0
    obtain ⟨h4,h5,h6,h7⟩:=at4 a3
    have e3:(wr).frozen? ⟨w.heap.size+1,0,none⟩=false:=Blk.frozen a3.out 0
    have e4:(wr).frozen? ⟨w.heap.size+1,1,none⟩=false:=Blk.frozen a3.out 1
    have e5:(wr).frozen? ⟨w.heap.size+1,2,none⟩=false:=Blk.frozen a3.out 2
    have e6:(wr).frozen? ⟨w.heap.size+1,3,none⟩=false:=Blk.frozen a3.out 3
    have c9:=a4.out
    have HOO:=hid (OwnPt.weak (OwnPt.out (OwnPt.out (OwnPt.out (OwnPt.out (a2.out) (b:=w.heap.size+1) (j:=0) (by omega) (Or.inr ⟨by omega,by omega⟩) (.string ware)) (b:=w.heap.size+1) (j:=1) (by omega) (Or.inr ⟨by omega,by omega⟩) (.int .i64 lim)) (b:=w.heap.size+1) (j:=2) (by omega) (Or.inr ⟨by omega,by omega⟩) (.int .i64 by_)) (b:=w.heap.size+1) (j:=3) (by omega) (Or.inr ⟨by omega,by omega⟩) (.slice R n k1)) (S':=T) (fun _ h=>Or.inl h) (show w.heap.size≤w.heap.size+1+1 by omega))
    go_wp2
    refine bodyPost_ret (v:=.agg #[.string ware,.int .i64 lim,.int .i64 by_,.slice R n k1]) (by simp [results,Tryz.results72,go_sem,g7,g8,g9,h0,h4,h5,h6,h7,e3,e4,e5,e6]) rfl ⟨⟨R,k1,rfl,HOO.out⟩,(by have hsz_:=Below.size c9;repeat' (first|with_reducible exact c9|with_reducible exact Below.refl _ _|with_reducible refine Below.alloc ?_ ?_ _|with_reducible refine Below.setCell ?_ ?_ _|with_reducible refine Below.drew ?_|with_reducible refine below_setRow ?_ ?_ _|omega | (simp;done) | (simp;omega)))⟩
end Go.Proofs.YtokpblmgdmokoaaGreat
