import Derived.Test.YtokpblmgdmokoaaGreatAVApart
set_option linter.unusedSimpArgs false
set_option linter.unusedVariables false
namespace Go.Proofs.YtokpblmgdmokoaaGreat
open Go.Lib (hid)
open Go.RowKit Go.Maps
set_option maxRecDepth 1000000 in
theorem vzero (ware:ByteArray) (lim by_:Int) (A:Option Addr) (n k:Nat) (m:Option Nat):(((((Tryz.zeroCells87.setIfInBounds 0 (.string ware)).setIfInBounds 1 (.int .i64 lim)).setIfInBounds 2 (.int .i64 by_)).setIfInBounds 3 (.slice A n k)).setIfInBounds 1604 (.map m))=vcells ware lim by_ A n k (fun _ _=>false) m:=by kernel_rfl
set_option maxRecDepth 100000 in
set_option maxHeartbeats 4000000 in
theorem look_any (ware:ByteArray) (lim by_:Int) (A:Option Addr) (n k:Nat) (ps:List Prt) (w:World) (hr:RdP w A n k ps) (h40:n≤40) (hwf:∀ p∈ps,WfR (colR p)):Calls Tryz.prog 99 #[.agg #[.string ware,.int .i64 lim,.int .i64 by_,.slice A n k]] w fun e w'=>(∃ g bm,e=.returned (.pointer (some ⟨g,0,none⟩))∧Vb w' g ware lim by_ A n k (matAt ps n n 0) (some bm)∧OwnR w' bm ps)∧Below w.heap.size w w':=by
 have HR:=hid hr;have HWF:=hid hwf;clear hr hwf
 go_enter Tryz.func99,Tryz.ntmps99
 obtain ⟨h8,h7⟩:=ent1 w #[.string ware,.int .i64 lim,.int .i64 by_,.slice A n k] 24
 obtain ⟨y2,y3,y4,y5⟩:=at4 h8
 have hmk:∀ w,(Instr.makeMap 85 none).run Tryz.prog w=.ok (.map (some w.heap.size)) (w.alloc (.map #[] 0)):=fun _=>rfl
 clear y2 y3 y4 y5
 obtain ⟨o_,ho_⟩:∃ o,o=((.map #[] 0):Obj):=⟨_,rfl⟩
 replace h7:=bA h7 o_
 replace h8:=kA h8 o_
 subst ho_
 obtain ⟨o_,ho_⟩:∃ o,o=((.cells (vcells ware lim by_ A n k (fun _ _=>false) (some (w.heap.size+1))) 87):Obj):=⟨_,rfl⟩
 replace h7:=bA h7 o_
 replace h8:=kA h8 o_
 subst ho_
 go_wp2
 rw [vzero]
 have HV:=hid (show Vb ((((w.alloc (.cells #[.string ware,.int .i64 lim,.int .i64 by_,.slice A n k] 24)).alloc (.map #[] 0)).alloc (.cells (vcells ware lim by_ A n k (fun _ _=>false) (some (w.heap.size+1))) 87))) (w.heap.size+1+1) ware lim by_ A n k (matAt ps n 0 0) (some (w.heap.size+1)) from by rw [matAt_zero];have h:=Blk.new (((w.alloc (.cells #[.string ware,.int .i64 lim,.int .i64 by_,.slice A n k] 24)).alloc (.map #[] 0))) 87 (vcells ware lim by_ A n k (fun _ _=>false) (some (w.heap.size+1)));simp only [World.size_alloc] at h;exact h)
 have HO:=hid (show OwnR ((((w.alloc (.cells #[.string ware,.int .i64 lim,.int .i64 by_,.slice A n k] 24)).alloc (.map #[] 0)).alloc (.cells (vcells ware lim by_ A n k (fun _ _=>false) (some (w.heap.size+1))) 87))) (w.heap.size+1) [] from by have h:=ownR_made ((w.alloc (.cells #[.string ware,.int .i64 lim,.int .i64 by_,.slice A n k] 24)));simp only [World.size_alloc] at h;exact h.alloc _)
 have HBC:=h8
 have HBE:=h7
 clear hmk h7 h8
 obtain ⟨w2,hw2⟩:∃ v,v=(((w.alloc (.cells #[.string ware,.int .i64 lim,.int .i64 by_,.slice A n k] 24)).alloc (.map #[] 0)).alloc (.cells (vcells ware lim by_ A n k (fun _ _=>false) (some (w.heap.size+1))) 87)):=⟨_,rfl⟩
 rw [← hw2] at HBE HBC HV HO ⊢
 clear hw2
 obtain ⟨g,hg⟩:∃ v,v=w.heap.size+1+1:=⟨_,rfl⟩
 rw [← hg] at HV ⊢
 obtain ⟨bm,hbm⟩:∃ v,v=w.heap.size+1:=⟨_,rfl⟩
 rw [← hbm] at HV HO ⊢
 have HG:=hid (show g≠bm∧w.heap.size≤bm∧w.heap.size≤g∧w.heap.size≠g∧w.heap.size≠bm from ⟨by omega,by omega,by omega,by omega,by omega⟩);clear hg hbm
 go_loopw [16] (fun i wr=>∃ q:Nat,q≤n∧i=.int .i64 q∧Vb wr g ware lim by_ A n k (matAt ps n q 0) (some bm)∧OwnR wr bm (ps.take q)∧Blk wr w.heap.size 24 #[.string ware,.int .i64 lim,.int .i64 by_,.slice A n k]∧Below w.heap.size w wr) (fun i _=>n-(intOf i).toNat)
 case atStart=>exact ⟨0,Nat.zero_le _,rfl,HV.out,HO.out,HBC.out,HBE.out⟩
 case round =>
  clear HV HO HBC HBE
  obtain ⟨q,hq,rfl,hv,hown,hbc,hbe⟩:=hrel
  have HV:=hid hv;have HOWN:=hid hown;have HBC:=hid hbc;clear hv hown hbc
  obtain ⟨wa,rfl⟩:∃ v,v=wr:=⟨wr,rfl⟩
  by_cases hlt:q<n
  · have hlt':(q:Int)<n:=by omega
    have hq4:(q:Int)<40:=by omega
    have hq40:q<40:=by omega
    obtain ⟨b,o,p,x,rfl,hbw,hx,-,g0,g1,g2,g3,g4,g5,g6,g7⟩:=RdP.get HR.out hlt
    have c0:=(hbe.cell (p:=⟨b,_,none⟩) hbw).trans g0
    have c1:=(hbe.cell (p:=⟨b,_,none⟩) hbw).trans g1
    have c2:=(hbe.cell (p:=⟨b,_,none⟩) hbw).trans g2
    have c3:=(hbe.cell (p:=⟨b,_,none⟩) hbw).trans g3
    have c4:=(hbe.cell (p:=⟨b,_,none⟩) hbw).trans g4
    have c5:=(hbe.cell (p:=⟨b,_,none⟩) hbw).trans g5
    have c6:=(hbe.cell (p:=⟨b,_,none⟩) hbw).trans g6
    have c7:=(hbe.cell (p:=⟨b,_,none⟩) hbw).trans g7
    clear g0 g1 g2 g3 g4 g5 g6 g7
    have hbw2:b<wa.heap.size:=Nat.lt_of_lt_of_le hbw hbe.size
    have HBW:=hid hbw;clear hbw
    have htk:ps.take (q+1)=ps.take q++[p]:=by rw [List.take_add_one,hx];rfl
    have HWP:=hid (HWF.out p (List.mem_of_getElem? hx));have HX:=hid hx;have HTK:=hid htk;clear hx htk
    obtain ⟨ft,hft⟩:∃ f,f=p.ft:=⟨_,rfl⟩
    rw [← hft] at c5
    have HFT:=hid hft;clear hft
    obtain ⟨cc,hcc⟩:∃ v,cntR (ps.take q) (colR p)=v:=⟨_,rfl⟩
    have hc40:cc≤40:=by rw [← hcc];exact Nat.le_trans List.countP_le_length (by rw [List.length_take];omega)
    have HCC:=hid hcc;clear hcc
    have HTL:=hid (show (ps.take q).length<100000 by rw [List.length_take];omega)
    have a5:=hid (hbe)
    have HNE:=hid (show wa.heap.size≠g∧wa.heap.size≠bm∧wa.heap.size≠w.heap.size from ⟨Nat.ne_of_gt HV.out.lt,Nat.ne_of_gt HOWN.out.lt,Nat.ne_of_gt HBC.out.lt⟩)
    clear hbe
    obtain ⟨pg,hpg⟩:∃ v,v=wa.heap.size:=⟨_,rfl⟩
    have a6:=hid (show LkR wa bm (colR p) cc from by have h:=OwnR.lk HOWN.out HWP.out;rw [HCC.out] at h;exact h)
    obtain ⟨o_,ho_⟩:∃ o,o=((.cells #[.slice x.A x.n x.c,.int .i64 p.lo,.int .i64 p.hi,.int .i64 p.lb,.int .i64 p.hb,.bool ft,.int .i64 p.fb,.slice x.B x.m x.d] 48):Obj):=⟨_,rfl⟩
    replace a5:=bA a5 o_
    replace HV:=kA HV o_
    replace HOWN:=hid (OwnR.alloc (HOWN.out) (o_))
    replace HBC:=kA HBC o_
    replace a6:=hid (LkR.alloc (a6.out) (o_))
    subst ho_
    have a2:=hid (Blk.new wa 48 #[.slice x.A x.n x.c,.int .i64 p.lo,.int .i64 p.hi,.int .i64 p.lb,.int .i64 p.hb,.bool ft,.int .i64 p.fb,.slice x.B x.m x.d])
    obtain ⟨p3,p4,p5,p6⟩:=at4 HBC
    obtain ⟨p7,p8,p9,q0,q1,q2,q3,q4⟩:=at8 a2
    cases ft
    · have HVV:=hid (show (cc:Int)=(cc:Int)+(if p.ft then 1 else 0) by rw [← HFT.out];simp)
      have hwr:IntKind.i64.wrap ((cc:Int))=(cc:Int):=IntWalk.i64_in _ (by omega)
      go_wp2
      clear p3 p4 p5 p6 p7 p8 p9 q0 q1 q2 q3 q4
      replace a5:=bD a5
      replace HV:=kD HV
      replace HOWN:=hid (OwnR.drew (HOWN.out))
      replace HBC:=kD HBC
      replace a6:=hid (LkR.drew (a6.out))
      replace a2:=kD a2
      refine wp_region_held_drew (S:=(fun W'=>Vb W' g ware lim by_ (some ⟨b,o,none⟩) n k (matAt ps n q 0) (some bm)∧Blk W' (wa.heap.size) 48 #[.slice x.A x.n x.c,.int .i64 p.lo,.int .i64 p.hi,.int .i64 p.lb,.int .i64 p.hb,.bool false,.int .i64 p.fb,.slice x.B x.m x.d])) (by kernel_rfl) ⟨HV.out,a2.out⟩ (fun _=>?_)
      obtain ⟨y6,m7⟩:∃ w',w'=((wa.alloc (.cells #[.slice x.A x.n x.c,.int .i64 p.lo,.int .i64 p.hi,.int .i64 p.lb,.int .i64 p.hb,.bool false,.int .i64 p.fb,.slice x.B x.m x.d] 48)).drew):=⟨_,rfl⟩
      rw [← m7] at a5 HV HOWN HBC a6 a2
      rw [← m7]
      clear m7
      refine' twH 0 ⟨HV.out,a2.out⟩ ?_
      refine' twH 1 ⟨HV.out,a2.out⟩ ?_
      refine' twH 2 ⟨HV.out,a2.out⟩ ?_
      refine' tkH 3 ⟨HV.out,a2.out⟩ ?w6 ?_
      case w6=>(rintro W' ⟨hS0,hS1⟩;have hc0:=Vb.map hS0;clear hS0 hS1;go_simp;try with_reducible rfl)
      try simp only [pq]
      refine' tkH 4 ⟨HV.out,a2.out⟩ ?w7 ?_
      case w7=>(rintro W' ⟨hS0,hS1⟩;have hc0:=Blk.nth hS1 0;have hc1:=Blk.nth hS1 1;have hc2:=Blk.nth hS1 2;have hc3:=Blk.nth hS1 3;have hc4:=Blk.nth hS1 4;have hc5:=Blk.nth hS1 5;have hc6:=Blk.nth hS1 6;have hc7:=Blk.nth hS1 7;clear hS0 hS1;go_simp;try with_reducible rfl)
      refine' twH 7 ⟨HV.out,a2.out⟩ ?_
      try simp only [pq]
      refine oneH 5 rfl fun K hK=>?_
      go_simp
      go_at_call 120
      refine (col0 p x false (y6)).mono ?_
      rintro e z9 ⟨rfl,a8⟩
      dsimp only
      replace a8:=hid a8
      replace HV:=kH HV a8
      replace a2:=kH a2 a8
      refine hK.out _ _ ⟨HV.out,a2.out⟩ (fun _=>?_);clear hK K
      try simp only [pq]
      refine wpAnyH_ready (rs:=[6,9]) (by kernel_rfl) (by simp) ?_
      refine rdH rfl (fun K hK=>?_) ?_
      · -- 6: lookup
       replace a6:=hid (LkR.keep (a6.out) a8.out)
       have hlk_:=LkR.look (a6.out)
       go_simp
       clear hlk_
       refine hK.out _ _ ⟨HV.out,a2.out⟩ (fun _=>?_);clear hK K
       try simp only [pq]
       refine' twH 8 ⟨HV.out,a2.out⟩ ?_
       try simp only [pq]
       refine oneH 9 rfl fun K hK=>?_
       replace HOWN:=hid (OwnR.keep (HOWN.out) a8.out)
       replace HBC:=kH HBC a8
       replace a5:=bH a5 a8
       obtain ⟨st86,we87,he_,hlk_,ht1_,we88,hs_,ho_,ht2_⟩:=OwnR.entryN (HOWN.out) HTL.out HWP.out cc HCC.out ((cc:Int)) HVV.out
       go_simp
       have hs89:=hid hs_
       have ho90:=hid ho_
       have q6:=hid (blk_turned (HV.out) ht1_)
       have q7:=hid (blk_turned (HV.out) ht2_)
       have q8:=hid (blk_turned (a2.out) ht1_)
       have q5:=hid (blk_turned (a2.out) ht2_)
       have y7:=hid (blk_turned (HBC.out) ht1_)
       have q9:=hid (blk_turned (HBC.out) ht2_)
       have y8:=hid (bel_turned (a5.out) HG.out.2.1 ht1_)
       have w8:=hid (bel_turned (a5.out) HG.out.2.1 ht2_)
       have y9:=hid hlk_
       clear he_ hlk_ ht1_ hs_ ho_ ht2_ a5 HV HOWN HBC a6 a2
       refine hK.out _ _ ⟨q6.out,q8.out⟩ (fun _=>?_);clear hK K
       try simp only [pq]
       refine' twH 10 ⟨q6.out,q8.out⟩ ?_
       try simp only [pq]
       refine oneH 11 rfl fun K hK=>?_
       have hs_:=hs89.out
       go_simp
       clear hs_ hs89 q6 q8 y7 y8 y9
       refine hK.out _ _ ⟨q7.out,q5.out⟩ (fun _=>?_);clear hK K
       try simp only [pq]
       refine wpAnyH_done (by kernel_rfl) ?_ _
       obtain ⟨h9,i0,i1,i2⟩:=at4 q9
       obtain ⟨i3,i4,i5,i6,i7,i8,i9,j0⟩:=at8 q5
       go_wp2
       clear h9 i0 i1 i2 i3 i4 i5 i6 i7 i8 i9 j0
       go_loopw [37] (fun i wr=>∃ r:Nat,r≤n∧i=.int .i64 r∧Vb wr g ware lim by_ (some ⟨b,o,none⟩) n k (matAt ps n q r) (some bm)∧OwnR wr bm (ps.take q++[p])∧Blk wr wa.heap.size 48 #[.slice x.A x.n x.c,.int .i64 p.lo,.int .i64 p.hi,.int .i64 p.lb,.int .i64 p.hb,.bool false,.int .i64 p.fb,.slice x.B x.m x.d]∧Blk wr w.heap.size 24 #[.string ware,.int .i64 lim,.int .i64 by_,.slice (some ⟨b,o,none⟩) n k]∧Below w.heap.size w wr) (fun i _=>n-(intOf i).toNat)
       case atStart=>exact ⟨0,Nat.zero_le _,rfl,q7.out,ho90.out,q5.out,q9.out,w8.out⟩
       case round =>
        clear q7 q5 q9 w8 ho90
        obtain ⟨r,hr,rfl,hv,hown,hpb,hbc,hbe⟩:=hrel
        have HV:=hid hv;have HOWN:=hid hown;have HPB:=hid hpb;have HBC:=hid hbc;clear hv hown hpb hbc
        by_cases hrt:r<n
        · have hrt':(r:Int)<n:=by omega
          have hr4:(r:Int)<40:=by omega
          have hr40:r<40:=by omega
          obtain ⟨p2,y,hbw,hx2,-,g0,g1,g2,g3,g4,g5,g6,g7⟩:=RdP.at HR.out hrt
          have d0:=(hbe.cell (p:=⟨b,_,none⟩) hbw).trans g0
          have d1:=(hbe.cell (p:=⟨b,_,none⟩) hbw).trans g1
          have d2:=(hbe.cell (p:=⟨b,_,none⟩) hbw).trans g2
          have d3:=(hbe.cell (p:=⟨b,_,none⟩) hbw).trans g3
          have d4:=(hbe.cell (p:=⟨b,_,none⟩) hbw).trans g4
          have d5:=(hbe.cell (p:=⟨b,_,none⟩) hbw).trans g5
          have d6:=(hbe.cell (p:=⟨b,_,none⟩) hbw).trans g6
          have d7:=(hbe.cell (p:=⟨b,_,none⟩) hbw).trans g7
          clear g0 g1 g2 g3 g4 g5 g6 g7
          have hbw3:b<wr.heap.size:=Nat.lt_of_lt_of_le hbw hbe.size
          clear hbw
          have HX2:=hid hx2;clear hx2
          obtain ⟨ft2,hft2⟩:∃ f,f=p2.ft:=⟨_,rfl⟩
          rw [← hft2] at d5
          have HFT2:=hid hft2;clear hft2
          have a3:=hid (hbe)
          clear hbe
          have HNE2:=hid (show wr.heap.size≠g∧wr.heap.size≠bm from ⟨Nat.ne_of_gt HV.out.lt,Nat.ne_of_gt HOWN.out.lt⟩)
          obtain ⟨vv,hvv⟩:∃ v,((false&&ft2) || decide (p.hi<p2.lo) || decide (p2.hi<p.lo))=v:=⟨_,rfl⟩
          have HAP:=hid hvv;clear hvv
          obtain ⟨o_,ho_⟩:∃ o,o=((.cells #[.slice y.A y.n y.c,.int .i64 p2.lo,.int .i64 p2.hi,.int .i64 p2.lb,.int .i64 p2.hb,.bool ft2,.int .i64 p2.fb,.slice y.B y.m y.d] 48):Obj):=⟨_,rfl⟩
          replace a3:=bA a3 o_
          replace HV:=kA HV o_
          replace HOWN:=hid (OwnR.alloc (HOWN.out) (o_))
          replace HBC:=kA HBC o_
          replace HPB:=kA HPB o_
          subst ho_
          have a0:=hid (Blk.new wr 48 #[.slice y.A y.n y.c,.int .i64 p2.lo,.int .i64 p2.hi,.int .i64 p2.lb,.int .i64 p2.hb,.bool ft2,.int .i64 p2.fb,.slice y.B y.m y.d])
          obtain ⟨b3,b4,b5,b6⟩:=at4 HBC
          obtain ⟨b7,b8,b9,c8,c9,d8,d9,e0⟩:=at8 HPB
          obtain ⟨e1,e2,e3,e4,e5,e6,e7,e8⟩:=at8 a0
          by_cases hqr:q=r
          · subst hqr
            have HCL:=hid (show false=clN ps q q by unfold clN;rw [decide_eq_false (by simp),Bool.false_and])
            go_wp2
            clear b3 b4 b5 b6 b7 b8 b9 c8 c9 d8 d9 e0 e1 e2 e3 e4 e5 e6 e7 e8
            replace a3:=bD a3
            replace HV:=kD HV
            replace HOWN:=hid (OwnR.drew (HOWN.out))
            replace HBC:=kD HBC
            replace HPB:=kD HPB
            replace a0:=kD a0
            refine wp_region_held_drew (S:=(fun W'=>Blk W' (wa.heap.size) 48 #[.slice x.A x.n x.c,.int .i64 p.lo,.int .i64 p.hi,.int .i64 p.lb,.int .i64 p.hb,.bool false,.int .i64 p.fb,.slice x.B x.m x.d]∧Blk W' (wr.heap.size) 48 #[.slice y.A y.n y.c,.int .i64 p2.lo,.int .i64 p2.hi,.int .i64 p2.lb,.int .i64 p2.hb,.bool ft2,.int .i64 p2.fb,.slice y.B y.m y.d])) (by kernel_rfl) ⟨HPB.out,a0.out⟩ (fun _=>?_)
            obtain ⟨m8,k7⟩:∃ w',w'=((wr.alloc (.cells #[.slice y.A y.n y.c,.int .i64 p2.lo,.int .i64 p2.hi,.int .i64 p2.lb,.int .i64 p2.hb,.bool ft2,.int .i64 p2.fb,.slice y.B y.m y.d] 48)).drew):=⟨_,rfl⟩
            rw [← k7] at a3 HV HOWN HBC HPB a0
            rw [← k7]
            clear k7
            refine' twH 0 ⟨HPB.out,a0.out⟩ ?_
            refine' twH 1 ⟨HPB.out,a0.out⟩ ?_
            refine' twH 2 ⟨HPB.out,a0.out⟩ ?_
            refine' twH 3 ⟨HPB.out,a0.out⟩ ?_
            try simp only [pq]
            refine' twH 4 ⟨HPB.out,a0.out⟩ ?_
            refine' twH 5 ⟨HPB.out,a0.out⟩ ?_
            refine' twH 6 ⟨HPB.out,a0.out⟩ ?_
            refine' tkNH 7 ⟨HPB.out,a0.out⟩ ?_
            try simp only [pq]
            refine' tkNH 8 ⟨HPB.out,a0.out⟩ ?_
            refine' tkNH 9 ⟨HPB.out,a0.out⟩ ?_
            refine' twH 10 ⟨HPB.out,a0.out⟩ ?_
            refine' twH 11 ⟨HPB.out,a0.out⟩ ?_
            try simp only [pq]
            refine' twH 12 ⟨HPB.out,a0.out⟩ ?_
            refine' twH 13 ⟨HPB.out,a0.out⟩ ?_
            refine' twH 14 ⟨HPB.out,a0.out⟩ ?_
            try simp only [pq]
            refine oneH 15 rfl fun K hK=>?_
            have zc_:(m8).cell? ⟨g,4+q * 40+q,none⟩=some (.bool (matAt ps n q q q q)):=Vb.at (HV.out) hq40 hq40
            have zf_:=Vb.frozen (HV.out) (4+q * 40+q)
            have zl_:=Blk.lt (HV.out)
            go_simp
            have r0:=hid (show Vb ((m8).setCell ⟨g,4+q * 40+q,none⟩ (.bool false)) g ware lim by_ (some ⟨b,o,none⟩) n k (matAt ps n q (q+1)) (some bm) from (by have h:=Vb.set (HV.out) hq40 hq40 false;rw [matAt_step _ _ HCL.out] at h;exact h))
            have m9:=hid (Blk.far (HPB.out) (p:=⟨g,4+q * 40+q,none⟩) HNE.out.1 (.bool false))
            have r1:=hid (Blk.far (a0.out) (p:=⟨g,4+q * 40+q,none⟩) HNE2.out.1 (.bool false))
            have r2:=hid (Blk.far (HBC.out) (p:=⟨g,4+q * 40+q,none⟩) HG.out.2.2.2.1 (.bool false))
            have r3:=hid (OwnR.far (HOWN.out) (a:=⟨g,4+q * 40+q,none⟩) (Ne.symm HG.out.1) (.bool false))
            have r4:=hid (Below.setCell (a3.out) (p:=⟨g,4+q * 40+q,none⟩) HG.out.2.2.1 (.bool false))
            obtain ⟨z0,k8⟩:∃ w',w'=((m8).setCell ⟨g,4+q * 40+q,none⟩ (.bool false)):=⟨_,rfl⟩
            rw [← k8] at r0 m9 r1 r2 r3 r4
            rw [← k8]
            clear k8 zc_ zf_ zl_ a3 HV HOWN HBC HPB a0
            refine hK.out _ _ ⟨m9.out,r1.out⟩ (fun _=>?_);clear hK K
            try simp only [pq]
            refine wpAnyH_done (by kernel_rfl) ?_ _
            go_wp2
            go_roundw
            case rel=>exact ⟨q+1,by omega,by go_num,r0.out,r3.out,m9.out,r2.out,r4.out⟩
            case measure=>simp [intOf];omega
          · have hne:((q:Int) != (r:Int))=true:=by simp;omega
            have HCL:=hid (show vv=clN ps q r by rw [← HAP.out,HFT.out,HFT2.out];unfold clN apB;rw [List.getD_eq_getElem?_getD,List.getD_eq_getElem?_getD,HX.out,HX2.out,decide_eq_true hqr];rfl)
            go_wp2
            clear b3 b4 b5 b6 b7 b8 b9 c8 c9 d8 d9 e0 e1 e2 e3 e4 e5 e6 e7 e8
            replace a3:=bD a3
            replace HV:=kD HV
            replace HOWN:=hid (OwnR.drew (HOWN.out))
            replace HBC:=kD HBC
            replace HPB:=kD HPB
            replace a0:=kD a0
            refine wp_region_held_drew (S:=(fun W'=>Blk W' (wa.heap.size) 48 #[.slice x.A x.n x.c,.int .i64 p.lo,.int .i64 p.hi,.int .i64 p.lb,.int .i64 p.hb,.bool false,.int .i64 p.fb,.slice x.B x.m x.d]∧Blk W' (wr.heap.size) 48 #[.slice y.A y.n y.c,.int .i64 p2.lo,.int .i64 p2.hi,.int .i64 p2.lb,.int .i64 p2.hb,.bool ft2,.int .i64 p2.fb,.slice y.B y.m y.d])) (by kernel_rfl) ⟨HPB.out,a0.out⟩ (fun _=>?_)
            obtain ⟨w9,k9⟩:∃ w',w'=((wr.alloc (.cells #[.slice y.A y.n y.c,.int .i64 p2.lo,.int .i64 p2.hi,.int .i64 p2.lb,.int .i64 p2.hb,.bool ft2,.int .i64 p2.fb,.slice y.B y.m y.d] 48)).drew):=⟨_,rfl⟩
            rw [← k9] at a3 HV HOWN HBC HPB a0
            rw [← k9]
            clear k9
            refine' twH 0 ⟨HPB.out,a0.out⟩ ?_
            refine' twH 1 ⟨HPB.out,a0.out⟩ ?_
            refine' twH 2 ⟨HPB.out,a0.out⟩ ?_
            refine' twH 3 ⟨HPB.out,a0.out⟩ ?_
            try simp only [pq]
            refine' twH 4 ⟨HPB.out,a0.out⟩ ?_
            refine' twH 5 ⟨HPB.out,a0.out⟩ ?_
            refine' twH 6 ⟨HPB.out,a0.out⟩ ?_
            refine' tkH 7 ⟨HPB.out,a0.out⟩ ?r5 ?_
            case r5=>(rintro W' ⟨hS0,hS1⟩;have hc0:=Blk.nth hS0 0;have hc1:=Blk.nth hS0 1;have hc2:=Blk.nth hS0 2;have hc3:=Blk.nth hS0 3;have hc4:=Blk.nth hS0 4;have hc5:=Blk.nth hS0 5;have hc6:=Blk.nth hS0 6;have hc7:=Blk.nth hS0 7;clear hS0 hS1;go_simp;try with_reducible rfl)
            try simp only [pq]
            refine' tkH 8 ⟨HPB.out,a0.out⟩ ?r6 ?_
            case r6=>(rintro W' ⟨hS0,hS1⟩;have hc0:=Blk.nth hS1 0;have hc1:=Blk.nth hS1 1;have hc2:=Blk.nth hS1 2;have hc3:=Blk.nth hS1 3;have hc4:=Blk.nth hS1 4;have hc5:=Blk.nth hS1 5;have hc6:=Blk.nth hS1 6;have hc7:=Blk.nth hS1 7;clear hS0 hS1;go_simp;try with_reducible rfl)
            refine' twH 11 ⟨HPB.out,a0.out⟩ ?_
            refine' twH 12 ⟨HPB.out,a0.out⟩ ?_
            refine' twH 13 ⟨HPB.out,a0.out⟩ ?_
            try simp only [pq]
            refine oneH 9 rfl fun K hK=>?_
            go_simp
            go_at_call 125
            refine (apart_is p p2 x y false ft2 (w9) vv HAP.out).mono ?_
            rintro e n0 ⟨rfl,a9⟩
            dsimp only
            replace a9:=hid a9
            replace HPB:=kH HPB a9
            replace a0:=kH a0 a9
            refine hK.out _ _ ⟨HPB.out,a0.out⟩ (fun _=>?_);clear hK K
            try simp only [pq]
            refine' twH 10 ⟨HPB.out,a0.out⟩ ?_
            refine' twH 14 ⟨HPB.out,a0.out⟩ ?_
            try simp only [pq]
            refine oneH 15 rfl fun K hK=>?_
            replace HV:=kH HV a9
            replace HBC:=kH HBC a9
            replace HOWN:=hid (OwnR.keep (HOWN.out) a9.out)
            replace a3:=bH a3 a9
            have zc_:(n0).cell? ⟨g,4+q * 40+r,none⟩=some (.bool (matAt ps n q r q r)):=Vb.at (HV.out) hq40 hr40
            have zf_:=Vb.frozen (HV.out) (4+q * 40+r)
            have zl_:=Blk.lt (HV.out)
            go_simp
            have r7:=hid (show Vb ((n0).setCell ⟨g,4+q * 40+r,none⟩ (.bool vv)) g ware lim by_ (some ⟨b,o,none⟩) n k (matAt ps n q (r+1)) (some bm) from (by have h:=Vb.set (HV.out) hq40 hr40 vv;rw [matAt_step _ _ HCL.out] at h;exact h))
            have n1:=hid (Blk.far (HPB.out) (p:=⟨g,4+q * 40+r,none⟩) HNE.out.1 (.bool vv))
            have r8:=hid (Blk.far (a0.out) (p:=⟨g,4+q * 40+r,none⟩) HNE2.out.1 (.bool vv))
            have r9:=hid (Blk.far (HBC.out) (p:=⟨g,4+q * 40+r,none⟩) HG.out.2.2.2.1 (.bool vv))
            have s0:=hid (OwnR.far (HOWN.out) (a:=⟨g,4+q * 40+r,none⟩) (Ne.symm HG.out.1) (.bool vv))
            have s1:=hid (Below.setCell (a3.out) (p:=⟨g,4+q * 40+r,none⟩) HG.out.2.2.1 (.bool vv))
            obtain ⟨z1,l0⟩:∃ w',w'=((n0).setCell ⟨g,4+q * 40+r,none⟩ (.bool vv)):=⟨_,rfl⟩
            rw [← l0] at r7 n1 r8 r9 s0 s1
            rw [← l0]
            clear l0 zc_ zf_ zl_ a3 HV HOWN HBC HPB a0
            refine hK.out _ _ ⟨n1.out,r8.out⟩ (fun _=>?_);clear hK K
            try simp only [pq]
            refine wpAnyH_done (by kernel_rfl) ?_ _
            go_wp2
            go_roundw
            case rel=>exact ⟨r+1,by omega,by go_num,r7.out,s0.out,n1.out,r9.out,s1.out⟩
            case measure=>simp [intOf];omega
        · obtain rfl:r=n:=by omega
          have HBE:=hid hbe;clear hbe
          go_wp2
          go_roundw
          case rel=>exact ⟨q+1,by omega,by go_num,by rw [← matAt_row];exact HV.out,by rw [HTK.out];exact HOWN.out,HBC.out,HBE.out⟩
          case measure=>simp [intOf];omega
      refine rdH rfl (fun K hK=>?_) ?_
      · -- 9: mapEntry
       replace HOWN:=hid (OwnR.keep (HOWN.out) a8.out)
       replace a6:=hid (LkR.keep (a6.out) a8.out)
       replace HBC:=kH HBC a8
       replace a5:=bH a5 a8
       obtain ⟨st152,we153,he_,hlk_,ht1_,we154,hs_,ho_,ht2_⟩:=OwnR.entryN (HOWN.out) HTL.out HWP.out cc HCC.out ((cc:Int)) HVV.out
       go_simp
       have hs155:=hid hs_
       have ho156:=hid ho_
       have j1:=hid (blk_turned (HV.out) ht1_)
       have n2:=hid (blk_turned (HV.out) ht2_)
       have j2:=hid (blk_turned (a2.out) ht1_)
       have l1:=hid (blk_turned (a2.out) ht2_)
       have x0:=hid (blk_turned (HBC.out) ht1_)
       have n3:=hid (blk_turned (HBC.out) ht2_)
       have x1:=hid (bel_turned (a5.out) HG.out.2.1 ht1_)
       have s2:=hid (bel_turned (a5.out) HG.out.2.1 ht2_)
       have s3:=hid hlk_
       clear he_ hlk_ ht1_ hs_ ho_ ht2_ a5 HV HOWN HBC a6 a2
       refine hK.out _ _ ⟨j1.out,j2.out⟩ (fun _=>?_);clear hK K
       try simp only [pq]
       refine' twH 10 ⟨j1.out,j2.out⟩ ?_
       try simp only [pq]
       refine oneH 6 rfl fun K hK=>?_
       have hlk_:=LkR.look (s3.out)
       go_simp
       clear hlk_
       refine hK.out _ _ ⟨j1.out,j2.out⟩ (fun _=>?_);clear hK K
       try simp only [pq]
       refine' twH 8 ⟨j1.out,j2.out⟩ ?_
       try simp only [pq]
       refine oneH 11 rfl fun K hK=>?_
       have hs_:=hs155.out
       go_simp
       clear hs_ hs155 j1 j2 x0 x1 s3
       refine hK.out _ _ ⟨n2.out,l1.out⟩ (fun _=>?_);clear hK K
       try simp only [pq]
       refine wpAnyH_done (by kernel_rfl) ?_ _
       obtain ⟨h9,i0,i1,i2⟩:=at4 n3
       obtain ⟨i3,i4,i5,i6,i7,i8,i9,j0⟩:=at8 l1
       go_wp2
       clear h9 i0 i1 i2 i3 i4 i5 i6 i7 i8 i9 j0
       go_loopw [37] (fun i wr=>∃ r:Nat,r≤n∧i=.int .i64 r∧Vb wr g ware lim by_ (some ⟨b,o,none⟩) n k (matAt ps n q r) (some bm)∧OwnR wr bm (ps.take q++[p])∧Blk wr wa.heap.size 48 #[.slice x.A x.n x.c,.int .i64 p.lo,.int .i64 p.hi,.int .i64 p.lb,.int .i64 p.hb,.bool false,.int .i64 p.fb,.slice x.B x.m x.d]∧Blk wr w.heap.size 24 #[.string ware,.int .i64 lim,.int .i64 by_,.slice (some ⟨b,o,none⟩) n k]∧Below w.heap.size w wr) (fun i _=>n-(intOf i).toNat)
       case atStart=>exact ⟨0,Nat.zero_le _,rfl,n2.out,ho156.out,l1.out,n3.out,s2.out⟩
       case round =>
        clear n2 l1 n3 s2 ho156
        obtain ⟨r,hr,rfl,hv,hown,hpb,hbc,hbe⟩:=hrel
        have HV:=hid hv;have HOWN:=hid hown;have HPB:=hid hpb;have HBC:=hid hbc;clear hv hown hpb hbc
        by_cases hrt:r<n
        · have hrt':(r:Int)<n:=by omega
          have hr4:(r:Int)<40:=by omega
          have hr40:r<40:=by omega
          obtain ⟨p2,y,hbw,hx2,-,g0,g1,g2,g3,g4,g5,g6,g7⟩:=RdP.at HR.out hrt
          have d0:=(hbe.cell (p:=⟨b,_,none⟩) hbw).trans g0
          have d1:=(hbe.cell (p:=⟨b,_,none⟩) hbw).trans g1
          have d2:=(hbe.cell (p:=⟨b,_,none⟩) hbw).trans g2
          have d3:=(hbe.cell (p:=⟨b,_,none⟩) hbw).trans g3
          have d4:=(hbe.cell (p:=⟨b,_,none⟩) hbw).trans g4
          have d5:=(hbe.cell (p:=⟨b,_,none⟩) hbw).trans g5
          have d6:=(hbe.cell (p:=⟨b,_,none⟩) hbw).trans g6
          have d7:=(hbe.cell (p:=⟨b,_,none⟩) hbw).trans g7
          clear g0 g1 g2 g3 g4 g5 g6 g7
          have hbw3:b<wr.heap.size:=Nat.lt_of_lt_of_le hbw hbe.size
          clear hbw
          have HX2:=hid hx2;clear hx2
          obtain ⟨ft2,hft2⟩:∃ f,f=p2.ft:=⟨_,rfl⟩
          rw [← hft2] at d5
          have HFT2:=hid hft2;clear hft2
          have a3:=hid (hbe)
          clear hbe
          have HNE2:=hid (show wr.heap.size≠g∧wr.heap.size≠bm from ⟨Nat.ne_of_gt HV.out.lt,Nat.ne_of_gt HOWN.out.lt⟩)
          obtain ⟨vv,hvv⟩:∃ v,((false&&ft2) || decide (p.hi<p2.lo) || decide (p2.hi<p.lo))=v:=⟨_,rfl⟩
          have HAP:=hid hvv;clear hvv
          obtain ⟨o_,ho_⟩:∃ o,o=((.cells #[.slice y.A y.n y.c,.int .i64 p2.lo,.int .i64 p2.hi,.int .i64 p2.lb,.int .i64 p2.hb,.bool ft2,.int .i64 p2.fb,.slice y.B y.m y.d] 48):Obj):=⟨_,rfl⟩
          replace a3:=bA a3 o_
          replace HV:=kA HV o_
          replace HOWN:=hid (OwnR.alloc (HOWN.out) (o_))
          replace HBC:=kA HBC o_
          replace HPB:=kA HPB o_
          subst ho_
          have a0:=hid (Blk.new wr 48 #[.slice y.A y.n y.c,.int .i64 p2.lo,.int .i64 p2.hi,.int .i64 p2.lb,.int .i64 p2.hb,.bool ft2,.int .i64 p2.fb,.slice y.B y.m y.d])
          obtain ⟨b3,b4,b5,b6⟩:=at4 HBC
          obtain ⟨b7,b8,b9,c8,c9,d8,d9,e0⟩:=at8 HPB
          obtain ⟨e1,e2,e3,e4,e5,e6,e7,e8⟩:=at8 a0
          by_cases hqr:q=r
          · subst hqr
            have HCL:=hid (show false=clN ps q q by unfold clN;rw [decide_eq_false (by simp),Bool.false_and])
            go_wp2
            clear b3 b4 b5 b6 b7 b8 b9 c8 c9 d8 d9 e0 e1 e2 e3 e4 e5 e6 e7 e8
            replace a3:=bD a3
            replace HV:=kD HV
            replace HOWN:=hid (OwnR.drew (HOWN.out))
            replace HBC:=kD HBC
            replace HPB:=kD HPB
            replace a0:=kD a0
            refine wp_region_held_drew (S:=(fun W'=>Blk W' (wa.heap.size) 48 #[.slice x.A x.n x.c,.int .i64 p.lo,.int .i64 p.hi,.int .i64 p.lb,.int .i64 p.hb,.bool false,.int .i64 p.fb,.slice x.B x.m x.d]∧Blk W' (wr.heap.size) 48 #[.slice y.A y.n y.c,.int .i64 p2.lo,.int .i64 p2.hi,.int .i64 p2.lb,.int .i64 p2.hb,.bool ft2,.int .i64 p2.fb,.slice y.B y.m y.d])) (by kernel_rfl) ⟨HPB.out,a0.out⟩ (fun _=>?_)
            obtain ⟨n4,l2⟩:∃ w',w'=((wr.alloc (.cells #[.slice y.A y.n y.c,.int .i64 p2.lo,.int .i64 p2.hi,.int .i64 p2.lb,.int .i64 p2.hb,.bool ft2,.int .i64 p2.fb,.slice y.B y.m y.d] 48)).drew):=⟨_,rfl⟩
            rw [← l2] at a3 HV HOWN HBC HPB a0
            rw [← l2]
            clear l2
            refine' twH 0 ⟨HPB.out,a0.out⟩ ?_
            refine' twH 1 ⟨HPB.out,a0.out⟩ ?_
            refine' twH 2 ⟨HPB.out,a0.out⟩ ?_
            refine' twH 3 ⟨HPB.out,a0.out⟩ ?_
            try simp only [pq]
            refine' twH 4 ⟨HPB.out,a0.out⟩ ?_
            refine' twH 5 ⟨HPB.out,a0.out⟩ ?_
            refine' twH 6 ⟨HPB.out,a0.out⟩ ?_
            refine' tkNH 7 ⟨HPB.out,a0.out⟩ ?_
            try simp only [pq]
            refine' tkNH 8 ⟨HPB.out,a0.out⟩ ?_
            refine' tkNH 9 ⟨HPB.out,a0.out⟩ ?_
            refine' twH 10 ⟨HPB.out,a0.out⟩ ?_
            refine' twH 11 ⟨HPB.out,a0.out⟩ ?_
            try simp only [pq]
            refine' twH 12 ⟨HPB.out,a0.out⟩ ?_
            refine' twH 13 ⟨HPB.out,a0.out⟩ ?_
            refine' twH 14 ⟨HPB.out,a0.out⟩ ?_
            try simp only [pq]
            refine oneH 15 rfl fun K hK=>?_
            have zc_:(n4).cell? ⟨g,4+q * 40+q,none⟩=some (.bool (matAt ps n q q q q)):=Vb.at (HV.out) hq40 hq40
            have zf_:=Vb.frozen (HV.out) (4+q * 40+q)
            have zl_:=Blk.lt (HV.out)
            go_simp
            have s4:=hid (show Vb ((n4).setCell ⟨g,4+q * 40+q,none⟩ (.bool false)) g ware lim by_ (some ⟨b,o,none⟩) n k (matAt ps n q (q+1)) (some bm) from (by have h:=Vb.set (HV.out) hq40 hq40 false;rw [matAt_step _ _ HCL.out] at h;exact h))
            have n5:=hid (Blk.far (HPB.out) (p:=⟨g,4+q * 40+q,none⟩) HNE.out.1 (.bool false))
            have s5:=hid (Blk.far (a0.out) (p:=⟨g,4+q * 40+q,none⟩) HNE2.out.1 (.bool false))
            have s6:=hid (Blk.far (HBC.out) (p:=⟨g,4+q * 40+q,none⟩) HG.out.2.2.2.1 (.bool false))
            have s7:=hid (OwnR.far (HOWN.out) (a:=⟨g,4+q * 40+q,none⟩) (Ne.symm HG.out.1) (.bool false))
            have s8:=hid (Below.setCell (a3.out) (p:=⟨g,4+q * 40+q,none⟩) HG.out.2.2.1 (.bool false))
            obtain ⟨z2,l3⟩:∃ w',w'=((n4).setCell ⟨g,4+q * 40+q,none⟩ (.bool false)):=⟨_,rfl⟩
            rw [← l3] at s4 n5 s5 s6 s7 s8
            rw [← l3]
            clear l3 zc_ zf_ zl_ a3 HV HOWN HBC HPB a0
            refine hK.out _ _ ⟨n5.out,s5.out⟩ (fun _=>?_);clear hK K
            try simp only [pq]
            refine wpAnyH_done (by kernel_rfl) ?_ _
            go_wp2
            go_roundw
            case rel=>exact ⟨q+1,by omega,by go_num,s4.out,s7.out,n5.out,s6.out,s8.out⟩
            case measure=>simp [intOf];omega
          · have hne:((q:Int) != (r:Int))=true:=by simp;omega
            have HCL:=hid (show vv=clN ps q r by rw [← HAP.out,HFT.out,HFT2.out];unfold clN apB;rw [List.getD_eq_getElem?_getD,List.getD_eq_getElem?_getD,HX.out,HX2.out,decide_eq_true hqr];rfl)
            go_wp2
            clear b3 b4 b5 b6 b7 b8 b9 c8 c9 d8 d9 e0 e1 e2 e3 e4 e5 e6 e7 e8
            replace a3:=bD a3
            replace HV:=kD HV
            replace HOWN:=hid (OwnR.drew (HOWN.out))
            replace HBC:=kD HBC
            replace HPB:=kD HPB
            replace a0:=kD a0
            refine wp_region_held_drew (S:=(fun W'=>Blk W' (wa.heap.size) 48 #[.slice x.A x.n x.c,.int .i64 p.lo,.int .i64 p.hi,.int .i64 p.lb,.int .i64 p.hb,.bool false,.int .i64 p.fb,.slice x.B x.m x.d]∧Blk W' (wr.heap.size) 48 #[.slice y.A y.n y.c,.int .i64 p2.lo,.int .i64 p2.hi,.int .i64 p2.lb,.int .i64 p2.hb,.bool ft2,.int .i64 p2.fb,.slice y.B y.m y.d])) (by kernel_rfl) ⟨HPB.out,a0.out⟩ (fun _=>?_)
            obtain ⟨x2,l4⟩:∃ w',w'=((wr.alloc (.cells #[.slice y.A y.n y.c,.int .i64 p2.lo,.int .i64 p2.hi,.int .i64 p2.lb,.int .i64 p2.hb,.bool ft2,.int .i64 p2.fb,.slice y.B y.m y.d] 48)).drew):=⟨_,rfl⟩
            rw [← l4] at a3 HV HOWN HBC HPB a0
            rw [← l4]
            clear l4
            refine' twH 0 ⟨HPB.out,a0.out⟩ ?_
            refine' twH 1 ⟨HPB.out,a0.out⟩ ?_
            refine' twH 2 ⟨HPB.out,a0.out⟩ ?_
            refine' twH 3 ⟨HPB.out,a0.out⟩ ?_
            try simp only [pq]
            refine' twH 4 ⟨HPB.out,a0.out⟩ ?_
            refine' twH 5 ⟨HPB.out,a0.out⟩ ?_
            refine' twH 6 ⟨HPB.out,a0.out⟩ ?_
            refine' tkH 7 ⟨HPB.out,a0.out⟩ ?s9 ?_
            case s9=>(rintro W' ⟨hS0,hS1⟩;have hc0:=Blk.nth hS0 0;have hc1:=Blk.nth hS0 1;have hc2:=Blk.nth hS0 2;have hc3:=Blk.nth hS0 3;have hc4:=Blk.nth hS0 4;have hc5:=Blk.nth hS0 5;have hc6:=Blk.nth hS0 6;have hc7:=Blk.nth hS0 7;clear hS0 hS1;go_simp;try with_reducible rfl)
            try simp only [pq]
            refine' tkH 8 ⟨HPB.out,a0.out⟩ ?t0 ?_
            case t0=>(rintro W' ⟨hS0,hS1⟩;have hc0:=Blk.nth hS1 0;have hc1:=Blk.nth hS1 1;have hc2:=Blk.nth hS1 2;have hc3:=Blk.nth hS1 3;have hc4:=Blk.nth hS1 4;have hc5:=Blk.nth hS1 5;have hc6:=Blk.nth hS1 6;have hc7:=Blk.nth hS1 7;clear hS0 hS1;go_simp;try with_reducible rfl)
            refine' twH 11 ⟨HPB.out,a0.out⟩ ?_
            refine' twH 12 ⟨HPB.out,a0.out⟩ ?_
            refine' twH 13 ⟨HPB.out,a0.out⟩ ?_
            try simp only [pq]
            refine oneH 9 rfl fun K hK=>?_
            go_simp
            go_at_call 125
            refine (apart_is p p2 x y false ft2 (x2) vv HAP.out).mono ?_
            rintro e n6 ⟨rfl,b0⟩
            dsimp only
            replace b0:=hid b0
            replace HPB:=kH HPB b0
            replace a0:=kH a0 b0
            refine hK.out _ _ ⟨HPB.out,a0.out⟩ (fun _=>?_);clear hK K
            try simp only [pq]
            refine' twH 10 ⟨HPB.out,a0.out⟩ ?_
            refine' twH 14 ⟨HPB.out,a0.out⟩ ?_
            try simp only [pq]
            refine oneH 15 rfl fun K hK=>?_
            replace HV:=kH HV b0
            replace HBC:=kH HBC b0
            replace HOWN:=hid (OwnR.keep (HOWN.out) b0.out)
            replace a3:=bH a3 b0
            have zc_:(n6).cell? ⟨g,4+q * 40+r,none⟩=some (.bool (matAt ps n q r q r)):=Vb.at (HV.out) hq40 hr40
            have zf_:=Vb.frozen (HV.out) (4+q * 40+r)
            have zl_:=Blk.lt (HV.out)
            go_simp
            have t1:=hid (show Vb ((n6).setCell ⟨g,4+q * 40+r,none⟩ (.bool vv)) g ware lim by_ (some ⟨b,o,none⟩) n k (matAt ps n q (r+1)) (some bm) from (by have h:=Vb.set (HV.out) hq40 hr40 vv;rw [matAt_step _ _ HCL.out] at h;exact h))
            have n7:=hid (Blk.far (HPB.out) (p:=⟨g,4+q * 40+r,none⟩) HNE.out.1 (.bool vv))
            have t2:=hid (Blk.far (a0.out) (p:=⟨g,4+q * 40+r,none⟩) HNE2.out.1 (.bool vv))
            have t3:=hid (Blk.far (HBC.out) (p:=⟨g,4+q * 40+r,none⟩) HG.out.2.2.2.1 (.bool vv))
            have t4:=hid (OwnR.far (HOWN.out) (a:=⟨g,4+q * 40+r,none⟩) (Ne.symm HG.out.1) (.bool vv))
            have t5:=hid (Below.setCell (a3.out) (p:=⟨g,4+q * 40+r,none⟩) HG.out.2.2.1 (.bool vv))
            obtain ⟨z3,l5⟩:∃ w',w'=((n6).setCell ⟨g,4+q * 40+r,none⟩ (.bool vv)):=⟨_,rfl⟩
            rw [← l5] at t1 n7 t2 t3 t4 t5
            rw [← l5]
            clear l5 zc_ zf_ zl_ a3 HV HOWN HBC HPB a0
            refine hK.out _ _ ⟨n7.out,t2.out⟩ (fun _=>?_);clear hK K
            try simp only [pq]
            refine wpAnyH_done (by kernel_rfl) ?_ _
            go_wp2
            go_roundw
            case rel=>exact ⟨r+1,by omega,by go_num,t1.out,t4.out,n7.out,t3.out,t5.out⟩
            case measure=>simp [intOf];omega
        · obtain rfl:r=n:=by omega
          have HBE:=hid hbe;clear hbe
          go_wp2
          go_roundw
          case rel=>exact ⟨q+1,by omega,by go_num,by rw [← matAt_row];exact HV.out,by rw [HTK.out];exact HOWN.out,HBC.out,HBE.out⟩
          case measure=>simp [intOf];omega
      exact AllReadyH.nil
    · have HVV:=hid (show (cc:Int)+1=(cc:Int)+(if p.ft then 1 else 0) by rw [← HFT.out];simp)
      have hwr:IntKind.i64.wrap ((cc:Int)+1)=(cc:Int)+1:=IntWalk.i64_in _ (by omega)
      go_wp2
      clear p3 p4 p5 p6 p7 p8 p9 q0 q1 q2 q3 q4
      replace a5:=bD a5
      replace HV:=kD HV
      replace HOWN:=hid (OwnR.drew (HOWN.out))
      replace HBC:=kD HBC
      replace a6:=hid (LkR.drew (a6.out))
      replace a2:=kD a2
      refine wp_region_held_drew (S:=(fun W'=>Vb W' g ware lim by_ (some ⟨b,o,none⟩) n k (matAt ps n q 0) (some bm)∧Blk W' (wa.heap.size) 48 #[.slice x.A x.n x.c,.int .i64 p.lo,.int .i64 p.hi,.int .i64 p.lb,.int .i64 p.hb,.bool true,.int .i64 p.fb,.slice x.B x.m x.d])) (by kernel_rfl) ⟨HV.out,a2.out⟩ (fun _=>?_)
      obtain ⟨x3,l6⟩:∃ w',w'=((wa.alloc (.cells #[.slice x.A x.n x.c,.int .i64 p.lo,.int .i64 p.hi,.int .i64 p.lb,.int .i64 p.hb,.bool true,.int .i64 p.fb,.slice x.B x.m x.d] 48)).drew):=⟨_,rfl⟩
      rw [← l6] at a5 HV HOWN HBC a6 a2
      rw [← l6]
      clear l6
      refine' twH 0 ⟨HV.out,a2.out⟩ ?_
      refine' twH 1 ⟨HV.out,a2.out⟩ ?_
      refine' twH 2 ⟨HV.out,a2.out⟩ ?_
      refine' tkH 3 ⟨HV.out,a2.out⟩ ?t6 ?_
      case t6=>(rintro W' ⟨hS0,hS1⟩;have hc0:=Vb.map hS0;clear hS0 hS1;go_simp;try with_reducible rfl)
      try simp only [pq]
      refine' tkH 4 ⟨HV.out,a2.out⟩ ?t7 ?_
      case t7=>(rintro W' ⟨hS0,hS1⟩;have hc0:=Blk.nth hS1 0;have hc1:=Blk.nth hS1 1;have hc2:=Blk.nth hS1 2;have hc3:=Blk.nth hS1 3;have hc4:=Blk.nth hS1 4;have hc5:=Blk.nth hS1 5;have hc6:=Blk.nth hS1 6;have hc7:=Blk.nth hS1 7;clear hS0 hS1;go_simp;try with_reducible rfl)
      refine' twH 7 ⟨HV.out,a2.out⟩ ?_
      try simp only [pq]
      refine oneH 5 rfl fun K hK=>?_
      go_simp
      go_at_call 120
      refine (col0 p x true (x3)).mono ?_
      rintro e z4 ⟨rfl,a7⟩
      dsimp only
      replace a7:=hid a7
      replace HV:=kH HV a7
      replace a2:=kH a2 a7
      refine hK.out _ _ ⟨HV.out,a2.out⟩ (fun _=>?_);clear hK K
      try simp only [pq]
      refine wpAnyH_ready (rs:=[6,9]) (by kernel_rfl) (by simp) ?_
      refine rdH rfl (fun K hK=>?_) ?_
      · -- 6: lookup
       replace a6:=hid (LkR.keep (a6.out) a7.out)
       have hlk_:=LkR.look (a6.out)
       go_simp
       clear hlk_
       refine hK.out _ _ ⟨HV.out,a2.out⟩ (fun _=>?_);clear hK K
       try simp only [pq]
       refine' twH 8 ⟨HV.out,a2.out⟩ ?_
       try simp only [pq]
       refine oneH 9 rfl fun K hK=>?_
       replace HOWN:=hid (OwnR.keep (HOWN.out) a7.out)
       replace HBC:=kH HBC a7
       replace a5:=bH a5 a7
       obtain ⟨st230,we231,he_,hlk_,ht1_,we232,hs_,ho_,ht2_⟩:=OwnR.entryN (HOWN.out) HTL.out HWP.out cc HCC.out ((cc:Int)+1) HVV.out
       go_simp
       have hs233:=hid hs_
       have ho234:=hid ho_
       have n8:=hid (blk_turned (HV.out) ht1_)
       have n9:=hid (blk_turned (HV.out) ht2_)
       have o0:=hid (blk_turned (a2.out) ht1_)
       have l7:=hid (blk_turned (a2.out) ht2_)
       have x4:=hid (blk_turned (HBC.out) ht1_)
       have o1:=hid (blk_turned (HBC.out) ht2_)
       have x6:=hid (bel_turned (a5.out) HG.out.2.1 ht1_)
       have t8:=hid (bel_turned (a5.out) HG.out.2.1 ht2_)
       have x7:=hid hlk_
       clear he_ hlk_ ht1_ hs_ ho_ ht2_ a5 HV HOWN HBC a6 a2
       refine hK.out _ _ ⟨n8.out,o0.out⟩ (fun _=>?_);clear hK K
       try simp only [pq]
       refine' twH 10 ⟨n8.out,o0.out⟩ ?_
       try simp only [pq]
       refine oneH 11 rfl fun K hK=>?_
       have hs_:=hs233.out
       go_simp
       clear hs_ hs233 n8 o0 x4 x6 x7
       refine hK.out _ _ ⟨n9.out,l7.out⟩ (fun _=>?_);clear hK K
       try simp only [pq]
       refine wpAnyH_done (by kernel_rfl) ?_ _
       obtain ⟨j3,j4,j5,j6⟩:=at4 o1
       obtain ⟨j7,j8,j9,k0,k1,k2,k3,k4⟩:=at8 l7
       go_wp2
       clear j3 j4 j5 j6 j7 j8 j9 k0 k1 k2 k3 k4
       go_loopw [37] (fun i wr=>∃ r:Nat,r≤n∧i=.int .i64 r∧Vb wr g ware lim by_ (some ⟨b,o,none⟩) n k (matAt ps n q r) (some bm)∧OwnR wr bm (ps.take q++[p])∧Blk wr wa.heap.size 48 #[.slice x.A x.n x.c,.int .i64 p.lo,.int .i64 p.hi,.int .i64 p.lb,.int .i64 p.hb,.bool true,.int .i64 p.fb,.slice x.B x.m x.d]∧Blk wr w.heap.size 24 #[.string ware,.int .i64 lim,.int .i64 by_,.slice (some ⟨b,o,none⟩) n k]∧Below w.heap.size w wr) (fun i _=>n-(intOf i).toNat)
       case atStart=>exact ⟨0,Nat.zero_le _,rfl,n9.out,ho234.out,l7.out,o1.out,t8.out⟩
       case round =>
        clear n9 l7 o1 t8 ho234
        obtain ⟨r,hr,rfl,hv,hown,hpb,hbc,hbe⟩:=hrel
        have HV:=hid hv;have HOWN:=hid hown;have HPB:=hid hpb;have HBC:=hid hbc;clear hv hown hpb hbc
        by_cases hrt:r<n
        · have hrt':(r:Int)<n:=by omega
          have hr4:(r:Int)<40:=by omega
          have hr40:r<40:=by omega
          obtain ⟨p2,y,hbw,hx2,-,g0,g1,g2,g3,g4,g5,g6,g7⟩:=RdP.at HR.out hrt
          have d0:=(hbe.cell (p:=⟨b,_,none⟩) hbw).trans g0
          have d1:=(hbe.cell (p:=⟨b,_,none⟩) hbw).trans g1
          have d2:=(hbe.cell (p:=⟨b,_,none⟩) hbw).trans g2
          have d3:=(hbe.cell (p:=⟨b,_,none⟩) hbw).trans g3
          have d4:=(hbe.cell (p:=⟨b,_,none⟩) hbw).trans g4
          have d5:=(hbe.cell (p:=⟨b,_,none⟩) hbw).trans g5
          have d6:=(hbe.cell (p:=⟨b,_,none⟩) hbw).trans g6
          have d7:=(hbe.cell (p:=⟨b,_,none⟩) hbw).trans g7
          clear g0 g1 g2 g3 g4 g5 g6 g7
          have hbw3:b<wr.heap.size:=Nat.lt_of_lt_of_le hbw hbe.size
          clear hbw
          have HX2:=hid hx2;clear hx2
          obtain ⟨ft2,hft2⟩:∃ f,f=p2.ft:=⟨_,rfl⟩
          rw [← hft2] at d5
          have HFT2:=hid hft2;clear hft2
          have a4:=hid (hbe)
          clear hbe
          have HNE2:=hid (show wr.heap.size≠g∧wr.heap.size≠bm from ⟨Nat.ne_of_gt HV.out.lt,Nat.ne_of_gt HOWN.out.lt⟩)
          obtain ⟨vv,hvv⟩:∃ v,((true&&ft2) || decide (p.hi<p2.lo) || decide (p2.hi<p.lo))=v:=⟨_,rfl⟩
          have HAP:=hid hvv;clear hvv
          obtain ⟨o_,ho_⟩:∃ o,o=((.cells #[.slice y.A y.n y.c,.int .i64 p2.lo,.int .i64 p2.hi,.int .i64 p2.lb,.int .i64 p2.hb,.bool ft2,.int .i64 p2.fb,.slice y.B y.m y.d] 48):Obj):=⟨_,rfl⟩
          replace a4:=bA a4 o_
          replace HV:=kA HV o_
          replace HOWN:=hid (OwnR.alloc (HOWN.out) (o_))
          replace HBC:=kA HBC o_
          replace HPB:=kA HPB o_
          subst ho_
          have a1:=hid (Blk.new wr 48 #[.slice y.A y.n y.c,.int .i64 p2.lo,.int .i64 p2.hi,.int .i64 p2.lb,.int .i64 p2.hb,.bool ft2,.int .i64 p2.fb,.slice y.B y.m y.d])
          obtain ⟨e9,f0,f1,f2⟩:=at4 HBC
          obtain ⟨f3,f4,f5,f6,f7,f8,f9,g8⟩:=at8 HPB
          obtain ⟨g9,h0,h1,h2,h3,h4,h5,h6⟩:=at8 a1
          by_cases hqr:q=r
          · subst hqr
            have HCL:=hid (show false=clN ps q q by unfold clN;rw [decide_eq_false (by simp),Bool.false_and])
            go_wp2
            clear e9 f0 f1 f2 f3 f4 f5 f6 f7 f8 f9 g8 g9 h0 h1 h2 h3 h4 h5 h6
            replace a4:=bD a4
            replace HV:=kD HV
            replace HOWN:=hid (OwnR.drew (HOWN.out))
            replace HBC:=kD HBC
            replace HPB:=kD HPB
            replace a1:=kD a1
            refine wp_region_held_drew (S:=(fun W'=>Blk W' (wa.heap.size) 48 #[.slice x.A x.n x.c,.int .i64 p.lo,.int .i64 p.hi,.int .i64 p.lb,.int .i64 p.hb,.bool true,.int .i64 p.fb,.slice x.B x.m x.d]∧Blk W' (wr.heap.size) 48 #[.slice y.A y.n y.c,.int .i64 p2.lo,.int .i64 p2.hi,.int .i64 p2.lb,.int .i64 p2.hb,.bool ft2,.int .i64 p2.fb,.slice y.B y.m y.d])) (by kernel_rfl) ⟨HPB.out,a1.out⟩ (fun _=>?_)
            obtain ⟨o2,l8⟩:∃ w',w'=((wr.alloc (.cells #[.slice y.A y.n y.c,.int .i64 p2.lo,.int .i64 p2.hi,.int .i64 p2.lb,.int .i64 p2.hb,.bool ft2,.int .i64 p2.fb,.slice y.B y.m y.d] 48)).drew):=⟨_,rfl⟩
            rw [← l8] at a4 HV HOWN HBC HPB a1
            rw [← l8]
            clear l8
            refine' twH 0 ⟨HPB.out,a1.out⟩ ?_
            refine' twH 1 ⟨HPB.out,a1.out⟩ ?_
            refine' twH 2 ⟨HPB.out,a1.out⟩ ?_
            refine' twH 3 ⟨HPB.out,a1.out⟩ ?_
            try simp only [pq]
            refine' twH 4 ⟨HPB.out,a1.out⟩ ?_
            refine' twH 5 ⟨HPB.out,a1.out⟩ ?_
            refine' twH 6 ⟨HPB.out,a1.out⟩ ?_
            refine' tkNH 7 ⟨HPB.out,a1.out⟩ ?_
            try simp only [pq]
            refine' tkNH 8 ⟨HPB.out,a1.out⟩ ?_
            refine' tkNH 9 ⟨HPB.out,a1.out⟩ ?_
            refine' twH 10 ⟨HPB.out,a1.out⟩ ?_
            refine' twH 11 ⟨HPB.out,a1.out⟩ ?_
            try simp only [pq]
            refine' twH 12 ⟨HPB.out,a1.out⟩ ?_
            refine' twH 13 ⟨HPB.out,a1.out⟩ ?_
            refine' twH 14 ⟨HPB.out,a1.out⟩ ?_
            try simp only [pq]
            refine oneH 15 rfl fun K hK=>?_
            have zc_:(o2).cell? ⟨g,4+q * 40+q,none⟩=some (.bool (matAt ps n q q q q)):=Vb.at (HV.out) hq40 hq40
            have zf_:=Vb.frozen (HV.out) (4+q * 40+q)
            have zl_:=Blk.lt (HV.out)
            go_simp
            have t9:=hid (show Vb ((o2).setCell ⟨g,4+q * 40+q,none⟩ (.bool false)) g ware lim by_ (some ⟨b,o,none⟩) n k (matAt ps n q (q+1)) (some bm) from (by have h:=Vb.set (HV.out) hq40 hq40 false;rw [matAt_step _ _ HCL.out] at h;exact h))
            have o3:=hid (Blk.far (HPB.out) (p:=⟨g,4+q * 40+q,none⟩) HNE.out.1 (.bool false))
            have u0:=hid (Blk.far (a1.out) (p:=⟨g,4+q * 40+q,none⟩) HNE2.out.1 (.bool false))
            have u1:=hid (Blk.far (HBC.out) (p:=⟨g,4+q * 40+q,none⟩) HG.out.2.2.2.1 (.bool false))
            have u2:=hid (OwnR.far (HOWN.out) (a:=⟨g,4+q * 40+q,none⟩) (Ne.symm HG.out.1) (.bool false))
            have u3:=hid (Below.setCell (a4.out) (p:=⟨g,4+q * 40+q,none⟩) HG.out.2.2.1 (.bool false))
            obtain ⟨z5,l9⟩:∃ w',w'=((o2).setCell ⟨g,4+q * 40+q,none⟩ (.bool false)):=⟨_,rfl⟩
            rw [← l9] at t9 o3 u0 u1 u2 u3
            rw [← l9]
            clear l9 zc_ zf_ zl_ a4 HV HOWN HBC HPB a1
            refine hK.out _ _ ⟨o3.out,u0.out⟩ (fun _=>?_);clear hK K
            try simp only [pq]
            refine wpAnyH_done (by kernel_rfl) ?_ _
            go_wp2
            go_roundw
            case rel=>exact ⟨q+1,by omega,by go_num,t9.out,u2.out,o3.out,u1.out,u3.out⟩
            case measure=>simp [intOf];omega
          · have hne:((q:Int) != (r:Int))=true:=by simp;omega
            have HCL:=hid (show vv=clN ps q r by rw [← HAP.out,HFT.out,HFT2.out];unfold clN apB;rw [List.getD_eq_getElem?_getD,List.getD_eq_getElem?_getD,HX.out,HX2.out,decide_eq_true hqr];rfl)
            go_wp2
            clear e9 f0 f1 f2 f3 f4 f5 f6 f7 f8 f9 g8 g9 h0 h1 h2 h3 h4 h5 h6
            replace a4:=bD a4
            replace HV:=kD HV
            replace HOWN:=hid (OwnR.drew (HOWN.out))
            replace HBC:=kD HBC
            replace HPB:=kD HPB
            replace a1:=kD a1
            refine wp_region_held_drew (S:=(fun W'=>Blk W' (wa.heap.size) 48 #[.slice x.A x.n x.c,.int .i64 p.lo,.int .i64 p.hi,.int .i64 p.lb,.int .i64 p.hb,.bool true,.int .i64 p.fb,.slice x.B x.m x.d]∧Blk W' (wr.heap.size) 48 #[.slice y.A y.n y.c,.int .i64 p2.lo,.int .i64 p2.hi,.int .i64 p2.lb,.int .i64 p2.hb,.bool ft2,.int .i64 p2.fb,.slice y.B y.m y.d])) (by kernel_rfl) ⟨HPB.out,a1.out⟩ (fun _=>?_)
            obtain ⟨x8,m0⟩:∃ w',w'=((wr.alloc (.cells #[.slice y.A y.n y.c,.int .i64 p2.lo,.int .i64 p2.hi,.int .i64 p2.lb,.int .i64 p2.hb,.bool ft2,.int .i64 p2.fb,.slice y.B y.m y.d] 48)).drew):=⟨_,rfl⟩
            rw [← m0] at a4 HV HOWN HBC HPB a1
            rw [← m0]
            clear m0
            refine' twH 0 ⟨HPB.out,a1.out⟩ ?_
            refine' twH 1 ⟨HPB.out,a1.out⟩ ?_
            refine' twH 2 ⟨HPB.out,a1.out⟩ ?_
            refine' twH 3 ⟨HPB.out,a1.out⟩ ?_
            try simp only [pq]
            refine' twH 4 ⟨HPB.out,a1.out⟩ ?_
            refine' twH 5 ⟨HPB.out,a1.out⟩ ?_
            refine' twH 6 ⟨HPB.out,a1.out⟩ ?_
            refine' tkH 7 ⟨HPB.out,a1.out⟩ ?u4 ?_
            case u4=>(rintro W' ⟨hS0,hS1⟩;have hc0:=Blk.nth hS0 0;have hc1:=Blk.nth hS0 1;have hc2:=Blk.nth hS0 2;have hc3:=Blk.nth hS0 3;have hc4:=Blk.nth hS0 4;have hc5:=Blk.nth hS0 5;have hc6:=Blk.nth hS0 6;have hc7:=Blk.nth hS0 7;clear hS0 hS1;go_simp;try with_reducible rfl)
            try simp only [pq]
            refine' tkH 8 ⟨HPB.out,a1.out⟩ ?u5 ?_
            case u5=>(rintro W' ⟨hS0,hS1⟩;have hc0:=Blk.nth hS1 0;have hc1:=Blk.nth hS1 1;have hc2:=Blk.nth hS1 2;have hc3:=Blk.nth hS1 3;have hc4:=Blk.nth hS1 4;have hc5:=Blk.nth hS1 5;have hc6:=Blk.nth hS1 6;have hc7:=Blk.nth hS1 7;clear hS0 hS1;go_simp;try with_reducible rfl)
            refine' twH 11 ⟨HPB.out,a1.out⟩ ?_
            refine' twH 12 ⟨HPB.out,a1.out⟩ ?_
            refine' twH 13 ⟨HPB.out,a1.out⟩ ?_
            try simp only [pq]
            refine oneH 9 rfl fun K hK=>?_
            go_simp
            go_at_call 125
            refine (apart_is p p2 x y true ft2 (x8) vv HAP.out).mono ?_
            rintro e o4 ⟨rfl,b1⟩
            dsimp only
            replace b1:=hid b1
            replace HPB:=kH HPB b1
            replace a1:=kH a1 b1
            refine hK.out _ _ ⟨HPB.out,a1.out⟩ (fun _=>?_);clear hK K
            try simp only [pq]
            refine' twH 10 ⟨HPB.out,a1.out⟩ ?_
            refine' twH 14 ⟨HPB.out,a1.out⟩ ?_
            try simp only [pq]
            refine oneH 15 rfl fun K hK=>?_
            replace HV:=kH HV b1
            replace HBC:=kH HBC b1
            replace HOWN:=hid (OwnR.keep (HOWN.out) b1.out)
            replace a4:=bH a4 b1
            have zc_:(o4).cell? ⟨g,4+q * 40+r,none⟩=some (.bool (matAt ps n q r q r)):=Vb.at (HV.out) hq40 hr40
            have zf_:=Vb.frozen (HV.out) (4+q * 40+r)
            have zl_:=Blk.lt (HV.out)
            go_simp
            have u6:=hid (show Vb ((o4).setCell ⟨g,4+q * 40+r,none⟩ (.bool vv)) g ware lim by_ (some ⟨b,o,none⟩) n k (matAt ps n q (r+1)) (some bm) from (by have h:=Vb.set (HV.out) hq40 hr40 vv;rw [matAt_step _ _ HCL.out] at h;exact h))
            have o5:=hid (Blk.far (HPB.out) (p:=⟨g,4+q * 40+r,none⟩) HNE.out.1 (.bool vv))
            have u7:=hid (Blk.far (a1.out) (p:=⟨g,4+q * 40+r,none⟩) HNE2.out.1 (.bool vv))
            have u8:=hid (Blk.far (HBC.out) (p:=⟨g,4+q * 40+r,none⟩) HG.out.2.2.2.1 (.bool vv))
            have u9:=hid (OwnR.far (HOWN.out) (a:=⟨g,4+q * 40+r,none⟩) (Ne.symm HG.out.1) (.bool vv))
            have v0:=hid (Below.setCell (a4.out) (p:=⟨g,4+q * 40+r,none⟩) HG.out.2.2.1 (.bool vv))
            obtain ⟨z6,m1⟩:∃ w',w'=((o4).setCell ⟨g,4+q * 40+r,none⟩ (.bool vv)):=⟨_,rfl⟩
            rw [← m1] at u6 o5 u7 u8 u9 v0
            rw [← m1]
            clear m1 zc_ zf_ zl_ a4 HV HOWN HBC HPB a1
            refine hK.out _ _ ⟨o5.out,u7.out⟩ (fun _=>?_);clear hK K
            try simp only [pq]
            refine wpAnyH_done (by kernel_rfl) ?_ _
            go_wp2
            go_roundw
            case rel=>exact ⟨r+1,by omega,by go_num,u6.out,u9.out,o5.out,u8.out,v0.out⟩
            case measure=>simp [intOf];omega
        · obtain rfl:r=n:=by omega
          have HBE:=hid hbe;clear hbe
          go_wp2
          go_roundw
          case rel=>exact ⟨q+1,by omega,by go_num,by rw [← matAt_row];exact HV.out,by rw [HTK.out];exact HOWN.out,HBC.out,HBE.out⟩
          case measure=>simp [intOf];omega
      refine rdH rfl (fun K hK=>?_) ?_
      · -- 9: mapEntry
       replace HOWN:=hid (OwnR.keep (HOWN.out) a7.out)
       replace a6:=hid (LkR.keep (a6.out) a7.out)
       replace HBC:=kH HBC a7
       replace a5:=bH a5 a7
       obtain ⟨st296,we297,he_,hlk_,ht1_,we298,hs_,ho_,ht2_⟩:=OwnR.entryN (HOWN.out) HTL.out HWP.out cc HCC.out ((cc:Int)+1) HVV.out
       go_simp
       have hs299:=hid hs_
       have ho300:=hid ho_
       have k5:=hid (blk_turned (HV.out) ht1_)
       have o6:=hid (blk_turned (HV.out) ht2_)
       have k6:=hid (blk_turned (a2.out) ht1_)
       have m2:=hid (blk_turned (a2.out) ht2_)
       have x9:=hid (blk_turned (HBC.out) ht1_)
       have o7:=hid (blk_turned (HBC.out) ht2_)
       have y0:=hid (bel_turned (a5.out) HG.out.2.1 ht1_)
       have v1:=hid (bel_turned (a5.out) HG.out.2.1 ht2_)
       have v2:=hid hlk_
       clear he_ hlk_ ht1_ hs_ ho_ ht2_ a5 HV HOWN HBC a6 a2
       refine hK.out _ _ ⟨k5.out,k6.out⟩ (fun _=>?_);clear hK K
       try simp only [pq]
       refine' twH 10 ⟨k5.out,k6.out⟩ ?_
       try simp only [pq]
       refine oneH 6 rfl fun K hK=>?_
       have hlk_:=LkR.look (v2.out)
       go_simp
       clear hlk_
       refine hK.out _ _ ⟨k5.out,k6.out⟩ (fun _=>?_);clear hK K
       try simp only [pq]
       refine' twH 8 ⟨k5.out,k6.out⟩ ?_
       try simp only [pq]
       refine oneH 11 rfl fun K hK=>?_
       have hs_:=hs299.out
       go_simp
       clear hs_ hs299 k5 k6 x9 y0 v2
       refine hK.out _ _ ⟨o6.out,m2.out⟩ (fun _=>?_);clear hK K
       try simp only [pq]
       refine wpAnyH_done (by kernel_rfl) ?_ _
       obtain ⟨j3,j4,j5,j6⟩:=at4 o7
       obtain ⟨j7,j8,j9,k0,k1,k2,k3,k4⟩:=at8 m2
       go_wp2
       clear j3 j4 j5 j6 j7 j8 j9 k0 k1 k2 k3 k4
       go_loopw [37] (fun i wr=>∃ r:Nat,r≤n∧i=.int .i64 r∧Vb wr g ware lim by_ (some ⟨b,o,none⟩) n k (matAt ps n q r) (some bm)∧OwnR wr bm (ps.take q++[p])∧Blk wr wa.heap.size 48 #[.slice x.A x.n x.c,.int .i64 p.lo,.int .i64 p.hi,.int .i64 p.lb,.int .i64 p.hb,.bool true,.int .i64 p.fb,.slice x.B x.m x.d]∧Blk wr w.heap.size 24 #[.string ware,.int .i64 lim,.int .i64 by_,.slice (some ⟨b,o,none⟩) n k]∧Below w.heap.size w wr) (fun i _=>n-(intOf i).toNat)
       case atStart=>exact ⟨0,Nat.zero_le _,rfl,o6.out,ho300.out,m2.out,o7.out,v1.out⟩
       case round =>
        clear o6 m2 o7 v1 ho300
        obtain ⟨r,hr,rfl,hv,hown,hpb,hbc,hbe⟩:=hrel
        have HV:=hid hv;have HOWN:=hid hown;have HPB:=hid hpb;have HBC:=hid hbc;clear hv hown hpb hbc
        by_cases hrt:r<n
        · have hrt':(r:Int)<n:=by omega
          have hr4:(r:Int)<40:=by omega
          have hr40:r<40:=by omega
          obtain ⟨p2,y,hbw,hx2,-,g0,g1,g2,g3,g4,g5,g6,g7⟩:=RdP.at HR.out hrt
          have d0:=(hbe.cell (p:=⟨b,_,none⟩) hbw).trans g0
          have d1:=(hbe.cell (p:=⟨b,_,none⟩) hbw).trans g1
          have d2:=(hbe.cell (p:=⟨b,_,none⟩) hbw).trans g2
          have d3:=(hbe.cell (p:=⟨b,_,none⟩) hbw).trans g3
          have d4:=(hbe.cell (p:=⟨b,_,none⟩) hbw).trans g4
          have d5:=(hbe.cell (p:=⟨b,_,none⟩) hbw).trans g5
          have d6:=(hbe.cell (p:=⟨b,_,none⟩) hbw).trans g6
          have d7:=(hbe.cell (p:=⟨b,_,none⟩) hbw).trans g7
          clear g0 g1 g2 g3 g4 g5 g6 g7
          have hbw3:b<wr.heap.size:=Nat.lt_of_lt_of_le hbw hbe.size
          clear hbw
          have HX2:=hid hx2;clear hx2
          obtain ⟨ft2,hft2⟩:∃ f,f=p2.ft:=⟨_,rfl⟩
          rw [← hft2] at d5
          have HFT2:=hid hft2;clear hft2
          have a4:=hid (hbe)
          clear hbe
          have HNE2:=hid (show wr.heap.size≠g∧wr.heap.size≠bm from ⟨Nat.ne_of_gt HV.out.lt,Nat.ne_of_gt HOWN.out.lt⟩)
          obtain ⟨vv,hvv⟩:∃ v,((true&&ft2) || decide (p.hi<p2.lo) || decide (p2.hi<p.lo))=v:=⟨_,rfl⟩
          have HAP:=hid hvv;clear hvv
          obtain ⟨o_,ho_⟩:∃ o,o=((.cells #[.slice y.A y.n y.c,.int .i64 p2.lo,.int .i64 p2.hi,.int .i64 p2.lb,.int .i64 p2.hb,.bool ft2,.int .i64 p2.fb,.slice y.B y.m y.d] 48):Obj):=⟨_,rfl⟩
          replace a4:=bA a4 o_
          replace HV:=kA HV o_
          replace HOWN:=hid (OwnR.alloc (HOWN.out) (o_))
          replace HBC:=kA HBC o_
          replace HPB:=kA HPB o_
          subst ho_
          have a1:=hid (Blk.new wr 48 #[.slice y.A y.n y.c,.int .i64 p2.lo,.int .i64 p2.hi,.int .i64 p2.lb,.int .i64 p2.hb,.bool ft2,.int .i64 p2.fb,.slice y.B y.m y.d])
          obtain ⟨e9,f0,f1,f2⟩:=at4 HBC
          obtain ⟨f3,f4,f5,f6,f7,f8,f9,g8⟩:=at8 HPB
          obtain ⟨g9,h0,h1,h2,h3,h4,h5,h6⟩:=at8 a1
          by_cases hqr:q=r
          · subst hqr
            have HCL:=hid (show false=clN ps q q by unfold clN;rw [decide_eq_false (by simp),Bool.false_and])
            go_wp2
            clear e9 f0 f1 f2 f3 f4 f5 f6 f7 f8 f9 g8 g9 h0 h1 h2 h3 h4 h5 h6
            replace a4:=bD a4
            replace HV:=kD HV
            replace HOWN:=hid (OwnR.drew (HOWN.out))
            replace HBC:=kD HBC
            replace HPB:=kD HPB
            replace a1:=kD a1
            refine wp_region_held_drew (S:=(fun W'=>Blk W' (wa.heap.size) 48 #[.slice x.A x.n x.c,.int .i64 p.lo,.int .i64 p.hi,.int .i64 p.lb,.int .i64 p.hb,.bool true,.int .i64 p.fb,.slice x.B x.m x.d]∧Blk W' (wr.heap.size) 48 #[.slice y.A y.n y.c,.int .i64 p2.lo,.int .i64 p2.hi,.int .i64 p2.lb,.int .i64 p2.hb,.bool ft2,.int .i64 p2.fb,.slice y.B y.m y.d])) (by kernel_rfl) ⟨HPB.out,a1.out⟩ (fun _=>?_)
            obtain ⟨o8,m3⟩:∃ w',w'=((wr.alloc (.cells #[.slice y.A y.n y.c,.int .i64 p2.lo,.int .i64 p2.hi,.int .i64 p2.lb,.int .i64 p2.hb,.bool ft2,.int .i64 p2.fb,.slice y.B y.m y.d] 48)).drew):=⟨_,rfl⟩
            rw [← m3] at a4 HV HOWN HBC HPB a1
            rw [← m3]
            clear m3
            refine' twH 0 ⟨HPB.out,a1.out⟩ ?_
            refine' twH 1 ⟨HPB.out,a1.out⟩ ?_
            refine' twH 2 ⟨HPB.out,a1.out⟩ ?_
            refine' twH 3 ⟨HPB.out,a1.out⟩ ?_
            try simp only [pq]
            refine' twH 4 ⟨HPB.out,a1.out⟩ ?_
            refine' twH 5 ⟨HPB.out,a1.out⟩ ?_
            refine' twH 6 ⟨HPB.out,a1.out⟩ ?_
            refine' tkNH 7 ⟨HPB.out,a1.out⟩ ?_
            try simp only [pq]
            refine' tkNH 8 ⟨HPB.out,a1.out⟩ ?_
            refine' tkNH 9 ⟨HPB.out,a1.out⟩ ?_
            refine' twH 10 ⟨HPB.out,a1.out⟩ ?_
            refine' twH 11 ⟨HPB.out,a1.out⟩ ?_
            try simp only [pq]
            refine' twH 12 ⟨HPB.out,a1.out⟩ ?_
            refine' twH 13 ⟨HPB.out,a1.out⟩ ?_
            refine' twH 14 ⟨HPB.out,a1.out⟩ ?_
            try simp only [pq]
            refine oneH 15 rfl fun K hK=>?_
            have zc_:(o8).cell? ⟨g,4+q * 40+q,none⟩=some (.bool (matAt ps n q q q q)):=Vb.at (HV.out) hq40 hq40
            have zf_:=Vb.frozen (HV.out) (4+q * 40+q)
            have zl_:=Blk.lt (HV.out)
            go_simp
            have v3:=hid (show Vb ((o8).setCell ⟨g,4+q * 40+q,none⟩ (.bool false)) g ware lim by_ (some ⟨b,o,none⟩) n k (matAt ps n q (q+1)) (some bm) from (by have h:=Vb.set (HV.out) hq40 hq40 false;rw [matAt_step _ _ HCL.out] at h;exact h))
            have o9:=hid (Blk.far (HPB.out) (p:=⟨g,4+q * 40+q,none⟩) HNE.out.1 (.bool false))
            have v4:=hid (Blk.far (a1.out) (p:=⟨g,4+q * 40+q,none⟩) HNE2.out.1 (.bool false))
            have v5:=hid (Blk.far (HBC.out) (p:=⟨g,4+q * 40+q,none⟩) HG.out.2.2.2.1 (.bool false))
            have v6:=hid (OwnR.far (HOWN.out) (a:=⟨g,4+q * 40+q,none⟩) (Ne.symm HG.out.1) (.bool false))
            have v7:=hid (Below.setCell (a4.out) (p:=⟨g,4+q * 40+q,none⟩) HG.out.2.2.1 (.bool false))
            obtain ⟨z7,m4⟩:∃ w',w'=((o8).setCell ⟨g,4+q * 40+q,none⟩ (.bool false)):=⟨_,rfl⟩
            rw [← m4] at v3 o9 v4 v5 v6 v7
            rw [← m4]
            clear m4 zc_ zf_ zl_ a4 HV HOWN HBC HPB a1
            refine hK.out _ _ ⟨o9.out,v4.out⟩ (fun _=>?_);clear hK K
            try simp only [pq]
            refine wpAnyH_done (by kernel_rfl) ?_ _
            go_wp2
            go_roundw
            case rel=>exact ⟨q+1,by omega,by go_num,v3.out,v6.out,o9.out,v5.out,v7.out⟩
            case measure=>simp [intOf];omega
          · have hne:((q:Int) != (r:Int))=true:=by simp;omega
            have HCL:=hid (show vv=clN ps q r by rw [← HAP.out,HFT.out,HFT2.out];unfold clN apB;rw [List.getD_eq_getElem?_getD,List.getD_eq_getElem?_getD,HX.out,HX2.out,decide_eq_true hqr];rfl)
            go_wp2
            clear e9 f0 f1 f2 f3 f4 f5 f6 f7 f8 f9 g8 g9 h0 h1 h2 h3 h4 h5 h6
            replace a4:=bD a4
            replace HV:=kD HV
            replace HOWN:=hid (OwnR.drew (HOWN.out))
            replace HBC:=kD HBC
            replace HPB:=kD HPB
            replace a1:=kD a1
            refine wp_region_held_drew (S:=(fun W'=>Blk W' (wa.heap.size) 48 #[.slice x.A x.n x.c,.int .i64 p.lo,.int .i64 p.hi,.int .i64 p.lb,.int .i64 p.hb,.bool true,.int .i64 p.fb,.slice x.B x.m x.d]∧Blk W' (wr.heap.size) 48 #[.slice y.A y.n y.c,.int .i64 p2.lo,.int .i64 p2.hi,.int .i64 p2.lb,.int .i64 p2.hb,.bool ft2,.int .i64 p2.fb,.slice y.B y.m y.d])) (by kernel_rfl) ⟨HPB.out,a1.out⟩ (fun _=>?_)
            obtain ⟨y1,m5⟩:∃ w',w'=((wr.alloc (.cells #[.slice y.A y.n y.c,.int .i64 p2.lo,.int .i64 p2.hi,.int .i64 p2.lb,.int .i64 p2.hb,.bool ft2,.int .i64 p2.fb,.slice y.B y.m y.d] 48)).drew):=⟨_,rfl⟩
            rw [← m5] at a4 HV HOWN HBC HPB a1
            rw [← m5]
            clear m5
            refine' twH 0 ⟨HPB.out,a1.out⟩ ?_
            refine' twH 1 ⟨HPB.out,a1.out⟩ ?_
            refine' twH 2 ⟨HPB.out,a1.out⟩ ?_
            refine' twH 3 ⟨HPB.out,a1.out⟩ ?_
            try simp only [pq]
            refine' twH 4 ⟨HPB.out,a1.out⟩ ?_
            refine' twH 5 ⟨HPB.out,a1.out⟩ ?_
            refine' twH 6 ⟨HPB.out,a1.out⟩ ?_
            refine' tkH 7 ⟨HPB.out,a1.out⟩ ?v8 ?_
            case v8=>(rintro W' ⟨hS0,hS1⟩;have hc0:=Blk.nth hS0 0;have hc1:=Blk.nth hS0 1;have hc2:=Blk.nth hS0 2;have hc3:=Blk.nth hS0 3;have hc4:=Blk.nth hS0 4;have hc5:=Blk.nth hS0 5;have hc6:=Blk.nth hS0 6;have hc7:=Blk.nth hS0 7;clear hS0 hS1;go_simp;try with_reducible rfl)
            try simp only [pq]
            refine' tkH 8 ⟨HPB.out,a1.out⟩ ?v9 ?_
            case v9=>(rintro W' ⟨hS0,hS1⟩;have hc0:=Blk.nth hS1 0;have hc1:=Blk.nth hS1 1;have hc2:=Blk.nth hS1 2;have hc3:=Blk.nth hS1 3;have hc4:=Blk.nth hS1 4;have hc5:=Blk.nth hS1 5;have hc6:=Blk.nth hS1 6;have hc7:=Blk.nth hS1 7;clear hS0 hS1;go_simp;try with_reducible rfl)
            refine' twH 11 ⟨HPB.out,a1.out⟩ ?_
            refine' twH 12 ⟨HPB.out,a1.out⟩ ?_
            refine' twH 13 ⟨HPB.out,a1.out⟩ ?_
            try simp only [pq]
            refine oneH 9 rfl fun K hK=>?_
            go_simp
            go_at_call 125
            refine (apart_is p p2 x y true ft2 (y1) vv HAP.out).mono ?_
            rintro e p0 ⟨rfl,b2⟩
            dsimp only
            replace b2:=hid b2
            replace HPB:=kH HPB b2
            replace a1:=kH a1 b2
            refine hK.out _ _ ⟨HPB.out,a1.out⟩ (fun _=>?_);clear hK K
            try simp only [pq]
            refine' twH 10 ⟨HPB.out,a1.out⟩ ?_
            refine' twH 14 ⟨HPB.out,a1.out⟩ ?_
            try simp only [pq]
            refine oneH 15 rfl fun K hK=>?_
            replace HV:=kH HV b2
            replace HBC:=kH HBC b2
            replace HOWN:=hid (OwnR.keep (HOWN.out) b2.out)
            replace a4:=bH a4 b2
            have zc_:(p0).cell? ⟨g,4+q * 40+r,none⟩=some (.bool (matAt ps n q r q r)):=Vb.at (HV.out) hq40 hr40
            have zf_:=Vb.frozen (HV.out) (4+q * 40+r)
            have zl_:=Blk.lt (HV.out)
            go_simp
            have w0:=hid (show Vb ((p0).setCell ⟨g,4+q * 40+r,none⟩ (.bool vv)) g ware lim by_ (some ⟨b,o,none⟩) n k (matAt ps n q (r+1)) (some bm) from (by have h:=Vb.set (HV.out) hq40 hr40 vv;rw [matAt_step _ _ HCL.out] at h;exact h))
            have p1:=hid (Blk.far (HPB.out) (p:=⟨g,4+q * 40+r,none⟩) HNE.out.1 (.bool vv))
            have w1:=hid (Blk.far (a1.out) (p:=⟨g,4+q * 40+r,none⟩) HNE2.out.1 (.bool vv))
            have w3:=hid (Blk.far (HBC.out) (p:=⟨g,4+q * 40+r,none⟩) HG.out.2.2.2.1 (.bool vv))
            have w4:=hid (OwnR.far (HOWN.out) (a:=⟨g,4+q * 40+r,none⟩) (Ne.symm HG.out.1) (.bool vv))
            have w5:=hid (Below.setCell (a4.out) (p:=⟨g,4+q * 40+r,none⟩) HG.out.2.2.1 (.bool vv))
            obtain ⟨z8,m6⟩:∃ w',w'=((p0).setCell ⟨g,4+q * 40+r,none⟩ (.bool vv)):=⟨_,rfl⟩
            rw [← m6] at w0 p1 w1 w3 w4 w5
            rw [← m6]
            clear m6 zc_ zf_ zl_ a4 HV HOWN HBC HPB a1
            refine hK.out _ _ ⟨p1.out,w1.out⟩ (fun _=>?_);clear hK K
            try simp only [pq]
            refine wpAnyH_done (by kernel_rfl) ?_ _
            go_wp2
            go_roundw
            case rel=>exact ⟨r+1,by omega,by go_num,w0.out,w4.out,p1.out,w3.out,w5.out⟩
            case measure=>simp [intOf];omega
        · obtain rfl:r=n:=by omega
          have HBE:=hid hbe;clear hbe
          go_wp2
          go_roundw
          case rel=>exact ⟨q+1,by omega,by go_num,by rw [← matAt_row];exact HV.out,by rw [HTK.out];exact HOWN.out,HBC.out,HBE.out⟩
          case measure=>simp [intOf];omega
      exact AllReadyH.nil
  · obtain rfl:q=n:=by omega
    have hln:=HR.out.len
    have HO2:=hid (show OwnR wa bm ps by have:=HOWN.out;rwa [List.take_of_length_le (by omega)] at this)
    have HBE:=hid hbe;clear hbe hln
    go_wp2
    go_ret
    exact ⟨⟨g,bm,rfl,HV.out,HO2.out⟩,HBE.out⟩
end Go.Proofs.YtokpblmgdmokoaaGreat
