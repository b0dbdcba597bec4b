import Derived.Test.YtokpblmgdmokoaaGreatAVOf
set_option linter.unusedSimpArgs false
set_option linter.unusedVariables false
namespace Go.Proofs.YtokpblmgdmokoaaGreat
open Go.Lib (hid)
open Go.RowKit Go.Maps
def meetR (r:Rng) (p:Prt):Rng:=⟨if r.lo<p.lo then p.lo else r.lo,if p.hi<r.hi then p.hi else r.hi⟩
def comR (ps:List Prt) (l:List Int):Rng:=l.foldl (fun r i=>meetR r (ptA ps i)) ⟨0,1000⟩
theorem comR_snoc (ps:List Prt) (l:List Int) (i:Int):comR ps (l++[i])=meetR (comR ps l) (ptA ps i):=by unfold comR;rw [List.foldl_append];rfl
set_option maxRecDepth 100000 in
set_option maxHeartbeats 4000000 in
theorem common_any (ware:ByteArray) (lim by_:Int) (A:Option Addr) (n k:Nat) (ps:List Prt) (g:Nat) (B:Option Addr) (m d:Nat) (l:List Int) (w:World) (hv:Vw w g ware lim by_ A n k ps) (hl:RdI w B m d l) (hm:m≤maxLen) (hin:∀ x∈l,∃ a:Nat,x=a∧a<n):Calls Tryz.prog 83 #[.pointer (some ⟨g,0,none⟩),.slice B m d] w fun e w'=>e=.returned (encR (comR ps l))∧Below w.heap.size w w':=by
 have HIN:=hid hin;have HL:=hid hl;have HV0:=hid hv;clear hin hl hv
 have hmn:=hm;unfold maxLen at hmn
 go_enter Tryz.func83,Tryz.ntmps83
 obtain ⟨a6,a5⟩:=ent1 w #[.int .i64 0,.int .i64 0] 41
 obtain ⟨o_,ho_⟩:∃ o,o=((.cells #[.int .i64 0,.int .i64 1000] 41):Obj):=⟨_,rfl⟩
 replace a5:=bA a5 o_
 replace a6:=kA a6 o_
 subst ho_
 have nb_:=Blk.new (w.alloc (.cells #[.int .i64 0,.int .i64 0] 41)) 41 #[.int .i64 0,.int .i64 1000]
 simp only [World.size_alloc] at nb_
 have b8:=hid nb_;clear nb_
 obtain ⟨g8,g9⟩:=at2 a6
 obtain ⟨h0,h1⟩:=at2 b8
 go_wp2
 clear g8 g9 h0 h1
 go_loopw [12] (fun i wr=>∃ q:Nat,q≤m∧i=.int .i64 q∧Blk wr w.heap.size 41 #[.int .i64 0,.int .i64 0]∧Blk wr (w.heap.size+1) 41 #[.int .i64 (comR ps (l.take q)).lo,.int .i64 (comR ps (l.take q)).hi]∧Below w.heap.size w wr) (fun i _=>m-(intOf i).toNat)
 case atStart=>exact ⟨0,Nat.zero_le _,rfl,a6.out,b8.out,a5.out⟩
 case round =>
  clear a5 a6 b8
  obtain ⟨q,hq,rfl,hbz,hbr,hbe⟩:=hrel
  have hszr:=hbe.size
  have hlr:=Blk.lt hbr
  have a2:=hid (hbe)
  have a3:=hid (hbz)
  have b6:=hid (hbr)
  clear hbe hbz hbr
  by_cases hlt:q<m
  · have hlt':(q:Int)<m:=by omega
    obtain ⟨b9,o9,v,rfl,hb9,hv,e0⟩:=RdI.get (HL.out.below a2.out) hlt
    obtain ⟨i,rfl,hi⟩:=HIN.out v (List.mem_of_getElem? hv)
    have hi':(i:Int)<n:=by omega
    have HV:=hid hv;clear hv
    obtain ⟨b,o,p,x,rfl,hbw,hx,-,-,c1,c2,c3,c4,-⟩:=RdP.get (HV0.out.keep a2.out).prt hi
    obtain ⟨-,-,-,v3⟩:=(HV0.out.keep a2.out).cells
    have hvl:=(HV0.out.keep a2.out).lt
    have HP:=hid (show ptA ps (i:Int)=p by unfold ptA;rw [Int.toNat_natCast,List.getD_eq_getElem?_getD,hx];rfl);clear hx
    obtain ⟨R,hR⟩:∃ r,r=comR ps (l.take q):=⟨_,rfl⟩
    have hbr:=b6.out
    rw [← hR] at hbr
    have a1:=hid (hbr)
    clear hbr
    have HR:=hid hR;clear hR
    obtain ⟨X,hX⟩:∃ v,(if R.lo<p.lo then p.lo else R.lo)=v:=⟨_,rfl⟩
    obtain ⟨Y,hY⟩:∃ v,(if p.hi<R.hi then p.hi else R.hi)=v:=⟨_,rfl⟩
    have HXY:=hid (show meetR R p=⟨X,Y⟩ by unfold meetR;rw [hX,hY])
    obtain ⟨o_,ho_⟩:∃ o,o=((.cells #[.int .i64 p.lo,.int .i64 p.hi,.int .i64 p.lb,.int .i64 p.hb] 46):Obj):=⟨_,rfl⟩
    replace a2:=bA a2 o_
    replace a3:=kA a3 o_
    replace a1:=kA a1 o_
    subst ho_
    have a0:=hid (Blk.new wr 46 #[.int .i64 p.lo,.int .i64 p.hi,.int .i64 p.lb,.int .i64 p.hb])
    obtain ⟨e8,e9⟩:=at2 a3
    obtain ⟨f0,f1⟩:=at2 a1
    obtain ⟨f2,f3,f4,f5⟩:=at4 a0
    go_wp2
    clear v3 hvl c1 c2 c3 c4 e0 hbw hb9
    clear e8 e9 f0 f1 f2 f3 f4 f5
    replace a2:=bD a2
    replace a3:=kD a3
    replace a1:=kD a1
    replace a0:=kD a0
    refine wp_region_held_drew (S:=(fun W'=>Blk W' (wr.heap.size) 46 #[.int .i64 p.lo,.int .i64 p.hi,.int .i64 p.lb,.int .i64 p.hb])) (by kernel_rfl) a0.out (fun _=>?_)
    obtain ⟨a4,a9⟩:∃ w',w'=((wr.alloc (.cells #[.int .i64 p.lo,.int .i64 p.hi,.int .i64 p.lb,.int .i64 p.hb] 46)).drew):=⟨_,rfl⟩
    rw [← a9] at a2 a3 a1 a0
    rw [← a9]
    clear a9
    refine' twH 0 a0.out ?_
    refine' twH 2 a0.out ?_
    refine' tkH 3 a0.out ?c6 ?_
    case c6=>(rintro W' hS0;have hc0:=Blk.nth hS0 0;clear hS0;go_simp;try with_reducible rfl)
    refine' twH 5 a0.out ?_
    try simp only [pq]
    refine' twH 7 a0.out ?_
    refine' tkH 8 a0.out ?c7 ?_
    case c7=>(rintro W' hS0;have hc0:=Blk.nth hS0 1;clear hS0;go_simp;try with_reducible rfl)
    try simp only [pq]
    refine wpAnyH_ready (rs:=[1,6]) (by kernel_rfl) (by simp) ?_
    refine rdH rfl (fun K hK=>?_) ?_
    · -- 1: load
     have zl371:=Blk.cell (a1.out) 0
     go_simp
     clear zl371
     refine hK.out _ _ a0.out (fun _=>?_);clear hK K
     try simp only [pq]
     refine' tkH 4 a0.out ?c8 ?_
     case c8=>(rintro W' -;go_simp;try with_reducible rfl)
     try simp only [pq]
     refine oneH 6 rfl fun K hK=>?_
     have zl373:=Blk.cell (a1.out) 1
     go_simp
     clear zl373
     refine hK.out _ _ a0.out (fun _=>?_);clear hK K
     try simp only [pq]
     refine' tkH 9 a0.out ?c9 ?_
     case c9=>(rintro W' -;go_simp;try with_reducible rfl)
     refine' twH 10 a0.out ?_
     try simp only [pq]
     refine oneH 11 rfl fun K hK=>?_
     have g0:(a4).cell? ⟨w.heap.size+1,0,none⟩=some (.int .i64 R.lo):=Blk.cell (a1.out) 0
     have g1:(a4).frozen? ⟨w.heap.size+1,0,none⟩=false:=Blk.frozen (a1.out) 0
     have hlt_:=Blk.lt (a1.out)
     go_simp
     have d0:=hid (Below.setCell (a2.out) (p:=⟨w.heap.size+1,0,none⟩) (by first|omega | (simp;done) | (simp;omega) | (dsimp only;omega)) (.int .i64 X))
     have d1:=hid (Blk.far (a3.out) (p:=⟨w.heap.size+1,0,none⟩) (by first|omega | (simp;done) | (simp;omega) | (dsimp only;omega)) (.int .i64 X))
     have a7:=hid (Blk.set_ (a1.out) 0 (.int .i64 X))
     have b0:=hid (Blk.far (a0.out) (p:=⟨w.heap.size+1,0,none⟩) (by first|omega | (simp;done) | (simp;omega) | (dsimp only;omega)) (.int .i64 X))
     obtain ⟨c0,b1⟩:∃ w',w'=((a4).setCell ⟨w.heap.size+1,0,none⟩ (.int .i64 X)):=⟨_,rfl⟩
     rw [← b1] at d0 d1 a7 b0
     rw [← b1]
     clear b1 g0 g1 hlt_
     refine hK.out _ _ b0.out (fun _=>?_);clear hK K
     try simp only [pq]
     refine' twH 12 b0.out ?_
     try simp only [pq]
     refine oneH 13 rfl fun K hK=>?_
     have g2:(c0).cell? ⟨w.heap.size+1,1,none⟩=some (.int .i64 R.hi):=Blk.cell (a7.out) 1
     have g3:(c0).frozen? ⟨w.heap.size+1,1,none⟩=false:=Blk.frozen (a7.out) 1
     have hlt_:=Blk.lt (a7.out)
     go_simp
     have d2:=hid (Below.setCell (d0.out) (p:=⟨w.heap.size+1,1,none⟩) (by first|omega | (simp;done) | (simp;omega) | (dsimp only;omega)) (.int .i64 Y))
     have d3:=hid (Blk.far (d1.out) (p:=⟨w.heap.size+1,1,none⟩) (by first|omega | (simp;done) | (simp;omega) | (dsimp only;omega)) (.int .i64 Y))
     have d4:=hid (Blk.set_ (a7.out) 1 (.int .i64 Y))
     have d5:=hid (Blk.far (b0.out) (p:=⟨w.heap.size+1,1,none⟩) (by first|omega | (simp;done) | (simp;omega) | (dsimp only;omega)) (.int .i64 Y))
     obtain ⟨h2,b2⟩:∃ w',w'=((c0).setCell ⟨w.heap.size+1,1,none⟩ (.int .i64 Y)):=⟨_,rfl⟩
     rw [← b2] at d2 d3 d4 d5
     rw [← b2]
     clear b2 g2 g3 hlt_
     refine hK.out _ _ d5.out (fun _=>?_);clear hK K
     try simp only [pq]
     refine wpAnyH_done (by kernel_rfl) ?_ _
     clear hX hY
     go_wp2
     go_roundw
     case rel=>exact ⟨q+1,by omega,by go_num,d3.out,by rw [List.take_add_one,HV.out,Option.toList_some,comR_snoc,← HR.out,HP.out,HXY.out];exact d4.out,d2.out⟩
     case measure=>simp [intOf];omega
    refine rdH rfl (fun K hK=>?_) ?_
    · -- 6: load
     have zl393:=Blk.cell (a1.out) 1
     go_simp
     clear zl393
     refine hK.out _ _ a0.out (fun _=>?_);clear hK K
     try simp only [pq]
     refine' tkH 9 a0.out ?d6 ?_
     case d6=>(rintro W' -;go_simp;try with_reducible rfl)
     try simp only [pq]
     refine oneH 1 rfl fun K hK=>?_
     have zl395:=Blk.cell (a1.out) 0
     go_simp
     clear zl395
     refine hK.out _ _ a0.out (fun _=>?_);clear hK K
     try simp only [pq]
     refine' tkH 4 a0.out ?d7 ?_
     case d7=>(rintro W' -;go_simp;try with_reducible rfl)
     refine' twH 10 a0.out ?_
     try simp only [pq]
     refine oneH 11 rfl fun K hK=>?_
     have g4:(a4).cell? ⟨w.heap.size+1,0,none⟩=some (.int .i64 R.lo):=Blk.cell (a1.out) 0
     have g5:(a4).frozen? ⟨w.heap.size+1,0,none⟩=false:=Blk.frozen (a1.out) 0
     have hlt_:=Blk.lt (a1.out)
     go_simp
     have d8:=hid (Below.setCell (a2.out) (p:=⟨w.heap.size+1,0,none⟩) (by first|omega | (simp;done) | (simp;omega) | (dsimp only;omega)) (.int .i64 X))
     have d9:=hid (Blk.far (a3.out) (p:=⟨w.heap.size+1,0,none⟩) (by first|omega | (simp;done) | (simp;omega) | (dsimp only;omega)) (.int .i64 X))
     have a8:=hid (Blk.set_ (a1.out) 0 (.int .i64 X))
     have b3:=hid (Blk.far (a0.out) (p:=⟨w.heap.size+1,0,none⟩) (by first|omega | (simp;done) | (simp;omega) | (dsimp only;omega)) (.int .i64 X))
     obtain ⟨c5,b4⟩:∃ w',w'=((a4).setCell ⟨w.heap.size+1,0,none⟩ (.int .i64 X)):=⟨_,rfl⟩
     rw [← b4] at d8 d9 a8 b3
     rw [← b4]
     clear b4 g4 g5 hlt_
     refine hK.out _ _ b3.out (fun _=>?_);clear hK K
     try simp only [pq]
     refine' twH 12 b3.out ?_
     try simp only [pq]
     refine oneH 13 rfl fun K hK=>?_
     have g6:(c5).cell? ⟨w.heap.size+1,1,none⟩=some (.int .i64 R.hi):=Blk.cell (a8.out) 1
     have g7:(c5).frozen? ⟨w.heap.size+1,1,none⟩=false:=Blk.frozen (a8.out) 1
     have hlt_:=Blk.lt (a8.out)
     go_simp
     have e1:=hid (Below.setCell (d8.out) (p:=⟨w.heap.size+1,1,none⟩) (by first|omega | (simp;done) | (simp;omega) | (dsimp only;omega)) (.int .i64 Y))
     have e2:=hid (Blk.far (d9.out) (p:=⟨w.heap.size+1,1,none⟩) (by first|omega | (simp;done) | (simp;omega) | (dsimp only;omega)) (.int .i64 Y))
     have e3:=hid (Blk.set_ (a8.out) 1 (.int .i64 Y))
     have e4:=hid (Blk.far (b3.out) (p:=⟨w.heap.size+1,1,none⟩) (by first|omega | (simp;done) | (simp;omega) | (dsimp only;omega)) (.int .i64 Y))
     obtain ⟨h3,b5⟩:∃ w',w'=((c5).setCell ⟨w.heap.size+1,1,none⟩ (.int .i64 Y)):=⟨_,rfl⟩
     rw [← b5] at e1 e2 e3 e4
     rw [← b5]
     clear b5 g6 g7 hlt_
     refine hK.out _ _ e4.out (fun _=>?_);clear hK K
     try simp only [pq]
     refine wpAnyH_done (by kernel_rfl) ?_ _
     clear hX hY
     go_wp2
     go_roundw
     case rel=>exact ⟨q+1,by omega,by go_num,e2.out,by rw [List.take_add_one,HV.out,Option.toList_some,comR_snoc,← HR.out,HP.out,HXY.out];exact e3.out,e1.out⟩
     case measure=>simp [intOf];omega
    exact AllReadyH.nil
  · obtain rfl:q=m:=by omega
    have hln:=HL.out.len
    have hbr:=b6.out
    rw [List.take_of_length_le (by omega)] at hbr
    clear hln
    have e5:=hid (hbr)
    clear hbr
    obtain ⟨f6,f7⟩:=at2 a3
    obtain ⟨f8,f9⟩:=at2 e5
    have e6:(wr).frozen? ⟨w.heap.size,0,none⟩=false:=Blk.frozen a3.out 0
    have e7:(wr).frozen? ⟨w.heap.size,1,none⟩=false:=Blk.frozen a3.out 1
    have b7:=a2.out
    go_wp2
    refine bodyPost_ret (v:=.agg #[.int .i64 (comR ps l).lo,.int .i64 (comR ps l).hi]) (by simp [results,Tryz.results83,go_sem,f6,f7,f8,f9,e6,e7]) rfl ⟨rfl,(by have hsz_:=Below.size b7;repeat' (first|with_reducible exact b7|with_reducible exact Below.refl _ _|with_reducible refine Below.alloc ?_ ?_ _|with_reducible refine Below.setCell ?_ ?_ _|with_reducible refine Below.drew ?_|with_reducible refine below_setRow ?_ ?_ _|omega | (simp;done) | (simp;omega)))⟩
theorem common_is (ware:ByteArray) (lim by_:Int) (A:Option Addr) (n k:Nat) (ps:List Prt) (g:Nat) (B:Option Addr) (m d:Nat) (l:List Int) (w:World) (hv:Vw w g ware lim by_ A n k ps) (hl:RdI w B m d l) (hm:m≤maxLen) (hin:∀ x∈l,∃ a:Nat,x=a∧a<n) (R:Rng) (hR:comR ps l=R):Calls Tryz.prog 83 #[.pointer (some ⟨g,0,none⟩),.slice B m d] w fun e w'=>e=.returned (.agg #[.int .i64 R.lo,.int .i64 R.hi])∧Below w.heap.size w w':=by
 subst hR
 exact common_any ware lim by_ A n k ps g B m d l w hv hl hm hin
end Go.Proofs.YtokpblmgdmokoaaGreat
