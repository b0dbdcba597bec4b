import Derived.Test.YtokpblmgdmokoaaGreatAVAny
import Derived.Test.YtokpblmgdmokoaaGreatEVTw0
import Derived.Test.YtokpblmgdmokoaaGreatEVTr
set_option maxHeartbeats 8000000
set_option linter.unusedSimpArgs false
set_option linter.unusedVariables false
namespace Go.Proofs.YtokpblmgdmokoaaGreat
open Go.Lib (hid)
open Go.RowKit Go.Maps
section
variable {w:World} {g:Nat} {ware:ByteArray} {lim by_:Int} {A:Option Addr} {n k:Nat} {ps:List Prt}
end
set_option maxRecDepth 100000 in
theorem Clash_yes (ware:ByteArray) (lim by_:Int) (A:Option Addr) (n k:Nat) (ps:List Prt) (a b:Int) (w:World) (hr:RdP w A n k ps) (hn:n≤maxLen) (hq:askP ⟨ware,lim,by_,ps⟩ [a,b]=0):Calls Tryz.prog 18 #[.agg #[.string ware,.int .i64 lim,.int .i64 by_,.slice A n k],.int .i64 a,.int .i64 b] w fun e w'=>e=.returned (.tuple #[.bool (clB ps a b),.int .i64 0])∧Below w.heap.size w w':=by
 have HQ:=hid hq;have HR:=hid hr;clear hq
 go_enter Tryz.func18,Tryz.ntmps18
 obtain ⟨a1,a0⟩:=ent1 w #[.string ware,.int .i64 lim,.int .i64 by_,.slice A n k] 24
 have a2:=hid (RdP.below (hr) a0.out)
 clear hr
 obtain ⟨a8,a9,b0,b1⟩:=at4 a1
 clear a8 a9 b0 b1
 have nb_:=rdI2 ((w.alloc (.cells #[.string ware,.int .i64 lim,.int .i64 by_,.slice A n k] 24))) a b
 simp only [World.size_alloc] at nb_
 obtain ⟨o_,ho_⟩:∃ o,o=((.cells #[.int .i64 a,.int .i64 b] 3):Obj):=⟨_,rfl⟩
 replace a0:=bA a0 o_
 replace a2:=hid (RdP.alloc (a2.out) (o_))
 replace a1:=kA a1 o_
 subst ho_
 have a4:=hid nb_;clear nb_
 obtain ⟨b2,a5,a6,a7⟩:=at4 a1
 have hc:=viewOf_yes ware lim by_ A n k ps (some ⟨w.heap.size+1,0,none⟩) 2 2 [a,b] (((w.alloc (.cells #[.string ware,.int .i64 lim,.int .i64 by_,.slice A n k] 24)).alloc (.cells #[.int .i64 a,.int .i64 b] 3))) a2.out a4.out hn (by unfold maxLen;omega) HQ.out
 have HC:=hid hc;clear hc
 go_wp2_with fail
 refine HC.out.mono ?_
 rintro e b3 ⟨⟨g,rfl,hvw⟩,hb⟩
 have HVW:=hid hvw;clear hvw
 clear HC
 clear b2 a5 a6 a7
 have a3:=hid hb
 clear hb
 replace a1:=kH a1 a3
 obtain ⟨b4,b5,b6,b7⟩:=at4 a1
 obtain ⟨a',rfl,ha⟩:=askP_in HQ.out (x:=a) (by simp)
 obtain ⟨b',rfl,hb⟩:=askP_in HQ.out (x:=b) (by simp)
 have hln:=HR.out.len
 dsimp only at ha hb
 have HC:=hid (clash_any HVW.out (show a'<n by omega) (show b'<n by omega))
 go_wp2_with fail
 refine HC.out.mono ?_
 rintro e _ ⟨rfl,rfl⟩
 clear HC
 go_wp2
 go_ret2
 replace a0:=bH a0 a3
 exact ⟨by rw [clB_nat];rfl,a0.out⟩
def bstF (ps:List Prt) (r:Nat) (l:List Int) (many q:Nat):Int:=(List.range q).foldl (fun (b:Int) (x:Nat)=>if fitB ps l x then min b (fewR ps r (l++[(x:Int)]) (max many (x+1))) else b) ((ps.length:Int)+1)
theorem bstF_succ (ps:List Prt) (r:Nat) (l:List Int) (many q:Nat):bstF ps r l many (q+1)=if fitB ps l q then min (bstF ps r l many q) (fewR ps r (l++[(q:Int)]) (max many (q+1))) else bstF ps r l many q:=by
 unfold bstF
 rw [List.range_succ,List.foldl_append]
 rfl
def fitJ (ps:List Prt) (l:List Int) (x:Int) (j:Nat):Bool:=(List.range j).all fun k=>decide (l.getD k 0≠x) || !clN ps k l.length
theorem fitJ_succ (ps:List Prt) (l:List Int) (x:Int) (j:Nat):fitJ ps l x (j+1)=(fitJ ps l x j&&(decide (l.getD j 0≠x) || !clN ps j l.length)):=by
 unfold fitJ
 rw [List.range_succ,List.all_append]
 simp
theorem cl_cb {ps:List Prt} {l:List Int} {j m:Nat} {v:Bool} (h:clB ps (j:Int) (m:Int)=v) (hl:l.length=m) (_:j<m):clN ps j l.length=v:=by
 rw [← h,hl]
 unfold clB clN ptA
 rw [Int.toNat_natCast,Int.toNat_natCast,show decide ((j:Int)≠(m:Int))=decide (j≠m) from decide_eq_decide.2 (by omega)]
theorem ask_two {c:Cse} {n i j:Nat} (hc:chkC c=0) (hn:c.ps.length=n) (hi:i<n) (hj:j<n):askP c [(i:Int),(j:Int)]=0:=by
 unfold askP
 rw [if_neg (by simp [hc]),if_pos]
 simp only [List.all_cons,List.all_nil,Bool.and_true,Bool.and_eq_true,inR,decide_eq_true_eq]
 omega
set_option maxRecDepth 100000 in
theorem fewest_end (ware:ByteArray) (lim by_:Int) (A:Option Addr) (n k:Nat) (ps:List Prt) (B:Option Addr) (m d:Nat) (l:List Int) (many:Nat) (w:World) (hr:RdP w A n k ps) (hl:RdI w B m d l) (hn:n≤maxLen) (h6:n≤12) (hck:chkC ⟨ware,lim,by_,ps⟩=0) (hmr:m=n):Calls Tryz.prog 64 #[.agg #[.string ware,.int .i64 lim,.int .i64 by_,.slice A n k],.slice B m d,.int .i64 (many:Int)] w fun e w'=>e=.returned (.int .i64 (many:Int))∧Below w.heap.size w w':=by
 have hmn:((m:Int) == (n:Int))=true:=by rw [beq_iff_eq];omega
 clear hmr
 go_enter Tryz.func64,Tryz.ntmps64
 obtain ⟨a1,a0⟩:=ent1 w #[.string ware,.int .i64 lim,.int .i64 by_,.slice A n k] 24
 have a2:=hid (RdP.below (hr) a0.out)
 have a3:=iI hl a0
 clear hr hl
 obtain ⟨a4,a5,a6,a7⟩:=at4 a1
 go_wp2
 go_ret
 exact ⟨rfl,a0.out⟩
def FewC (r:Nat):Prop:=∀ (ware:ByteArray) (lim by_:Int) (A:Option Addr) (n k:Nat) (ps:List Prt) (B:Option Addr) (m d:Nat) (l:List Int) (many:Nat) (w:World) (hr:RdP w A n k ps) (hl:RdI w B m d l) (hn:n≤maxLen) (h6:n≤12) (hck:chkC ⟨ware,lim,by_,ps⟩=0) (hmr:m+r=n) (hma:many≤m),Calls Tryz.prog 64 #[.agg #[.string ware,.int .i64 lim,.int .i64 by_,.slice A n k],.slice B m d,.int .i64 (many:Int)] w fun e w'=>e=.returned (.int .i64 (fewR ps r l many))∧Below w.heap.size w w'
theorem few_is_ {r:Nat} (ih:FewC r) (ware:ByteArray) (lim by_:Int) (A:Option Addr) (n k:Nat) (ps:List Prt) (B:Option Addr) (m d:Nat) (l:List Int) (many:Nat) (w:World) (hr:RdP w A n k ps) (hl:RdI w B m d l) (hn:n≤maxLen) (h6:n≤12) (hck:chkC ⟨ware,lim,by_,ps⟩=0) (hmr:m+r=n) (hma:many≤m) (R:Int) (hR:fewR ps r l many=R):Calls Tryz.prog 64 #[.agg #[.string ware,.int .i64 lim,.int .i64 by_,.slice A n k],.slice B m d,.int .i64 (many:Int)] w fun e w'=>e=.returned (.int .i64 R)∧Below w.heap.size w w':=by
 subst hR
 exact ih ware lim by_ A n k ps B m d l many w hr hl hn h6 hck hmr hma
set_option maxRecDepth 100000 in
theorem fewest_step (r:Nat) (ih:FewC r):FewC (r+1):=by
 intro ware lim by_ A n k ps B m d l many w hr hl hn h6 hck hmr hma
 have hmn:((m:Int) == (n:Int))=false:=by rw [beq_eq_false_iff_ne];omega
 have hlt0:m+r<n:=by omega
 have hlt1':n≤m+r+1:=by omega
 have HPL:=hid hr.len;have HLM:=hid hl.len;have HCK:=hid hck;clear hmr hck
 have hnw:IntKind.i64.wrap ((n:Int)+1)=(n:Int)+1:=IntWalk.i64_in _ (by omega)
 have hb0:((n:Int)+1)=bstF ps r l many 0:=by unfold bstF;rw [HPL.out];rfl
 go_enter Tryz.func64,Tryz.ntmps64
 obtain ⟨a7,a4⟩:=ent1 w #[.string ware,.int .i64 lim,.int .i64 by_,.slice A n k] 24
 have b4:=hid (RdP.below (hr) a4.out)
 have b5:=iI hl a4
 clear hr hl
 obtain ⟨d0,d1,d2,d3⟩:=at4 a7
 have HR1:=hid (b4.out)
 clear b4
 have HL1:=hid (b5.out)
 clear b5
 go_wp2
 clear d0 d1 d2 d3
 obtain ⟨w1,hw1_⟩:∃ v,v=(w.alloc (.cells #[.string ware,.int .i64 lim,.int .i64 by_,.slice A n k] 24)):=⟨_,rfl⟩
 rw [← hw1_] at HR1 HL1 a4 a7 ⊢
 clear hw1_
 have hlt1:=Blk.lt (a7.out)
 have HBE1:=hid (a4.out)
 go_loopw [8,9] (fun b x wr=>∃ q:Nat,q≤many+1∧b=.int .i64 (bstF ps r l many q)∧x=.int .i64 q∧Blk wr w.heap.size 24 #[.string ware,.int .i64 lim,.int .i64 by_,.slice A n k]∧Below w1.heap.size w1 wr) (fun _ x _=>many+1-(intOf x).toNat)
 case atStart=>exact ⟨0,Nat.zero_le _,rfl,rfl,a7.out,Below.refl _ _⟩
 case round =>
  clear a4 a7
  obtain ⟨q,hq,rfl,rfl,hbc,hbe⟩:=hrel
  obtain ⟨wa,rfl⟩:∃ v,v=wr:=⟨wr,rfl⟩
  obtain ⟨bq,hbq⟩:∃ v,(bstF ps r l many q)=v:=⟨_,rfl⟩
  rw [hbq]
  have HBQ:=hid hbq;clear hbq
  have a8:=hid (hbc)
  have a6:=hid (hbe)
  clear hbc hbe
  by_cases hlt:q≤many
  · have hlt':(q:Int)≤many:=by omega
    have HST:=hid (bstF_succ ps r l many q)
    go_wp2
    go_loopw [10,11] (fun f k' wr=>∃ j:Nat,j≤m∧f=.bool (fitJ ps l q j)∧k'=.int .i64 j∧Blk wr w.heap.size 24 #[.string ware,.int .i64 lim,.int .i64 by_,.slice A n k]∧Below w1.heap.size w1 wr) (fun _ k' _=>m-(intOf k').toNat)
    case atStart=>exact ⟨0,Nat.zero_le _,rfl,rfl,a8.out,a6.out⟩
    case round =>
     clear a8 a6
     obtain ⟨j,hj,rfl,rfl,hbc,hbe⟩:=hrel
     obtain ⟨fb,hfb⟩:∃ fb,fitJ ps l q j=fb:=⟨_,rfl⟩
     rw [hfb]
     have HFB:=hid hfb;clear hfb
     have a1:=hid (hbc)
     have a0:=hid (hbe)
     clear hbc hbe
     by_cases hjm:j<m
     · have hjm':(j:Int)<m:=by omega
       obtain ⟨cb,hcb⟩:∃ v,clB ps (j:Int) (m:Int)=v:=⟨_,rfl⟩
       have HCB:=hid hcb;clear hcb
       obtain ⟨c1,c2,c3,c4⟩:=at4 a1
       have hszw:=(a0.out).size
       have hc:=Clash_yes ware lim by_ A n k ps (j:Int) (m:Int) (wr) (HR1.out.below a0.out) hn (ask_two HCK.out HPL.out (by omega) (by omega))
       rw [HCB.out] at hc
       try dsimp only at hc
       have HC:=hid hc;clear hc
       go_wp2_with fail
       refine HC.out.mono ?_
       rintro e d8 ⟨rfl,hb⟩
       clear HC
       clear c1 c2 c3 c4
       have b2:=hid hb
       clear hb
       replace a1:=kH a1 b2
       obtain ⟨d9,e1,e2,e3⟩:=at4 a1
       replace a0:=bH a0 b2
       obtain ⟨b9,o9,u,hA9,hb9,hv,e0⟩:=RdI.get (HL1.out.below a0.out) hjm
       subst hA9
       have HV:=hid (show l.getD j 0=u by rw [List.getD_eq_getElem?_getD,hv];rfl);clear hv
       cases fb
       · go_wp2
         go_roundw
         case rel=>exact ⟨j+1,by omega,by rw [fitJ_succ,HFB.out,Bool.false_and];try rfl,by go_num,a1.out,a0.out⟩
         case measure=>simp [intOf];omega
       · by_cases huq:u=(q:Int)
         · have HUQ:=hid huq
           have hne:(u != (q:Int))=false:=by simpa using huq
           clear huq
           cases cb
           · go_wp2
             go_roundw
             case rel=>exact ⟨j+1,by omega,by rw [fitJ_succ,HFB.out,HV.out,decide_eq_false (not_not_intro HUQ.out),cl_cb HCB.out HLM.out (by omega)];try rfl,by go_num,a1.out,a0.out⟩
             case measure=>simp [intOf];omega
           · go_wp2
             go_roundw
             case rel=>exact ⟨j+1,by omega,by rw [fitJ_succ,HFB.out,HV.out,decide_eq_false (not_not_intro HUQ.out),cl_cb HCB.out HLM.out (by omega)];try rfl,by go_num,a1.out,a0.out⟩
             case measure=>simp [intOf];omega
         · have HUQ:=hid huq
           have hne:(u != (q:Int))=true:=by simpa using huq
           clear huq
           go_wp2
           go_roundw
           case rel=>exact ⟨j+1,by omega,by rw [fitJ_succ,HFB.out,HV.out,decide_eq_true HUQ.out,Bool.true_or];try rfl,by go_num,a1.out,a0.out⟩
           case measure=>simp [intOf];omega
     · obtain rfl:m=j:=by omega
       have HFI:=hid (show fitB ps l q=fb by rw [← HFB.out,← HLM.out];rfl)
       cases fb
       · go_wp2
         go_roundw
         case rel=>exact ⟨q+1,by omega,by rw [HST.out,HFI.out,HBQ.out];rfl,by go_num,a1.out,a0.out⟩
         case measure=>simp [intOf];omega
       · obtain ⟨R9,hR9⟩:∃ v,fewR ps r (l++[(q:Int)]) (max many (q+1))=v:=⟨_,rfl⟩
         have HR9:=hid hR9;clear hR9
         have hfs:=full_slice B m d l _ HL1.out
         have HFS:=hid hfs;clear hfs
         have hmx:max (many:Int) ((q:Int)+1)=((max many (q+1):Nat):Int):=by omega
         have hqw:IntKind.i64.wrap ((q:Int)+1)=(q:Int)+1:=IntWalk.i64_in _ (by omega)
         go_wp2
         replace a1:=kD a1
         replace a0:=bD a0
         refine wp_region_held_drew (S:=(fun W'=>Blk W' (w.heap.size) 24 #[.string ware,.int .i64 lim,.int .i64 by_,.slice A n k]∧Below w1.heap.size w1 W')) (by kernel_rfl) ⟨a1.out,a0.out⟩ (fun _=>?_)
         obtain ⟨b3,a9⟩:∃ w',w'=(wr.drew):=⟨_,rfl⟩
         rw [← a9] at a1 a0
         rw [← a9]
         clear a9
         refine' twH 0 ⟨a1.out,a0.out⟩ ?_
         refine' tkH 1 ⟨a1.out,a0.out⟩ ?b6 ?_
         case b6=>(rintro W' ⟨hS0,hS1⟩;have hc0:=Blk.nth hS0 0;have hc1:=Blk.nth hS0 1;have hc2:=Blk.nth hS0 2;have hc3:=Blk.nth hS0 3;clear hS0 hS1;go_simp;try with_reducible rfl)
         refine' twH 2 ⟨a1.out,a0.out⟩ ?_
         refine' twH 3 ⟨a1.out,a0.out⟩ ?_
         try simp only [pq]
         refine' twH 4 ⟨a1.out,a0.out⟩ ?_
         refine' tkH 5 ⟨a1.out,a0.out⟩ ?b7 ?_
         case b7=>(rintro W' -;have hq_:=HFS.out W';go_simp;try with_reducible rfl)
         refine' twH 6 ⟨a1.out,a0.out⟩ ?_
         refine' twH 9 ⟨a1.out,a0.out⟩ ?_
         try simp only [pq]
         refine' twH 10 ⟨a1.out,a0.out⟩ ?_
         refine' twH 11 ⟨a1.out,a0.out⟩ ?_
         refine' tkH 12 ⟨a1.out,a0.out⟩ ?b8 ?_
         case b8=>(rintro W' -;go_simp;try with_reducible rfl)
         try simp only [pq]
         refine oneH 7 rfl fun K hK=>?_
         go_simp
         have c6:=hid (Nat.ne_of_lt (Blk.lt a1.out))
         have c7:=hid (a0.out.size)
         obtain ⟨o_,ho_⟩:∃ o,o=(.cells #[.int .i64 q] 3:Obj):=⟨_,rfl⟩
         replace a1:=kA a1 o_
         replace a0:=bA a0 o_
         subst ho_
         have a2:=hid (Blk.new (b3) 3 #[.int .i64 q])
         obtain ⟨c8,b0⟩:∃ g,g=(b3).heap.size:=⟨_,rfl⟩
         obtain ⟨e4,b1⟩:∃ w',w'=(b3).alloc (.cells #[.int .i64 q] 3):=⟨_,rfl⟩
         rw [← b1] at a1 a0 a2
         rw [← b0] at c6 c7 a2
         rw [← b0,← b1]
         clear b0 b1
         refine hK.out _ _ ⟨a1.out,a0.out⟩ (fun _=>?_);clear hK K
         try simp only [pq]
         refine oneH 8 rfl fun K hK=>?_
         have hgc_:=Blk.cell (a2.out) 0
         refine wp_appF (.tmp 62) (.tmp 64) rfl B m d l rfl (HL1.out.below a0.out) c8 (q:Int) rfl hgc_ (by omega) ?_
         intro A5 c5 c9 hr5_ a5
         clear hgc_
         have HR5:=hid hr5_;clear hr5_
         replace a5:=hid a5
         replace a1:=kH a1 a5
         replace a0:=bH a0 a5
         refine hK.out _ _ ⟨a1.out,a0.out⟩ (fun _=>?_);clear hK K
         try simp only [pq]
         refine oneH 13 rfl fun K hK=>?_
         go_simp
         go_at_call 64
         refine (few_is_ ih ware lim by_ A n k ps A5 (m+1) c5 (l++[(q:Int)]) (max many (q+1)) (c9) (HR1.out.below a0.out) (HR5.out) hn h6 HCK.out (by omega) (by omega) R9 HR9.out).mono ?_
         rintro e e5 ⟨rfl,a3⟩
         dsimp only
         replace a3:=hid a3
         replace a1:=kH a1 a3
         replace a0:=bH a0 a3
         refine hK.out _ _ ⟨a1.out,a0.out⟩ (fun _=>?_);clear hK K
         try simp only [pq]
         refine' tkH 14 ⟨a1.out,a0.out⟩ ?c0 ?_
         case c0=>(rintro W' -;go_simp;try with_reducible rfl)
         refine' twH 15 ⟨a1.out,a0.out⟩ ?_
         try simp only [pq]
         refine wpAnyH_done (by kernel_rfl) ?_ _
         go_wp2
         replace a2:=kH (kH a2 a5) a3
         replace HR5:=iH HR5 a3
         go_roundw
         case rel=>exact ⟨q+1,by omega,by rw [HST.out,HFI.out,HBQ.out,HR9.out];simp only [if_true],by go_num,a1.out,a0.out⟩
         case measure=>simp [intOf];omega
  · obtain rfl:q=many+1:=by omega
    have hlt'':¬ ((many:Int)+1≤(many:Int)):=by omega
    obtain ⟨d4,d5,d6,d7⟩:=at4 a8
    go_wp2
    go_ret
    exact ⟨ret_int (by rw [← HBQ.out];rfl),HBE1.out.trans ((a6.out).mono HBE1.out.size)⟩
theorem fewest_all:∀ r,FewC r
 | 0=>by
  intro ware lim by_ A n k ps B m d l many w hr hl hn h6 hck hmr hma
  exact fewest_end ware lim by_ A n k ps B m d l many w hr hl hn h6 hck hmr
 | r+1=>fewest_step r (fewest_all r)
end Go.Proofs.YtokpblmgdmokoaaGreat
