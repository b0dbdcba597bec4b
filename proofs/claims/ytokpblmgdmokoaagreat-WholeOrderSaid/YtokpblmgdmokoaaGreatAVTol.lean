import Derived.Test.YtokpblmgdmokoaaGreatAVClm
import Derived.Test.YtokpblmgdmokoaaGreatAVWit
import Derived.Test.YtokpblmgdmokoaaGreatAVMge
import Derived.Test.YtokpblmgdmokoaaGreatAVAsg
import Derived.Test.YtokpblmgdmokoaaGreatAVIsw
import Derived.Test.YtokpblmgdmokoaaGreatAVCri
import Derived.Test.YtokpblmgdmokoaaGreatAVMor
import Derived.Test.YtokpblmgdmokoaaGreatAVClr
set_option maxHeartbeats 4000000
set_option linter.unusedSimpArgs false
set_option linter.unusedVariables false
namespace Go.Proofs.YtokpblmgdmokoaaGreat
open Go.Lib (hid)
open Go.RowKit Go.Maps Go.Shelf
theorem drewN_below {w:World} (k:Nat):Below w.heap.size w (w.drewN k):=⟨rfl,rfl,rfl,Nat.le_refl _,fun _ _=>rfl⟩
theorem take_snoc_eq {α:Type} {l k:List α} {q:Nat} {x:α} (h:l.take q=k.take q) (hx:l[q]?=some x) (hy:k[q]?=some x):l.take (q+1)=k.take (q+1):=by rw [List.take_add_one,List.take_add_one,h,hx,hy]
set_option maxRecDepth 100000 in
theorem sameInts_any (A:Option Addr) (m c:Nat) (l:List Int) (B:Option Addr) (p d:Nat) (k:List Int) (w:World) (hl:RdI w A m c l) (hk:RdI w B p d k) (hm:m≤100000):Calls Tryz.prog 28 #[.slice A m c,.slice B p d] w fun e w'=>e=.returned (.bool (decide (l=k)))∧Below w.heap.size w w':=by
 have HL:=hid hl;have HK:=hid hk;clear hl hk
 go_enter Tryz.func28,Tryz.ntmps28
 by_cases hmp:m=p
 · subst hmp
   have hmz:((m:Int) != (m:Int))=false:=by simp
   go_wp2
   clear hmz
   go_loopw [5] (fun s5 wr=>∃ q:Nat,s5=.int .i64 q∧q≤m∧l.take q=k.take q∧Below w.heap.size w wr) (fun s5 _=>m-(intOf s5).toNat)
   case atStart=>exact ⟨0,rfl,Nat.zero_le _,rfl,Below.refl _ _⟩
   case round =>
    obtain ⟨q,rfl,hq,htk,hb⟩:=hrel
    have HTK:=hid htk;have HB:=hid hb;clear htk hb
    by_cases hlt:q<m
    · have hlt':(q:Int)<m:=by omega
      obtain ⟨b1,o1,x,hA,hb1,hx,e0⟩:=RdI.get (HL.out.below HB.out) hlt
      subst hA
      obtain ⟨b2,o2,y,hB2,hb2,hy,e1⟩:=RdI.get (HK.out.below HB.out) hlt
      subst hB2
      have HX:=hid hx;have HY:=hid hy;clear hx hy
      by_cases hxy:x=y
      · subst hxy
        have HT2:=hid (take_snoc_eq HTK.out HX.out HY.out)
        have hne:((x:Int) != (x:Int))=false:=by simp
        go_wp2
        go_quiet (fail)
        go_wp2
        go_roundw
        case rel=>exact ⟨q+1,by go_num,by omega,HT2.out,HB.out.trans (Below.mono (drewN_below _) HB.out.size)⟩
        case measure=>simp [intOf];omega
      · have HN:=hid (show decide (l=k)=false from decide_eq_false (fun e=>by subst e;have:=HX.out.symm.trans HY.out;injection this with this;exact hxy this))
        have hne:((x:Int) != (y:Int))=true:=by simpa using hxy
        go_wp2
        go_quiet (fail)
        go_wp2
        go_ret
        exact ⟨ret_bool (by rw [HN.out]),HB.out.trans ((drewN_below _).mono HB.out.size)⟩
    · obtain rfl:q=m:=by omega
      have HE:=hid (show decide (l=k)=true from decide_eq_true (by have h:=HTK.out;rw [List.take_of_length_le (by rw [HL.out.len];exact Nat.le_refl _),List.take_of_length_le (by rw [HK.out.len];exact Nat.le_refl _)] at h;exact h))
      go_wp2
      go_ret
      exact ⟨ret_bool (by rw [HE.out]),HB.out⟩
 · have hmz:((m:Int) != (p:Int))=true:=by simp;omega
   have HN:=hid (show decide (l=k)=false from decide_eq_false (fun e=>by have h1:=HL.out.len;have h2:=HK.out.len;rw [e] at h1;omega))
   go_wp2
   go_ret
   exact ⟨ret_bool (by rw [HN.out]),Below.refl _ _⟩
set_option maxRecDepth 100000 in
theorem sameRanges_any (A:Option Addr) (m c:Nat) (l:List Rng) (B:Option Addr) (p d:Nat) (k:List Rng) (w:World) (hl:RdG w A m c l) (hk:RdG w B p d k) (hm:m≤100000):Calls Tryz.prog 56 #[.slice A m c,.slice B p d] w fun e w'=>e=.returned (.bool (decide (l=k)))∧Below w.heap.size w w':=by
 have HL:=hid hl;have HK:=hid hk;clear hl hk
 go_enter Tryz.func56,Tryz.ntmps56
 by_cases hmp:m=p
 · subst hmp
   have hmz:((m:Int) != (m:Int))=false:=by simp
   go_wp2
   clear hmz
   go_loopw [5] (fun s5 wr=>∃ q:Nat,s5=.int .i64 q∧q≤m∧l.take q=k.take q∧Below w.heap.size w wr) (fun s5 _=>m-(intOf s5).toNat)
   case atStart=>exact ⟨0,rfl,Nat.zero_le _,rfl,Below.refl _ _⟩
   case round =>
    obtain ⟨q,rfl,hq,htk,hb⟩:=hrel
    have HTK:=hid htk;have HB:=hid hb;clear htk hb
    by_cases hlt:q<m
    · have hlt':(q:Int)<m:=by omega
      obtain ⟨b1,o1,x,hA,hb1,hx,e0,e2⟩:=RdG.get (HL.out.below HB.out) hlt
      subst hA
      obtain ⟨b2,o2,y,hB2,hb2,hy,e1,e3⟩:=RdG.get (HK.out.below HB.out) hlt
      subst hB2
      have HX:=hid hx;have HY:=hid hy;clear hx hy
      by_cases hxy:x=y
      · subst hxy
        have HT2:=hid (take_snoc_eq HTK.out HX.out HY.out)
        go_wp2
        go_region
        go_wp2
        go_roundw
        case rel=>exact ⟨q+1,by go_num,by omega,HT2.out,HB.out.trans (Below.mono ((Below.refl _ _).drew) HB.out.size)⟩
        case measure=>simp [intOf];omega
      · have HN:=hid (show decide (l=k)=false from decide_eq_false (fun e=>by subst e;have:=HX.out.symm.trans HY.out;injection this with this;exact hxy this))
        obtain ⟨xl,xh⟩:=x
        obtain ⟨yl,yh⟩:=y
        dsimp only at e0 e1 e2 e3
        by_cases h1:xl=yl
        · subst h1
          have h2:(xh == yh)=false:=by simpa using hxy
          clear hxy
          go_wp2
          go_region
          go_wp2
          go_ret
          exact ⟨ret_bool (by rw [HN.out]),HB.out.trans (Below.mono ((Below.refl _ _).drew) HB.out.size)⟩
        · have h2:(xl == yl)=false:=by simpa using h1
          clear hxy h1
          go_wp2
          go_region
          go_wp2
          go_ret
          exact ⟨ret_bool (by rw [HN.out]),HB.out.trans (Below.mono ((Below.refl _ _).drew) HB.out.size)⟩
    · obtain rfl:q=m:=by omega
      have HE:=hid (show decide (l=k)=true from decide_eq_true (by have h:=HTK.out;rw [List.take_of_length_le (by rw [HL.out.len];exact Nat.le_refl _),List.take_of_length_le (by rw [HK.out.len];exact Nat.le_refl _)] at h;exact h))
      go_wp2
      go_ret
      exact ⟨ret_bool (by rw [HE.out]),HB.out⟩
 · have hmz:((m:Int) != (p:Int))=true:=by simp;omega
   have HN:=hid (show decide (l=k)=false from decide_eq_false (fun e=>by have h1:=HL.out.len;have h2:=HK.out.len;rw [e] at h1;omega))
   go_wp2
   go_ret
   exact ⟨ret_bool (by rw [HN.out]),Below.refl _ _⟩
theorem rdI_cut {w:World} {A:Option Addr} {n c k:Nat} {l:List Int} (h:RdI w A n c l) (hk:k≤n) (h0:0<k):RdI w A k k (l.take k) :=
 ⟨(rdI_take h hk).len,Nat.le_refl _,fun e=>by have:=(h.nil e).1;omega,(rdI_take h hk).cells⟩
set_option maxRecDepth 100000 in
theorem Bar_yes (ware:ByteArray) (lim by_:Int) (A:Option Addr) (n k:Nat) (ps:List Prt) (a b:Nat) (w:World) (hr:RdP w A n k ps) (hn:n≤maxLen) (hq:askP2 ⟨ware,lim,by_,ps⟩ (a:Int) (b:Int)=0) (hcl:clN ps a b=false) (h20:n<20) (hwl:(witL (jntL ps a b)).length≤1000):Calls Tryz.prog 59 #[.agg #[.string ware,.int .i64 lim,.int .i64 by_,.slice A n k],.int .i64 a,.int .i64 b] w fun e w'=>((lim≠0∧∃ (A:Option Addr) (K c:Nat),lim=(K:Int)∧K+1≤(witL (jntL ps a b)).length∧e=.returned (.tuple #[.slice A (K+1) c,.bool true,.int .i64 0])∧RdI w' A (K+1) c ((witL (jntL ps a b)).take (K+1)))∨((lim=0∨((witL (jntL ps a b)).length:Int)≤lim)∧e=.returned (.tuple #[.slice none 0 0,.bool false,.int .i64 0])))∧Below w.heap.size w w':=by
 have HWL:=hid hwl;clear hwl
 obtain ⟨hck,ha,hb,hab⟩:=askP2_ok hq
 dsimp only at ha hb
 rw [hr.len] at ha hb
 have HLM:=hid (show 0≤lim∧lim≤40 from ⟨(chkC_ok hck).2.2.1,(chkC_ok hck).2.2.2.1⟩)
 have HSM:=hid (show ∀ p∈ps,p.sh.length≤50000∧p.rs.length≤50000 from fun p hp=>by obtain ⟨-,-,-,-,-,h6,-⟩:=chkC_ok hck;obtain ⟨-,g1,g2,-⟩:=prtB_ok (h6 p hp);exact ⟨by omega,by omega⟩)
 have HQ:=hid hq;clear hq hck
 have HCL:=hid hcl;clear hcl
 go_enter Tryz.func59,Tryz.ntmps59
 obtain ⟨a1,a0⟩:=ent1 w #[.string ware,.int .i64 lim,.int .i64 by_,.slice A n k] 24
 have a4:=hid (RdP.below (hr) a0.out)
 clear hr
 obtain ⟨b0,b2,b3,b4⟩:=at4 a1
 have hc:=viewOfTwo_yes ware lim by_ A n k ps a b ((w.alloc (.cells #[.string ware,.int .i64 lim,.int .i64 by_,.slice A n k] 24))) a4.out hn HQ.out
 have HC:=hid hc;clear hc
 go_wp2_with fail
 refine HC.out.mono ?_
 rintro e b5 ⟨⟨g,rfl,hvw⟩,hb⟩
 have HVW:=hid hvw;clear hvw
 clear HC
 clear b0 b2 b3 b4
 have a5:=hid hb
 clear hb
 replace a1:=kH a1 a5
 obtain ⟨a6,a7,a8,a9⟩:=at4 a1
 have HC:=hid ((by have h:=clash_any HVW.out ha hb;rw [HCL.out] at h;exact h))
 go_wp2_with fail
 refine HC.out.mono ?_
 rintro e _ ⟨rfl,rfl⟩
 clear HC
 have HC:=hid (joint_any g ware lim by_ A n k ps a b (b5) HVW.out ha hb hab HSM.out)
 go_wp2_with fail
 refine HC.out.mono ?_
 rintro e w4 ⟨⟨g2,R,k1,rfl,hv2⟩,hb4⟩
 clear HC
 have HV2:=hid hv2;clear hv2
 clear a6 a7 a8 a9
 have a2:=hid hb4
 clear hb4
 replace a0:=bH (bH a0 a5) a2
 have hsz4:=(a0.out).size
 have HC:=hid (witness_any g2 ware lim by_ R (n-1) k1 (jntL ps a b) w4 HV2.out (by omega))
 go_wp2_with fail
 refine HC.out.mono ?_
 rintro e w5 ⟨v,rfl,hown,hb5⟩
 clear HC
 have a3:=hid hb5
 clear hb5
 obtain ⟨Aw,cw,rfl,hrd,-⟩:=own_rd_blk hown
 have HRD:=hid hrd;clear hown
 obtain ⟨L,hL⟩:∃ x,x=witL (jntL ps a b):=⟨_,rfl⟩
 rw [← hL] at HRD hrd HWL ⊢
 have HL:=hid hL;clear hL
 have hcw:=hrd.cap;clear hrd
 have hL20:=HWL.out
 replace HVW:=hid (Vw.keep (Vw.keep (HVW.out) a2.out) a3.out)
 obtain ⟨-,v1,-,-⟩:=(HVW.out).cells
 have hvl:=(HVW.out).lt
 obtain ⟨b1,hb1⟩:∃ v,(lim == 0)=v:=⟨_,rfl⟩
 have HB1:=hid hb1
 have hl0:b1=false→lim≠0:=fun h=>by rw [h] at hb1;simpa using hb1
 replace a0:=bH a0 a3
 replace a4:=hid (RdP.below (RdP.below (RdP.below (a4.out) a5.out) a2.out) a3.out)
 replace a1:=kH (kH a1 a2) a3
 cases b1
 · have hl1:=hl0 rfl;clear hl0
   by_cases hle:(L.length:Int)≤lim
   · go_wp2
     refine bodyPost_ret (v:=.tuple #[.slice none 0 0,.bool false,.int .i64 0]) (by simp [results,Tryz.results59,go_sem]) rfl ⟨.inr ⟨Or.inr (by rw [← HL.out];exact hle),rfl⟩,a0.out⟩
   · obtain ⟨K1,hK1⟩:∃ K1:Nat,lim+1=(K1:Int):=⟨(lim+1).toNat,by have:=HLM.out;omega⟩
     have hlw:IntKind.i64.wrap (lim+1)=(K1:Int):=by rw [IntKind.wrap_i64];have:=HLM.out;omega
     have hKL:(K1:Int)≤L.length:=by omega
     have hcz:(K1:Int)≤cw:=by omega
     have HK1:=hid hK1;clear hK1
     go_wp2
     go_region
     go_wp2
     refine bodyPost_ret (v:=.tuple #[.slice Aw K1 K1,.bool true,.int .i64 0]) (by simp [results,Tryz.results59,go_sem]) rfl ⟨.inl ⟨hl1,Aw,K1-1,K1,by have:=HK1.out;have:=HLM.out;omega,?_,?_,?_⟩,(a0.out).drew⟩
     all_goals rw [show K1-1+1=K1 by have:=HK1.out;have:=HLM.out;omega]
     · rw [← HL.out];omega
     · rw [← HL.out];exact (rdI_cut HRD.out (by omega) (by have:=HK1.out;have:=HLM.out;omega)).drew
 · go_wp2
   refine bodyPost_ret (v:=.tuple #[.slice none 0 0,.bool false,.int .i64 0]) (by simp [results,Tryz.results59,go_sem]) rfl ⟨.inr ⟨Or.inl (by simpa using HB1.out),rfl⟩,a0.out⟩
def bellN:ByteArray:=⟨#[98,101,108,108]⟩
def moreP:List Prt:=bellP++[⟨[105],12,13,0,0,true,13,[]⟩]
set_option maxRecDepth 100000
theorem tl_chk:chkC ⟨bellN,2,20,bellP⟩=0:=by kernel_rfl
theorem tl_chkM:chkC ⟨bellN,0,0,moreP⟩=0:=by kernel_rfl
theorem tl_least:(vesL bellP).length=2:=by kernel_rfl
theorem tl_leastM:(vesL moreP).length=3:=by kernel_rfl
theorem tl_cri:criN moreP 5=[0,2,4]:=by kernel_rfl
theorem tl_wit:isWB moreP [0,2,4]=true:=by kernel_rfl
theorem tl_sh:shOk moreP [⟨10,20⟩,⟨25,40⟩] 3=true:=by kernel_rfl
theorem tl_ask03:askP2 ⟨bellN,2,20,bellP⟩ ((0:Nat):Int) ((3:Nat):Int)=0:=by kernel_rfl
theorem tl_jnB:jnB bellP 2 0 3=true:=by kernel_rfl
theorem tl_jnA:jnA bellP 0 3=[0,1,1,0]:=by kernel_rfl
theorem tl_ask01:askP2 ⟨bellN,2,20,bellP⟩ ((0:Nat):Int) ((1:Nat):Int)=0:=by kernel_rfl
theorem tl_cl01:clN bellP 0 1=false:=by kernel_rfl
theorem tl_witU:witU (jntL bellP 0 1) (showL (jntL bellP 0 1))=[2,0,1]:=by kernel_rfl
theorem tl_bar:witL (jntL bellP 0 1)=[0,1,2]:=by
 unfold witL
 rw [tl_witU]
 simp [List.mergeSort,List.MergeSort.Internal.splitInTwo,List.merge]
theorem tl_ab:isAB bellP 2 [0,1,1,0]=true:=by kernel_rfl
theorem tl_col:colR_ bellP [0,1,1,0]=[⟨12,14⟩,⟨25,30⟩]:=by kernel_rfl
theorem tl_ask30:askP2 ⟨bellN,2,20,bellP⟩ ((3:Nat):Int) ((0:Nat):Int)=0:=by kernel_rfl
theorem tl_cl30:clN bellP 3 0=false:=by kernel_rfl
theorem tl_uni:uniL [101] [104]=[101,104]:=by
 unfold uniL
 rw [show ([101]:List Int)++[104]=[101,104] from rfl,List.mergeSort_of_pairwise (by decide)]
 kernel_rfl
theorem tl_uni0:uniL [] []=[]:=by
 unfold uniL
 rw [List.append_nil,List.mergeSort_nil]
 kernel_rfl
theorem tl_mrg:mrgP (bellP.getD 0 default) (bellP.getD 3 default)=⟨[101,104],12,14,7,8,true,11,[]⟩:=by
 show (⟨uniL [101] [104],12,14,7,8,true,11,uniL [] []⟩:Prt)=_
 rw [tl_uni,tl_uni0]
theorem tl_jnt:(jntL bellP 3 0)[0]?=some ⟨[101,104],12,14,7,8,true,11,[]⟩:=by
 rw [← tl_mrg]
 exact jnt_get (n:=4) rfl (by omega) (by omega) (by omega)
theorem tl_dem:demV moreP 10 40=3:=by kernel_rfl
theorem tl_num:numV (vesL bellP).length 4 2=(2,2,true):=by kernel_rfl
end Go.Proofs.YtokpblmgdmokoaaGreat
namespace Go.Proofs.YtokpblmgdmokoaaGreat
open Go.Lib (hid)
open Go.RowKit Go.Maps Go.Shelf
theorem rdG_new (w:World) (l:List Rng):RdG (w.alloc (.cells (rcells l).toArray 41)) (some ⟨w.heap.size,0,none⟩) l.length l.length l :=
 ⟨rfl,Nat.le_refl _,fun e=>(by cases e),.inr ⟨w.heap.size,0,rfl,by simp,fun j v hj=>by rw [Nat.zero_add];exact ((Blk.new w 41 (rcells l).toArray).cell j).trans (by simpa using hj)⟩⟩
theorem own_rdg {w:World} {base n c:Nat} {A:Option Addr} {l:List Rng} (h:w.ownsRow base 41 2 (.slice A n c) l.length (rcells l)):RdG w A l.length c l:=by
 obtain ⟨A',c',e,h1,h2,h3,h4⟩:=own_form h
 injection e with e1 e2 e3
 subst e1 e3
 exact ⟨rfl,h1,h3,h4⟩
theorem jnt_of {w:World} {e:Ending} (h:(True∧∃ (A:Option Addr) (c:Nat),e=.returned (.tuple #[.slice A 4 c,.bool true,.int .i64 0])∧RdI w A 4 c [0,1,1,0])∨(true=false∧e=.returned (.tuple #[.slice none 0 0,.bool false,.int .i64 0]))):∃ (A:Option Addr) (c:Nat),e=.returned (.tuple #[.slice A 4 c,.bool true,.int .i64 0])∧RdI w A 4 c [0,1,1,0]:=by
 rcases h with ⟨-,h⟩|⟨h,-⟩
 · exact h
 · cases h
theorem bar_of {w:World} {e:Ending} (h:((2:Int)≠0∧∃ (A:Option Addr) (K c:Nat),(2:Int)=(K:Int)∧K+1≤[0,1,2].length∧e=.returned (.tuple #[.slice A (K+1) c,.bool true,.int .i64 0])∧RdI w A (K+1) c (([0,1,2]:List Int).take (K+1)))∨(((2:Int)=0∨(([0,1,2].length:Nat):Int)≤2)∧e=.returned (.tuple #[.slice none 0 0,.bool false,.int .i64 0]))):∃ (A:Option Addr) (c:Nat),e=.returned (.tuple #[.slice A 3 c,.bool true,.int .i64 0])∧RdI w A 3 c [0,1,2]:=by
 rcases h with ⟨-,A,K,c,hK,-,h1,h2⟩|⟨h,-⟩
 · obtain rfl:K=2:=by omega
   exact ⟨A,c,h1,h2⟩
 · rcases h with h|h
   · cases h
   · simp at h
theorem tl_num4:numV (vesL bellP).length ((4:Nat):Int) 2=(2,2,true):=tl_num
theorem tl_big:(mrgP (bellP.getD (min 3 0) default) (bellP.getD (max 3 0) default)).sh.length≤40∧(mrgP (bellP.getD (min 3 0) default) (bellP.getD (max 3 0) default)).rs.length≤200:=by
 have h:mrgP (bellP.getD (min 3 0) default) (bellP.getD (max 3 0) default)=⟨[101,104],12,14,7,8,true,11,[]⟩:=tl_mrg
 rw [h]
 decide
set_option maxRecDepth 100000 in
theorem told_any (w:World):Calls Tryz.prog 17 #[] w fun e w'=>e=.returned (.bool true)∧Below w.heap.size w w':=by
 go_enter Tryz.func17,Tryz.ntmps17
 have p8:=hid (Below.refl w.heap.size w)
 have hc:=bell_any w
 have HC:=hid hc;clear hc
 go_wp2_with fail
 refine HC.out.mono ?_
 rintro e w1 ⟨b,rfl,hown,hb⟩
 clear HC 
 have p9:=hid ((p8.out).trans (Below.mono hb (p8.out).size))
 clear p8
 have v9:=hid (OwnPt.rd hown)
 clear hb
 clear hown
 have q0:=hid ((p9.out).alloc (p9.out).size (.cells #[.string ⟨#[98,101,108,108]⟩,.int .i64 2,.int .i64 20,.slice (some ⟨b,0,none⟩) 4 4] 24))
 have w0:=hid ((v9.out).alloc (.cells #[.string ⟨#[98,101,108,108]⟩,.int .i64 2,.int .i64 20,.slice (some ⟨b,0,none⟩) 4 4] 24))
 clear p9 v9
 have x0:=hid (Blk.new w1 24 #[.string ⟨#[98,101,108,108]⟩,.int .i64 2,.int .i64 20,.slice (some ⟨b,0,none⟩) 4 4])
 have hc:=more_any (w1.alloc (.cells #[.string ⟨#[98,101,108,108]⟩,.int .i64 2,.int .i64 20,.slice (some ⟨b,0,none⟩) 4 4] 24))
 have HC:=hid hc;clear hc
 go_wp2_with fail
 refine HC.out.mono ?_
 rintro e w2 ⟨AM,cM,rfl,hrm,hb⟩
 clear HC 
 have q1:=hid ((q0.out).trans (Below.mono hb (q0.out).size))
 have x1:=hid ((w0.out).below hb)
 have x2:=hid ((x0.out).keep hb)
 clear q0 w0 x0
 have q2:=hid (show RdP w2 AM 5 cM moreP from hrm)
 clear hb
 clear hrm
 have d8:=hid ((q1.out).alloc (q1.out).size (.cells #[.string ⟨#[98,101,108,108]⟩,.int .i64 0,.int .i64 0,.slice AM 5 cM] 24))
 have d9:=hid ((x1.out).alloc (.cells #[.string ⟨#[98,101,108,108]⟩,.int .i64 0,.int .i64 0,.slice AM 5 cM] 24))
 have a2:=hid ((x2.out).alloc (.cells #[.string ⟨#[98,101,108,108]⟩,.int .i64 0,.int .i64 0,.slice AM 5 cM] 24))
 have q3:=hid ((q2.out).alloc (.cells #[.string ⟨#[98,101,108,108]⟩,.int .i64 0,.int .i64 0,.slice AM 5 cM] 24))
 clear q1 x1 x2 q2
 have q4:=hid (Blk.new w2 24 #[.string ⟨#[98,101,108,108]⟩,.int .i64 0,.int .i64 0,.slice AM 5 cM])
 have p0:=Blk.cell a2.out 0
 have p1:=Blk.cell a2.out 1
 have p2:=Blk.cell a2.out 2
 have p3:=Blk.cell a2.out 3
 have hc:=Least_yes ⟨#[98,101,108,108]⟩ 2 20 (some ⟨b,0,none⟩) 4 4 bellP (w2.alloc (.cells #[.string ⟨#[98,101,108,108]⟩,.int .i64 0,.int .i64 0,.slice AM 5 cM] 24)) d9.out (by unfold maxLen;omega) tl_chk (by omega)
 rw [tl_least] at hc
 have HC:=hid hc;clear hc
 go_wp2_with fail
 refine HC.out.mono ?_
 rintro e w3 ⟨rfl,hb⟩
 clear HC p0 p1 p2 p3
 have e0:=hid ((d8.out).trans (Below.mono hb (d8.out).size))
 have q5:=hid ((d9.out).below hb)
 have q6:=hid ((a2.out).keep hb)
 have e1:=hid ((q3.out).below hb)
 have a3:=hid ((q4.out).keep hb)
 clear d8 d9 a2 q3 q4
 clear hb
 have p0:=Blk.cell a3.out 0
 have p1:=Blk.cell a3.out 1
 have p2:=Blk.cell a3.out 2
 have p3:=Blk.cell a3.out 3
 have hc:=Least_yes ⟨#[98,101,108,108]⟩ 0 0 AM 5 cM moreP w3 e1.out (by unfold maxLen;omega) tl_chkM (by omega)
 rw [tl_leastM] at hc
 have HC:=hid hc;clear hc
 go_wp2_with fail
 refine HC.out.mono ?_
 rintro e w4 ⟨rfl,hb⟩
 clear HC p0 p1 p2 p3
 have e2:=hid ((e0.out).trans (Below.mono hb (e0.out).size))
 have q7:=hid ((q5.out).below hb)
 have q8:=hid ((q6.out).keep hb)
 have e3:=hid ((e1.out).below hb)
 have a4:=hid ((a3.out).keep hb)
 clear e0 q5 q6 e1 a3
 clear hb
 have p0:=Blk.cell a4.out 0
 have p1:=Blk.cell a4.out 1
 have p2:=Blk.cell a4.out 2
 have p3:=Blk.cell a4.out 3
 have hc:=Critical_yes ⟨#[98,101,108,108]⟩ 0 0 AM 5 cM moreP w4 e3.out (by unfold maxLen;omega) tl_chkM (by omega)
 rw [tl_cri] at hc
 have HC:=hid hc;clear hc
 go_wp2_with fail
 refine HC.out.mono ?_
 rintro e w5 ⟨v5,rfl,hown,hb⟩
 clear HC p0 p1 p2 p3
 have e4:=hid ((e2.out).trans (Below.mono hb (e2.out).size))
 have q9:=hid ((q7.out).below hb)
 have r0:=hid ((q8.out).keep hb)
 have r1:=hid ((e3.out).below hb)
 have a5:=hid ((a4.out).keep hb)
 clear e2 q7 q8 e3 a4
 clear hb
 obtain ⟨A5,c5,rfl,hr5,-⟩:=own_rd_blk hown
 clear hown
 have r2:=hid (hr5)
 clear hr5
 have p0:=Blk.cell a5.out 0
 have p1:=Blk.cell a5.out 1
 have p2:=Blk.cell a5.out 2
 have p3:=Blk.cell a5.out 3
 have e5:=hid ((e4.out).alloc (e4.out).size (.cells #[.int .i64 0,.int .i64 2,.int .i64 4] 3))
 have r3:=hid ((q9.out).alloc (.cells #[.int .i64 0,.int .i64 2,.int .i64 4] 3))
 have r4:=hid ((r0.out).alloc (.cells #[.int .i64 0,.int .i64 2,.int .i64 4] 3))
 have e6:=hid ((r1.out).alloc (.cells #[.int .i64 0,.int .i64 2,.int .i64 4] 3))
 have r5:=hid ((a5.out).alloc (.cells #[.int .i64 0,.int .i64 2,.int .i64 4] 3))
 have r6:=hid ((r2.out).alloc (.cells #[.int .i64 0,.int .i64 2,.int .i64 4] 3))
 clear e4 q9 r0 r1 a5 r2
 have hc:=CheckWitness_yes ⟨#[98,101,108,108]⟩ 0 0 AM 5 cM moreP (some ⟨w5.heap.size,0,none⟩) 3 3 [0,2,4] (w5.alloc (.cells #[.int .i64 0,.int .i64 2,.int .i64 4] 3)) e6.out (rd_of_blk (Blk.new w5 3 (arr [0,2,4])) rfl) (by unfold maxLen;omega) (by unfold maxLen;omega) tl_chkM
 rw [tl_wit] at hc
 have HC:=hid hc;clear hc
 go_wp2_with fail
 refine HC.out.mono ?_
 rintro e w6 ⟨rfl,hb⟩
 clear HC p0 p1 p2 p3
 have e7:=hid ((e5.out).trans (Below.mono hb (e5.out).size))
 have r7:=hid ((r3.out).below hb)
 have r8:=hid ((r4.out).keep hb)
 have r9:=hid ((e6.out).below hb)
 have a6:=hid ((r5.out).keep hb)
 have s0:=hid ((r6.out).below hb)
 clear e5 r3 r4 e6 r5 r6
 clear hb
 have p0:=Blk.cell a6.out 0
 have p1:=Blk.cell a6.out 1
 have p2:=Blk.cell a6.out 2
 have p3:=Blk.cell a6.out 3
 have e8:=hid ((e7.out).alloc (e7.out).size (.cells (rcells [⟨10,20⟩,⟨25,40⟩]).toArray 41))
 have s1:=hid ((r7.out).alloc (.cells (rcells [⟨10,20⟩,⟨25,40⟩]).toArray 41))
 have s2:=hid ((r8.out).alloc (.cells (rcells [⟨10,20⟩,⟨25,40⟩]).toArray 41))
 have e9:=hid ((r9.out).alloc (.cells (rcells [⟨10,20⟩,⟨25,40⟩]).toArray 41))
 have s3:=hid ((a6.out).alloc (.cells (rcells [⟨10,20⟩,⟨25,40⟩]).toArray 41))
 have s4:=hid ((s0.out).alloc (.cells (rcells [⟨10,20⟩,⟨25,40⟩]).toArray 41))
 clear e7 r7 r8 r9 a6 s0
 have hc:=CheckShow_yes ⟨#[98,101,108,108]⟩ 0 0 AM 5 cM moreP (some ⟨w6.heap.size,0,none⟩) 2 2 [⟨10,20⟩,⟨25,40⟩] 3 (w6.alloc (.cells (rcells [⟨10,20⟩,⟨25,40⟩]).toArray 41)) e9.out (rdG_new w6 [⟨10,20⟩,⟨25,40⟩]) (by unfold maxLen;omega) (by unfold maxLen;omega) tl_chkM
 rw [tl_sh] at hc
 have HC:=hid hc;clear hc
 go_wp2_with fail
 refine HC.out.mono ?_
 rintro e w7 ⟨rfl,hb⟩
 clear HC p0 p1 p2 p3
 have f0:=hid ((e8.out).trans (Below.mono hb (e8.out).size))
 have f1:=hid ((s1.out).below hb)
 have a7:=hid ((s2.out).keep hb)
 have s5:=hid ((e9.out).below hb)
 have s6:=hid ((s3.out).keep hb)
 have s7:=hid ((s4.out).below hb)
 clear e8 s1 s2 e9 s3 s4
 clear hb
 have p0:=Blk.cell a7.out 0
 have p1:=Blk.cell a7.out 1
 have p2:=Blk.cell a7.out 2
 have p3:=Blk.cell a7.out 3
 have hc:=Joint_yes ⟨#[98,101,108,108]⟩ 2 20 (some ⟨b,0,none⟩) 4 4 bellP 0 3 w7 f1.out (by unfold maxLen;omega) tl_ask03 (by omega)
 rw [tl_jnA] at hc
 rw [tl_jnB] at hc
 have HC:=hid hc;clear hc
 go_wp2_with fail
 refine HC.out.mono ?_
 rintro e w8 ⟨hj,hb⟩
 clear HC p0 p1 p2 p3
 have f2:=hid ((f0.out).trans (Below.mono hb (f0.out).size))
 have f3:=hid ((f1.out).below hb)
 have a8:=hid ((a7.out).keep hb)
 have s8:=hid ((s5.out).below hb)
 have s9:=hid ((s6.out).keep hb)
 have t0:=hid ((s7.out).below hb)
 clear f0 f1 a7 s5 s6 s7
 clear hb
 obtain ⟨A8,c8,rfl,hr8⟩:∃ (A:Option Addr) (c:Nat),e=.returned (.tuple #[.slice A 4 c,.bool true,.int .i64 0])∧RdI w8 A 4 c [0,1,1,0]:=jnt_of hj
 clear hj
 have t1:=hid (hr8)
 clear hr8
 have p0:=Blk.cell a8.out 0
 have p1:=Blk.cell a8.out 1
 have p2:=Blk.cell a8.out 2
 have p3:=Blk.cell a8.out 3
 have hc:=Bar_yes ⟨#[98,101,108,108]⟩ 2 20 (some ⟨b,0,none⟩) 4 4 bellP 0 1 w8 f3.out (by unfold maxLen;omega) tl_ask01 tl_cl01 (by omega) (by rw [tl_bar];decide)
 rw [tl_bar] at hc
 have HC:=hid hc;clear hc
 go_wp2_with fail
 refine HC.out.mono ?_
 rintro e w9 ⟨hj,hb⟩
 clear HC p0 p1 p2 p3
 have f4:=hid ((f2.out).trans (Below.mono hb (f2.out).size))
 have t2:=hid ((f3.out).below hb)
 have a9:=hid ((a8.out).keep hb)
 have t3:=hid ((s8.out).below hb)
 have t4:=hid ((s9.out).keep hb)
 have t5:=hid ((t0.out).below hb)
 have t6:=hid ((t1.out).below hb)
 clear f2 f3 a8 s8 s9 t0 t1
 clear hb
 obtain ⟨A9,c9,rfl,hr9⟩:∃ (A:Option Addr) (c:Nat),e=.returned (.tuple #[.slice A 3 c,.bool true,.int .i64 0])∧RdI w9 A 3 c [0,1,2]:=bar_of hj
 clear hj
 have t7:=hid (hr9)
 clear hr9
 have p0:=Blk.cell a9.out 0
 have p1:=Blk.cell a9.out 1
 have p2:=Blk.cell a9.out 2
 have p3:=Blk.cell a9.out 3
 have f5:=hid ((f4.out).alloc (f4.out).size (.cells #[.int .i64 0,.int .i64 1,.int .i64 1,.int .i64 0] 3))
 have f6:=hid ((t2.out).alloc (.cells #[.int .i64 0,.int .i64 1,.int .i64 1,.int .i64 0] 3))
 have t8:=hid ((a9.out).alloc (.cells #[.int .i64 0,.int .i64 1,.int .i64 1,.int .i64 0] 3))
 have t9:=hid ((t3.out).alloc (.cells #[.int .i64 0,.int .i64 1,.int .i64 1,.int .i64 0] 3))
 have u0:=hid ((t4.out).alloc (.cells #[.int .i64 0,.int .i64 1,.int .i64 1,.int .i64 0] 3))
 have u1:=hid ((t5.out).alloc (.cells #[.int .i64 0,.int .i64 1,.int .i64 1,.int .i64 0] 3))
 have u2:=hid ((t6.out).alloc (.cells #[.int .i64 0,.int .i64 1,.int .i64 1,.int .i64 0] 3))
 have u3:=hid ((t7.out).alloc (.cells #[.int .i64 0,.int .i64 1,.int .i64 1,.int .i64 0] 3))
 clear f4 t2 a9 t3 t4 t5 t6 t7
 have hc:=Colours_yes ⟨#[98,101,108,108]⟩ 2 20 (some ⟨b,0,none⟩) 4 4 bellP (some ⟨w9.heap.size,0,none⟩) 4 4 [0,1,1,0] (w9.alloc (.cells #[.int .i64 0,.int .i64 1,.int .i64 1,.int .i64 0] 3)) f6.out (rd_of_blk (Blk.new w9 3 (arr [0,1,1,0])) rfl) (by unfold maxLen;omega) (by unfold maxLen;omega) tl_chk tl_ab
 rw [tl_col] at hc
 have HC:=hid hc;clear hc
 go_wp2_with fail
 refine HC.out.mono ?_
 rintro e y3 ⟨v10,rfl,hown,hb⟩
 clear HC p0 p1 p2 p3
 have f7:=hid ((f5.out).trans (Below.mono hb (f5.out).size))
 have f8:=hid ((f6.out).below hb)
 have b0:=hid ((t8.out).keep hb)
 have u4:=hid ((t9.out).below hb)
 have u5:=hid ((u0.out).keep hb)
 have u6:=hid ((u1.out).below hb)
 have u7:=hid ((u2.out).below hb)
 have u8:=hid ((u3.out).below hb)
 clear f5 f6 t8 t9 u0 u1 u2 u3
 clear hb
 obtain ⟨A10,c10,rfl,-⟩:=own_form hown
 have g9:=hid (own_rdg hown)
 clear hown
 have p0:=Blk.cell b0.out 0
 have p1:=Blk.cell b0.out 1
 have p2:=Blk.cell b0.out 2
 have p3:=Blk.cell b0.out 3
 have hc:=Merge_yes ⟨#[98,101,108,108]⟩ 2 20 (some ⟨b,0,none⟩) 4 4 bellP 3 0 y3 f8.out (by unfold maxLen;omega) tl_ask30 tl_cl30 tl_big
 have HC:=hid hc;clear hc
 go_wp2_with fail
 refine HC.out.mono ?_
 rintro e y1 ⟨⟨R,k1,rfl,hopt⟩,hb⟩
 clear HC p0 p1 p2 p3
 have f9:=hid ((f7.out).trans (Below.mono hb (f7.out).size))
 have u9:=hid ((f8.out).below hb)
 have v0:=hid ((b0.out).keep hb)
 have v1:=hid ((u4.out).below hb)
 have v2:=hid ((u5.out).keep hb)
 have v3:=hid ((u6.out).below hb)
 have v4:=hid ((u7.out).below hb)
 have v6:=hid ((u8.out).below hb)
 have h0:=hid ((g9.out).below hb)
 clear f7 f8 b0 u4 u5 u6 u7 u8 g9
 clear hb
 obtain ⟨gm,rfl⟩:=hopt.addr (by omega)
 have v7:=hid (OwnPt.rd hopt)
 clear hopt
 have g8:=hid ((f9.out).alloc (f9.out).size (.cells #[.string ⟨#[98,101,108,108]⟩,.int .i64 2,.int .i64 20,.slice (some ⟨gm,0,none⟩) (4-1) k1] 24))
 have v8:=hid ((u9.out).alloc (.cells #[.string ⟨#[98,101,108,108]⟩,.int .i64 2,.int .i64 20,.slice (some ⟨gm,0,none⟩) (4-1) k1] 24))
 have h1:=hid ((v0.out).alloc (.cells #[.string ⟨#[98,101,108,108]⟩,.int .i64 2,.int .i64 20,.slice (some ⟨gm,0,none⟩) (4-1) k1] 24))
 have b2:=hid ((v1.out).alloc (.cells #[.string ⟨#[98,101,108,108]⟩,.int .i64 2,.int .i64 20,.slice (some ⟨gm,0,none⟩) (4-1) k1] 24))
 have a0:=hid ((v2.out).alloc (.cells #[.string ⟨#[98,101,108,108]⟩,.int .i64 2,.int .i64 20,.slice (some ⟨gm,0,none⟩) (4-1) k1] 24))
 have h2:=hid ((v3.out).alloc (.cells #[.string ⟨#[98,101,108,108]⟩,.int .i64 2,.int .i64 20,.slice (some ⟨gm,0,none⟩) (4-1) k1] 24))
 have h3:=hid ((v4.out).alloc (.cells #[.string ⟨#[98,101,108,108]⟩,.int .i64 2,.int .i64 20,.slice (some ⟨gm,0,none⟩) (4-1) k1] 24))
 have h4:=hid ((v6.out).alloc (.cells #[.string ⟨#[98,101,108,108]⟩,.int .i64 2,.int .i64 20,.slice (some ⟨gm,0,none⟩) (4-1) k1] 24))
 have c7:=hid ((h0.out).alloc (.cells #[.string ⟨#[98,101,108,108]⟩,.int .i64 2,.int .i64 20,.slice (some ⟨gm,0,none⟩) (4-1) k1] 24))
 have h5:=hid ((v7.out).alloc (.cells #[.string ⟨#[98,101,108,108]⟩,.int .i64 2,.int .i64 20,.slice (some ⟨gm,0,none⟩) (4-1) k1] 24))
 clear f9 u9 v0 v1 v2 v3 v4 v6 h0 v7
 have h6:=hid (Blk.new y1 24 #[.string ⟨#[98,101,108,108]⟩,.int .i64 2,.int .i64 20,.slice (some ⟨gm,0,none⟩) (4-1) k1])
 have p0:=Blk.cell a0.out 0
 have p1:=Blk.cell a0.out 1
 have p2:=Blk.cell a0.out 2
 have p3:=Blk.cell a0.out 3
 have hc:=Demand_yes ⟨#[98,101,108,108]⟩ 0 0 AM 5 cM moreP 10 40 (y1.alloc (.cells #[.string ⟨#[98,101,108,108]⟩,.int .i64 2,.int .i64 20,.slice (some ⟨gm,0,none⟩) (4-1) k1] 24)) b2.out (by unfold maxLen;omega) tl_chkM
 rw [tl_dem] at hc
 have HC:=hid hc;clear hc
 go_wp2_with fail
 refine HC.out.mono ?_
 rintro e y4 ⟨rfl,hb⟩
 clear HC p0 p1 p2 p3
 have b3:=hid ((g8.out).trans (Below.mono hb (g8.out).size))
 have b4:=hid ((v8.out).below hb)
 have a1:=hid ((h1.out).keep hb)
 have h7:=hid ((b2.out).below hb)
 have h8:=hid ((a0.out).keep hb)
 have h9:=hid ((h2.out).below hb)
 have i0:=hid ((h3.out).below hb)
 have i1:=hid ((h4.out).below hb)
 have d0:=hid ((c7.out).below hb)
 have i2:=hid ((h5.out).below hb)
 have i3:=hid ((h6.out).keep hb)
 clear g8 v8 h1 b2 a0 h2 h3 h4 c7 h5 h6
 clear hb
 have p0:=Blk.cell a1.out 0
 have p1:=Blk.cell a1.out 1
 have p2:=Blk.cell a1.out 2
 have p3:=Blk.cell a1.out 3
 have hc:=Numbers_yes ⟨#[98,101,108,108]⟩ 2 20 (some ⟨b,0,none⟩) 4 4 bellP y4 b4.out (by unfold maxLen;omega) tl_chk (by omega)
 rw [tl_num4] at hc
 have HC:=hid hc;clear hc
 go_wp2_with fail
 refine HC.out.mono ?_
 rintro e x3 ⟨rfl,hb⟩
 clear HC p0 p1 p2 p3
 have b5:=hid ((b3.out).trans (Below.mono hb (b3.out).size))
 have i4:=hid ((b4.out).below hb)
 have i5:=hid ((a1.out).keep hb)
 have i6:=hid ((h7.out).below hb)
 have i7:=hid ((h8.out).keep hb)
 have i8:=hid ((h9.out).below hb)
 have i9:=hid ((i0.out).below hb)
 have j0:=hid ((i1.out).below hb)
 have d1:=hid ((d0.out).below hb)
 have j1:=hid ((i2.out).below hb)
 have j2:=hid ((i3.out).keep hb)
 clear b3 b4 a1 h7 h8 h9 i0 i1 d0 i2 i3
 clear hb
 have b6:=hid ((b5.out).alloc (b5.out).size (.cells #[.int .i64 0,.int .i64 2,.int .i64 4] 3))
 have j3:=hid ((i4.out).alloc (.cells #[.int .i64 0,.int .i64 2,.int .i64 4] 3))
 have j4:=hid ((i5.out).alloc (.cells #[.int .i64 0,.int .i64 2,.int .i64 4] 3))
 have j5:=hid ((i6.out).alloc (.cells #[.int .i64 0,.int .i64 2,.int .i64 4] 3))
 have j6:=hid ((i7.out).alloc (.cells #[.int .i64 0,.int .i64 2,.int .i64 4] 3))
 have b7:=hid ((i8.out).alloc (.cells #[.int .i64 0,.int .i64 2,.int .i64 4] 3))
 have j7:=hid ((i9.out).alloc (.cells #[.int .i64 0,.int .i64 2,.int .i64 4] 3))
 have j8:=hid ((j0.out).alloc (.cells #[.int .i64 0,.int .i64 2,.int .i64 4] 3))
 have d2:=hid ((d1.out).alloc (.cells #[.int .i64 0,.int .i64 2,.int .i64 4] 3))
 have j9:=hid ((j1.out).alloc (.cells #[.int .i64 0,.int .i64 2,.int .i64 4] 3))
 have k0:=hid ((j2.out).alloc (.cells #[.int .i64 0,.int .i64 2,.int .i64 4] 3))
 clear b5 i4 i5 i6 i7 i8 i9 j0 d1 j1 j2
 have hc:=sameInts_any A5 3 c5 [0,2,4] (some ⟨x3.heap.size,0,none⟩) 3 3 [0,2,4] (x3.alloc (.cells #[.int .i64 0,.int .i64 2,.int .i64 4] 3)) b7.out (rd_of_blk (Blk.new x3 3 (arr [0,2,4])) rfl) (by omega)
 rw [decide_eq_true rfl] at hc
 have HC:=hid hc;clear hc
 go_wp2_with fail
 refine HC.out.mono ?_
 rintro e x4 ⟨rfl,hb⟩
 clear HC 
 have b8:=hid ((b6.out).trans (Below.mono hb (b6.out).size))
 have k2:=hid ((j3.out).below hb)
 have k3:=hid ((j4.out).keep hb)
 have k4:=hid ((j5.out).below hb)
 have k5:=hid ((j6.out).keep hb)
 have k6:=hid ((b7.out).below hb)
 have k7:=hid ((j7.out).below hb)
 have k8:=hid ((j8.out).below hb)
 have d3:=hid ((d2.out).below hb)
 have k9:=hid ((j9.out).below hb)
 have l0:=hid ((k0.out).keep hb)
 clear b6 j3 j4 j5 j6 b7 j7 j8 d2 j9 k0
 clear hb
 have b9:=hid ((b8.out).alloc (b8.out).size (.cells #[.int .i64 0,.int .i64 1,.int .i64 1,.int .i64 0] 3))
 have l1:=hid ((k2.out).alloc (.cells #[.int .i64 0,.int .i64 1,.int .i64 1,.int .i64 0] 3))
 have l2:=hid ((k3.out).alloc (.cells #[.int .i64 0,.int .i64 1,.int .i64 1,.int .i64 0] 3))
 have l3:=hid ((k4.out).alloc (.cells #[.int .i64 0,.int .i64 1,.int .i64 1,.int .i64 0] 3))
 have l4:=hid ((k5.out).alloc (.cells #[.int .i64 0,.int .i64 1,.int .i64 1,.int .i64 0] 3))
 have l5:=hid ((k6.out).alloc (.cells #[.int .i64 0,.int .i64 1,.int .i64 1,.int .i64 0] 3))
 have c0:=hid ((k7.out).alloc (.cells #[.int .i64 0,.int .i64 1,.int .i64 1,.int .i64 0] 3))
 have l6:=hid ((k8.out).alloc (.cells #[.int .i64 0,.int .i64 1,.int .i64 1,.int .i64 0] 3))
 have d4:=hid ((d3.out).alloc (.cells #[.int .i64 0,.int .i64 1,.int .i64 1,.int .i64 0] 3))
 have l7:=hid ((k9.out).alloc (.cells #[.int .i64 0,.int .i64 1,.int .i64 1,.int .i64 0] 3))
 have l8:=hid ((l0.out).alloc (.cells #[.int .i64 0,.int .i64 1,.int .i64 1,.int .i64 0] 3))
 clear b8 k2 k3 k4 k5 k6 k7 k8 d3 k9 l0
 have hc:=sameInts_any A8 4 c8 [0,1,1,0] (some ⟨x4.heap.size,0,none⟩) 4 4 [0,1,1,0] (x4.alloc (.cells #[.int .i64 0,.int .i64 1,.int .i64 1,.int .i64 0] 3)) c0.out (rd_of_blk (Blk.new x4 3 (arr [0,1,1,0])) rfl) (by omega)
 rw [decide_eq_true rfl] at hc
 have HC:=hid hc;clear hc
 go_wp2_with fail
 refine HC.out.mono ?_
 rintro e x6 ⟨rfl,hb⟩
 clear HC 
 have c1:=hid ((b9.out).trans (Below.mono hb (b9.out).size))
 have l9:=hid ((l1.out).below hb)
 have m0:=hid ((l2.out).keep hb)
 have m1:=hid ((l3.out).below hb)
 have m2:=hid ((l4.out).keep hb)
 have m3:=hid ((l5.out).below hb)
 have m4:=hid ((c0.out).below hb)
 have m5:=hid ((l6.out).below hb)
 have d5:=hid ((d4.out).below hb)
 have m6:=hid ((l7.out).below hb)
 have m7:=hid ((l8.out).keep hb)
 clear b9 l1 l2 l3 l4 l5 c0 l6 d4 l7 l8
 clear hb
 have c2:=hid ((c1.out).alloc (c1.out).size (.cells #[.int .i64 0,.int .i64 1,.int .i64 2] 3))
 have m8:=hid ((l9.out).alloc (.cells #[.int .i64 0,.int .i64 1,.int .i64 2] 3))
 have m9:=hid ((m0.out).alloc (.cells #[.int .i64 0,.int .i64 1,.int .i64 2] 3))
 have n0:=hid ((m1.out).alloc (.cells #[.int .i64 0,.int .i64 1,.int .i64 2] 3))
 have n1:=hid ((m2.out).alloc (.cells #[.int .i64 0,.int .i64 1,.int .i64 2] 3))
 have n2:=hid ((m3.out).alloc (.cells #[.int .i64 0,.int .i64 1,.int .i64 2] 3))
 have n3:=hid ((m4.out).alloc (.cells #[.int .i64 0,.int .i64 1,.int .i64 2] 3))
 have c3:=hid ((m5.out).alloc (.cells #[.int .i64 0,.int .i64 1,.int .i64 2] 3))
 have d6:=hid ((d5.out).alloc (.cells #[.int .i64 0,.int .i64 1,.int .i64 2] 3))
 have n4:=hid ((m6.out).alloc (.cells #[.int .i64 0,.int .i64 1,.int .i64 2] 3))
 have n5:=hid ((m7.out).alloc (.cells #[.int .i64 0,.int .i64 1,.int .i64 2] 3))
 clear c1 l9 m0 m1 m2 m3 m4 m5 d5 m6 m7
 have hc:=sameInts_any A9 3 c9 [0,1,2] (some ⟨x6.heap.size,0,none⟩) 3 3 [0,1,2] (x6.alloc (.cells #[.int .i64 0,.int .i64 1,.int .i64 2] 3)) c3.out (rd_of_blk (Blk.new x6 3 (arr [0,1,2])) rfl) (by omega)
 rw [decide_eq_true rfl] at hc
 have HC:=hid hc;clear hc
 go_wp2_with fail
 refine HC.out.mono ?_
 rintro e x7 ⟨rfl,hb⟩
 clear HC 
 have c4:=hid ((c2.out).trans (Below.mono hb (c2.out).size))
 have n6:=hid ((m8.out).below hb)
 have n7:=hid ((m9.out).keep hb)
 have n8:=hid ((n0.out).below hb)
 have n9:=hid ((n1.out).keep hb)
 have o0:=hid ((n2.out).below hb)
 have o1:=hid ((n3.out).below hb)
 have o2:=hid ((c3.out).below hb)
 have d7:=hid ((d6.out).below hb)
 have o3:=hid ((n4.out).below hb)
 have o4:=hid ((n5.out).keep hb)
 clear c2 m8 m9 n0 n1 n2 n3 c3 d6 n4 n5
 clear hb
 have c6:=hid ((c4.out).alloc (c4.out).size (.cells (rcells [⟨12,14⟩,⟨25,30⟩]).toArray 41))
 have o5:=hid ((n6.out).alloc (.cells (rcells [⟨12,14⟩,⟨25,30⟩]).toArray 41))
 have o6:=hid ((n7.out).alloc (.cells (rcells [⟨12,14⟩,⟨25,30⟩]).toArray 41))
 have o7:=hid ((n8.out).alloc (.cells (rcells [⟨12,14⟩,⟨25,30⟩]).toArray 41))
 have o8:=hid ((n9.out).alloc (.cells (rcells [⟨12,14⟩,⟨25,30⟩]).toArray 41))
 have o9:=hid ((o0.out).alloc (.cells (rcells [⟨12,14⟩,⟨25,30⟩]).toArray 41))
 have p4:=hid ((o1.out).alloc (.cells (rcells [⟨12,14⟩,⟨25,30⟩]).toArray 41))
 have p5:=hid ((o2.out).alloc (.cells (rcells [⟨12,14⟩,⟨25,30⟩]).toArray 41))
 have b1:=hid ((d7.out).alloc (.cells (rcells [⟨12,14⟩,⟨25,30⟩]).toArray 41))
 have p6:=hid ((o3.out).alloc (.cells (rcells [⟨12,14⟩,⟨25,30⟩]).toArray 41))
 have p7:=hid ((o4.out).alloc (.cells (rcells [⟨12,14⟩,⟨25,30⟩]).toArray 41))
 clear c4 n6 n7 n8 n9 o0 o1 o2 d7 o3 o4
 have hc:=sameRanges_any A10 2 c10 [⟨12,14⟩,⟨25,30⟩] (some ⟨x7.heap.size,0,none⟩) 2 2 [⟨12,14⟩,⟨25,30⟩] (x7.alloc (.cells (rcells [⟨12,14⟩,⟨25,30⟩]).toArray 41)) b1.out (rdG_new x7 [⟨12,14⟩,⟨25,30⟩]) (by omega)
 rw [decide_eq_true rfl] at hc
 have HC:=hid hc;clear hc
 go_wp2_with fail
 refine HC.out.mono ?_
 rintro e z2 ⟨rfl,hb⟩
 clear HC 
 have x8:=hid ((c6.out).trans (Below.mono hb (c6.out).size))
 have y5:=hid ((o5.out).below hb)
 have y6:=hid ((o6.out).keep hb)
 have y7:=hid ((o7.out).below hb)
 have y8:=hid ((o8.out).keep hb)
 have y9:=hid ((o9.out).below hb)
 have z0:=hid ((p4.out).below hb)
 have z1:=hid ((p5.out).below hb)
 have y2:=hid ((b1.out).below hb)
 have x9:=hid ((p6.out).below hb)
 have y0:=hid ((p7.out).keep hb)
 clear c6 o5 o6 o7 o8 o9 p4 p5 b1 p6 p7
 clear hb
 obtain ⟨bg,og,p,x,hg,hbg,hp,-,g0,g1,g2,g3,g4,g5,g6,g7⟩:=RdP.get x9.out (k:=0) (by omega)
 injection hg with hg;injection hg with hg1 hg2;subst hg1 hg2
 obtain rfl:p=⟨[101,104],12,14,7,8,true,11,[]⟩:=by rw [tl_jnt] at hp;injection hp with hp;exact hp.symm
 clear hp
 dsimp only at g0 g1 g2 g3 g4 g5 g6 g7
 simp only [Nat.zero_mul,Nat.zero_add,Nat.add_zero] at g0 g1 g2 g3 g4 g5 g6 g7
 have p3:=Blk.cell y0.out 3
 go_wp2
 go_ret
 exact ⟨rfl,x8.out⟩
end Go.Proofs.YtokpblmgdmokoaaGreat
