import Derived.Test.YtokpblmgdmokoaaGreatAVAsg
import Derived.Test.YtokpblmgdmokoaaGreatAVMge
import Derived.Test.YtokpblmgdmokoaaGreatAVIns
set_option linter.unusedSimpArgs false
set_option linter.unusedVariables false
namespace Go.Proofs.YtokpblmgdmokoaaGreat
open Go.Lib (hid)
open Go.RowKit Go.Maps Go.Shelf
theorem assign_any (g:Nat) (ware:ByteArray) (lim by_:Int) (A:Option Addr) (n k:Nat) (ps:List Prt) (w:World) (hv:Vw w g ware lim by_ A n k ps) (h20:n<20) (t:Int) (ht0:0≤t) (htn:t≤n):Calls Tryz.prog 100 #[.pointer (some ⟨g,0,none⟩),.int .i64 t] w fun e w'=>∃ b,e=.returned (.slice (some ⟨b,0,none⟩) n n)∧w.heap.size≤b∧Blk w' b 3 (arr (asgL ps t))∧Below w.heap.size w w':=callsIn_wide.1 (assign_in g ware lim by_ A n k ps w hv h20 t ht0 htn)
theorem asgL_len {ps:List Prt} {t:Int} {n:Nat} (hn:ps.length=n) (h0:0≤t) (ht:t≤n):(asgL ps t).length=n:=by
 unfold asgL
 rw [numL_len,hn]
 exact (asgF_ok h0 ht (vesL ps) (fun v hv=>⟨((vesL_ok hn).2 v hv).1,((vesL_ok hn).2 v hv).2.2⟩)).1
theorem numV_low {low n:Nat} {lim lo hi:Int} (h:numV low n lim=(lo,hi,true)):lo=low∧low≤n:=by
 unfold numV at h
 have h3:(if lim=0 then (n:Int) else min n lim)≤n:=by split<;>omega
 revert h h3
 generalize (if lim=0 then (n:Int) else min n lim)=H
 intro h h3
 split at h
 · injection h with _ h
   injection h with _ h
   cases h
 · injection h with h1 h2
   omega
theorem rd_of_blk {W:World} {b:Nat} {l:List Int} {n:Nat} (h:Blk W b 3 (arr l)) (hn:l.length=n):RdI W (some ⟨b,0,none⟩) n n l:=by
 refine ⟨hn,Nat.le_refl _,fun e=>(by cases e),.inr ⟨b,0,rfl,h.lt,fun j v hv=>?_⟩⟩
 rw [Nat.zero_add]
 refine (h.cell j).trans ?_
 rw [← Array.getElem?_toList]
 simpa [arr] using hv
def jnA (ps:List Prt) (a b:Nat):List Int:=let l:=asgL (jntL ps a b) (vesL (jntL ps a b)).length;l.insertIdx (max a b) (at_ l (min a b))
def jnB (ps:List Prt) (lim:Int) (a b:Nat):Bool:=!clN ps a b&&(numV (vesL (jntL ps a b)).length (jntL ps a b).length lim).2.2
set_option maxRecDepth 100000 in
set_option maxHeartbeats 4000000 in
theorem Joint_yes (ware:ByteArray) (lim by_:Int) (A:Option Addr) (n k:Nat) (ps:List Prt) (a b:Nat) (w:World) (hr:RdP w A n k ps) (hn:n≤maxLen) (hq:askP2 ⟨ware,lim,by_,ps⟩ (a:Int) (b:Int)=0) (h20:n<20):Calls Tryz.prog 58 #[.agg #[.string ware,.int .i64 lim,.int .i64 by_,.slice A n k],.int .i64 a,.int .i64 b] w fun e w'=>((jnB ps lim a b=true∧∃ (A:Option Addr) (c:Nat),e=.returned (.tuple #[.slice A n c,.bool true,.int .i64 0])∧RdI w' A n c (jnA ps a b))∨(jnB ps lim a b=false∧e=.returned (.tuple #[.slice none 0 0,.bool false,.int .i64 0])))∧Below w.heap.size w w':=by
 obtain ⟨hck,ha,hb,hab⟩:=askP2_ok hq
 dsimp only at ha hb
 rw [hr.len] at ha hb
 have HLM:=hid (show 0≤lim∧lim≤40 from ⟨(chkC_ok hck).2.2.1,(chkC_ok hck).2.2.2.1⟩)
 have HSM:=hid (show ∀ p∈ps,p.sh.length≤50000∧p.rs.length≤50000 from fun p hp=>by obtain ⟨-,-,-,-,-,h6,-⟩:=chkC_ok hck;obtain ⟨-,g1,g2,-⟩:=prtB_ok (h6 p hp);exact ⟨by omega,by omega⟩)
 have HQ:=hid hq;clear hq hck
 have hmn:min (a:Int) (b:Int)=((min a b:Nat):Int):=by omega
 have hmx:max (a:Int) (b:Int)=((max a b:Nat):Int):=by omega
 have hmn2:(if (b:Int)<(a:Int) then (b:Int) else (a:Int))=((min a b:Nat):Int):=by split<;>omega
 have hmx2:(if (a:Int)<(b:Int) then (b:Int) else (a:Int))=((max a b:Nat):Int):=by split<;>omega
 cases hcl:clN ps a b
 · have HCL:=hid hcl;clear hcl
   go_enter Tryz.func58,Tryz.ntmps58
   obtain ⟨a1,a0⟩:=ent1 w #[.string ware,.int .i64 lim,.int .i64 by_,.slice A n k] 24
   have a5:=hid (RdP.below (hr) a0.out)
   clear hr
   obtain ⟨a7,a8,a9,b0⟩:=at4 a1
   have hc:=viewOfTwo_yes ware lim by_ A n k ps a b ((w.alloc (.cells #[.string ware,.int .i64 lim,.int .i64 by_,.slice A n k] 24))) a5.out hn HQ.out
   have HC:=hid hc;clear hc
   go_wp2_with fail
   refine HC.out.mono ?_
   rintro e b5 ⟨⟨g,rfl,hvw⟩,hb⟩
   have HVW:=hid hvw;clear hvw
   clear HC
   clear a7 a8 a9 b0
   have a2:=hid hb
   clear hb
   replace a1:=kH a1 a2
   obtain ⟨b1,b2,b3,b4⟩:=at4 a1
   have HC:=hid ((by have h:=clash_any HVW.out ha hb;rw [HCL.out] at h;exact h))
   go_wp2_with fail
   refine HC.out.mono ?_
   rintro e _ ⟨rfl,rfl⟩
   clear HC
   have HC:=hid (joint_any g ware lim by_ A n k ps a b (b5) HVW.out ha hb hab HSM.out)
   go_wp2_with fail
   refine HC.out.mono ?_
   rintro e w4 ⟨⟨g2,R,k1,rfl,hv2⟩,hb4⟩
   clear HC
   have HV2:=hid hv2;have HPL:=hid hv2.prt.len;clear hv2
   clear b1 b2 b3 b4
   have a3:=hid hb4
   clear hb4
   obtain ⟨⟨lo,hi,ok⟩,hnv⟩:∃ x,numV (vesL (jntL ps a b)).length ((n-1:Nat):Int) lim=x:=⟨_,rfl⟩
   have HNV:=hid hnv;clear hnv
   have hc:=numbers_any g2 ware lim by_ R (n-1) k1 (jntL ps a b) w4 HV2.out (by omega)
   rw [HNV.out] at hc
   dsimp only at hc
   have HC:=hid hc;clear hc
   go_wp2_with fail
   refine HC.out.mono ?_
   rintro e w5 ⟨rfl,hb5⟩
   clear HC
   have HV5:=hid (HV2.out.keep hb5);clear HV2
   have a4:=hid hb5
   clear hb5
   replace a0:=bH (bH (bH a0 a2) a3) a4
   replace a5:=hid (RdP.below (RdP.below (RdP.below (a5.out) a2.out) a3.out) a4.out)
   replace a1:=kH (kH a1 a3) a4
   replace HVW:=hid (Vw.keep (Vw.keep (HVW.out) a3.out) a4.out)
   cases ok
   · go_wp2
     refine bodyPost_ret (v:=.tuple #[.slice none 0 0,.bool false,.int .i64 0]) (by simp [results,Tryz.results58,go_sem]) rfl ⟨.inr ⟨by unfold jnB;rw [HCL.out,HPL.out,HNV.out];rfl,rfl⟩,a0.out⟩
   · obtain ⟨hlo,hln⟩:=numV_low HNV.out
     have HC:=hid (assign_any g2 ware lim by_ R (n-1) k1 (jntL ps a b) w5 HV5.out (by omega) lo (by omega) (by omega))
     have hll:=asgL_len (t:=lo) HPL.out (by omega) (by omega)
     have HLO:=hid hlo;have HLL:=hid hll;clear hlo hln hll
     go_wp2_with fail
     refine HC.out.mono ?_
     rintro e w6 ⟨bk,rfl,hbs,hbk,hb6⟩
     clear HC
     have hll:=HLL.out;clear HLL
     obtain ⟨L,hL⟩:∃ L,L=asgL (jntL ps a b) lo:=⟨_,rfl⟩
     rw [← hL] at hbk hll
     have HL:=hid hL;clear hL
     have HBK:=hid hbk;clear hbk
     have a6:=hid hb6
     clear hb6
     have hmi:min a b<n-1:=by omega
     have hmz:((min a b:Nat):Int)<((n-1:Nat):Int):=by omega
     have hcm:w6.cell? ⟨bk,min a b,none⟩=some (.int .i64 (at_ L (min a b))):=(HBK.out.cell (min a b)).trans (arr_get L _ (by rw [hll];exact hmi))
     replace a0:=bH a0 a6
     have hbA:=hid ((a0.out).alloc (a0.out).size (.cells #[.int .i64 (at_ L (min a b))] 3))
     have HBK2:=hid (HBK.out.alloc (.cells #[.int .i64 (at_ L (min a b))] 3));have HNW:=hid (Blk.new w6 3 #[.int .i64 (at_ L (min a b))])
     have HC:=hid (insert_any bk (n-1) w6.heap.size L (max a b) (at_ L (min a b)) (w6.alloc (.cells #[.int .i64 (at_ L (min a b))] 3)) (rd_of_blk HBK2.out hll) (by omega) (by omega) (Blk.nth HNW.out 0))
     go_wp2_with fail
     refine HC.out.mono ?_
     rintro e w7 ⟨gg,cc,rfl,hrd,hb7⟩
     clear HC
     have HRD:=hid hrd;have HB7:=hid hb7;clear hrd hb7
     go_wp2
     refine bodyPost_ret (v:=.tuple #[.slice (some ⟨gg,0,none⟩) (n-1+1) cc,.bool true,.int .i64 0]) (by simp [results,Tryz.results58,go_sem]) rfl ⟨.inl ⟨by unfold jnB;rw [HCL.out,HPL.out,HNV.out];rfl,some ⟨gg,0,none⟩,cc,by rw [show n-1+1=n by omega],?_⟩,hbA.out.trans (HB7.out.mono hbA.out.size)⟩
     have h:=HRD.out
     rw [show n-1+1=n by omega,HL.out,HLO.out] at h
     exact h
 · have HCL:=hid hcl;clear hcl
   go_enter Tryz.func58,Tryz.ntmps58
   obtain ⟨a1,a0⟩:=ent1 w #[.string ware,.int .i64 lim,.int .i64 by_,.slice A n k] 24
   have a5:=hid (RdP.below (hr) a0.out)
   clear hr
   obtain ⟨a7,a8,a9,b0⟩:=at4 a1
   have hc:=viewOfTwo_yes ware lim by_ A n k ps a b ((w.alloc (.cells #[.string ware,.int .i64 lim,.int .i64 by_,.slice A n k] 24))) a5.out hn HQ.out
   have HC:=hid hc;clear hc
   go_wp2_with fail
   refine HC.out.mono ?_
   rintro e b5 ⟨⟨g,rfl,hvw⟩,hb⟩
   have HVW:=hid hvw;clear hvw
   clear HC
   clear a7 a8 a9 b0
   have a2:=hid hb
   clear hb
   replace a1:=kH a1 a2
   obtain ⟨b1,b2,b3,b4⟩:=at4 a1
   have HC:=hid ((by have h:=clash_any HVW.out ha hb;rw [HCL.out] at h;exact h))
   go_wp2_with fail
   refine HC.out.mono ?_
   rintro e _ ⟨rfl,rfl⟩
   clear HC
   replace a0:=bH a0 a2
   go_wp2
   refine bodyPost_ret (v:=.tuple #[.slice none 0 0,.bool false,.int .i64 0]) (by simp [results,Tryz.results58,go_sem]) rfl ⟨.inr ⟨by unfold jnB;rw [HCL.out];rfl,rfl⟩,a0.out⟩
end Go.Proofs.YtokpblmgdmokoaaGreat
