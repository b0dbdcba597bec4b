import Derived.Test.YtokpblmgdmokoaaGreatAVSrt
import Derived.Test.YtokpblmgdmokoaaGreatAVChs
import Derived.Test.YtokpblmgdmokoaaGreatAVLoop
set_option maxHeartbeats 4000000
set_option linter.unusedSimpArgs false
set_option linter.unusedVariables false
namespace Go.Proofs.YtokpblmgdmokoaaGreat
open Go.Lib (hid)
open Go.RowKit Go.Maps Go.Shelf
theorem tk_fst (ps:List Prt) (l:List Int):∀ vr,vr.1.length≤(l.foldl (tkS ps) vr).1.length:=by
 induction l with
 | nil=>intro vr;exact Nat.le_refl _
 | cons p l ih =>
  intro vr
  rw [List.foldl_cons]
  refine Nat.le_trans ?_ (ih _)
  unfold tkS
  split<;>simp
theorem takeL_pos (ps:List Prt) {l:List Int} (h:l≠[]):1≤(takeL ps l).1.length:=by
 cases l with
 | nil=>exact absurd rfl h
 | cons p l =>
  unfold takeL
  rw [List.foldl_cons]
  refine Nat.le_trans ?_ (tk_fst ps l _)
  unfold tkS hitL
  simp
theorem takeL_len (ps:List Prt) (l:List Int):(takeL ps l).1.length+(takeL ps l).2.length=l.length:=by
 have:=tk_len ps l ([],[])
 simpa [takeL] using this
theorem takeL_mem (ps:List Prt) (l:List Int) {x:Int} (h:x∈(takeL ps l).1∨x∈(takeL ps l).2):x∈l:=by
 have:=tk_mem ps l ([],[]) x h
 simpa using this
def vesF (ps:List Prt):Nat→List Int→List (List Int)
 | 0,_=>[]
 | f+1,l=>if l=[] then [] else (takeL ps l).1::vesF ps f (takeL ps l).2
def vesL (ps:List Prt):List (List Int):=vesF ps ps.length (srtL ps (choN (fun _=>true) ps ps.length))
theorem choN_all (ps:List Prt) (q:Nat):(choN (fun _=>true) ps q).length=q:=by
 unfold choN
 rw [List.length_map,List.filter_eq_self.2 (fun _ _=>rfl),List.length_range]
theorem srtL_in {ps:List Prt} {l:List Int} (hl:ps.length=0→l=[]):∀ x∈srtL ps l,∃ a:Nat,x=a∧a<ps.length:=by
 intro x hx
 unfold srtL at hx
 split at hx
 · rename_i h;rw [hl h] at hx;cases hx
 · rename_i N h
   obtain ⟨i,-,rfl⟩:=List.mem_map.1 hx
   exact ⟨i.val,rfl,by rw [h];exact i.isLt⟩
structure Ves where
 l:List Int
 A:Option Addr
 c:Nat
def encV (x:Ves):Array Value:=#[.slice x.A x.l.length x.c]
def Ves.blk (x:Ves) (b:Nat):Prop:=∃ ad,x.A=some ad∧ad.block=b
def PxV (n:Nat) (x:Ves) (W:World):Prop:=RdI W x.A x.l.length x.c x.l∧x.l≠[]∧x.l.length≤n∧∀ y∈x.l,∃ a:Nat,y=a∧a<n
theorem rdI_keepW {K:Nat→Prop} {W W':World} (h:KeepW K W W') {A:Option Addr} {n c:Nat} {l:List Int} (hr:RdI W A n c l) (hK:∀ ad,A=some ad→K ad.block):RdI W' A n c l:=by
 refine ⟨hr.len,hr.cap,hr.nil,?_⟩
 rcases hr.cells with h0|⟨b,o,e,hlt,hc⟩
 · exact .inl h0
 · refine .inr ⟨b,o,e,Nat.lt_of_lt_of_le hlt h.size,fun j v hv=>?_⟩
   exact (World.cell?_of_block (a:=⟨b,o+j,none⟩) (h.block b hlt (hK _ e))).trans (hc j v hv)
theorem rdI_keepD {B:Nat} {D:Nat→Prop} {W W':World} (h:KeepD B D W W') {A:Option Addr} {n c:Nat} {l:List Int} (hr:RdI W A n c l) (hK:∀ ad,A=some ad→B≤ad.block∧¬ D ad.block):RdI W' A n c l:=by
 refine ⟨hr.len,hr.cap,hr.nil,?_⟩
 rcases hr.cells with h0|⟨b,o,e,hlt,hc⟩
 · exact .inl h0
 · refine .inr ⟨b,o,e,Nat.lt_of_lt_of_le hlt h.size,fun j v hv=>?_⟩
   exact (World.cell?_of_block (a:=⟨b,o+j,none⟩) (h.same b (hK _ e).1 hlt (hK _ e).2)).trans (hc j v hv)
theorem pxV_keep {n:Nat} (x:Ves) (X Y:World) (B:Nat) (h:PxV n x X) (hk:KeepW (fun k=>k<B∨x.blk k) X Y):PxV n x Y:=⟨rdI_keepW hk h.1 (fun ad e=>.inr ⟨ad,e,rfl⟩),h.2⟩
theorem own_rd_blk {w:World} {base:Nat} {v:Value} {l:List Int} (h:w.ownsRow base 3 1 v l.length (l.map (Value.int .i64))):∃ A c,v=.slice A l.length c∧RdI w A l.length c l∧(∀ ad,A=some ad→ad.off=0∧base≤ad.block∧ad.block<w.heap.size∧v.ownBlock=some ad.block):=by
 obtain ⟨A,c,rfl,ho⟩:=ownI_of h
 refine ⟨A,c,rfl,(OwnI.rd ho).1,?_⟩
 rintro ad rfl
 rcases h.2 with ⟨h0,_⟩|⟨g',cap,cur,hv,hb,hh,_⟩
 · cases h0
 · injection hv with a1
   injection a1 with a1
   subst a1
   exact ⟨rfl,hb,(Array.getElem?_eq_some_iff.1 hh).1,by simp [Value.ownBlock]⟩
def KpV (n₀ Bv:Nat) (W W':World):Prop:=Below n₀ W W'∧W'.heap[Bv]?=W.heap[Bv]?
theorem KpV.refl (n₀ Bv:Nat) (W:World):KpV n₀ Bv W W:=⟨Below.refl _ _,rfl⟩
theorem KpV.trans {n₀ Bv:Nat} {X Y Z:World} (h:KpV n₀ Bv X Y) (k:KpV n₀ Bv Y Z):KpV n₀ Bv X Z:=⟨h.1.trans k.1,k.2.trans h.2⟩
theorem KpV.below {n₀ Bv B:Nat} {W W':World} (h:Below B W W') (hn:n₀≤B) (hb:Bv<B):KpV n₀ Bv W W':=⟨h.mono hn,h.block _ hb⟩
theorem roundIn_deepV {m m':Nat} {P:Program} {l:Nat} {f:FuncId} {tmps:Array Value} {assign body:Code} {w:World} {R:Ending→World→Prop}
 (h:RoundIn Fence.wide m P l f tmps assign body w R):RoundIn Fence.wide m' P l f tmps assign body w R:=⟨h.1,fun c cs _=>h.2 c cs (by intro D hD;cases hD)⟩
set_option maxRecDepth 100000 in
theorem vessels1_in (nn mm lp Bv:Nat) (g:Nat) (ware:ByteArray) (lim by_:Int) (A:Option Addr) (n k:Nat) (ps:List Prt) (w0 W:World) (hv:Vw w0 g ware lim by_ A n k ps) (h20:n<20) (hb0:Below w0.heap.size w0 W) (hbv:Blk W Bv 77 #[.pointer (some ⟨g,0,none⟩)])
 (J:(Nat→Prop)→List Ves→World→Prop) (Jx:List Ves→World→Prop) (hJ:OwnK W.heap.size J)
 (hY:∀ D pre x W1,J D pre W1→(∀ k,D k→W.heap.size≤k∧k<W1.heap.size)→W.heap.size≤W1.heap.size→PxV n x W1→(∀ b,x.blk b→W.heap.size≤b∧b<W1.heap.size∧¬ D b)→pre.length<n →
  YieldAt Fence.wide mm Tryz.prog lp (encV x) W1 fun e W'=>KeepD W.heap.size D W1 W' ∧
   ((e=.returned (.bool true)∧(∃ D',(∀ k,D' k→D k∨W1.heap.size≤k∨x.blk k)∧(∀ k,D' k→W.heap.size≤k∧k<W'.heap.size)∧J D' (pre++[x]) W')∧KpV w0.heap.size Bv W1 W')∨(e=.returned (.bool false)∧Jx (pre++[x]) W')))
 (h0:J (fun _=>False) [] W) :
 CallsIn Fence.wide nn Tryz.prog 137 #[.func (.yield lp) #[] #[],.pointer (some ⟨Bv,0,none⟩)] W fun e W'=>(∃ v,e=.returned v) ∧
  ((∃ xs D,xs.map (·.l)=vesL ps∧J D xs W')∨(∃ pre,pre.map (·.l) <+: vesL ps∧Jx pre W')):=by
 have hpl:=hv.prt.len
 have HV:=hid hv;have HJ:=hid hJ;have HY:=hid hY;have HBV:=hid hbv;clear hv hJ hY hbv
 have hbl:=HBV.out.lt
 have hb0s:=hb0.size
 refine callsIn_of_wp Tryz.func137 rfl trivial ?_ rfl
 simp only [Tryz.ntmps137,List.size_toArray,List.length_cons,List.length_nil,Nat.reduceAdd,Nat.reduceSub,Array.replicate_succ,Array.replicate_zero,List.push_toArray,List.append_toArray,List.nil_append,List.cons_append]
 have c0:=Blk.nth HBV.out 0
 have HC:=hid (chosen_all g ware lim by_ A n k ps W (HV.out.keep hb0))
 gi_wp2_with fail
 refine ⟨trivial,fun h=>(by cases h),(callsIn_wide.2 HC.out).mono ?_⟩
 rintro e W1 ⟨v,rfl,ho1,hn1,hb1⟩
 clear HC c0
 obtain ⟨R,c1,rfl,hO1⟩:=ownI_of ho1
 rw [choN_all] at hO1 hn1
 have hO:OwnI W1 W.heap.size R n c1 (choN (fun _=>true) ps n):=hO1
 have hRn:n=0→R=none:=fun e=>by
  have h9:=hn1 (List.length_eq_zero_iff.1 (by rw [choN_all];exact e))
  injection h9
 have HS:=hid (sorted_any (w:=W1) HV.out (hb0.trans (hb1.mono hb0s)) (base:=W.heap.size) hb0s hb1.size (HBV.out.below hb1 hbl) hbl hO h20 hRn choN_in)
 rw [choN_all]
 clear ho1 hn1 hO1 hO hRn
 have HB1:=hid hb1;clear hb1
 gi_wp2_with fail
 refine ⟨trivial,fun h=>(by cases h),(callsIn_wide.2 HS.out).mono ?_⟩
 rintro e W2 ⟨rfl,hO2,hb2⟩
 clear HS
 have HB2:=hid (HB1.out.trans hb2);clear hb2 HB1
 have HSI:=hid (srtL_in (ps:=ps) (l:=choN (fun _=>true) ps n) (fun h=>List.length_eq_zero_iff.1 (by rw [choN_all];omega)))
 obtain ⟨s0,hs0⟩:∃ s,s=srtL ps (choN (fun _=>true) ps n):=⟨_,rfl⟩
 have hves:vesL ps=vesF ps n s0:=by unfold vesL;rw [hpl,hs0]
 rw [← hs0] at hO2 HSI
 have HVES:=hid hves;clear hves hs0
 have hlen0:s0.length=n:=by have h:=hO2.1;simpa using h
 have hrd:=own_rd_blk (v:=.slice R n c1) (by rw [hlen0];exact hO2)
 obtain ⟨A',c',e1,hr0,hbk0⟩:=hrd
 rw [hlen0] at e1 hr0
 injection e1 with e1 e2 e3
 subst e1 e3
 have HR0:=hid hr0;have HBK0:=hid hbk0;clear hr0 hbk0 hO2 e2
 gi_wp2
 gi_loopw [4] (fun v wr=>∃ (D:Nat→Prop) (pre:List Ves) (left:List Int) (f:Nat) (R:Option Addr) (c:Nat),v=.slice R left.length c∧RdI wr R left.length c left∧(∀ ad,R=some ad→W.heap.size≤ad.block∧¬ D ad.block)∧(∀ k,D k→W.heap.size≤k∧k<wr.heap.size)∧J D pre wr∧KpV w0.heap.size Bv W wr∧W.heap.size≤wr.heap.size∧pre.length+left.length≤n∧left.length≤f∧pre.map (·.l)++vesF ps f left=vesL ps∧(∀ x∈left,∃ a:Nat,x=a∧a<n))
  (fun v _=>match v with | .slice _ m _=>m|_=>0)
 case atStart =>
  refine ⟨fun _=>False,[],s0,n,R,c1,by rw [hlen0],by rw [hlen0];exact HR0.out,fun ad e=>⟨(HBK0.out ad e).2.1,fun h=>h⟩,fun _ h=>h.elim,HJ.out _ _ _ _ h0 (KeepW.of_below HB2.out (fun i hi h=>h.elim id False.elim)),KpV.below HB2.out hb0s hbl,HB2.out.size,by simp [hlen0],by omega,by rw [HVES.out];rfl,fun x hx=>?_⟩
  obtain ⟨a,h1,h2⟩:=HSI.out x hx
  exact ⟨a,h1,by omega⟩
 case round =>
  clear HR0 HBK0 HB2 HSI HVES hlen0
  obtain ⟨D,pre,left,f,R,c,rfl,hrd,hbk,hDs,hj,hkp,hsz,hpn,hlf,hves,hin⟩:=hrel
  have HRD:=hid hrd;have HBK:=hid hbk;have HDS:=hid hDs;have HJJ:=hid hj;have HKP:=hid hkp;have HVE:=hid hves;have HIN:=hid hin
  clear hrd hbk hDs hj hkp hves hin
  by_cases hm:left=[]
  · subst hm
    have hfin:pre.map (·.l)=vesL ps:=by
     rw [← HVE.out]
     have e:vesF ps f []=[]:=by cases f<;>rfl
     rw [e,List.append_nil]
    have HF:=hid hfin;clear hfin
    gi_wp2
    go_end0
    exact ⟨⟨_,rfl⟩,.inl ⟨pre,D,HF.out,HJJ.out⟩⟩
  · have hpos:0<left.length:=List.length_pos_iff.2 hm
    have hposz:(0:Int)<left.length:=by omega
    have c0:=Blk.nth (show Blk wr Bv 77 #[.pointer (some ⟨g,0,none⟩)] from HKP.out.2.trans HBV.out) 0
    have HT:=hid (take_any g ware lim by_ A n k ps R left.length c left wr (HV.out.keep (hb0.trans HKP.out.1)) HRD.out (by omega) HIN.out)
    have hl2:=takeL_len ps left
    have hl1:=takeL_pos ps hm
    gi_wp2_with fail
    refine ⟨trivial,fun h=>(by cases h),(callsIn_wide.2 HT.out).mono ?_⟩
    rintro e W4 ⟨v1,v2,rfl,hown,hb4⟩
    clear HT c0
    obtain ⟨f',rfl⟩:∃ f',f=f'+1:=⟨f-1,by omega⟩
    have hve:pre.map (·.l)++(takeL ps left).1::vesF ps f' (takeL ps left).2=vesL ps:=by
     have h:=HVE.out
     unfold vesF at h
     rwa [if_neg hm] at h
    have hmem:∀ x,(x∈(takeL ps left).1∨x∈(takeL ps left).2)→∃ a:Nat,x=a∧a<n:=fun x h=>HIN.out x (takeL_mem ps left h)
    obtain ⟨t,ht⟩:∃ t,t=takeL ps left:=⟨_,rfl⟩
    rw [← ht] at hown hve hmem hl1 hl2
    clear ht
    obtain ⟨t1,t2⟩:=t
    dsimp only at hown hve hmem hl1 hl2
    obtain ⟨A1,k1,rfl,hr1,hbk1⟩:=own_rd_blk hown.1
    obtain ⟨A2,k2,rfl,hr2,hbk2⟩:=own_rd_blk hown.2.1
    have hne:=hown.2.2
    obtain ⟨x,hx⟩:∃ x:Ves,x=⟨t1,A1,k1⟩:=⟨_,rfl⟩
    have hjj:J D pre W4:=HJ.out _ _ _ _ HJJ.out (KeepW.of_below hb4 (fun i hi h=>hi))
    have hD4:∀ k,D k→W.heap.size≤k∧k<W4.heap.size:=fun k hk=>⟨(HDS.out k hk).1,Nat.lt_of_lt_of_le (HDS.out k hk).2 hb4.size⟩
    have hxb:∀ b,x.blk b→W.heap.size≤b∧b<W4.heap.size∧¬ D b:=by
     rintro b ⟨ad,e1,rfl⟩
     rw [hx] at e1
     have h:=hbk1 ad e1
     exact ⟨Nat.le_trans hsz h.2.1,h.2.2.1,fun hd=>by have:=(HDS.out _ hd).2;have:=h.2.1;omega⟩
    have hpx:PxV n x W4:=by rw [hx];exact ⟨hr1,fun e=>by dsimp only at e;rw [e] at hl1;simp at hl1,by dsimp only;omega,fun y hy=>hmem y (.inl hy)⟩
    obtain ⟨fn,tmps,assign,body,hy,hR⟩:=HY.out D pre x W4 hjj hD4 (Nat.le_trans hsz hb4.size) hpx hxb (by omega)
    have hR2:=roundIn_deepV (m':=nn-1) hR
    clear hR hjj hpx
    unfold encV at hy
    rw [hx] at hy
    dsimp only at hy
    have HX:=hid hx;have HVE2:=hid hve;have HB4:=hid hb4;have HMEM:=hid hmem;have HR2:=hid hr2;have HBK1:=hid hbk1;have HBK2:=hid hbk2;have HNE:=hid hne;have HXB:=hid hxb;have HD4:=hid hD4
    clear hx hve hb4 hmem hr1 hr2 hbk1 hbk2 hne hxb hD4 hown
    have hpre:(pre++[x]).map (·.l) <+: vesL ps:=by
     rw [← HVE2.out,List.map_append,HX.out]
     exact ⟨vesF ps f' t2,by simp⟩
    have HPRE:=hid hpre;clear hpre
    gi_wp2
    refine ⟨fun h=>(by cases h),hR2.mono ?_⟩
    rintro e W5 ⟨hkd,⟨rfl,⟨D',hD1,hD2,hJ5⟩,hk5⟩|⟨rfl,hJx5⟩⟩
    · have HKD:=hid hkd;have HD1:=hid hD1;have HD2:=hid hD2;have HJ5:=hid hJ5;have HK5:=hid hk5
      clear hkd hD1 hD2 hJ5 hk5
      gi_wp2
      go_roundw
      case rel =>
       have hw4:=HB4.out.size
       refine ⟨D',pre++[x],t2,f',A2,k2,rfl,rdI_keepD HKD.out HR2.out (fun ad e=>⟨Nat.le_trans hsz (HBK2.out ad e).2.1,fun hd=>?_⟩),fun ad e=>⟨Nat.le_trans hsz (HBK2.out ad e).2.1,fun hd=>?_⟩,HD2.out,HJ5.out,HKP.out.trans ((KpV.below HB4.out (Nat.le_trans hb0s hsz) (Nat.lt_of_lt_of_le hbl hsz)).trans HK5.out),Nat.le_trans hsz (Nat.le_trans hw4 HKD.out.size),by simp;omega,by omega,?_,fun y hy=>HMEM.out y (.inr hy)⟩
       · have:=(HDS.out _ hd).2;have:=(HBK2.out ad e).2.1;omega
       · rcases HD1.out _ hd with h|h|⟨ad1,h1,h2⟩
         · have:=(HDS.out _ h).2;have:=(HBK2.out ad e).2.1;omega
         · have:=(HBK2.out ad e).2.2.1;omega
         · rw [HX.out] at h1
           exact HNE.out _ (HBK1.out ad1 h1).2.2.2 (by rw [h2];exact (HBK2.out ad e).2.2.2)
       · rw [← HVE2.out,List.map_append,HX.out];simp
      case measure=>simp;omega
    · gi_wp2
      refine bodyPost_ret (results_none rfl _ _ _) rfl ?_
      exact ⟨⟨_,rfl⟩,.inr ⟨pre++[x],HPRE.out,hJx5⟩⟩
theorem vessels_seq (Bv:Nat) (g:Nat) (ware:ByteArray) (lim by_:Int) (A:Option Addr) (n k:Nat) (ps:List Prt) (w0 w:World) (hv:Vw w0 g ware lim by_ A n k ps) (h20:n<20) (hb0:Below w0.heap.size w0 w) (hbv:Blk w Bv 77 #[.pointer (some ⟨g,0,none⟩)]) :
 SeqD Tryz.prog 137 #[.pointer (some ⟨Bv,0,none⟩)] encV Ves.blk (PxV n) (KpV w0.heap.size Bv) (fun xs=>xs.map (·.l)=vesL ps) (fun pre=>pre.map (·.l) <+: vesL ps) n w:=fun nn mm lp J Jx W hW hJ _ hY h0 =>
 vessels1_in nn mm lp Bv g ware lim by_ A n k ps w0 W hv h20 (hb0.trans (hW.mono hb0.size)) (hbv.keep hW) J Jx hJ hY h0
theorem vessels_any (g:Nat) (w:World):Calls Tryz.prog 117 #[.pointer (some ⟨g,0,none⟩)] w fun e w'=>e=.returned (.func (.func 137) #[] #[.pointer (some ⟨w.heap.size,0,none⟩)])∧w'=w.alloc (.cells #[.pointer (some ⟨g,0,none⟩)] 77):=by
 go_enter Tryz.func117,Tryz.ntmps117
 go_wp2
 go_ret
 exact ⟨rfl,rfl⟩
end Go.Proofs.YtokpblmgdmokoaaGreat
