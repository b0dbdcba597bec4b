import Derived.Test.YtebkniakflhhkaaGreatDoorAELoop
import Derived.Test.YtebkniakflhhkaaGreatDoorAEMeet
import Derived.Test.YtebkniakflhhkaaGreatDoorAEList
set_option maxHeartbeats 4000000
set_option linter.unusedSimpArgs false
set_option linter.unusedVariables false
namespace Go.Proofs.YtebkniakflhhkaaGreatDoor
open Go.Lib (hid)
open Go.RowKit Go.Shelf
attribute [local go_sem] Oper.semAt_some
abbrev Yp (a b:Otl):={ p:Prg // chkP a b p=0 }
def encP {a b:Otl} (p:Yp a b):Array Value:=#[.agg #[.int .i64 p.1.af,.int .i64 p.1.at2,.int .i64 p.1.bf,.int .i64 p.1.bt]]
def prs {a b:Otl} (l:List (Yp a b)):List Prg:=l.map (·.1)
theorem prs_nil {a b:Otl}:prs ([]:List (Yp a b))=[]:=rfl
theorem prs_snoc {a b:Otl} (l:List (Yp a b)) (q:Yp a b):prs (l++[q])=prs l++[q.1]:=by simp [prs]
theorem prs_length {a b:Otl} (l:List (Yp a b)):(prs l).length=l.length:=by simp [prs]
def rowL (d s:Int) (k:Nat):List Prg:=(List.range (d-s+1).toNat).map (prAt s k)
theorem pairsL_rows {c d s:Int} (h:1≤s):pairsL c d s=(List.range (c-s+1).toNat).flatMap (rowL d s):=by
 unfold pairsL
 rw [if_neg (by omega)]
 rfl
theorem rows_succ (d s:Int) (k:Nat):(List.range (k+1)).flatMap (rowL d s)=(List.range k).flatMap (rowL d s)++rowL d s k:=by
 rw [List.range_succ,List.flatMap_append];simp
theorem row_succ (s:Int) (k t:Nat):(List.range (t+1)).map (prAt s k)=(List.range t).map (prAt s k)++[prAt s k t]:=by
 rw [List.range_succ,List.map_append];rfl
theorem rows_prefix (d s:Int) {X k t:Nat} (hk:k<X) (ht:t≤(d-s+1).toNat):(List.range k).flatMap (rowL d s)++(List.range t).map (prAt s k) <+: (List.range X).flatMap (rowL d s):=by
 have h1:(List.range k).flatMap (rowL d s)++(List.range t).map (prAt s k) <+: (List.range (k+1)).flatMap (rowL d s):=by
  rw [rows_succ]
  refine (List.prefix_append_right_inj _).2 ?_
  obtain ⟨e,he⟩:=Nat.exists_eq_add_of_le ht
  unfold rowL
  rw [he]
  clear he ht
  induction e with
  | zero=>exact List.prefix_refl _
  | succ e ih=>rw [show t+(e+1)=(t+e)+1 from rfl,row_succ];exact ih.trans (List.prefix_append _ _)
 refine h1.trans ?_
 obtain ⟨e,he⟩:=Nat.exists_eq_add_of_le hk
 rw [he]
 clear he hk h1
 induction e with
 | zero=>exact List.prefix_refl _
 | succ e ih=>rw [show k.succ+(e+1)=(k.succ+e)+1 from rfl,rows_succ d s (k.succ+e)];exact ih.trans (List.prefix_append _ _)
theorem wf_bounds {x:Int} (h:Wf x):-9223372036854775808≤x∧x≤9223372036854775807:=by
 have e1:IntKind.i64.min=-9223372036854775808:=by decide
 have e2:IntKind.i64.max=9223372036854775807:=by decide
 simp [Wf,Lit.wf,e1,e2] at h
 exact h
theorem roundIn_deep {m m':Nat} {P:Program} {l:Nat} {f:FuncId} {tmps:Array Value} {assign body:Code} {w:World} {R:Ending→World→Prop}
 (h:RoundIn Fence.wide m P l f tmps assign body w R):RoundIn Fence.wide m' P l f tmps assign body w R:=⟨h.1,fun c cs _=>h.2 c cs (by intro D hD;cases hD)⟩
theorem keepT_below {n₀ Bg Bx:Nat} {W W':World} (h:Below W.heap.size W W') (hn:n₀≤W.heap.size) (hg:Bg<W.heap.size) (hx:Bx<W.heap.size):KeepT n₀ Bg Bx W W' :=
 ⟨h.mono hn,h.block _ hg,h.block _ hx⟩
theorem below_grown {W W':World} (h:Below W.heap.size W W'):W.grownBy W' none:=⟨h.os,h.tape,h.output,h.size,fun i hi _=>h.block i hi⟩
theorem ownFrom_grown {β:Type} {B:Nat} {I:β→World→Prop} (h:OwnFrom B I) {s:β} {W W':World} (hs:I s W) (hg:W.grownBy W' none):I s W':=h s W W' none hs hg (fun r e=>by cases e)
theorem blk_same {W W':World} {g:Nat} {t:TypeId} {cs:Array Value} (h:Blk W g t cs) (e:W'.heap[g]?=W.heap[g]?):Blk W' g t cs:=e.trans h
theorem pairings_in (nn:Nat) (c:Int) (A B:Option Addr) (n k m j:Nat) (d:Int) (C D:Option Addr) (n2 k2 m2 j2:Nat) (s:Int) (w:World) :
 CallsIn Fence.wide nn Tryz.prog 63 #[.agg #[.int .i64 c,.slice A n k,.slice B m j,.int .i64 d,.slice C n2 k2,.slice D m2 j2],.int .i64 s] w fun e w' =>
  e=.returned (.func (.func 93) #[] #[.pointer (some ⟨w.heap.size+1,0,none⟩),.pointer (some ⟨w.heap.size,0,none⟩)]) ∧
  w'=(w.alloc (.cells #[.int .i64 c,.slice A n k,.slice B m j,.int .i64 d,.slice C n2 k2,.slice D m2 j2] 76)).alloc (.cells #[.int .i64 s] 3):=by
 refine callsIn_of_wp Tryz.func63 rfl trivial ?_ rfl
 simp only [Tryz.ntmps63,List.size_toArray,List.length_cons,List.length_nil,Nat.reduceAdd,Nat.reduceSub,Array.replicate_succ,Array.replicate_zero,List.push_toArray,List.append_toArray,List.nil_append,List.cons_append]
 gi_wp2
 go_ret
 exact ⟨rfl,rfl⟩
theorem meeting_in (nn:Nat) (c:Int) (A B:Option Addr) (n k m j:Nat) (d:Int) (C D:Option Addr) (n2 k2 m2 j2:Nat) (s:Int) (w:World) :
 CallsIn Fence.wide nn Tryz.prog 37 #[.agg #[.int .i64 c,.slice A n k,.slice B m j,.int .i64 d,.slice C n2 k2,.slice D m2 j2],.int .i64 s] w fun e w' =>
  e=.returned (.func (.func 62) #[] #[.pointer (some ⟨w.heap.size,0,none⟩),.pointer (some ⟨w.heap.size+1,0,none⟩)]) ∧
  w'=(w.alloc (.cells #[.int .i64 c,.slice A n k,.slice B m j,.int .i64 d,.slice C n2 k2,.slice D m2 j2] 76)).alloc (.cells #[.int .i64 s] 3):=by
 refine callsIn_of_wp Tryz.func37 rfl trivial ?_ rfl
 simp only [Tryz.ntmps37,List.size_toArray,List.length_cons,List.length_nil,Nat.reduceAdd,Nat.reduceSub,Array.replicate_succ,Array.replicate_zero,List.push_toArray,List.append_toArray,List.nil_append,List.cons_append]
 gi_wp2
 go_ret
 exact ⟨rfl,rfl⟩
set_option maxRecDepth 100000 in
theorem pairings1_in (nn mm lp n₀ Bo Bs:Nat) (c:Int) (A B:Option Addr) (n k m j:Nat) (ws ts:List Bnd) (d:Int) (C D:Option Addr) (n2 k2 m2 j2:Nat) (ws2 ts2:List Bnd) (s:Int) (hs:Wf s) (hoa:chkO ⟨c,ws,ts⟩=0) (hob:chkO ⟨d,ws2,ts2⟩=0)
 (J Jx:List (Yp ⟨c,ws,ts⟩ ⟨d,ws2,ts2⟩)→World→Prop) (W:World) (hn0:n₀≤W.heap.size) (hJ:OwnFrom W.heap.size J)
 (hY:∀ pre q W1,J pre W1→W.heap.size≤W1.heap.size→pre.length<(pairsL c d s).length→YieldAt Fence.wide mm Tryz.prog lp (encP q) W1 fun e W'=>KeepsIn W.heap.size W.heap.size W1 W' ∧
  ((e=.returned (.bool true)∧J (pre++[q]) W'∧KeepT n₀ Bo Bs W1 W')∨(e=.returned (.bool false)∧Jx (pre++[q]) W')))
 (ho:Blk W Bo 76 #[.int .i64 c,.slice A n k,.slice B m j,.int .i64 d,.slice C n2 k2,.slice D m2 j2]) (hsb:Blk W Bs 3 #[.int .i64 s]) (h0:J [] W) :
 CallsIn Fence.wide nn Tryz.prog 93 #[.func (.yield lp) #[] #[],.pointer (some ⟨Bs,0,none⟩),.pointer (some ⟨Bo,0,none⟩)] W fun e W'=>(∃ v,e=.returned v) ∧
  ((∃ ys,prs ys=pairsL c d s∧J ys W')∨(∃ pre,prs pre <+: pairsL c d s∧Jx pre W')):=by
 obtain ⟨a1,a2,-,-⟩:=chkO_ok hoa
 obtain ⟨b1,b2,-,-⟩:=chkO_ok hob
 dsimp only at a1 a2 b1 b2
 have HOA:=hid hoa;have HOB:=hid hob;clear hoa hob
 have HO:=hid ho;have HS:=hid hsb;clear ho hsb
 have HJ:=hid hJ;clear hJ
 have HY:=hid hY;clear hY
 obtain ⟨hs1,hs2⟩:=wf_bounds hs
 clear hs
 refine callsIn_of_wp Tryz.func93 rfl trivial ?_ rfl
 simp only [Tryz.ntmps93,List.size_toArray,List.length_cons,List.length_nil,Nat.reduceAdd,Nat.reduceSub,Array.replicate_succ,Array.replicate_zero,List.push_toArray,List.append_toArray,List.nil_append,List.cons_append]
 have cs:W.cell? ⟨Bs,0,none⟩=some (.int .i64 s):=HS.out.cell 0
 have co:W.cell? ⟨Bo,0,none⟩=some (.int .i64 c):=HO.out.cell 0
 by_cases h1:s<1
 · gi_wp2
   refine bodyPost_ret (results_none rfl _ _ _) rfl ?_
   exact ⟨⟨_,rfl⟩,.inl ⟨[],by unfold pairsL;rw [if_pos h1];rfl,h0⟩⟩
 · have HP:=hid (pairsL_rows (c:=c) (d:=d) (show 1≤s by omega))
   have hX:IntKind.i64.wrap (c-s)=c-s:=IntWalk.i64_in _ (by omega)
   have hX1:IntKind.i64.wrap (c-s+1)=c-s+1:=IntWalk.i64_in _ (by omega)
   gi_wp2
   gi_loopw [15] (fun i wr=>∃ k:Nat,k≤(c-s+1).toNat∧i=.int .i64 k∧(∃ ys:List (Yp ⟨c,ws,ts⟩ ⟨d,ws2,ts2⟩),prs ys=(List.range k).flatMap (rowL d s)∧J ys wr)∧KeepT n₀ Bo Bs W wr∧W.heap.size≤wr.heap.size)
    (fun i _=>(c-s+1).toNat-(intOf i).toNat)
   case atStart=>exact ⟨0,Nat.zero_le _,rfl,⟨[],rfl,h0⟩,KeepT.refl _ _ _ _,Nat.le_refl _⟩
   case round =>
    obtain ⟨k,hk,rfl,⟨ys,hys,hJs⟩,hkp,hsz⟩:=hrel
    have HYS:=hid hys;clear hys
    clear cs co
    have HO1:=hid (blk_same HO.out hkp.2.1);have HS1:=hid (blk_same HS.out hkp.2.2)
    by_cases hlt:k<(c-s+1).toNat
    · have hlt':(k:Int)<c-s+1:=by omega
      have cs:wr.cell? ⟨Bs,0,none⟩=some (.int .i64 s):=HS1.out.cell 0
      have cd:wr.cell? ⟨Bo,3,none⟩=some (.int .i64 d):=HO1.out.cell 3
      have hZ:IntKind.i64.wrap (d-s)=d-s:=IntWalk.i64_in _ (by omega)
      have hZ1:IntKind.i64.wrap (d-s+1)=d-s+1:=IntWalk.i64_in _ (by omega)
      have HKP:=hid hkp;clear hkp
      have HW:=hid HO1;clear HW
      obtain ⟨wo,hwo⟩:∃ wo,wo=wr:=⟨_,rfl⟩
      rw [← hwo] at cs cd HO1 HS1 HKP hsz hJs ⊢
      clear hwo wr
      gi_wp2
      gi_loopw [24] (fun j wr=>∃ t:Nat,t≤(d-s+1).toNat∧j=.int .i64 t∧(∃ ys:List (Yp ⟨c,ws,ts⟩ ⟨d,ws2,ts2⟩),prs ys=(List.range k).flatMap (rowL d s)++(List.range t).map (prAt s k)∧J ys wr)∧KeepT n₀ Bo Bs wo wr∧W.heap.size≤wr.heap.size)
       (fun j _=>(d-s+1).toNat-(intOf j).toNat)
      case atStart=>exact ⟨0,Nat.zero_le _,rfl,⟨ys,by rw [HYS.out];simp,hJs⟩,KeepT.refl _ _ _ _,hsz⟩
      case round =>
       clear cs cd
       obtain ⟨t,ht,rfl,⟨zs,hzs,hJz⟩,hkz,hsz2⟩:=hrel
       have HZS:=hid hzs;clear hzs
       have HO2:=hid (blk_same HO1.out hkz.2.1);have HS2:=hid (blk_same HS1.out hkz.2.2)
       by_cases hlt2:t<(d-s+1).toNat
       · have hlt2':(t:Int)<d-s+1:=by omega
         have cs:wr.cell? ⟨Bs,0,none⟩=some (.int .i64 s):=HS2.out.cell 0
         have hk1:IntKind.i64.wrap ((k:Int)+s)=(k:Int)+s:=IntWalk.i64_in _ (by omega)
         have ht1:IntKind.i64.wrap ((t:Int)+s)=(t:Int)+s:=IntWalk.i64_in _ (by omega)
         have hok:chkP ⟨c,ws,ts⟩ ⟨d,ws2,ts2⟩ (prAt s k t)=0:=chkP_zero HOA.out HOB.out ⟨by simp only [prAt];omega,by simp only [prAt];omega,by simp only [prAt];omega⟩ ⟨by simp only [prAt];omega,by simp only [prAt];omega,by simp only [prAt];omega⟩ (by simp only [prAt];omega)
         obtain ⟨q,hq⟩:∃ q:Yp ⟨c,ws,ts⟩ ⟨d,ws2,ts2⟩,q=⟨prAt s k t,hok⟩:=⟨_,rfl⟩
         have hpre:prs (zs++[q]) <+: pairsL c d s:=by
          rw [HP.out,prs_snoc,HZS.out,hq,List.append_assoc]
          have:=rows_prefix d s (X:=(c-s+1).toNat) (k:=k) (t:=t+1) hlt (by omega)
          rw [row_succ] at this
          exact this
         have hlen:zs.length<(pairsL c d s).length:=by
          have:=hpre.length_le
          rw [prs_length] at this
          simp at this
          omega
         have hal:=HJ.out.alloc (.cells #[.int .i64 (k:Int),.int .i64 ((k:Int)+s),.int .i64 (t:Int),.int .i64 ((t:Int)+s)] 25) hJz
         obtain ⟨fn,tmps,assign,body,hy,hR⟩:=HY.out zs q _ hal (by simp;omega) hlen
         unfold encP at hy
         rw [hq] at hy
         dsimp only [prAt] at hy
         have HPRE:=hid hpre;have HQ:=hid hq;clear hpre hq
         have hR2:=roundIn_deep (m':=nn-1) hR
         clear hR hal
         have hsb2:=HS2.out.lt;have hso2:=HO2.out.lt
         have HKZ:=hid hkz;clear hkz
         gi_wp2
         refine ⟨fun h=>(by cases h),hR2.mono ?_⟩
         rintro e W3 ⟨hall,⟨rfl,hJ3,hk4⟩|⟨rfl,hJx3⟩⟩
         · gi_wp2
           go_roundw
           case rel =>
            refine ⟨t+1,by omega,by go_num,⟨zs++[q],by rw [row_succ,prs_snoc,HZS.out,HQ.out,List.append_assoc],hJ3⟩,HKZ.out.trans ((KeepT.alloc _ (by omega) hso2 hsb2).trans hk4),?_⟩
            have:=hall.size;simp at this;omega
           case measure=>simp [intOf];omega
         · gi_wp2
           refine bodyPost_ret (results_none rfl _ _ _) rfl ?_
           exact ⟨⟨_,rfl⟩,.inr ⟨zs++[q],HPRE.out,hJx3⟩⟩
       · obtain rfl:t=(d-s+1).toNat:=by omega
         have HKZ:=hid hkz;clear hkz
         by_cases hz:0≤d-s+1
         · have hz2:¬ (((d-s+1).toNat:Int)<d-s+1):=by omega
           gi_wp2
           go_roundw
           case rel=>exact ⟨k+1,by omega,by go_num,⟨zs,by rw [rows_succ,HZS.out];rfl,hJz⟩,HKP.out.trans HKZ.out,hsz2⟩
           case measure=>simp [intOf];omega
         · have hz2:¬ (((d-s+1).toNat:Int)<d-s+1):=by omega
           gi_wp2
           go_roundw
           case rel=>exact ⟨k+1,by omega,by go_num,⟨zs,by rw [rows_succ,HZS.out];rfl,hJz⟩,HKP.out.trans HKZ.out,hsz2⟩
           case measure=>simp [intOf];omega
    · obtain rfl:k=(c-s+1).toNat:=by omega
      have hz2:¬ (((c-s+1).toNat:Int)<c-s+1):=by omega
      have HKP:=hid hkp;clear hkp
      gi_wp2
      go_end0
      exact ⟨⟨_,rfl⟩,.inl ⟨ys,by rw [HP.out,HYS.out],hJs⟩⟩
theorem pairings_stops (n₀ Bo Bs:Nat) (c:Int) (A B:Option Addr) (n k m j:Nat) (ws ts:List Bnd) (d:Int) (C D:Option Addr) (n2 k2 m2 j2:Nat) (ws2 ts2:List Bnd) (s:Int) (hs:Wf s) (hoa:chkO ⟨c,ws,ts⟩=0) (hob:chkO ⟨d,ws2,ts2⟩=0) (w:World) (hn0:n₀≤w.heap.size)
 (ho:Blk w Bo 76 #[.int .i64 c,.slice A n k,.slice B m j,.int .i64 d,.slice C n2 k2,.slice D m2 j2]) (hsb:Blk w Bs 3 #[.int .i64 s]) :
 SeqX 0 Tryz.prog 93 #[.pointer (some ⟨Bs,0,none⟩),.pointer (some ⟨Bo,0,none⟩)] (encP (a:=⟨c,ws,ts⟩) (b:=⟨d,ws2,ts2⟩)) (KeepT n₀ Bo Bs)
  (fun ys=>prs ys=pairsL c d s) (fun pre=>prs pre <+: pairsL c d s) (pairsL c d s).length w:=fun nn mm lp J Jx W hW hJ _ hY h0 =>
 pairings1_in nn mm lp n₀ Bo Bs c A B n k m j ws ts d C D n2 k2 m2 j2 ws2 ts2 s hs hoa hob J Jx W (by have:=hW.size;omega) hJ hY (ho.keep hW) (hsb.keep hW) h0
def meetY (a b:Otl) (l:List (Yp a b)):List (Yp a b):=l.filter fun q=>meetsB a b q.1
theorem meetY_yes {a b:Otl} (l:List (Yp a b)) {q:Yp a b} (h:meetsB a b q.1=true):meetY a b (l++[q])=meetY a b l++[q]:=by simp [meetY,h]
theorem meetY_no {a b:Otl} (l:List (Yp a b)) {q:Yp a b} (h:meetsB a b q.1=false):meetY a b (l++[q])=meetY a b l:=by simp [meetY,h]
theorem meetY_map {a b:Otl} (l:List (Yp a b)):prs (meetY a b l)=(prs l).filter (meetsB a b):=by
 unfold meetY prs
 induction l with
 | nil=>rfl
 | cons q l ih=>simp only [List.filter_cons,List.map_cons];split<;>simp [ih]
theorem meetY_length {a b:Otl} (l:List (Yp a b)):(meetY a b l).length≤l.length:=List.length_filter_le _ _
theorem filter_prefix {α:Type} {p:α→Bool} {l k:List α} (h:l <+: k):l.filter p <+: k.filter p:=by
 obtain ⟨r,rfl⟩:=h
 rw [List.filter_append]
 exact List.prefix_append _ _
theorem roundIn_inRound (l':Nat) {m:Nat} {P:Program} {l:Nat} {f:FuncId} {tmps:Array Value} {assign body:Code} {w:World} {R:Ending→World→Prop}
 (h:RoundIn Fence.wide m P l f tmps assign body w R):RoundIn (Fence.wide.inRound l') m P l f tmps assign body w R:=h
theorem rowsOwn {B g:Nat} {t:TypeId} {cs:Array Value} {β:Type}:OwnFrom B (fun (_:β) W=>Blk W g t cs):=fun _ _ _ _ hs hg hr=>blk_own hs hg (fun r e=>(hr r e).2)
theorem keepT_own {β:Type} {n₀ Bg Bx B:Nat} {w:World} (hn:n₀≤w.heap.size) (hB:n₀≤B) {tg tx:TypeId} {cg cx:Array Value} (hg:Blk w Bg tg cg) (hx:Blk w Bx tx cx):OwnFrom B (fun (_:β) W=>KeepT n₀ Bg Bx w W):=by
 intro s X Y row hs hgr hr
 refine ⟨ownFrom_below (β:=β) hn hB s X Y row hs.1 hgr hr,?_,?_⟩
 · exact (blk_own (blk_same hg hs.2.1) hgr (fun r e=>(hr r e).2)).trans hg.symm
 · exact (blk_own (blk_same hx hs.2.2) hgr (fun r e=>(hr r e).2)).trans hx.symm
set_option maxRecDepth 100000 in
theorem meeting1_in (mm lp Bo Bs:Nat) (c:Int) (A B:Option Addr) (n k m j:Nat) (ws ts:List Bnd) (d:Int) (C D:Option Addr) (n2 k2 m2 j2:Nat) (ws2 ts2:List Bnd) (s:Int) (hs:Wf s) (w:World) (h1:RdB w A n k ws) (h2:RdB w B m j ts) (hn:n≤maxLen) (hm:m≤maxLen) (h3:RdB w C n2 k2 ws2) (h4:RdB w D m2 j2 ts2) (hn2:n2≤maxLen) (hm2:m2≤maxLen) (hq:both ⟨c,ws,ts⟩ ⟨d,ws2,ts2⟩=0)
 (J Jx:List (Yp ⟨c,ws,ts⟩ ⟨d,ws2,ts2⟩)→World→Prop) (W:World) (hW:Below w.heap.size w W) (hJ:OwnFrom W.heap.size J) (hJx:OwnFrom W.heap.size Jx)
 (hY:∀ pre q W1,J pre W1→W.heap.size+5≤W1.heap.size→pre.length<(pairsL c d s).length→YieldAt Fence.wide mm Tryz.prog lp (encP q) W1 fun e W'=>KeepsIn W.heap.size (W.heap.size+5) W1 W' ∧
  ((e=.returned (.bool true)∧J (pre++[q]) W'∧KeepT w.heap.size Bo Bs W1 W')∨(e=.returned (.bool false)∧Jx (pre++[q]) W')))
 (ho:Blk W Bo 76 #[.int .i64 c,.slice A n k,.slice B m j,.int .i64 d,.slice C n2 k2,.slice D m2 j2]) (hsb:Blk W Bs 3 #[.int .i64 s]) (h0:J [] W) :
 CallsIn Fence.wide 9 Tryz.prog 62 #[.func (.yield lp) #[] #[],.pointer (some ⟨Bo,0,none⟩),.pointer (some ⟨Bs,0,none⟩)] W fun e W'=>(∃ v,e=.returned v) ∧
  ((∃ ys,prs ys=meetL ⟨c,ws,ts⟩ ⟨d,ws2,ts2⟩ s∧J ys W')∨(∃ pre,prs pre <+: meetL ⟨c,ws,ts⟩ ⟨d,ws2,ts2⟩ s∧Jx pre W')):=by
 obtain ⟨hoa,hob,-,-⟩:=both_ok hq
 have HO:=hid ho;have HS:=hid hsb;clear ho hsb
 have HJ:=hid hJ;have HJX:=hid hJx;clear hJ hJx
 have HY:=hid hY;clear hY
 have HWF:=hid hs;clear hs
 have H1:=hid h1;have H2:=hid h2;have H3:=hid h3;have H4:=hid h4;clear h1 h2 h3 h4
 have HB:=hid hW;clear hW
 have HQ:=hid hq;have HOA:=hid hoa;have HOB:=hid hob;clear hq hoa hob
 have HN:=hid (And.intro (And.intro hn hm) (And.intro hn2 hm2));clear hn hm hn2 hm2
 refine callsIn_of_wp_marks Tryz.func62 rfl trivial ?_ rfl
 simp only [Tryz.ntmps62,List.size_toArray,List.length_cons,List.length_nil,Nat.reduceAdd,Nat.reduceSub,Array.replicate_succ,Array.replicate_zero,List.push_toArray,List.append_toArray,List.nil_append,List.cons_append]
 have co0:W.cell? ⟨Bo,0,none⟩=some (.int .i64 c):=HO.out.cell 0
 have co1:W.cell? ⟨Bo,1,none⟩=some (.slice A n k):=HO.out.cell 1
 have co2:W.cell? ⟨Bo,2,none⟩=some (.slice B m j):=HO.out.cell 2
 have co3:W.cell? ⟨Bo,3,none⟩=some (.int .i64 d):=HO.out.cell 3
 have co4:W.cell? ⟨Bo,4,none⟩=some (.slice C n2 k2):=HO.out.cell 4
 have co5:W.cell? ⟨Bo,5,none⟩=some (.slice D m2 j2):=HO.out.cell 5
 have cs:W.cell? ⟨Bs,0,none⟩=some (.int .i64 s):=HS.out.cell 0
 have zo:=HO.out.lt;have zs:=HS.out.lt
 gi_wp2_with (refine ⟨trivial,?_⟩;gi_at_call 63;refine (pairings_in _ c A B n k m j d C D n2 k2 m2 j2 s _).mono ?_;rintro e w' ⟨rfl,rfl⟩)
 clear co0 co1 co2 co3 co4 co5 cs
 have bY:=((Blk.new W 121 #[.func (.yield lp) #[] #[]]).alloc (.cells #[.int .i64 c,.slice A n k,.slice B m j,.int .i64 d,.slice C n2 k2,.slice D m2 j2] 76)).alloc (.cells #[.int .i64 s] 3)
 have bO:=(Blk.new (W.alloc (.cells #[.func (.yield lp) #[] #[]] 121)) 76 #[.int .i64 c,.slice A n k,.slice B m j,.int .i64 d,.slice C n2 k2,.slice D m2 j2]).alloc (.cells #[.int .i64 s] 3)
 have bS:=Blk.new ((W.alloc (.cells #[.func (.yield lp) #[] #[]] 121)).alloc (.cells #[.int .i64 c,.slice A n k,.slice B m j,.int .i64 d,.slice C n2 k2,.slice D m2 j2] 76)) 3 #[.int .i64 s]
 simp only [World.size_alloc] at bO bS
 have hT:KeepT w.heap.size Bo Bs W (((W.alloc (.cells #[.func (.yield lp) #[] #[]] 121)).alloc (.cells #[.int .i64 c,.slice A n k,.slice B m j,.int .i64 d,.slice C n2 k2,.slice D m2 j2] 76)).alloc (.cells #[.int .i64 s] 3)):=by
  have h1:=HB.out.size
  exact ((KeepT.alloc _ h1 zo zs).trans (KeepT.alloc _ (by simp;omega) (by simp;omega) (by simp;omega))).trans (KeepT.alloc _ (by simp;omega) (by simp;omega) (by simp;omega))
 have hsz:(((W.alloc (.cells #[.func (.yield lp) #[] #[]] 121)).alloc (.cells #[.int .i64 c,.slice A n k,.slice B m j,.int .i64 d,.slice C n2 k2,.slice D m2 j2] 76)).alloc (.cells #[.int .i64 s] 3)).heap.size=W.heap.size+3:=by simp
 have hJ1:J (meetY ⟨c,ws,ts⟩ ⟨d,ws2,ts2⟩ []) (((W.alloc (.cells #[.func (.yield lp) #[] #[]] 121)).alloc (.cells #[.int .i64 c,.slice A n k,.slice B m j,.int .i64 d,.slice C n2 k2,.slice D m2 j2] 76)).alloc (.cells #[.int .i64 s] 3)):=HJ.out.alloc _ (HJ.out.alloc _ (HJ.out.alloc _ h0))
 clear h0
 obtain ⟨W2,hW2⟩:∃ W2,(((W.alloc (.cells #[.func (.yield lp) #[] #[]] 121)).alloc (.cells #[.int .i64 c,.slice A n k,.slice B m j,.int .i64 d,.slice C n2 k2,.slice D m2 j2] 76)).alloc (.cells #[.int .i64 s] 3))=W2:=⟨_,rfl⟩
 rw [hW2] at bY bO bS hT hsz hJ1 ⊢
 clear hW2
 have hwb:=HB.out.size
 refine rangeFunc_X (gf:=93) (lb:=#[.pointer (some ⟨W.heap.size+1+1,0,none⟩),.pointer (some ⟨W.heap.size+1,0,none⟩)]) rfl (enters_of Tryz.func93 (by kernel_rfl) rfl)
  (pairings_stops w.heap.size (W.heap.size+1) (W.heap.size+1+1) c A B n k m j ws ts d C D n2 k2 m2 j2 ws2 ts2 s HWF.out HOA.out HOB.out W2 (by omega) bO bS) (Below.refl _ _)
  (fun h k=>h.trans k) (keepT_b (by omega) (by omega) (by omega)) (fun _=>rfl)
  (fun pre W'=>J (meetY ⟨c,ws,ts⟩ ⟨d,ws2,ts2⟩ pre) W'∧(Blk W' W.heap.size 121 #[.func (.yield lp) #[] #[]]∧(KeepT w.heap.size Bo Bs W W'∧W2.heap.size≤W'.heap.size)))
  (fun cd pre W'=>cd=.ret∧Jx (meetY ⟨c,ws,ts⟩ ⟨d,ws2,ts2⟩ pre) W')
  (OwnFrom.and (fun s X Y row hs hg hr=>ownFrom_weaken HJ.out (by omega) _ X Y row hs hg hr) (OwnFrom.and rowsOwn (OwnFrom.and (keepT_own hwb (by omega) HO.out HS.out) (fun s X Y row hs hg hr=>Nat.le_trans hs hg.size))))
  (fun cd=>OwnFrom.and (ownFrom_pure _ _) (fun s X Y row hs hg hr=>ownFrom_weaken HJX.out (by omega) _ X Y row hs hg hr))
  ⟨hJ1,bY,hT,Nat.le_refl _⟩
  (fun x a' W'=>∃ Bx,W2.heap.size≤Bx∧Blk W' Bx 25 #[.int .i64 x.1.af,.int .i64 x.1.at2,.int .i64 x.1.bf,.int .i64 x.1.bt] ∧
   a'={ tmps:=#[.func (.yield lp) #[] #[],.pointer (some ⟨Bo,0,none⟩),.pointer (some ⟨Bs,0,none⟩),.pointer (some ⟨W.heap.size,0,none⟩),.pointer (some ⟨Bx,0,none⟩),.agg #[.int .i64 c,.slice A n k,.slice B m j,.int .i64 d,.slice C n2 k2,.slice D m2 j2],.int .i64 s,
    .func (.func 93) #[] #[.pointer (some ⟨W.heap.size+1+1,0,none⟩),.pointer (some ⟨W.heap.size+1,0,none⟩)],.agg #[.int .i64 x.1.af,.int .i64 x.1.at2,.int .i64 x.1.bf,.int .i64 x.1.bt],
    undef,undef,undef,undef,undef,undef,undef,undef,undef,undef],defers:=[] })
  (fun x a' s X Y row hs hg hr=>by obtain ⟨Bx,e1,e2,e3⟩:=hs;exact ⟨Bx,e1,blk_own e2 hg (fun r e=>(hr r e).2),e3⟩)
  ?assign ?body ?done ?stop
 case assign =>
  rintro l pre x W' K ⟨hj,hy,ht,hl2⟩ hK
  have hz:=ht.1.size
  have hzo:=(blk_same HO.out ht.2.1).lt;have hzs:=(blk_same HS.out ht.2.2).lt
  have hzy:=hy.lt
  dsimp only [encP]
  have HK:=hid hK;clear hK
  have HJ1:=hid hj;clear hj
  gi_wp2
  exact HK.out _ _ (KeepsIn.alloc _ _ _ _) (KeepT.alloc _ (by omega) (by omega) (by omega)) ⟨ownFrom_grown HJ.out HJ1.out (World.grownBy_alloc _ _ none),hy.alloc _,ht.trans (KeepT.alloc _ (by omega) hzo hzs),by simp;omega⟩
   ⟨W'.heap.size,by omega,Blk.new W' _ _,rfl⟩
 case body =>
  rintro l pre x a' W' hl ⟨r,hr⟩ hG ⟨hj,hy,ht,hl2⟩ ⟨Bx,hBx,bX,rfl⟩ hlen
  have HT:=hid ht;clear ht
  have ho1:=blk_same HO.out HT.out.2.1
  have co0:W'.cell? ⟨Bo,0,none⟩=some (.int .i64 c):=ho1.cell 0
  have co1:W'.cell? ⟨Bo,1,none⟩=some (.slice A n k):=ho1.cell 1
  have co2:W'.cell? ⟨Bo,2,none⟩=some (.slice B m j):=ho1.cell 2
  have co3:W'.cell? ⟨Bo,3,none⟩=some (.int .i64 d):=ho1.cell 3
  have co4:W'.cell? ⟨Bo,4,none⟩=some (.slice C n2 k2):=ho1.cell 4
  have co5:W'.cell? ⟨Bo,5,none⟩=some (.slice D m2 j2):=ho1.cell 5
  have cx0:W'.cell? ⟨Bx,0,none⟩=some (.int .i64 x.1.af):=bX.cell 0
  have cx1:W'.cell? ⟨Bx,1,none⟩=some (.int .i64 x.1.at2):=bX.cell 1
  have cx2:W'.cell? ⟨Bx,2,none⟩=some (.int .i64 x.1.bf):=bX.cell 2
  have cx3:W'.cell? ⟨Bx,3,none⟩=some (.int .i64 x.1.bt):=bX.cell 3
  have hBW:=HB.out.trans HT.out.1
  have hmeet:=meets_q c A B n k m j ws ts d C D n2 k2 m2 j2 ws2 ts2 x.1.af x.1.at2 x.1.bf x.1.bt W' (H1.out.below hBW) (H2.out.below hBW) HN.out.1.1 HN.out.1.2 (H3.out.below hBW) (H4.out.below hBW) HN.out.2.1 HN.out.2.2 (both_asked HQ.out x.2)
  have HM:=hid hmeet;clear hmeet
  have zx:=bX.lt;have zy:=hy.lt;have zo1:=ho1.lt;have zs1:=(blk_same HS.out HT.out.2.2).lt
  have zw:=hBW.size
  clear ho1
  cases hmb:meetsB ⟨c,ws,ts⟩ ⟨d,ws2,ts2⟩ x.1
  · have hmb2:meetsB ⟨c,ws,ts⟩ ⟨d,ws2,ts2⟩ ⟨x.1.af,x.1.at2,x.1.bf,x.1.bt⟩=false:=hmb
    rw [hmb2] at HM
    have HMB:=hid hmb;clear hmb hmb2
    have HJ1:=hid hj;clear hj
    gi_wp2_with (refine ⟨trivial,?_⟩;gi_at_call 31;refine (CallsIn.inRound l (callsIn_wide.2 HM.out)).mono ?_;rintro e w1 ⟨rfl,hb⟩)
    refine ⟨fun _ h=>(by cases h),?_⟩
    gi_wp2
    refine ⟨KeepsIn.of_below hb (Nat.le_refl _),keepT_below hb (by omega) (by omega) (by omega),?_,hy.keep hb,HT.out.trans (keepT_below hb (by omega) zo1 zs1),Nat.le_trans hl2 hb.size⟩
    rw [meetY_no pre HMB.out]
    exact ownFrom_grown HJ.out HJ1.out (below_grown hb)
  · have hmb2:meetsB ⟨c,ws,ts⟩ ⟨d,ws2,ts2⟩ ⟨x.1.af,x.1.at2,x.1.bf,x.1.bt⟩=true:=hmb
    rw [hmb2] at HM
    have HMB:=hid hmb;clear hmb hmb2
    gi_wp2_with (refine ⟨trivial,?_⟩;gi_at_call 31;refine (CallsIn.inRound l (callsIn_wide.2 HM.out)).mono ?_;rintro e w1 ⟨rfl,hb⟩;have cy1:=(hy.keep hb).cell 0;have cx0:=(bX.keep hb).cell 0;have cx1:=(bX.keep hb).cell 1;have cx2:=(bX.keep hb).cell 2;have cx3:=(bX.keep hb).cell 3;obtain ⟨fn,tmps,assign,body,hyy,hR⟩:=HY.out (meetY ⟨c,ws,ts⟩ ⟨d,ws2,ts2⟩ pre) x w1 (ownFrom_grown HJ.out hj (below_grown hb)) (by have:=hb.size;omega) (Nat.lt_of_le_of_lt (meetY_length _) hlen);dsimp only [encP] at hyy)
    refine (roundIn_inRound l (roundIn_deep hR)).mono ?_
    rintro e W5 ⟨hall,⟨rfl,hJ3,hk4⟩|⟨rfl,hJx3⟩⟩
    · gi_wp2
      refine ⟨(KeepsIn.of_below hb (Nat.le_refl _)).trans (hall.weaken (by omega) (by omega)),?_,?_,?_,HT.out.trans ((keepT_below hb (by omega) zo1 zs1).trans hk4),?_⟩
      · have hbs:=hb.size
        exact (keepT_below hb (by omega) (by omega) (by omega)).trans ⟨hk4.1,hall.same _ (by omega) (by omega) (by omega),hall.same _ (by omega) (by omega) (by omega)⟩
      · rw [meetY_yes pre HMB.out];exact hJ3
      · exact blk_same (hy.keep hb) (hall.same _ (Nat.le_refl _) (by omega) (hy.keep hb).lt)
      · have hbs:=hb.size;have hls:=hall.size;omega
    · gi_wp2
      refine ⟨(KeepsIn.of_below hb (Nat.le_refl _)).trans (hall.weaken (by omega) (by omega)),rfl,?_⟩
      rw [meetY_yes pre HMB.out]
      exact hJx3
 case done =>
  rintro D' ys W' hD hS ⟨hj,hy,ht,hl2⟩ hK
  have HJ1:=hid hj;clear hj
  gi_wp2
  refine ⟨by simp,.inl ⟨_,_,rfl,run_takeDeferred hK,?_⟩⟩
  exact ⟨_,results_none rfl _ _ _,⟨_,rfl⟩,.inl ⟨_,by rw [meetY_map,hS];rfl,(ownFrom_weaken HJ.out (by omega)).putObj _ HJ1.out hD hK rfl⟩⟩
 case stop =>
  rintro D' cd pre W' hD hpre ⟨rfl,hjx⟩ hK
  have HJ1:=hid hjx;clear hjx
  gi_wp2
  refine ⟨by simp,.inl ⟨_,_,rfl,run_takeDeferred hK,?_⟩⟩
  exact ⟨_,results_none rfl _ _ _,⟨_,rfl⟩,.inr ⟨_,by rw [meetY_map];exact filter_prefix hpre,(ownFrom_weaken HJX.out (by omega)).putObj _ HJ1.out hD hK rfl⟩⟩
theorem meeting_stops (Bo Bs:Nat) (c:Int) (A B:Option Addr) (n k m j:Nat) (ws ts:List Bnd) (d:Int) (C D:Option Addr) (n2 k2 m2 j2:Nat) (ws2 ts2:List Bnd) (s:Int) (hs:Wf s) (w:World) (h1:RdB w A n k ws) (h2:RdB w B m j ts) (hn:n≤maxLen) (hm:m≤maxLen) (h3:RdB w C n2 k2 ws2) (h4:RdB w D m2 j2 ts2) (hn2:n2≤maxLen) (hm2:m2≤maxLen) (hq:both ⟨c,ws,ts⟩ ⟨d,ws2,ts2⟩=0) (w':World) (hw:Below w.heap.size w w')
 (ho:Blk w' Bo 76 #[.int .i64 c,.slice A n k,.slice B m j,.int .i64 d,.slice C n2 k2,.slice D m2 j2]) (hsb:Blk w' Bs 3 #[.int .i64 s]) :
 SeqX 5 Tryz.prog 62 #[.pointer (some ⟨Bo,0,none⟩),.pointer (some ⟨Bs,0,none⟩)] (encP (a:=⟨c,ws,ts⟩) (b:=⟨d,ws2,ts2⟩)) (KeepT w.heap.size Bo Bs)
  (fun ys=>prs ys=meetL ⟨c,ws,ts⟩ ⟨d,ws2,ts2⟩ s) (fun pre=>prs pre <+: meetL ⟨c,ws,ts⟩ ⟨d,ws2,ts2⟩ s) (pairsL c d s).length w':=fun nn mm lp J Jx W hW hJ hJx hY h0 =>
 callsIn_wide.2 (callsIn_wide.1 (meeting1_in mm lp Bo Bs c A B n k m j ws ts d C D n2 k2 m2 j2 ws2 ts2 s hs w h1 h2 hn hm h3 h4 hn2 hm2 hq J Jx W (hw.trans (hW.mono hw.size)) hJ hJx hY (ho.keep hW) (hsb.keep hW) h0))
end Go.Proofs.YtebkniakflhhkaaGreatDoor
