import Derived.Test.YtebkniakflhhkaaGreatDoorASolv
set_option maxHeartbeats 4000000
set_option linter.unusedSimpArgs false
set_option linter.unusedVariables false
namespace Go.Proofs.YtebkniakflhhkaaGreatDoor
open Go.Lib (hid)
open Go.RowKit
def arrB (x:List Bool):Array Value:=(x.map Value.bool).toArray
def noB:List Bool:=List.replicate 60 false
def atB (x:List Bool) (i:Nat):Bool:=x.getD i false
theorem arrB_get (x:List Bool) (i:Nat) (h:i<x.length):(arrB x)[i]?=some (.bool (atB x i)):=by
 simp [arrB,atB,List.getD_eq_getElem?_getD,List.getElem?_eq_getElem h]
theorem arrB_set (x:List Bool) (i:Nat) (v:Bool):(arrB x).setIfInBounds i (.bool v)=arrB (x.set i v):=by
 simp [arrB,List.map_set]
theorem zero_left:(∀ w,(zeroValue 171).run Tryz.prog w=.ok (.agg (arrB noB)) w)∧(Tryz.prog.info? 171).map (·.size)=some 60 :=
 zero_of_info (by kernel_rfl)
theorem count_set (L:List Bool) (i:Nat) (hi:i<L.length) (h:atB L i=false):(L.set i true).count true=L.count true+1:=by
 induction L generalizing i with
 | nil=>simp at hi
 | cons x L ih =>
  cases i with
  | zero=>simp [atB] at h;subst h;simp
  | succ i =>
   simp only [List.set_cons_succ,List.count_cons]
   rw [ih i (by simpa using hi) (by simpa [atB] using h)]
   omega
def chainG (l:List Bnd):List Int→List Bool→Option Int→Int→Int × Bool
 | [],_,_,s=>(s,true)
 | i::r,L,q,s =>
  if 0≤i∧i≤l.length-1 then
   match l[i.toNat]? with
   | some b=>if atB L b.f.toNat || (match q with|some t=>decide (t≠b.f)|none=>false) then (0,false) else chainG l r (L.set b.f.toNat true) (some b.t) (s+b.m)
   | none=>(0,false)
  else (0,false)
def chainV (l:List Bnd) (x:List Int):Int × Bool:=chainG l x noB none 0
theorem drop_at {x:List Int} {k:Nat} {v:Int} (h:x[k]?=some v):x.drop k=v::x.drop (k+1):=by
 obtain ⟨h1,h2⟩:=List.getElem?_eq_some_iff.1 h
 rw [List.drop_eq_getElem_cons h1,h2]
theorem bdrewN {B:Nat} {a w:World} (h:Below B a w) (n:Nat):Below B a (w.drewN n):=h.trans ⟨rfl,rfl,rfl,Nat.le_refl _,fun _ _=>rfl⟩
def prev (l:List Bnd) (x:List Int):Nat→Option Int→Prop
 | 0,q=>q=none
 | k+1,q=>∃ j b,x[k]?=some (Int.ofNat j)∧l[j]?=some b∧q=some b.t
theorem chain_any (p:Int) (A B:Option Addr) (n c m d:Nat) (l:List Bnd) (x:List Int) (hn400:n≤402) (hok:OkB l) (w:World) (hr:RdB w A n c l) (hq:RdI w B m d x) (hm:m≤maxLen) :
 Calls Tryz.prog 74 #[.agg #[.int .i64 p,.slice A n c],.slice B m d] w fun e w'=>e=.returned (.tuple #[.int .i64 (chainV l x).1,.bool (chainV l x).2])∧Below w.heap.size w w':=by
 unfold maxLen at hm
 have hl:=hr.len
 have HR:=hid hr;have HQ:=hid hq;have HOK:=hid hok;clear hr hq hok
 unfold chainV
 generalize hV:chainG l x noB none 0=V at *
 have HV:=hid hV;clear hV
 have b0:=(Blk.new w 133 #[.int .i64 p,.slice A n c]).alloc (.cells (arrB noB) 171)
 have b1:=Blk.new (w.alloc (.cells #[.int .i64 p,.slice A n c] 133)) 171 (arrB noB)
 simp only [World.size_alloc] at b1
 have hB:Below w.heap.size w ((w.alloc (.cells #[.int .i64 p,.slice A n c] 133)).alloc (.cells (arrB noB) 171)):=((Below.refl _ w).alloc (Nat.le_refl _) _).alloc (by simp) _
 have B0:=hid b0;have B1:=hid b1;clear b0 b1
 go_enter Tryz.func74,Tryz.ntmps74
 go_wp2_with (first | (refine wpList_alloc_row rfl 171 rfl (arrB noB) zero_left.1 ?_;simp only [World.size_alloc]))
 go_loopw [13,7,8] (fun i s _ wr=>∃ (k:Nat) (L:List Bool) (q:Option Int) (z:Int),k≤m∧i=.int .i64 k∧s=.int .i64 z∧V=chainG l (x.drop k) L q z∧L.length=60∧L.count true=k∧prev l x k q∧-(k * 100000000)≤z∧z≤k * 100000000∧Blk wr w.heap.size 133 #[.int .i64 p,.slice A n c]∧Blk wr (w.heap.size+1) 171 (arrB L)∧Below w.heap.size w wr) (fun i _ _ _=>m-(intOf i).toNat)
 case atStart=>exact ⟨0,noB,none,0,Nat.zero_le _,rfl,rfl,by rw [HV.out.symm];rfl,rfl,rfl,rfl,by omega,by omega,B0.out,B1.out,hB⟩
 case round =>
  obtain ⟨k,L,q,z,hk,rfl,rfl,hc,hL,hcnt,hp,hz1,hz2,c0,c1,hb⟩:=hrel
  have hk60:k≤60:=by have:=List.count_le_length (a:=true) (l:=L);omega
  have C0:=hid c0;have C1:=hid c1;have HC:=hid hc;have HP:=hid hp;have HCNT:=hid hcnt;clear hc hp hcnt
  clear c0 c1
  by_cases hlt:k<m
  · obtain ⟨b2,o2,v,rfl,hbw2,hx,d0⟩:=(HQ.out.below hb).get hlt
    have HX:=hid hx;clear hx
    have hdrop:=drop_at HX.out
    rw [hdrop,chainG] at HC
    clear hdrop
    by_cases hr0:0≤v∧v≤(n:Int)-1
    · obtain ⟨v,rfl⟩:=Int.eq_ofNat_of_zero_le hr0.1
      have hvn:v<n:=by omega
      obtain ⟨bb,o,f,t,mm,i,rfl,hbw,hx,e0,e1,e2,e3⟩:=(HR.out.below hb).get hvn
      have hbd:=HOK.out _ (List.mem_of_getElem? hx)
      obtain ⟨hf0,hf1,ht0,ht1,hm0,hm1⟩:=hbd
      dsimp only at hf0 hf1 ht0 ht1 hm0 hm1
      obtain ⟨f,rfl⟩:=Int.eq_ofNat_of_zero_le hf0
      have hw:=fun w=>within_yes (v:Int) 0 ((n:Int)-1) w hr0
      rw [if_pos (by rw [hl];exact hr0),Int.toNat_natCast,hx] at HC
      dsimp only at HC
      simp only [Int.toNat_natCast] at HC
      have HW:=hid hw;have HXB:=hid hx;clear hw hx hr0
      have y0:wr.cell? ⟨w.heap.size,0,none⟩=some (.int .i64 p):=C0.out.cell 0
      have y1:wr.cell? ⟨w.heap.size,1,none⟩=some (.slice (some ⟨bb,o,none⟩) n c):=C0.out.cell 1
      have u0:wr.cell? ⟨w.heap.size+1,f,none⟩=some (.bool (atB L f)):=(C1.out.cell f).trans (arrB_get _ f (by omega))
      have u1:wr.frozen? ⟨w.heap.size+1,f,none⟩=false:=C1.out.frozen f
      have hz:=Blk.lt C1.out
      have hz0:=Blk.lt C0.out
      cases hL:atB L f
      · rw [hL] at u0
        have HL:=hid hL;clear hL
        have hset:=(C1.out.alloc (.cells #[.int .i64 (f:Int),.int .i64 t,.int .i64 mm,.int .i64 i] 50)).set_ f (.bool true)
        rw [arrB_set] at hset
        have HS:=hid hset;clear hset
        rw [HL.out,Bool.false_or] at HC
        cases k with
        | zero =>
         have hq0:q=none:=HP.out
         subst hq0
         rw [if_neg (by simp)] at HC
         rw [Nat.add_zero] at d0
         go_wp2_with (go_at_call 75;refine (HW.out _).mono ?_;rintro e w' ⟨rfl,rfl⟩)
         go_quiet (fail)
         go_wp2
         go_roundw
         case rel=>exact ⟨0+1,L.set f true,some t,z+mm,by omega,by go_num,rfl,HC.out,by simpa using hL,(by rw [count_set L f (by omega) HL.out,HCNT.out]),⟨v,_,HX.out,HXB.out,rfl⟩,by omega,by omega,((C0.out.alloc _).far (by simp) _),HS.out,(bdrewN (hb.alloc hb.size _) _).setCell (by simp) _⟩
         case measure=>simp [intOf];omega
        | succ k =>
         obtain ⟨j,b',hj,hb',rfl⟩:=HP.out
         dsimp only at HC
         obtain ⟨b3,o3,v3,hB3,hbw3,hx3,d3⟩:=(HQ.out.below hb).get (k:=k) (by omega)
         obtain ⟨bb4,o4,f4,t4,mm4,i4,hA4,hbw4,hx4,g0,g1,g2,g3⟩:=(HR.out.below hb).get (k:=j) (by have:=(List.getElem?_eq_some_iff.1 hb').1;omega)
         injection hB3 with hB3
         injection hB3 with e1 e2
         subst e1 e2
         injection hA4 with hA4
         injection hA4 with e1 e2
         subst e1 e2
         rw [hj] at hx3
         obtain rfl:(j:Int)=v3:=by injection hx3
         rw [hb'] at hx4
         injection hx4 with hx4
         subst hx4
         have hjn:j<n:=by have:=(List.getElem?_eq_some_iff.1 hb').1;omega
         clear hj hb'
         by_cases htf:t4=(f:Int)
         · have h9:(t4 != (f:Int))=false:=by simp [htf]
           rw [if_neg (by simp [htf])] at HC
           have HTF:=hid htf;clear htf
           go_wp2_with (go_at_call 75;refine (HW.out _).mono ?_;rintro e w' ⟨rfl,rfl⟩)
           go_quiet (fail)
           go_wp2
           go_roundw
           case rel=>exact ⟨k+1+1,L.set f true,some t,z+mm,by omega,by go_num,rfl,HC.out,by simpa using hL,(by rw [count_set L f (by omega) HL.out,HCNT.out]),⟨v,_,HX.out,HXB.out,rfl⟩,by omega,by omega,((C0.out.alloc _).far (by simp) _),HS.out,(bdrewN (hb.alloc hb.size _) _).setCell (by simp) _⟩
           case measure=>simp [intOf];omega
         · have h9:(t4 != (f:Int))=true:=by simpa using htf
           rw [if_pos (by simpa using htf)] at HC
           have HTF:=hid htf;clear htf
           go_wp2_with (go_at_call 75;refine (HW.out _).mono ?_;rintro e w' ⟨rfl,rfl⟩)
           go_quiet (fail)
           go_wp2
           go_ret2
           exact ⟨by rw [HC.out];rfl,bdrewN (hb.alloc hb.size _) _⟩
      · rw [hL] at u0
        have HL:=hid hL;clear hL
        rw [HL.out,Bool.true_or,if_pos rfl] at HC
        go_wp2_with (go_at_call 75;refine (HW.out _).mono ?_;rintro e w' ⟨rfl,rfl⟩)
        go_quiet (fail)
        go_wp2
        go_ret2
        exact ⟨by rw [HC.out];rfl,bdrewN (hb.alloc hb.size _) _⟩
    · have hw:=fun w=>within_no v 0 ((n:Int)-1) w hr0
      rw [if_neg (by rw [hl];exact hr0)] at HC
      have HW:=hid hw;clear hw hr0
      have y1:wr.cell? ⟨w.heap.size,1,none⟩=some (.slice A n c):=C0.out.cell 1
      go_wp2_with (go_at_call 75;refine (HW.out _).mono ?_;rintro e w' ⟨rfl,rfl⟩)
      go_ret2
      exact ⟨by rw [HC.out];rfl,hb⟩
  · obtain rfl:k=m:=by omega
    have hd:x.drop k=[]:=List.drop_of_length_le (by rw [HQ.out.len];exact Nat.le_refl _)
    rw [hd,chainG] at HC
    clear hd
    go_wp2
    go_ret2
    exact ⟨by rw [HC.out];rfl,hb⟩
end Go.Proofs.YtebkniakflhhkaaGreatDoor
/- CheckCircle of gauge. -/
namespace Go.Proofs.YtebkniakflhhkaaGreatDoor
open Go.Lib (hid)
open Go.RowKit
def bnd (l:List Bnd) (i:Int):Bnd:=l.getD i.toNat default
theorem bnd_at {l:List Bnd} {k:Nat} {b:Bnd} (h:l[k]?=some b):bnd l k=b:=by simp [bnd,h]
theorem at_of {x:List Int} {k:Nat} {v:Int} (h:x[k]?=some v):at_ x k=v:=by simp [at_,h]
theorem chainG_ok {l:List Bnd} {x:List Int} {L:List Bool} {q:Option Int} {s z:Int} (h:chainG l x L q s=(z,true)):∀ i∈x,∃ k b,i=Int.ofNat k∧l[k]?=some b:=by
 induction x generalizing L q s with
 | nil=>intro i hi;cases hi
 | cons i r ih =>
  rw [chainG] at h
  split at h
  · rename_i hr
    split at h
    · rename_i b hb
      have key:∀ L q s,chainG l r L q s=(z,true)→∀ j∈i::r,∃ k b,j=Int.ofNat k∧l[k]?=some b:=by
       intro L q s h j hj
       rcases List.mem_cons.1 hj with rfl|hj
       · exact ⟨j.toNat,b,(Int.toNat_of_nonneg hr.1).symm,hb⟩
       · exact ih h j hj
      repeat' split at h
      all_goals first|exact key _ _ _ h | (cases h;done)
    · cases h
  · cases h
def checkCircleV (p:Int) (l:List Bnd) (x:List Int):Bool × Int :=
 if gcode p l []=0 then
  (if (chainV l x).2=false then (false,0) else if x.length<2 then (false,0)
   else (decide ((bnd l (at_ x (x.length-1))).t=(bnd l (at_ x 0)).f)&&decide ((chainV l x).1<0),0))
 else (false,gcode p l [])
theorem CheckCircle_any (p:Int) (A B:Option Addr) (n c m d:Nat) (l:List Bnd) (x:List Int) (w:World) (hr:RdB w A n c l) (hn:n≤maxLen) (hq:RdI w B m d x) (hm:m≤maxLen) :
 Calls Tryz.prog 47 #[.agg #[.int .i64 p,.slice A n c],.slice B m d] w fun e w'=>e=.returned (.tuple #[.bool (checkCircleV p l x).1,.int .i64 (checkCircleV p l x).2])∧Below w.heap.size w w':=by
 have hB:Below w.heap.size w (w.alloc (.cells #[.int .i64 p,.slice A n c] 84)):=(Below.refl _ w).alloc (Nat.le_refl _) _
 have hc:=graphOf_any p A none n c 0 0 l [] _ (hr.below hB) hn (RdI.nil_ _) (by omega)
 have HC:=hid hc;have HR:=hid hr;have HQ:=hid hq;clear hc hr hq
 have hxl:=HQ.out.len
 unfold checkCircleV
 by_cases hg:gcode p l []=0
 · obtain ⟨hk,-⟩:=gcode_ok hg
   obtain ⟨hp1,hp2,hlen,-⟩:=chk_ok hk
   have hok:=okB_of hk
   rw [if_pos hg]
   rw [hg,sysR_yes] at HC
   clear hg hk
   have hn2:n≤402:=by have:=HR.out.len;omega
   have hch:=fun w' hw'=>chain_any p A B n c m d l x hn2 hok w' (HR.out.below hw') (HQ.out.below hw') hm
   have hval:(chainV l x).2=true→∀ i∈x,∃ k b,i=Int.ofNat k∧l[k]?=some b:=fun h=>chainG_ok (z:=(chainV l x).1) (by show chainV l x=_;rw [← h])
   unfold maxLen at hm
   generalize chainV l x=V at *
   obtain ⟨s,ok⟩:=V
   dsimp only at *
   have HCH:=hid hch;clear hch hok
   cases ok
   · rw [if_pos rfl]
     clear hval
     go_enter Tryz.func47,Tryz.ntmps47
     go_wp2_with fail
     refine HC.out.mono ?_
     rintro e w1 ⟨rfl,hb1⟩
     have hB1:=hB.trans (hb1.mono hB.size)
     go_wp2_with fail
     refine (HCH.out _ (hB1.alloc hB1.size _)).mono ?_
     rintro e w2 ⟨rfl,hb2⟩
     have hB2:=(hB1.alloc hB1.size (.cells #[.int .i64 p,.slice A n c] 133)).trans (hb2.mono (hB1.alloc hB1.size _).size)
     go_wp2
     go_ret2
     exact ⟨rfl,hB2⟩
   · rw [if_neg (by simp)]
     have HVAL:=hid (hval rfl);clear hval
     by_cases h2:m<2
     · rw [if_pos (by omega)]
       have h2':(m:Int)<2:=by omega
       go_enter Tryz.func47,Tryz.ntmps47
       go_wp2_with fail
       refine HC.out.mono ?_
       rintro e w1 ⟨rfl,hb1⟩
       have hB1:=hB.trans (hb1.mono hB.size)
       go_wp2_with fail
       refine (HCH.out _ (hB1.alloc hB1.size _)).mono ?_
       rintro e w2 ⟨rfl,hb2⟩
       have hB2:=(hB1.alloc hB1.size (.cells #[.int .i64 p,.slice A n c] 133)).trans (hb2.mono (hB1.alloc hB1.size _).size)
       go_wp2
       go_ret2
       exact ⟨rfl,hB2⟩
     · rw [if_neg (by omega)]
       obtain ⟨k,rfl⟩:∃ k,m=k+1:=⟨m-1,by omega⟩
       have h2':¬ (((k+1:Nat):Int)<2):=by omega
       rw [hxl,Nat.add_sub_cancel]
       obtain ⟨b1,o1,v1,rfl,hbw1,hx1,d1⟩:=HQ.out.get (k:=k) (by omega)
       obtain ⟨b2,o2,v2,hB2,hbw2,hx2,d2⟩:=HQ.out.get (k:=0) (by omega)
       injection hB2 with hB2
       injection hB2 with e1 e2
       subst e1 e2
       obtain ⟨j1,bb1,rfl,hj1⟩:=HVAL.out v1 (List.mem_of_getElem? hx1)
       obtain ⟨j2,bb2,rfl,hj2⟩:=HVAL.out v2 (List.mem_of_getElem? hx2)
       rw [at_of hx1,at_of hx2]
       simp only [Int.ofNat_eq_natCast,bnd_at hj1,bnd_at hj2] at *
       rw [Nat.add_zero] at d2
       have hj1n:j1<n:=by have:=(List.getElem?_eq_some_iff.1 hj1).1;have:=HR.out.len;omega
       have hj2n:j2<n:=by have:=(List.getElem?_eq_some_iff.1 hj2).1;have:=HR.out.len;omega
       obtain ⟨bb,o,f,t,mm,i,rfl,hbw,hx,e0,e1,e2,e3⟩:=HR.out.get hj1n
       obtain ⟨bb',o',f',t',mm',i',hA',hbw',hx',e0',e1',e2',e3'⟩:=HR.out.get hj2n
       injection hA' with hA'
       injection hA' with q1 q2
       subst q1 q2
       rw [hj1] at hx
       rw [hj2] at hx'
       injection hx with hx
       injection hx' with hx'
       subst hx hx'
       clear hx1 hx2 hj1 hj2
       dsimp only
       clear hbw'
       by_cases htf:t=f'
       · have h9:(t == f')=true:=by simpa using htf
         have HTF:=hid htf;clear htf
         go_enter Tryz.func47,Tryz.ntmps47
         go_wp2_with fail
         refine HC.out.mono ?_
         rintro e w1 ⟨rfl,hb1⟩
         have hB1:=hB.trans (hb1.mono hB.size)
         go_wp2_with fail
         refine (HCH.out _ (hB1.alloc hB1.size _)).mono ?_
         rintro e w2 ⟨rfl,hb2⟩
         have hB2:=(hB1.alloc hB1.size (.cells #[.int .i64 p,.slice (some ⟨bb,o,none⟩) n c] 133)).trans (hb2.mono (hB1.alloc hB1.size _).size)
         have cs:=(((Blk.new w 84 #[.int .i64 p,.slice (some ⟨bb,o,none⟩) n c]).keep hb1).alloc (.cells #[.int .i64 p,.slice (some ⟨bb,o,none⟩) n c] 133)).keep hb2
         have y1:w2.cell? ⟨w.heap.size,1,none⟩=some (.slice (some ⟨bb,o,none⟩) n c):=cs.cell 1
         clear cs
         replace d1:=(hB2.cell (p:=⟨_,_,none⟩) hbw1).trans d1
         replace d2:=(hB2.cell (p:=⟨_,_,none⟩) hbw1).trans d2
         replace e0:=(hB2.cell (p:=⟨_,_,none⟩) hbw).trans e0
         replace e1:=(hB2.cell (p:=⟨_,_,none⟩) hbw).trans e1
         replace e2:=(hB2.cell (p:=⟨_,_,none⟩) hbw).trans e2
         replace e3:=(hB2.cell (p:=⟨_,_,none⟩) hbw).trans e3
         replace e0':=(hB2.cell (p:=⟨_,_,none⟩) hbw).trans e0'
         replace e1':=(hB2.cell (p:=⟨_,_,none⟩) hbw).trans e1'
         replace e2':=(hB2.cell (p:=⟨_,_,none⟩) hbw).trans e2'
         replace e3':=(hB2.cell (p:=⟨_,_,none⟩) hbw).trans e3'
         go_wp2_with fail
         go_quiet (fail)
         go_wp2
         go_ret2
         exact ⟨by simp [HTF.out],bdrewN hB2 _⟩
       · have h9:(t == f')=false:=by simpa using htf
         have HTF:=hid htf;clear htf
         go_enter Tryz.func47,Tryz.ntmps47
         go_wp2_with fail
         refine HC.out.mono ?_
         rintro e w1 ⟨rfl,hb1⟩
         have hB1:=hB.trans (hb1.mono hB.size)
         go_wp2_with fail
         refine (HCH.out _ (hB1.alloc hB1.size _)).mono ?_
         rintro e w2 ⟨rfl,hb2⟩
         have hB2:=(hB1.alloc hB1.size (.cells #[.int .i64 p,.slice (some ⟨bb,o,none⟩) n c] 133)).trans (hb2.mono (hB1.alloc hB1.size _).size)
         have cs:=(((Blk.new w 84 #[.int .i64 p,.slice (some ⟨bb,o,none⟩) n c]).keep hb1).alloc (.cells #[.int .i64 p,.slice (some ⟨bb,o,none⟩) n c] 133)).keep hb2
         have y1:w2.cell? ⟨w.heap.size,1,none⟩=some (.slice (some ⟨bb,o,none⟩) n c):=cs.cell 1
         clear cs
         replace d1:=(hB2.cell (p:=⟨_,_,none⟩) hbw1).trans d1
         replace d2:=(hB2.cell (p:=⟨_,_,none⟩) hbw1).trans d2
         replace e0:=(hB2.cell (p:=⟨_,_,none⟩) hbw).trans e0
         replace e1:=(hB2.cell (p:=⟨_,_,none⟩) hbw).trans e1
         replace e2:=(hB2.cell (p:=⟨_,_,none⟩) hbw).trans e2
         replace e3:=(hB2.cell (p:=⟨_,_,none⟩) hbw).trans e3
         replace e0':=(hB2.cell (p:=⟨_,_,none⟩) hbw).trans e0'
         replace e1':=(hB2.cell (p:=⟨_,_,none⟩) hbw).trans e1'
         replace e2':=(hB2.cell (p:=⟨_,_,none⟩) hbw).trans e2'
         replace e3':=(hB2.cell (p:=⟨_,_,none⟩) hbw).trans e3'
         go_wp2_with fail
         go_quiet (fail)
         go_wp2
         go_ret2
         exact ⟨by simp [HTF.out],bdrewN hB2 _⟩
 · rw [if_neg hg]
   generalize gcode p l []=q at *
   rw [sysR_no hg] at HC
   have hne:(q != 0)=true:=by simpa using hg
   clear hg
   go_enter Tryz.func47,Tryz.ntmps47
   go_wp2_with fail
   refine HC.out.mono ?_
   rintro e w1 ⟨rfl,hb1⟩
   have hB1:=hB.trans (hb1.mono hB.size)
   go_wp2
   go_ret2
   exact ⟨rfl,(by have hsz_:=Below.size hB1;repeat' (first|with_reducible exact hB1|with_reducible exact Below.refl _ _|with_reducible refine Below.alloc ?_ ?_ _|with_reducible refine Below.setCell ?_ ?_ _|with_reducible refine Below.drew ?_|with_reducible refine below_setRow ?_ ?_ _|omega | (simp;done) | (simp;omega)))⟩
end Go.Proofs.YtebkniakflhhkaaGreatDoor
/- CheckPath of gauge. -/
namespace Go.Proofs.YtebkniakflhhkaaGreatDoor
open Go.Lib (hid)
open Go.RowKit
end Go.Proofs.YtebkniakflhhkaaGreatDoor
