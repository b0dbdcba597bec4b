import Derived.Test.YtokpblmgdmokoaaGreatAVAny
import Derived.Test.YtokpblmgdmokoaaGreatAVSrt
import Derived.Test.YtokpblmgdmokoaaGreatBVRe
set_option maxHeartbeats 4000000
set_option linter.unusedSimpArgs false
set_option linter.unusedVariables false
namespace Go.Proofs.YtokpblmgdmokoaaGreat
open Go.Lib (hid)
open Go.RowKit Go.Maps
set_option maxRecDepth 100000 in
theorem anyTwo_clash (ware:ByteArray) (lim by_:Int) (A:Option Addr) (n k:Nat) (ps:List Prt) (g:Nat) (B:Option Addr) (m d:Nat) (l:List Int) (w:World) (hv:Vw w g ware lim by_ A n k ps) (hl:RdI w B m d l) (hm:m≤maxLen) (hin:∀ x∈l,∃ a:Nat,x=a∧a<n):Calls Tryz.prog 84 #[.slice B m d,.func (.func 68) #[.pointer (some ⟨g,0,none⟩)] #[]] w fun e w'=>e=.returned (.bool (anyN (clB ps) l m))∧w=w':=by
 have HIN:=hid hin;have HL:=hid hl;have HV0:=hid hv;clear hin hl hv
 have hmn:=hm;unfold maxLen at hmn
 go_enter Tryz.func84,Tryz.ntmps84
 go_wp2
 go_loopw [11] (fun i wr=>∃ q:Nat,q≤m∧i=.int .i64 q∧anyN (clB ps) l q=false∧w=wr) (fun i _=>m-(intOf i).toNat)
 case atStart=>exact ⟨0,Nat.zero_le _,rfl,rfl,rfl⟩
 case round =>
  obtain ⟨q,hq,rfl,hany,rfl⟩:=hrel
  have HANY:=hid hany;clear hany
  by_cases hlt:q<m
  · have hlt':(q:Int)<m:=by omega
    obtain ⟨b9,o9,v,rfl,hb9,hv,e0⟩:=RdI.get HL.out hlt
    obtain ⟨i,rfl,hi⟩:=HIN.out v (List.mem_of_getElem? hv)
    have HV:=hid (show l.getD q 0=(i:Int) by rw [List.getD_eq_getElem?_getD,hv];rfl);clear hv
    have hcap:=HL.out.cap
    have hsl:=head_sliceV b9 o9 m d q (by omega)
    go_wp2
    clear e0 hsl
    go_loopw [20] (fun i wr=>∃ r:Nat,r≤q∧i=.int .i64 r∧rowN (clB ps) l q r=false∧w=wr) (fun i _=>q-(intOf i).toNat)
    case atStart=>exact ⟨0,Nat.zero_le _,rfl,rfl,rfl⟩
    case round =>
     obtain ⟨r,hr,rfl,hrow,rfl⟩:=hrel
     have HROW:=hid hrow;clear hrow
     by_cases hrt:r<q
     · have hrt':(r:Int)<q:=by omega
       have hrm:r<m:=by omega
       obtain ⟨b8,o8,v2,hA,hb8,hv2,e1⟩:=RdI.get HL.out hrm
       injection hA with hA;injection hA with hA1 hA2;subst hA1 hA2
       obtain ⟨i2,rfl,hi2⟩:=HIN.out v2 (List.mem_of_getElem? hv2)
       have HV2:=hid (show l.getD r 0=(i2:Int) by rw [List.getD_eq_getElem?_getD,hv2];rfl);clear hv2
       cases hcl:clN ps i i2
       · have HCL:=hid hcl;clear hcl
         have HF:=hid (show (clB ps) (l.getD q 0) (l.getD r 0)=false by rw [HV.out,HV2.out];(try dsimp only);rw [clB_nat,HCL.out])
         have HC:=hid ((by have h:=clash_any HV0.out hi hi2;rw [HCL.out] at h;exact h))
         go_wp2_with fail
         refine HC.out.mono ?_
         rintro e _ ⟨rfl,rfl⟩
         clear HC
         go_wp2
         go_roundw
         case rel=>exact ⟨r+1,by omega,by go_num,by rw [rowN_succ,HROW.out,HF.out];rfl,by trivial⟩
         case measure=>simp [intOf];omega
       · have HCL:=hid hcl;clear hcl
         have HF:=hid (show (clB ps) (l.getD q 0) (l.getD r 0)=true by rw [HV.out,HV2.out];(try dsimp only);rw [clB_nat,HCL.out])
         have HC:=hid ((by have h:=clash_any HV0.out hi hi2;rw [HCL.out] at h;exact h))
         go_wp2_with fail
         refine HC.out.mono ?_
         rintro e _ ⟨rfl,rfl⟩
         clear HC
         go_wp2
         go_ret
         exact ⟨ret_bool (by rw [anyN_hit hlt hrt HF.out]),rfl⟩
     · obtain rfl:r=q:=by omega
       go_wp2
       go_roundw
       case rel=>exact ⟨r+1,by omega,by go_num,by rw [anyN_succ,HANY.out,HROW.out];rfl,by trivial⟩
       case measure=>simp [intOf];omega
  · obtain rfl:q=m:=by omega
    go_wp2
    go_ret
    exact ⟨ret_bool (by rw [HANY.out]),rfl⟩
theorem keeps_down {zs:List Int} {j:Nat} (hj:j<zs.length):∃ i,i<zs.length∧Lib.keeps zs.toArray i=true∧zs.toArray[i]! = zs.toArray[j]!:=by
 induction j with
 | zero=>exact ⟨0,hj,Lib.keeps_lt_one _ 0 (by omega),rfl⟩
 | succ j ih =>
  by_cases h:zs.toArray[j+1]! = zs.toArray[j]!
  · obtain ⟨i,h1,h2,h3⟩:=ih (by omega)
    exact ⟨i,h1,h2,by rw [h3,h]⟩
  · exact ⟨j+1,hj,Lib.keeps_pos (by simpa using h),rfl⟩
theorem mem_compact {zs:List Int} {x:Int}:x∈Lib.compact zs ↔ x∈zs:=by
 unfold Lib.compact Lib.compactUpTo
 simp only [List.mem_map,List.mem_filter,List.mem_range]
 constructor
 · rintro ⟨i,⟨hi,-⟩,rfl⟩
   rw [getElem!_pos _ i (by simpa using hi)]
   simp
 · intro hx
   obtain ⟨j,hj,rfl⟩:=List.getElem_of_mem hx
   obtain ⟨i,h1,h2,h3⟩:=keeps_down hj
   refine ⟨i,⟨h1,h2⟩,?_⟩
   rw [h3,getElem!_pos _ j (by simpa using hj)]
   simp
theorem mem_uniL {a b:List Int} {x:Int}:x∈uniL a b ↔ x∈a∨x∈b:=by
 unfold uniL
 rw [mem_compact,List.mem_mergeSort,List.mem_append]
theorem rdI_nilV (w:World):RdI w none 0 0 []:=⟨rfl,Nat.le_refl _,fun _=>⟨rfl,rfl⟩,.inl rfl⟩
set_option maxRecDepth 100000 in
theorem One_no (ware:ByteArray) (lim by_:Int) (A:Option Addr) (n k:Nat) (ps:List Prt) (B:Option Addr) (m d:Nat) (l:List Int) (w:World) (hr:RdP w A n k ps) (hl:RdI w B m d l) (hn:n≤maxLen) (hm:m≤maxLen) (q:Int) (hq:askP ⟨ware,lim,by_,ps⟩ l=q) (hne:q≠0):Calls Tryz.prog 32 #[.agg #[.string ware,.int .i64 lim,.int .i64 by_,.slice A n k],.slice B m d] w fun e w'=>e=.returned (.tuple #[.bool false,.int .i64 q])∧Below w.heap.size w w':=by
 have HQ:=hid hq;clear hq
 go_enter Tryz.func32,Tryz.ntmps32
 obtain ⟨a1,a0⟩:=ent1 w #[.string ware,.int .i64 lim,.int .i64 by_,.slice A n k] 24
 have a3:=hid (RdP.below (hr) a0.out)
 have a4:=iI hl a0
 clear hr hl
 obtain ⟨a5,a6,a7,a8⟩:=at4 a1
 have hc:=viewOf_no ware lim by_ A n k ps B m d l ((w.alloc (.cells #[.string ware,.int .i64 lim,.int .i64 by_,.slice A n k] 24))) a3.out a4.out hn hm q HQ.out hne
 have HC:=hid hc;clear hc
 go_wp2_with fail
 refine HC.out.mono ?_
 rintro e b3 ⟨rfl,hb⟩
 clear HC
 clear a5 a6 a7 a8
 have a2:=hid hb
 clear hb
 replace a1:=kH a1 a2
 obtain ⟨a9,b0,b1,b2⟩:=at4 a1
 go_wp2
 go_ret2
 replace a0:=bH a0 a2
 exact ⟨rfl,a0.out⟩
set_option maxRecDepth 100000 in
theorem One_yes (ware:ByteArray) (lim by_:Int) (A:Option Addr) (n k:Nat) (ps:List Prt) (B:Option Addr) (m d:Nat) (l:List Int) (w:World) (hr:RdP w A n k ps) (hl:RdI w B m d l) (hn:n≤maxLen) (hm:m≤maxLen) (hsm:m≤100000) (hq:askP ⟨ware,lim,by_,ps⟩ l=0):Calls Tryz.prog 32 #[.agg #[.string ware,.int .i64 lim,.int .i64 by_,.slice A n k],.slice B m d] w fun e w'=>e=.returned (.tuple #[.bool (!anyN (clB ps) (uniL l []) (uniL l []).length),.int .i64 0])∧Below w.heap.size w w':=by
 have HIN:=hid (show ∀ x∈uniL l [],∃ a:Nat,x=a∧a<n from fun x hx=>askP_all hq (show (Cse.mk ware lim by_ ps).ps.length=n from hr.len) x (by simpa using mem_uniL.1 hx))
 have HQ:=hid hq;clear hq
 go_enter Tryz.func32,Tryz.ntmps32
 obtain ⟨a1,a0⟩:=ent1 w #[.string ware,.int .i64 lim,.int .i64 by_,.slice A n k] 24
 have a5:=hid (RdP.below (hr) a0.out)
 have a2:=iI hl a0
 clear hr hl
 obtain ⟨b0,b1,b2,b3⟩:=at4 a1
 have hc:=viewOf_yes ware lim by_ A n k ps B m d l ((w.alloc (.cells #[.string ware,.int .i64 lim,.int .i64 by_,.slice A n k] 24))) a5.out a2.out hn hm HQ.out
 have HC:=hid hc;clear hc
 go_wp2_with fail
 refine HC.out.mono ?_
 rintro e b4 ⟨⟨g,rfl,hvw⟩,hb⟩
 have HVW:=hid hvw;clear hvw
 clear HC
 clear b0 b1 b2 b3
 have a3:=hid hb
 clear hb
 replace a1:=kH a1 a3
 obtain ⟨a6,a7,a8,a9⟩:=at4 a1
 replace a2:=iH a2 a3
 have HC:=hid (united_any B none m d 0 0 l [] (b4) a2.out (rdI_nilV _) (by omega))
 go_wp2_with fail
 refine HC.out.mono ?_
 rintro e w9 ⟨R,r,k9,rfl,ho,hb⟩
 clear a6 a7 a8 a9
 clear HC
 have a4:=hid hb
 clear hb
 obtain ⟨hrd,hmx⟩:=OwnI.rd ho
 have hrk:=Nat.le_trans hrd.cap hmx
 have HRD:=hid hrd;have HLN:=hid hrd.len;clear hrd ho hmx
 replace HVW:=hid (Vw.keep (HVW.out) a4.out)
 have HC:=hid (anyTwo_clash ware lim by_ A n k ps g R r k9 (uniL l []) w9 HVW.out HRD.out hrk HIN.out)
 go_wp2_with fail
 refine HC.out.mono ?_
 rintro e _ ⟨rfl,rfl⟩
 clear HC
 go_wp2
 go_ret2
 replace a0:=bH (bH a0 a3) a4
 exact ⟨by rw [HLN.out];rfl,a0.out⟩
end Go.Proofs.YtokpblmgdmokoaaGreat
namespace Go.Proofs.YtokpblmgdmokoaaGreat
open Go.Lib (hid)
theorem clB_self (ps:List Prt) (x:Int):clB ps x x=false:=by simp [clB]
theorem apB_comm (p q:Prt):apB p q=apB q p:=by
 unfold apB
 cases p.ft<;>cases q.ft<;>simp [Bool.or_comm]
theorem clB_comm (ps:List Prt) (x y:Int):clB ps x y=clB ps y x:=by
 unfold clB
 rw [apB_comm,show decide (x≠y)=decide (y≠x) from decide_eq_decide.2 ⟨Ne.symm,Ne.symm⟩]
theorem noCl_iff {ps:List Prt} {l:List Int}:NoCl ps l ↔ ∀ x∈l,∀ y∈l,clB ps x y=false:=by
 constructor
 · intro h x hx y hy
   obtain ⟨i,hi⟩:=List.getElem?_of_mem hx
   obtain ⟨j,hj⟩:=List.getElem?_of_mem hy
   rcases Nat.lt_trichotomy i j with hij|rfl|hij
   · rw [clB_comm];exact h j i y x hij hj hi
   · rw [hi] at hj;injection hj with hj;subst hj;exact clB_self ps x
   · exact h i j x y hij hi hj
 · intro h i j x y _ hx hy
   exact h x (List.mem_of_getElem? hx) y (List.mem_of_getElem? hy)
theorem getD_mem {l:List Int} {i:Nat} (h:i<l.length):l.getD i 0∈l:=by
 rw [List.getD_eq_getElem?_getD,List.getElem?_eq_getElem h];exact List.getElem_mem h
theorem anyN_false {f:Int→Int→Bool} {l:List Int}:anyN f l l.length=false ↔ ∀ i j,i<l.length→j<i→f (l.getD i 0) (l.getD j 0)=false:=by
 constructor
 · intro h i j hi hj
   cases hf:f (l.getD i 0) (l.getD j 0)
   · rfl
   · rw [anyN_hit hi hj hf] at h;exact h
 · intro h
   unfold anyN
   rw [List.any_eq_false]
   intro i hi
   unfold rowN
   rw [Bool.not_eq_true,List.any_eq_false]
   intro j hj
   rw [Bool.not_eq_true]
   exact h i j (List.mem_range.1 hi) (List.mem_range.1 hj)
theorem noCl_any {ps:List Prt} {l:List Int}:anyN (clB ps) l l.length=false ↔ NoCl ps l:=by
 rw [anyN_false]
 constructor
 · intro h i j x y hji hx hy
   obtain ⟨hi,rfl⟩:=List.getElem?_eq_some_iff.1 hx
   have:=h i j hi hji
   rwa [List.getD_eq_getElem?_getD,hx,List.getD_eq_getElem?_getD,hy] at this
 · intro h i j hi hj
   exact noCl_iff.1 h _ (getD_mem hi) _ (getD_mem (Nat.lt_trans hj hi))
theorem one_iff {ps:List Prt} {l:List Int}:(!anyN (clB ps) (uniL l []) (uniL l []).length)=true ↔ NoCl ps l:=by
 rw [Bool.not_eq_true',noCl_any,noCl_iff,noCl_iff]
 have h:∀ x,x∈uniL l [] ↔ x∈l:=fun x=>by rw [mem_uniL];simp
 simp only [h]
theorem fold_lo (ps:List Prt) (l:List Int) (r:Rng):let q:=l.foldl (fun r i=>meetR r (ptA ps i)) r
 r.lo≤q.lo∧q.hi≤r.hi∧(∀ x∈l,(ptA ps x).lo≤q.lo∧q.hi≤(ptA ps x).hi)∧(q.lo=r.lo∨∃ x∈l,q.lo=(ptA ps x).lo)∧(q.hi=r.hi∨∃ x∈l,q.hi=(ptA ps x).hi):=by
 induction l generalizing r with
 | nil=>simp
 | cons a l ih =>
  obtain ⟨h1,h2,h3,h4,h5⟩:=ih (meetR r (ptA ps a))
  have m1:r.lo≤(meetR r (ptA ps a)).lo∧(ptA ps a).lo≤(meetR r (ptA ps a)).lo∧((meetR r (ptA ps a)).lo=r.lo∨(meetR r (ptA ps a)).lo=(ptA ps a).lo):=by
   unfold meetR;dsimp only;split<;>omega
  have m2:(meetR r (ptA ps a)).hi≤r.hi∧(meetR r (ptA ps a)).hi≤(ptA ps a).hi∧((meetR r (ptA ps a)).hi=r.hi∨(meetR r (ptA ps a)).hi=(ptA ps a).hi):=by
   unfold meetR;dsimp only;split<;>omega
  rw [List.foldl_cons]
  refine ⟨Int.le_trans m1.1 h1,Int.le_trans h2 m2.1,?_,?_,?_⟩
  · intro x hx
    rcases List.mem_cons.1 hx with rfl|hx
    · exact ⟨Int.le_trans m1.2.1 h1,Int.le_trans h2 m2.2.1⟩
    · exact h3 x hx
  · rcases h4 with h4|⟨x,hx,h4⟩
    · rcases m1.2.2 with m|m
      · exact .inl (h4.trans m)
      · exact .inr ⟨a,List.mem_cons_self,h4.trans m⟩
    · exact .inr ⟨x,List.mem_cons_of_mem _ hx,h4⟩
  · rcases h5 with h5|⟨x,hx,h5⟩
    · rcases m2.2.2 with m|m
      · exact .inl (h5.trans m)
      · exact .inr ⟨a,List.mem_cons_self,h5.trans m⟩
    · exact .inr ⟨x,List.mem_cons_of_mem _ hx,h5⟩
theorem com_le {ps:List Prt} {l:List Int} (h:∀ x∈l,0≤(ptA ps x).lo∧(ptA ps x).lo≤(ptA ps x).hi∧(ptA ps x).hi≤1000):(comR ps l).lo≤(comR ps l).hi ↔ ∀ x∈l,∀ y∈l,(ptA ps x).lo≤(ptA ps y).hi:=by
 obtain ⟨h1,h2,h3,h4,h5⟩:=fold_lo ps l ⟨0,1000⟩
 change (0:Int)≤(comR ps l).lo at h1
 change (comR ps l).hi≤1000 at h2
 change ∀ x∈l,(ptA ps x).lo≤(comR ps l).lo∧(comR ps l).hi≤(ptA ps x).hi at h3
 change (comR ps l).lo=0∨∃ x∈l,(comR ps l).lo=(ptA ps x).lo at h4
 change (comR ps l).hi=1000∨∃ x∈l,(comR ps l).hi=(ptA ps x).hi at h5
 constructor
 · intro hle x hx y hy
   have:=(h3 x hx).1
   have:=(h3 y hy).2
   omega
 · intro hall
   rcases h4 with h4|⟨x,hx,h4⟩<;>rcases h5 with h5|⟨y,hy,h5⟩
   · omega
   · have:=h y hy;omega
   · have:=h x hx;omega
   · have:=hall x hx y hy;omega
def ffB (ps:List Prt) (l:List Int) (i:Nat):Bool:=decide (l.getD i 0 ∉ l.take i)&&(ptA ps (l.getD i 0)).ft
def feetN (ps:List Prt) (l:List Int) (q:Nat):Nat:=((List.range q).filter (ffB ps l)).length
theorem feetN_yes {ps:List Prt} {l:List Int} {q:Nat} (h:ffB ps l q=true):feetN ps l (q+1)=feetN ps l q+1:=by
 unfold feetN;rw [List.range_succ,List.filter_append,List.length_append];simp [h]
theorem feetN_no {ps:List Prt} {l:List Int} {q:Nat} (h:ffB ps l q=false):feetN ps l (q+1)=feetN ps l q:=by
 unfold feetN;rw [List.range_succ,List.filter_append,List.length_append];simp [h]
theorem feetN_le (ps:List Prt) (l:List Int) (q:Nat):feetN ps l q≤q:=by
 unfold feetN;have:=List.length_filter_le (ffB ps l) (List.range q);rwa [List.length_range] at this
theorem first_at {l:List Int} {x:Int} (h:x∈l):∃ i,i<l.length∧l.getD i 0=x∧x ∉ l.take i:=by
 induction l with
 | nil=>simp at h
 | cons a l ih =>
  by_cases hx:x=a
  · exact ⟨0,by simp,by simp [hx],by simp⟩
  · obtain ⟨i,h1,h2,h3⟩:=ih (by simpa [hx] using h)
    exact ⟨i+1,by simpa using h1,by simpa using h2,by simp [hx,h3]⟩
theorem feet_one {ps:List Prt} {l:List Int}:feetN ps l l.length≤1 ↔ ∀ x∈l,∀ y∈l,(ptA ps x).ft=true→(ptA ps y).ft=true→x=y:=by
 constructor
 · intro h x hx y hy fx fy
   obtain ⟨i,hi,ex,ni⟩:=first_at hx
   obtain ⟨j,hj,ey,nj⟩:=first_at hy
   have mi:i∈(List.range l.length).filter (ffB ps l):=List.mem_filter.2 ⟨List.mem_range.2 hi,by unfold ffB;rw [ex];simp [ni,fx]⟩
   have mj:j∈(List.range l.length).filter (ffB ps l):=List.mem_filter.2 ⟨List.mem_range.2 hj,by unfold ffB;rw [ey];simp [nj,fy]⟩
   unfold feetN at h
   generalize (List.range l.length).filter (ffB ps l)=L at h mi mj
   match L,h with
   | [],_=>simp at mi
   | [a],_ =>
    obtain rfl:=List.mem_singleton.1 mi
    obtain rfl:=List.mem_singleton.1 mj
    rw [← ex,← ey]
   | _::_::_,h=>simp at h
 · intro h
   have hp:((List.range l.length).filter (ffB ps l)).Pairwise (· < ·):=List.pairwise_lt_range.filter _
   have hm:∀ i∈(List.range l.length).filter (ffB ps l),i<l.length∧l.getD i 0 ∉ l.take i∧(ptA ps (l.getD i 0)).ft=true:=by
    intro i hi
    obtain ⟨h1,h2⟩:=List.mem_filter.1 hi
    unfold ffB at h2
    rw [Bool.and_eq_true,decide_eq_true_eq] at h2
    exact ⟨List.mem_range.1 h1,h2⟩
   unfold feetN
   generalize (List.range l.length).filter (ffB ps l)=L at hp hm
   match L,hp,hm with
   | [],_,_=>simp
   | [a],_,_=>simp
   | a::b::L,hp,hm =>
    exfalso
    obtain ⟨a1,-,a3⟩:=hm a (by simp)
    obtain ⟨b1,b2,b3⟩:=hm b (by simp)
    have hab:a<b:=(List.pairwise_cons.1 hp).1 b (by simp)
    have e:=h _ (getD_mem a1) _ (getD_mem b1) a3 b3
    refine b2 ?_
    rw [← e]
    have:(l.take b)[a]?=some (l.getD a 0):=by
     rw [List.getElem?_take_of_lt hab,List.getD_eq_getElem?_getD,List.getElem?_eq_getElem a1];rfl
    exact List.mem_of_getElem? this
theorem ptA_mem {ps:List Prt} {a:Nat} (h:a<ps.length):ptA ps (a:Int)∈ps:=by
 rw [ptA_at (List.getElem?_eq_getElem h)];exact List.getElem_mem h
theorem commons_eq {c:Cse} {l:List Int} {n:Nat} (h:askP c l=0) (hn:c.ps.length=n):NoCl c.ps l ↔ ((comR c.ps l).lo≤(comR c.ps l).hi∧feetN c.ps l l.length≤1):=by
 have hv:∀ x∈l,0≤(ptA c.ps x).lo∧(ptA c.ps x).lo≤(ptA c.ps x).hi∧(ptA c.ps x).hi≤1000:=by
  intro x hx
  obtain ⟨a,rfl,ha⟩:=askP_all h hn x hx
  obtain ⟨-,-,-,-,-,hp,-⟩:=chkC_ok (askP_ok h).1
  obtain ⟨-,-,-,h1,h2,h3,-⟩:=prtB_ok (hp _ (ptA_mem (show a<c.ps.length by omega)))
  exact ⟨h1,h2,h3⟩
 rw [noCl_iff,com_le hv,feet_one]
 constructor
 · intro hc
   refine ⟨fun x hx y hy=>?_,fun x hx y hy fx fy=>?_⟩
   · by_cases e:x=y
     · subst e;exact (hv x hx).2.1
     · have:=hc x hx y hy
       unfold clB apB at this
       rw [decide_eq_true e,Bool.true_and,Bool.or_eq_false_iff,Bool.or_eq_false_iff,decide_eq_false_iff_not,decide_eq_false_iff_not] at this
       omega
   · by_cases e:x=y
     · exact e
     · have:=hc x hx y hy
       unfold clB apB at this
       rw [decide_eq_true e,fx,fy] at this
       simp at this
 · rintro ⟨h1,h2⟩ x hx y hy
   by_cases e:x=y
   · subst e;exact clB_self _ x
   · unfold clB apB
     rw [decide_eq_true e,Bool.true_and,Bool.or_eq_false_iff,Bool.or_eq_false_iff,decide_eq_false_iff_not,decide_eq_false_iff_not]
     have a1:=h1 x hx y hy
     have a2:=h1 y hy x hx
     refine ⟨⟨?_,by omega⟩,by omega⟩
     cases fx:(ptA c.ps x).ft<;>cases fy:(ptA c.ps y).ft<;>try rfl
     exact absurd (h2 x hx y hy fx fy) e
end Go.Proofs.YtokpblmgdmokoaaGreat
