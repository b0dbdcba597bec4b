import Derived.Test.YtokpblmgdmokoaaGreatAVOf
set_option maxHeartbeats 4000000
set_option linter.unusedSimpArgs false
set_option linter.unusedVariables false
namespace Go.Proofs.YtokpblmgdmokoaaGreat
open Go.Lib (hid)
open Go.RowKit Go.Maps
section
variable {w:World} {g:Nat} {ware:ByteArray} {lim by_:Int} {A:Option Addr} {n k:Nat} {ps:List Prt}
set_option maxRecDepth 100000 in
theorem clash_any (hv:Vw w g ware lim by_ A n k ps) {a b:Nat} (ha:a<n) (hb:b<n):Calls Tryz.prog 68 #[.pointer (some ⟨g,0,none⟩),.int .i64 a,.int .i64 b] w fun e w'=>e=.returned (.bool (clN ps a b))∧w=w':=by
 have h40:=hv.len;have hc:=hv.cl ha hb;have hl:=hv.lt;clear hv
 have ha4:(a:Int)<40:=by omega
 have hb4:(b:Int)<40:=by omega
 go_enter Tryz.func68,Tryz.ntmps68
 go_wp2
 go_ret
 exact ⟨rfl,rfl⟩
set_option maxRecDepth 100000 in
theorem agree_any (hv:Vw w g ware lim by_ A n k ps) {a b:Nat} (ha:a<n) (hb:b<n):Calls Tryz.prog 116 #[.pointer (some ⟨g,0,none⟩),.int .i64 a,.int .i64 b] w fun e w'=>e=.returned (.bool (!clN ps a b))∧w=w':=by
 have h40:=hv.len;have hc:=hv.cl ha hb;have hl:=hv.lt;clear hv
 have ha4:(a:Int)<40:=by omega
 have hb4:(b:Int)<40:=by omega
 go_enter Tryz.func116,Tryz.ntmps116
 go_wp2
 go_ret
 exact ⟨rfl,rfl⟩
end
theorem rdI_newW (w:World) (L:List Int) (n:Nat) (hn:L.length=n):RdI (w.alloc (.cells (arr L) 3)) (some ⟨w.heap.size,0,none⟩) n n L:=by
 refine ⟨hn,Nat.le_refl _,(fun h=>by cases h),.inr ⟨w.heap.size,0,rfl,by simp,fun j u hu=>?_⟩⟩
 rw [Nat.zero_add,(Blk.new w 3 (arr L)).cell j]
 simpa [arr] using hu
theorem clB_nat (ps:List Prt) (a b:Nat):clB ps a b=clN ps a b:=by
 have e:decide ((a:Int)≠(b:Int))=decide (a≠b):=by congr 1;exact propext (by omega)
 unfold clB clN ptA
 rw [e]
 rfl
theorem rdI2 (w:World) (a b:Int):RdI (w.alloc (.cells #[.int .i64 a,.int .i64 b] 3)) (some ⟨w.heap.size,0,none⟩) 2 2 [a,b]  :=rdI_newW w [a,b] 2 rfl
set_option maxRecDepth 100000 in
theorem vot_ok (ware:ByteArray) (lim by_:Int) (A:Option Addr) (n k:Nat) (ps:List Prt) (a b:Int) (w:World) (hr:RdP w A n k ps) (hn:n≤maxLen) (hq:askP ⟨ware,lim,by_,ps⟩ [a,b]=0) (hab:¬ a=b):Calls Tryz.prog 86 #[.agg #[.string ware,.int .i64 lim,.int .i64 by_,.slice A n k],.int .i64 a,.int .i64 b] w fun e w'=>(∃ g,e=.returned (.tuple #[.pointer (some ⟨g,0,none⟩),.int .i64 0])∧Vw w' g ware lim by_ A n k ps)∧Below w.heap.size w w':=by
 have HQ:=hid hq;clear hq
 go_enter Tryz.func86,Tryz.ntmps86
 obtain ⟨a1,a0⟩:=ent1 w #[.string ware,.int .i64 lim,.int .i64 by_,.slice A n k] 24
 have a2:=hid (RdP.below (hr) a0.out)
 clear hr
 obtain ⟨a8,a9,b0,b1⟩:=at4 a1
 clear a8 a9 b0 b1
 have nb_:=rdI2 ((w.alloc (.cells #[.string ware,.int .i64 lim,.int .i64 by_,.slice A n k] 24))) a b
 simp only [World.size_alloc] at nb_
 obtain ⟨o_,ho_⟩:∃ o,o=((.cells #[.int .i64 a,.int .i64 b] 3):Obj):=⟨_,rfl⟩
 replace a0:=bA a0 o_
 replace a2:=hid (RdP.alloc (a2.out) (o_))
 replace a1:=kA a1 o_
 subst ho_
 have a4:=hid nb_;clear nb_
 obtain ⟨b2,a5,a6,a7⟩:=at4 a1
 have hc:=viewOf_yes ware lim by_ A n k ps (some ⟨w.heap.size+1,0,none⟩) 2 2 [a,b] (((w.alloc (.cells #[.string ware,.int .i64 lim,.int .i64 by_,.slice A n k] 24)).alloc (.cells #[.int .i64 a,.int .i64 b] 3))) a2.out a4.out hn (by unfold maxLen;omega) HQ.out
 have HC:=hid hc;clear hc
 go_wp2_with fail
 refine HC.out.mono ?_
 rintro e b3 ⟨⟨g,rfl,hvw⟩,hb⟩
 have HVW:=hid hvw;clear hvw
 clear HC
 clear b2 a5 a6 a7
 have a3:=hid hb
 clear hb
 replace a1:=kH a1 a3
 obtain ⟨b4,b5,b6,b7⟩:=at4 a1
 go_wp2
 go_ret2
 replace a0:=bH a0 a3
 exact ⟨⟨g,rfl,HVW.out⟩,a0.out⟩
theorem viewOfTwo_yes (ware:ByteArray) (lim by_:Int) (A:Option Addr) (n k:Nat) (ps:List Prt) (a b:Int) (w:World) (hr:RdP w A n k ps) (hn:n≤maxLen) (hq:askP2 ⟨ware,lim,by_,ps⟩ a b=0):Calls Tryz.prog 86 #[.agg #[.string ware,.int .i64 lim,.int .i64 by_,.slice A n k],.int .i64 a,.int .i64 b] w fun e w'=>(∃ g,e=.returned (.tuple #[.pointer (some ⟨g,0,none⟩),.int .i64 0])∧Vw w' g ware lim by_ A n k ps)∧Below w.heap.size w w':=by
 unfold askP2 at hq
 split at hq
 · rename_i h1;exact absurd hq h1
 · rename_i h1
   split at hq
   · cases hq
   · rename_i h2
     exact vot_ok ware lim by_ A n k ps a b w hr hn (by simpa using h1) h2
theorem askP_in {c:Cse} {l:List Int} (h:askP c l=0) {x:Int} (hx:x∈l):∃ a:Nat,x=a∧a<c.ps.length:=by
 have:=(askP_ok h).2 x hx
 simp only [inR,Bool.and_eq_true,decide_eq_true_eq] at this
 exact ⟨x.toNat,by omega,by omega⟩
set_option maxRecDepth 100000 in
theorem head_sliceV (b o n c i:Nat) (hi:i≤c) (w:World):(Instr.sliceAt 30 (.slice (some ⟨b,o,none⟩) n c) none (some (.int .i64 (i:Int))) none).run Tryz.prog w=.ok (.slice (some ⟨b,o,none⟩) i c) w:=by
 have he:Tryz.prog.elem 30=3:=by kernel_rfl
 have hu:Tryz.prog.underlying 30=some (.slice (Tryz.prog.elem 30)):=by rw [he];exact Tryz.underlying30
 have hs:∀ w,(sizeOf (Tryz.prog.elem 30)).run Tryz.prog w=.ok 1 w:=fun w=>by rw [he];kernel_rfl
 rw [run_sliceAt_slice (h:=hu),run_slice_h _ _ _ _ _ hu .i64 (i:Int) (by omega) (by omega),hs]
 simp [Result.andThen_ok,sliced,Addr.add_lit]
def rowN (f:Int→Int→Bool) (l:List Int) (j r:Nat):Bool:=(List.range r).any fun i=>f (l.getD j 0) (l.getD i 0)
def anyN (f:Int→Int→Bool) (l:List Int) (q:Nat):Bool:=(List.range q).any fun j=>rowN f l j j
theorem rowN_succ (f:Int→Int→Bool) (l:List Int) (j r:Nat):rowN f l j (r+1)=(rowN f l j r || f (l.getD j 0) (l.getD r 0)):=by simp [rowN,List.range_succ]
theorem anyN_succ (f:Int→Int→Bool) (l:List Int) (q:Nat):anyN f l (q+1)=(anyN f l q || rowN f l q q):=by simp [anyN,List.range_succ]
theorem anyN_hit {f:Int→Int→Bool} {l:List Int} {q r m:Nat} (hq:q<m) (hr:r<q) (h:f (l.getD q 0) (l.getD r 0)=true):anyN f l m=true:=by
 unfold anyN
 rw [List.any_eq_true]
 exact ⟨q,by simpa using hq,by unfold rowN;rw [List.any_eq_true];exact ⟨r,by simpa using hr,h⟩⟩
set_option maxRecDepth 100000 in
theorem anyTwo_agree (ware:ByteArray) (lim by_:Int) (A:Option Addr) (n k:Nat) (ps:List Prt) (g:Nat) (B:Option Addr) (m d:Nat) (l:List Int) (w:World) (hv:Vw w g ware lim by_ A n k ps) (hl:RdI w B m d l) (hm:m≤maxLen) (hin:∀ x∈l,∃ a:Nat,x=a∧a<n):Calls Tryz.prog 84 #[.slice B m d,.func (.func 116) #[.pointer (some ⟨g,0,none⟩)] #[]] w fun e w'=>e=.returned (.bool (anyN (fun a b=>!clB ps a b) l m))∧w=w':=by
 have HIN:=hid hin;have HL:=hid hl;have HV0:=hid hv;clear hin hl hv
 have hmn:=hm;unfold maxLen at hmn
 go_enter Tryz.func84,Tryz.ntmps84
 go_wp2
 go_loopw [11] (fun i wr=>∃ q:Nat,q≤m∧i=.int .i64 q∧anyN (fun a b=>!clB ps a b) l q=false∧w=wr) (fun i _=>m-(intOf i).toNat)
 case atStart=>exact ⟨0,Nat.zero_le _,rfl,rfl,rfl⟩
 case round =>
  obtain ⟨q,hq,rfl,hany,rfl⟩:=hrel
  have HANY:=hid hany;clear hany
  by_cases hlt:q<m
  · have hlt':(q:Int)<m:=by omega
    obtain ⟨b9,o9,v,rfl,hb9,hv,e0⟩:=RdI.get HL.out hlt
    obtain ⟨i,rfl,hi⟩:=HIN.out v (List.mem_of_getElem? hv)
    have HV:=hid (show l.getD q 0=(i:Int) by rw [List.getD_eq_getElem?_getD,hv];rfl);clear hv
    have hcap:=HL.out.cap
    have hsl:=head_sliceV b9 o9 m d q (by omega)
    go_wp2
    clear e0 hsl
    go_loopw [20] (fun i wr=>∃ r:Nat,r≤q∧i=.int .i64 r∧rowN (fun a b=>!clB ps a b) l q r=false∧w=wr) (fun i _=>q-(intOf i).toNat)
    case atStart=>exact ⟨0,Nat.zero_le _,rfl,rfl,rfl⟩
    case round =>
     obtain ⟨r,hr,rfl,hrow,rfl⟩:=hrel
     have HROW:=hid hrow;clear hrow
     by_cases hrt:r<q
     · have hrt':(r:Int)<q:=by omega
       have hrm:r<m:=by omega
       obtain ⟨b8,o8,v2,hA,hb8,hv2,e1⟩:=RdI.get HL.out hrm
       injection hA with hA;injection hA with hA1 hA2;subst hA1 hA2
       obtain ⟨i2,rfl,hi2⟩:=HIN.out v2 (List.mem_of_getElem? hv2)
       have HV2:=hid (show l.getD r 0=(i2:Int) by rw [List.getD_eq_getElem?_getD,hv2];rfl);clear hv2
       cases hcl:clN ps i i2
       · have HCL:=hid hcl;clear hcl
         have HF:=hid (show (fun a b=>!clB ps a b) (l.getD q 0) (l.getD r 0)=true by rw [HV.out,HV2.out];(try dsimp only);rw [clB_nat,HCL.out];rfl)
         have HC:=hid ((by have h:=agree_any HV0.out hi hi2;rw [HCL.out] at h;exact h))
         go_wp2_with fail
         refine HC.out.mono ?_
         rintro e _ ⟨rfl,rfl⟩
         clear HC
         go_wp2
         go_ret
         exact ⟨ret_bool (by rw [anyN_hit hlt hrt HF.out]),rfl⟩
       · have HCL:=hid hcl;clear hcl
         have HF:=hid (show (fun a b=>!clB ps a b) (l.getD q 0) (l.getD r 0)=false by rw [HV.out,HV2.out];(try dsimp only);rw [clB_nat,HCL.out];rfl)
         have HC:=hid ((by have h:=agree_any HV0.out hi hi2;rw [HCL.out] at h;exact h))
         go_wp2_with fail
         refine HC.out.mono ?_
         rintro e _ ⟨rfl,rfl⟩
         clear HC
         go_wp2
         go_roundw
         case rel=>exact ⟨r+1,by omega,by go_num,by rw [rowN_succ,HROW.out,HF.out];rfl,by trivial⟩
         case measure=>simp [intOf];omega
     · obtain rfl:r=q:=by omega
       go_wp2
       go_roundw
       case rel=>exact ⟨r+1,by omega,by go_num,by rw [anyN_succ,HANY.out,HROW.out];rfl,by trivial⟩
       case measure=>simp [intOf];omega
  · obtain rfl:q=m:=by omega
    go_wp2
    go_ret
    exact ⟨ret_bool (by rw [HANY.out]),rfl⟩
end Go.Proofs.YtokpblmgdmokoaaGreat
