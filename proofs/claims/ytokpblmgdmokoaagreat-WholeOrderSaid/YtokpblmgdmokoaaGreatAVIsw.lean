import Derived.Deep.CutRange
import Derived.Shelf.SlicesQ.Reverse
import Derived.Test.YtokpblmgdmokoaaGreatAVCol
import Derived.Test.YtokpblmgdmokoaaGreatAVAny
set_option maxHeartbeats 4000000
set_option linter.unusedSimpArgs false
set_option linter.unusedVariables false
namespace Go.Proofs.YtokpblmgdmokoaaGreat
open Go.Lib (hid)
open Go.RowKit Go.Maps Go.Shelf
def numV (low n lim:Int):Int × Int × Bool:=if (if lim=0 then n else min n lim)<low then (0,0,false) else (low,if lim=0 then n else min n lim,true)
theorem least_is (g:Nat) (ware:ByteArray) (lim by_:Int) (A:Option Addr) (n k:Nat) (ps:List Prt) (w:World) (hv:Vw w g ware lim by_ A n k ps) (h20:n<20) (L:Int) (hL:((vesL ps).length:Int)=L):Calls Tryz.prog 94 #[.pointer (some ⟨g,0,none⟩)] w fun e w'=>e=.returned (.int .i64 L)∧Below w.heap.size w w':=by
 subst hL
 exact least_any g ware lim by_ A n k ps w hv h20
set_option maxRecDepth 100000 in
theorem numbers_any (g:Nat) (ware:ByteArray) (lim by_:Int) (A:Option Addr) (n k:Nat) (ps:List Prt) (w:World) (hv:Vw w g ware lim by_ A n k ps) (h20:n<20):Calls Tryz.prog 98 #[.pointer (some ⟨g,0,none⟩)] w fun e w'=>e=.returned (.tuple #[.int .i64 (numV (vesL ps).length n lim).1,.int .i64 (numV (vesL ps).length n lim).2.1,.bool (numV (vesL ps).length n lim).2.2])∧Below w.heap.size w w':=by
 obtain ⟨LL,hLL⟩:∃ v:Int,((vesL ps).length:Int)=v:=⟨_,rfl⟩
 rw [hLL]
 have HLL:=hid hLL;clear hLL
 go_enter Tryz.func98,Tryz.ntmps98
 have a1:=hid (show Below w.heap.size w w from Below.refl _ w)
 have a0:=hid (hv)
 clear hv
 go_wp2_with fail
 replace a1:=bD a1
 replace a0:=hid (Vw.drew (a0.out))
 refine wp_region_held_drew (S:=(fun W'=>Vw W' g ware lim by_ A n k ps)) (by kernel_rfl) a0.out (fun _=>?_)
 obtain ⟨a6,a3⟩:∃ w',w'=(w.drew):=⟨_,rfl⟩
 rw [← a3] at a1 a0
 rw [← a3]
 clear a3
 refine' twH 0 a0.out ?_
 refine' twH 2 a0.out ?_
 refine' twH 3 a0.out ?_
 refine' twH 4 a0.out ?_
 try simp only [pq]
 refine' twH 5 a0.out ?_
 refine' tkH 6 a0.out ?a4 ?_
 case a4=>(rintro W' hS0;obtain ⟨-,-,-,v3⟩:=Vw.cells hS0;have hl_:=Vw.lt hS0;clear hS0;go_simp;try with_reducible rfl)
 refine' tkH 7 a0.out ?a5 ?_
 case a5=>(rintro W' -;go_simp;try with_reducible rfl)
 try simp only [pq]
 refine oneH 1 rfl fun K hK=>?_
 go_simp
 go_at_call 94
 refine (least_is g ware lim by_ A n k ps (a6) (a0.out) h20 LL HLL.out).mono ?_
 rintro e a7 ⟨rfl,a2⟩
 dsimp only
 replace a2:=hid a2
 replace a0:=hid (Vw.keep (a0.out) a2.out)
 refine hK.out _ _ a0.out (fun _=>?_);clear hK K
 try simp only [pq]
 refine' twH 8 a0.out ?_
 refine' twH 9 a0.out ?_
 try simp only [pq]
 refine wpAnyH_done (by kernel_rfl) ?_ _
 obtain ⟨-,v1,-,v3⟩:=(a0.out).cells
 have hvl:=(a0.out).lt
 replace a1:=bH a1 a2
 by_cases hl:lim=0
 · subst hl
   have HH:=hid (show numV LL n 0=if (n:Int)<LL then (0,0,false) else (LL,(n:Int),true) from rfl)
   by_cases hlt:(n:Int)<LL
   · have HR:=hid (HH.out.trans (if_pos hlt))
     go_wp2
     refine bodyPost_ret (v:=.tuple #[.int .i64 0,.int .i64 0,.bool false]) (by simp [results,Tryz.results98,go_sem]) rfl ⟨by rw [HR.out],a1.out⟩
   · have HR:=hid (HH.out.trans (if_neg hlt))
     go_wp2
     refine bodyPost_ret (v:=.tuple #[.int .i64 LL,.int .i64 (n:Int),.bool true]) (by simp [results,Tryz.results98,go_sem]) rfl ⟨by rw [HR.out],a1.out⟩
 · obtain ⟨X,hX⟩:∃ v,min (n:Int) lim=v:=⟨_,rfl⟩
   have hX7:(if lim<(n:Int) then lim else (n:Int))=X:=by rw [← hX];split<;>omega
   have HH:=hid (show numV LL n lim=if X<LL then (0,0,false) else (LL,X,true) by unfold numV;rw [if_neg hl,hX])
   have hl2:(lim != 0)=true:=by simpa using hl
   by_cases hlt:X<LL
   · have HR:=hid (HH.out.trans (if_pos hlt))
     go_wp2
     refine bodyPost_ret (v:=.tuple #[.int .i64 0,.int .i64 0,.bool false]) (by simp [results,Tryz.results98,go_sem]) rfl ⟨by rw [HR.out],a1.out⟩
   · have HR:=hid (HH.out.trans (if_neg hlt))
     go_wp2
     refine bodyPost_ret (v:=.tuple #[.int .i64 LL,.int .i64 X,.bool true]) (by simp [results,Tryz.results98,go_sem]) rfl ⟨by rw [HR.out],a1.out⟩
theorem askP_nil (c:Cse):askP c []=chkC c:=by
 unfold askP
 split
 · rfl
 · rename_i h;simp at h;rw [h];rfl
theorem rdI_none (w:World):RdI w none 0 0 []:=⟨rfl,Nat.le_refl _,fun _=>⟨rfl,rfl⟩,.inl rfl⟩
set_option maxRecDepth 100000 in
theorem Least_yes (ware:ByteArray) (lim by_:Int) (A:Option Addr) (n k:Nat) (ps:List Prt) (w:World) (hr:RdP w A n k ps) (hn:n≤maxLen) (hq:chkC ⟨ware,lim,by_,ps⟩=0) (h20:n<20):Calls Tryz.prog 42 #[.agg #[.string ware,.int .i64 lim,.int .i64 by_,.slice A n k]] w fun e w'=>e=.returned (.tuple #[.int .i64 (vesL ps).length,.int .i64 0])∧Below w.heap.size w w':=by
 have HQ:=hid hq;clear hq
 go_enter Tryz.func42,Tryz.ntmps42
 obtain ⟨a0,a1⟩:=ent1 w #[.string ware,.int .i64 lim,.int .i64 by_,.slice A n k] 24
 have a4:=hid (RdP.below (hr) a1.out)
 clear hr
 obtain ⟨a9,b0,b1,b2⟩:=at4 a0
 have hc:=viewOf_yes ware lim by_ A n k ps none 0 0 [] ((w.alloc (.cells #[.string ware,.int .i64 lim,.int .i64 by_,.slice A n k] 24))) a4.out (rdI_none _) hn (by unfold maxLen;omega) ((askP_nil _).trans HQ.out)
 have HC:=hid hc;clear hc
 go_wp2_with fail
 refine HC.out.mono ?_
 rintro e b3 ⟨⟨g,rfl,hvw⟩,hb⟩
 have HVW:=hid hvw;clear hvw
 clear HC
 clear a9 b0 b1 b2
 have a3:=hid hb
 clear hb
 replace a0:=kH a0 a3
 obtain ⟨a5,a6,a7,a8⟩:=at4 a0
 have hc:=least_any g ware lim by_ A n k ps (b3) HVW.out h20
 have HC:=hid hc;clear hc
 go_wp2_with fail
 refine HC.out.mono ?_
 rintro e b4 ⟨rfl,hb⟩
 clear HC
 clear a5 a6 a7 a8
 have a2:=hid hb
 clear hb
 replace a0:=kH a0 a2
 obtain ⟨b5,b6,b7,b8⟩:=at4 a0
 go_wp2
 replace a1:=bH (bH a1 a3) a2
 refine bodyPost_ret (v:=.tuple #[.int .i64 (vesL ps).length,.int .i64 0]) (by simp [results,Tryz.results42,go_sem]) rfl ⟨rfl,a1.out⟩
set_option maxRecDepth 100000 in
theorem Numbers_yes (ware:ByteArray) (lim by_:Int) (A:Option Addr) (n k:Nat) (ps:List Prt) (w:World) (hr:RdP w A n k ps) (hn:n≤maxLen) (hq:chkC ⟨ware,lim,by_,ps⟩=0) (h20:n<20):Calls Tryz.prog 46 #[.agg #[.string ware,.int .i64 lim,.int .i64 by_,.slice A n k]] w fun e w'=>e=.returned (.tuple #[.int .i64 (numV (vesL ps).length n lim).1,.int .i64 (numV (vesL ps).length n lim).2.1,.bool (numV (vesL ps).length n lim).2.2,.int .i64 0])∧Below w.heap.size w w':=by
 have HQ:=hid hq;clear hq
 go_enter Tryz.func46,Tryz.ntmps46
 obtain ⟨a0,a1⟩:=ent1 w #[.string ware,.int .i64 lim,.int .i64 by_,.slice A n k] 24
 have a4:=hid (RdP.below (hr) a1.out)
 clear hr
 obtain ⟨a9,b0,b1,b2⟩:=at4 a0
 have hc:=viewOf_yes ware lim by_ A n k ps none 0 0 [] ((w.alloc (.cells #[.string ware,.int .i64 lim,.int .i64 by_,.slice A n k] 24))) a4.out (rdI_none _) hn (by unfold maxLen;omega) ((askP_nil _).trans HQ.out)
 have HC:=hid hc;clear hc
 go_wp2_with fail
 refine HC.out.mono ?_
 rintro e b3 ⟨⟨g,rfl,hvw⟩,hb⟩
 have HVW:=hid hvw;clear hvw
 clear HC
 clear a9 b0 b1 b2
 have a3:=hid hb
 clear hb
 replace a0:=kH a0 a3
 obtain ⟨a5,a6,a7,a8⟩:=at4 a0
 have hc:=numbers_any g ware lim by_ A n k ps (b3) HVW.out h20
 have HC:=hid hc;clear hc
 go_wp2_with fail
 refine HC.out.mono ?_
 rintro e b4 ⟨rfl,hb⟩
 clear HC
 clear a5 a6 a7 a8
 have a2:=hid hb
 clear hb
 replace a0:=kH a0 a2
 obtain ⟨b5,b6,b7,b8⟩:=at4 a0
 go_wp2
 replace a1:=bH (bH a1 a3) a2
 refine bodyPost_ret (v:=.tuple #[.int .i64 (numV (vesL ps).length n lim).1,.int .i64 (numV (vesL ps).length n lim).2.1,.bool (numV (vesL ps).length n lim).2.2,.int .i64 0]) (by simp [results,Tryz.results46,go_sem]) rfl ⟨rfl,a1.out⟩
theorem ascN_in {l:List Int}:∀ {lo hi:Int},ascN l lo hi=true→∀ x∈l,lo≤x∧x≤hi:=by
 induction l with
 | nil=>intro lo hi _ x hx;cases hx
 | cons y l ih =>
  intro lo hi h x hx
  unfold ascN at h
  simp only [Bool.and_eq_true,inR,decide_eq_true_eq] at h
  rcases List.mem_cons.1 hx with rfl|hx
  · exact h.1
  · have:=ih h.2 x hx;omega
def isWB (ps:List Prt) (l:List Int):Bool:=ascN l 0 ((ps.length:Int)-1)&&!anyN (fun a b=>!clB ps a b) l l.length
set_option maxRecDepth 100000 in
theorem isWitness_any (g:Nat) (ware:ByteArray) (lim by_:Int) (A:Option Addr) (n k:Nat) (ps:List Prt) (B:Option Addr) (m d:Nat) (l:List Int) (w:World) (hv:Vw w g ware lim by_ A n k ps) (hl:RdI w B m d l) (hm:m≤maxLen):Calls Tryz.prog 92 #[.pointer (some ⟨g,0,none⟩),.slice B m d] w fun e w'=>e=.returned (.bool (isWB ps l))∧w=w':=by
 have h40:=hv.len
 have hw:IntKind.i64.wrap ((n:Int)-1)=(n:Int)-1:=by rw [IntKind.wrap_i64];omega
 have HPL:=hid hv.prt.len
 have HV:=hid hv;have HL:=hid hl;clear hv hl
 cases has:ascN l 0 ((n:Int)-1)
 · have HAS:=hid has;clear has
   go_enter Tryz.func92,Tryz.ntmps92
   have a0:=hid (show Below w.heap.size w w from Below.refl _ w)
   have HCA:=hid (visAsc_is B m d l 0 ((n:Int)-1) w HL.out hm (by omega) (by omega) false HAS.out)
   obtain ⟨-,-,-,v3⟩:=HV.out.cells
   have hvl:=HV.out.lt
   go_wp2_with fail
   refine HCA.out.mono ?_
   rintro e _ ⟨rfl,rfl⟩
   clear HCA v3 hvl
   go_wp2
   go_ret
   exact ⟨ret_bool (by unfold isWB;rw [HPL.out,HAS.out];rfl),rfl⟩
 · have HIN:=hid (fun x (hx:x∈l)=>show ∃ a:Nat,x=a∧a<n from by have:=ascN_in has x hx;exact ⟨x.toNat,by omega,by omega⟩);have HAS:=hid has;clear has
   go_enter Tryz.func92,Tryz.ntmps92
   have a0:=hid (show Below w.heap.size w w from Below.refl _ w)
   have HCA:=hid (visAsc_is B m d l 0 ((n:Int)-1) w HL.out hm (by omega) (by omega) true HAS.out)
   obtain ⟨-,-,-,v3⟩:=HV.out.cells
   have hvl:=HV.out.lt
   go_wp2_with fail
   refine HCA.out.mono ?_
   rintro e _ ⟨rfl,rfl⟩
   clear HCA v3 hvl
   have HC:=hid (anyTwo_agree ware lim by_ A n k ps g B m d l w HV.out HL.out hm HIN.out)
   go_wp2_with fail
   refine HC.out.mono ?_
   rintro e _ ⟨rfl,rfl⟩
   clear HC
   go_wp2
   go_ret
   exact ⟨ret_bool (by unfold isWB;rw [HPL.out,HAS.out,HL.out.len];simp),rfl⟩
set_option maxRecDepth 100000 in
theorem CheckWitness_yes (ware:ByteArray) (lim by_:Int) (A:Option Addr) (n k:Nat) (ps:List Prt) (B:Option Addr) (m d:Nat) (l:List Int) (w:World) (hr:RdP w A n k ps) (hl:RdI w B m d l) (hn:n≤maxLen) (hm:m≤maxLen) (hq:chkC ⟨ware,lim,by_,ps⟩=0):Calls Tryz.prog 38 #[.agg #[.string ware,.int .i64 lim,.int .i64 by_,.slice A n k],.slice B m d] w fun e w'=>e=.returned (.tuple #[.bool (isWB ps l),.int .i64 0])∧Below w.heap.size w w':=by
 have HQ:=hid hq;clear hq
 go_enter Tryz.func38,Tryz.ntmps38
 obtain ⟨a1,a0⟩:=ent1 w #[.string ware,.int .i64 lim,.int .i64 by_,.slice A n k] 24
 have a4:=hid (RdP.below (hr) a0.out)
 have a3:=iI hl a0
 clear hr hl
 obtain ⟨a5,a6,a7,a8⟩:=at4 a1
 have hc:=viewOf_yes ware lim by_ A n k ps none 0 0 [] ((w.alloc (.cells #[.string ware,.int .i64 lim,.int .i64 by_,.slice A n k] 24))) a4.out (rdI_none _) hn (by unfold maxLen;omega) ((askP_nil _).trans HQ.out)
 have HC:=hid hc;clear hc
 go_wp2_with fail
 refine HC.out.mono ?_
 rintro e a9 ⟨⟨g,rfl,hvw⟩,hb⟩
 have HVW:=hid hvw;clear hvw
 clear HC
 clear a5 a6 a7 a8
 have a2:=hid hb
 clear hb
 replace a1:=kH a1 a2
 obtain ⟨b0,b1,b2,b3⟩:=at4 a1
 replace a3:=iH a3 a2
 have HC:=hid (isWitness_any g ware lim by_ A n k ps B m d l (a9) HVW.out a3.out hm)
 go_wp2_with fail
 refine HC.out.mono ?_
 rintro e _ ⟨rfl,rfl⟩
 clear HC
 go_wp2
 replace a0:=bH a0 a2
 refine bodyPost_ret (v:=.tuple #[.bool (isWB ps l),.int .i64 0]) (by simp [results,Tryz.results38,go_sem]) rfl ⟨rfl,a0.out⟩
end Go.Proofs.YtokpblmgdmokoaaGreat
