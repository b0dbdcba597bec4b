import Derived.Deep.AppendLies
import Derived.Deep.DeepCutAuto
import Derived.Deep.OwnRows
import Derived.Laws.AppendOwnNone
import Derived.Lib.SmallJoins
import Derived.Maps.OwnIn
import Derived.Shelf.SlIterI.Nil
import Derived.Shelf.Slices.Reverse
import Derived.Shelf.SortM.Plain
import Derived.Shelf.SortM.SortNone
import Derived.Sort.OwnSortedInts
import Derived.Test.YtjjmifcjailpaaaGreatPSet
import Derived.Deep.AppendSrc
import Derived.Test.YtjjmifcjailpaaaGreatPEMax
import Derived.Test.YtjjmifcjailpaaaGreatPERefT
set_option linter.unusedSimpArgs false
set_option linter.unusedVariables false
namespace Go.Proofs.YtjjmifcjailpaaaGreat
def made (n:Nat) (φ:Nat→Int):List Int:=(List.range n).map fun i=>φ i-φ 0
section
variable {a b:Otl} {p:Prg}
end
open Go.RowKit
def OutP (w:World) (A:Option Addr) (n c:Nat) (l:List Prg):Prop:=RdB w A n c (l.map pB)∧(A=none∨∃ b,A=some ⟨b,0,none⟩)
theorem OutP.below {w w':World} {A:Option Addr} {n c:Nat} {l:List Prg} (h:OutP w A n c l) (hb:Below w.heap.size w w'):OutP w' A n c l:=⟨h.1.below hb,h.2⟩
theorem OutP.nil_ (w:World):OutP w none 0 0 []:=⟨RdB.nil_ w,.inl rfl⟩
theorem OutP.len {w:World} {A:Option Addr} {n c:Nat} {l:List Prg} (h:OutP w A n c l):l.length=n:=by have:=h.1.len;rwa [List.length_map] at this
theorem own_out {w:World} {base:Nat} {v:Value} {n:Nat} {l:List Prg} (h:w.ownsRow base 28 4 v n (bcells (l.map pB))) (hl:l.length=n):∃ A c,v=.slice A n c∧OutP w A n c l:=by
 obtain ⟨A,c,e,h1,h2,h3,h4⟩:=own_form h
 refine ⟨A,c,e,⟨by rw [List.length_map];exact hl,h1,h3,h4⟩,?_⟩
 rcases h.2 with ⟨e2,-⟩|⟨g,cap,cur,e2,-⟩
 · rw [e] at e2;injection e2 with e2;exact .inl e2
 · rw [e] at e2;injection e2 with e2;exact .inr ⟨g,e2⟩
def SrcP (w:World) (A:Option Addr) (m c:Nat) (l:List Prg):Prop:=l.length=m∧((A=none∧m=0∧c=0)∨∃ ad,A=some ad∧∀ j u,(bcells (l.map pB))[j]?=some u→w.cell? (ad.add j)=some u)
theorem bcells_map_append (l m:List Prg):bcells ((l++m).map pB)=bcells (l.map pB)++bcells (m.map pB):=by rw [List.map_append,bcells_append]
theorem OutP.head {w:World} {A:Option Addr} {n c:Nat} {l:List Prg} (h:OutP w A n c l) {i:Nat} (hi:i≤n):SrcP w A i c (l.take i):=by
 have hl:=h.len
 refine ⟨by rw [List.length_take];omega,?_⟩
 rcases h.2 with rfl|⟨b,rfl⟩
 · obtain ⟨h1,h2⟩:=h.1.nil rfl
   exact .inl ⟨rfl,by omega,h2⟩
 · refine .inr ⟨_,rfl,fun j u hu=>?_⟩
   have e:bcells (l.map pB)=bcells ((l.take i).map pB)++bcells ((l.drop i).map pB):=by rw [← bcells_map_append,List.take_append_drop]
   have hu2:(bcells (l.map pB))[j]?=some u:=by
    rw [e,List.getElem?_append_left (List.getElem?_eq_some_iff.1 hu).1];exact hu
   rcases h.1.cells with h0|⟨b',o',e',hlt,hc⟩
   · rw [h0] at hu2;simp at hu2
   · injection e' with e'
     injection e' with e1 e2
     subst e1 e2
     rw [add_flat]
     exact hc j u hu2
theorem OutP.tail {w:World} {A:Option Addr} {n c:Nat} {l:List Prg} (h:OutP w A n c l) {i:Nat} (hi:i≤n):SrcP w (A.map fun p=>if c=i then p else p.add (i * 4)) (n-i) (c-i) (l.drop i):=by
 have hl:=h.len
 have hcp:=h.1.cap
 refine ⟨by rw [List.length_drop];omega,?_⟩
 rcases h.2 with rfl|⟨b,rfl⟩
 · obtain ⟨h1,h2⟩:=h.1.nil rfl
   exact .inl ⟨rfl,by omega,by omega⟩
 · refine .inr ⟨_,rfl,fun j u hu=>?_⟩
   have e:bcells (l.map pB)=bcells ((l.take i).map pB)++bcells ((l.drop i).map pB):=by rw [← bcells_map_append,List.take_append_drop]
   have hln:(bcells ((l.take i).map pB)).length=i * 4:=by rw [bcells_length,List.length_map,List.length_take,Nat.min_eq_left (by omega)]
   have hj:=(List.getElem?_eq_some_iff.1 hu).1
   rw [bcells_length,List.length_map,List.length_drop] at hj
   have hu2:(bcells (l.map pB))[i * 4+j]?=some u:=by
    rw [e,List.getElem?_append_right (by omega),hln,Nat.add_sub_cancel_left];exact hu
   rcases h.1.cells with h0|⟨b',o',e',hlt,hc⟩
   · rw [h0] at hu2;simp at hu2
   · injection e' with e'
     injection e' with e1 e2
     subst e1 e2
     show w.cell? ((if c=i then (⟨b,0,none⟩:Addr) else (⟨b,0,none⟩:Addr).add (i * 4)).add j)=some u
     rw [if_neg (by omega),add_flat,add_flat,Nat.add_assoc]
     exact hc _ u hu2
set_option maxRecDepth 100000 in
theorem OutP.runHead {w:World} {A:Option Addr} {n c:Nat} {l:List Prg} (h:OutP w A n c l) {i:Nat} (hi:i≤n) (w':World):(Instr.sliceAt 56 (.slice A n c) none (some (.int .i64 (i:Int))) none).run Tryz.prog w'=.ok (.slice A i c) w':=by
 have he:Tryz.prog.elem 56=28:=by kernel_rfl
 have hu:Tryz.prog.underlying 56=some (.slice (Tryz.prog.elem 56)):=by rw [he];exact Tryz.underlying56
 have hs:∀ w,(sizeOf (Tryz.prog.elem 56)).run Tryz.prog w=.ok 4 w:=fun w=>by rw [he];kernel_rfl
 have hcp:=h.1.cap
 rcases h.2 with rfl|⟨b,rfl⟩
 · obtain ⟨rfl,rfl⟩:=h.1.nil rfl
   obtain rfl:i=0:=by omega
   rw [run_sliceAt_slice (h:=hu),run_slice_h _ _ _ _ _ hu .i64 ((0:Nat):Int) (by omega) (by omega),hs]
   simp [Result.andThen_ok,sliced]
 · rw [run_sliceAt_slice (h:=hu),run_slice_h _ _ _ _ _ hu .i64 (i:Int) (by omega) (by omega),hs]
   simp [Result.andThen_ok,sliced,add_flat]
set_option maxRecDepth 100000 in
theorem OutP.runTail {w:World} {A:Option Addr} {n c:Nat} {l:List Prg} (h:OutP w A n c l) {i:Nat} (hi:i≤n) (w':World):(Instr.sliceAt 56 (.slice A n c) (some (.int .i64 (i:Int))) none none).run Tryz.prog w'=.ok (.slice (A.map fun p=>if c=i then p else p.add (i * 4)) (n-i) (c-i)) w':=by
 have he:Tryz.prog.elem 56=28:=by kernel_rfl
 have hu:Tryz.prog.underlying 56=some (.slice (Tryz.prog.elem 56)):=by rw [he];exact Tryz.underlying56
 have hs:∀ w,(sizeOf (Tryz.prog.elem 56)).run Tryz.prog w=.ok 4 w:=fun w=>by rw [he];kernel_rfl
 have hcp:=h.1.cap
 rcases h.2 with rfl|⟨b,rfl⟩
 · obtain ⟨rfl,rfl⟩:=h.1.nil rfl
   obtain rfl:i=0:=by omega
   rw [run_sliceAt_slice (h:=hu),run_slice_l _ _ _ _ _ hu .i64 ((0:Nat):Int) (by omega) (by omega),hs]
   simp [Result.andThen_ok,sliced]
 · rw [run_sliceAt_slice (h:=hu),run_slice_l _ _ _ _ _ hu .i64 (i:Int) (by omega) (by omega),hs]
   simp only [Result.andThen_ok,sliced,Int.toNat_natCast]
   by_cases hc:c=i
   · simp [hc]
   · simp [hc]
theorem src_one (w:World) (p:Prg):SrcP (w.alloc (.cells #[.int .i64 p.af,.int .i64 p.at2,.int .i64 p.bf,.int .i64 p.bt] 28)) (some ⟨w.heap.size,0,none⟩) 1 1 [p] :=
 ⟨rfl,.inr ⟨_,rfl,cells_new4 _ _ _ _ _ _⟩⟩
set_option maxRecDepth 100000 in
theorem wpList_append_part {w:World} {ops:Array Oper} {rest:List Oper} {o:Oper} {a:Act} {Q:Exit→Act→World→Prop} (hgd:o.guard=none) (s x:Operand)
 (ho:o.op=.call { callee:=.builtin .append,args:=#[s,x],argTypes:=#[56,56] }) (base:Nat) (v:Value) (n:Nat) (xs:List Prg) (hs:a.eval s=v) (hown:w.ownsRow base 28 4 v n (bcells (xs.map pB)))
 (A:Option Addr) (m c:Nat) (ys:List Prg) (hx:a.eval x=.slice A m c) (hS:SrcP w A m c ys) (hb:base≤w.heap.size) (hsm:n+m≤100000)
 (h:∀ v' w',w'.ownsRow base 28 4 v' (n+m) (bcells ((xs++ys).map pB))→Below base w w'→wpList Tryz.prog ops Q rest (a.put o.dst v') w'):wpList Tryz.prog ops Q (o::rest) a w:=by
 obtain ⟨i0,hi,hz0,hz1,hz2⟩:=info_parts TryzinfoPR
 rcases hS.2 with ⟨rfl,rfl,rfl⟩|⟨ad,rfl,hc⟩
 · obtain rfl:ys=[]:=List.eq_nil_of_length_eq_zero hS.1
   exact wpList_append_own_none hgd s x 56 ho base 28 i0 4 Tryz.underlying56 hi v n _ hs hown hx (h v w (by simpa using hown) (Below.refl base w))
 · exact wpList_append_own w hgd s x 56 ho base 28 i0 _ 4 32 Tryz.underlying56 hi hz0 hz1 hz2 rfl (by decide) v n _ hs hown ad m c _ hx (by rw [bcells_length,List.length_map,hS.1]) hc (bcells_one _) (by unfold maxLen;omega) (by omega) hb
    fun v' w' h1 h2 _=>h v' w' (by rw [bcells_map_append];exact h1) (Below.grown (Below.refl base w) h2 hb (fun k e=>(World.ownsRow.lt hown k e).1))
theorem insL_at {p:Prg}:∀ {S:List Prg} {t:Nat},t≤S.length→(∀ x∈S.take t,strB x p=true)→(∀ x,S[t]?=some x→strB x p=false)→insL p S=S.take t++[p]++S.drop t
 | [],t,_,_,_=>by simp [insL]
 | y::r,0,_,_,h=>by
  rw [insL_cons_ge (by rw [h y (by simp)];simp)];rfl
 | y::r,t+1,hq,hl,h=>by
  rw [insL_cons_lt (hl y (by rw [List.take_succ_cons];exact List.mem_cons_self ..)),insL_at (t:=t) (by simp at hq;omega) (fun x hx=>hl x (by rw [List.take_succ_cons];exact List.mem_cons_of_mem _ hx)) (fun x hx=>h x (by rw [List.getElem?_cons_succ];exact hx))]
  rfl
theorem insL_length (p:Prg) (S:List Prg):(insL p S).length=S.length+1:=by
 have:=congrArg List.length (List.takeWhile_append_dropWhile (p:=fun x=>strB x p) (l:=S))
 rw [List.length_append] at this
 unfold insL
 rw [List.length_append,List.length_cons]
 omega
theorem stepM_take (M l S:List Prg) {r:Nat} {p:Prg} (h:l[r]?=some p):stepM M (l.take (r+1)) S=(if longB M p then stepM M (l.take r) S else insL p (stepM M (l.take r) S)):=by
 unfold stepM
 rw [List.take_add_one,h,List.foldl_append]
 rfl
end Go.Proofs.YtjjmifcjailpaaaGreat
