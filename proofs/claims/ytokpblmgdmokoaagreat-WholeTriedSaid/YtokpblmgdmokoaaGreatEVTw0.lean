import Derived.Test.YtokpblmgdmokoaaGreatAVCat
set_option linter.unusedSimpArgs false
set_option linter.unusedVariables false
namespace Go.Proofs.YtokpblmgdmokoaaGreat
open Go.RowKit Go.Maps
set_option maxRecDepth 100000 in
theorem full_slice (B:Option Addr) (m d:Nat) (l:List Int) (w0:World) (hr:RdI w0 B m d l) (w:World):(Instr.sliceAt 30 (.slice B m d) none (some (.int .i64 (m:Int))) (some (.int .i64 (m:Int)))).run Tryz.prog w=.ok (.slice B m m) w:=by
 have he:Tryz.prog.elem 30=3:=by kernel_rfl
 have hu:Tryz.prog.underlying 30=some (.slice (Tryz.prog.elem 30)):=by rw [he];exact Tryz.underlying30
 have hs:∀ w,(sizeOf (Tryz.prog.elem 30)).run Tryz.prog w=.ok 1 w:=fun w=>by rw [he];kernel_rfl
 have hc:=hr.cap
 cases B with
 | none =>
  obtain ⟨rfl,rfl⟩:=hr.nil rfl
  rw [run_sliceAt_slice (h:=hu),run_slice_hm _ _ _ _ _ hu .i64 .i64 ((0:Nat):Int) ((0:Nat):Int) (by omega) (by omega) (by omega),hs]
  simp [Result.andThen_ok,sliced]
 | some a =>
  rw [run_sliceAt_slice (h:=hu),run_slice_hm _ _ _ _ _ hu .i64 .i64 (m:Int) (m:Int) (by omega) (by omega) (by omega),hs]
  obtain ⟨b,o,s⟩:=a
  simp [Result.andThen_ok,sliced,Addr.add]
theorem wp_appF {w:World} {o:Oper} {a:Act} {K:Act→World→Prop} {Q:Exit→Act→World→Prop} (s x:Operand) (ho:o.op=.call { callee:=.builtin .append,args:=#[s,x],argTypes:=#[30,30] })
 (B:Option Addr) (m d:Nat) (l:List Int) (hs:a.eval s=.slice B m m) (hr:RdI w B m d l) (b:Nat) (p:Int) (hx:a.eval x=.slice (some ⟨b,0,none⟩) 1 1) (hc:w.cell? ⟨b,0,none⟩=some (.int .i64 p)) (hn:m≤100000)
 (h:∀ A' c' w',RdI w' A' (m+1) c' (l++[p])→Below w.heap.size w w'→K (a.put o.dst (.slice A' (m+1) c')) w'):o.wp Tryz.prog a w K Q:=by
 obtain ⟨i0,hi0,hz0,hz1,hz2⟩:=info_parts infoIv
 have hnews:∀ j u,([.int .i64 p]:List Value)[j]?=some u→w.cell? ((⟨b,0,none⟩:Addr).add j)=some u:=by
  intro j u hu
  rw [Addr.add_lit,Nat.zero_add]
  cases j with
  | zero=>simp at hu;subst hu;exact hc
  | succ j=>simp at hu
 have hcells:∀ (c':Nat) (zs:Array Value),m+1≤c'→RdI (w.drew.alloc (.cells ((l.map (Value.int .i64)).toArray++([.int .i64 p]:List Value).toArray++zs) 3)) (some ⟨w.heap.size,0,none⟩) (m+1) c' (l++[p]):=by
  intro c' zs hc'
  refine ⟨by rw [List.length_append,hr.len];rfl,hc',(fun e=>by cases e),.inr ⟨w.heap.size,0,rfl,by simp,fun j v hj=>?_⟩⟩
  rw [Nat.zero_add]
  refine ((Blk.new w.drew 3 _).cell j).trans ?_
  have hjl:j<(l.map (Value.int .i64)).length+1:=by
   have:=(List.getElem?_eq_some_iff.1 hj).1
   simpa using this
  rw [← Array.getElem?_toList,Array.toList_append,Array.toList_append,List.append_assoc,← List.append_assoc,List.getElem?_append_left (by simpa using hjl)]
  simpa using hj
 have hrun:∃ A' c' w',(Builtin.append_ #[30,30] o.type #[.slice B m m,.slice (some ⟨b,0,none⟩) 1 1]).run Tryz.prog w=.ok (.slice A' (m+1) c') w'∧RdI w' A' (m+1) c' (l++[p])∧Below w.heap.size w w':=by
  cases B with
  | none =>
   obtain ⟨rfl,-⟩:=hr.nil rfl
   obtain rfl:l=[]:=List.length_eq_zero_iff.1 hr.len
   have hrr:=run_append_nil (P:=Tryz.prog) w 30 o.type 3 i0 _ Tryz.underlying30 hi0 hz0 ⟨b,0,none⟩ 1 1 [.int .i64 p] (by rw [hz1];rfl) hnews (by omega) (by omega) (by rw [hz2];omega)
   refine ⟨_,_,_,hrr,?_,(Below.drew (Below.refl _ w)).alloc (by simp) _⟩
   have:=hcells (grownCap w 1 0 3) (Builtin.zeroCells (Value.int IntKind.i64 0).cells (grownCap w 1 0 3-1)) (grownCap_ge w 1 0 3)
   simpa using this
  | some ad =>
   have hold:∀ j v,(l.map (Value.int .i64))[j]?=some v→w.cell? (ad.add j)=some v:=by
    rcases hr.cells with h0|⟨bb,oo,e,hlt,hcc⟩
    · intro j v hj;rw [h0] at hj;simp at hj
    · injection e with e
      subst e
      intro j v hj
      rw [Addr.add_lit]
      exact hcc j v hj
   have hrr:=run_append_grow (P:=Tryz.prog) w 30 o.type 3 i0 _ Tryz.underlying30 hi0 hz0 ad m m (l.map (Value.int .i64)) (by rw [hz1,List.length_map,hr.len,Nat.mul_one]) hold ⟨b,0,none⟩ 1 1 [.int .i64 p] (by rw [hz1];rfl) hnews (by omega) (by omega) (growslice_fits (by omega) (by rw [hz2];omega))
   exact ⟨_,_,_,hrr,hcells _ _ (grownCap_ge w (m+1) m 3),(Below.drew (Below.refl _ w)).alloc (by simp) _⟩
 obtain ⟨A',c',w',hr2,h3,h4⟩:=hrun
 unfold Oper.wp execOp
 simp only [ho,resolve,invoke,builtin,Sem.run_bind,Sem.run_pure,Result.andThen_ok,List.map_toArray,List.map_cons,List.map_nil,hs,hx,hr2]
 exact h _ _ _ h3 h4
end Go.Proofs.YtokpblmgdmokoaaGreat
