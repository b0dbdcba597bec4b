import Derived.Test.YtokpblmgdmokoaaGreatAVOwn
set_option linter.unusedSimpArgs false
set_option linter.unusedVariables false
namespace Go.Proofs.YtokpblmgdmokoaaGreat
open Go.RowKit Go.Maps
abbrev OwnQ (w:World) (base b2:Nat) (R:Option Addr) (n k:Nat) (l:List Prt):Prop:=OwnPt w b2 (fun g=>base≤g) R n k l
theorem rdI_old {w w':World} {base:Nat} {A:Option Addr} {n c:Nat} {l:List Int} (h:RdI w A n c l) (hf:l=[]∨∀ a,A=some a→∀ g,base≤g→a.block≠g) (hb:Below base w w'):RdI w' A n c l:=by
 refine ⟨h.len,h.cap,h.nil,?_⟩
 rcases hf with rfl|hf
 · exact .inl rfl
 rcases h.cells with h0|⟨b,o,e,hlt,hc⟩
 · exact .inl h0
 · have hbb:b<base:=by
    have:=hf _ e
    dsimp only at this
    exact Nat.lt_of_not_le fun h=>this b h rfl
   exact .inr ⟨b,o,e,Nat.lt_of_lt_of_le hlt hb.size,fun j v hv=>(hb.cell (p:=⟨b,o+j,none⟩) hbb).trans (hc j v hv)⟩
theorem far_all {x:PAd} {p:Prt} {base:Nat} (h:∀ g,base≤g→x.far g p):(p.sh=[]∨∀ a,x.A=some a→∀ g,base≤g→a.block≠g)∧(p.rs=[]∨∀ a,x.B=some a→∀ g,base≤g→a.block≠g):=by
 constructor
 · by_cases e:p.sh=[]
   · exact .inl e
   · exact .inr fun a ha g hg=>(h g hg).1.resolve_left e a ha
 · by_cases e:p.rs=[]
   · exact .inl e
   · exact .inr fun a ha g hg=>(h g hg).2.resolve_left e a ha
theorem ok_old {w w':World} {base:Nat} {p:Prt} {x:PAd} (h:x.ok w p) (hf:∀ g,base≤g→x.far g p) (hb:Below base w w'):x.ok w' p:=by
 obtain ⟨f1,f2⟩:=far_all hf
 exact ⟨rdI_old h.1 f1 hb,rdI_old h.2.1 f2 hb,h.2.2⟩
set_option maxRecDepth 100000 in
theorem app_parts {w0 w:World} {base b2:Nat} (h0:w0.heap.size≤base) (hbb:base≤b2) (hbw:Below w0.heap.size w0 w) (hbase:b2≤w.heap.size) {R:Option Addr} {n1 k1:Nat} {l1:List Prt} (hown:OwnQ w base b2 R n1 k1 l1)
 {A:Option Addr} {m c:Nat} {l2:List Prt} (hr:RdP w0 A m c l2) (hsm:n1+m≤1000) (ty:TypeId):∃ R' k' w',(Builtin.append_ #[22,22] ty #[.slice R n1 k1,.slice A m c]).run Tryz.prog w=.ok (.slice R' (n1+m) k') w'∧OwnQ w' base b2 R' (n1+m) k' (l1++l2)∧Below b2 w w':=by
 obtain ⟨i0,hi0,hz0,hz1,hz2⟩:=info_parts infoPt
 obtain ⟨xs1,e1,f1,o1⟩:=hown
 obtain ⟨xs2,e2,f2,c2⟩:=hr.cells
 cases A with
 | none =>
  obtain ⟨rfl,rfl⟩:=hr.nil rfl
  have hl2:l2=[]:=List.length_eq_zero_iff.1 hr.len
  subst hl2
  refine ⟨R,k1,w,run_append_owned_none (P:=Tryz.prog) (w:=w) b2 22 ty 48 i0 8 Tryz.underlying22 hi0 _ n1 _ o1,?_,Below.refl _ _⟩
  rw [List.append_nil]
  exact ⟨xs1,e1,f1,o1⟩
 | some ad =>
  obtain ⟨v',w',hrun,ho,hg,-⟩:=run_append_own (P:=Tryz.prog) (w:=w) b2 22 ty 48 i0 _ 8 96 Tryz.underlying22 hi0 hz0 hz1 hz2 rfl (by omega) (.slice R n1 k1) n1 _ o1 ad m c (xs2.flatMap pv)
   (by rw [flat_len pv_len];congr 1;rw [← hr.len,← e2,List.length_map]) (fun j u hu=>(cells_hcV (c2.below hbw) j u hu)) (pv_one _) (by unfold maxLen;omega) (by omega) hbase
  have hbel:Below b2 w w':=(Below.refl b2 w).grown hg hbase fun r e=>(o1.lt r e).1
  obtain ⟨R',k',rfl,-⟩:=own_form ho
  refine ⟨R',k',w',hrun,⟨xs1++xs2,by rw [List.map_append,e1,e2],fun x hx=>?_,by rw [List.flatMap_append];exact ho⟩,hbel⟩
  have hR':∀ g,(R'=some ⟨g,0,none⟩∨base≤g)→base≤g:=by
   rintro g (e|h)
   · subst e
     exact Nat.le_trans hbb (ho.lt g rfl).1
   · exact h
  rcases List.mem_append.1 hx with hx|hx
  · obtain ⟨a1,a2⟩:=f1 x hx
    exact ⟨ok_old a1 (fun g hg=>a2 g (.inr hg)) (hbel.mono hbb),fun g hg=>a2 g (.inr (hR' g hg))⟩
  · have a1:=f2 x hx
    exact ⟨a1.below (hbw.trans (hbel.mono (Nat.le_trans h0 hbb))),fun g hg=>a1.out (Nat.le_trans h0 (hR' g hg))⟩
theorem wp_appP {w0 w:World} {o:Oper} {a:Act} {K:Act→World→Prop} {Q:Exit→Act→World→Prop} (s x:Operand) (ho:o.op=.call { callee:=.builtin .append,args:=#[s,x],argTypes:=#[22,22] })
 {base b2:Nat} (h0:w0.heap.size≤base) (hbb:base≤b2) (hbw:Below w0.heap.size w0 w) (hbase:b2≤w.heap.size) {R:Option Addr} {n1 k1:Nat} {l1:List Prt} (hown:OwnQ w base b2 R n1 k1 l1) (hs:a.eval s=.slice R n1 k1)
 {A:Option Addr} {m c:Nat} {l2:List Prt} (hr:RdP w0 A m c l2) (hx:a.eval x=.slice A m c) (hsm:n1+m≤1000) {N:Nat} (hN:n1+m=N)
 (h:∀ R' k' w',OwnQ w' base b2 R' N k' (l1++l2)→Below b2 w w'→K (a.put o.dst (.slice R' N k')) w'):o.wp Tryz.prog a w K Q:=by
 obtain ⟨R',k',w',hrun,h1,h2⟩:=app_parts h0 hbb hbw hbase hown hr hsm o.type
 subst hN
 unfold Oper.wp execOp
 simp only [ho,resolve,invoke,builtin,Sem.run_bind,Sem.run_pure,Result.andThen_ok,List.map_toArray,List.map_cons,List.map_nil,hs,hx,hrun]
 exact h _ _ _ h1 h2
theorem ownQ_lit {w:World} {base b2:Nat} (hb:b2≤w.heap.size):OwnQ (w.alloc (.cells #[] 48)) base b2 (some ⟨w.heap.size,0,none⟩) 0 0 [] :=
 ⟨[],rfl,fun x hx=>by simp at hx,owns_base (World.ownsRow_lit w (e:=48) (size:=8) #[] 0 (Nat.le_refl _) (by unfold maxLen;omega) rfl) hb⟩
theorem RdP.head {w:World} {A:Option Addr} {n c:Nat} {l:List Prt} (h:RdP w A n c l) {i:Nat} (hi:i≤n):RdP w A i c (l.take i):=by
 obtain ⟨xs,h1,h2,h3⟩:=h.cells
 refine ⟨by rw [List.length_take,h.len];omega,Nat.le_trans hi h.cap,fun e=>⟨by have:=(h.nil e).1;omega,(h.nil e).2⟩,xs.take i,by rw [List.map_take,h1],fun x hx=>h2 x (List.mem_of_mem_take hx),?_⟩
 rcases h3 with h0|⟨b,o,e,hlt,hc⟩
 · have:xs=[]:=List.eq_nil_iff_forall_not_mem.2 fun x hx=>by
    have hm:(pv x)[0]?=some (.slice x.2.A x.2.n x.2.c):=rfl
    have:Value.slice x.2.A x.2.n x.2.c∈xs.flatMap pv:=List.mem_flatMap.2 ⟨x,hx,List.mem_of_getElem? hm⟩
    rw [h0] at this;simp at this
   subst this
   exact .inl (by simp)
 · refine .inr ⟨b,o,e,hlt,fun j v hv=>hc j v ?_⟩
   have hsp:xs.flatMap pv=(xs.take i).flatMap pv++(xs.drop i).flatMap pv:=by rw [← List.flatMap_append,List.take_append_drop]
   rw [hsp,List.getElem?_append_left (List.getElem?_eq_some_iff.1 hv).1]
   exact hv
theorem RdP.tail {w:World} {b o:Nat} {n c:Nat} {l:List Prt} (h:RdP w (some ⟨b,o,none⟩) n c l) {i:Nat} (hi:i≤n):RdP w (some ⟨b,o+i * 8,none⟩) (n-i) (c-i) (l.drop i):=by
 obtain ⟨xs,h1,h2,h3⟩:=h.cells
 refine ⟨by rw [List.length_drop,h.len],by have:=h.cap;omega,(fun e=>by cases e),xs.drop i,by rw [List.map_drop,h1],fun x hx=>h2 x (List.mem_of_mem_drop hx),?_⟩
 have hl:xs.length=n:=by rw [← h.len,← h1,List.length_map]
 rcases h3 with h0|⟨b',o',e,hlt,hc⟩
 · have hsp:xs.flatMap pv=(xs.take i).flatMap pv++(xs.drop i).flatMap pv:=by rw [← List.flatMap_append,List.take_append_drop]
   rw [hsp] at h0
   exact .inl (List.append_eq_nil_iff.1 h0).2
 · injection e with e
   injection e with e1 e2
   subst e1 e2
   refine .inr ⟨b,o+i * 8,rfl,hlt,fun j v hv=>?_⟩
   have hsp:xs.flatMap pv=(xs.take i).flatMap pv++(xs.drop i).flatMap pv:=by rw [← List.flatMap_append,List.take_append_drop]
   have hlen:((xs.take i).flatMap pv).length=i * 8:=by rw [flat_len pv_len,List.length_take,Nat.min_eq_left (by omega)]
   have:=hc (i * 8+j) v (by rw [hsp,List.getElem?_append_right (by omega),hlen,Nat.add_sub_cancel_left];exact hv)
   rwa [← Nat.add_assoc] at this
set_option maxRecDepth 100000 in
theorem headP_slice (A:Option Addr) (n c i:Nat) (hA:A≠none) (hi:i≤c) (w:World):(Instr.sliceAt 22 (.slice A n c) none (some (.int .i64 (i:Int))) none).run Tryz.prog w=.ok (.slice A i c) w:=by
 have he:Tryz.prog.elem 22=48:=by kernel_rfl
 have hu:Tryz.prog.underlying 22=some (.slice (Tryz.prog.elem 22)):=by rw [he];exact Tryz.underlying22
 have hs:∀ w,(sizeOf (Tryz.prog.elem 22)).run Tryz.prog w=.ok 8 w:=fun w=>by rw [he];kernel_rfl
 rw [run_sliceAt_slice (h:=hu),run_slice_h _ _ _ _ _ hu .i64 (i:Int) (by omega) (by omega),hs]
 cases A with
 | none=>exact absurd rfl hA
 | some a=>obtain ⟨b,o,s⟩:=a;simp [Result.andThen_ok,sliced,Addr.add]
set_option maxRecDepth 100000 in
theorem tailP_slice (b o n c i:Nat) (hi:i≤n) (hc:i<c) (w:World):(Instr.sliceAt 22 (.slice (some ⟨b,o,none⟩) n c) (some (.int .i64 (i:Int))) none none).run Tryz.prog w=.ok (.slice (some ⟨b,o+i * 8,none⟩) (n-i) (c-i)) w:=by
 have he:Tryz.prog.elem 22=48:=by kernel_rfl
 have hu:Tryz.prog.underlying 22=some (.slice (Tryz.prog.elem 22)):=by rw [he];exact Tryz.underlying22
 have hs:∀ w,(sizeOf (Tryz.prog.elem 22)).run Tryz.prog w=.ok 8 w:=fun w=>by rw [he];kernel_rfl
 rw [run_sliceAt_slice (h:=hu),run_slice_l _ _ _ _ _ hu .i64 (i:Int) (by omega) (by omega),hs]
 simp only [Result.andThen_ok,sliced,Int.toNat_natCast]
 rw [if_neg (by omega),Option.map_some,Addr.add_lit]
end Go.Proofs.YtokpblmgdmokoaaGreat
