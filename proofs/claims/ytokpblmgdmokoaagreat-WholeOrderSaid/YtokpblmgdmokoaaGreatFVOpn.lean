import Derived.Lib.SmallJoins
import Derived.Maps.OwnIn
import Derived.Test.YtokpblmgdmokoaaGreatAVMem
set_option linter.unusedSimpArgs false
set_option linter.unusedVariables false
namespace Go.Proofs.YtokpblmgdmokoaaGreat
open Go.ChangeShapes Go.WideShapes Go.ChangeAt Go.RowKit
set_option maxRecDepth 100000
theorem Law.own:ownKnob Tryz.prog.godebug=none:=by kernel_rfl
theorem Law.laidOut:laidOutB Tryz.prog=true:=by kernel_rfl
theorem add_flat (b o k:Nat):(⟨b,o,none⟩:Addr).add k=⟨b,o+k,none⟩:=by
 unfold Addr.add
 split
 · rename_i h;subst h;rfl
 · rfl
section
variable {H:Type} {enc:TypeId × Value→H} {W:World} {base:Nat} {sp:Nat→Bool} {held:Bool}
theorem cell_low {a:Addr} {v:Value} (h:W.cell? a=some v):a.block<W.heap.size:=by
 by_cases hb:a.block<W.heap.size
 · exact hb
 · exfalso
   have e:W.heap[a.block]?=none:=by simp;omega
   simp [World.cell?,e] at h
theorem open_nums_ {m:Nat} {v:Value} {x:DataW H × List MemPlace} (hf:DataW.trod enc Tryz.prog W base sp held m 30 [v]=some x) :
 ∃ A n c l,v=.slice A n c∧RdI W A n c l∧n≤maxLen∧∀ x∈l,(Lit.int .i64 x).wf=true:=by
 rcases open_ints Tryz.underlying30 Tryz.underlying3 (by kernel_rfl) hf with ⟨hcs,-⟩|⟨x,len,cap,zs,hcs,-,hl,hm,hz,-,hcell,hwz⟩
 · simp only [List.cons.injEq,and_true] at hcs
   subst hcs
   exact ⟨none,0,0,[],rfl,⟨rfl,Nat.le_refl _,fun _=>⟨rfl,rfl⟩,.inl rfl⟩,Nat.zero_le _,by simp⟩
 · simp only [List.cons.injEq,and_true] at hcs
   subst hcs
   have hle:len≤zs.length:=by rw [hz];split<;>omega
   refine ⟨some x,len,cap,zs.take len,rfl,⟨by simp;omega,hl,(fun h=>by cases h),?_⟩,by omega,fun y hy=>hwz y (List.mem_of_mem_take hy)⟩
   by_cases h0:len=0
   · subst h0;exact .inl rfl
   · obtain ⟨xb,xo,xs⟩:=x
     have z:=hcell 0 (by omega)
     have hs:xs=none:=by simpa [Addr.add] using World.cell?_spot z
     subst hs
     have hlt:xb<W.heap.size:=by simpa [Addr.add] using cell_low z
     refine .inr ⟨xb,xo,rfl,hlt,fun j u hu=>?_⟩
     obtain ⟨y,hy,rfl⟩:=List.mem_map.1 (List.mem_of_getElem? hu)
     have hj:j<len:=by
      have:=(List.getElem?_eq_some_iff.1 hu).1
      simp at this;omega
     have h1:=hcell j (by omega)
     rw [add_flat] at h1
     rw [h1]
     rw [List.getElem?_map,List.getElem?_take,if_pos hj,List.getElem?_eq_getElem (by omega)] at hu
     simp only [Option.map_some,Option.some.injEq,Value.int.injEq,true_and] at hu
     rw [List.getD_eq_getElem?_getD,List.getElem?_eq_getElem (by omega)]
     simp [hu]
instance:Inhabited PAd:=⟨⟨none,0,0,none,0,0⟩⟩
theorem trod_struct5 {P:Program} {t:TypeId} {f0 f1 f2 f3 f4:Field} {fuel:Nat} {cs:List Value} {x:DataW H × List MemPlace} (ht:P.underlying t=some (.struct #[f0,f1,f2,f3,f4])) (h:DataW.trod enc P W base sp held fuel t cs=some x) :
 ∃ y0 y1 y2 y3 y4 n,DataW.trod enc P W base sp held n f0.type ((cs.drop f0.offset).take (P.cellsOf f0.type))=some y0∧DataW.trod enc P W base sp held n f1.type ((cs.drop f1.offset).take (P.cellsOf f1.type))=some y1 ∧
  DataW.trod enc P W base sp held n f2.type ((cs.drop f2.offset).take (P.cellsOf f2.type))=some y2∧DataW.trod enc P W base sp held n f3.type ((cs.drop f3.offset).take (P.cellsOf f3.type))=some y3 ∧
  DataW.trod enc P W base sp held n f4.type ((cs.drop f4.offset).take (P.cellsOf f4.type))=some y4:=by
 obtain ⟨xs,n,_,rfl,hl,hlen,hf⟩:=DataW.trod_struct ht h
 match xs,hlen with
 | [y0,y1,y2,y3,y4],_=>exact ⟨y0,y1,y2,y3,y4,n,by simpa using hf 0 f0 rfl,by simpa using hf 1 f1 rfl,by simpa using hf 2 f2 rfl,by simpa using hf 3 f3 rfl,by simpa using hf 4 f4 rfl⟩
theorem one_part {m:Nat} {cs:List Value} {x:DataW H × List MemPlace} (h:DataW.trod enc Tryz.prog W base sp held m 48 cs=some x) (hl:cs.length=8):∃ b:Prt × PAd,cs=pv b∧b.2.ok W b.1:=by
 obtain ⟨y0,y1,y2,y3,y4,n5,h0,h1,h2,h3,h4⟩:=trod_struct5 Tryz.underlying48 h
 match cs,hl with
 | [c0,c1,c2,c3,c4,c5,c6,c7],_ =>
  have k0:Tryz.prog.cellsOf 30=1:=by kernel_rfl
  have k1:Tryz.prog.cellsOf 3=1:=by kernel_rfl
  have k2:Tryz.prog.cellsOf 4=1:=by kernel_rfl
  have k4:Tryz.prog.cellsOf 46=4:=by kernel_rfl
  simp only [k0,k1,k2,k4,List.drop_zero,List.take_succ_cons,List.take_zero,List.drop_succ_cons] at h0 h1 h2 h3 h4
  obtain ⟨z0,z1,z2,z3,f1,-,-,g0,g1,g2,g3⟩:=Go.Joins.trod_struct4 Tryz.underlying46 h1
  simp only [k1,List.drop_zero,List.take_succ_cons,List.take_zero,List.drop_succ_cons] at g0 g1 g2 g3
  obtain ⟨a0,e0,-,-⟩:=DataW.trod_int Tryz.underlying3 g0
  obtain ⟨a1,e1,-,-⟩:=DataW.trod_int Tryz.underlying3 g1
  obtain ⟨a2,e2,-,-⟩:=DataW.trod_int Tryz.underlying3 g2
  obtain ⟨a3,e3,-,-⟩:=DataW.trod_int Tryz.underlying3 g3
  obtain ⟨ft,e4,-⟩:=DataW.trod_bool Tryz.underlying4 h2
  obtain ⟨fb,e5,-,-⟩:=DataW.trod_int Tryz.underlying3 h3
  obtain ⟨A,n,c,l,e6,hr,hm,-⟩:=open_nums_ h0
  obtain ⟨B,m',d,l2,e7,hr2,hm2,-⟩:=open_nums_ h4
  simp only [List.cons.injEq,and_true] at e0 e1 e2 e3 e4 e5
  subst e0 e1 e2 e3 e4 e5 e6 e7
  exact ⟨(⟨l,a0,a1,a2,a3,ft,fb,l2⟩,⟨A,n,c,B,m',d⟩),rfl,hr,hr2,hm,hm2⟩
theorem open_parts_ {m:Nat} {v:Value} {x:DataW H × List MemPlace} (h:DataW.trod enc Tryz.prog W base sp held m 22 [v]=some x):∃ A n c l,v=.slice A n c∧RdP W A n c l∧n≤maxLen:=by
 have hC:Tryz.prog.cellsOf 48=8:=by kernel_rfl
 rcases Go.Deep.open_slice Tryz.underlying22 h with ⟨hcs,-⟩|⟨a,len,cap,m',n,D,Pl,hcs,hb,hl,hm,hmm,hx,hi⟩
 · simp only [List.cons.injEq,and_true] at hcs
   exact ⟨none,0,0,[],hcs,⟨rfl,Nat.le_refl _,fun _=>⟨rfl,rfl⟩,[],rfl,by simp,.inl rfl⟩,Nat.zero_le _⟩
 · simp only [List.cons.injEq,and_true] at hcs
   have hle:len≤m':=by rw [hmm];split<;>omega
   rw [hC] at hi
   obtain ⟨X,hX⟩:=Go.Deep.choose_lt (α:=Prt × PAd) (n:=len) (p:=fun i b=>b.2.ok W b.1∧∀ j,j<8→W.cell? (a.add (i * 8+j))=(pv b)[j]?) (fun i hil=>by
    obtain ⟨cs',g1,g2⟩:=hi i (by omega)
    obtain ⟨-,g3,g4⟩:=World.cells?_some g1
    obtain ⟨b,rfl,hok⟩:=one_part g2 g3
    refine ⟨b,hok,fun j hj=>?_⟩
    have:=g4 j hj
    rw [Go.Deep.add_add] at this
    exact this)
   refine ⟨some a,len,cap,((List.range len).map X).map (·.1),hcs,⟨by simp,hl,(fun h=>by cases h),(List.range len).map X,rfl,?_,?_⟩,by omega⟩
   · intro x hx
     obtain ⟨i,hi,rfl⟩:=List.mem_map.1 hx
     exact (hX i (List.mem_range.1 hi)).1
   by_cases h0:len=0
   · subst h0;exact .inl rfl
   · obtain ⟨ab,ao,asp⟩:=a
     have z:=(hX 0 (by omega)).2 0 (by omega)
     have hs:asp=none:=by simpa [Addr.add] using World.cell?_spot (z.trans (show (pv (X 0))[0]?=some (.slice (X 0).2.A (X 0).2.n (X 0).2.c) from rfl))
     subst hs
     have hlt:ab<W.heap.size:=by simpa [Addr.add] using cell_low (z.trans (show (pv (X 0))[0]?=some (.slice (X 0).2.A (X 0).2.n (X 0).2.c) from rfl))
     refine .inr ⟨ab,ao,rfl,hlt,fun j u hu=>?_⟩
     have hj:j<len * 8:=by
      have:=(List.getElem?_eq_some_iff.1 hu).1
      rw [flat_len pv_len] at this
      simpa using this
     have e:j / 8 * 8+j % 8=j:=by omega
     have hlk:((List.range len).map X)[j / 8]?=some (X (j / 8)):=by
      rw [List.getElem?_map,List.getElem?_range (by omega)]
      rfl
     have h1:=flat_get pv_len ((List.range len).map X) (j / 8) (j % 8) _ hlk (Nat.mod_lt _ (by omega))
     rw [e] at h1
     have h2:=(hX (j / 8) (by omega)).2 (j % 8) (Nat.mod_lt _ (by omega))
     rw [e,add_flat] at h2
     rw [h2,← h1,hu]
theorem open_case {r:Reach} {b0:Nat} {v:Value} {d:DataW H} {p:List MemPlace} (hv:Value.okWide Tryz.prog W r b0 24 v) (h:DataW.Trod enc Tryz.prog W base sp held 24 v d p) :
 ∃ s a b A n c l,v=.agg #[.string s,.int .i64 a,.int .i64 b,.slice A n c]∧RdP W A n c l∧n≤maxLen:=by
 obtain ⟨v0,v1,v2,v3,y0,y1,y2,y3,m,rfl,-,-,h0,h1,h2,h3⟩:=Go.Joins.open_agg4 Tryz.underlying24 (by kernel_rfl) (by kernel_rfl) hv h
 obtain ⟨s,e0,-,-⟩:=DataW.trod_string Tryz.underlying9 h0
 obtain ⟨a,e1,-,-⟩:=DataW.trod_int Tryz.underlying3 h1
 obtain ⟨b,e2,-,-⟩:=DataW.trod_int Tryz.underlying3 h2
 obtain ⟨A,n,c,l,rfl,hr,hm⟩:=open_parts_ h3
 simp only [List.cons.injEq,and_true] at e0 e1 e2
 subst e0 e1 e2
 exact ⟨s,a,b,A,n,c,l,rfl,hr,hm⟩
end
end Go.Proofs.YtokpblmgdmokoaaGreat
