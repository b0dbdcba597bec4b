/- WholeCommons holds: for every case and list of parts it returns true. No condition. -/
import Derived.Lib.SmallJoins
import Derived.Maps.OwnIn
import Derived.Test.YtokpblmgdmokoaaGreatAVMem
import Derived.Test.YtokpblmgdmokoaaGreatAVChk
import Derived.Test.YtokpblmgdmokoaaGreatRows
import Derived.Test.YtokpblmgdmokoaaGreatAVTol
import Derived.Test.YtokpblmgdmokoaaGreatBVLm1
set_option maxHeartbeats 4000000
set_option linter.unusedSimpArgs false
set_option linter.unusedVariables false
namespace Go.Proofs.YtokpblmgdmokoaaGreat
open Go.Lib (hid)
open Go.ChangeShapes Go.WideShapes Go.ChangeAt Go.RowKit
set_option maxRecDepth 100000
theorem Law.own:ownKnob Tryz.prog.godebug=none:=by kernel_rfl
theorem Law.laidOut:laidOutB Tryz.prog=true:=by kernel_rfl
theorem add_flat (b o k:Nat):(⟨b,o,none⟩:Addr).add k=⟨b,o+k,none⟩:=by
 unfold Addr.add
 split
 · rename_i h;subst h;rfl
 · rfl
section
variable {H:Type} {enc:TypeId × Value→H} {W:World} {base:Nat} {sp:Nat→Bool} {held:Bool}
theorem cell_low {a:Addr} {v:Value} (h:W.cell? a=some v):a.block<W.heap.size:=by
 by_cases hb:a.block<W.heap.size
 · exact hb
 · exfalso
   have e:W.heap[a.block]?=none:=by simp;omega
   simp [World.cell?,e] at h
theorem open_nums_ {m:Nat} {v:Value} {x:DataW H × List MemPlace} (hf:DataW.trod enc Tryz.prog W base sp held m 30 [v]=some x) :
 ∃ A n c l,v=.slice A n c∧RdI W A n c l∧n≤maxLen∧∀ x∈l,(Lit.int .i64 x).wf=true:=by
 rcases open_ints Tryz.underlying30 Tryz.underlying3 (by kernel_rfl) hf with ⟨hcs,-⟩|⟨x,len,cap,zs,hcs,-,hl,hm,hz,-,hcell,hwz⟩
 · simp only [List.cons.injEq,and_true] at hcs
   subst hcs
   exact ⟨none,0,0,[],rfl,⟨rfl,Nat.le_refl _,fun _=>⟨rfl,rfl⟩,.inl rfl⟩,Nat.zero_le _,by simp⟩
 · simp only [List.cons.injEq,and_true] at hcs
   subst hcs
   have hle:len≤zs.length:=by rw [hz];split<;>omega
   refine ⟨some x,len,cap,zs.take len,rfl,⟨by simp;omega,hl,(fun h=>by cases h),?_⟩,by omega,fun y hy=>hwz y (List.mem_of_mem_take hy)⟩
   by_cases h0:len=0
   · subst h0;exact .inl rfl
   · obtain ⟨xb,xo,xs⟩:=x
     have z:=hcell 0 (by omega)
     have hs:xs=none:=by simpa [Addr.add] using World.cell?_spot z
     subst hs
     have hlt:xb<W.heap.size:=by simpa [Addr.add] using cell_low z
     refine .inr ⟨xb,xo,rfl,hlt,fun j u hu=>?_⟩
     obtain ⟨y,hy,rfl⟩:=List.mem_map.1 (List.mem_of_getElem? hu)
     have hj:j<len:=by
      have:=(List.getElem?_eq_some_iff.1 hu).1
      simp at this;omega
     have h1:=hcell j (by omega)
     rw [add_flat] at h1
     rw [h1]
     rw [List.getElem?_map,List.getElem?_take,if_pos hj,List.getElem?_eq_getElem (by omega)] at hu
     simp only [Option.map_some,Option.some.injEq,Value.int.injEq,true_and] at hu
     rw [List.getD_eq_getElem?_getD,List.getElem?_eq_getElem (by omega)]
     simp [hu]
theorem open_nums {v:Value} {d:DataW H} {p:List MemPlace} {r:Reach} {b0:Nat} (hv:Value.okWide Tryz.prog W r b0 30 v) (h:DataW.Trod enc Tryz.prog W base sp held 30 v d p) :
 ∃ A n c l,v=.slice A n c∧RdI W A n c l∧n≤maxLen∧∀ x∈l,(Lit.int .i64 x).wf=true:=by
 obtain ⟨a,len,cap,rfl⟩:=okWide_slice Tryz.underlying30 hv
 obtain ⟨fuel,hf⟩:=h
 exact open_nums_ (v:=.slice a len cap) (by simpa [Value.cells] using hf)
instance:Inhabited PAd:=⟨⟨none,0,0,none,0,0⟩⟩
theorem trod_struct5 {P:Program} {t:TypeId} {f0 f1 f2 f3 f4:Field} {fuel:Nat} {cs:List Value} {x:DataW H × List MemPlace} (ht:P.underlying t=some (.struct #[f0,f1,f2,f3,f4])) (h:DataW.trod enc P W base sp held fuel t cs=some x) :
 ∃ y0 y1 y2 y3 y4 n,DataW.trod enc P W base sp held n f0.type ((cs.drop f0.offset).take (P.cellsOf f0.type))=some y0∧DataW.trod enc P W base sp held n f1.type ((cs.drop f1.offset).take (P.cellsOf f1.type))=some y1 ∧
  DataW.trod enc P W base sp held n f2.type ((cs.drop f2.offset).take (P.cellsOf f2.type))=some y2∧DataW.trod enc P W base sp held n f3.type ((cs.drop f3.offset).take (P.cellsOf f3.type))=some y3 ∧
  DataW.trod enc P W base sp held n f4.type ((cs.drop f4.offset).take (P.cellsOf f4.type))=some y4:=by
 obtain ⟨xs,n,_,rfl,hl,hlen,hf⟩:=DataW.trod_struct ht h
 match xs,hlen with
 | [y0,y1,y2,y3,y4],_=>exact ⟨y0,y1,y2,y3,y4,n,by simpa using hf 0 f0 rfl,by simpa using hf 1 f1 rfl,by simpa using hf 2 f2 rfl,by simpa using hf 3 f3 rfl,by simpa using hf 4 f4 rfl⟩
theorem one_part {m:Nat} {cs:List Value} {x:DataW H × List MemPlace} (h:DataW.trod enc Tryz.prog W base sp held m 48 cs=some x) (hl:cs.length=8):∃ b:Prt × PAd,cs=pv b∧b.2.ok W b.1:=by
 obtain ⟨y0,y1,y2,y3,y4,n5,h0,h1,h2,h3,h4⟩:=trod_struct5 Tryz.underlying48 h
 match cs,hl with
 | [c0,c1,c2,c3,c4,c5,c6,c7],_ =>
  have k0:Tryz.prog.cellsOf 30=1:=by kernel_rfl
  have k1:Tryz.prog.cellsOf 3=1:=by kernel_rfl
  have k2:Tryz.prog.cellsOf 4=1:=by kernel_rfl
  have k4:Tryz.prog.cellsOf 46=4:=by kernel_rfl
  simp only [k0,k1,k2,k4,List.drop_zero,List.take_succ_cons,List.take_zero,List.drop_succ_cons] at h0 h1 h2 h3 h4
  obtain ⟨z0,z1,z2,z3,f1,-,-,g0,g1,g2,g3⟩:=Go.Joins.trod_struct4 Tryz.underlying46 h1
  simp only [k1,List.drop_zero,List.take_succ_cons,List.take_zero,List.drop_succ_cons] at g0 g1 g2 g3
  obtain ⟨a0,e0,-,-⟩:=DataW.trod_int Tryz.underlying3 g0
  obtain ⟨a1,e1,-,-⟩:=DataW.trod_int Tryz.underlying3 g1
  obtain ⟨a2,e2,-,-⟩:=DataW.trod_int Tryz.underlying3 g2
  obtain ⟨a3,e3,-,-⟩:=DataW.trod_int Tryz.underlying3 g3
  obtain ⟨ft,e4,-⟩:=DataW.trod_bool Tryz.underlying4 h2
  obtain ⟨fb,e5,-,-⟩:=DataW.trod_int Tryz.underlying3 h3
  obtain ⟨A,n,c,l,e6,hr,hm,-⟩:=open_nums_ h0
  obtain ⟨B,m',d,l2,e7,hr2,hm2,-⟩:=open_nums_ h4
  simp only [List.cons.injEq,and_true] at e0 e1 e2 e3 e4 e5
  subst e0 e1 e2 e3 e4 e5 e6 e7
  exact ⟨(⟨l,a0,a1,a2,a3,ft,fb,l2⟩,⟨A,n,c,B,m',d⟩),rfl,hr,hr2,hm,hm2⟩
theorem open_parts_ {m:Nat} {v:Value} {x:DataW H × List MemPlace} (h:DataW.trod enc Tryz.prog W base sp held m 22 [v]=some x):∃ A n c l,v=.slice A n c∧RdP W A n c l∧n≤maxLen:=by
 have hC:Tryz.prog.cellsOf 48=8:=by kernel_rfl
 rcases Go.Deep.open_slice Tryz.underlying22 h with ⟨hcs,-⟩|⟨a,len,cap,m',n,D,Pl,hcs,hb,hl,hm,hmm,hx,hi⟩
 · simp only [List.cons.injEq,and_true] at hcs
   exact ⟨none,0,0,[],hcs,⟨rfl,Nat.le_refl _,fun _=>⟨rfl,rfl⟩,[],rfl,by simp,.inl rfl⟩,Nat.zero_le _⟩
 · simp only [List.cons.injEq,and_true] at hcs
   have hle:len≤m':=by rw [hmm];split<;>omega
   rw [hC] at hi
   obtain ⟨X,hX⟩:=Go.Deep.choose_lt (α:=Prt × PAd) (n:=len) (p:=fun i b=>b.2.ok W b.1∧∀ j,j<8→W.cell? (a.add (i * 8+j))=(pv b)[j]?) (fun i hil=>by
    obtain ⟨cs',g1,g2⟩:=hi i (by omega)
    obtain ⟨-,g3,g4⟩:=World.cells?_some g1
    obtain ⟨b,rfl,hok⟩:=one_part g2 g3
    refine ⟨b,hok,fun j hj=>?_⟩
    have:=g4 j hj
    rw [Go.Deep.add_add] at this
    exact this)
   refine ⟨some a,len,cap,((List.range len).map X).map (·.1),hcs,⟨by simp,hl,(fun h=>by cases h),(List.range len).map X,rfl,?_,?_⟩,by omega⟩
   · intro x hx
     obtain ⟨i,hi,rfl⟩:=List.mem_map.1 hx
     exact (hX i (List.mem_range.1 hi)).1
   by_cases h0:len=0
   · subst h0;exact .inl rfl
   · obtain ⟨ab,ao,asp⟩:=a
     have z:=(hX 0 (by omega)).2 0 (by omega)
     have hs:asp=none:=by simpa [Addr.add] using World.cell?_spot (z.trans (show (pv (X 0))[0]?=some (.slice (X 0).2.A (X 0).2.n (X 0).2.c) from rfl))
     subst hs
     have hlt:ab<W.heap.size:=by simpa [Addr.add] using cell_low (z.trans (show (pv (X 0))[0]?=some (.slice (X 0).2.A (X 0).2.n (X 0).2.c) from rfl))
     refine .inr ⟨ab,ao,rfl,hlt,fun j u hu=>?_⟩
     have hj:j<len * 8:=by
      have:=(List.getElem?_eq_some_iff.1 hu).1
      rw [flat_len pv_len] at this
      simpa using this
     have e:j / 8 * 8+j % 8=j:=by omega
     have hlk:((List.range len).map X)[j / 8]?=some (X (j / 8)):=by
      rw [List.getElem?_map,List.getElem?_range (by omega)]
      rfl
     have h1:=flat_get pv_len ((List.range len).map X) (j / 8) (j % 8) _ hlk (Nat.mod_lt _ (by omega))
     rw [e] at h1
     have h2:=(hX (j / 8) (by omega)).2 (j % 8) (Nat.mod_lt _ (by omega))
     rw [e,add_flat] at h2
     rw [h2,← h1,hu]
theorem open_case {r:Reach} {b0:Nat} {v:Value} {d:DataW H} {p:List MemPlace} (hv:Value.okWide Tryz.prog W r b0 24 v) (h:DataW.Trod enc Tryz.prog W base sp held 24 v d p) :
 ∃ s a b A n c l,v=.agg #[.string s,.int .i64 a,.int .i64 b,.slice A n c]∧RdP W A n c l∧n≤maxLen:=by
 obtain ⟨v0,v1,v2,v3,y0,y1,y2,y3,m,rfl,-,-,h0,h1,h2,h3⟩:=Go.Joins.open_agg4 Tryz.underlying24 (by kernel_rfl) (by kernel_rfl) hv h
 obtain ⟨s,e0,-,-⟩:=DataW.trod_string Tryz.underlying9 h0
 obtain ⟨a,e1,-,-⟩:=DataW.trod_int Tryz.underlying3 h1
 obtain ⟨b,e2,-,-⟩:=DataW.trod_int Tryz.underlying3 h2
 obtain ⟨A,n,c,l,rfl,hr,hm⟩:=open_parts_ h3
 simp only [List.cons.injEq,and_true] at e0 e1 e2
 subst e0 e1 e2
 exact ⟨s,a,b,A,n,c,l,rfl,hr,hm⟩
end
end Go.Proofs.YtokpblmgdmokoaaGreat
namespace Go.Proofs.YtokpblmgdmokoaaGreat
open Go.Lib (hid)
open Go.RowKit
def fewP (p:Prt):Bool:=decide (p.sh.length≤60)&&decide (p.rs.length≤250)
def fewB (c:Cse):Bool:=(c.ps.take 50).all fewP&&decide (c.ware.size≤100)&&(decide (c.ps.length≤12) || (decide (38<c.ps.length)&&decide (c.ps.length≤42)))
theorem few_eq {ware:ByteArray} {lim by_:Int} {ps:List Prt}:fewB ⟨ware,lim,by_,ps⟩=((ps.take 50).all fewP&&decide ((ware.size:Int)≤100)&&(decide ((ps.length:Int)≤12) || (decide ((38:Int)<ps.length)&&decide ((ps.length:Int)≤42)))):=by
 unfold fewB
 rw [show decide ((ware.size:Int)≤100)=decide (ware.size≤100) from decide_eq_decide.2 (by omega),show decide ((ps.length:Int)≤12)=decide (ps.length≤12) from decide_eq_decide.2 (by omega),show decide ((38:Int)<ps.length)=decide (38<ps.length) from decide_eq_decide.2 (by omega),show decide ((ps.length:Int)≤42)=decide (ps.length≤42) from decide_eq_decide.2 (by omega)]
theorem few_bad {ware:ByteArray} {lim by_:Int} {ps:List Prt} {q:Nat} {p:Prt} (h:ps[q]?=some p) (hq:q<50) (hp:fewP p=false):fewB ⟨ware,lim,by_,ps⟩=false:=by
 unfold fewB
 have:(ps.take 50).all fewP=false:=by
  rw [List.all_eq_false]
  exact ⟨p,List.mem_of_getElem? (by rw [List.getElem?_take_of_lt hq];exact h),by simp [hp]⟩
 rw [show (Cse.mk ware lim by_ ps).ps=ps from rfl,this]
 rfl
set_option maxRecDepth 100000 in
theorem few_any (ware:ByteArray) (lim by_:Int) (A:Option Addr) (n k:Nat) (ps:List Prt) (w:World) (hr:RdP w A n k ps) (hn:n≤maxLen):Calls Tryz.prog 16 #[.agg #[.string ware,.int .i64 lim,.int .i64 by_,.slice A n k]] w fun e w'=>e=.returned (.bool (fewB ⟨ware,lim,by_,ps⟩))∧Below w.heap.size w w':=by
 have HRL:=hid hr.len
 have HR:=hid hr;clear hr
 unfold maxLen at hn
 go_enter Tryz.func16,Tryz.ntmps16
 obtain ⟨a1,a0⟩:=ent1 w #[.string ware,.int .i64 lim,.int .i64 by_,.slice A n k] 24
 obtain ⟨a3,a4,a5,a6⟩:=at4 a1
 go_wp2
 clear a3 a4 a5 a6
 obtain ⟨w2,hw2⟩:∃ v,v=(w.alloc (.cells #[.string ware,.int .i64 lim,.int .i64 by_,.slice A n k] 24)):=⟨_,rfl⟩
 rw [← hw2] at a0 a1 ⊢
 clear hw2
 obtain ⟨a7,a8,a9,a2⟩:=at4 a1
 go_loop [3] (fun i=>∃ q:Nat,q≤n∧q≤50∧i=.int .i64 q∧(ps.take q).all fewP=true) (fun i=>n-(intOf i).toNat)
 case atStart=>exact ⟨0,Nat.zero_le _,Nat.zero_le _,rfl,by simp⟩
 case round =>
  obtain ⟨q,hq,hq5,rfl,hall⟩:=hrel
  have HALL:=hid hall;clear hall
  by_cases hlt:q<n
  · have hlt':(q:Int)<n:=by omega
    by_cases h50:(q:Int)<50
    · obtain ⟨b,o,p,x,rfl,hbw,hx,hok,g0,-,-,-,-,-,-,g7⟩:=RdP.get HR.out hlt
      clear a7 a8 a9 a2
      obtain ⟨b0,b1,b2,b3⟩:=at4 a1
      have c0:=(Below.cell a0.out (p:=⟨b,_,none⟩) hbw).trans g0
      have c7:=(Below.cell a0.out (p:=⟨b,_,none⟩) hbw).trans g7
      clear g0 g7
      have hbw2:b<(w2).heap.size:=Nat.lt_of_lt_of_le hbw (Below.size a0.out)
      have LA:=hid hok.1.len;have LB:=hid hok.2.1.len;clear hok
      have HX:=hid hx;clear hx
      have HTK:=hid (show ps.take (q+1)=ps.take q++[p] by rw [List.take_add_one,HX.out];rfl)
      by_cases h60:(60:Int)<x.n
      · have HB:=hid (show fewP p=false by unfold fewP;rw [decide_eq_false (by rw [LA.out];omega)];rfl)
        go_wp2
        go_ret
        exact ⟨ret_bool ((few_bad HX.out (by omega) HB.out).symm),a0.out⟩
      · by_cases h250:(250:Int)<x.m
        · have HB:=hid (show fewP p=false by unfold fewP;rw [decide_eq_false (p:=p.rs.length≤250) (by rw [LB.out];omega),Bool.and_false])
          go_wp2
          go_ret
          exact ⟨ret_bool ((few_bad HX.out (by omega) HB.out).symm),a0.out⟩
        · have HB:=hid (show fewP p=true by unfold fewP;rw [decide_eq_true (by rw [LA.out];omega),decide_eq_true (by rw [LB.out];omega)];rfl)
          go_wp2
          go_round
          case rel=>exact ⟨q+1,by omega,by omega,by go_num,by rw [HTK.out,List.all_append,HALL.out];simp [HB.out]⟩
          case measure=>simp [intOf];omega
    · obtain rfl:q=50:=by omega
      have b4:¬ (n:Int)≤12:=by omega
      have b5:(38:Int)<n:=by omega
      have b6:¬ (n:Int)≤42:=by omega
      have HF:=hid (show (ps.take 50).all fewP=true by have:=HALL.out;exact this)
      by_cases hw:(ware.size:Int)≤100
      · go_wp2
        go_ret
        exact ⟨ret_bool (by rw [few_eq,HF.out,HRL.out,decide_eq_true hw,decide_eq_false (by omega),decide_eq_true (p:=(38:Int)<n) (by omega),decide_eq_false (by omega)];rfl),a0.out⟩
      · go_wp2
        go_ret
        exact ⟨ret_bool (by rw [few_eq,HF.out,HRL.out,decide_eq_false (p:=(ware.size:Int)≤100) (by omega)];rfl),a0.out⟩
  · obtain rfl:n=q:=by omega
    have hlt':¬ (n:Int)<n:=by omega
    have HF:=hid (show (ps.take 50).all fewP=true by have:=HALL.out;rw [List.take_of_length_le (by have:=HRL.out;omega)] at this ⊢;exact this)
    by_cases hw:(ware.size:Int)≤100
    · by_cases h12:(n:Int)≤12
      · go_wp2
        go_ret
        exact ⟨ret_bool (by rw [few_eq,HF.out,HRL.out,decide_eq_true hw,decide_eq_true h12];rfl),a0.out⟩
      · by_cases h38:(38:Int)<n
        · by_cases h42:(n:Int)≤42
          · go_wp2
            go_ret
            exact ⟨ret_bool (by rw [few_eq,HF.out,HRL.out,decide_eq_true hw,decide_eq_false (by omega),decide_eq_true h38,decide_eq_true h42];rfl),a0.out⟩
          · go_wp2
            go_ret
            exact ⟨ret_bool (by rw [few_eq,HF.out,HRL.out,decide_eq_true hw,decide_eq_false (by omega),decide_eq_true h38,decide_eq_false (by omega)];rfl),a0.out⟩
        · go_wp2
          go_ret
          exact ⟨ret_bool (by rw [few_eq,HF.out,HRL.out,decide_eq_true hw,decide_eq_false (by omega),decide_eq_false (by omega)];rfl),a0.out⟩
    · go_wp2
      go_ret
      exact ⟨ret_bool (by rw [few_eq,HF.out,HRL.out,decide_eq_false (p:=(ware.size:Int)≤100) (by omega)];rfl),a0.out⟩
theorem few_is (ware:ByteArray) (lim by_:Int) (A:Option Addr) (n k:Nat) (ps:List Prt) (w:World) (hr:RdP w A n k ps) (hn:n≤maxLen) (v:Bool) (hv:fewB ⟨ware,lim,by_,ps⟩=v):Calls Tryz.prog 16 #[.agg #[.string ware,.int .i64 lim,.int .i64 by_,.slice A n k]] w fun e w'=>e=.returned (.bool v)∧Below w.heap.size w w':=by
 subst hv
 exact few_any ware lim by_ A n k ps w hr hn
open Go.ChangeShapes Go.WideShapes Go.ChangeAt Go.RowKit
theorem first_gone {l:List Int} {j:Nat} {v x:Int} (h:l[j]?=some v) (hf:decide (x ∉ l.take j)=false):decide (x ∉ l.take (j+1))=false:=by
 rw [decide_eq_false_iff_not,Decidable.not_not] at hf ⊢
 exact (mem_take h).2 (.inl hf)
theorem first_hit {l:List Int} {j:Nat} {v x:Int} (h:l[j]?=some v) (he:v=x):decide (x ∉ l.take (j+1))=false:=by
 rw [decide_eq_false_iff_not,Decidable.not_not]
 exact (mem_take h).2 (.inr he.symm)
theorem first_on {l:List Int} {j:Nat} {v x:Int} (h:l[j]?=some v) (he:v≠x) (hf:decide (x ∉ l.take j)=true):decide (x ∉ l.take (j+1))=true:=by
 rw [decide_eq_true_eq] at hf ⊢
 rw [mem_take h]
 exact fun e=>e.elim hf (fun e=>he e.symm)
set_option maxRecDepth 100000 in
theorem wc_w1 (w:World) (ware:ByteArray) (lim by_:Int) (A:Option Addr) (n k:Nat) (ps:List Prt) (B:Option Addr) (m d:Nat) (l:List Int) (hr:RdP w A n k ps) (hn:n≤maxLen) (hl:RdI w B m d l) (hm:m≤maxLen) (hf:fewB ⟨ware,lim,by_,ps⟩=false):Calls Tryz.prog 4 #[.agg #[.string ware,.int .i64 lim,.int .i64 by_,.slice A n k],.slice B m d] w fun e w'=>e=.returned (.bool true)∧Below w.heap.size w w':=by
 have HF:=hid hf;clear hf
 go_enter Tryz.func4,Tryz.ntmps4
 obtain ⟨a0,a1⟩:=ent1 w #[.string ware,.int .i64 lim,.int .i64 by_,.slice A n k] 24
 have a4:=hid (RdP.below (hr) a1.out)
 have b4:=iI hl a1
 clear hr hl
 obtain ⟨a9,b0,b1,b2⟩:=at4 a0
 have hc:=few_is ware lim by_ A n k ps ((w.alloc (.cells #[.string ware,.int .i64 lim,.int .i64 by_,.slice A n k] 24))) a4.out hn _ HF.out
 have HC:=hid hc;clear hc
 go_wp2_with fail
 refine HC.out.mono ?_
 rintro e b3 ⟨rfl,hb⟩
 clear HC
 clear a9 b0 b1 b2
 have a2:=hid hb
 clear hb
 replace a0:=kH a0 a2
 obtain ⟨a5,a6,a7,a8⟩:=at4 a0
 have hc:=told_any (b3)
 have HC:=hid hc;clear hc
 go_wp2_with fail
 refine HC.out.mono ?_
 rintro e b5 ⟨rfl,hb⟩
 clear HC
 clear a5 a6 a7 a8
 have a3:=hid hb
 clear hb
 replace a0:=kH a0 a3
 obtain ⟨b6,b7,b8,b9⟩:=at4 a0
 go_wp2
 go_ret
 replace a1:=bH (bH a1 a2) a3
 exact ⟨rfl,a1.out⟩
set_option maxRecDepth 100000 in
theorem wc_w2 (w:World) (ware:ByteArray) (lim by_:Int) (A:Option Addr) (n k:Nat) (ps:List Prt) (B:Option Addr) (m d:Nat) (l:List Int) (hr:RdP w A n k ps) (hn:n≤maxLen) (hl:RdI w B m d l) (hm:m≤maxLen) (hf:fewB ⟨ware,lim,by_,ps⟩=true) (h60:(60:Int)<m):Calls Tryz.prog 4 #[.agg #[.string ware,.int .i64 lim,.int .i64 by_,.slice A n k],.slice B m d] w fun e w'=>e=.returned (.bool true)∧Below w.heap.size w w':=by
 have HF:=hid hf;clear hf
 go_enter Tryz.func4,Tryz.ntmps4
 obtain ⟨a0,a1⟩:=ent1 w #[.string ware,.int .i64 lim,.int .i64 by_,.slice A n k] 24
 have a4:=hid (RdP.below (hr) a1.out)
 have b4:=iI hl a1
 clear hr hl
 obtain ⟨a9,b0,b1,b2⟩:=at4 a0
 have hc:=few_is ware lim by_ A n k ps ((w.alloc (.cells #[.string ware,.int .i64 lim,.int .i64 by_,.slice A n k] 24))) a4.out hn _ HF.out
 have HC:=hid hc;clear hc
 go_wp2_with fail
 refine HC.out.mono ?_
 rintro e b3 ⟨rfl,hb⟩
 clear HC
 clear a9 b0 b1 b2
 have a2:=hid hb
 clear hb
 replace a0:=kH a0 a2
 obtain ⟨a5,a6,a7,a8⟩:=at4 a0
 have hc:=told_any (b3)
 have HC:=hid hc;clear hc
 go_wp2_with fail
 refine HC.out.mono ?_
 rintro e b5 ⟨rfl,hb⟩
 clear HC
 clear a5 a6 a7 a8
 have a3:=hid hb
 clear hb
 replace a0:=kH a0 a3
 obtain ⟨b6,b7,b8,b9⟩:=at4 a0
 go_wp2
 go_ret
 replace a1:=bH (bH a1 a2) a3
 exact ⟨rfl,a1.out⟩
set_option maxRecDepth 100000 in
theorem wc_no (w:World) (ware:ByteArray) (lim by_:Int) (A:Option Addr) (n k:Nat) (ps:List Prt) (B:Option Addr) (m d:Nat) (l:List Int) (hr:RdP w A n k ps) (hn:n≤maxLen) (hl:RdI w B m d l) (hm:m≤maxLen) (hf:fewB ⟨ware,lim,by_,ps⟩=true) (h60:¬ (60:Int)<m) (q:Int) (hq:askP ⟨ware,lim,by_,ps⟩ l=q) (hne:q≠0):Calls Tryz.prog 4 #[.agg #[.string ware,.int .i64 lim,.int .i64 by_,.slice A n k],.slice B m d] w fun e w'=>e=.returned (.bool true)∧Below w.heap.size w w':=by
 have HF:=hid hf;have HQ:=hid hq;clear hf hq
 go_enter Tryz.func4,Tryz.ntmps4
 obtain ⟨a0,a5⟩:=ent1 w #[.string ware,.int .i64 lim,.int .i64 by_,.slice A n k] 24
 have a2:=hid (RdP.below (hr) a5.out)
 have a4:=iI hl a5
 clear hr hl
 obtain ⟨f0,f1,f2,f3⟩:=at4 a0
 have hc:=few_is ware lim by_ A n k ps ((w.alloc (.cells #[.string ware,.int .i64 lim,.int .i64 by_,.slice A n k] 24))) a2.out hn _ HF.out
 have HC:=hid hc;clear hc
 go_wp2_with fail
 refine HC.out.mono ?_
 rintro e f4 ⟨rfl,hb⟩
 clear HC
 clear f0 f1 f2 f3
 have a8:=hid hb
 clear hb
 replace a0:=kH a0 a8
 obtain ⟨b4,b5,b6,b7⟩:=at4 a0
 replace a2:=hid (RdP.below (a2.out) a8.out)
 replace a4:=iH a4 a8
 have hc:=Common_no ware lim by_ A n k ps B m d l (f4) a2.out a4.out hn hm q HQ.out hne
 have HC:=hid hc;clear hc
 go_wp2_with fail
 refine HC.out.mono ?_
 rintro e b2 ⟨rfl,hb⟩
 clear HC
 clear b4 b5 b6 b7
 have a9:=hid hb
 clear hb
 obtain ⟨o_,ho_⟩:∃ o,o=((.cells #[.int .i64 0,.int .i64 0] 41):Obj):=⟨_,rfl⟩
 replace a5:=bA (bH (bH a5 a8) a9) o_
 replace a2:=hid (RdP.alloc ((hid (RdP.below (a2.out) a9.out)).out) (o_))
 replace a4:=iA (iH a4 a9) o_
 replace a0:=kA (kH a0 a9) o_
 subst ho_
 have a1:=hid (Blk.new b2 41 #[.int .i64 0,.int .i64 0])
 obtain ⟨b8,b9,c0,c1⟩:=at4 a0
 obtain ⟨c2,c3⟩:=at2 a1
 have hc:=xCommon_no ware lim by_ A n k ps B m d l ((b2.alloc (.cells #[.int .i64 0,.int .i64 0] 41))) a2.out a4.out hn hm q HQ.out hne
 have HC:=hid hc;clear hc
 go_wp2_with fail
 refine HC.out.mono ?_
 rintro e b3 ⟨rfl,hb⟩
 clear HC
 clear b8 b9 c0 c1 c2 c3
 have a7:=hid hb
 clear hb
 obtain ⟨o_,ho_⟩:∃ o,o=((.cells #[.int .i64 0,.int .i64 0] 41):Obj):=⟨_,rfl⟩
 replace a5:=bA (bH a5 a7) o_
 replace a2:=hid (RdP.alloc ((hid (RdP.below (a2.out) a7.out)).out) (o_))
 replace a4:=iA (iH a4 a7) o_
 replace a0:=kA (kH a0 a7) o_
 replace a1:=kA (kH a1 a7) o_
 subst ho_
 have a3:=hid (Blk.new b3 41 #[.int .i64 0,.int .i64 0])
 obtain ⟨c4,c5,c6,c7⟩:=at4 a0
 obtain ⟨c8,c9⟩:=at2 a1
 obtain ⟨d0,d1⟩:=at2 a3
 have hc:=One_no ware lim by_ A n k ps B m d l ((b3.alloc (.cells #[.int .i64 0,.int .i64 0] 41))) a2.out a4.out hn hm q HQ.out hne
 have HC:=hid hc;clear hc
 go_wp2_with fail
 refine HC.out.mono ?_
 rintro e d2 ⟨rfl,hb⟩
 clear HC
 clear c4 c5 c6 c7 c8 c9 d0 d1
 have a6:=hid hb
 clear hb
 replace a0:=kH a0 a6
 obtain ⟨d3,d4,d5,d6⟩:=at4 a0
 replace a1:=kH a1 a6
 obtain ⟨d7,d8⟩:=at2 a1
 replace a3:=kH a3 a6
 obtain ⟨d9,e0⟩:=at2 a3
 replace a2:=hid (RdP.below (a2.out) a6.out)
 replace a4:=iH a4 a6
 have hc:=xOne_no ware lim by_ A n k ps B m d l (d2) a2.out a4.out hn hm q HQ.out hne
 have HC:=hid hc;clear hc
 go_wp2_with fail
 refine HC.out.mono ?_
 rintro e e1 ⟨rfl,hb⟩
 clear HC
 clear d3 d4 d5 d6 d7 d8 d9 e0
 have b0:=hid hb
 clear hb
 replace a0:=kH a0 b0
 obtain ⟨e2,e3,e4,e5⟩:=at4 a0
 replace a1:=kH a1 b0
 obtain ⟨e6,e7⟩:=at2 a1
 replace a3:=kH a3 b0
 obtain ⟨e8,e9⟩:=at2 a3
 have hc:=told_any (e1)
 have HC:=hid hc;clear hc
 go_wp2_with fail
 refine HC.out.mono ?_
 rintro e f5 ⟨rfl,hb⟩
 clear HC
 clear e2 e3 e4 e5 e6 e7 e8 e9
 have b1:=hid hb
 clear hb
 replace a0:=kH a0 b1
 obtain ⟨f6,f7,f8,f9⟩:=at4 a0
 replace a1:=kH a1 b1
 obtain ⟨g0,g1⟩:=at2 a1
 replace a3:=kH a3 b1
 obtain ⟨g2,g3⟩:=at2 a3
 go_wp2
 go_ret
 replace a5:=bH (bH (bH a5 a6) b0) b1
 exact ⟨rfl,a5.out⟩
set_option maxRecDepth 100000 in
theorem wc_none (w:World) (ware:ByteArray) (lim by_:Int) (A:Option Addr) (n k:Nat) (ps:List Prt) (B:Option Addr) (m d:Nat) (l:List Int) (hr:RdP w A n k ps) (hn:n≤maxLen) (hl:RdI w B m d l) (hm:m≤maxLen) (hf:fewB ⟨ware,lim,by_,ps⟩=true) (h60:¬ (60:Int)<m) (hq:askP ⟨ware,lim,by_,ps⟩ l=0) (R:Rng) (hR:comR ps l=R) (hgt:R.hi<R.lo) (v:Bool) (hv:v=true ↔ NoCl ps l) (hvo:(!anyN (clB ps) (uniL l []) (uniL l []).length)=v) (hvf:v=false):Calls Tryz.prog 4 #[.agg #[.string ware,.int .i64 lim,.int .i64 by_,.slice A n k],.slice B m d] w fun e w'=>e=.returned (.bool true)∧Below w.heap.size w w':=by
 subst hvf
 have HIN:=hid (askP_all hq (show (Cse.mk ware lim by_ ps).ps.length=n from hr.len))
 have HF:=hid hf;have HQ:=hid hq;have HRR:=hid hR;have HVV:=hid hv;have HVO:=hid hvo;clear hf hq hR hv hvo
 have HR:=hid hr;have HL:=hid hl
 have hn2:=hn;have hm2:=hm;unfold maxLen at hn2 hm2
 go_enter Tryz.func4,Tryz.ntmps4
 obtain ⟨a2,a6⟩:=ent1 w #[.string ware,.int .i64 lim,.int .i64 by_,.slice A n k] 24
 have a3:=hid (RdP.below (hr) a6.out)
 have a4:=iI hl a6
 clear hr hl
 obtain ⟨h4,h5,h6,h7⟩:=at4 a2
 have hc:=few_is ware lim by_ A n k ps ((w.alloc (.cells #[.string ware,.int .i64 lim,.int .i64 by_,.slice A n k] 24))) a3.out hn _ HF.out
 have HC:=hid hc;clear hc
 go_wp2_with fail
 refine HC.out.mono ?_
 rintro e h8 ⟨rfl,hb⟩
 clear HC
 clear h4 h5 h6 h7
 have b3:=hid hb
 clear hb
 replace a2:=kH a2 b3
 obtain ⟨d6,d7,d8,d9⟩:=at4 a2
 replace a3:=hid (RdP.below (a3.out) b3.out)
 replace a4:=iH a4 b3
 have hc:=Common_none ware lim by_ A n k ps B m d l (h8) a3.out a4.out hn hm HQ.out R HRR.out hgt
 have HC:=hid hc;clear hc
 go_wp2_with fail
 refine HC.out.mono ?_
 rintro e d4 ⟨rfl,hb⟩
 clear HC
 clear d6 d7 d8 d9
 have b4:=hid hb
 clear hb
 obtain ⟨o_,ho_⟩:∃ o,o=((.cells #[.int .i64 0,.int .i64 0] 41):Obj):=⟨_,rfl⟩
 replace a6:=bA (bH (bH a6 b3) b4) o_
 replace a3:=hid (RdP.alloc ((hid (RdP.below (a3.out) b4.out)).out) (o_))
 replace a4:=iA (iH a4 b4) o_
 replace a2:=kA (kH a2 b4) o_
 subst ho_
 have a5:=hid (Blk.new d4 41 #[.int .i64 0,.int .i64 0])
 obtain ⟨e1,e3,e4,e5⟩:=at4 a2
 obtain ⟨e6,e7⟩:=at2 a5
 have hc:=xCommon_none ware lim by_ A n k ps B m d l ((d4.alloc (.cells #[.int .i64 0,.int .i64 0] 41))) a3.out a4.out hn hm HQ.out R HRR.out hgt
 have HC:=hid hc;clear hc
 go_wp2_with fail
 refine HC.out.mono ?_
 rintro e d5 ⟨rfl,hb⟩
 clear HC
 clear e1 e3 e4 e5 e6 e7
 have b2:=hid hb
 clear hb
 obtain ⟨o_,ho_⟩:∃ o,o=((.cells #[.int .i64 0,.int .i64 0] 41):Obj):=⟨_,rfl⟩
 replace a6:=bA (bH a6 b2) o_
 replace a3:=hid (RdP.alloc ((hid (RdP.below (a3.out) b2.out)).out) (o_))
 replace a4:=iA (iH a4 b2) o_
 replace a2:=kA (kH a2 b2) o_
 replace a5:=kA (kH a5 b2) o_
 subst ho_
 have a7:=hid (Blk.new d5 41 #[.int .i64 0,.int .i64 0])
 obtain ⟨e8,e9,f0,f1⟩:=at4 a2
 obtain ⟨f2,f3⟩:=at2 a5
 obtain ⟨f4,f5⟩:=at2 a7
 have hc:=One_yes ware lim by_ A n k ps B m d l ((d5.alloc (.cells #[.int .i64 0,.int .i64 0] 41))) a3.out a4.out hn hm (by omega) HQ.out
 rw [HVO.out] at hc
 try dsimp only at hc
 have HC:=hid hc;clear hc
 go_wp2_with fail
 refine HC.out.mono ?_
 rintro e f6 ⟨rfl,hb⟩
 clear HC
 clear e8 e9 f0 f1 f2 f3 f4 f5
 have b0:=hid hb
 clear hb
 replace a2:=kH a2 b0
 obtain ⟨f7,f8,f9,g0⟩:=at4 a2
 replace a5:=kH a5 b0
 obtain ⟨g1,g2⟩:=at2 a5
 replace a7:=kH a7 b0
 obtain ⟨g3,g4⟩:=at2 a7
 replace a3:=hid (RdP.below (a3.out) b0.out)
 replace a4:=iH a4 b0
 have hc:=xOne_yes ware lim by_ A n k ps B m d l (f6) a3.out a4.out hn hm HQ.out false HVV.out
 have HC:=hid hc;clear hc
 go_wp2_with fail
 refine HC.out.mono ?_
 rintro e j0 ⟨rfl,hb⟩
 clear HC
 clear f7 f8 f9 g0 g1 g2 g3 g4
 have b1:=hid hb
 clear hb
 replace a2:=kH a2 b1
 obtain ⟨g6,g7,g8,g9⟩:=at4 a2
 replace a5:=kH a5 b1
 obtain ⟨h0,h1⟩:=at2 a5
 replace a7:=kH a7 b1
 obtain ⟨h2,h3⟩:=at2 a7
 go_wp2
 clear g6 g7 g8 g9 h0 h1 h2 h3
 replace a6:=bH (bH a6 b0) b1
 replace a3:=hid (RdP.below (a3.out) b1.out)
 replace a4:=iH a4 b1
 go_loopw [15,16] (fun f i wr=>∃ q:Nat,q≤m∧f=.int .i64 (feetN ps l q:Nat)∧i=.int .i64 q∧Blk wr w.heap.size 24 #[.string ware,.int .i64 lim,.int .i64 by_,.slice A n k]∧Below w.heap.size w wr) (fun _ i _=>m-(intOf i).toNat)
 case atStart=>exact ⟨0,Nat.zero_le _,rfl,rfl,a2.out,a6.out⟩
 case round =>
  clear a6 a3 a4 a2 a5 a7
  obtain ⟨q,hq,rfl,rfl,hbc,hbe⟩:=hrel
  obtain ⟨wa,rfl⟩:∃ v,v=wr:=⟨wr,rfl⟩
  obtain ⟨F,hF⟩:∃ F,feetN ps l q=F:=⟨_,rfl⟩
  have hFq:F≤q:=by rw [← hF];exact feetN_le ps l q
  rw [hF]
  have HF2:=hid hF;clear hF
  have a9:=hid (hbc)
  have a8:=hid (hbe)
  clear hbc hbe
  by_cases hlt:q<m
  · have hlt':(q:Int)<m:=by omega
    obtain ⟨b9,o9,v9,rfl,hb9,hv,e0⟩:=RdI.get HL.out hlt
    obtain ⟨i,rfl,hi⟩:=HIN.out v9 (List.mem_of_getElem? hv)
    have hi':(i:Int)<n:=by omega
    have HV:=hid hv;have HB9:=hid hb9;have E0:=hid e0;clear hv hb9 e0
    have HVD:=hid (show l.getD q 0=(i:Int) by rw [List.getD_eq_getElem?_getD,HV.out];rfl)
    go_wp2
    go_loopw [17,18] (fun f k' wr=>∃ j:Nat,j≤q∧f=.bool (decide ((i:Int) ∉ l.take j))∧k'=.int .i64 j∧Blk wr w.heap.size 24 #[.string ware,.int .i64 lim,.int .i64 by_,.slice A n k]∧Below w.heap.size w wr) (fun _ k' _=>q-(intOf k').toNat)
    case atStart=>exact ⟨0,Nat.zero_le _,by simp,rfl,a9.out,a8.out⟩
    case round =>
     clear a9 a8
     obtain ⟨j,hj,rfl,rfl,hbc,hbe⟩:=hrel
     obtain ⟨fb,hfb⟩:∃ fb,decide ((i:Int) ∉ l.take j)=fb:=⟨_,rfl⟩
     rw [hfb]
     have HFB:=hid hfb;clear hfb
     have a1:=hid (hbc)
     have a0:=hid (hbe)
     clear hbc hbe
     by_cases hjq:j<q
     · have hjq':(j:Int)<q:=by omega
       have hjm:(j:Int)<m:=by omega
       obtain ⟨b8,o8,v2,hA2,-,hv2,e2⟩:=RdI.get HL.out (k:=j) (by omega)
       injection hA2 with hA2;injection hA2 with hA3 hA4;subst hA3 hA4
       have HV2:=hid hv2;have E2:=hid e2;clear hv2 e2
       go_wp2
       cases fb
       · replace a1:=kD a1
         replace a0:=bD a0
         refine wp_region_held_drew (S:=(fun W'=>Blk W' (w.heap.size) 24 #[.string ware,.int .i64 lim,.int .i64 by_,.slice A n k]∧Below w.heap.size w W')) (by kernel_rfl) ⟨a1.out,a0.out⟩ (fun _=>?_)
         obtain ⟨i4,b5⟩:∃ w',w'=(wr.drew):=⟨_,rfl⟩
         rw [← b5] at a1 a0
         rw [← b5]
         clear b5
         refine' twH 0 ⟨a1.out,a0.out⟩ ?_
         refine' twH 1 ⟨a1.out,a0.out⟩ ?_
         refine' tkNH 2 ⟨a1.out,a0.out⟩ ?_
         refine' tkNH 3 ⟨a1.out,a0.out⟩ ?_
         try simp only [pq]
         refine' tkNH 4 ⟨a1.out,a0.out⟩ ?_
         refine' tkNH 5 ⟨a1.out,a0.out⟩ ?_
         refine' tkNH 6 ⟨a1.out,a0.out⟩ ?_
         refine' tkNH 7 ⟨a1.out,a0.out⟩ ?_
         try simp only [pq]
         refine' tkNH 8 ⟨a1.out,a0.out⟩ ?_
         refine' tkNH 9 ⟨a1.out,a0.out⟩ ?_
         refine' tkNH 10 ⟨a1.out,a0.out⟩ ?_
         refine' twH 11 ⟨a1.out,a0.out⟩ ?_
         try simp only [pq]
         refine' twH 12 ⟨a1.out,a0.out⟩ ?_
         try simp only [pq]
         refine wpAnyH_done (by kernel_rfl) ?_ _
         go_wp2
         go_roundw
         case rel=>exact ⟨j+1,by omega,by rw [first_gone HV2.out HFB.out],by go_num,a1.out,a0.out⟩
         case measure=>simp [intOf];omega
       · by_cases hvv:v2=(i:Int)
         · have HVE:=hid hvv
           have hne:(v2 != (i:Int))=false:=by simpa using hvv
           clear hvv
           replace a1:=kD a1
           replace a0:=bD a0
           refine wp_region_held_drew (S:=(fun W'=>Blk W' (w.heap.size) 24 #[.string ware,.int .i64 lim,.int .i64 by_,.slice A n k]∧Below w.heap.size w W')) (by kernel_rfl) ⟨a1.out,a0.out⟩ (fun _=>?_)
           obtain ⟨i5,b6⟩:∃ w',w'=(wr.drew):=⟨_,rfl⟩
           rw [← b6] at a1 a0
           rw [← b6]
           clear b6
           refine' twH 0 ⟨a1.out,a0.out⟩ ?_
           refine' twH 1 ⟨a1.out,a0.out⟩ ?_
           refine' twH 2 ⟨a1.out,a0.out⟩ ?_
           refine' twH 3 ⟨a1.out,a0.out⟩ ?_
           try simp only [pq]
           refine' twH 4 ⟨a1.out,a0.out⟩ ?_
           refine' tkH 5 ⟨a1.out,a0.out⟩ ?c4 ?_
           case c4=>(rintro W' ⟨hS0,hS1⟩;have hc0:=(Below.cell hS1 (p:=⟨b9,_,none⟩) HB9.out).trans E2.out;clear hS0 hS1;go_simp;try with_reducible rfl)
           refine' twH 6 ⟨a1.out,a0.out⟩ ?_
           refine' twH 7 ⟨a1.out,a0.out⟩ ?_
           try simp only [pq]
           refine' twH 8 ⟨a1.out,a0.out⟩ ?_
           refine' tkH 9 ⟨a1.out,a0.out⟩ ?c5 ?_
           case c5=>(rintro W' ⟨hS0,hS1⟩;have hc0:=(Below.cell hS1 (p:=⟨b9,_,none⟩) HB9.out).trans E0.out;clear hS0 hS1;go_simp;try with_reducible rfl)
           refine' twH 10 ⟨a1.out,a0.out⟩ ?_
           refine' twH 11 ⟨a1.out,a0.out⟩ ?_
           try simp only [pq]
           refine' twH 12 ⟨a1.out,a0.out⟩ ?_
           try simp only [pq]
           refine wpAnyH_done (by kernel_rfl) ?_ _
           go_wp2
           go_roundw
           case rel=>exact ⟨j+1,by omega,by rw [first_hit HV2.out HVE.out],by go_num,a1.out,a0.out⟩
           case measure=>simp [intOf];omega
         · have HVE:=hid hvv
           have hne:(v2 != (i:Int))=true:=by simpa using hvv
           clear hvv
           replace a1:=kD a1
           replace a0:=bD a0
           refine wp_region_held_drew (S:=(fun W'=>Blk W' (w.heap.size) 24 #[.string ware,.int .i64 lim,.int .i64 by_,.slice A n k]∧Below w.heap.size w W')) (by kernel_rfl) ⟨a1.out,a0.out⟩ (fun _=>?_)
           obtain ⟨i6,b7⟩:∃ w',w'=(wr.drew):=⟨_,rfl⟩
           rw [← b7] at a1 a0
           rw [← b7]
           clear b7
           refine' twH 0 ⟨a1.out,a0.out⟩ ?_
           refine' twH 1 ⟨a1.out,a0.out⟩ ?_
           refine' twH 2 ⟨a1.out,a0.out⟩ ?_
           refine' twH 3 ⟨a1.out,a0.out⟩ ?_
           try simp only [pq]
           refine' twH 4 ⟨a1.out,a0.out⟩ ?_
           refine' tkH 5 ⟨a1.out,a0.out⟩ ?c6 ?_
           case c6=>(rintro W' ⟨hS0,hS1⟩;have hc0:=(Below.cell hS1 (p:=⟨b9,_,none⟩) HB9.out).trans E2.out;clear hS0 hS1;go_simp;try with_reducible rfl)
           refine' twH 6 ⟨a1.out,a0.out⟩ ?_
           refine' twH 7 ⟨a1.out,a0.out⟩ ?_
           try simp only [pq]
           refine' twH 8 ⟨a1.out,a0.out⟩ ?_
           refine' tkH 9 ⟨a1.out,a0.out⟩ ?c7 ?_
           case c7=>(rintro W' ⟨hS0,hS1⟩;have hc0:=(Below.cell hS1 (p:=⟨b9,_,none⟩) HB9.out).trans E0.out;clear hS0 hS1;go_simp;try with_reducible rfl)
           refine' twH 10 ⟨a1.out,a0.out⟩ ?_
           refine' twH 11 ⟨a1.out,a0.out⟩ ?_
           try simp only [pq]
           refine' twH 12 ⟨a1.out,a0.out⟩ ?_
           try simp only [pq]
           refine wpAnyH_done (by kernel_rfl) ?_ _
           go_wp2
           go_roundw
           case rel=>exact ⟨j+1,by omega,by rw [first_on HV2.out HVE.out HFB.out],by go_num,a1.out,a0.out⟩
           case measure=>simp [intOf];omega
     · obtain rfl:q=j:=by omega
       obtain ⟨b,o,p,x,rfl,hbw,hx,-,-,-,-,-,-,g5,-,-⟩:=RdP.get HR.out hi
       have HBW:=hid hbw;have HP:=hid (ptA_at hx);clear hbw hx
       obtain ⟨ft,hft⟩:∃ f,p.ft=f:=⟨_,rfl⟩
       rw [hft] at g5
       have HFT:=hid hft;have G5:=hid g5;clear hft g5
       have HFF:=hid (show ffB ps l q=(fb&&ft) by unfold ffB;rw [HVD.out,HFB.out,HP.out,HFT.out])
       go_wp2
       cases fb
       · replace a1:=kD a1
         replace a0:=bD a0
         refine wp_region_held_drew (S:=(fun W'=>Blk W' (w.heap.size) 24 #[.string ware,.int .i64 lim,.int .i64 by_,.slice (some ⟨b,o,none⟩) n k]∧Below w.heap.size w W')) (by kernel_rfl) ⟨a1.out,a0.out⟩ (fun _=>?_)
         obtain ⟨i7,c0⟩:∃ w',w'=(wr.drew):=⟨_,rfl⟩
         rw [← c0] at a1 a0
         rw [← c0]
         clear c0
         refine' twH 0 ⟨a1.out,a0.out⟩ ?_
         refine' twH 1 ⟨a1.out,a0.out⟩ ?_
         refine' tkNH 2 ⟨a1.out,a0.out⟩ ?_
         refine' tkNH 3 ⟨a1.out,a0.out⟩ ?_
         try simp only [pq]
         refine' tkNH 4 ⟨a1.out,a0.out⟩ ?_
         refine' tkNH 5 ⟨a1.out,a0.out⟩ ?_
         refine' tkNH 6 ⟨a1.out,a0.out⟩ ?_
         refine' tkNH 7 ⟨a1.out,a0.out⟩ ?_
         try simp only [pq]
         refine' tkNH 8 ⟨a1.out,a0.out⟩ ?_
         refine' tkNH 9 ⟨a1.out,a0.out⟩ ?_
         refine' tkNH 10 ⟨a1.out,a0.out⟩ ?_
         refine' twH 11 ⟨a1.out,a0.out⟩ ?_
         try simp only [pq]
         refine wpAnyH_done (by kernel_rfl) ?_ _
         go_wp2
         go_roundw
         case rel=>exact ⟨q+1,by omega,by rw [feetN_no HFF.out,HF2.out],by go_num,a1.out,a0.out⟩
         case measure=>simp [intOf];omega
       · cases ft
         · replace a1:=kD a1
           replace a0:=bD a0
           refine wp_region_held_drew (S:=(fun W'=>Blk W' (w.heap.size) 24 #[.string ware,.int .i64 lim,.int .i64 by_,.slice (some ⟨b,o,none⟩) n k]∧Below w.heap.size w W')) (by kernel_rfl) ⟨a1.out,a0.out⟩ (fun _=>?_)
           obtain ⟨i8,c1⟩:∃ w',w'=(wr.drew):=⟨_,rfl⟩
           rw [← c1] at a1 a0
           rw [← c1]
           clear c1
           refine' twH 0 ⟨a1.out,a0.out⟩ ?_
           refine' twH 1 ⟨a1.out,a0.out⟩ ?_
           refine' twH 2 ⟨a1.out,a0.out⟩ ?_
           refine' tkH 3 ⟨a1.out,a0.out⟩ ?c8 ?_
           case c8=>(rintro W' ⟨hS0,hS1⟩;have hc0:=Blk.nth hS0 3;clear hS0 hS1;go_simp;try with_reducible rfl)
           try simp only [pq]
           refine' twH 4 ⟨a1.out,a0.out⟩ ?_
           refine' twH 5 ⟨a1.out,a0.out⟩ ?_
           refine' twH 6 ⟨a1.out,a0.out⟩ ?_
           refine' tkH 7 ⟨a1.out,a0.out⟩ ?c9 ?_
           case c9=>(rintro W' ⟨hS0,hS1⟩;have hc0:=(Below.cell hS1 (p:=⟨b9,_,none⟩) HB9.out).trans E0.out;clear hS0 hS1;go_simp;try with_reducible rfl)
           try simp only [pq]
           refine' twH 8 ⟨a1.out,a0.out⟩ ?_
           refine' twH 9 ⟨a1.out,a0.out⟩ ?_
           refine' tkH 10 ⟨a1.out,a0.out⟩ ?d0 ?_
           case d0=>(rintro W' ⟨hS0,hS1⟩;have hc0:=(Below.cell hS1 (p:=⟨b,_,none⟩) HBW.out).trans G5.out;clear hS0 hS1;go_simp;try with_reducible rfl)
           refine' twH 11 ⟨a1.out,a0.out⟩ ?_
           try simp only [pq]
           refine wpAnyH_done (by kernel_rfl) ?_ _
           go_wp2
           go_roundw
           case rel=>exact ⟨q+1,by omega,by rw [feetN_no HFF.out,HF2.out],by go_num,a1.out,a0.out⟩
           case measure=>simp [intOf];omega
         · replace a1:=kD a1
           replace a0:=bD a0
           refine wp_region_held_drew (S:=(fun W'=>Blk W' (w.heap.size) 24 #[.string ware,.int .i64 lim,.int .i64 by_,.slice (some ⟨b,o,none⟩) n k]∧Below w.heap.size w W')) (by kernel_rfl) ⟨a1.out,a0.out⟩ (fun _=>?_)
           obtain ⟨i9,c2⟩:∃ w',w'=(wr.drew):=⟨_,rfl⟩
           rw [← c2] at a1 a0
           rw [← c2]
           clear c2
           refine' twH 0 ⟨a1.out,a0.out⟩ ?_
           refine' twH 1 ⟨a1.out,a0.out⟩ ?_
           refine' twH 2 ⟨a1.out,a0.out⟩ ?_
           refine' tkH 3 ⟨a1.out,a0.out⟩ ?d1 ?_
           case d1=>(rintro W' ⟨hS0,hS1⟩;have hc0:=Blk.nth hS0 3;clear hS0 hS1;go_simp;try with_reducible rfl)
           try simp only [pq]
           refine' twH 4 ⟨a1.out,a0.out⟩ ?_
           refine' twH 5 ⟨a1.out,a0.out⟩ ?_
           refine' twH 6 ⟨a1.out,a0.out⟩ ?_
           refine' tkH 7 ⟨a1.out,a0.out⟩ ?d2 ?_
           case d2=>(rintro W' ⟨hS0,hS1⟩;have hc0:=(Below.cell hS1 (p:=⟨b9,_,none⟩) HB9.out).trans E0.out;clear hS0 hS1;go_simp;try with_reducible rfl)
           try simp only [pq]
           refine' twH 8 ⟨a1.out,a0.out⟩ ?_
           refine' twH 9 ⟨a1.out,a0.out⟩ ?_
           refine' tkH 10 ⟨a1.out,a0.out⟩ ?d3 ?_
           case d3=>(rintro W' ⟨hS0,hS1⟩;have hc0:=(Below.cell hS1 (p:=⟨b,_,none⟩) HBW.out).trans G5.out;clear hS0 hS1;go_simp;try with_reducible rfl)
           refine' twH 11 ⟨a1.out,a0.out⟩ ?_
           try simp only [pq]
           refine wpAnyH_done (by kernel_rfl) ?_ _
           go_wp2
           go_roundw
           case rel=>exact ⟨q+1,by omega,by rw [feetN_yes HFF.out,HF2.out];go_num,by go_num,a1.out,a0.out⟩
           case measure=>simp [intOf];omega
  · obtain rfl:m=q:=by omega
    have hc:=told_any (wa)
    have HC:=hid hc;clear hc
    go_wp2_with fail
    refine HC.out.mono ?_
    rintro e h9 ⟨rfl,hb⟩
    clear HC
    have c3:=hid hb
    clear hb
    replace a9:=kH a9 c3
    obtain ⟨i0,i1,i2,i3⟩:=at4 a9
    go_wp2
    go_ret
    replace a8:=bH a8 c3
    exact ⟨rfl,a8.out⟩
set_option maxRecDepth 100000 in
theorem wc_some (w:World) (ware:ByteArray) (lim by_:Int) (A:Option Addr) (n k:Nat) (ps:List Prt) (B:Option Addr) (m d:Nat) (l:List Int) (hr:RdP w A n k ps) (hn:n≤maxLen) (hl:RdI w B m d l) (hm:m≤maxLen) (hf:fewB ⟨ware,lim,by_,ps⟩=true) (h60:¬ (60:Int)<m) (hq:askP ⟨ware,lim,by_,ps⟩ l=0) (R:Rng) (hR:comR ps l=R) (hgt:¬ R.hi<R.lo) (v:Bool) (hv:v=true ↔ NoCl ps l) (hvo:(!anyN (clB ps) (uniL l []) (uniL l []).length)=v) (hvf:v=decide (feetN ps l m≤1)):Calls Tryz.prog 4 #[.agg #[.string ware,.int .i64 lim,.int .i64 by_,.slice A n k],.slice B m d] w fun e w'=>e=.returned (.bool true)∧Below w.heap.size w w':=by
 have HIN:=hid (askP_all hq (show (Cse.mk ware lim by_ ps).ps.length=n from hr.len))
 have HF:=hid hf;have HQ:=hid hq;have HRR:=hid hR;have HVV:=hid hv;have HVO:=hid hvo;have HVF:=hid hvf;clear hf hq hR hv hvo hvf
 have HR:=hid hr;have HL:=hid hl
 have hn2:=hn;have hm2:=hm;unfold maxLen at hn2 hm2
 go_enter Tryz.func4,Tryz.ntmps4
 obtain ⟨a2,a7⟩:=ent1 w #[.string ware,.int .i64 lim,.int .i64 by_,.slice A n k] 24
 have a3:=hid (RdP.below (hr) a7.out)
 have a4:=iI hl a7
 clear hr hl
 obtain ⟨h5,h6,h7,h8⟩:=at4 a2
 have hc:=few_is ware lim by_ A n k ps ((w.alloc (.cells #[.string ware,.int .i64 lim,.int .i64 by_,.slice A n k] 24))) a3.out hn _ HF.out
 have HC:=hid hc;clear hc
 go_wp2_with fail
 refine HC.out.mono ?_
 rintro e h9 ⟨rfl,hb⟩
 clear HC
 clear h5 h6 h7 h8
 have b3:=hid hb
 clear hb
 replace a2:=kH a2 b3
 obtain ⟨d7,d8,d9,e1⟩:=at4 a2
 replace a3:=hid (RdP.below (a3.out) b3.out)
 replace a4:=iH a4 b3
 have hc:=Common_some ware lim by_ A n k ps B m d l (h9) a3.out a4.out hn hm HQ.out R HRR.out (by omega)
 have HC:=hid hc;clear hc
 go_wp2_with fail
 refine HC.out.mono ?_
 rintro e d5 ⟨rfl,hb⟩
 clear HC
 clear d7 d8 d9 e1
 have b4:=hid hb
 clear hb
 obtain ⟨o_,ho_⟩:∃ o,o=((.cells #[.int .i64 R.lo,.int .i64 R.hi] 41):Obj):=⟨_,rfl⟩
 replace a7:=bA (bH (bH a7 b3) b4) o_
 replace a3:=hid (RdP.alloc ((hid (RdP.below (a3.out) b4.out)).out) (o_))
 replace a4:=iA (iH a4 b4) o_
 replace a2:=kA (kH a2 b4) o_
 subst ho_
 have a6:=hid (Blk.new d5 41 #[.int .i64 R.lo,.int .i64 R.hi])
 obtain ⟨e3,e4,e5,e6⟩:=at4 a2
 obtain ⟨e7,e8⟩:=at2 a6
 have hc:=xCommon_some ware lim by_ A n k ps B m d l ((d5.alloc (.cells #[.int .i64 R.lo,.int .i64 R.hi] 41))) a3.out a4.out hn hm HQ.out R HRR.out (by omega)
 have HC:=hid hc;clear hc
 go_wp2_with fail
 refine HC.out.mono ?_
 rintro e d6 ⟨rfl,hb⟩
 clear HC
 clear e3 e4 e5 e6 e7 e8
 have b2:=hid hb
 clear hb
 obtain ⟨o_,ho_⟩:∃ o,o=((.cells #[.int .i64 R.lo,.int .i64 R.hi] 41):Obj):=⟨_,rfl⟩
 replace a7:=bA (bH a7 b2) o_
 replace a3:=hid (RdP.alloc ((hid (RdP.below (a3.out) b2.out)).out) (o_))
 replace a4:=iA (iH a4 b2) o_
 replace a2:=kA (kH a2 b2) o_
 replace a6:=kA (kH a6 b2) o_
 subst ho_
 have a9:=hid (Blk.new d6 41 #[.int .i64 R.lo,.int .i64 R.hi])
 obtain ⟨e9,f0,f1,f2⟩:=at4 a2
 obtain ⟨f3,f4⟩:=at2 a6
 obtain ⟨f5,f6⟩:=at2 a9
 have hc:=One_yes ware lim by_ A n k ps B m d l ((d6.alloc (.cells #[.int .i64 R.lo,.int .i64 R.hi] 41))) a3.out a4.out hn hm (by omega) HQ.out
 rw [HVO.out] at hc
 try dsimp only at hc
 have HC:=hid hc;clear hc
 go_wp2_with fail
 refine HC.out.mono ?_
 rintro e f7 ⟨rfl,hb⟩
 clear HC
 clear e9 f0 f1 f2 f3 f4 f5 f6
 have b0:=hid hb
 clear hb
 replace a2:=kH a2 b0
 obtain ⟨f8,f9,g0,g1⟩:=at4 a2
 replace a6:=kH a6 b0
 obtain ⟨g2,g3⟩:=at2 a6
 replace a9:=kH a9 b0
 obtain ⟨g4,g6⟩:=at2 a9
 replace a3:=hid (RdP.below (a3.out) b0.out)
 replace a4:=iH a4 b0
 have hc:=xOne_yes ware lim by_ A n k ps B m d l (f7) a3.out a4.out hn hm HQ.out v HVV.out
 have HC:=hid hc;clear hc
 go_wp2_with fail
 refine HC.out.mono ?_
 rintro e j6 ⟨rfl,hb⟩
 clear HC
 clear f8 f9 g0 g1 g2 g3 g4 g6
 have b1:=hid hb
 clear hb
 replace a2:=kH a2 b1
 obtain ⟨g7,g8,g9,h0⟩:=at4 a2
 replace a6:=kH a6 b1
 obtain ⟨h1,h2⟩:=at2 a6
 replace a9:=kH a9 b1
 obtain ⟨h3,h4⟩:=at2 a9
 go_wp2
 clear g7 g8 g9 h0 h1 h2 h3 h4
 replace a7:=bH (bH a7 b0) b1
 replace a3:=hid (RdP.below (a3.out) b1.out)
 replace a4:=iH a4 b1
 go_loopw [15,16] (fun f i wr=>∃ q:Nat,q≤m∧f=.int .i64 (feetN ps l q:Nat)∧i=.int .i64 q∧Blk wr w.heap.size 24 #[.string ware,.int .i64 lim,.int .i64 by_,.slice A n k]∧Below w.heap.size w wr) (fun _ i _=>m-(intOf i).toNat)
 case atStart=>exact ⟨0,Nat.zero_le _,rfl,rfl,a2.out,a7.out⟩
 case round =>
  clear a7 a3 a4 a2 a6 a9
  obtain ⟨q,hq,rfl,rfl,hbc,hbe⟩:=hrel
  obtain ⟨wa,rfl⟩:∃ v,v=wr:=⟨wr,rfl⟩
  obtain ⟨F,hF⟩:∃ F,feetN ps l q=F:=⟨_,rfl⟩
  have hFq:F≤q:=by rw [← hF];exact feetN_le ps l q
  rw [hF]
  have HF2:=hid hF;clear hF
  have a8:=hid (hbc)
  have a5:=hid (hbe)
  clear hbc hbe
  by_cases hlt:q<m
  · have hlt':(q:Int)<m:=by omega
    obtain ⟨b9,o9,v9,rfl,hb9,hv,e0⟩:=RdI.get HL.out hlt
    obtain ⟨i,rfl,hi⟩:=HIN.out v9 (List.mem_of_getElem? hv)
    have hi':(i:Int)<n:=by omega
    have HV:=hid hv;have HB9:=hid hb9;have E0:=hid e0;clear hv hb9 e0
    have HVD:=hid (show l.getD q 0=(i:Int) by rw [List.getD_eq_getElem?_getD,HV.out];rfl)
    go_wp2
    go_loopw [17,18] (fun f k' wr=>∃ j:Nat,j≤q∧f=.bool (decide ((i:Int) ∉ l.take j))∧k'=.int .i64 j∧Blk wr w.heap.size 24 #[.string ware,.int .i64 lim,.int .i64 by_,.slice A n k]∧Below w.heap.size w wr) (fun _ k' _=>q-(intOf k').toNat)
    case atStart=>exact ⟨0,Nat.zero_le _,by simp,rfl,a8.out,a5.out⟩
    case round =>
     clear a8 a5
     obtain ⟨j,hj,rfl,rfl,hbc,hbe⟩:=hrel
     obtain ⟨fb,hfb⟩:∃ fb,decide ((i:Int) ∉ l.take j)=fb:=⟨_,rfl⟩
     rw [hfb]
     have HFB:=hid hfb;clear hfb
     have a1:=hid (hbc)
     have a0:=hid (hbe)
     clear hbc hbe
     by_cases hjq:j<q
     · have hjq':(j:Int)<q:=by omega
       have hjm:(j:Int)<m:=by omega
       obtain ⟨b8,o8,v2,hA2,-,hv2,e2⟩:=RdI.get HL.out (k:=j) (by omega)
       injection hA2 with hA2;injection hA2 with hA3 hA4;subst hA3 hA4
       have HV2:=hid hv2;have E2:=hid e2;clear hv2 e2
       go_wp2
       cases fb
       · replace a1:=kD a1
         replace a0:=bD a0
         refine wp_region_held_drew (S:=(fun W'=>Blk W' (w.heap.size) 24 #[.string ware,.int .i64 lim,.int .i64 by_,.slice A n k]∧Below w.heap.size w W')) (by kernel_rfl) ⟨a1.out,a0.out⟩ (fun _=>?_)
         obtain ⟨j0,b5⟩:∃ w',w'=(wr.drew):=⟨_,rfl⟩
         rw [← b5] at a1 a0
         rw [← b5]
         clear b5
         refine' twH 0 ⟨a1.out,a0.out⟩ ?_
         refine' twH 1 ⟨a1.out,a0.out⟩ ?_
         refine' tkNH 2 ⟨a1.out,a0.out⟩ ?_
         refine' tkNH 3 ⟨a1.out,a0.out⟩ ?_
         try simp only [pq]
         refine' tkNH 4 ⟨a1.out,a0.out⟩ ?_
         refine' tkNH 5 ⟨a1.out,a0.out⟩ ?_
         refine' tkNH 6 ⟨a1.out,a0.out⟩ ?_
         refine' tkNH 7 ⟨a1.out,a0.out⟩ ?_
         try simp only [pq]
         refine' tkNH 8 ⟨a1.out,a0.out⟩ ?_
         refine' tkNH 9 ⟨a1.out,a0.out⟩ ?_
         refine' tkNH 10 ⟨a1.out,a0.out⟩ ?_
         refine' twH 11 ⟨a1.out,a0.out⟩ ?_
         try simp only [pq]
         refine' twH 12 ⟨a1.out,a0.out⟩ ?_
         try simp only [pq]
         refine wpAnyH_done (by kernel_rfl) ?_ _
         go_wp2
         go_roundw
         case rel=>exact ⟨j+1,by omega,by rw [first_gone HV2.out HFB.out],by go_num,a1.out,a0.out⟩
         case measure=>simp [intOf];omega
       · by_cases hvv:v2=(i:Int)
         · have HVE:=hid hvv
           have hne:(v2 != (i:Int))=false:=by simpa using hvv
           clear hvv
           replace a1:=kD a1
           replace a0:=bD a0
           refine wp_region_held_drew (S:=(fun W'=>Blk W' (w.heap.size) 24 #[.string ware,.int .i64 lim,.int .i64 by_,.slice A n k]∧Below w.heap.size w W')) (by kernel_rfl) ⟨a1.out,a0.out⟩ (fun _=>?_)
           obtain ⟨j1,b6⟩:∃ w',w'=(wr.drew):=⟨_,rfl⟩
           rw [← b6] at a1 a0
           rw [← b6]
           clear b6
           refine' twH 0 ⟨a1.out,a0.out⟩ ?_
           refine' twH 1 ⟨a1.out,a0.out⟩ ?_
           refine' twH 2 ⟨a1.out,a0.out⟩ ?_
           refine' twH 3 ⟨a1.out,a0.out⟩ ?_
           try simp only [pq]
           refine' twH 4 ⟨a1.out,a0.out⟩ ?_
           refine' tkH 5 ⟨a1.out,a0.out⟩ ?c5 ?_
           case c5=>(rintro W' ⟨hS0,hS1⟩;have hc0:=(Below.cell hS1 (p:=⟨b9,_,none⟩) HB9.out).trans E2.out;clear hS0 hS1;go_simp;try with_reducible rfl)
           refine' twH 6 ⟨a1.out,a0.out⟩ ?_
           refine' twH 7 ⟨a1.out,a0.out⟩ ?_
           try simp only [pq]
           refine' twH 8 ⟨a1.out,a0.out⟩ ?_
           refine' tkH 9 ⟨a1.out,a0.out⟩ ?c6 ?_
           case c6=>(rintro W' ⟨hS0,hS1⟩;have hc0:=(Below.cell hS1 (p:=⟨b9,_,none⟩) HB9.out).trans E0.out;clear hS0 hS1;go_simp;try with_reducible rfl)
           refine' twH 10 ⟨a1.out,a0.out⟩ ?_
           refine' twH 11 ⟨a1.out,a0.out⟩ ?_
           try simp only [pq]
           refine' twH 12 ⟨a1.out,a0.out⟩ ?_
           try simp only [pq]
           refine wpAnyH_done (by kernel_rfl) ?_ _
           go_wp2
           go_roundw
           case rel=>exact ⟨j+1,by omega,by rw [first_hit HV2.out HVE.out],by go_num,a1.out,a0.out⟩
           case measure=>simp [intOf];omega
         · have HVE:=hid hvv
           have hne:(v2 != (i:Int))=true:=by simpa using hvv
           clear hvv
           replace a1:=kD a1
           replace a0:=bD a0
           refine wp_region_held_drew (S:=(fun W'=>Blk W' (w.heap.size) 24 #[.string ware,.int .i64 lim,.int .i64 by_,.slice A n k]∧Below w.heap.size w W')) (by kernel_rfl) ⟨a1.out,a0.out⟩ (fun _=>?_)
           obtain ⟨j2,b7⟩:∃ w',w'=(wr.drew):=⟨_,rfl⟩
           rw [← b7] at a1 a0
           rw [← b7]
           clear b7
           refine' twH 0 ⟨a1.out,a0.out⟩ ?_
           refine' twH 1 ⟨a1.out,a0.out⟩ ?_
           refine' twH 2 ⟨a1.out,a0.out⟩ ?_
           refine' twH 3 ⟨a1.out,a0.out⟩ ?_
           try simp only [pq]
           refine' twH 4 ⟨a1.out,a0.out⟩ ?_
           refine' tkH 5 ⟨a1.out,a0.out⟩ ?c7 ?_
           case c7=>(rintro W' ⟨hS0,hS1⟩;have hc0:=(Below.cell hS1 (p:=⟨b9,_,none⟩) HB9.out).trans E2.out;clear hS0 hS1;go_simp;try with_reducible rfl)
           refine' twH 6 ⟨a1.out,a0.out⟩ ?_
           refine' twH 7 ⟨a1.out,a0.out⟩ ?_
           try simp only [pq]
           refine' twH 8 ⟨a1.out,a0.out⟩ ?_
           refine' tkH 9 ⟨a1.out,a0.out⟩ ?c8 ?_
           case c8=>(rintro W' ⟨hS0,hS1⟩;have hc0:=(Below.cell hS1 (p:=⟨b9,_,none⟩) HB9.out).trans E0.out;clear hS0 hS1;go_simp;try with_reducible rfl)
           refine' twH 10 ⟨a1.out,a0.out⟩ ?_
           refine' twH 11 ⟨a1.out,a0.out⟩ ?_
           try simp only [pq]
           refine' twH 12 ⟨a1.out,a0.out⟩ ?_
           try simp only [pq]
           refine wpAnyH_done (by kernel_rfl) ?_ _
           go_wp2
           go_roundw
           case rel=>exact ⟨j+1,by omega,by rw [first_on HV2.out HVE.out HFB.out],by go_num,a1.out,a0.out⟩
           case measure=>simp [intOf];omega
     · obtain rfl:q=j:=by omega
       obtain ⟨b,o,p,x,rfl,hbw,hx,-,-,-,-,-,-,g5,-,-⟩:=RdP.get HR.out hi
       have HBW:=hid hbw;have HP:=hid (ptA_at hx);clear hbw hx
       obtain ⟨ft,hft⟩:∃ f,p.ft=f:=⟨_,rfl⟩
       rw [hft] at g5
       have HFT:=hid hft;have G5:=hid g5;clear hft g5
       have HFF:=hid (show ffB ps l q=(fb&&ft) by unfold ffB;rw [HVD.out,HFB.out,HP.out,HFT.out])
       go_wp2
       cases fb
       · replace a1:=kD a1
         replace a0:=bD a0
         refine wp_region_held_drew (S:=(fun W'=>Blk W' (w.heap.size) 24 #[.string ware,.int .i64 lim,.int .i64 by_,.slice (some ⟨b,o,none⟩) n k]∧Below w.heap.size w W')) (by kernel_rfl) ⟨a1.out,a0.out⟩ (fun _=>?_)
         obtain ⟨j3,c0⟩:∃ w',w'=(wr.drew):=⟨_,rfl⟩
         rw [← c0] at a1 a0
         rw [← c0]
         clear c0
         refine' twH 0 ⟨a1.out,a0.out⟩ ?_
         refine' twH 1 ⟨a1.out,a0.out⟩ ?_
         refine' tkNH 2 ⟨a1.out,a0.out⟩ ?_
         refine' tkNH 3 ⟨a1.out,a0.out⟩ ?_
         try simp only [pq]
         refine' tkNH 4 ⟨a1.out,a0.out⟩ ?_
         refine' tkNH 5 ⟨a1.out,a0.out⟩ ?_
         refine' tkNH 6 ⟨a1.out,a0.out⟩ ?_
         refine' tkNH 7 ⟨a1.out,a0.out⟩ ?_
         try simp only [pq]
         refine' tkNH 8 ⟨a1.out,a0.out⟩ ?_
         refine' tkNH 9 ⟨a1.out,a0.out⟩ ?_
         refine' tkNH 10 ⟨a1.out,a0.out⟩ ?_
         refine' twH 11 ⟨a1.out,a0.out⟩ ?_
         try simp only [pq]
         refine wpAnyH_done (by kernel_rfl) ?_ _
         go_wp2
         go_roundw
         case rel=>exact ⟨q+1,by omega,by rw [feetN_no HFF.out,HF2.out],by go_num,a1.out,a0.out⟩
         case measure=>simp [intOf];omega
       · cases ft
         · replace a1:=kD a1
           replace a0:=bD a0
           refine wp_region_held_drew (S:=(fun W'=>Blk W' (w.heap.size) 24 #[.string ware,.int .i64 lim,.int .i64 by_,.slice (some ⟨b,o,none⟩) n k]∧Below w.heap.size w W')) (by kernel_rfl) ⟨a1.out,a0.out⟩ (fun _=>?_)
           obtain ⟨j4,c1⟩:∃ w',w'=(wr.drew):=⟨_,rfl⟩
           rw [← c1] at a1 a0
           rw [← c1]
           clear c1
           refine' twH 0 ⟨a1.out,a0.out⟩ ?_
           refine' twH 1 ⟨a1.out,a0.out⟩ ?_
           refine' twH 2 ⟨a1.out,a0.out⟩ ?_
           refine' tkH 3 ⟨a1.out,a0.out⟩ ?c9 ?_
           case c9=>(rintro W' ⟨hS0,hS1⟩;have hc0:=Blk.nth hS0 3;clear hS0 hS1;go_simp;try with_reducible rfl)
           try simp only [pq]
           refine' twH 4 ⟨a1.out,a0.out⟩ ?_
           refine' twH 5 ⟨a1.out,a0.out⟩ ?_
           refine' twH 6 ⟨a1.out,a0.out⟩ ?_
           refine' tkH 7 ⟨a1.out,a0.out⟩ ?d0 ?_
           case d0=>(rintro W' ⟨hS0,hS1⟩;have hc0:=(Below.cell hS1 (p:=⟨b9,_,none⟩) HB9.out).trans E0.out;clear hS0 hS1;go_simp;try with_reducible rfl)
           try simp only [pq]
           refine' twH 8 ⟨a1.out,a0.out⟩ ?_
           refine' twH 9 ⟨a1.out,a0.out⟩ ?_
           refine' tkH 10 ⟨a1.out,a0.out⟩ ?d1 ?_
           case d1=>(rintro W' ⟨hS0,hS1⟩;have hc0:=(Below.cell hS1 (p:=⟨b,_,none⟩) HBW.out).trans G5.out;clear hS0 hS1;go_simp;try with_reducible rfl)
           refine' twH 11 ⟨a1.out,a0.out⟩ ?_
           try simp only [pq]
           refine wpAnyH_done (by kernel_rfl) ?_ _
           go_wp2
           go_roundw
           case rel=>exact ⟨q+1,by omega,by rw [feetN_no HFF.out,HF2.out],by go_num,a1.out,a0.out⟩
           case measure=>simp [intOf];omega
         · replace a1:=kD a1
           replace a0:=bD a0
           refine wp_region_held_drew (S:=(fun W'=>Blk W' (w.heap.size) 24 #[.string ware,.int .i64 lim,.int .i64 by_,.slice (some ⟨b,o,none⟩) n k]∧Below w.heap.size w W')) (by kernel_rfl) ⟨a1.out,a0.out⟩ (fun _=>?_)
           obtain ⟨j5,c2⟩:∃ w',w'=(wr.drew):=⟨_,rfl⟩
           rw [← c2] at a1 a0
           rw [← c2]
           clear c2
           refine' twH 0 ⟨a1.out,a0.out⟩ ?_
           refine' twH 1 ⟨a1.out,a0.out⟩ ?_
           refine' twH 2 ⟨a1.out,a0.out⟩ ?_
           refine' tkH 3 ⟨a1.out,a0.out⟩ ?d2 ?_
           case d2=>(rintro W' ⟨hS0,hS1⟩;have hc0:=Blk.nth hS0 3;clear hS0 hS1;go_simp;try with_reducible rfl)
           try simp only [pq]
           refine' twH 4 ⟨a1.out,a0.out⟩ ?_
           refine' twH 5 ⟨a1.out,a0.out⟩ ?_
           refine' twH 6 ⟨a1.out,a0.out⟩ ?_
           refine' tkH 7 ⟨a1.out,a0.out⟩ ?d3 ?_
           case d3=>(rintro W' ⟨hS0,hS1⟩;have hc0:=(Below.cell hS1 (p:=⟨b9,_,none⟩) HB9.out).trans E0.out;clear hS0 hS1;go_simp;try with_reducible rfl)
           try simp only [pq]
           refine' twH 8 ⟨a1.out,a0.out⟩ ?_
           refine' twH 9 ⟨a1.out,a0.out⟩ ?_
           refine' tkH 10 ⟨a1.out,a0.out⟩ ?d4 ?_
           case d4=>(rintro W' ⟨hS0,hS1⟩;have hc0:=(Below.cell hS1 (p:=⟨b,_,none⟩) HBW.out).trans G5.out;clear hS0 hS1;go_simp;try with_reducible rfl)
           refine' twH 11 ⟨a1.out,a0.out⟩ ?_
           try simp only [pq]
           refine wpAnyH_done (by kernel_rfl) ?_ _
           go_wp2
           go_roundw
           case rel=>exact ⟨q+1,by omega,by rw [feetN_yes HFF.out,HF2.out];go_num,by go_num,a1.out,a0.out⟩
           case measure=>simp [intOf];omega
  · obtain rfl:m=q:=by omega
    have hvF:=HVF.out;rw [HF2.out] at hvF
    by_cases hF1:(F:Int)≤1
    · obtain rfl:v=true:=by rw [hvF];exact decide_eq_true (by omega)
      clear hvF
      have hF2:decide ((F:Int)≤1)=true:=decide_eq_true (by omega)
      have hc:=told_any (wa)
      have HC:=hid hc;clear hc
      go_wp2_with fail
      refine HC.out.mono ?_
      rintro e i0 ⟨rfl,hb⟩
      clear HC
      have c3:=hid hb
      clear hb
      replace a8:=kH a8 c3
      obtain ⟨i1,i2,i3,i4⟩:=at4 a8
      go_wp2
      go_ret
      replace a5:=bH a5 c3
      exact ⟨rfl,a5.out⟩
    · obtain rfl:v=false:=by rw [hvF];exact decide_eq_false (by omega)
      clear hvF
      have hF2:decide ((F:Int)≤1)=false:=decide_eq_false (by omega)
      have hc:=told_any (wa)
      have HC:=hid hc;clear hc
      go_wp2_with fail
      refine HC.out.mono ?_
      rintro e i5 ⟨rfl,hb⟩
      clear HC
      have c4:=hid hb
      clear hb
      replace a8:=kH a8 c4
      obtain ⟨i6,i7,i8,i9⟩:=at4 a8
      go_wp2
      go_ret
      replace a5:=bH a5 c4
      exact ⟨rfl,a5.out⟩
theorem wc_walk (w:World) (ware:ByteArray) (lim by_:Int) (A:Option Addr) (n k:Nat) (ps:List Prt) (hr:RdP w A n k ps) (hn:n≤maxLen) (B:Option Addr) (m d:Nat) (l:List Int) (hl:RdI w B m d l) (hm:m≤maxLen) (_:∀ x∈l,(Lit.int .i64 x).wf=true):Calls Tryz.prog 4 #[.agg #[.string ware,.int .i64 lim,.int .i64 by_,.slice A n k],.slice B m d] w fun e w'=>e=.returned (.bool true)∧Below w.heap.size w w':=by
 cases hf:fewB ⟨ware,lim,by_,ps⟩
 · exact wc_w1 w ware lim by_ A n k ps B m d l hr hn hl hm hf
 · by_cases h60:(60:Int)<m
   · exact wc_w2 w ware lim by_ A n k ps B m d l hr hn hl hm hf h60
   · by_cases hq:askP ⟨ware,lim,by_,ps⟩ l=0
     · have hce:=commons_eq hq (show (Cse.mk ware lim by_ ps).ps.length=n from hr.len)
       change NoCl ps l ↔ (comR ps l).lo≤(comR ps l).hi∧feetN ps l l.length≤1 at hce
       rw [hl.len] at hce
       have hoi:=one_iff (ps:=ps) (l:=l)
       by_cases hgt:(comR ps l).hi<(comR ps l).lo
       · exact wc_none w ware lim by_ A n k ps B m d l hr hn hl hm hf h60 hq _ rfl hgt _ hoi rfl (by
          cases hv:(!anyN (clB ps) (uniL l []) (uniL l []).length)
          · rfl
          · have:=(hce.1 (hoi.1 hv)).1;omega)
       · exact wc_some w ware lim by_ A n k ps B m d l hr hn hl hm hf h60 hq _ rfl hgt _ hoi rfl (by
          rw [Bool.eq_iff_iff,hoi,hce,decide_eq_true_eq]
          exact ⟨fun h=>h.2,fun h=>⟨by omega,h⟩⟩)
     · exact wc_no w ware lim by_ A n k ps B m d l hr hn hl hm hf h60 _ rfl hq
set_option maxRecDepth 100000 in
theorem wholeCommons_lifted (os:Os) (started:os.Started) (H:Type) (enc:TypeId × Value→H) :
 ReturnsInHanded {} Tryz.checked os 4 .any (Rows.wholeCommonsSpec.pre6 enc Tryz.prog Tryz.f4 Rows.wholeCommonsRow.domain false) (Rows.wholeCommonsSpec.post enc Tryz.prog Tryz.f4 false true false false):=by
 refine returnsInHanded_of_change (C:=Tryz.checked) Law.own started (by kernel_rfl) Tryz.func4
  (ChangeSpec.witness6 (enc:=enc) (C:=Tryz.checked) false ⟨#[],#[.agg #[.string ⟨#[]⟩,.int .i64 0,.int .i64 0,.slice none 0 0],.slice none 0 0],[]⟩ 8 (by kernel_rfl) (by kernel_rfl) (by kernel_rfl) (by kernel_rfl)) ?_
 intro W base args ds gs before hval0 hW hcnd _
 have hval:∀ (j:Nat) t v,Tryz.f4.params[j]?=some t→args[j]?=some v→Value.okWide Tryz.prog W .any base t v:=hval0
 have hW':=hW
 obtain ⟨p,q,hA0,hV,rfl,hfz,hnd⟩:=hW
 have hA:DataW.TrodAll enc Tryz.prog W 0 (fun _=>true) true Tryz.f4.params.toList args.toList ds p:=hA0
 rw [Tryz.params4] at hA hval
 obtain ⟨v0,vs0,d0,ds0,p0,q0,hargs,rfl,rfl,h0,r0⟩:=trodAll_cons hA
 obtain ⟨v1,vs1,d1,ds1,p1,q1,rfl,rfl,rfl,h1,r1⟩:=trodAll_cons r0
 obtain ⟨rfl,rfl,rfl⟩:=trodAll_nil r1
 obtain rfl:args=#[v0,v1]:=by cases args;simp_all
 obtain ⟨rfl,rfl⟩:=trodVars_none hV
 have k0:=h0
 have lt0:∀ x∈p0,x.block<W.heap.size:=by obtain ⟨m,hm⟩:=k0;exact DataW.trod_lt m _ _ _ hm
 obtain ⟨s0,x0,y0,A0,n0,c0,l0,rfl,rd0,mx0⟩:=open_case (hval 0 24 v0 rfl rfl) h0
 have k1:=h1
 have lt1:∀ x∈p1,x.block<W.heap.size:=by obtain ⟨m,hm⟩:=k1;exact DataW.trod_lt m _ _ _ hm
 obtain ⟨A1,n1,c1,l1,rfl,rd1,mx1,w1⟩:=open_nums (hval 1 30 v1 rfl rfl) h1
 clear hA0 hval0
 refine (wc_walk W s0 x0 y0 A0 n0 c0 l0 rd0 mx0 A1 n1 c1 l1 rd1 mx1 w1).mono fun e W' ⟨he,bel⟩=>?_
 subst he
 exact ⟨_,rfl,_,_,_,[],_,[],hW',trodAll_mk1 (shut_bool Tryz.underlying4 _),(trodAll_cons_mk (Below.trod Law.laidOut (by kernel_rfl) (of_decide_eq_true (by kernel_rfl)) k0 bel lt0) (trodAll_cons_mk (Below.trod Law.laidOut (by kernel_rfl) (of_decide_eq_true (by kernel_rfl)) k1 bel lt1) trodAll_mk0)),rfl,bel.frame _,fun h=>by cases h⟩
theorem wholeCommons_over:Rows.wholeCommonsRow.holds Tryz.pinned (OpenSpec.ofChange Rows.wholeCommonsSpec) :=
 OpenClaim.holds_of_wide 4 Tryz.f4 rfl rfl rfl rfl rfl rfl rfl ⟨rfl,rfl,rfl,rfl,rfl⟩ rfl rfl rfl rfl rfl (by kernel_rfl) Tryz.func4 (by kernel_rfl)
  (of_decide_eq_true (by kernel_rfl)) (by unfold Func.isWrapper;first | (rw [if_pos (by decide +kernel)];kernel_rfl) | (rw [if_neg (by decide +kernel)];exact ⟨rfl,rfl⟩))
  (fun os started H enc _=>wholeCommons_lifted os started H enc)
theorem wholeCommons_proved:Rows.WholeCommonsSaid:=wholeCommons_over
end Go.Proofs.YtokpblmgdmokoaaGreat
