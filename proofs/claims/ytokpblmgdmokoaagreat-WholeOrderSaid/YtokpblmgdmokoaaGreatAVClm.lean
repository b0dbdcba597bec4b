import Derived.Shelf.Spec.SlicesInsertGrow
import Derived.Test.YtokpblmgdmokoaaGreatAVAsg
import Derived.Test.YtokpblmgdmokoaaGreatAVCom
import Derived.Test.YtokpblmgdmokoaaGreatAVIas
set_option linter.unusedSimpArgs false
set_option linter.unusedVariables false
namespace Go.Proofs.YtokpblmgdmokoaaGreat
open Go.RowKit Go.Maps Go.Shelf
def llV (x:Ves):Value:=.slice x.A x.l.length x.c
structure OwnLL (W:World) (B:Nat) (V:Value) (cur:List Ves):Prop where
 row:W.ownsRow B 30 1 V cur.length (vcs cur)
 ins:∀ x∈cur,W.ownsRow B 3 1 (llV x) x.l.length (x.l.map (Value.int .i64))
 apart:∀ (i j:Nat) (x y:Ves),cur[i]?=some x→cur[j]?=some y→i≠j→∀ b,(llV x).ownBlock=some b→(llV y).ownBlock≠some b
 out:∀ x∈cur,∀ b,(llV x).ownBlock=some b→V.ownBlock≠some b
theorem OwnLL.nil (W:World) (B:Nat):OwnLL W B (.slice none 0 0) []:=⟨World.ownsRow_nil _ _ _ _,fun _ h=>(by cases h),fun i j x y h=>(by simp at h),fun _ h=>(by cases h)⟩
theorem OwnLL.alloc {W:World} {B:Nat} {V:Value} {cur:List Ves} (h:OwnLL W B V cur) (o:Obj):OwnLL (W.alloc o) B V cur:=⟨h.row.alloc o,fun x hx=>(h.ins x hx).alloc o,h.apart,h.out⟩
theorem OwnLL.below {W W':World} {B:Nat} {V:Value} {cur:List Ves} (h:OwnLL W B V cur) (hb:Below W.heap.size W W'):OwnLL W' B V cur:=⟨owns_below h.row hb,fun x hx=>owns_below (h.ins x hx) hb,h.apart,h.out⟩
theorem OwnLL.more {W W':World} {B:Nat} {V V':Value} {cur:List Ves} (h:OwnLL W B V cur) (h2:W'.ownsRow B 30 1 V' (cur.length+1) (vcs cur++[.slice none 0 0])) (hg:W.grownBy W' V.ownBlock) (hw:V'.ownBlock=V.ownBlock∨V'.ownBlock=some W.heap.size):OwnLL W' B V' (cur++[⟨[],none,0⟩]):=by
 refine ⟨?_,fun x hx=>?_,fun i j x y hi hj hij b hb=>?_,fun x hx b hb=>?_⟩
 · rw [List.length_append];unfold vcs at h2 ⊢;rw [List.map_append];exact h2
 · rcases List.mem_append.1 hx with hx|hx
   · refine (h.ins x hx).kept hg ?_
     cases hb:(llV x).ownBlock with
     | none=>exact .inl rfl
     | some b=>exact .inr (fun e=>h.out x hx b hb e.symm)
   · rw [List.mem_singleton.1 hx];exact World.ownsRow_nil _ _ _ _
 · rw [List.getElem?_append] at hi hj
   split at hi
   · split at hj
     · exact h.apart i j x y hi hj hij b hb
     · rw [List.getElem?_singleton] at hj;split at hj
       · injection hj with hj;subst hj;intro e;cases e
       · cases hj
   · rw [List.getElem?_singleton] at hi;split at hi
     · injection hi with hi;subst hi;cases hb
     · cases hi
 · rcases List.mem_append.1 hx with hx|hx
   · rcases hw with e|e
     · rw [e];exact h.out x hx b hb
     · rw [e];intro e2;injection e2 with e2
       have:=((h.ins x hx).lt b hb).2
       omega
   · rw [List.mem_singleton.1 hx] at hb;cases hb
theorem ownsRow_set1 {w:World} {base:Nat} {e:TypeId} {g n cap:Nat} {xs:List Value} (h:w.ownsRow base e 1 (.slice (some ⟨g,0,none⟩) n cap) n xs) {i:Nat} (hi:i<n) (u:Value):(w.setCell ⟨g,i,none⟩ u).ownsRow base e 1 (.slice (some ⟨g,0,none⟩) n cap) n (xs.set i u):=by
 refine ⟨by rw [List.length_set];exact h.1,?_⟩
 rcases h.2 with ⟨h0,_⟩|⟨g',cap',cur,hv,hb,hh,h1,h2,h3,h4⟩
 · cases h0
 · injection hv with a1 a2 a3
   injection a1 with a1
   injection a1 with a1
   subst a1 a3
   refine .inr ⟨g,cap,cur.setIfInBounds i u,rfl,hb,Blk.set_ hh i u,h1,h2,by rw [Array.size_setIfInBounds];exact h3,?_⟩
   rw [← h4,Array.toList_setIfInBounds,List.take_set]
theorem OwnLL.push {W W':World} {B i:Nat} {V:Value} {cur:List Ves} {x x':Ves} (h:OwnLL W B V cur) (hi:cur[i]?=some x) (h2:W'.ownsRow B 3 1 (llV x') x'.l.length (x'.l.map (Value.int .i64))) (hg:W.grownBy W' (llV x).ownBlock) (hw:(llV x').ownBlock=(llV x).ownBlock∨(llV x').ownBlock=some W.heap.size) :
 ∃ g c,V=.slice (some ⟨g,0,none⟩) cur.length c∧B≤g∧W.cell? ⟨g,i,none⟩=some (llV x)∧W'.frozen? ⟨g,i,none⟩=false∧(∃ u,W'.cell? ⟨g,i,none⟩=some u)∧OwnLL (W'.setCell ⟨g,i,none⟩ (llV x')) B V (cur.set i x'):=by
 have hil:=(List.getElem?_eq_some_iff.1 hi).1
 have hxm:=List.mem_of_getElem? hi
 obtain ⟨h0,h1⟩:=h.row
 rcases h1 with ⟨_,h5⟩|⟨g,cap,cu,rfl,hb,hh,h1,h2',h3,h4⟩
 · omega
 have hgne:∀ y∈cur,(llV y).ownBlock≠some g:=fun y hy e=>h.out y hy g e rfl
 have hgl:g<W.heap.size:=(Array.getElem?_eq_some_iff.1 hh).1
 have hrow2:W'.ownsRow B 30 1 (.slice (some ⟨g,0,none⟩) cur.length cap) cur.length (vcs cur):=h.row.kept hg (.inr (fun e=>hgne x hxm e.symm))
 have hh2:W'.heap[g]?=some (.cells cu 30 (0,0)):=(hg.block g hgl (fun e=>hgne x hxm e.symm)).trans hh
 have hx'g:(llV x').ownBlock≠some g:=by
  rcases hw with e|e
  · rw [e];exact hgne x hxm
  · rw [e];intro e2;injection e2 with e2;omega
 have hget:∀ (p:Nat) (y:Ves),(cur.set i x')[p]?=some y→(p=i∧y=x')∨(p≠i∧cur[p]?=some y):=by
  intro p y hp
  by_cases e:p=i
  · subst e
    rw [List.getElem?_set_self hil] at hp
    injection hp with hp
    exact .inl ⟨rfl,hp.symm⟩
  · rw [List.getElem?_set_ne (Ne.symm e)] at hp
    exact .inr ⟨e,hp⟩
 have hfar:∀ (p:Nat) (y:Ves),p≠i→cur[p]?=some y→∀ b,(llV x').ownBlock=some b→(llV y).ownBlock≠some b:=by
  intro p y hp hy b hb
  rcases hw with e|e
  · rw [e] at hb;exact h.apart i p x y hi hy (Ne.symm hp) b hb
  · rw [e] at hb
    injection hb with hb
    intro e2
    have:=((h.ins y (List.mem_of_getElem? hy)).lt b e2).2
    omega
 refine ⟨g,cap,rfl,hb,?_,Blk.frozen hh2 i,?_,?_,fun y hy=>?_,fun p q y z hp hq hpq b hy=>?_,fun y hy b hyb=>?_⟩
 · refine (Blk.cell hh i).trans ?_
   have e:=congrArg (fun l=>l[i]?) h4
   rw [List.getElem?_take,if_pos (by omega),Array.getElem?_toList] at e
   rw [e]
   unfold vcs
   rw [List.getElem?_map,hi]
   rfl
 · exact ⟨_,(Blk.cell hh2 i).trans (Array.getElem?_eq_getElem (by omega))⟩
 · rw [List.length_set]
   have:=ownsRow_set1 hrow2 hil (llV x')
   unfold vcs at this ⊢
   rw [List.map_set]
   exact this
 · obtain ⟨p,hp⟩:=List.getElem?_of_mem hy
   rcases hget p y hp with ⟨rfl,rfl⟩|⟨hne,hp⟩
   · exact ownsRow_setCell_other h2 hx'g _
   · have hym:=List.mem_of_getElem? hp
     refine ownsRow_setCell_other ((h.ins y hym).kept hg ?_) (hgne y hym) _
     cases hb:(llV y).ownBlock with
     | none=>exact .inl rfl
     | some b=>exact .inr (fun e=>h.apart p i y x hp hi hne b hb e.symm)
 · rcases hget p y hp with ⟨rfl,rfl⟩|⟨hne,hp1⟩
   · rcases hget q z hq with ⟨rfl,rfl⟩|⟨hne2,hq⟩
     · exact absurd rfl hpq
     · exact hfar q z hne2 hq b hy
   · have hp2:=hp1
     rcases hget q z hq with ⟨rfl,rfl⟩|⟨hne2,hq⟩
     · exact fun e=>hfar p y hne hp2 b e hy
     · exact h.apart p q y z hp2 hq hpq b hy
 · obtain ⟨p,hp⟩:=List.getElem?_of_mem hy
   rcases hget p y hp with ⟨rfl,rfl⟩|⟨hne,hp⟩
   · exact fun e=>hx'g (hyb.trans e.symm)
   · exact h.out y (List.mem_of_getElem? hp) b hyb
def colS (ls:List (List Int)) (q:Nat) (x:Int):List (List Int) :=
 (if x=ls.length then ls++[[]] else ls).set x.toNat ((if x=ls.length then ls++[[]] else ls).getD x.toNat []++[(q:Int)])
def colG (l:List Int):Nat→List (List Int)
 | 0=>[]
 | q+1=>colS (colG l q) q (l.getD q 0)
theorem colS_len (ls:List (List Int)) (q:Nat) (x:Int):(colS ls q x).length=if x=ls.length then ls.length+1 else ls.length:=by
 unfold colS
 rw [List.length_set]
 split<;>simp
theorem colG_len (l:List Int) (q:Nat):(colG l q).length≤q:=by
 induction q with
 | zero=>exact Nat.le_refl _
 | succ q ih =>
  show (colS (colG l q) q (l.getD q 0)).length≤q+1
  rw [colS_len]
  split<;>omega
theorem asS_ok (ps:List Prt) (l:List Int):∀ (r a:Nat) (v:Int) (u:Int),asS ps l r a v=some u→v=(colG l a).length→∀ q,a≤q→q<a+r→0≤l.getD q 0∧l.getD q 0≤(colG l q).length:=by
 intro r
 induction r with
 | zero=>intro a v u _ _ q h1 h2;omega
 | succ r ih =>
  intro a v u h hv q h1 h2
  rw [asS_succ] at h
  split at h
  · cases h
  · rename_i hx
    split at h
    · cases h
    · rcases Nat.lt_or_ge a q with h3|h3
      · refine ih (a+1) _ u h ?_ q h3 (by omega)
        show _=((colS (colG l a) a (l.getD a 0)).length:Int)
        rw [colS_len]
        split<;>omega
      · obtain rfl:q=a:=by omega
        omega
theorem isAB_ok {ps:List Prt} {lim:Int} {l:List Int} (h:isAB ps lim l=true):l.length=ps.length∧∀ q,q<l.length→0≤l.getD q 0∧l.getD q 0≤(colG l q).length:=by
 unfold isAB at h
 rw [Bool.and_eq_true,decide_eq_true_eq] at h
 obtain ⟨h1,h2⟩:=h
 refine ⟨h1,fun q hq=>?_⟩
 split at h2
 · cases h2
 · rename_i v hv
   exact asS_ok ps l ps.length 0 0 v hv rfl q (Nat.zero_le _) (by omega)
theorem colG_in (l:List Int):∀ (q:Nat),∀ v∈colG l q,v.length≤q∧∀ y∈v,∃ a:Nat,y=a∧a<q:=by
 intro q
 induction q with
 | zero=>intro v hv;cases hv
 | succ q ih =>
  intro v hv
  have hg:∀ w∈(if l.getD q 0=(colG l q).length then colG l q++[[]] else colG l q),w.length≤q∧∀ y∈w,∃ a:Nat,y=a∧a<q:=by
   intro w hw
   split at hw
   · rcases List.mem_append.1 hw with hw|hw
     · exact ih w hw
     · rw [List.mem_singleton.1 hw];exact ⟨Nat.zero_le _,fun y hy=>by cases hy⟩
   · exact ih w hw
  have hv':v∈colS (colG l q) q (l.getD q 0):=hv
  unfold colS at hv'
  revert hv' hg
  generalize (if l.getD q 0=(colG l q).length then colG l q++[[]] else colG l q)=ls
  intro hg hv'
  rcases List.mem_or_eq_of_mem_set hv' with h|rfl
  · obtain ⟨h1,h2⟩:=hg v h
    exact ⟨by omega,fun y hy=>by obtain ⟨a,h3,h4⟩:=h2 y hy;exact ⟨a,h3,by omega⟩⟩
  · have hd:(ls.getD (l.getD q 0).toNat []).length≤q∧∀ y∈ls.getD (l.getD q 0).toNat [],∃ a:Nat,y=a∧a<q:=by
     rw [List.getD_eq_getElem?_getD]
     cases h:ls[(l.getD q 0).toNat]? with
     | none=>exact ⟨Nat.zero_le _,fun y hy=>by cases hy⟩
     | some w=>exact hg w (List.mem_of_getElem? h)
    refine ⟨by rw [List.length_append,List.length_singleton];omega,fun y hy=>?_⟩
    rcases List.mem_append.1 hy with hy|hy
    · obtain ⟨a,h3,h4⟩:=hd.2 y hy;exact ⟨a,h3,by omega⟩
    · rw [List.mem_singleton.1 hy];exact ⟨q,rfl,by omega⟩
def colR_ (ps:List Prt) (l:List Int):List Rng:=(colG l l.length).map (comR ps)
theorem wp_app1S {w:World} {o:Oper} {a:Act} {K:Act→World→Prop} {Q:Exit→Act→World→Prop} (s x:Operand) (ho:o.op=.call { callee:=.builtin .append,args:=#[s,x],argTypes:=#[115,115] })
 (base:Nat) (v:Value) (n:Nat) (xs:List Value) (hs:a.eval s=v) (hown:w.ownsRow base 30 1 v n xs) (b:Nat) (u:Value) (hx:a.eval x=.slice (some ⟨b,0,none⟩) 1 1) (hc:w.cell? ⟨b,0,none⟩=some u) (h1:u.oneCell'=true) (hn:n≤100000) (hbase:base≤w.heap.size)
 (h:∀ v' w',w'.ownsRow base 30 1 v' (n+1) (xs++[u])→w.grownBy w' v.ownBlock→(v'.ownBlock=v.ownBlock∨v'.ownBlock=some w.heap.size)→K (a.put o.dst v') w'):o.wp Tryz.prog a w K Q:=by
 obtain ⟨i0,hi0,hz0,hz1,hz2⟩:=info_parts infoS
 have hnews:∀ j u',([u]:List Value)[j]?=some u'→w.cell? ((⟨b,0,none⟩:Addr).add j)=some u':=by
  intro j u' hu
  rw [Addr.add_lit,Nat.zero_add]
  cases j with
  | zero=>simp at hu;subst hu;exact hc
  | succ j=>simp at hu
 have h1':∀ u'∈([u]:List Value),u'.oneCell'=true:=fun u' hu=>by rw [List.mem_singleton.1 hu];exact h1
 obtain ⟨v',w',hr2,h2,h3,-⟩:=run_append_own (P:=Tryz.prog) (w:=w) base 115 o.type 30 i0 _ 1 24 Tryz.underlying115 hi0 hz0 hz1 hz2 rfl (by omega) v n _ hown ⟨b,0,none⟩ 1 1 [u] rfl hnews h1' (by unfold maxLen;omega) (by omega) hbase
 obtain ⟨v2,w2,e2,h5⟩:=run_append_where (P:=Tryz.prog) w base 115 o.type 30 i0 _ 1 24 Tryz.underlying115 hi0 hz0 hz1 hz2 v n _ hown ⟨b,0,none⟩ 1 1 [u] rfl hnews h1' (by unfold maxLen;omega) (by omega) (by omega)
 rw [hr2] at e2
 injection e2 with e3 e4
 subst e3
 unfold Oper.wp execOp
 simp only [ho,resolve,invoke,builtin,Sem.run_bind,Sem.run_pure,Result.andThen_ok,List.map_toArray,List.map_cons,List.map_nil,hs,hx,hr2]
 exact h _ _ h2 h3 h5
theorem wpList_app1S {ops:Array Oper} {rest:List Oper} {w:World} {o:Oper} {a:Act} {Q:Exit→Act→World→Prop} (hgd:o.guard=none) (s x:Operand) (ho:o.op=.call { callee:=.builtin .append,args:=#[s,x],argTypes:=#[115,115] })
 (base:Nat) (v:Value) (n:Nat) (xs:List Value) (hs:a.eval s=v) (hown:w.ownsRow base 30 1 v n xs) (b:Nat) (u:Value) (hx:a.eval x=.slice (some ⟨b,0,none⟩) 1 1) (hc:w.cell? ⟨b,0,none⟩=some u) (h1:u.oneCell'=true) (hn:n≤100000) (hbase:base≤w.heap.size)
 (h:∀ v' w',w'.ownsRow base 30 1 v' (n+1) (xs++[u])→w.grownBy w' v.ownBlock→(v'.ownBlock=v.ownBlock∨v'.ownBlock=some w.heap.size)→wpList Tryz.prog ops Q rest (a.put o.dst v') w'):wpList Tryz.prog ops Q (o::rest) a w :=
 wpList_plain hgd fun _ hK=>wp_app1S s x ho base v n xs hs hown b u hx hc h1 hn hbase fun v' w' h2 h3 h4=>hK _ _ (h v' w' h2 h3 h4)
theorem OwnLL.at_ {W:World} {B i:Nat} {V:Value} {cur:List Ves} {x:Ves} (h:OwnLL W B V cur) (hi:cur[i]?=some x):∃ g c,V=.slice (some ⟨g,0,none⟩) cur.length c∧B≤g∧g<W.heap.size∧W.cell? ⟨g,i,none⟩=some (llV x):=by
 obtain ⟨g,c,h1,h2,h3,-⟩:=h.push hi (W':=W) (x':=x) (h.ins x (List.mem_of_getElem? hi)) ⟨rfl,rfl,rfl,Nat.le_refl _,fun _ _ _=>rfl⟩ (.inl rfl)
 exact ⟨g,c,h1,h2,by have:=(h.row.lt g (by rw [h1];rfl)).2;exact this,h3⟩
end Go.Proofs.YtokpblmgdmokoaaGreat
