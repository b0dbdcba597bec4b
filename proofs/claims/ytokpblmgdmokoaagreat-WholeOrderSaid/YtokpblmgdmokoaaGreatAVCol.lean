import Derived.Test.YtokpblmgdmokoaaGreatAVSeq
set_option maxHeartbeats 4000000
set_option linter.unusedSimpArgs false
set_option linter.unusedVariables false
namespace Go.Proofs.YtokpblmgdmokoaaGreat
open Go.Lib (hid)
open Go.RowKit Go.Maps Go.Shelf
attribute [local go_sem] Oper.semAt_some
theorem kpV_put {n₀ Bv:Nat} {w:World} (hn:n₀≤w.heap.size) (hb:Bv<w.heap.size) (W:World) (l:Nat) (o o':Obj) (hl:w.heap.size≤l) (_:W.heap[l]?=some o) (_:o.isCells=false) (_:o.isWalk=false):KpV n₀ Bv W (W.putObj l o') :=
 ⟨⟨rfl,rfl,rfl,by simp,fun k hk=>World.putObj_heap_other (by omega)⟩,World.putObj_heap_other (by omega)⟩
theorem KeepD.setCell {B:Nat} {D:Nat→Prop} (W:World) {b i:Nat} (h:b<B) (v:Value):KeepD B D W (W.setCell ⟨b,i,none⟩ v):=⟨by rw [World.size_setCell];exact Nat.le_refl _,fun k hk _ _=>heap_setCell_other W _ k v (by show k≠b;omega)⟩
set_option maxRecDepth 100000 in
theorem least_in (g:Nat) (ware:ByteArray) (lim by_:Int) (A:Option Addr) (n k:Nat) (ps:List Prt) (w:World) (hv:Vw w g ware lim by_ A n k ps) (h20:n<20):CallsIn Fence.wide 9 Tryz.prog 94 #[.pointer (some ⟨g,0,none⟩)] w fun e w'=>e=.returned (.int .i64 (vesL ps).length)∧Below w.heap.size w w':=by
 refine callsIn_of_wp_marks Tryz.func94 rfl trivial ?_ rfl
 simp only [Tryz.ntmps94,List.size_toArray,List.length_cons,List.length_nil,Nat.reduceAdd,Nat.reduceSub,Array.replicate_succ,Array.replicate_zero,List.push_toArray,List.append_toArray,List.nil_append,List.cons_append]
 have HC:=hid (vessels_any g (w.alloc (.cells #[.int .i64 0] 3)))
 gi_wp2_with fail
 refine ⟨trivial,(callsIn_wide.2 HC.out).mono ?_⟩
 rintro e w1 ⟨rfl,rfl⟩
 clear HC
 have hb1:Below w.heap.size w ((w.alloc (.cells #[.int .i64 0] 3)).alloc (.cells #[.pointer (some ⟨g,0,none⟩)] 77)):=((Below.refl _ w).alloc (Nat.le_refl _) _).alloc (by simp) _
 have hn1:Blk ((w.alloc (.cells #[.int .i64 0] 3)).alloc (.cells #[.pointer (some ⟨g,0,none⟩)] 77)) w.heap.size 3 #[.int .i64 ((0:Nat):Int)]:=(Blk.new w 3 #[.int .i64 0]).alloc _
 have hv1:Blk ((w.alloc (.cells #[.int .i64 0] 3)).alloc (.cells #[.pointer (some ⟨g,0,none⟩)] 77)) (w.heap.size+1) 77 #[.pointer (some ⟨g,0,none⟩)]:=by have:=Blk.new (w.alloc (.cells #[.int .i64 0] 3)) 77 #[.pointer (some ⟨g,0,none⟩)];rwa [World.size_alloc] at this
 have hs1:((w.alloc (.cells #[.int .i64 0] 3)).alloc (.cells #[.pointer (some ⟨g,0,none⟩)] 77)).heap.size=w.heap.size+2:=by simp
 simp only [World.size_alloc]
 obtain ⟨w1,hw1⟩:∃ x,x=((w.alloc (.cells #[.int .i64 0] 3)).alloc (.cells #[.pointer (some ⟨g,0,none⟩)] 77)):=⟨_,rfl⟩
 rw [← hw1] at hb1 hn1 hv1 hs1 ⊢
 clear hw1
 have HN1:=hid hn1;have HV1:=hid hv1;clear hn1 hv1
 gi_wp2
 refine rangeFunc_D (gf:=137) (lb:=#[.pointer (some ⟨w.heap.size+1,0,none⟩)]) rfl (enters_of Tryz.func137 (by kernel_rfl) rfl) (vessels_seq (w.heap.size+1) g ware lim by_ A n k ps w w1 hv h20 hb1 HV1.out) (Below.refl _ _)
  (fun h k=>h.trans k) (kpV_put (by omega) (by omega)) (fun _=>rfl) (fun x X Y hp hk=>pxV_keep x X Y _ hp hk)
  (fun _ pre W=>Blk W w.heap.size 3 #[.int .i64 (pre.length:Int)]∧Below w.heap.size w W) (fun _ _ _=>False)
  (fun D s X Y hs hk=>⟨hk.blk hs.1 (.inl (by omega)),hs.2.trans (hk.below hs.2.size (fun i hi=>.inl (by omega)))⟩) (fun _ _ _ _ hs _=>hs)
  ⟨by simpa using HN1.out,hb1⟩
  (fun x a' _=>a'={ tmps:=#[.pointer (some ⟨g,0,none⟩),undef,.int .i64 0,.pointer (some ⟨w.heap.size,0,none⟩),.pointer (some ⟨g,0,none⟩),.func (.func 137) #[] #[.pointer (some ⟨w.heap.size+1,0,none⟩)],.slice x.A x.l.length x.c,undef,undef,undef],defers:=[] }) (fun _ _ _ _ h _=>h) ?assign ?body ?done ?stop
 case assign =>
  rintro l D pre x W K hi hpx hG hD hxb hK
  dsimp only [encV]
  gi_wp2
  exact hK _ _ (KeepD.refl _ _ _) (KpV.refl _ _ _) hi hpx (by first|rfl | (simp;done)|kernel_rfl)
 case body =>
  rintro l D pre x a' W hl ⟨r,hr⟩ hG hD hxb ⟨hn,hb⟩ hpx rfl hlen
  have c0:=Blk.nth hn 0
  have f0:=Blk.frozen hn 0
  have hlt:=hn.lt
  have hlen2:pre.length<100000:=by omega
  have HN:=hid hn;have HB:=hid hb;clear hn hb
  gi_wp2
  refine ⟨KeepD.setCell W (by omega) _,⟨(Below.refl _ W).setCell (by simp) _,heap_setCell_other W _ _ _ (by simp)⟩,D,fun k hk=>.inl hk,fun k hk=>⟨(hD k hk).1,by rw [World.size_setCell];exact (hD k hk).2⟩,?_,HB.out.setCell (by simp) _⟩
  have:=HN.out.set_ 0 (.int .i64 ((pre.length:Int)+1))
  rw [List.length_append]
  exact this
 case done =>
  rintro D ys Ds W hD hS ⟨hn,hb⟩ hDs hK hlt
  have c0:=Blk.nth hn 0
  have hl2:=hn.lt
  have HS:=hid hS;have HB:=hid hb;clear hS hb
  gi_wp2
  refine ⟨by simp,.inl ⟨_,_,rfl,run_takeDeferred hK,?_⟩⟩
  exact ⟨_,results_tmp rfl _ _ _,by rw [← HS.out,List.length_map];rfl,HB.out.trans ⟨rfl,rfl,rfl,by simp,fun k hk=>World.putObj_heap_other (by omega)⟩⟩
 case stop =>
  rintro D c pre W _ _ h _
  exact h.elim
theorem least_any (g:Nat) (ware:ByteArray) (lim by_:Int) (A:Option Addr) (n k:Nat) (ps:List Prt) (w:World) (hv:Vw w g ware lim by_ A n k ps) (h20:n<20):Calls Tryz.prog 94 #[.pointer (some ⟨g,0,none⟩)] w fun e w'=>e=.returned (.int .i64 (vesL ps).length)∧Below w.heap.size w w':=callsIn_wide.1 (least_in g ware lim by_ A n k ps w hv h20)
end Go.Proofs.YtokpblmgdmokoaaGreat
namespace Go.Proofs.YtokpblmgdmokoaaGreat
open Go.Lib (hid)
open Go.RowKit Go.Maps Go.Shelf
attribute [local go_sem] Oper.semAt_some
theorem infoS:(Tryz.prog.info? 30).map (fun i=>(i.zero,i.size,i.bytes))=some (some (.slice none 0 0),1,24):=by kernel_rfl
theorem wpListIn_app1S {F:Fence} {nn:Nat} {ops:Array Oper} {rest:List Oper} {w:World} {o:Oper} {a:Act} {Q:Exit→Act→World→Prop} (hgd:o.guard=none) (s x:Operand) (ho:o.op=.call { callee:=.builtin .append,args:=#[s,x],argTypes:=#[115,115] })
 (base:Nat) (v:Value) (n:Nat) (xs:List Value) (hs:a.eval s=v) (hown:w.ownsRow base 30 1 v n xs) (b:Nat) (u:Value) (hx:a.eval x=.slice (some ⟨b,0,none⟩) 1 1) (hc:w.cell? ⟨b,0,none⟩=some u) (h1:u.oneCell'=true) (hn:n≤100000) (hbase:base≤w.heap.size)
 (h:∀ v' w',w'.ownsRow base 30 1 v' (n+1) (xs++[u])→w.grownBy w' v.ownBlock→(v'.ownBlock=v.ownBlock∨v'.ownBlock=some w.heap.size)→wpListIn F nn Tryz.prog ops Q rest (a.put o.dst v') w'):wpListIn F nn Tryz.prog ops Q (o::rest) a w:=by
 obtain ⟨i0,hi0,hz0,hz1,hz2⟩:=info_parts infoS
 have hnews:∀ j u',([u]:List Value)[j]?=some u'→w.cell? ((⟨b,0,none⟩:Addr).add j)=some u':=by
  intro j u' hu
  rw [Addr.add_lit,Nat.zero_add]
  cases j with
  | zero=>simp at hu;subst hu;exact hc
  | succ j=>simp at hu
 have h1':∀ u'∈([u]:List Value),u'.oneCell'=true:=fun u' hu=>by rw [List.mem_singleton.1 hu];exact h1
 obtain ⟨v',w',hr2,h2,h3,-⟩:=run_append_own (P:=Tryz.prog) (w:=w) base 115 o.type 30 i0 _ 1 24 Tryz.underlying115 hi0 hz0 hz1 hz2 rfl (by omega) v n _ hown ⟨b,0,none⟩ 1 1 [u] rfl hnews h1' (by unfold maxLen;omega) (by omega) hbase
 obtain ⟨v2,w2,e2,h5⟩:=run_append_where (P:=Tryz.prog) w base 115 o.type 30 i0 _ 1 24 Tryz.underlying115 hi0 hz0 hz1 hz2 v n _ hown ⟨b,0,none⟩ 1 1 [u] rfl hnews h1' (by unfold maxLen;omega) (by omega) (by omega)
 rw [hr2] at e2
 injection e2 with e3 e4
 subst e3
 refine wpListIn_plain hgd fun K hK'=>?_
 unfold Oper.wpIn
 refine ⟨?_,?_⟩
 · simp [Oper.about,ho,resolve,Target.leads,Sem.run_pure]
 · rw [Oper.semAt_plain F _ _ (by rw [ho];intro c hc';cases hc')]
   simp [execOp,ho,resolve,invoke,builtin,hs,hx,hr2,Result.andThen]
   exact hK' _ _ (h v' w' h2 h3 h5)
theorem ownsRow_keepW {K:Nat→Prop} {X Y:World} {base n s:Nat} {e:TypeId} {v:Value} {xs:List Value} (h:X.ownsRow base e s v n xs) (hk:KeepW K X Y) (hK:∀ b,v.ownBlock=some b→K b):Y.ownsRow base e s v n xs:=by
 refine ⟨h.1,?_⟩
 rcases h.2 with h0|⟨g,cap,cur,rfl,hb,hh,hr⟩
 · exact .inl h0
 · exact .inr ⟨g,cap,cur,rfl,hb,(hk.block g (Array.getElem?_eq_some_iff.1 hh).1 (hK g (by simp [Value.ownBlock]))).trans hh,hr⟩
def vcs (xs:List Ves):List Value:=xs.map fun x=>.slice x.A x.l.length x.c
structure RdV (W:World) (A:Option Addr) (n c:Nat) (xs:List Ves):Prop where
 len:xs.length=n
 cap:n≤c
 nil:A=none→n=0∧c=0
 cells:Cells W A (vcs xs)
 ves:∀ x∈xs,RdI W x.A x.l.length x.c x.l
theorem RdV.below {W W':World} {A:Option Addr} {n c:Nat} {xs:List Ves} (h:RdV W A n c xs) (hb:Below W.heap.size W W'):RdV W' A n c xs:=⟨h.len,h.cap,h.nil,h.cells.below hb,fun x hx=>(h.ves x hx).below hb⟩
theorem RdV.drew {W:World} {A:Option Addr} {n c:Nat} {xs:List Ves} (h:RdV W A n c xs):RdV W.drew A n c xs:=h.below ((Below.refl _ W).drew)
theorem RdV.alloc {W:World} {A:Option Addr} {n c:Nat} {xs:List Ves} (h:RdV W A n c xs) (o:Obj):RdV (W.alloc o) A n c xs:=h.below ((Below.refl _ W).alloc (Nat.le_refl _) o)
def ColJ (w:World) (B:Nat) (D:Nat→Prop) (pre:List Ves) (W:World):Prop :=
 (∃ v,Blk W w.heap.size 115 #[v]∧W.ownsRow B 30 1 v pre.length (vcs pre)∧(∀ b,v.ownBlock=some b→D b)∧∀ x∈pre,∀ b,x.blk b→v.ownBlock≠some b)∧(∀ x∈pre,RdI W x.A x.l.length x.c x.l∧∀ b,x.blk b→D b)∧Below w.heap.size w W
theorem colJ_own (w:World) (B:Nat) (hB:w.heap.size<B):OwnK B (ColJ w B):=by
 rintro D s X Y ⟨⟨v,h1,h2,h3,h4⟩,h5,h6⟩ hk
 exact ⟨⟨v,hk.blk h1 (.inl hB),ownsRow_keepW h2 hk (fun b hb=>.inr (h3 b hb)),h3,h4⟩,fun x hx=>⟨rdI_keepW hk (h5 x hx).1 (fun ad e=>.inr ((h5 x hx).2 _ ⟨ad,e,rfl⟩)),(h5 x hx).2⟩,h6.trans (hk.below h6.size (fun i hi=>.inl (by omega)))⟩
set_option maxRecDepth 100000 in
theorem appendSeq_in (Bv g:Nat) (ware:ByteArray) (lim by_:Int) (A:Option Addr) (n k:Nat) (ps:List Prt) (w0 w:World) (hv:Vw w0 g ware lim by_ A n k ps) (h20:n<20) (hb0:Below w0.heap.size w0 w) (hbv:Blk w Bv 77 #[.pointer (some ⟨g,0,none⟩)]) :
 CallsIn Fence.wide 9 Tryz.prog 142 #[.slice none 0 0,.func (.func 137) #[] #[.pointer (some ⟨Bv,0,none⟩)]] w fun e w'=>∃ A m c xs,e=.returned (.slice A m c)∧RdV w' A m c xs∧xs.map (·.l)=vesL ps∧Below w.heap.size w w':=by
 have hbl:=hbv.lt
 refine callsIn_of_wp_marks Tryz.func142 rfl trivial ?_ rfl
 simp only [Tryz.ntmps142,List.size_toArray,List.length_cons,List.length_nil,Nat.reduceAdd,Nat.reduceSub,Array.replicate_succ,Array.replicate_zero,List.push_toArray,List.append_toArray,List.nil_append,List.cons_append]
 gi_wp2
 have hb1:Below w.heap.size w (w.alloc (.cells #[.slice none 0 0] 115)):=(Below.refl _ w).alloc (Nat.le_refl _) _
 have hn1:Blk (w.alloc (.cells #[.slice none 0 0] 115)) w.heap.size 115 #[.slice none 0 0]:=Blk.new w _ _
 have hv1:Blk (w.alloc (.cells #[.slice none 0 0] 115)) Bv 77 #[.pointer (some ⟨g,0,none⟩)]:=hbv.alloc _
 have hs1:(w.alloc (.cells #[.slice none 0 0] 115)).heap.size=w.heap.size+1:=by simp
 obtain ⟨w1,hw1⟩:∃ x,x=w.alloc (.cells #[.slice none 0 0] 115):=⟨_,rfl⟩
 rw [← hw1] at hb1 hn1 hv1 hs1 ⊢
 clear hw1
 have a0:=hb0.size
 refine rangeFunc_D (gf:=137) (lb:=#[.pointer (some ⟨Bv,0,none⟩)]) rfl (enters_of Tryz.func137 (by kernel_rfl) rfl) (vessels_seq Bv g ware lim by_ A n k ps w0 w1 hv h20 (hb0.trans (hb1.mono hb0.size)) hv1) (Below.refl _ _)
  (fun h k=>h.trans k) (kpV_put (by omega) (by omega)) (fun _=>rfl) (fun x X Y hp hk=>pxV_keep x X Y _ hp hk)
  (ColJ w w1.heap.size) (fun _ _ _=>False) (colJ_own w _ (by omega)) (fun _ _ _ _ hs _=>hs)
  ⟨⟨_,hn1,World.ownsRow_nil _ _ _ _,(fun b hb=>by simp [Value.ownBlock] at hb),(fun x hx=>by cases hx)⟩,(fun x hx=>by cases hx),hb1⟩
  (fun x a' _=>a'={ tmps:=#[.slice none 0 0,.func (.func 137) #[] #[.pointer (some ⟨Bv,0,none⟩)],.pointer (some ⟨w.heap.size,0,none⟩),undef,.slice none 0 0,.slice x.A x.l.length x.c,.func (.func 137) #[] #[.pointer (some ⟨Bv,0,none⟩)],.slice x.A x.l.length x.c,undef,undef,undef,undef,undef],defers:=[] }) (fun _ _ _ _ h _=>h) ?assign ?body ?done ?stop
 case assign =>
  rintro l D pre x W K hi hpx hG hD hxb hK
  have HK:=hid hK;clear hK
  dsimp only [encV]
  gi_wp2
  exact HK.out _ _ (KeepD.refl _ _ _) (KpV.refl _ _ _) hi hpx (by first|rfl | (simp;done)|kernel_rfl)
 case body =>
  rintro l D pre x a' W hl ⟨r,hr⟩ hG hD hxb ⟨⟨v,hbx,hrow,hvD,hvx⟩,hves,hb⟩ hpx rfl hlen
  obtain ⟨A9,c9,rfl,-⟩:=own_form hrow
  have c0:=Blk.nth hbx 0
  have f0:=Blk.frozen hbx 0
  have hlt:=hbx.lt
  have HP:=hid hpx.1
  have HBX:=hid hbx;have HB:=hid hb;have HVD:=hid hvD;have HVX:=hid hvx;have HVE:=hid hves;have HROW:=hid hrow;have HD:=hid hD;have HXB:=hid hxb
  clear hbx hb hvD hvx hves hrow hD hxb hpx
  have N1:=hid (Blk.new W 30 #[.slice x.A x.l.length x.c])
  gi_wp2_with (gi_at_builtin;refine wpListIn_app1S rfl (.tmp 8) (.tmp 10) rfl w1.heap.size (.slice A9 pre.length c9) pre.length (vcs pre) rfl (HROW.out.alloc _) W.heap.size (.slice x.A x.l.length x.c) rfl (Blk.nth N1.out 0) (by simp [Value.oneCell']) (by omega) (by rw [World.size_alloc];omega) ?_;intro v' w4 hown4 hg4 hwh4;have HO4:=hid hown4;have HG4:=hid hg4;have HW4:=hid hwh4;have hbb4:=hid (((Below.refl w.heap.size W).alloc (Nat.le_of_lt hlt) (.cells #[.slice x.A x.l.length x.c] 30)).grown hg4 (by rw [World.size_alloc];omega) (fun r e=>by have:=((HROW.out.alloc (.cells #[.slice x.A x.l.length x.c] 30)).lt r e).1;omega));obtain ⟨A5,c5,rfl,-⟩:=own_form hown4;have hBX4:=hid (show Blk w4 w.heap.size 115 #[.slice A9 pre.length c9] from (hg4.block w.heap.size (by rw [World.size_alloc];omega) (fun e=>by have:=((HROW.out.alloc (.cells #[.slice x.A x.l.length x.c] 30)).lt _ e.symm).1;omega)).trans (HBX.out.alloc _));clear hown4 hg4 hwh4 c0 f0;have c0:=Blk.nth hBX4.out 0;have f0:=Blk.frozen hBX4.out 0;have hlt4:=hBX4.out.lt)
  have hrow0:=HROW.out.alloc (.cells #[.slice x.A x.l.length x.c] 30)
  have hsz4:=HG4.out.size
  rw [World.size_alloc] at hsz4
  have hv5:∀ b,(Value.slice A5 (pre.length+1) c5).ownBlock=some b→D b∨b=W.heap.size+1:=by
   intro b hb
   rcases HW4.out with h|h
   · exact .inl (HVD.out b (h.symm.trans hb))
   · rw [World.size_alloc] at h
     exact .inr (Option.some.inj (hb.symm.trans h))
  have hfar:∀ b,b<W.heap.size→(Value.slice A9 pre.length c9).ownBlock≠some b→w4.heap[b]?=W.heap[b]?:=fun b hb hne=>(HG4.out.block b (by rw [World.size_alloc];omega) (fun e=>hne e.symm)).trans (Below.heap_alloc W _ b hb)
  have hset:∀ b,b≠w.heap.size→(w4.setCell ⟨w.heap.size,0,none⟩ (.slice A5 (pre.length+1) c5)).heap[b]?=w4.heap[b]?:=fun b hb=>heap_setCell_other w4 _ b _ hb
  have hsame:∀ b,b<W.heap.size→b≠w.heap.size→(Value.slice A9 pre.length c9).ownBlock≠some b→(w4.setCell ⟨w.heap.size,0,none⟩ (.slice A5 (pre.length+1) c5)).heap[b]?=W.heap[b]?:=fun b hb h1 h2=>(hset b h1).trans (hfar b hb h2)
  have hsz5:(w4.setCell ⟨w.heap.size,0,none⟩ (.slice A5 (pre.length+1) c5)).heap.size=w4.heap.size:=World.size_setCell _ _ _
  have hrd:∀ y:Ves,RdI W y.A y.l.length y.c y.l→(∀ b,y.blk b→b<W.heap.size∧b≠w.heap.size∧(Value.slice A9 pre.length c9).ownBlock≠some b)→RdI (w4.setCell ⟨w.heap.size,0,none⟩ (.slice A5 (pre.length+1) c5)) y.A y.l.length y.c y.l:=by
   intro y hy hyb
   refine ⟨hy.len,hy.cap,hy.nil,?_⟩
   rcases hy.cells with h0|⟨b,o,e,hltb,hc⟩
   · exact .inl h0
   · have h:=hyb b ⟨_,e,rfl⟩
     exact .inr ⟨b,o,e,by omega,fun j u hu=>(World.cell?_of_block (a:=⟨b,o+j,none⟩) (hsame b h.1 h.2.1 h.2.2)).trans (hc j u hu)⟩
  have hB5:Below w.heap.size W (w4.setCell ⟨w.heap.size,0,none⟩ (.slice A5 (pre.length+1) c5)):=hbb4.out.setCell (Nat.le_refl _) _
  gi_wp2
  refine ⟨⟨by omega,fun k hk hkl hD0=>hsame k hkl (by omega) (fun e=>hD0 (HVD.out k e))⟩,KpV.below hB5 a0 hbl,fun k=>D k∨x.blk k∨(Value.slice A5 (pre.length+1) c5).ownBlock=some k,?_,?_,⟨_,?_,?_,fun b hb=>.inr (.inr hb),?_⟩,?_,HB.out.trans hB5⟩
  · rintro k (h|h|h)
    · exact .inl h
    · exact .inr (.inr h)
    · rcases hv5 k h with h|h
      · exact .inl h
      · exact .inr (.inl (by omega))
  · rintro k (h|h|h)
    · have:=HD.out k h;exact ⟨this.1,by omega⟩
    · have:=HXB.out k h;exact ⟨this.1,by omega⟩
    · have h2:=(World.ownsRow.lt HO4.out k h).2
      rcases hv5 k h with h|h
      · exact ⟨(HD.out k h).1,by omega⟩
      · exact ⟨by omega,by omega⟩
  · exact hBX4.out.set_ 0 _
  · have h:=ownsRow_setCell_below HO4.out (a:=⟨w.heap.size,0,none⟩) (by show w.heap.size<_;omega) (.slice A5 (pre.length+1) c5)
    rw [List.length_append]
    unfold vcs at h ⊢
    rw [List.map_append]
    exact h
  · intro y hy b hyb e
    rcases List.mem_append.1 hy with hy|hy
    · have hDb:=(HVE.out y hy).2 b hyb
      rcases HW4.out with h|h
      · exact HVX.out y hy b hyb (h.symm.trans e)
      · rw [World.size_alloc] at h
        have:=Option.some.inj (e.symm.trans h)
        have:=(HD.out b hDb).2
        omega
    · rw [List.mem_singleton.1 hy] at hyb
      have hxb:=HXB.out b hyb
      rcases hv5 b e with h|h
      · exact hxb.2.2 h
      · omega
  · intro y hy
    rcases List.mem_append.1 hy with hy|hy
    · have h:=HVE.out y hy
      exact ⟨hrd y h.1 (fun b hb=>⟨(HD.out b (h.2 b hb)).2,by have:=(HD.out b (h.2 b hb)).1;omega,HVX.out y hy b hb⟩),fun b hb=>.inl (h.2 b hb)⟩
    · rw [List.mem_singleton.1 hy]
      exact ⟨hrd x HP.out (fun b hb=>⟨(HXB.out b hb).2.1,by have:=(HXB.out b hb).1;omega,fun e=>(HXB.out b hb).2.2 (HVD.out b e)⟩),fun b hb=>.inr (.inl hb)⟩
 case done =>
  rintro D ys Ds W hD hS hi hDs hK hlt
  have hi2:=colJ_own w w1.heap.size (by omega) _ _ _ (W.putObj D (.deferred none)) hi (KeepW.putObj W _ (fun h=>h.elim (fun h=>by omega) (fun h=>by have:=hDs _ h;omega)))
  obtain ⟨⟨v,hbx,hrow,hvD,hvx⟩,hves,hb⟩:=hi
  obtain ⟨A9,c9,rfl,-⟩:=own_form hrow
  have c0:=Blk.nth hbx 0
  have hl2:=hbx.lt
  have HS:=hid hS;have HI:=hid hi2;clear hS hb hves hvx hvD hrow
  gi_wp2
  refine ⟨by simp,.inl ⟨_,_,rfl,run_takeDeferred hK,?_⟩⟩
  obtain ⟨⟨v,hbx2,hrow,hvD,hvx⟩,hves,hb⟩:=HI.out
  have he:v=.slice A9 ys.length c9:=by
   have h1:=(show (W.putObj D (.deferred none)).heap[w.heap.size]?=W.heap[w.heap.size]? from World.putObj_heap_other (by omega)).symm.trans hbx2
   have h2:=hbx.symm.trans h1
   injection h2 with h2
   injection h2 with h2
   injection h2 with h2
   injection h2 with h2
   exact h2.symm
  subst he
  obtain ⟨A8,c8,e8,g1,g2,g3,g4⟩:=own_form hrow
  injection e8 with e1 e2 e3
  subst e1 e3
  exact ⟨_,results_tmp rfl _ _ _,A9,ys.length,c9,ys,rfl,⟨rfl,g1,g3,g4,fun x hx=>(hves x hx).1⟩,HS.out,hb⟩
 case stop =>
  rintro D c pre W _ _ h _
  exact h.elim
end Go.Proofs.YtokpblmgdmokoaaGreat
