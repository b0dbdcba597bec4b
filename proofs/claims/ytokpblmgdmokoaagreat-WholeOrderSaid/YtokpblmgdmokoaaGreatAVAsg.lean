import Derived.Test.YtokpblmgdmokoaaGreatAVNmb
set_option linter.unusedSimpArgs false
set_option linter.unusedVariables false
namespace Go.Proofs.YtokpblmgdmokoaaGreat
open Go.Lib (hid)
open Go.RowKit Go.Maps Go.Shelf
attribute [local go_sem] Oper.semAt_some
def asgS (h:Int) (s:List Int × Int) (p:Int):List Int × Int:=if s.2=0 then s else (s.1.set p.toNat h,s.2-1)
def asgV (s:List Int × Int) (v:List Int):List Int × Int:=v.tail.foldl (asgS (v.headD 0)) s
def idsN (n:Nat):List Int:=(List.range n).map fun i:Nat=>(i:Int)
def asgF (n:Nat) (t:Int) (vs:List (List Int)):List Int × Int:=vs.foldl asgV (idsN n,n-t)
def asgL (ps:List Prt) (t:Int):List Int:=numL (asgF ps.length t (vesL ps)).1
theorem asgS_zero (h p:Int) {s:List Int × Int} (hs:s.2=0):asgS h s p=s:=if_pos hs
theorem asgV_zero {s:List Int × Int} (hs:s.2=0) (v:List Int):asgV s v=s:=by
 unfold asgV
 generalize v.headD 0=h
 induction v.tail with
 | nil=>rfl
 | cons p l ih=>rw [List.foldl_cons,asgS_zero h p hs];exact ih
theorem asgW_zero (h:Int) (l:List Int):∀ s:List Int × Int,s.2=0→l.foldl (asgS h) s=s:=by
 induction l with
 | nil=>intro s _;rfl
 | cons p l ih=>intro s hs;rw [List.foldl_cons,asgS_zero h p hs];exact ih s hs
theorem asgF_zero (n:Nat) (t:Int) {pre vs:List (List Int)} (hp:pre <+: vs) (h:(asgF n t pre).2=0):asgF n t vs=asgF n t pre:=by
 obtain ⟨r,rfl⟩:=hp
 unfold asgF at h ⊢
 rw [List.foldl_append]
 revert h
 generalize pre.foldl asgV (idsN n,n-t)=s
 intro h
 induction r with
 | nil=>rfl
 | cons v r ih=>rw [List.foldl_cons,asgV_zero h v];exact ih
def AsgOk (n:Nat) (s:List Int × Int):Prop:=s.1.length=n∧(∀ x∈s.1,∃ a:Nat,x=a∧a<n)∧0≤s.2∧s.2≤n
theorem asgS_ok {n:Nat} {h p:Int} {s:List Int × Int} (hs:AsgOk n s) (hh:∃ a:Nat,h=a∧a<n):AsgOk n (asgS h s p):=by
 unfold asgS
 split
 · exact hs
 · obtain ⟨h1,h2,h3,h4⟩:=hs
   refine ⟨by simpa using h1,fun x hx=>?_,by dsimp only;omega,by dsimp only;omega⟩
   rcases List.mem_or_eq_of_mem_set hx with h|rfl
   · exact h2 x h
   · exact hh
theorem asgW_ok {n:Nat} {h:Int} (hh:∃ a:Nat,h=a∧a<n) (l:List Int):∀ s:List Int × Int,AsgOk n s→AsgOk n (l.foldl (asgS h) s):=by
 induction l with
 | nil=>intro s hs;exact hs
 | cons p l ih=>intro s hs;rw [List.foldl_cons];exact ih _ (asgS_ok hs hh)
theorem asgV_ok {n:Nat} {s:List Int × Int} {v:List Int} (hs:AsgOk n s) (hv:v≠[]) (hi:∀ x∈v,∃ a:Nat,x=a∧a<n):AsgOk n (asgV s v):=by
 cases v with
 | nil=>exact absurd rfl hv
 | cons h l=>exact asgW_ok (hi h (by simp)) _ _ hs
theorem asgF_ok {n:Nat} {t:Int} (h0:0≤t) (ht:t≤n) (vs:List (List Int)) (hv:∀ v∈vs,v≠[]∧∀ x∈v,∃ a:Nat,x=a∧a<n):AsgOk n (asgF n t vs):=by
 unfold asgF
 have h:AsgOk n (idsN n,n-t):=⟨by simp [idsN],fun x hx=>by
  unfold idsN at hx
  obtain ⟨a,ha,rfl⟩:=List.mem_map.1 hx
  exact ⟨a,rfl,List.mem_range.1 ha⟩,by dsimp only;omega,by dsimp only;omega⟩
 revert h
 generalize ((idsN n,(n:Int)-t):List Int × Int)=s
 induction vs generalizing s with
 | nil=>exact fun h=>h
 | cons v vs ih =>
  intro h
  rw [List.foldl_cons]
  exact ih (fun u hu=>hv u (List.mem_cons_of_mem _ hu)) _ (asgV_ok h (hv v (by simp)).1 (hv v (by simp)).2)
theorem asgF_snoc (n:Nat) (t:Int) (pre:List (List Int)) (v:List Int):asgF n t (pre++[v])=asgV (asgF n t pre) v:=by unfold asgF;rw [List.foldl_append];rfl
def idsF (n q:Nat):List Int:=idsN q++List.replicate (n-q) 0
theorem idsF_len {n q:Nat} (h:q≤n):(idsF n q).length=n:=by simp [idsF,idsN];omega
theorem idsF_set {n q:Nat} (h:q<n):(idsF n q).set q (q:Int)=idsF n (q+1):=by
 have ht:(idsN q).length=q:=by simp [idsN]
 unfold idsF
 rw [List.set_append_right _ _ (by omega),ht,Nat.sub_self,show n-q=(n-(q+1))+1 by omega,List.replicate_succ,List.set_cons_zero]
 have e:idsN (q+1)=idsN q++[(q:Int)]:=by unfold idsN;rw [List.range_succ,List.map_append];rfl
 rw [e,List.append_assoc]
 rfl
structure AsgJ (w:World) (n:Nat) (s:List Int × Int) (W:World):Prop where
 list:Blk W w.heap.size 3 (arr s.1)
 box:Blk W (w.heap.size+1) 30 #[.slice (some ⟨w.heap.size,0,none⟩) n n]
 share:Blk W (w.heap.size+2) 3 #[.int .i64 s.2]
 bel:Below w.heap.size w W
 ok:AsgOk n s
structure FarK (B:Nat) (W W':World):Prop where
 bel:Below B W W'
 size:W'.heap.size=W.heap.size
 far:∀ k,B+3≤k→W'.heap[k]?=W.heap[k]?
theorem FarK.refl (B:Nat) (W:World):FarK B W W:=⟨Below.refl _ _,rfl,fun _ _=>rfl⟩
theorem FarK.set {B:Nat} {W W':World} (h:FarK B W W') {b i:Nat} (h1:B≤b) (h2:b<B+3) (v:Value):FarK B W (W'.setCell ⟨b,i,none⟩ v) :=
 ⟨h.bel.setCell h1 v,by rw [World.size_setCell];exact h.size,fun k hk=>(heap_setCell_other W' _ k v (by show k≠b;omega)).trans (h.far k hk)⟩
theorem FarK.keepD {B N:Nat} {D:Nat→Prop} {W W':World} (h:FarK B W W') (hN:N=B+4):KeepD N D W W':=⟨by rw [h.size];exact Nat.le_refl _,fun k hk _ _=>h.far k (by omega)⟩
theorem AsgJ.keepK {w:World} {n:Nat} {s:List Int × Int} {X Y:World} {K:Nat→Prop} (h:AsgJ w n s X) (hk:KeepW K X Y) (hK:∀ i,i<w.heap.size+3→K i):AsgJ w n s Y :=
 ⟨hk.blk h.list (hK _ (by omega)),hk.blk h.box (hK _ (by omega)),hk.blk h.share (hK _ (by omega)),h.bel.trans (hk.below h.bel.size (fun i hi=>hK i (by omega))),h.ok⟩
theorem FarK.drew {B:Nat} {W W':World} (h:FarK B W W'):FarK B W W'.drew:=⟨h.bel.drew,h.size,h.far⟩
theorem AsgJ.drew {w:World} {n:Nat} {s:List Int × Int} {X:World} (h:AsgJ w n s X):AsgJ w n s X.drew:=⟨h.list,h.box,h.share,h.bel.drew,h.ok⟩
theorem asgJ_rd {w:World} {n:Nat} {s:List Int × Int} {X:World} (h:AsgJ w n s X):RdI X (some ⟨w.heap.size,0,none⟩) n n s.1:=by
 refine ⟨h.ok.1,Nat.le_refl _,fun e=>(by cases e),.inr ⟨w.heap.size,0,rfl,h.list.lt,fun j v hv=>?_⟩⟩
 rw [Nat.zero_add]
 refine (h.list.cell j).trans ?_
 rw [← Array.getElem?_toList]
 simpa [arr] using hv
theorem asgOk_wf {n:Nat} {s:List Int × Int} (h:AsgOk n s) (hn:n<100000):∀ x∈s.1,WfI x:=fun x hx=>by
 obtain ⟨a,rfl,ha⟩:=h.2.1 x hx
 exact wfI_of (by omega)
theorem scope_wide {n:Nat} {P:Program} {c:Code} {Q:Exit→Act→World→Prop} {a:Act} {w:World} (h:c.wpIn Fence.wide n P (Exit.noGoto Q) a w):(Code.scope c).wpIn Fence.wide n P Q a w :=
 wpIn_wide.2 (wp_scope_straight (wpIn_wide.1 h))
theorem wpListIn_make_ints {F:Fence} {nn:Nat} {w:World} {ops:Array Oper} {rest:List Oper} {o:Oper} {a:Act} {Q:Exit→Act→World→Prop}
 (hg:o.guard=none) (l c:Operand) (hop:o.op=Op.makeSlice 30 l c) (n:Nat) (hl:a.eval l=.int .i64 n) (hc:a.eval c=.int .i64 n) (hn:n≤100000)
 (hK:wpListIn F nn Tryz.prog ops Q rest (a.put o.dst (.slice (some ⟨w.heap.size,0,none⟩) n n)) (w.alloc (.cells (arr (List.replicate n 0)) 3))) :
 wpListIn F nn Tryz.prog ops Q (o::rest) a w:=by
 obtain ⟨i,hi,hz,hs,hb⟩:=info_parts (show (Tryz.prog.info? 3).map (fun i=>(i.zero,i.size,i.bytes))=some (some (.int .i64 0),1,8) by kernel_rfl)
 have hrun:=run_make_row (P:=Tryz.prog) 30 3 i _ Tryz.underlying30 hi hz hs rfl .i64 .i64 n (by rw [hb];omega) (by omega) w
 rw [made_arr] at hrun
 refine wpListIn_plain hg fun K hK'=>?_
 unfold Oper.wpIn
 refine ⟨?_,?_⟩
 · simp [Oper.about,hop]
 · rw [Oper.semAt_plain F _ _ (by rw [hop];intro c' hc';cases hc')]
   simp [execOp,hop,hl,hc,hrun,Result.andThen]
   exact hK' _ _ hK
set_option maxRecDepth 100000 in
set_option maxHeartbeats 4000000 in
theorem assign_in (g:Nat) (ware:ByteArray) (lim by_:Int) (A:Option Addr) (n k:Nat) (ps:List Prt) (w:World) (hv:Vw w g ware lim by_ A n k ps) (h20:n<20) (t:Int) (ht0:0≤t) (htn:t≤n):CallsIn Fence.wide 9 Tryz.prog 100 #[.pointer (some ⟨g,0,none⟩),.int .i64 t] w fun e w'=>∃ b,e=.returned (.slice (some ⟨b,0,none⟩) n n)∧w.heap.size≤b∧Blk w' b 3 (arr (asgL ps t))∧Below w.heap.size w w':=by
 refine callsIn_of_wp_marks Tryz.func100 rfl trivial ?_ rfl
 simp only [Tryz.ntmps100,List.size_toArray,List.length_cons,List.length_nil,Nat.reduceAdd,Nat.reduceSub,Array.replicate_succ,Array.replicate_zero,List.push_toArray,List.append_toArray,List.nil_append,List.cons_append]
 obtain ⟨-,-,-,c3⟩:=hv.cells
 have hgl:=hv.lt
 gi_wp2
 refine scope_wide ?_
 gi_wp2_with (gi_at_make;refine wpListIn_make_ints rfl _ _ rfl n rfl rfl (by omega) ?_)
 try simp only [World.size_alloc]
 have hb1:Below w.heap.size w ((w.alloc (.cells (arr (List.replicate n 0)) 3)).alloc (.cells #[.slice (some ⟨w.heap.size,0,none⟩) n n] 30)):=((Below.refl _ w).alloc (Nat.le_refl _) _).alloc (by simp) _
 have hg1:Blk ((w.alloc (.cells (arr (List.replicate n 0)) 3)).alloc (.cells #[.slice (some ⟨w.heap.size,0,none⟩) n n] 30)) w.heap.size 3 (arr (List.replicate n 0)):=(Blk.new w 3 _).alloc _
 have hx1:Blk ((w.alloc (.cells (arr (List.replicate n 0)) 3)).alloc (.cells #[.slice (some ⟨w.heap.size,0,none⟩) n n] 30)) (w.heap.size+1) 30 #[.slice (some ⟨w.heap.size,0,none⟩) n n]:=by have:=Blk.new (w.alloc (.cells (arr (List.replicate n 0)) 3)) 30 #[.slice (some ⟨w.heap.size,0,none⟩) n n];rwa [World.size_alloc] at this
 have hs1:((w.alloc (.cells (arr (List.replicate n 0)) 3)).alloc (.cells #[.slice (some ⟨w.heap.size,0,none⟩) n n] 30)).heap.size=w.heap.size+2:=by simp
 obtain ⟨w1,hw1⟩:∃ x,x=((w.alloc (.cells (arr (List.replicate n 0)) 3)).alloc (.cells #[.slice (some ⟨w.heap.size,0,none⟩) n n] 30)):=⟨_,rfl⟩
 rw [← hw1] at hb1 hg1 hx1 hs1 ⊢
 clear hw1
 have hx0:=Blk.nth hx1 0
 have HB1:=hid hb1;have HG1:=hid hg1;have HX1:=hid hx1;have HS1:=hid hs1;clear hb1 hg1 hx1 hs1 c3
 gi_wp2
 clear hx0
 gi_loopw [20] (fun s20 wr=>∃ q:Nat,s20=.int .i64 q∧q≤n∧Blk wr w.heap.size 3 (arr (idsF n q))∧Blk wr (w.heap.size+1) 30 #[.slice (some ⟨w.heap.size,0,none⟩) n n]∧Below w.heap.size w wr∧wr.heap.size=w.heap.size+2) (fun s20 _=>n-(intOf s20).toNat)
 case atStart=>exact ⟨0,rfl,Nat.zero_le _,by have h:=HG1.out;unfold idsF idsN;simpa using h,HX1.out,HB1.out,HS1.out⟩
 case round =>
  clear HB1 HG1 HX1 HS1
  obtain ⟨q,rfl,hq,hg1,hx1,hb1,hs1⟩:=hrel
  have HB1:=hid hb1;have HG1:=hid hg1;have HX1:=hid hx1;have HS1:=hid hs1;clear hb1 hg1 hx1 hs1
  have hx0:=Blk.nth HX1.out 0
  by_cases hlt:q<n
  · have hlt':(q:Int)<n:=by omega
    have hcq:wr.cell? ⟨w.heap.size,q,none⟩=some (.int .i64 (at_ (idsF n q) q)):=(HG1.out.cell q).trans (arr_get _ q (by rw [idsF_len hq];exact hlt))
    have hfq:=Blk.frozen HG1.out q
    gi_wp2
    go_roundw
    case rel=>exact ⟨q+1,by go_num,by omega,by rw [← idsF_set hlt,← arr_set];exact HG1.out.set_ q (.int .i64 q),HX1.out.far (by dsimp only;omega) _,HB1.out.setCell (p:=⟨w.heap.size,q,none⟩) (Nat.le_refl _) (.int .i64 q),by rw [World.size_setCell];exact HS1.out⟩
    case measure=>simp [intOf];omega
  · obtain rfl:q=n:=by omega
    obtain ⟨-,-,-,c3⟩:=(hv.keep HB1.out).cells
    clear hx0
    have hfull:idsF q q=idsN q:=by unfold idsF;rw [Nat.sub_self];simp
    have hpl:=hv.prt.len
    have HVO:=hid (vesL_ok hpl)
    have HV:=hid hv;clear hv
    have hsz:=HS1.out
    have HC:=hid (vessels_any g (wr.alloc (.cells #[.int .i64 ((q:Int)-t)] 3)))
    have hbA:Below w.heap.size w ((wr.alloc (.cells #[.int .i64 ((q:Int)-t)] 3)).alloc (.cells #[.pointer (some ⟨g,0,none⟩)] 77)):=(HB1.out.alloc (by omega) _).alloc (by simp;omega) _
    have hgA:Blk ((wr.alloc (.cells #[.int .i64 ((q:Int)-t)] 3)).alloc (.cells #[.pointer (some ⟨g,0,none⟩)] 77)) w.heap.size 3 (arr (idsN q)):=by rw [← hfull];exact (HG1.out.alloc _).alloc _
    have hxA:Blk ((wr.alloc (.cells #[.int .i64 ((q:Int)-t)] 3)).alloc (.cells #[.pointer (some ⟨g,0,none⟩)] 77)) (w.heap.size+1) 30 #[.slice (some ⟨w.heap.size,0,none⟩) q q]:=(HX1.out.alloc _).alloc _
    have hnA:Blk ((wr.alloc (.cells #[.int .i64 ((q:Int)-t)] 3)).alloc (.cells #[.pointer (some ⟨g,0,none⟩)] 77)) (w.heap.size+2) 3 #[.int .i64 ((q:Int)-t)]:=by have:=(Blk.new wr 3 #[.int .i64 ((q:Int)-t)]).alloc (.cells #[.pointer (some ⟨g,0,none⟩)] 77);rwa [hsz] at this
    have hvA:Blk ((wr.alloc (.cells #[.int .i64 ((q:Int)-t)] 3)).alloc (.cells #[.pointer (some ⟨g,0,none⟩)] 77)) (w.heap.size+3) 77 #[.pointer (some ⟨g,0,none⟩)]:=by have:=Blk.new (wr.alloc (.cells #[.int .i64 ((q:Int)-t)] 3)) 77 #[.pointer (some ⟨g,0,none⟩)];rwa [World.size_alloc,hsz] at this
    have hsA:((wr.alloc (.cells #[.int .i64 ((q:Int)-t)] 3)).alloc (.cells #[.pointer (some ⟨g,0,none⟩)] 77)).heap.size=w.heap.size+4:=by rw [World.size_alloc,World.size_alloc,hsz]
    gi_wp2
    refine wpIn_label ?_
    gi_wp2_with fail
    refine ⟨trivial,(callsIn_wide.2 HC.out).mono ?_⟩
    rintro e w2 ⟨rfl,rfl⟩
    clear HC
    rw [World.size_alloc,hsz]
    obtain ⟨w2,hw2⟩:∃ x,x=((wr.alloc (.cells #[.int .i64 ((q:Int)-t)] 3)).alloc (.cells #[.pointer (some ⟨g,0,none⟩)] 77)):=⟨_,rfl⟩
    rw [← hw2] at hbA hgA hxA hnA hvA hsA ⊢
    clear hw2 c3 HB1 HG1 HX1 HS1 hsz hfull
    have HGA:=hid hgA;have HXA:=hid hxA;have HNA:=hid hnA;have HVA:=hid hvA;clear hgA hxA hnA hvA
    gi_wp2
    refine rangeFunc_D (gf:=137) (lb:=#[.pointer (some ⟨w.heap.size+3,0,none⟩)]) rfl (enters_of Tryz.func137 (by kernel_rfl) rfl) (vessels_seq (w.heap.size+3) g ware lim by_ A q k ps w w2 HV.out h20 hbA HVA.out) (Below.refl _ _)
     (fun h k=>h.trans k) (kpV_put (by omega) (by omega)) (fun _=>rfl) (fun x X Y hp hk=>pxV_keep x X Y _ hp hk)
     (fun _ (pre:List Ves) W=>AsgJ w q (asgF q t (pre.map Ves.l)) W) (fun c (pre:List Ves) W=>c=.exit 2∧AsgJ w q (asgF q t (pre.map Ves.l)) W∧(asgF q t (pre.map Ves.l)).2=0)
     (fun D s X Y hs hk=>hs.keepK hk (fun i hi=>.inl (by omega))) (fun _ _ _ _ hs hk=>⟨hs.1,hs.2.1.keepK hk (fun i hi=>by omega),hs.2.2⟩)
     ⟨HGA.out,HXA.out,HNA.out,hbA,asgF_ok ht0 htn [] (fun v hv=>by cases hv)⟩
     (fun x a' _=>a'={ tmps:=#[.pointer (some ⟨g,0,none⟩),.int .i64 t,undef,undef,.slice none 0 0,.pointer (some ⟨w.heap.size+1,0,none⟩),u6,.pointer (some ⟨w.heap.size+2,0,none⟩),.slice x.A x.l.length x.c,undef,undef,.pointer (some ⟨g,0,none⟩),.pointer (some ⟨g,0,none⟩),.pointer (some ⟨g,0,none⟩),.pointer (some ⟨g,3,none⟩),.slice A q k,.int .i64 q,.slice (some ⟨w.heap.size,0,none⟩) q q,.slice (some ⟨w.heap.size,0,none⟩) q q,.int .i64 q,.int .i64 q,.bool false,u22,u23,u24,u25,u26,u27,.pointer (some ⟨g,0,none⟩),.pointer (some ⟨g,0,none⟩),.pointer (some ⟨g,0,none⟩),.pointer (some ⟨g,3,none⟩),.slice A q k,.int .i64 q,.int .i64 t,.int .i64 ((q:Int)-t),.pointer (some ⟨g,0,none⟩),.func (.func 137) #[] #[.pointer (some ⟨w.heap.size+3,0,none⟩)],.slice x.A x.l.length x.c,undef,undef,undef,undef,undef,undef,undef,undef,undef,undef,undef,undef,undef,undef,undef,undef,undef,undef,undef,undef],defers:=[] }) (fun _ _ _ _ h _=>h) ?assign ?body ?done ?stop
    case assign =>
     rintro l D pre x W K hi hpx hG hD hxb hK
     have HK:=hid hK;clear hK
     dsimp only [encV]
     gi_wp2
     exact HK.out _ _ (KeepD.refl _ _ _) (KpV.refl _ _ _) hi hpx (by first|rfl | (simp;done)|kernel_rfl)
    case body =>
     rintro l D pre x a' W hl ⟨r,hr⟩ hG hD hxb hj hpx rfl hlen
     obtain ⟨xl,xA,c⟩:=x
     obtain ⟨hrd,hne,hln,hin⟩:=hpx
     dsimp only at hrd hne hln hin
     obtain ⟨v0,tl,rfl⟩:∃ v0 tl,xl=v0::tl:=by cases xl with|nil=>exact absurd rfl hne|cons a b=>exact ⟨a,b,rfl⟩
     clear hne
     have hcap:=hrd.cap
     obtain ⟨b,o,rfl,hbW,hcell⟩:∃ b o,xA=some ⟨b,o,none⟩∧b<W.heap.size∧∀ j v,(v0::tl)[j]?=some v→W.cell? ⟨b,o+j,none⟩=some (.int .i64 v):=by
      rcases hrd.cells with h0|⟨b,o,e,hlt,hc⟩
      · simp at h0
      · exact ⟨b,o,e,hlt,fun j v hv=>hc j _ (by rw [List.getElem?_map,hv];rfl)⟩
     clear hrd
     have hb2:=(hxb b ⟨_,rfl,rfl⟩).1
     have hc0:=hcell 0 v0 rfl
     rw [Nat.add_zero] at hc0
     have HC0:=hid hc0;clear hc0
     obtain ⟨s0,hs0⟩:∃ s,asgF q t (pre.map Ves.l)=s:=⟨_,rfl⟩
     rw [hs0] at hj
     have HS0:=hid hs0;have HJ:=hid hj;have HD:=hid hD;have HIN:=hid hin;clear hs0 hj hD hin hxb
     rw [List.length_cons] at hcap hln
     dsimp only
     rw [List.length_cons]
     have hposz:(1:Int)≤((tl.length+1:Nat):Int):=by omega
     have hcz:(1:Int)≤(c:Int):=by omega
     by_cases hc1:c=1
     · obtain rfl:tl=[]:=List.length_eq_zero_iff.1 (by omega)
       have hT:∀ (j:Nat) v,([]:List Int)[j]?=some v→W.cell? ⟨b,o+j,none⟩=some (.int .i64 v):=fun j v hv=>by cases hv
       subst hc1
       gi_wp2
       have HS1:=hid (show asgF q t ((pre++[(⟨[v0],some ⟨b,o,none⟩,1⟩:Ves)]).map Ves.l)=s0 by rw [List.map_append,List.map_cons,List.map_nil,asgF_snoc,HS0.out];rfl)
       gi_loopw [42] (fun s42 wr=>s42=.int .i64 0∧wr=W) (fun _ _=>0)
       case atStart=>exact ⟨rfl,rfl⟩
       case round =>
        obtain ⟨rfl,rfl⟩:=hrel
        gi_wp2
        exact ⟨KeepD.refl _ _ _,KpV.refl _ _ _,D,fun k hk=>.inl hk,fun k hk=>HD.out k hk,by show AsgJ _ _ (asgF q t _) _;rw [HS1.out];exact HJ.out⟩
     · have hT:∀ (j:Nat) v,tl[j]?=some v→W.cell? ⟨b,o+1+j,none⟩=some (.int .i64 v):=fun j v hv=>by rw [show o+1+j=o+(j+1) by omega];exact hcell (j+1) v hv
       have HCC:=hid hcell;clear hcell
       gi_wp2
       clear hcap
       have HT:=hid hT;clear hT
       gi_loopw [42] (fun s42 wr=>∃ j:Nat,s42=.int .i64 j∧j≤tl.length∧AsgJ w q ((tl.take j).foldl (asgS v0) s0) wr∧FarK w.heap.size W wr) (fun s42 _=>tl.length-(intOf s42).toNat)
       case atStart=>exact ⟨0,rfl,Nat.zero_le _,HJ.out,FarK.refl _ _⟩
       case round =>
        clear HJ
        obtain ⟨j,rfl,hjm,hj,hfk⟩:=hrel
        have HJ:=hid hj;have HFK:=hid hfk;clear hj hfk
        have hn0:=Blk.nth HJ.out.share 0
        have hx0:=Blk.nth HJ.out.box 0
        have hf0:=Blk.frozen HJ.out.share 0
        by_cases hlt:j<tl.length
        · have hlt':(j:Int)<tl.length:=by omega
          obtain ⟨p,hp⟩:∃ p,tl[j]?=some p:=⟨_,List.getElem?_eq_getElem hlt⟩
          have hcx:=(World.cell?_of_block (a:=⟨b,o+1+j,none⟩) (HFK.out.far b (by omega))).trans (HT.out j p hp)
          have hcv:=(World.cell?_of_block (a:=⟨b,o,none⟩) (HFK.out.far b (by omega))).trans HC0.out
          obtain ⟨pn,rfl,hpn⟩:=HIN.out p (by simp [List.mem_of_getElem? hp])
          have hpz:(pn:Int)<q:=by omega
          have htk:tl.take (j+1)=tl.take j++[(pn:Int)]:=by rw [List.take_add_one,hp];rfl
          obtain ⟨s,hs⟩:∃ s,s=(tl.take j).foldl (asgS v0) s0:=⟨_,rfl⟩
          have hs1:(tl.take (j+1)).foldl (asgS v0) s0=asgS v0 s pn:=by rw [htk,List.foldl_append,← hs];rfl
          have hs2:s.2=0→tl.foldl (asgS v0) s0=s:=fun h=>by
           conv=>lhs;rw [← List.take_append_drop j tl,List.foldl_append,← hs]
           exact asgW_zero _ _ _ h
          rw [← hs] at HJ hn0
          have HS1:=hid hs1;have HS2:=hid hs2;clear hs1 hs2 hs htk hp
          obtain ⟨s1,sh⟩:=s
          have hok:=HJ.out.ok
          have hlen1:=hok.1
          have hsh:=hok.2.2
          dsimp only at hn0 hlen1 hsh
          have hrow:Blk wr w.heap.size 3 (arr s1):=HJ.out.list
          have hcr:wr.cell? ⟨w.heap.size,pn,none⟩=some (.int .i64 (at_ s1 pn)):=(hrow.cell pn).trans (arr_get _ pn (by rw [hlen1];exact hpn))
          have hfr:=Blk.frozen hrow pn
          have HROW:=hid hrow;have HOK:=hid hok;clear hrow hok
          by_cases hz:sh=0
          · subst hz
            gi_wp2
            have e1:asgF q t ((pre++[(⟨v0::tl,some ⟨b,o,none⟩,c⟩:Ves)]).map Ves.l)=(s1,0):=by rw [List.map_append,List.map_cons,List.map_nil,asgF_snoc,HS0.out];exact HS2.out trivial
            exact ⟨HFK.out.keepD rfl,rfl,by rw [e1];exact HJ.out,by rw [e1]⟩
          · gi_wp2
            have hsw:IntKind.i64.wrap (sh-1)=sh-1:=IntWalk.i64_in _ (by omega)
            have e2:asgS v0 (s1,sh) pn=(s1.set pn v0,sh-1):=by unfold asgS;rw [if_neg hz];simp
            have hj2:AsgJ w q ((tl.take (j+1)).foldl (asgS v0) s0) (((wr.setCell ⟨w.heap.size,pn,none⟩ (.int .i64 v0)).setCell ⟨w.heap.size+2,0,none⟩ (.int .i64 (sh-1))).drew):=by
             have hk:=asgS_ok (p:=pn) HOK.out (HIN.out v0 (by simp))
             rw [HS1.out]
             rw [e2] at hk ⊢
             refine AsgJ.drew ⟨?_,?_,?_,?_,hk⟩
             · rw [← arr_set];exact (HROW.out.set_ pn (.int .i64 v0)).far (by dsimp only;omega) _
             · exact (HJ.out.box.far (by dsimp only;omega) _).far (by dsimp only;omega) _
             · exact (HJ.out.share.far (by dsimp only;omega) _).set_ 0 _
             · exact (HJ.out.bel.setCell (p:=⟨w.heap.size,pn,none⟩) (Nat.le_refl _) _).setCell (p:=⟨w.heap.size+2,0,none⟩) (by dsimp only;omega) _
            have hf2:FarK w.heap.size W (((wr.setCell ⟨w.heap.size,pn,none⟩ (.int .i64 v0)).setCell ⟨w.heap.size+2,0,none⟩ (.int .i64 (sh-1))).drew):=((HFK.out.set (Nat.le_refl _) (by omega) _).set (by omega) (by omega) _).drew
            have HJ2:=hid hj2;have HF2:=hid hf2;clear hj2 hf2 e2
            gi_region
            all_goals
             gi_wp2
             go_roundw
             case rel=>exact ⟨j+1,by go_num,by omega,HJ2.out,HF2.out⟩
             case measure=>simp [intOf];omega
        · obtain rfl:j=tl.length:=by omega
          have e1:asgF q t ((pre++[(⟨v0::tl,some ⟨b,o,none⟩,c⟩:Ves)]).map Ves.l)=(tl.take tl.length).foldl (asgS v0) s0:=by rw [List.map_append,List.map_cons,List.map_nil,asgF_snoc,HS0.out,List.take_length];rfl
          have HE:=hid e1;clear e1
          gi_wp2
          exact ⟨HFK.out.keepD (by first|rfl|exact hsA),⟨HFK.out.bel,HFK.out.far _ (Nat.le_refl _)⟩,D,fun k hk=>.inl hk,fun k hk=>by rw [HFK.out.size];exact HD.out k hk,by show AsgJ _ _ (asgF q t _) _;rw [HE.out];exact HJ.out⟩
    case done =>
     rintro D ys Ds W hD hS hj hDs hK hlt
     have hS2:asgF q t (ys.map Ves.l)=asgF q t (vesL ps):=by rw [hS]
     rw [hS2] at hj
     have HJ:=hid hj;clear hj
     have HN:=hid (numbered_any (some ⟨w.heap.size,0,none⟩) q q (asgF q t (vesL ps)).1 W (asgJ_rd HJ.out) (by omega) (asgOk_wf HJ.out.ok (by omega)))
     have hx0:=Blk.nth HJ.out.box 0
     gi_wp2_with fail
     refine ⟨trivial,(callsIn_wide.2 HN.out).mono ?_⟩
     rintro e w5 ⟨b,rfl,hbs,hbk,hb5⟩
     have hK5:w5.heap[D]?=some (.deferred (some [])):=(hb5.block D (Array.getElem?_eq_some_iff.1 hK).1).trans hK
     have HBK:=hid hbk;have HB5:=hid hb5;clear hbk hb5 HN hx0
     have hsz5:=HJ.out.bel.size
     have hdb:D≠b:=fun e=>by have:=(Array.getElem?_eq_some_iff.1 hK).1;omega
     gi_wp2
     dsimp only [Exit.noGoto]
     gi_wp2
     refine ⟨by simp,.inl ⟨_,_,rfl,run_takeDeferred hK5,?_⟩⟩
     exact ⟨_,results_tmp rfl _ _ _,b,rfl,Nat.le_trans hsz5 hbs,by unfold asgL;rw [hpl];exact (World.putObj_heap_other (Ne.symm hdb)).trans HBK.out,(HJ.out.bel.trans (HB5.out.mono hsz5)).trans ⟨rfl,rfl,rfl,by simp,fun k hk=>World.putObj_heap_other (by omega)⟩⟩
    case stop =>
     rintro D c pre W hD hSp ⟨rfl,hj,hz⟩ hK
     rw [← asgF_zero q t hSp hz] at hj
     have HJ:=hid hj;clear hj hz
     have hlt:=(Array.getElem?_eq_some_iff.1 hK).1
     have HN:=hid (numbered_any (some ⟨w.heap.size,0,none⟩) q q (asgF q t (vesL ps)).1 W (asgJ_rd HJ.out) (by omega) (asgOk_wf HJ.out.ok (by omega)))
     have hx0:=Blk.nth HJ.out.box 0
     gi_wp2_with fail
     refine ⟨trivial,(callsIn_wide.2 HN.out).mono ?_⟩
     rintro e w5 ⟨b,rfl,hbs,hbk,hb5⟩
     have hK5:w5.heap[D]?=some (.deferred (some [])):=(hb5.block D (Array.getElem?_eq_some_iff.1 hK).1).trans hK
     have HBK:=hid hbk;have HB5:=hid hb5;clear hbk hb5 HN hx0
     have hsz5:=HJ.out.bel.size
     have hdb:D≠b:=fun e=>by have:=(Array.getElem?_eq_some_iff.1 hK).1;omega
     gi_wp2
     dsimp only [Exit.noGoto]
     gi_wp2
     refine ⟨by simp,.inl ⟨_,_,rfl,run_takeDeferred hK5,?_⟩⟩
     exact ⟨_,results_tmp rfl _ _ _,b,rfl,Nat.le_trans hsz5 hbs,by unfold asgL;rw [hpl];exact (World.putObj_heap_other (Ne.symm hdb)).trans HBK.out,(HJ.out.bel.trans (HB5.out.mono hsz5)).trans ⟨rfl,rfl,rfl,by simp,fun k hk=>World.putObj_heap_other (by omega)⟩⟩
end Go.Proofs.YtokpblmgdmokoaaGreat
