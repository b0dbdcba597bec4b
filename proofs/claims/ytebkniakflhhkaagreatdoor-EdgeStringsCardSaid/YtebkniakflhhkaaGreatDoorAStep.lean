import Derived.Test.YtebkniakflhhkaaGreatDoorASet
set_option linter.unusedSimpArgs false
set_option linter.unusedVariables false
namespace Go.Proofs.YtebkniakflhhkaaGreatDoor
open Go.Lib (hid)
open Go.RowKit Go.Shelf
attribute [local go_sem] Oper.semAt_some
def hit (l:List Bnd) (to want:Int) (q:Nat × Int):Bool:=match l[q.1]? with|some b=>decide (b.t=to∧q.2=want)|none=>false
def stepL (l:List Bnd) (x:List Int) (to want:Int):Nat:=match (outs l x l.length).find? (hit l to want) with|some q=>q.1|none=>0
theorem stepL_of {l:List Bnd} {x:List Int} {to want:Int} {ys:List (Nat × Int)} {q:Nat × Int} (h:ys++[q] <+: outs l x l.length) (hno:∀ y∈ys,hit l to want y=false) (hq:hit l to want q=true):stepL l x to want=q.1:=by
 obtain ⟨r,hr⟩:=h
 unfold stepL
 rw [← hr,List.find?_append,List.find?_append,List.find?_eq_none.2 (fun y hy=>by simp [hno y hy])]
 simp [hq]
theorem stepL_none {l:List Bnd} {x:List Int} {to want:Int} {ys:List (Nat × Int)} (h:ys=outs l x l.length) (hno:∀ y∈ys,hit l to want y=false):stepL l x to want=0:=by
 unfold stepL
 rw [← h,List.find?_eq_none.2 (fun y hy=>by simp [hno y hy])]
theorem bdN {B:Nat} {a w:World} (h:Below B a w) (n:Nat):Below B a (w.drewN n):=h.trans ⟨rfl,rfl,rfl,Nat.le_refl _,fun _ _=>rfl⟩
set_option maxRecDepth 100000 in
set_option maxHeartbeats 2000000 in
theorem step_in (p:Int) (A:Option Addr) (n c:Nat) (l:List Bnd) (x:List Int) (to want:Int) (hx:x.length=60)
 (hn400:n≤402) (hok:OkB l) (hxv:∀ i,i<60→at_ x i=Inf∨(-900000000000≤at_ x i∧at_ x i≤900000000000))
 (w:World) (hr:RdB w A n c l) :
 CallsIn Fence.wide 5 Tryz.prog 161 #[.agg #[.int .i64 p,.slice A n c],.agg (arr x),.int .i64 to,.int .i64 want] w fun e w'=>e=.returned (.int .i64 (stepL l x to want))∧Below w.heap.size w w':=by
 have HX:=hid hx;clear hx
 have HR:=hid hr;clear hr
 have HOK:=hid hok;clear hok
 have HXV:=hid hxv;clear hxv
 have c0:=((((Blk.new w 133 #[.int .i64 p,.slice A n c]).alloc (.cells (arr x) 196)).alloc (.cells #[.int .i64 to] 3)).alloc (.cells #[.int .i64 want] 3)).alloc (.cells #[.int .i64 0] 3)
 have c1:=(((Blk.new (w.alloc (.cells #[.int .i64 p,.slice A n c] 133)) 196 (arr x)).alloc (.cells #[.int .i64 to] 3)).alloc (.cells #[.int .i64 want] 3)).alloc (.cells #[.int .i64 0] 3)
 have c2:=((Blk.new ((w.alloc (.cells #[.int .i64 p,.slice A n c] 133)).alloc (.cells (arr x) 196)) 3 #[.int .i64 to]).alloc (.cells #[.int .i64 want] 3)).alloc (.cells #[.int .i64 0] 3)
 have c3:=(Blk.new (((w.alloc (.cells #[.int .i64 p,.slice A n c] 133)).alloc (.cells (arr x) 196)).alloc (.cells #[.int .i64 to] 3)) 3 #[.int .i64 want]).alloc (.cells #[.int .i64 0] 3)
 have c4:=Blk.new ((((w.alloc (.cells #[.int .i64 p,.slice A n c] 133)).alloc (.cells (arr x) 196)).alloc (.cells #[.int .i64 to] 3)).alloc (.cells #[.int .i64 want] 3)) 3 #[.int .i64 0]
 simp only [World.size_alloc] at c1 c2 c3 c4
 have hB0:Below w.heap.size w (((((w.alloc (.cells #[.int .i64 p,.slice A n c] 133)).alloc (.cells (arr x) 196)).alloc (.cells #[.int .i64 to] 3)).alloc (.cells #[.int .i64 want] 3)).alloc (.cells #[.int .i64 0] 3)):=(((((Below.refl _ w).alloc (Nat.le_refl _) _).alloc (by simp) _).alloc (by simp;omega) _).alloc (by simp;omega) _).alloc (by simp;omega) _
 have hsz:(((((w.alloc (.cells #[.int .i64 p,.slice A n c] 133)).alloc (.cells (arr x) 196)).alloc (.cells #[.int .i64 to] 3)).alloc (.cells #[.int .i64 want] 3)).alloc (.cells #[.int .i64 0] 3)).heap.size=w.heap.size+5:=by simp
 have C0:=hid c0;have C1:=hid c1;have C2:=hid c2;have C3:=hid c3;have C4:=hid c4;clear c0 c1 c2 c3 c4
 refine callsIn_of_wp_marks Tryz.func161 rfl trivial ?_ rfl
 simp only [Tryz.ntmps161,List.size_toArray,List.length_cons,List.length_nil,Nat.reduceAdd,Nat.reduceSub,Array.replicate_succ,Array.replicate_zero,List.push_toArray,List.append_toArray,List.nil_append,List.cons_append]
 gi_upto_region 1 with (fail)
 generalize (((((w.alloc (.cells #[.int .i64 p,.slice A n c] 133)).alloc (.cells (arr x) 196)).alloc (.cells #[.int .i64 to] 3)).alloc (.cells #[.int .i64 want] 3)).alloc (.cells #[.int .i64 0] 3))=W0 at *
 have HSZ:=hid hsz;clear hsz
 have hlt0:w.heap.size+4<W0.heap.size:=by have:=HSZ.out;omega
 have k0:W0.cell? ⟨w.heap.size,0,none⟩=some (.int .i64 p):=C0.out.cell 0
 have k1:W0.cell? ⟨w.heap.size,1,none⟩=some (.slice A n c):=C0.out.cell 1
 gi_wp2_with (first | (refine wpListIn_load_row rfl 196 (.tmp 5) rfl _ rfl _ (arr x) (0,0) _ C1.out Tryz.underlying196 rfl (size_sums HX.out) ?_) | (refine ⟨trivial,?_⟩;gi_at_call 160;refine (onward_in _ _ _ _ _ _ _).mono ?_;rintro e w' ⟨rfl,rfl⟩))
 have d0:=Blk.new W0 133 #[.int .i64 p,.slice A n c]
 have d1:=d0.alloc (.cells (arr x) 196)
 have d2:=Blk.new (W0.alloc (.cells #[.int .i64 p,.slice A n c] 133)) 196 (arr x)
 simp only [World.size_alloc] at d2
 have hB1:Below w.heap.size w ((W0.alloc (.cells #[.int .i64 p,.slice A n c] 133)).alloc (.cells (arr x) 196)):=(hB0.alloc (by omega) _).alloc (by simp;omega) _
 have hsz1:((W0.alloc (.cells #[.int .i64 p,.slice A n c] 133)).alloc (.cells (arr x) 196)).heap.size=w.heap.size+7:=by simp [HSZ.out]
 refine wpIn_rangeFunc_ownG rfl (by omega) (gf:=169) (lb:=#[.pointer (some ⟨W0.heap.size,0,none⟩),.pointer (some ⟨W0.heap.size+1,0,none⟩)]) rfl trivial (enters_of Tryz.func169 (by kernel_rfl) rfl)
  (onward_stops (5-1) (by omega) W0.heap.size (W0.heap.size+1) n c p A l x hn400 HX.out (fun b hb=>⟨(HOK.out b hb).1,(HOK.out b hb).2.1,(HOK.out b hb).2.2.2.2.1,(HOK.out b hb).2.2.2.2.2⟩) HXV.out w _ HR.out hB1 d1 d2)
  KeepT.trans (keepT_b (by rw [hsz1];omega) (by rw [hsz1,HSZ.out];omega) (by rw [hsz1,HSZ.out];omega)) (Below.refl _ _) (fun _=>rfl)
  (fun pre W=>((∀ q∈pre.map (·.1),hit l to want q=false)∧Blk W (w.heap.size+4) 3 #[.int .i64 0]∧Blk W (w.heap.size+3) 3 #[.int .i64 want]∧Blk W (w.heap.size+2) 3 #[.int .i64 to]∧Blk W w.heap.size 133 #[.int .i64 p,.slice A n c])∧Below w.heap.size w W)
  (fun c pre W=>(c=.ret∧∃ ys q,pre.map (·.1)=ys++[q]∧(∀ y∈ys,hit l to want y=false)∧hit l to want q=true∧Blk W (w.heap.size+4) 3 #[.int .i64 (q.1:Int)])∧Below w.heap.size w W)
  (OwnFrom.and (Own.from (fun s X Y row hs hg hr=>⟨hs.1,blk_own hs.2.1 hg hr,blk_own hs.2.2.1 hg hr,blk_own hs.2.2.2.1 hg hr,blk_own hs.2.2.2.2 hg hr⟩) _) (ownFrom_below (Nat.le_refl _) (by omega)))
  (fun c=>OwnFrom.and (Own.from (fun s X Y row hs hg hr=>⟨hs.1,by obtain ⟨ys,q,h1,h2,h3,h4⟩:=hs.2;exact ⟨ys,q,h1,h2,h3,blk_own h4 hg hr⟩⟩) _) (ownFrom_below (Nat.le_refl _) (by omega)))
  ⟨⟨by simp,(C4.out.alloc _).alloc _,(C3.out.alloc _).alloc _,(C2.out.alloc _).alloc _,(C0.out.alloc _).alloc _⟩,hB1⟩
  (fun q=>{ tmps:=#[.agg #[.int .i64 p,.slice A n c],.agg (arr x),.int .i64 to,.int .i64 want,.pointer (some ⟨w.heap.size,0,none⟩),.pointer (some ⟨w.heap.size+1,0,none⟩),.pointer (some ⟨w.heap.size+1+1,0,none⟩),.pointer (some ⟨w.heap.size+1+1+1,0,none⟩),.pointer (some ⟨w.heap.size+1+1+1+1,0,none⟩),
   .int .i64 (q.1.1:Int),.int .i64 q.1.2,.agg #[.int .i64 p,.slice A n c],.agg (arr x),.func (.func 169) #[] #[.pointer (some ⟨W0.heap.size,0,none⟩),.pointer (some ⟨W0.heap.size+1,0,none⟩)],
   .int .i64 (q.1.1:Int),.int .i64 q.1.2,undef,undef,undef,undef,undef,undef,undef,undef,undef,undef,undef,undef,undef,undef],defers:=[] }) ?assign ?body ?done ?stop
 case assign =>
  intro lp q W K hK
  dsimp only [encY]
  gi_wp2
  exact hK
 case body =>
  rintro lp pre q W ⟨⟨hno,e4,e3,e2,e0⟩,hB⟩ hlen
  have hqn:q.1.1<n:=by have:=HR.out.len;have:=q.2.1;omega
  obtain ⟨b,o,f,t,m,i,hA,hbw,hxx,r0,r1,r2,r3⟩:=(HR.out.below hB).get hqn
  subst hA
  have hh:hit l to want q.1=decide (t=to∧q.1.2=want):=by unfold hit;rw [hxx]
  have hmap:(pre++[q]).map (·.1)=pre.map (·.1)++[q.1]:=by simp
  have HXX:=hid hxx;have HH:=hid hh;have HNO:=hid hno;have HM:=hid hmap;clear hxx hh hno hmap
  have u0:W.cell? ⟨w.heap.size,1,none⟩=some (.slice (some ⟨b,o,none⟩) n c):=e0.cell 1
  have u2:W.cell? ⟨w.heap.size+1+1,0,none⟩=some (.int .i64 to):=e2.cell 0
  have u3:W.cell? ⟨w.heap.size+1+1+1,0,none⟩=some (.int .i64 want):=e3.cell 0
  have u4:W.cell? ⟨w.heap.size+1+1+1+1,0,none⟩=some (.int .i64 0):=e4.cell 0
  have u5:W.frozen? ⟨w.heap.size+1+1+1+1,0,none⟩=false:=e4.frozen 0
  have z0:=e0.lt;have z4:=e4.lt;have z3:=e3.lt;have z2:=e2.lt
  have E4:=hid e4;have E3:=hid e3;have E2:=hid e2;have E0:=hid e0;clear e4 e3 e2 e0
  have kno:t≠to∨q.1.2≠want→∀ B nq,ownPostG B (KeepT w.heap.size W0.heap.size (W0.heap.size+1))
   (fun pre W=>((∀ q∈pre.map (·.1),hit l to want q=false)∧Blk W (w.heap.size+4) 3 #[.int .i64 0]∧Blk W (w.heap.size+3) 3 #[.int .i64 want]∧Blk W (w.heap.size+2) 3 #[.int .i64 to]∧Blk W w.heap.size 133 #[.int .i64 p,.slice (some ⟨b,o,none⟩) n c])∧Below w.heap.size w W)
   (fun c pre W=>(c=.ret∧∃ ys q,pre.map (·.1)=ys++[q]∧(∀ y∈ys,hit l to want y=false)∧hit l to want q=true∧Blk W (w.heap.size+4) 3 #[.int .i64 (q.1:Int)])∧Below w.heap.size w W) (pre++[q]) W Exit.normal { tmps:=#[],defers:=[] } (W.drewN nq):=by
   intro hne B nq
   refine ⟨⟨Nat.le_refl _,fun _ _ _ h _=>h⟩,⟨bdN (Below.refl _ W) nq,rfl,rfl⟩,⟨?_,E4.out,E3.out,E2.out,E0.out⟩,bdN hB nq⟩
   rw [HM.out]
   intro y hy
   rcases List.mem_append.1 hy with h|h
   · exact HNO.out y h
   · rw [List.mem_singleton.1 h,HH.out]
     rcases hne with h|h
     · exact decide_eq_false (fun h1=>h h1.1)
     · exact decide_eq_false (fun h1=>h h1.2)
  have KNO:=hid kno;clear kno
  have kyes:t=to→q.1.2=want→∀ B nq,ownPostG B (KeepT w.heap.size W0.heap.size (W0.heap.size+1))
   (fun pre W=>((∀ q∈pre.map (·.1),hit l to want q=false)∧Blk W (w.heap.size+4) 3 #[.int .i64 0]∧Blk W (w.heap.size+3) 3 #[.int .i64 want]∧Blk W (w.heap.size+2) 3 #[.int .i64 to]∧Blk W w.heap.size 133 #[.int .i64 p,.slice (some ⟨b,o,none⟩) n c])∧Below w.heap.size w W)
   (fun c pre W=>(c=.ret∧∃ ys q,pre.map (·.1)=ys++[q]∧(∀ y∈ys,hit l to want y=false)∧hit l to want q=true∧Blk W (w.heap.size+4) 3 #[.int .i64 (q.1:Int)])∧Below w.heap.size w W) (pre++[q]) W Exit.ret { tmps:=#[],defers:=[] } ((W.drewN nq).setCell ⟨w.heap.size+1+1+1+1,0,none⟩ (.int .i64 (q.1.1:Int))):=by
   intro h1 h2 B nq
   exact ⟨⟨((KeepsOthers.setCell (W.drewN nq) _ _).from 0).size,fun k o _=>((KeepsOthers.setCell (W.drewN nq) _ _).from 0).same k o (Nat.zero_le _)⟩,⟨rfl,pre.map (·.1),q.1,HM.out,HNO.out,by rw [HH.out];exact decide_eq_true ⟨h1,h2⟩,(E4.out:Blk (W.drewN nq) _ _ _).set_ 0 _⟩,(bdN hB nq).setCell (p:=⟨w.heap.size+1+1+1+1,0,none⟩) (by simp;omega) _⟩
  have KYES:=hid kyes;clear kyes
  by_cases ht:t=to
  · by_cases hs:q.1.2=want
    · have KY:=hid (KYES.out ht hs);clear KYES KNO HH
      have h1:(t == to)=true:=by simpa using ht
      have h2:(q.1.2 == want)=true:=by simpa using hs
      clear ht hs
      gi_wp2
      refine wpIn_region_quiet_round rfl (by kernel_rfl) (by kernel_rfl) (by kernel_rfl) ?_;(repeat (gi_big_quiet_step (fail)));refine wpQuietIn_nil ?_;intro _ hw';obtain ⟨nq,hw''⟩:=hw';subst hw''
      all_goals gi_wp2
      all_goals exact KY.out _ _
    · have KN:=hid (KNO.out (.inr hs));clear KYES KNO HH
      have h1:(t == to)=true:=by simpa using ht
      have h2:(q.1.2 == want)=false:=by simpa using hs
      clear ht hs
      gi_wp2
      refine wpIn_region_quiet_round rfl (by kernel_rfl) (by kernel_rfl) (by kernel_rfl) ?_;(repeat (gi_big_quiet_step (fail)));refine wpQuietIn_nil ?_;intro _ hw';obtain ⟨nq,hw''⟩:=hw';subst hw''
      all_goals gi_wp2
      all_goals exact KN.out _ _
  · have KN:=hid (KNO.out (.inl ht));clear KYES KNO HH
    have h1:(t == to)=false:=by simpa using ht
    clear ht
    gi_wp2
    refine wpIn_region_quiet_round rfl (by kernel_rfl) (by kernel_rfl) (by kernel_rfl) ?_;(repeat (gi_big_quiet_step (fail)));refine wpQuietIn_nil ?_;intro _ hw';obtain ⟨nq,hw''⟩:=hw';subst hw''
    all_goals gi_wp2
    all_goals exact KN.out _ _
 case done =>
  rintro D ys W hD hS ⟨⟨hno,e4,e3,e2,e0⟩,hB⟩ hK
  have hst:=stepL_none hS hno
  have u4:W.cell? ⟨w.heap.size+1+1+1+1,0,none⟩=some (.int .i64 0):=e4.cell 0
  have u5:W.frozen? ⟨w.heap.size+1+1+1+1,0,none⟩=false:=e4.frozen 0
  have E4:=hid e4;clear e4 e3 e2 e0
  have HK:=hid hK;clear hK
  have HST:=hid hst;clear hst
  gi_wp2
  have hK':(W.setCell ⟨w.heap.size+1+1+1+1,0,none⟩ (.int .i64 0)).heap[D]?=some (.deferred (some [])):=(heap_setCell_other _ _ _ _ (by simp;rw [hsz1] at hD;omega)).trans HK.out
  refine ⟨by simp,.inl ⟨_,_,rfl,run_takeDeferred hK',?_⟩⟩
  have h4:Blk ((W.setCell ⟨w.heap.size+1+1+1+1,0,none⟩ (.int .i64 0)).putObj D (.deferred none)) (w.heap.size+4) 3 #[.int .i64 0]:=(World.putObj_heap_other (by rw [hsz1] at hD;omega)).trans (E4.out.set_ 0 (.int .i64 0))
  have h5:=h4.cell 0
  refine ⟨.int .i64 0,by simp [results,Tryz.results161,go_sem,h5],by rw [HST.out];rfl,?_⟩
  exact (hB.setCell (p:=⟨w.heap.size+1+1+1+1,0,none⟩) (by simp;omega) _).trans (belowK_b (w:=w) (Nat.le_refl _) _ D _ _ (by rw [hsz1] at hD;omega) hK' rfl rfl)
 case stop =>
  rintro D c pre W hD hS ⟨⟨rfl,ys,q,hm,hno,hq,e4⟩,hB⟩ hK
  rw [hm] at hS
  have hst:=stepL_of hS hno hq
  have E4:=hid e4;clear e4
  have HK:=hid hK;clear hK
  have HST:=hid hst;clear hst
  gi_wp2
  refine ⟨by simp,.inl ⟨_,_,rfl,run_takeDeferred HK.out,?_⟩⟩
  have h4:Blk (W.putObj D (.deferred none)) (w.heap.size+4) 3 #[.int .i64 (q.1:Int)]:=(World.putObj_heap_other (by rw [hsz1] at hD;omega)).trans E4.out
  have h5:=h4.cell 0
  refine ⟨.int .i64 (q.1:Int),by simp [results,Tryz.results161,go_sem,h5],by rw [HST.out],?_⟩
  exact hB.trans (belowK_b (w:=w) (Nat.le_refl _) _ D _ _ (by rw [hsz1] at hD;omega) HK.out rfl rfl)
theorem step_any (p:Int) (A:Option Addr) (n c:Nat) (l:List Bnd) (x:List Int) (to want:Int) (hx:Wd 900000000000 x)
 (hn400:n≤402) (hok:OkB l) (w:World) (hr:RdB w A n c l) :
 Calls Tryz.prog 161 #[.agg #[.int .i64 p,.slice A n c],.agg (arr x),.int .i64 to,.int .i64 want] w fun e w'=>e=.returned (.int .i64 (stepL l x to want))∧Below w.heap.size w w' :=
 callsIn_wide.1 (step_in p A n c l x to want hx.1 hn400 hok hx.2 w hr)
end Go.Proofs.YtebkniakflhhkaaGreatDoor
