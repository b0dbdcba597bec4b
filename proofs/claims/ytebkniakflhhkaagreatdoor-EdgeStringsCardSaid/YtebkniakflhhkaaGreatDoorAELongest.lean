import Derived.Test.YtebkniakflhhkaaGreatDoorAEPairs
set_option maxHeartbeats 4000000
set_option linter.unusedSimpArgs false
set_option linter.unusedVariables false
namespace Go.Proofs.YtebkniakflhhkaaGreatDoor
open Go.Lib (hid)
open Go.RowKit Go.Shelf
attribute [local go_sem] Oper.semAt_some
def marks (Ds:List Nat):List Deferred:=Ds.map fun D=>{ target:=.collected D,args:=#[] }
def MarksOK (B:Nat) (Ds:List Nat) (W:World):Prop:=Ds.Nodup∧∀ D∈Ds,B≤D∧W.heap[D]?=some (.deferred (some []))
theorem MarksOK.nil (B:Nat) (W:World):MarksOK B [] W:=⟨List.nodup_nil,fun _ h=>by cases h⟩
theorem MarksOK.lt {B:Nat} {Ds:List Nat} {W:World} (h:MarksOK B Ds W):∀ D∈Ds,D<W.heap.size:=fun D hD=>(Array.getElem?_eq_some_iff.1 (h.2 D hD).2).1
theorem MarksOK.same {B:Nat} {Ds:List Nat} {W W':World} (h:MarksOK B Ds W) (e:∀ D∈Ds,W'.heap[D]?=W.heap[D]?):MarksOK B Ds W' :=
 ⟨h.1,fun D hD=>⟨(h.2 D hD).1,(e D hD).trans (h.2 D hD).2⟩⟩
theorem MarksOK.keep {B:Nat} {Ds:List Nat} {W W':World} (h:MarksOK B Ds W) (hb:Below W.heap.size W W'):MarksOK B Ds W':=h.same fun D hD=>hb.block D (h.lt D hD)
theorem MarksOK.drew {B:Nat} {Ds:List Nat} {W:World} (h:MarksOK B Ds W):MarksOK B Ds W.drew:=h
theorem MarksOK.alloc {B:Nat} {Ds:List Nat} {W:World} (h:MarksOK B Ds W) (o:Obj):MarksOK B Ds (W.alloc o):=h.keep ((Below.refl _ W).alloc (Nat.le_refl _) _)
theorem MarksOK.cons {B D:Nat} {Ds:List Nat} {W:World} (h:MarksOK B Ds W) (hB:B≤D) (hD:∀ x∈Ds,x<D) (hd:W.heap[D]?=some (.deferred (some []))):MarksOK B (D::Ds) W :=
 ⟨List.nodup_cons.2 ⟨fun hm=>by have:=hD D hm;omega,h.1⟩,fun x hx=>by
  rcases List.mem_cons.1 hx with rfl|hx
  · exact ⟨hB,hd⟩
  · exact h.2 x hx⟩
theorem ownFrom_marks {β:Type} {B C:Nat} {Ds:List Nat} (hC:∀ D∈Ds,D<C):OwnFrom C (fun (_:β) W=>MarksOK B Ds W):=fun s X Y row hs hg hr =>
 hs.same fun D hD=>hg.block D (hs.lt D hD) (fun e=>by have:=(hr D e.symm).1;have:=hC D hD;omega)
theorem leaves_marks {F:Fence} {n:Nat} {P:Program} {fn:Func} {tmps:Array Value} {R:Ending→World→Prop} {u:FrameMode} (hu:u≠.run) {B:Nat}:∀ (Ds:List Nat) (W:World),MarksOK B Ds W→B≤W.heap.size →
 (∀ W',Below B W W'→W'.heap.size=W.heap.size→(∀ k,(∀ D∈Ds,k≠D)→W'.heap[k]?=W.heap[k]?)→LeavesIn F n P fn tmps R [] u W')→LeavesInM F n P fn tmps R (marks Ds) u W
 | [],W,_,hB,h=>h W (Below.refl _ _) rfl (fun _ _=>rfl)
 | D::Ds,W,hm,hB,h=>by
  have hD:=(hm.2 D (List.mem_cons_self)).2
  have hBD:=(hm.2 D (List.mem_cons_self)).1
  have hnd:=List.nodup_cons.1 hm.1
  refine ⟨hu,.inl ⟨D,_,rfl,run_takeDeferred hD,leaves_marks hu Ds _ ⟨hnd.2,fun x hx=>⟨(hm.2 x (List.mem_cons_of_mem _ hx)).1,(World.putObj_heap_other (by rintro rfl;exact hnd.1 hx)).trans (hm.2 x (List.mem_cons_of_mem _ hx)).2⟩⟩ (by simpa using hB) fun W' hb hs hk=>h W' ?_ (by simpa using hs) ?_⟩⟩
  · have h1:Below B W (W.putObj D (.deferred none)):=(Below.refl B W).grown (grownBy_putObj' W D _) hB (fun k e=>by cases e;exact hBD)
    exact h1.trans hb
  · intro k hk2
    exact (hk k (fun x hx=>hk2 x (List.mem_cons_of_mem _ hx))).trans (World.putObj_heap_other (hk2 D (List.mem_cons_self)))
theorem scope_wide {n:Nat} {P:Program} {c:Code} {Q:Exit→Act→World→Prop} {a:Act} {w:World} (h:c.wpIn Fence.wide n P (Exit.noGoto Q) a w):(Code.scope c).wpIn Fence.wide n P Q a w :=
 wpIn_wide.2 (wp_scope_straight (wpIn_wide.1 h))
theorem meetL_none {a b:Otl} {s:Int} (h:(meetL a b s).isEmpty=true):meetL a b s=[]:=List.isEmpty_iff.1 h
set_option maxRecDepth 100000 in
theorem Longest_ok (c:Int) (A B:Option Addr) (n k m j:Nat) (ws ts:List Bnd) (d:Int) (C D:Option Addr) (n2 k2 m2 j2:Nat) (ws2 ts2:List Bnd) (w:World) (h1:RdB w A n k ws) (h2:RdB w B m j ts) (hn:n≤maxLen) (hm:m≤maxLen) (h3:RdB w C n2 k2 ws2) (h4:RdB w D m2 j2 ts2) (hn2:n2≤maxLen) (hm2:m2≤maxLen) (hq:both ⟨c,ws,ts⟩ ⟨d,ws2,ts2⟩=0) (M:Nat) (hM:longN ⟨c,ws,ts⟩ ⟨d,ws2,ts2⟩ (mostN ⟨c,ws,ts⟩ ⟨d,ws2,ts2⟩)=M) :
 CallsIn Fence.wide 9 Tryz.prog 15 #[.agg #[.int .i64 c,.slice A n k,.slice B m j],.agg #[.int .i64 d,.slice C n2 k2,.slice D m2 j2]] w fun e w'=>e=.returned (.tuple #[.int .i64 (M:Nat),.int .i64 0])∧Below w.heap.size w w':=by
 have HQ:=hid hq;have HM:=hid hM;clear hM
 obtain ⟨hoa,hob,-,-⟩:=both_ok hq
 obtain ⟨a1,a2,-,-⟩:=chkO_ok hoa
 obtain ⟨b1,b2,-,-⟩:=chkO_ok hob
 dsimp only at a1 a2 b1 b2
 clear hoa hob hq
 have HOY:=hid (fun W (hW:Below w.heap.size w W)=>outlinesOf_yes c A B n k m j ws ts d C D n2 k2 m2 j2 ws2 ts2 W (h1.below hW) (h2.below hW) hn hm (h3.below hW) (h4.below hW) hn2 hm2 HQ.out)
 have HMS:=hid (fun Bo Bs s hs W (hW:Below w.heap.size w W) ho hsb=>meeting_stops Bo Bs c A B n k m j ws ts d C D n2 k2 m2 j2 ws2 ts2 s hs w h1 h2 hn hm h3 h4 hn2 hm2 HQ.out W hW ho hsb)
 clear h1 h2 h3 h4 hn hm hn2 hm2
 refine callsIn_of_wp_marks Tryz.func15 rfl trivial ?_ rfl
 simp only [Tryz.ntmps15,List.size_toArray,List.length_cons,List.length_nil,Nat.reduceAdd,Nat.reduceSub,Array.replicate_succ,Array.replicate_zero,List.push_toArray,List.append_toArray,List.nil_append,List.cons_append]
 gi_wp2
 refine scope_wide ?_
 obtain ⟨a0,a3,a4⟩:=ent2 w #[.int .i64 c,.slice A n k,.slice B m j] 35 #[.int .i64 d,.slice C n2 k2,.slice D m2 j2] 35
 obtain ⟨a9,b0,b3⟩:=at3 a0
 obtain ⟨e5,e6,e7⟩:=at3 a3
 have hc:=HOY.out _ (a4.out)
 have HC:=hid hc;clear hc
 gi_wp2_with fail
 refine ⟨trivial,(callsIn_wide.2 HC.out).mono ?_⟩
 rintro e a8 ⟨rfl,hb⟩
 clear HC
 clear a9 b0 b3 e5 e6 e7
 have a7:=hid hb
 clear hb
 replace a0:=kH a0 a7
 obtain ⟨b5,b6,b7⟩:=at3 a0
 replace a3:=kH a3 a7
 obtain ⟨b8,b9,c0⟩:=at3 a3
 clear b5 b6 b7 b8 b9 c0
 obtain ⟨o_,ho_⟩:∃ o,o=((.cells #[.int .i64 c,.slice A n k,.slice B m j,.int .i64 d,.slice C n2 k2,.slice D m2 j2] 76):Obj):=⟨_,rfl⟩
 replace a4:=bA (bH a4 a7) o_
 replace a0:=kA a0 o_
 replace a3:=kA a3 o_
 subst ho_
 have a5:=hid (Blk.new a8 76 #[.int .i64 c,.slice A n k,.slice B m j,.int .i64 d,.slice C n2 k2,.slice D m2 j2])
 obtain ⟨c1,c2,c3⟩:=at3 a0
 obtain ⟨c4,c5,c6⟩:=at3 a3
 obtain ⟨c7,c8,c9,d0,d1,d2⟩:=at6 a5
 have hc:=most_any c A B n k m j d C D n2 k2 m2 j2 ((a8.alloc (.cells #[.int .i64 c,.slice A n k,.slice B m j,.int .i64 d,.slice C n2 k2,.slice D m2 j2] 76)))
 have HC:=hid hc;clear hc
 gi_wp2_with fail
 refine ⟨trivial,(callsIn_wide.2 HC.out).mono ?_⟩
 rintro e f1 ⟨rfl,hb⟩
 clear HC
 clear c1 c2 c3 c4 c5 c6 c7 c8 c9 d0 d1 d2
 have a6:=hid hb
 clear hb
 replace a0:=kH a0 a6
 obtain ⟨d3,d4,d5⟩:=at3 a0
 replace a3:=kH a3 a6
 obtain ⟨d6,d7,d8⟩:=at3 a3
 replace a5:=kH a5 a6
 obtain ⟨d9,e0,e1,e2,e3,e4⟩:=at6 a5
 gi_wp2
 refine wpIn_label ?_
 gi_wp2
 clear d3 d4 d5 d6 d7 d8 d9 e0 e1 e2 e3 e4
 obtain ⟨Bo,hBo⟩:∃ x,x=a8.heap.size:=⟨_,rfl⟩
 have bo_:=a5.out
 rw [← hBo] at bo_ ⊢
 have BO:=hid bo_;clear bo_ hBo
 replace a4:=bH a4 a6
 have BEL:=a4
 clear a0 a3 a5
 have hmost:(min c d)=((mostN ⟨c,ws,ts⟩ ⟨d,ws2,ts2⟩:Nat):Int):=by unfold mostN;dsimp only;omega
 have hm16:mostN ⟨c,ws,ts⟩ ⟨d,ws2,ts2⟩≤16:=by unfold mostN;dsimp only;omega
 have HMOST:=hid hmost;clear hmost
 refine wpIn_loop (fun a' wr=>∃ (q:Nat) (Ds:List Nat) (v8 u20 u21 u22 u23 u24 u25 u26:Value),(v8=.int .i64 q∧q≤mostN ⟨c,ws,ts⟩ ⟨d,ws2,ts2⟩∧longN ⟨c,ws,ts⟩ ⟨d,ws2,ts2⟩ q=M∧Below w.heap.size w wr∧Blk wr Bo 76 #[.int .i64 c,.slice A n k,.slice B m j,.int .i64 d,.slice C n2 k2,.slice D m2 j2]∧MarksOK w.heap.size Ds wr)∧a'={ tmps:=#[.agg #[.int .i64 c,.slice A n k,.slice B m j],.agg #[.int .i64 d,.slice C n2 k2,.slice D m2 j2],.pointer (some ⟨w.heap.size,0,none⟩),.pointer (some ⟨w.heap.size+1,0,none⟩),.int .i64 0,.int .i64 0,.pointer (some ⟨Bo,0,none⟩),.int .i64 0,v8,.tuple #[.agg #[.int .i64 c,.slice A n k,.slice B m j,.int .i64 d,.slice C n2 k2,.slice D m2 j2],.int .i64 0],.agg #[.int .i64 c,.slice A n k,.slice B m j],.agg #[.int .i64 d,.slice C n2 k2,.slice D m2 j2],.tuple #[.agg #[.int .i64 c,.slice A n k,.slice B m j,.int .i64 d,.slice C n2 k2,.slice D m2 j2],.int .i64 0],.agg #[.int .i64 c,.slice A n k,.slice B m j,.int .i64 d,.slice C n2 k2,.slice D m2 j2],.int .i64 0,.int .i64 0,.bool false,undef,.agg #[.int .i64 c,.slice A n k,.slice B m j,.int .i64 d,.slice C n2 k2,.slice D m2 j2],.int .i64 (min c d),u20,u21,u22,u23,u24,u25,u26,undef,undef],defers:=marks Ds }) (fun a' _=>(intOf (a'.tmps.getD 8 undef)).toNat) ?h0 ?hround
 case h0 =>
  exact ⟨mostN ⟨c,ws,ts⟩ ⟨d,ws2,ts2⟩,[],_,undef,undef,undef,undef,undef,undef,undef,⟨by rw [HMOST.out],Nat.le_refl _,HM.out,BEL.out,BO.out,MarksOK.nil _ _⟩,rfl⟩
 case hround =>
  clear BEL BO
  rintro _ wr ⟨q,Ds,v8,u20,u21,u22,u23,u24,u25,u26,⟨rfl,hqm,hln,hbel,hbo,hmk⟩,rfl⟩
  have zbo:=hbo.lt
  have BEL:=hid hbel;have BO:=hid hbo;have MK:=hid hmk;have HLN:=hid hln;clear hbel hbo hmk hln
  cases q with
  | zero =>
   obtain rfl:M=0:=HLN.out.symm
   gi_wp2
   dsimp only [Exit.noGoto]
   gi_wp2
   refine leaves_marks (by simp) Ds wr MK.out BEL.out.size fun W' hb2 hs2 hk2=>?_
   exact ⟨.tuple #[.int .i64 ((0:Nat):Int),.int .i64 0],by simp [results,Tryz.results15,go_sem],rfl,BEL.out.trans hb2⟩
  | succ q =>
   obtain ⟨e8,e9,f0,a9,b0,b3⟩:=at6 BO
   obtain ⟨s,hs⟩:∃ s:Int,s=((q+1:Nat):Int):=⟨_,rfl⟩
   rw [← hs]
   have hpos:0<s:=by omega
   have hwr:IntKind.i64.wrap (s-1)=s-1:=IntWalk.i64_in _ (by omega)
   have HS:=hid hs;clear hs
   have hc:=meeting_any c A B n k m j d C D n2 k2 m2 j2 s wr
   have HC:=hid hc;clear hc
   gi_wp2_with fail
   refine ⟨trivial,(callsIn_wide.2 HC.out).mono ?_⟩
   rintro e w8 ⟨g,rfl,⟨hbo,hbs⟩,hb⟩
   clear HC
   clear e8 e9 f0 a9 b0 b3
   have MK8:=hid (MK.out.keep hb);clear MK
   have b4:=hid hb
   clear hb
   gi_wp2
   replace BEL:=bH BEL b4
   replace BO:=kH BO b4
   have hbel8:=BEL.out;have hbo8:=BO.out
   have hz8:=hbs.lt;have hz7:=hbel8.size
   have hwf:Wf s:=wf_of ⟨by omega,by have:=HS.out;omega⟩
   refine rangeFunc_X (gf:=62) (lb:=#[.pointer (some ⟨g,0,none⟩),.pointer (some ⟨g+1,0,none⟩)]) rfl (enters_of Tryz.func62 (by kernel_rfl) rfl) (HMS.out g (g+1) s hwf w8 hbel8 hbo hbs) (Below.refl _ _)
    (fun h k=>h.trans k) (keepT_b hz7 (by omega) hz8) (fun _=>rfl)
    (fun pre W'=>pre=[]∧(Below w.heap.size w W'∧Blk W' Bo 76 #[.int .i64 c,.slice A n k,.slice B m j,.int .i64 d,.slice C n2 k2,.slice D m2 j2]∧MarksOK w.heap.size Ds W'))
    (fun cd pre W'=>(cd=.exit 0∧pre≠[])∧(Below w.heap.size w W'∧Blk W' Bo 76 #[.int .i64 c,.slice A n k,.slice B m j,.int .i64 d,.slice C n2 k2,.slice D m2 j2]∧MarksOK w.heap.size Ds W'))
    (OwnFrom.and (ownFrom_pure _ _) (OwnFrom.and (ownFrom_below (Nat.le_refl _) hz7) (OwnFrom.and rowsOwn (ownFrom_marks MK8.out.lt))))
    (fun cd=>OwnFrom.and (ownFrom_pure _ _) (OwnFrom.and (ownFrom_below (Nat.le_refl _) hz7) (OwnFrom.and rowsOwn (ownFrom_marks MK8.out.lt))))
    ⟨rfl,hbel8,hbo8,MK8.out⟩
    (fun x a' _=>a'={ tmps:=#[.agg #[.int .i64 c,.slice A n k,.slice B m j],.agg #[.int .i64 d,.slice C n2 k2,.slice D m2 j2],.pointer (some ⟨w.heap.size,0,none⟩),.pointer (some ⟨w.heap.size+1,0,none⟩),.int .i64 0,.int .i64 0,.pointer (some ⟨Bo,0,none⟩),.int .i64 0,.int .i64 s,.tuple #[.agg #[.int .i64 c,.slice A n k,.slice B m j,.int .i64 d,.slice C n2 k2,.slice D m2 j2],.int .i64 0],.agg #[.int .i64 c,.slice A n k,.slice B m j],.agg #[.int .i64 d,.slice C n2 k2,.slice D m2 j2],.tuple #[.agg #[.int .i64 c,.slice A n k,.slice B m j,.int .i64 d,.slice C n2 k2,.slice D m2 j2],.int .i64 0],.agg #[.int .i64 c,.slice A n k,.slice B m j,.int .i64 d,.slice C n2 k2,.slice D m2 j2],.int .i64 0,.int .i64 0,.bool false,undef,.agg #[.int .i64 c,.slice A n k,.slice B m j,.int .i64 d,.slice C n2 k2,.slice D m2 j2],.int .i64 (min c d),.int .i64 s,.bool true,u22,u23,.agg #[.int .i64 c,.slice A n k,.slice B m j,.int .i64 d,.slice C n2 k2,.slice D m2 j2],.int .i64 s,.func (.func 62) #[] #[.pointer (some ⟨g,0,none⟩),.pointer (some ⟨g+1,0,none⟩)],.agg #[.int .i64 x.1.af,.int .i64 x.1.at2,.int .i64 x.1.bf,.int .i64 x.1.bt],undef],defers:=[] }) (fun _ _ _ _ _ _ hs _ _=>hs) ?assign ?body ?done ?stop
   case assign =>
    rintro l pre x W' K hi hK
    dsimp only [encP]
    gi_wp2
    exact hK _ _ (KeepsIn.refl _ _ _) (KeepT.refl _ _ _ _) hi (by first|rfl | (simp;done)|kernel_rfl)
   case body =>
    rintro l pre x a' W' hl ⟨r,hr⟩ hG ⟨hp,hf⟩ rfl hlen
    gi_wp2
    exact ⟨KeepsIn.refl _ _ _,⟨rfl,by simp⟩,hf⟩
   case done =>
    rintro D' ys W' hD hS ⟨rfl,hf1,hf2,hf3⟩ hK
    have HF:=hid (And.intro hf1 (And.intro hf2 hf3));clear hf1 hf2 hf3
    gi_wp2
    refine ⟨⟨q,D'::Ds,_,_,_,_,_,_,_,_,⟨by rw [HS.out];congr 1;omega,by omega,?_,HF.out.1,HF.out.2.1,HF.out.2.2.cons (by omega) (fun x hx=>Nat.lt_of_lt_of_le (MK8.out.lt x hx) hD) hK⟩,rfl⟩,?_⟩
    · rw [← HLN.out];show _=longN _ _ (q+1);unfold longN;rw [if_pos (by rw [← HS.out,← hS];rfl)];cases q<;>rfl
    · simp [intOf];have:=HS.out;omega
   case stop =>
    rintro D' cd pre W' hD hpre ⟨⟨rfl,hne⟩,hf1,hf2,hf3⟩ hK
    have HF:=hid (And.intro hf1 (And.intro hf2 hf3));clear hf1 hf2 hf3
    have hM2:M=q+1:=by
     rw [← HLN.out];show longN _ _ (q+1)=_;unfold longN;rw [if_neg]
     intro he
     rw [← HS.out] at he
     rw [meetL_none he] at hpre
     have:=hpre.length_le
     rw [prs_length] at this
     cases pre with
     | nil=>exact hne rfl
     | cons z zs=>simp at this
    gi_wp2
    dsimp only [Exit.noGoto]
    gi_wp2
    refine leaves_marks (by simp) (D'::Ds) W' (HF.out.2.2.cons (by omega) (fun x hx=>Nat.lt_of_lt_of_le (MK8.out.lt x hx) hD) hK) HF.out.1.size fun W2 hb2 hs2 hk2=>?_
    exact ⟨.tuple #[.int .i64 s,.int .i64 0],by simp [results,Tryz.results15,go_sem],by rw [HS.out,hM2],HF.out.1.trans hb2⟩
set_option maxRecDepth 100000 in
theorem Longest_any (c:Int) (A B:Option Addr) (n k m j:Nat) (ws ts:List Bnd) (d:Int) (C D:Option Addr) (n2 k2 m2 j2:Nat) (ws2 ts2:List Bnd) (w:World) (h1:RdB w A n k ws) (h2:RdB w B m j ts) (hn:n≤maxLen) (hm:m≤maxLen) (h3:RdB w C n2 k2 ws2) (h4:RdB w D m2 j2 ts2) (hn2:n2≤maxLen) (hm2:m2≤maxLen) :
 Calls Tryz.prog 15 #[.agg #[.int .i64 c,.slice A n k,.slice B m j],.agg #[.int .i64 d,.slice C n2 k2,.slice D m2 j2]] w fun e w'=>e=.returned (.tuple #[.int .i64 (longV ⟨c,ws,ts⟩ ⟨d,ws2,ts2⟩).1,.int .i64 (longV ⟨c,ws,ts⟩ ⟨d,ws2,ts2⟩).2])∧Below w.heap.size w w':=by
 unfold longV
 by_cases hq:both ⟨c,ws,ts⟩ ⟨d,ws2,ts2⟩=0
 · rw [if_pos hq]
   exact callsIn_wide.1 (Longest_ok c A B n k m j ws ts d C D n2 k2 m2 j2 ws2 ts2 w h1 h2 hn hm h3 h4 hn2 hm2 hq _ rfl)
 · rw [if_neg hq]
   obtain ⟨q,hq2⟩:∃ q,both ⟨c,ws,ts⟩ ⟨d,ws2,ts2⟩=q:=⟨_,rfl⟩
   rw [hq2] at hq
   rw [hq2]
   have HON:=hid (fun W (hW:Below w.heap.size w W)=>outlinesOf_no c A B n k m j ws ts d C D n2 k2 m2 j2 ws2 ts2 W (h1.below hW) (h2.below hW) hn hm (h3.below hW) (h4.below hW) hn2 hm2 q hq2 hq)
   have hqe:(q != 0)=true:=by simpa using hq
   clear hq hq2 h1 h2 h3 h4 hn hm hn2 hm2
   dsimp only
   refine (callsIn_wide (n:=9)).1 ?_
   refine callsIn_of_wp_marks Tryz.func15 rfl trivial ?_ rfl
   simp only [Tryz.ntmps15,List.size_toArray,List.length_cons,List.length_nil,Nat.reduceAdd,Nat.reduceSub,Array.replicate_succ,Array.replicate_zero,List.push_toArray,List.append_toArray,List.nil_append,List.cons_append]
   gi_wp2
   refine scope_wide ?_
   obtain ⟨a0,a1,a2⟩:=ent2 w #[.int .i64 c,.slice A n k,.slice B m j] 35 #[.int .i64 d,.slice C n2 k2,.slice D m2 j2] 35
   obtain ⟨b2,b3,b4⟩:=at3 a0
   obtain ⟨b5,b6,b7⟩:=at3 a1
   have hc:=HON.out _ (a2.out)
   have HC:=hid hc;clear hc
   gi_wp2_with fail
   refine ⟨trivial,(callsIn_wide.2 HC.out).mono ?_⟩
   rintro e a5 ⟨rfl,hb⟩
   clear HC
   clear b2 b3 b4 b5 b6 b7
   have a3:=hid hb
   clear hb
   replace a0:=kH a0 a3
   obtain ⟨a6,a7,a8⟩:=at3 a0
   replace a1:=kH a1 a3
   obtain ⟨a9,b0,b1⟩:=at3 a1
   clear a6 a7 a8 a9 b0 b1
   obtain ⟨o_,ho_⟩:∃ o,o=((.cells #[.int .i64 0,.slice none 0 0,.slice none 0 0,.int .i64 0,.slice none 0 0,.slice none 0 0] 76):Obj):=⟨_,rfl⟩
   replace a2:=bA (bH a2 a3) o_
   replace a0:=kA a0 o_
   replace a1:=kA a1 o_
   subst ho_
   have a4:=hid (Blk.new a5 76 #[.int .i64 0,.slice none 0 0,.slice none 0 0,.int .i64 0,.slice none 0 0,.slice none 0 0])
   obtain ⟨b8,b9,c0⟩:=at3 a0
   obtain ⟨c1,c2,c3⟩:=at3 a1
   obtain ⟨c4,c5,c6,c7,c8,c9⟩:=at6 a4
   have HK:=hid (a2.out)
   gi_wp2
   dsimp only [Exit.noGoto]
   gi_wp2
   exact ⟨.tuple #[.int .i64 0,.int .i64 q],by simp [results,Tryz.results15,go_sem],rfl,HK.out⟩
end Go.Proofs.YtebkniakflhhkaaGreatDoor
