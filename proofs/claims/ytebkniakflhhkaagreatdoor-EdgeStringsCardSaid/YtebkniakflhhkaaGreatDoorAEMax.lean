import Derived.Test.YtebkniakflhhkaaGreatDoorAEGrown
import Derived.Test.YtebkniakflhhkaaGreatDoorAERange
import Derived.Test.YtebkniakflhhkaaGreatDoorAESort
import Derived.Test.YtebkniakflhhkaaGreatDoorAELongest
set_option maxHeartbeats 4000000
set_option linter.unusedSimpArgs false
set_option linter.unusedVariables false
namespace Go.Proofs.YtebkniakflhhkaaGreatDoor
open Go.Lib (hid)
open Go.RowKit Go.Shelf
attribute [local go_sem] Oper.semAt_some
theorem OwnP.made (w:World):OwnP (w.alloc (.map #[] 0)) w.heap.size []:=⟨0,_,World.ownsMap_made w Tryz.prog 25 (plainElem (H:=Unit) Tryz.prog 4),Nat.le_refl _,setP_nil,fun p h=>by cases h⟩
theorem meeting_new (c:Int) (A B:Option Addr) (n k m j:Nat) (d:Int) (C D:Option Addr) (n2 k2 m2 j2:Nat) (s:Int) (w:World) :
 Calls Tryz.prog 37 #[.agg #[.int .i64 c,.slice A n k,.slice B m j,.int .i64 d,.slice C n2 k2,.slice D m2 j2],.int .i64 s] w fun e w'=>∃ g,e=.returned (.func (.func 62) #[] #[.pointer (some ⟨g,0,none⟩),.pointer (some ⟨g+1,0,none⟩)]) ∧
  (w.heap.size≤g∧Blk w' g 76 #[.int .i64 c,.slice A n k,.slice B m j,.int .i64 d,.slice C n2 k2,.slice D m2 j2]∧Blk w' (g+1) 3 #[.int .i64 s])∧Below w.heap.size w w':=by
 refine (callsIn_wide.1 (meeting_in 9 c A B n k m j d C D n2 k2 m2 j2 s w)).mono ?_
 rintro e w' ⟨rfl,rfl⟩
 refine ⟨w.heap.size,rfl,⟨Nat.le_refl _,(Blk.new w _ _).alloc _,?_⟩,((Below.refl _ w).alloc (Nat.le_refl _) _).alloc (by simp) _⟩
 have h:=Blk.new (w.alloc (.cells #[.int .i64 c,.slice A n k,.slice B m j,.int .i64 d,.slice C n2 k2,.slice D m2 j2] 76)) 3 #[.int .i64 s]
 rwa [World.size_alloc] at h
theorem allL_length {a b:Otl} (hq:both a b=0):∀ q,(allL a b q).length≤q * 1000
 | 0=>by simp [allL]
 | q+1=>by
  rw [allL_succ,List.length_append]
  have h1:=allL_length hq q
  have h2:(meetL a b ((q:Int)+1)).length≤1000:=Nat.le_trans (List.length_filter_le _ _) (pairsL_length hq _)
  omega
theorem wfP_of {a b:Otl} (x:Yp a b) (ha:a.c≤16) (hb:b.c≤16):WfP x.1:=by
 obtain ⟨_,_,sa,sb,_⟩:=chkP_ok x.2
 exact ⟨wf_of ⟨by omega,by omega⟩,wf_of ⟨by omega,by omega⟩,wf_of ⟨by omega,by omega⟩,wf_of ⟨by omega,by omega⟩⟩
def calmQ (Q:Exit→Act→World→Prop):Exit→Act→World→Prop
 | .panic _,_,_=>False
 | e,a,w=>Q e a w
theorem wp_calm {P:Program} {c:Code} {Q:Exit→Act→World→Prop} {a:Act} {w:World} (h:c.wp P (calmQ Q) a w):c.wp P Q a w :=
 wp_mono h (fun e a w h=>by cases e<;>first|exact h|exact h.elim)
theorem grown_top (S:List Prg) (x:Prg):decide (grownV S x=x)=topB S x:=by
 unfold grownV topB
 by_cases h1:befP x∈S
 · rw [if_pos h1,decide_eq_false (p:=befP x ∉ S) (by simpa using h1),Bool.false_and]
   exact decide_eq_false (fun e=>by have:=congrArg Prg.af e;simp only [befP] at this;omega)
 · rw [if_neg h1,decide_eq_true (p:=befP x ∉ S) h1,Bool.true_and]
   by_cases h2:behP x∈S
   · rw [if_pos h2,decide_eq_false (p:=behP x ∉ S) (by simpa using h2)]
     exact decide_eq_false (fun e=>by have:=congrArg Prg.at2 e;simp only [behP] at this;omega)
   · rw [if_neg h2,decide_eq_true (p:=behP x ∉ S) h2]
     exact decide_eq_true rfl
theorem ownFrom_ownP {β:Type} {C b:Nat} (f:β→List Prg) (hb:b<C):OwnFrom C (fun (s:β) W=>OwnP W b (f s)):=fun s X Y row hs hg hr =>
 hs.keep_ (hg.block b hs.lt (fun e=>by have:=(hr b e.symm).1;omega))
theorem rdB_same {w w':World} {g n c:Nat} {l:List Bnd} (h:RdB w (some ⟨g,0,none⟩) n c l) (hs:w'.heap.size=w.heap.size) (hg:w'.heap[g]?=w.heap[g]?):RdB w' (some ⟨g,0,none⟩) n c l :=
 ⟨h.len,h.cap,h.nil,by
  rcases h.cells with h|⟨b,o,e,hlt,hc⟩
  · exact .inl h
  · obtain ⟨rfl,rfl⟩:b=g∧o=0:=by simp at e;exact ⟨e.1.symm,e.2.symm⟩
    exact .inr ⟨b,0,rfl,by omega,fun j u hu=>(World.cell?_of_block (w:=w) (a:=⟨b,_,none⟩) hg).trans (hc j u hu)⟩⟩
set_option maxRecDepth 100000 in
theorem Maximal_ok (c:Int) (A B:Option Addr) (n k m j:Nat) (ws ts:List Bnd) (d:Int) (C D:Option Addr) (n2 k2 m2 j2:Nat) (ws2 ts2:List Bnd) (w:World) (h1:RdB w A n k ws) (h2:RdB w B m j ts) (hn:n≤maxLen) (hm:m≤maxLen) (h3:RdB w C n2 k2 ws2) (h4:RdB w D m2 j2 ts2) (hn2:n2≤maxLen) (hm2:m2≤maxLen) (hq:both ⟨c,ws,ts⟩ ⟨d,ws2,ts2⟩=0) (S:List Prg) (hS:allL ⟨c,ws,ts⟩ ⟨d,ws2,ts2⟩ (mostN ⟨c,ws,ts⟩ ⟨d,ws2,ts2⟩)=S) :
 CallsIn Fence.wide 9 Tryz.prog 14 #[.agg #[.int .i64 c,.slice A n k,.slice B m j],.agg #[.int .i64 d,.slice C n2 k2,.slice D m2 j2]] w fun e w'=>∃ (L:List (Yp ⟨c,ws,ts⟩ ⟨d,ws2,ts2⟩)) (A9:Option Addr) (n9 c9:Nat),e=.returned (.tuple #[.slice A9 n9 c9,.int .i64 0]) ∧
  (∃ came:List Prg,came.Nodup∧(∀ p,p∈came ↔ p∈S)∧prs L=came.filter (topB S)) ∧
  RdB w' A9 n9 c9 ((prs (sortY L)).map pB)∧n9≤maxLen∧Below w.heap.size w w':=by
 have HQ:=hid hq;have HSS:=hid hS;clear hS
 obtain ⟨hoa,hob,-,-⟩:=both_ok hq
 obtain ⟨a1,a2,-,-⟩:=chkO_ok hoa
 obtain ⟨b1,b2,-,-⟩:=chkO_ok hob
 dsimp only at a1 a2 b1 b2
 clear hoa hob hq
 have HOY:=hid (fun W (hW:Below w.heap.size w W)=>outlinesOf_yes c A B n k m j ws ts d C D n2 k2 m2 j2 ws2 ts2 W (h1.below hW) (h2.below hW) hn hm (h3.below hW) (h4.below hW) hn2 hm2 HQ.out)
 have HMS:=hid (fun Bo Bs s hs W (hW:Below w.heap.size w W) ho hsb=>meeting_stops Bo Bs c A B n k m j ws ts d C D n2 k2 m2 j2 ws2 ts2 s hs w h1 h2 hn hm h3 h4 hn2 hm2 HQ.out W hW ho hsb)
 clear h1 h2 h3 h4 hn hm hn2 hm2
 refine callsIn_of_wp_marks Tryz.func14 rfl trivial ?_ rfl
 simp only [Tryz.ntmps14,List.size_toArray,List.length_cons,List.length_nil,Nat.reduceAdd,Nat.reduceSub,Array.replicate_succ,Array.replicate_zero,List.push_toArray,List.append_toArray,List.nil_append,List.cons_append]
 obtain ⟨b3,b4,a7⟩:=ent2 w #[.int .i64 c,.slice A n k,.slice B m j] 35 #[.int .i64 d,.slice C n2 k2,.slice D m2 j2] 35
 obtain ⟨c3,c4,c5⟩:=at3 b3
 obtain ⟨c6,g8,g9⟩:=at3 b4
 have hmk:∀ w,(Instr.makeMap 88 none).run Tryz.prog w=.ok (.map (some w.heap.size)) (w.alloc (.map #[] 0)):=fun _=>rfl
 have hc:=HOY.out _ (a7.out)
 have HC:=hid hc;clear hc
 gi_wp2_with fail
 refine ⟨trivial,(callsIn_wide.2 HC.out).mono ?_⟩
 rintro e a9 ⟨rfl,hb⟩
 clear HC
 clear c3 c4 c5 c6 g8 g9
 have b9:=hid hb
 clear hb
 replace a7:=bH a7 b9
 have hszx:=a7.out.size
 obtain ⟨o_,ho_⟩:∃ o,o=((.cells #[.int .i64 c,.slice A n k,.slice B m j,.int .i64 d,.slice C n2 k2,.slice D m2 j2] 76):Obj):=⟨_,rfl⟩
 replace a7:=bA a7 o_
 replace b3:=kA (kH b3 b9) o_
 replace b4:=kA (kH b4 b9) o_
 subst ho_
 have b0:=hid (Blk.new a9 76 #[.int .i64 c,.slice A n k,.slice B m j,.int .i64 d,.slice C n2 k2,.slice D m2 j2])
 obtain ⟨o_,ho_⟩:∃ o,o=((.map #[] 0):Obj):=⟨_,rfl⟩
 replace a7:=bA a7 o_
 replace b3:=kA b3 o_
 replace b4:=kA b4 o_
 replace b0:=kA b0 o_
 subst ho_
 have om_:=OwnP.made (a9.alloc (.cells #[.int .i64 c,.slice A n k,.slice B m j,.int .i64 d,.slice C n2 k2,.slice D m2 j2] 76))
 simp only [World.size_alloc] at om_
 have b6:=hid (om_)
 clear om_
 obtain ⟨o_,ho_⟩:∃ o,o=((.cells #[.map (some (a9.heap.size+1))] 88):Obj):=⟨_,rfl⟩
 replace a7:=bA a7 o_
 replace b3:=kA b3 o_
 replace b4:=kA b4 o_
 replace b0:=kA b0 o_
 replace b6:=hid (OwnP.alloc (b6.out) (o_))
 subst ho_
 have bm_:=Blk.new ((a9.alloc (.cells #[.int .i64 c,.slice A n k,.slice B m j,.int .i64 d,.slice C n2 k2,.slice D m2 j2] 76)).alloc (.map #[] 0)) 88 #[.map (some (a9.heap.size+1))]
 simp only [World.size_alloc] at bm_
 have b7:=hid (bm_)
 clear bm_
 obtain ⟨d6,d7,d8⟩:=at3 b3
 obtain ⟨d9,e0,e1⟩:=at3 b4
 obtain ⟨e4,e5,e6,e7,e8,e9⟩:=at6 b0
 have f0:=at1 b7
 have hc:=most_any c A B n k m j d C D n2 k2 m2 j2 ((((a9.alloc (.cells #[.int .i64 c,.slice A n k,.slice B m j,.int .i64 d,.slice C n2 k2,.slice D m2 j2] 76)).alloc (.map #[] 0)).alloc (.cells #[.map (some (a9.heap.size+1))] 88)))
 have HC:=hid hc;clear hc
 gi_wp2_with fail
 refine ⟨trivial,(callsIn_wide.2 HC.out).mono ?_⟩
 rintro e j0 ⟨rfl,hb⟩
 clear HC
 clear d6 d7 d8 d9 e0 e1 e4 e5 e6 e7 e8 e9 f0
 have b8:=hid hb
 clear hb
 replace b3:=kH b3 b8
 obtain ⟨f1,f2,f3⟩:=at3 b3
 replace b4:=kH b4 b8
 obtain ⟨f4,f5,f6⟩:=at3 b4
 replace b0:=kH b0 b8
 obtain ⟨f7,f8,f9,g0,g5,g6⟩:=at6 b0
 replace b7:=kH b7 b8
 have g7:=at1 b7
 gi_wp2
 clear f1 f2 f3 f4 f5 f6 f7 f8 f9 g0 g5 g6 g7
 replace a7:=bH a7 b8
 replace b6:=hid (OwnP.keep (b6.out) b8.out)
 have bel_:=a7.out;have bo_:=b0.out;have bm_:=b7.out;have om_:=b6.out
 have hb0:a9.heap.size<a9.heap.size+1:=Nat.lt_succ_self _
 have hb1:a9.heap.size+1<a9.heap.size+1+1:=Nat.lt_succ_self _
 have hlx:w.heap.size≤a9.heap.size+1:=by have:=hszx;omega
 obtain ⟨Bm,hBm⟩:∃ x,x=a9.heap.size+1+1:=⟨_,rfl⟩
 rw [← hBm] at bm_ hb1 ⊢
 obtain ⟨b,hb⟩:∃ x,x=a9.heap.size+1:=⟨_,rfl⟩
 rw [← hb] at bm_ om_ hb1 hlx hb0 ⊢
 obtain ⟨Bo,hBo⟩:∃ x,x=a9.heap.size:=⟨_,rfl⟩
 rw [← hBo] at bo_ hb0 ⊢
 have BO:=hid bo_;have BEL:=hid bel_;have BM:=hid bm_;have OM:=hid om_;clear bo_ bel_ bm_ om_ hBo hb hBm hszx
 clear a7 b3 b4 b0 b6 b7
 have HMOST:=hid (show (min c d)=((mostN ⟨c,ws,ts⟩ ⟨d,ws2,ts2⟩:Nat):Int) by unfold mostN;dsimp only;omega)
 have hm16:mostN ⟨c,ws,ts⟩ ⟨d,ws2,ts2⟩≤16:=by unfold mostN;dsimp only;omega
 refine wpIn_loop (fun a' wr=>∃ (q:Nat) (Ds:List Nat) (v25 u9 u26 u27 u28 u29 u30 u31 u35:Value),(v25=.int .i64 q∧q≤mostN ⟨c,ws,ts⟩ ⟨d,ws2,ts2⟩∧Below w.heap.size w wr∧Blk wr Bo 76 #[.int .i64 c,.slice A n k,.slice B m j,.int .i64 d,.slice C n2 k2,.slice D m2 j2]∧Blk wr Bm 88 #[.map (some b)]∧MarksOK w.heap.size Ds wr∧OwnP wr b (allL ⟨c,ws,ts⟩ ⟨d,ws2,ts2⟩ q))∧a'={ tmps:=#[.agg #[.int .i64 c,.slice A n k,.slice B m j],.agg #[.int .i64 d,.slice C n2 k2,.slice D m2 j2],.pointer (some ⟨w.heap.size,0,none⟩),.pointer (some ⟨w.heap.size+1,0,none⟩),.slice none 0 0,.int .i64 0,.pointer (some ⟨Bo,0,none⟩),.int .i64 0,.pointer (some ⟨Bm,0,none⟩),u9,undef,undef,undef,.tuple #[.agg #[.int .i64 c,.slice A n k,.slice B m j,.int .i64 d,.slice C n2 k2,.slice D m2 j2],.int .i64 0],.agg #[.int .i64 c,.slice A n k,.slice B m j],.agg #[.int .i64 d,.slice C n2 k2,.slice D m2 j2],.tuple #[.agg #[.int .i64 c,.slice A n k,.slice B m j,.int .i64 d,.slice C n2 k2,.slice D m2 j2],.int .i64 0],.agg #[.int .i64 c,.slice A n k,.slice B m j,.int .i64 d,.slice C n2 k2,.slice D m2 j2],.int .i64 0,.int .i64 0,.bool false,undef,.map (some b),.agg #[.int .i64 c,.slice A n k,.slice B m j,.int .i64 d,.slice C n2 k2,.slice D m2 j2],.int .i64 (min c d),v25,u26,u27,u28,u29,u30,u31,undef,undef,undef,u35,undef,undef,undef,undef,undef,undef,undef,undef,undef,undef,undef,undef,undef,undef,undef,undef,undef,undef],defers:=marks Ds }) (fun a' _=>mostN ⟨c,ws,ts⟩ ⟨d,ws2,ts2⟩ - (intOf (a'.tmps.getD 25 undef)).toNat) ?h0 ?hround
 case h0 =>
  exact ⟨0,[],_,undef,undef,undef,undef,undef,undef,undef,undef,⟨rfl,Nat.zero_le _,BEL.out,BO.out,BM.out,MarksOK.nil _ _,OM.out⟩,rfl⟩
 case hround =>
  clear BEL BO BM OM
  rintro _ wr ⟨q,Ds,v25,u9,u26,u27,u28,u29,u30,u31,u35,⟨rfl,hqm,hbel,hbo,hbm,hmk,hom⟩,rfl⟩
  have zbo:=hbo.lt;have zbm:=hbm.lt;have zb:=hom.lt
  have BEL:=hid hbel;have BO:=hid hbo;have BM:=hid hbm;have MK:=hid hmk;have OM:=hid hom;clear hbel hbo hbm hmk hom
  by_cases hlt:q<mostN ⟨c,ws,ts⟩ ⟨d,ws2,ts2⟩
  · have hltZ:(q:Int)<min c d:=by rw [HMOST.out];omega
    obtain ⟨h5,h6,h7,c3,c4,c5⟩:=at6 BO
    have c6:=at1 BM
    have hwr:IntKind.i64.wrap ((q:Int)+1)=(q:Int)+1:=IntWalk.i64_in _ (by omega)
    have hc:=meeting_new c A B n k m j d C D n2 k2 m2 j2 ((q:Int)+1) wr
    have HC:=hid hc;clear hc
    gi_wp2_with fail
    refine ⟨trivial,(callsIn_wide.2 HC.out).mono ?_⟩
    rintro e w8 ⟨g,rfl,⟨hgg,hbo,hbs⟩,hb⟩
    clear HC
    clear h5 h6 h7 c3 c4 c5 c6
    have MK8:=hid (MK.out.keep hb);clear MK
    have c0:=hid hb
    clear hb
    gi_wp2
    replace BEL:=bH BEL c0
    replace BO:=kH BO c0
    replace BM:=kH BM c0
    replace OM:=hid (OwnP.keep (OM.out) c0.out)
    have hbel8:=BEL.out;have hbo8:=BO.out;have hbm8:=BM.out;have hom8:=OM.out
    have hz8:=hbs.lt;have hz7:=hbel8.size
    have hwf:Wf ((q:Int)+1):=wf_of ⟨by omega,by omega⟩
    refine rangeFunc_X (gf:=62) (lb:=#[.pointer (some ⟨g,0,none⟩),.pointer (some ⟨g+1,0,none⟩)]) rfl (enters_of Tryz.func62 (by kernel_rfl) rfl) (HMS.out g (g+1) _ hwf w8 hbel8 hbo hbs) (Below.refl _ _)
     (fun h k=>h.trans k) (keepT_b hz7 (by omega) hz8) (fun _=>rfl)
     (fun pre W'=>Below w.heap.size w W'∧(Blk W' Bo 76 #[.int .i64 c,.slice A n k,.slice B m j,.int .i64 d,.slice C n2 k2,.slice D m2 j2]∧(Blk W' Bm 88 #[.map (some b)]∧(MarksOK w.heap.size Ds W'∧(OwnP W' b (allL ⟨c,ws,ts⟩ ⟨d,ws2,ts2⟩ q++prs pre)∧w8.heap.size≤W'.heap.size)))))
     (fun _ _ _=>False)
     (OwnFrom.and (ownFrom_below (Nat.le_refl _) hz7) (OwnFrom.and rowsOwn (OwnFrom.and rowsOwn (OwnFrom.and (ownFrom_marks MK8.out.lt) (OwnFrom.and (ownFrom_ownP (fun pre=>allL ⟨c,ws,ts⟩ ⟨d,ws2,ts2⟩ q++prs pre) (by omega)) (fun s X Y row hs hg hr=>Nat.le_trans hs hg.size))))))
     (fun _ _ _ _ _ hs _ _=>hs)
     ⟨hbel8,hbo8,hbm8,MK8.out,by rw [prs_nil,List.append_nil];exact hom8,Nat.le_refl _⟩
     (fun x a' W'=>∃ Bx,Blk W' Bx 25 #[.int .i64 x.1.af,.int .i64 x.1.at2,.int .i64 x.1.bf,.int .i64 x.1.bt]∧a'={ tmps:=#[.agg #[.int .i64 c,.slice A n k,.slice B m j],.agg #[.int .i64 d,.slice C n2 k2,.slice D m2 j2],.pointer (some ⟨w.heap.size,0,none⟩),.pointer (some ⟨w.heap.size+1,0,none⟩),.slice none 0 0,.int .i64 0,.pointer (some ⟨Bo,0,none⟩),.int .i64 0,.pointer (some ⟨Bm,0,none⟩),.int .i64 (q:Int),.pointer (some ⟨Bx,0,none⟩),undef,undef,.tuple #[.agg #[.int .i64 c,.slice A n k,.slice B m j,.int .i64 d,.slice C n2 k2,.slice D m2 j2],.int .i64 0],.agg #[.int .i64 c,.slice A n k,.slice B m j],.agg #[.int .i64 d,.slice C n2 k2,.slice D m2 j2],.tuple #[.agg #[.int .i64 c,.slice A n k,.slice B m j,.int .i64 d,.slice C n2 k2,.slice D m2 j2],.int .i64 0],.agg #[.int .i64 c,.slice A n k,.slice B m j,.int .i64 d,.slice C n2 k2,.slice D m2 j2],.int .i64 0,.int .i64 0,.bool false,undef,.map (some b),.agg #[.int .i64 c,.slice A n k,.slice B m j,.int .i64 d,.slice C n2 k2,.slice D m2 j2],.int .i64 (min c d),.int .i64 (q:Int),.bool true,.int .i64 (q:Int),.agg #[.int .i64 c,.slice A n k,.slice B m j,.int .i64 d,.slice C n2 k2,.slice D m2 j2],.int .i64 (q:Int),.int .i64 ((q:Int)+1),.func (.func 62) #[] #[.pointer (some ⟨g,0,none⟩),.pointer (some ⟨g+1,0,none⟩)],.agg #[.int .i64 x.1.af,.int .i64 x.1.at2,.int .i64 x.1.bf,.int .i64 x.1.bt],undef,undef,u35,undef,undef,undef,undef,undef,undef,undef,undef,undef,undef,undef,undef,undef,undef,undef,undef,undef,undef],defers:=[] }) (fun x a' s X Y row hs hg hr=>by obtain ⟨Bx,e2,e3⟩:=hs;exact ⟨Bx,blk_own e2 hg (fun r e=>(hr r e).2),e3⟩) ?assign ?body ?done ?stop
    case assign =>
     rintro l pre x W' K ⟨i1,i2,i3,i4,i5,i6⟩ hK
     have HK:=hid hK;clear hK
     have HI:=hid (And.intro i1 (And.intro i2 (And.intro i3 (And.intro i4 (And.intro i5 i6)))));clear i1 i2 i3 i4 i5 i6
     have zg:=HI.out.1.size
     dsimp only [encP]
     gi_wp2
     have hbA:Below W'.heap.size W' (W'.alloc (.cells #[.int .i64 x.1.af,.int .i64 x.1.at2,.int .i64 x.1.bf,.int .i64 x.1.bt] 25)):=(Below.refl _ W').alloc (Nat.le_refl _) _
     exact HK.out _ _ (KeepsIn.alloc _ _ _ _) (keepT_below hbA zg (by have:=HI.out.2.2.2.2.2;omega) (by have:=HI.out.2.2.2.2.2;omega)) ⟨HI.out.1.trans (hbA.mono zg),HI.out.2.1.alloc _,HI.out.2.2.1.alloc _,HI.out.2.2.2.1.keep hbA,HI.out.2.2.2.2.1.alloc _,Nat.le_trans HI.out.2.2.2.2.2 hbA.size⟩ ⟨W'.heap.size,Blk.new W' _ _,rfl⟩
    case body =>
     rintro l pre x a' W' hl ⟨r,hr⟩ hG ⟨i1,i2,i3,i4,i5,i6⟩ ⟨Bx,bX,rfl⟩ hlen
     have cm0:W'.cell? ⟨Bm,0,none⟩=some (.map (some b)):=i3.cell 0
     have cx0:W'.cell? ⟨Bx,0,none⟩=some (.int .i64 x.1.af):=bX.cell 0
     have cx1:W'.cell? ⟨Bx,1,none⟩=some (.int .i64 x.1.at2):=bX.cell 1
     have cx2:W'.cell? ⟨Bx,2,none⟩=some (.int .i64 x.1.bf):=bX.cell 2
     have cx3:W'.cell? ⟨Bx,3,none⟩=some (.int .i64 x.1.bt):=bX.cell 3
     have HI:=hid (And.intro i1 (And.intro i2 (And.intro i3 (And.intro i4 (And.intro i5 i6)))));clear i1 i2 i3 i4 i5 i6
     have hlS:(allL ⟨c,ws,ts⟩ ⟨d,ws2,ts2⟩ q++prs pre).length<100000:=by have h1:=allL_length HQ.out q;rw [List.length_append,prs_length];have h2:=pairsL_length HQ.out ((q:Int)+1);dsimp only at h2;omega
     gi_wp2_with (gi_at_mapUpdate;refine wpListIn_store_P _ rfl _ _ _ rfl b (allL ⟨c,ws,ts⟩ ⟨d,ws2,ts2⟩ q++prs pre) rfl HI.out.2.2.2.2.1 hlS x.1 rfl (wfP_of x a2 b2) rfl ?_;intro w1 hown1 hgrow1)
     obtain ⟨i1,i2,i3,i4,i5,i6⟩:=HI.out
     have hbW:Below w.heap.size W' w1:=(Below.refl _ W').grown hgrow1 i1.size (fun k e=>by cases e;exact hlx)
     have far:∀ k,k<W'.heap.size→k≠b→w1.heap[k]?=W'.heap[k]?:=fun k hk hne=>hgrow1.block k hk (fun e=>hne (by cases e;rfl))
     refine ⟨KeepsIn.grown hgrow1 (fun j e=>.inl (by cases e;omega)),⟨hbW,far g (by omega) (by omega),far (g+1) (by omega) (by omega)⟩,i1.trans hbW,blk_same i2 (far Bo i2.lt (by omega)),blk_same i3 (far Bm i3.lt (by omega)),i4.same (fun D hD=>hgrow1.block D (i4.lt D hD) (i5.ne_mark (i4.2 D hD).2)),?_,Nat.le_trans i6 hgrow1.size⟩
     rw [prs_snoc,← List.append_assoc];exact hown1
    case done =>
     rintro D' ys W' hD hS ⟨i1,i2,i3,i4,i5,i6⟩ hK
     have HI:=hid (And.intro i1 (And.intro i2 (And.intro i3 (And.intro i4 (And.intro i5 i6)))));clear i1 i2 i3 i4 i5 i6
     gi_wp2
     refine ⟨⟨q+1,D'::Ds,_,_,_,_,_,_,_,_,_,⟨by push_cast;rfl,by omega,HI.out.1,HI.out.2.1,HI.out.2.2.1,HI.out.2.2.2.1.cons (by omega) (fun x hx=>Nat.lt_of_lt_of_le (MK8.out.lt x hx) hD) hK,?_⟩,rfl⟩,?_⟩
     · rw [allL_succ,← hS];exact HI.out.2.2.2.2.1
     · simp [intOf];omega
    case stop =>
     rintro D' cd pre W' _ _ h _
     exact h.elim
  · obtain rfl:q=mostN ⟨c,ws,ts⟩ ⟨d,ws2,ts2⟩:=by omega
    have hltZ:¬ ((mostN ⟨c,ws,ts⟩ ⟨d,ws2,ts2⟩:Nat):Int)<min c d:=by rw [HMOST.out];omega
    have cm0:wr.cell? ⟨Bm,0,none⟩=some (.map (some b)):=BM.out.cell 0
    gi_wp2_with (gi_at_range;refine wpListIn_range_P _ rfl _ rfl b (allL ⟨c,ws,ts⟩ ⟨d,ws2,ts2⟩ (mostN ⟨c,ws,ts⟩ ⟨d,ws2,ts2⟩)) rfl OM.out ?_;intro w9 cnt9 hrg9 hcn9 hgr9 hsz9)
    rw [HSS.out] at hrg9
    obtain ⟨r,hr⟩:∃ r,r=wr.heap.size:=⟨_,rfl⟩
    have hrb:w.heap.size≤r:=by rw [hr];exact BEL.out.size
    have hbmr:Bm<r:=by rw [hr];exact zbm
    rw [← hr] at hrg9 ⊢
    clear hr
    have hbw:Below wr.heap.size wr w9:=(Below.refl _ wr).grown hgr9 (Nat.le_refl _) (fun k e=>by cases e)
    have R9:=hid hrg9;have BEL9:=hid (BEL.out.trans (hbw.mono BEL.out.size));have BM9:=hid (BM.out.keep hbw);have MK9:=hid (MK.out.keep hbw);clear hrg9 hgr9 hbw cm0 hsz9 BEL BO BM MK OM zbo zbm zb hltZ
    refine wpIn_wide.2 ?_
    refine wp_calm ?_
    go_loopw [11] (fun v wr2=>∃ (came:List Prg) (cnt:Nat) (L:List (Yp ⟨c,ws,ts⟩ ⟨d,ws2,ts2⟩)),RangeP wr2 b r S came cnt∧prs L=came.filter (topB S)∧wr2.ownsRow w.heap.size 25 4 v L.length (pcells L)∧(v=.slice none 0 0 ↔ L=[])∧Below w.heap.size w wr2∧Blk wr2 Bm 88 #[.map (some b)]∧MarksOK w.heap.size Ds wr2∧came.length+cnt≤S.length) (fun _ wr2=>wr2.rangeLeft b r)
    case atStart=>exact ⟨[],cnt9,[],R9.out,rfl,World.ownsRow_nil _ _ _ _,by simp,BEL9.out,BM9.out,MK9.out,by rw [← HSS.out];simpa using hcn9⟩
    case round =>
     obtain ⟨came,cnt,L,j1,j2,j3,j4,j5,j6,j7,j8⟩:=hrel
     have J1:=hid j1;have J2:=hid j2;have J3:=hid j3;have J4:=hid j4;have J5:=hid j5;have J6:=hid j6;have J7:=hid j7;clear j1 j2 j3 j4 j5 j6 j7 R9 BEL9 BM9 MK9
     go_wp2_with (at_next;refine wpList_next_P _ rfl _ rfl b r S came cnt rfl J1.out ?_ ?_;rotate_left;intro x cb w1 cnt1 hxS hxc hrg1 hclt hgr1 hsz1 hen;have HSZ1:=hid hsz1;clear hsz1;obtain ⟨x1,x2,x3,x4⟩:=x;unfold encV at hen ⊢;rotate_left;intro hall)
     · have HALL:=hid hall;clear hall
       dsimp only [calmQ]
       obtain ⟨hcn,hcs⟩:came.Nodup∧∀ p∈came,p∈S:=by obtain ⟨_,_,_,_,_,_,_,h1,h2,_⟩:=J1.out;exact ⟨h1,h2⟩
       have HCM:=hid (show ∃ came:List Prg,came.Nodup∧(∀ p,p∈came ↔ p∈S)∧prs L=came.filter (topB S) from ⟨came,hcn,fun p=>⟨hcs p,HALL.out p⟩,J2.out⟩);clear hcn hcs
       gi_wp2
       have ZBM:=J6.out.lt
       cases L with
       | nil =>
        obtain rfl:=J4.out.2 rfl
        gi_wp2_with fail
        refine ⟨trivial,?_⟩
        refine (callsIn_wide.2 (sortNone_any _)).mono ?_
        rintro _ w7 ⟨rfl,hw7⟩;subst w7
        gi_wp2
        refine leaves_marks (u:=.returning) (by simp) Ds wr J7.out J5.out.size fun W2 hb2 hs2 hk2=>?_
        exact ⟨.tuple #[.slice none 0 0,.int .i64 0],by simp [results,Tryz.results14,go_sem],[],none,0,0,rfl,HCM.out,by rw [show sortY ([]:List (Yp ⟨c,ws,ts⟩ ⟨d,ws2,ts2⟩))=[] from List.eq_nil_of_length_eq_zero (by rw [sortY_length];rfl)];exact RdB.nil_ _,by unfold maxLen;omega,J5.out.trans hb2⟩
       | cons y L =>
        haveI:Inhabited (Yp ⟨c,ws,ts⟩ ⟨d,ws2,ts2⟩):=⟨y⟩
        obtain ⟨L',hL'⟩:∃ x,x=y::L:=⟨_,rfl⟩
        have hne:L'≠[]:=by rw [hL'];exact List.cons_ne_nil _ _
        rw [← hL'] at J2 J3 J4 HCM
        clear hL'
        obtain ⟨g,cap,rfl,hcap⟩:∃ g cap,u11=.slice (some ⟨g,0,none⟩) L'.length cap∧cap≤maxLen:=by
         rcases J3.out.2 with ⟨rfl,h0⟩|⟨g,cap,cur,rfl,-,-,-,hm,-⟩
         · exact absurd (J4.out.1 rfl) hne
         · exact ⟨g,cap,rfl,hm⟩
        have hll:L'.length≤100000:=by have h1:=congrArg List.length J2.out;rw [prs_length] at h1;have h2:=List.length_filter_le (topB S) came;have h3:=allL_length HQ.out (mostN ⟨c,ws,ts⟩ ⟨d,ws2,ts2⟩);rw [HSS.out] at h3;omega
        have hs:=sortP_any wr w.heap.size g cap L' hll J3.out hcap
        have HS:=hid hs;clear hs
        gi_wp2_with fail
        refine ⟨trivial,?_⟩
        refine (callsIn_wide.2 HS.out).mono ?_
        rintro _ w7 ⟨rfl,hrd7,hg7⟩
        have hb7:=J5.out.grown hg7 J5.out.size (fun k e=>ownsRow_block J3.out k e)
        have hm7:=J7.out.same (fun D hD=>hg7.block D (J7.out.lt D hD) (mark_ne_row (J7.out.2 D hD).2 J3.out))
        have hgD:∀ D∈Ds,g≠D:=fun D hD e=>mark_ne_row (J7.out.2 D hD).2 J3.out (congrArg some e.symm)
        have H7:=hid (And.intro hrd7 (And.intro hb7 hm7));clear hrd7 hb7 hm7 hg7 HS J1 J3 J5 J6 J7
        gi_wp2
        refine leaves_marks (u:=.returning) (by simp) Ds w7 H7.out.2.2 H7.out.2.1.size fun W2 hb2 hs2 hk2=>?_
        exact ⟨.tuple #[.slice (some ⟨g,0,none⟩) L'.length cap,.int .i64 0],by simp [results,Tryz.results14,go_sem],L',_,_,_,rfl,HCM.out,rdB_same H7.out.1 hs2 (hk2 g hgD),by unfold maxLen;omega,H7.out.2.1.trans hb2⟩
     · have bel1:=J5.out.trans ((Below.refl _ wr).grown hgr1 J5.out.size (fun k e=>by cases e;exact hrb))
       have bm1:=blk_same J6.out (hgr1.block Bm J6.out.lt (fun e=>by cases e;omega))
       have own1:=J3.out.kept hgr1 (.inr (J1.out.ne_row J3.out))
       have mk1:=J7.out.same (fun D hD=>hgr1.block D (J7.out.lt D hD) (J1.out.ne_mark (J7.out.2 D hD).2))
       have HLE:=hid J1.out.left_eq
       clear J1 J3 J5 J6 J7 hgr1
       have a4:=hid (bel1)
       have a0:=hid (bm1)
       have a5:=hid (own1)
       have a8:=hid (mk1)
       have a6:=hid (hrg1)
       clear bel1 bm1 own1 mk1 hrg1
       obtain ⟨o_,ho_⟩:∃ o,o=((.cells #[.int .i64 x1,.int .i64 x2,.int .i64 x3,.int .i64 x4] 25):Obj):=⟨_,rfl⟩
       replace a4:=bA a4 o_
       replace a0:=kA a0 o_
       replace a5:=hid (World.ownsRow.alloc (a5.out) (o_))
       replace a8:=hid (MarksOK.alloc (a8.out) (o_))
       replace a6:=hid (RangeP.alloc (a6.out) (o_))
       subst ho_
       have a3:=hid (Blk.new w1 25 #[.int .i64 x1,.int .i64 x2,.int .i64 x3,.int .i64 x4])
       have hxm:(⟨x1,x2,x3,x4⟩:Prg)∈allL ⟨c,ws,ts⟩ ⟨d,ws2,ts2⟩ (mostN ⟨c,ws,ts⟩ ⟨d,ws2,ts2⟩):=by rw [HSS.out];exact hxS
       obtain ⟨hoa,hob,-,-⟩:=both_ok HQ.out
       have hxk:=((mem_allL hoa hob).1 hxm).1
       obtain ⟨_,_,⟨sa1,sa2,sa3⟩,⟨sb1,sb2,sb3⟩,sk⟩:=chkP_ok hxk
       dsimp only at sa1 sa2 sa3 sb1 sb2 sb3 sk
       have HXK:=hid hxk;clear hxk hxm hoa hob
       obtain ⟨⟨g1,g2,g3,g4⟩,hG⟩:∃ G,grownV S ⟨x1,x2,x3,x4⟩=G:=⟨_,rfl⟩
       obtain ⟨qb,hqb⟩:∃ q,decide ((⟨g1,g2,g3,g4⟩:Prg)=⟨x1,x2,x3,x4⟩)=q:=⟨_,rfl⟩
       have htop:topB S ⟨x1,x2,x3,x4⟩=qb:=by rw [← grown_top,hG,hqb]
       have heq:∀ w,(Op.equalIn 10000 25 (.agg #[.int .i64 g1,.int .i64 g2,.int .i64 g3,.int .i64 g4]) (.agg #[.int .i64 x1,.int .i64 x2,.int .i64 x3,.int .i64 x4])).run Tryz.prog w=.ok qb w:=fun w=>by rw [← hqb];exact eql_pr ⟨g1,g2,g3,g4⟩ ⟨x1,x2,x3,x4⟩ w
       have heg:Tryz.prog.eqGuardType Tryz.prog.depth 25=false:=by kernel_rfl
       have HTOP:=hid htop;have HG:=hid hG;clear htop hG hqb
       have c7:=at1 a0
       obtain ⟨c8,d0,d1,d2⟩:=at4 a3
       clear c7 c8 d0 d1 d2
       replace a4:=bD a4
       replace a0:=kD a0
       replace a5:=hid (World.ownsRow.drew (a5.out))
       replace a8:=hid (MarksOK.drew (a8.out))
       replace a6:=hid (RangeP.drew (a6.out))
       replace a3:=kD a3
       refine wp_region_held_drew (S:=(fun W'=>Blk W' (w1.heap.size) 25 #[.int .i64 x1,.int .i64 x2,.int .i64 x3,.int .i64 x4]∧Blk W' (Bm) 88 #[.map (some b)])) (by kernel_rfl) ⟨a3.out,a0.out⟩ (fun _=>?_)
       obtain ⟨j9,c1⟩:∃ w',w'=((w1.alloc (.cells #[.int .i64 x1,.int .i64 x2,.int .i64 x3,.int .i64 x4] 25)).drew):=⟨_,rfl⟩
       rw [← c1] at a4 a0 a5 a8 a6 a3
       rw [← c1]
       clear c1
       refine' tkH 0 ⟨a3.out,a0.out⟩ ?d3 ?_
       case d3=>(rintro W' ⟨hS0,hS1⟩;have hc0:=Blk.nth hS0 0;have hc1:=Blk.nth hS0 1;have hc2:=Blk.nth hS0 2;have hc3:=Blk.nth hS0 3;clear hS0 hS1;go_simp;try with_reducible rfl)
       refine' tkH 1 ⟨a3.out,a0.out⟩ ?d4 ?_
       case d4=>(rintro W' ⟨hS0,hS1⟩;have hc0:=Blk.nth hS1 0;clear hS0 hS1;go_simp;try with_reducible rfl)
       refine' tkH 3 ⟨a3.out,a0.out⟩ ?d5 ?_
       case d5=>(rintro W' ⟨hS0,hS1⟩;have hc0:=Blk.nth hS0 0;have hc1:=Blk.nth hS0 1;have hc2:=Blk.nth hS0 2;have hc3:=Blk.nth hS0 3;clear hS0 hS1;go_simp;try with_reducible rfl)
       try simp only [pq]
       refine oneH 2 rfl fun K hK=>?_
       go_simp
       go_at_call 38
       refine (Calls.mono (grown_any x1 x2 x3 x4 ⟨⟨by omega,by omega⟩,⟨by omega,by omega⟩,⟨by omega,by omega⟩,⟨by omega,by omega⟩⟩ b S _ (RangeP.own a6.out)) (fun e w' h=>(show e=.returned (.agg #[.int .i64 g1,.int .i64 g2,.int .i64 g3,.int .i64 g4])∧Below _ _ w' from ⟨by rw [h.1,HG.out];rfl,h.2⟩))).mono ?_
       rintro e c2 ⟨rfl,b5⟩
       dsimp only
       replace b5:=hid b5
       replace a3:=kH a3 b5
       replace a0:=kH a0 b5
       refine hK.out _ _ ⟨a3.out,a0.out⟩ (fun _=>?_);clear hK K
       try simp only [pq]
       refine' twH 4 ⟨a3.out,a0.out⟩ ?_
       try simp only [pq]
       refine wpAnyH_done (by kernel_rfl) ?_ _
       replace a4:=bH a4 b5
       replace a5:=hid (owns_below (a5.out) b5.out)
       replace a8:=hid (MarksOK.keep (a8.out) b5.out)
       replace a6:=hid (RangeP.keep (a6.out) b5.out)
       cases qb
       · go_wp2
         go_roundw
         case rel=>exact ⟨came++[⟨x1,x2,x3,x4⟩],cnt1,L,a6.out,by rw [List.filter_append,J2.out];simp [HTOP.out],a5.out,J4.out,a4.out,a0.out,a8.out,by rw [List.length_append];simp;omega⟩
         case measure=>rw [RangeP.left_eq (a6.out),HLE.out];exact hclt
       · have h8:=at1 a0
         obtain ⟨h9,i7,i8,i9⟩:=at4 a3
         have hll:L.length≤100000:=by have h1:=congrArg List.length J2.out;rw [prs_length] at h1;have h2:=List.length_filter_le (topB S) came;have h3:=allL_length HQ.out (mostN ⟨c,ws,ts⟩ ⟨d,ws2,ts2⟩);rw [HSS.out] at h3;omega
         have HML:=hid (show L.length+1≤maxLen∧(L.length+1) * 32≤140737488355328 by unfold maxLen;omega)
         obtain ⟨i0,hi,hz0,hz1,hz2⟩:=info_parts TryzinfoPR
         have HI:=hid hi;have HZ0:=hid hz0;have HZ1:=hid hz1;have HZ2:=hid hz2;clear hi hz0 hz1 hz2
         have hszE:=(a4.out).size
         go_wp2_with (at_builtin;refine wpList_append_own _ rfl _ _ 42 rfl w.heap.size 25 i0 _ 4 32 Tryz.underlying42 HI.out HZ0.out HZ1.out HZ2.out rfl (by decide) _ _ _ rfl ((a5.out).alloc _) ⟨(c2).heap.size,0,none⟩ 1 1 [.int .i64 x1,.int .i64 x2,.int .i64 x3,.int .i64 x4] rfl rfl (cells_new4 _ _ _ _ _ _) (by simp [Value.oneCell']) HML.out.1 HML.out.2 (by simp;omega) ?_;intro v2 w7 hown7 hgrow7 hnil7)
         have hbA:Below (c2).heap.size c2 ((c2).alloc (.cells #[.int .i64 x1,.int .i64 x2,.int .i64 x3,.int .i64 x4] 25)):=(Below.refl _ _).alloc (Nat.le_refl _) _
         have ownA:=(a5.out).alloc (.cells #[.int .i64 x1,.int .i64 x2,.int .i64 x3,.int .i64 x4] 25)
         have rgA:=(a6.out).keep hbA;have bmA:=(a0.out).keep hbA;have mkA:=(a8.out).keep hbA;have belA:=(a4.out).trans (hbA.mono hszE)
         have rg7:=rgA.keep_ (hgrow7.block b rgA.own.lt (rgA.own.ne_row ownA)) (hgrow7.block r rgA.lt (fun e=>(rgA.ne_row ownA) e.symm))
         have bm7:=blk_same bmA (hgrow7.block Bm bmA.lt (Boxed.not_row bmA (by decide) ownA))
         have mk7:=mkA.same (fun D hD=>hgrow7.block D (mkA.lt D hD) (mark_ne_row (mkA.2 D hD).2 ownA))
         have bel7:=belA.grown hgrow7 belA.size (fun k e=>ownsRow_block ownA k e)
         go_wp2
         go_roundw
         case rel=>exact ⟨came++[⟨x1,x2,x3,x4⟩],cnt1,L++[⟨⟨x1,x2,x3,x4⟩,HXK.out⟩],rg7,by rw [prs_snoc,List.filter_append,J2.out];simp [HTOP.out],by rw [pcells_snoc,List.length_append];exact hown7,by simp [hnil7],bel7,bm7,mk7,by rw [List.length_append];simp;omega⟩
         case measure=>rw [rg7.left_eq,HLE.out];exact hclt
def RetMx (a b:Otl) (w:World) (e:Ending) (w':World):Prop :=
 ∃ (L:List (Yp a b)) (A9:Option Addr) (n9 c9:Nat),e=.returned (.tuple #[.slice A9 n9 c9,.int .i64 (both a b)])∧RdB w' A9 n9 c9 ((prs (sortY L)).map pB)∧(prs (sortY L)).Nodup ∧
  (∀ p,p∈prs (sortY L) ↔ both a b=0∧p∈allL a b (mostN a b)∧topB (allL a b (mostN a b)) p=true)∧n9≤maxLen∧Below w.heap.size w w'
theorem sortY_perm {a b:Otl} (l:List (Yp a b)):List.Perm (prs (sortY l)) (prs l):=(List.mergeSort_perm l _).map _
set_option maxRecDepth 100000 in
theorem Maximal_any (c:Int) (A B:Option Addr) (n k m j:Nat) (ws ts:List Bnd) (d:Int) (C D:Option Addr) (n2 k2 m2 j2:Nat) (ws2 ts2:List Bnd) (w:World) (h1:RdB w A n k ws) (h2:RdB w B m j ts) (hn:n≤maxLen) (hm:m≤maxLen) (h3:RdB w C n2 k2 ws2) (h4:RdB w D m2 j2 ts2) (hn2:n2≤maxLen) (hm2:m2≤maxLen) :
 Calls Tryz.prog 14 #[.agg #[.int .i64 c,.slice A n k,.slice B m j],.agg #[.int .i64 d,.slice C n2 k2,.slice D m2 j2]] w (RetMx ⟨c,ws,ts⟩ ⟨d,ws2,ts2⟩ w):=by
 by_cases hq:both ⟨c,ws,ts⟩ ⟨d,ws2,ts2⟩=0
 · refine (callsIn_wide.1 (Maximal_ok c A B n k m j ws ts d C D n2 k2 m2 j2 ws2 ts2 w h1 h2 hn hm h3 h4 hn2 hm2 hq _ rfl)).mono ?_
   rintro e w' ⟨L,A9,n9,c9,rfl,⟨came,hnd,hmem,hL⟩,hr,hn9,hb⟩
   have hp:=sortY_perm L
   refine ⟨L,A9,n9,c9,by rw [hq],hr,hp.nodup_iff.2 (by rw [hL];exact hnd.filter _),fun p=>?_,hn9,hb⟩
   rw [hp.mem_iff,hL,List.mem_filter,hmem]
   exact ⟨fun h=>⟨hq,h.1,h.2⟩,fun h=>⟨h.2.1,h.2.2⟩⟩
 · unfold RetMx
   obtain ⟨q,hq2⟩:∃ q,both ⟨c,ws,ts⟩ ⟨d,ws2,ts2⟩=q:=⟨_,rfl⟩
   rw [hq2] at hq
   rw [hq2]
   have hnil:prs (sortY ([]:List (Yp ⟨c,ws,ts⟩ ⟨d,ws2,ts2⟩)))=[]:=List.eq_nil_of_length_eq_zero (by rw [prs_length,sortY_length];rfl)
   have HON:=hid (fun W (hW:Below w.heap.size w W)=>outlinesOf_no c A B n k m j ws ts d C D n2 k2 m2 j2 ws2 ts2 W (h1.below hW) (h2.below hW) hn hm (h3.below hW) (h4.below hW) hn2 hm2 q hq2 hq)
   have hqe:(q != 0)=true:=by simpa using hq
   have hqn:=hq
   clear hq hq2 h1 h2 h3 h4 hn hm hn2 hm2
   refine (callsIn_wide (n:=9)).1 ?_
   refine callsIn_of_wp_marks Tryz.func14 rfl trivial ?_ rfl
   simp only [Tryz.ntmps14,List.size_toArray,List.length_cons,List.length_nil,Nat.reduceAdd,Nat.reduceSub,Array.replicate_succ,Array.replicate_zero,List.push_toArray,List.append_toArray,List.nil_append,List.cons_append]
   obtain ⟨a1,a2,a0⟩:=ent2 w #[.int .i64 c,.slice A n k,.slice B m j] 35 #[.int .i64 d,.slice C n2 k2,.slice D m2 j2] 35
   obtain ⟨a6,a7,a8⟩:=at3 a1
   obtain ⟨a9,b0,b1⟩:=at3 a2
   have hmk:∀ w,(Instr.makeMap 88 none).run Tryz.prog w=.ok (.map (some w.heap.size)) (w.alloc (.map #[] 0)):=fun _=>rfl
   have hc:=HON.out _ (a0.out)
   have HC:=hid hc;clear hc
   gi_wp2_with fail
   refine ⟨trivial,(callsIn_wide.2 HC.out).mono ?_⟩
   rintro e a5 ⟨rfl,hb⟩
   clear HC
   clear a6 a7 a8 a9 b0 b1
   have a3:=hid hb
   clear hb
   obtain ⟨o_,ho_⟩:∃ o,o=((.cells #[.int .i64 0,.slice none 0 0,.slice none 0 0,.int .i64 0,.slice none 0 0,.slice none 0 0] 76):Obj):=⟨_,rfl⟩
   replace a0:=bA (bH a0 a3) o_
   replace a1:=kA (kH a1 a3) o_
   replace a2:=kA (kH a2 a3) o_
   subst ho_
   have a4:=hid (Blk.new a5 76 #[.int .i64 0,.slice none 0 0,.slice none 0 0,.int .i64 0,.slice none 0 0,.slice none 0 0])
   obtain ⟨b2,b3,b4⟩:=at3 a1
   obtain ⟨b5,b6,b7⟩:=at3 a2
   obtain ⟨b8,b9,c0,c1,c2,c3⟩:=at6 a4
   have HK:=hid (a0.out)
   gi_wp2
   exact ⟨.tuple #[.slice none 0 0,.int .i64 q],by simp [results,Tryz.results14,go_sem],[],none,0,0,rfl,by rw [hnil];exact RdB.nil_ _,by rw [hnil];exact List.nodup_nil,fun p=>by rw [hnil];exact ⟨fun h=>(by cases h),fun h=>(hqn h.1).elim⟩,by unfold maxLen;omega,HK.out⟩
end Go.Proofs.YtebkniakflhhkaaGreatDoor
