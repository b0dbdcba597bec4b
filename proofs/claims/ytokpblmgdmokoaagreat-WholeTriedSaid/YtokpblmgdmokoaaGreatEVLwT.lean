/- WholeTried holds: for every case it returns true. No condition. -/
import Derived.Test.YtokpblmgdmokoaaGreatAVIsw
import Derived.Test.YtokpblmgdmokoaaGreatEVOf
import Derived.DeepKeys4
import Derived.Laws.AppendOwnNone
import Derived.Maps.OwnIn
import Derived.Shelf.Slices.Cells
import Derived.Shelf.Slices.Clone
import Derived.Shelf.Slices.In.SortNone
import Derived.Shelf.SlicesE.Clone
import Derived.Shelf.Sort.Plain
import Derived.Shelf.Spec.SlicesGrow
import Derived.Sort.OwnSortedInts
import Derived.Test.YtokpblmgdmokoaaGreatAMem
import Derived.Test.YtokpblmgdmokoaaGreatRows
import Derived.Test.YtokpblmgdmokoaaGreatAVTol
import Derived.Test.YtokpblmgdmokoaaGreatEVOpn
import Derived.Test.YtokpblmgdmokoaaGreatEVTw
import Derived.Test.YtokpblmgdmokoaaGreatEVSml
set_option maxHeartbeats 4000000
set_option linter.unusedSimpArgs false
set_option linter.unusedVariables false
namespace Go.Proofs.YtokpblmgdmokoaaGreat
open Go.Lib (hid)
open Go.RowKit Go.Maps Go.Shelf
set_option maxRecDepth 100000 in
theorem Least_no (ware:ByteArray) (lim by_:Int) (A:Option Addr) (n k:Nat) (ps:List Prt) (w:World) (hr:RdP w A n k ps) (hn:n≤maxLen) (q:Int) (hq:chkC ⟨ware,lim,by_,ps⟩=q) (hne:q≠0):Calls Tryz.prog 42 #[.agg #[.string ware,.int .i64 lim,.int .i64 by_,.slice A n k]] w fun e w'=>e=.returned (.tuple #[.int .i64 0,.int .i64 q])∧Below w.heap.size w w':=by
 have HQ:=hid hq;clear hq
 go_enter Tryz.func42,Tryz.ntmps42
 obtain ⟨a1,a0⟩:=ent1 w #[.string ware,.int .i64 lim,.int .i64 by_,.slice A n k] 24
 have a3:=hid (RdP.below (hr) a0.out)
 clear hr
 obtain ⟨a4,a5,a6,a7⟩:=at4 a1
 have hc:=viewOf_no ware lim by_ A n k ps none 0 0 [] ((w.alloc (.cells #[.string ware,.int .i64 lim,.int .i64 by_,.slice A n k] 24))) a3.out (rdI_none _) hn (by unfold maxLen;omega) q ((askP_nil _).trans HQ.out) hne
 have HC:=hid hc;clear hc
 go_wp2_with fail
 refine HC.out.mono ?_
 rintro e b2 ⟨rfl,hb⟩
 clear HC
 clear a4 a5 a6 a7
 have a2:=hid hb
 clear hb
 replace a1:=kH a1 a2
 obtain ⟨a8,a9,b0,b1⟩:=at4 a1
 go_wp2
 replace a0:=bH a0 a2
 refine bodyPost_ret (v:=.tuple #[.int .i64 0,.int .i64 q]) (by simp [results,Tryz.results42,go_sem]) rfl ⟨rfl,a0.out⟩
end Go.Proofs.YtokpblmgdmokoaaGreat
namespace Go.Proofs.YtokpblmgdmokoaaGreat
open Go.Lib (hid)
open Go.RowKit Go.Maps
theorem rdI_nilV (w:World):RdI w none 0 0 []:=⟨rfl,Nat.le_refl _,fun _=>⟨rfl,rfl⟩,.inl rfl⟩
end Go.Proofs.YtokpblmgdmokoaaGreat
namespace Go.Proofs.YtokpblmgdmokoaaGreat
open Go.Lib (hid)
open Go.ChangeShapes Go.WideShapes Go.ChangeAt Go.RowKit
set_option maxRecDepth 100000 in
theorem wt_w (w:World) (ware:ByteArray) (lim by_:Int) (A:Option Addr) (n k:Nat) (ps:List Prt) (hr:RdP w A n k ps) (hn:n≤maxLen) (hf:smlB ⟨ware,lim,by_,ps⟩ 6=false):Calls Tryz.prog 12 #[.agg #[.string ware,.int .i64 lim,.int .i64 by_,.slice A n k]] w fun e w'=>e=.returned (.bool true)∧Below w.heap.size w w':=by
 have HF:=hid hf;clear hf
 go_enter Tryz.func12,Tryz.ntmps12
 obtain ⟨a0,a1⟩:=ent1 w #[.string ware,.int .i64 lim,.int .i64 by_,.slice A n k] 24
 have a4:=hid (RdP.below (hr) a1.out)
 clear hr
 obtain ⟨a9,b0,b1,b2⟩:=at4 a0
 have hc:=small_is ware lim by_ A n k ps 6 ((w.alloc (.cells #[.string ware,.int .i64 lim,.int .i64 by_,.slice A n k] 24))) a4.out hn _ HF.out
 have HC:=hid hc;clear hc
 go_wp2_with fail
 refine HC.out.mono ?_
 rintro e b3 ⟨rfl,hb⟩
 clear HC
 clear a9 b0 b1 b2
 have a3:=hid hb
 clear hb
 replace a0:=kH a0 a3
 obtain ⟨a5,a6,a7,a8⟩:=at4 a0
 have hc:=told_any (b3)
 have HC:=hid hc;clear hc
 go_wp2_with fail
 refine HC.out.mono ?_
 rintro e b4 ⟨rfl,hb⟩
 clear HC
 clear a5 a6 a7 a8
 have a2:=hid hb
 clear hb
 replace a0:=kH a0 a2
 obtain ⟨b5,b6,b7,b8⟩:=at4 a0
 go_wp2
 go_ret
 replace a1:=bH (bH a1 a3) a2
 exact ⟨rfl,a1.out⟩
set_option maxRecDepth 100000 in
theorem wt_no (w:World) (ware:ByteArray) (lim by_:Int) (A:Option Addr) (n k:Nat) (ps:List Prt) (hr:RdP w A n k ps) (hn:n≤maxLen) (hf:smlB ⟨ware,lim,by_,ps⟩ 6=true) (q:Int) (hq:chkC ⟨ware,lim,by_,ps⟩=q) (hne:q≠0):Calls Tryz.prog 12 #[.agg #[.string ware,.int .i64 lim,.int .i64 by_,.slice A n k]] w fun e w'=>e=.returned (.bool true)∧Below w.heap.size w w':=by
 have HF:=hid hf;have HQ:=hid hq;clear hf hq
 go_enter Tryz.func12,Tryz.ntmps12
 obtain ⟨a0,a1⟩:=ent1 w #[.string ware,.int .i64 lim,.int .i64 by_,.slice A n k] 24
 have a2:=hid (RdP.below (hr) a1.out)
 clear hr
 obtain ⟨b5,b6,b7,b8⟩:=at4 a0
 have hc:=small_is ware lim by_ A n k ps 6 ((w.alloc (.cells #[.string ware,.int .i64 lim,.int .i64 by_,.slice A n k] 24))) a2.out hn _ HF.out
 have HC:=hid hc;clear hc
 go_wp2_with fail
 refine HC.out.mono ?_
 rintro e b9 ⟨rfl,hb⟩
 clear HC
 clear b5 b6 b7 b8
 have a3:=hid hb
 clear hb
 replace a0:=kH a0 a3
 obtain ⟨a6,a7,a8,a9⟩:=at4 a0
 replace a2:=hid (RdP.below (a2.out) a3.out)
 have hc:=Least_no ware lim by_ A n k ps (b9) a2.out hn q HQ.out hne
 have HC:=hid hc;clear hc
 go_wp2_with fail
 refine HC.out.mono ?_
 rintro e b0 ⟨rfl,hb⟩
 clear HC
 clear a6 a7 a8 a9
 have a4:=hid hb
 clear hb
 replace a0:=kH a0 a4
 obtain ⟨b1,b2,b3,b4⟩:=at4 a0
 have hc:=told_any (b0)
 have HC:=hid hc;clear hc
 go_wp2_with fail
 refine HC.out.mono ?_
 rintro e c0 ⟨rfl,hb⟩
 clear HC
 clear b1 b2 b3 b4
 have a5:=hid hb
 clear hb
 replace a0:=kH a0 a5
 obtain ⟨c1,c2,c3,c4⟩:=at4 a0
 go_wp2
 go_ret
 replace a1:=bH (bH (bH a1 a3) a4) a5
 exact ⟨rfl,a1.out⟩
set_option maxRecDepth 100000 in
theorem wt_yes (w:World) (ware:ByteArray) (lim by_:Int) (A:Option Addr) (n k:Nat) (ps:List Prt) (hr:RdP w A n k ps) (hn:n≤maxLen) (hf:smlB ⟨ware,lim,by_,ps⟩ 6=true) (hq:chkC ⟨ware,lim,by_,ps⟩=0):Calls Tryz.prog 12 #[.agg #[.string ware,.int .i64 lim,.int .i64 by_,.slice A n k]] w fun e w'=>e=.returned (.bool true)∧Below w.heap.size w w':=by
 have hpl:=hr.len
 have h6:n≤6:=by have:=hf;unfold smlB at this;rw [Bool.and_eq_true,decide_eq_true_eq] at this;have:=this.2;dsimp only at this;omega
 have h20:n<20:=by omega
 have hw1:∀ p∈ps,p.lo≤p.hi:=fun p hp=>(prtB_ok ((chkC_ok hq).2.2.2.2.2.1 p hp)).2.2.2.2.1
 have hfw:=few_all hw1
 rw [hpl] at hfw
 obtain ⟨N1,hN1⟩:∃ v,(vesL ps).length=v:=⟨_,rfl⟩
 rw [hN1] at hfw
 have HFW:=hid hfw;have HN1:=hid hN1;have HF:=hid hf;have HQ:=hid hq;clear hf hq hfw hN1 hw1 hpl
 go_enter Tryz.func12,Tryz.ntmps12
 obtain ⟨a0,a2⟩:=ent1 w #[.string ware,.int .i64 lim,.int .i64 by_,.slice A n k] 24
 have a1:=hid (RdP.below (hr) a2.out)
 clear hr
 obtain ⟨c1,c2,c3,c4⟩:=at4 a0
 have hc:=small_is ware lim by_ A n k ps 6 ((w.alloc (.cells #[.string ware,.int .i64 lim,.int .i64 by_,.slice A n k] 24))) a1.out hn _ HF.out
 have HC:=hid hc;clear hc
 go_wp2_with fail
 refine HC.out.mono ?_
 rintro e c5 ⟨rfl,hb⟩
 clear HC
 clear c1 c2 c3 c4
 have a5:=hid hb
 clear hb
 replace a0:=kH a0 a5
 obtain ⟨a7,a8,a9,b0⟩:=at4 a0
 replace a1:=hid (RdP.below (a1.out) a5.out)
 have hc:=Least_yes ware lim by_ A n k ps (c5) a1.out hn HQ.out h20
 rw [HN1.out] at hc
 try dsimp only at hc
 have HC:=hid hc;clear hc
 go_wp2_with fail
 refine HC.out.mono ?_
 rintro e b1 ⟨rfl,hb⟩
 clear HC
 clear a7 a8 a9 b0
 have a3:=hid hb
 clear hb
 replace a0:=kH a0 a3
 obtain ⟨b2,b3,b4,b5⟩:=at4 a0
 have hc:=told_any (b1)
 have HC:=hid hc;clear hc
 go_wp2_with fail
 refine HC.out.mono ?_
 rintro e b6 ⟨rfl,hb⟩
 clear HC
 clear b2 b3 b4 b5
 have a4:=hid hb
 clear hb
 replace a0:=kH a0 a4
 obtain ⟨b7,b8,b9,c0⟩:=at4 a0
 replace a1:=hid (RdP.below (RdP.below (a1.out) a3.out) a4.out)
 have hc:=few_is_ (fewest_all n) ware lim by_ A n k ps none 0 0 [] 0 (b6) a1.out (rdI_nilV _) hn (by omega) HQ.out (by omega) (Nat.le_refl _) (N1:Int) HFW.out
 have HC:=hid hc;clear hc
 go_wp2_with fail
 refine HC.out.mono ?_
 rintro e c6 ⟨rfl,hb⟩
 clear HC
 clear b7 b8 b9 c0
 have a6:=hid hb
 clear hb
 replace a0:=kH a0 a6
 obtain ⟨c7,c8,c9,d0⟩:=at4 a0
 go_wp2
 go_ret
 replace a2:=bH (bH (bH (bH a2 a5) a3) a4) a6
 exact ⟨rfl,a2.out⟩
theorem wt_walk (w:World) (ware:ByteArray) (lim by_:Int) (A:Option Addr) (n k:Nat) (ps:List Prt) (hr:RdP w A n k ps) (hn:n≤maxLen):Calls Tryz.prog 12 #[.agg #[.string ware,.int .i64 lim,.int .i64 by_,.slice A n k]] w fun e w'=>e=.returned (.bool true)∧Below w.heap.size w w':=by
 cases hf:smlB ⟨ware,lim,by_,ps⟩ 6
 · exact wt_w w ware lim by_ A n k ps hr hn hf
 · by_cases hq:chkC ⟨ware,lim,by_,ps⟩=0
   · exact wt_yes w ware lim by_ A n k ps hr hn hf hq
   · exact wt_no w ware lim by_ A n k ps hr hn hf _ rfl hq
set_option maxRecDepth 100000 in
theorem wholeTried_lifted (os:Os) (started:os.Started) (H:Type) (enc:TypeId × Value→H) :
 ReturnsInHanded {} Tryz.checked os 12 .any (Rows.wholeTriedSpec.pre6 enc Tryz.prog Tryz.f12 Rows.wholeTriedRow.domain false) (Rows.wholeTriedSpec.post enc Tryz.prog Tryz.f12 false true false false):=by
 refine returnsInHanded_of_change (C:=Tryz.checked) Law.own started (by kernel_rfl) Tryz.func12
  (ChangeSpec.witness6 (enc:=enc) (C:=Tryz.checked) false ⟨#[],#[.agg #[.string ⟨#[]⟩,.int .i64 0,.int .i64 0,.slice none 0 0]],[]⟩ 8 (by kernel_rfl) (by kernel_rfl) (by kernel_rfl) (by kernel_rfl)) ?_
 intro W base args ds gs before hval0 hW hcnd _
 have hval:∀ (j:Nat) t v,Tryz.f12.params[j]?=some t→args[j]?=some v→Value.okWide Tryz.prog W .any base t v:=hval0
 have hW':=hW
 obtain ⟨p,q,hA0,hV,rfl,hfz,hnd⟩:=hW
 have hA:DataW.TrodAll enc Tryz.prog W 0 (fun _=>true) true Tryz.f12.params.toList args.toList ds p:=hA0
 rw [Tryz.params12] at hA hval
 obtain ⟨v0,vs0,d0,ds0,p0,q0,hargs,rfl,rfl,h0,r0⟩:=trodAll_cons hA
 obtain ⟨rfl,rfl,rfl⟩:=trodAll_nil r0
 obtain rfl:args=#[v0]:=by cases args;simp_all
 obtain ⟨rfl,rfl⟩:=trodVars_none hV
 have k0:=h0
 have lt0:∀ x∈p0,x.block<W.heap.size:=by obtain ⟨m,hm⟩:=k0;exact DataW.trod_lt m _ _ _ hm
 obtain ⟨s0,x0,y0,A0,n0,c0,l0,rfl,rd0,mx0⟩:=open_case (hval 0 24 v0 rfl rfl) h0
 clear hA0 hval0
 refine (wt_walk W s0 x0 y0 A0 n0 c0 l0 rd0 mx0).mono fun e W' ⟨he,bel⟩=>?_
 subst he
 exact ⟨_,rfl,_,_,_,[],_,[],hW',trodAll_mk1 (shut_bool Tryz.underlying4 _),(trodAll_cons_mk (Below.trod Law.laidOut (by kernel_rfl) (of_decide_eq_true (by kernel_rfl)) k0 bel lt0) trodAll_mk0),rfl,bel.frame _,fun h=>by cases h⟩
theorem wholeTried_over:Rows.wholeTriedRow.holds Tryz.pinned (OpenSpec.ofChange Rows.wholeTriedSpec) :=
 OpenClaim.holds_of_wide 12 Tryz.f12 rfl rfl rfl rfl rfl rfl rfl ⟨rfl,rfl,rfl,rfl,rfl⟩ rfl rfl rfl rfl rfl (by kernel_rfl) Tryz.func12 (by kernel_rfl)
  (of_decide_eq_true (by kernel_rfl)) (by unfold Func.isWrapper;first | (rw [if_pos (by decide +kernel)];kernel_rfl) | (rw [if_neg (by decide +kernel)];exact ⟨rfl,rfl⟩))
  (fun os started H enc _=>wholeTried_lifted os started H enc)
theorem wholeTried_proved:Rows.WholeTriedSaid:=wholeTried_over
end Go.Proofs.YtokpblmgdmokoaaGreat
