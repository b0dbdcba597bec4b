import Derived.Test.YtebkniakflhhkaaGreatDoorAEList
import Derived.Test.YtebkniakflhhkaaGreatDoorAEMap
set_option linter.unusedSimpArgs false
set_option linter.unusedVariables false
namespace Go.Proofs.YtebkniakflhhkaaGreatDoor
open Go.Lib (hid)
open Go.RowKit Go.Maps
def grownV (S:List Prg) (p:Prg):Prg:=if befP p∈S then befP p else if behP p∈S then behP p else p
set_option maxRecDepth 100000 in
set_option maxHeartbeats 4000000 in
theorem grown_any (p1 p2 p3 p4:Int) (hp:(0≤p1∧p1≤16)∧(0≤p2∧p2≤16)∧(0≤p3∧p3≤16)∧(0≤p4∧p4≤16)) (b:Nat) (S:List Prg) (w:World) (hown:OwnP w b S) :
 Calls Tryz.prog 38 #[.agg #[.int .i64 p1,.int .i64 p2,.int .i64 p3,.int .i64 p4],.map (some b)] w fun e w'=>e=.returned (encV (grownV S ⟨p1,p2,p3,p4⟩))∧Below w.heap.size w w':=by
 have hbl:=hown.lt
 obtain ⟨⟨l1,u1⟩,⟨l2,u2⟩,⟨l3,u3⟩,⟨l4,u4⟩⟩:=hp
 have HW1:=hid (show WfP (befP ⟨p1,p2,p3,p4⟩) from ⟨wf_small2 (by simp only [befP];omega) (by simp only [befP];omega),wf_small2 (by simp only [befP];omega) (by simp only [befP];omega),wf_small2 (by simp only [befP];omega) (by simp only [befP];omega),wf_small2 (by simp only [befP];omega) (by simp only [befP];omega)⟩)
 have HW2:=hid (show WfP (behP ⟨p1,p2,p3,p4⟩) from ⟨wf_small2 (by simp only [behP];omega) (by simp only [behP];omega),wf_small2 (by simp only [behP];omega) (by simp only [behP];omega),wf_small2 (by simp only [behP];omega) (by simp only [behP];omega),wf_small2 (by simp only [behP];omega) (by simp only [behP];omega)⟩)
 obtain ⟨q1,hq1⟩:∃ q,decide (befP ⟨p1,p2,p3,p4⟩∈S)=q:=⟨_,rfl⟩
 obtain ⟨q2,hq2⟩:∃ q,decide (behP ⟨p1,p2,p3,p4⟩∈S)=q:=⟨_,rfl⟩
 have HA:=hid (fun (h:q1=true)=>show grownV S ⟨p1,p2,p3,p4⟩=befP ⟨p1,p2,p3,p4⟩ from if_pos (by rw [h] at hq1;simpa using hq1))
 have HBB:=hid (fun (h:q1=false) (h':q2=true)=>show grownV S ⟨p1,p2,p3,p4⟩=behP ⟨p1,p2,p3,p4⟩ by unfold grownV;rw [if_neg (by rw [h] at hq1;simpa using hq1),if_pos (by rw [h'] at hq2;simpa using hq2)])
 have HC:=hid (fun (h:q1=false) (h':q2=false)=>show grownV S ⟨p1,p2,p3,p4⟩=⟨p1,p2,p3,p4⟩ by unfold grownV;rw [if_neg (by rw [h] at hq1;simpa using hq1),if_neg (by rw [h'] at hq2;simpa using hq2)])
 have HQ1:=hid hq1;have HQ2:=hid hq2;clear hq1 hq2
 generalize grownV S ⟨p1,p2,p3,p4⟩=G at *
 have wr1:IntKind.i64.wrap (p1-1)=p1-1:=IntWalk.i64_in _ (by omega)
 have wr2:IntKind.i64.wrap (p2+1)=p2+1:=IntWalk.i64_in _ (by omega)
 have wr3:IntKind.i64.wrap (p3-1)=p3-1:=IntWalk.i64_in _ (by omega)
 have wr4:IntKind.i64.wrap (p4+1)=p4+1:=IntWalk.i64_in _ (by omega)
 go_enter Tryz.func38,Tryz.ntmps38
 obtain ⟨a4,a7,a5⟩:=ent2 w #[.int .i64 p1,.int .i64 p2,.int .i64 p3,.int .i64 p4] 25 #[.int .i64 0,.int .i64 0,.int .i64 0,.int .i64 0] 25
 have a8:=hid (OwnP.keep (hown) a5.out)
 clear hown
 obtain ⟨o5,o6,o7,o8⟩:=at4 a4
 obtain ⟨o9,k6,k7,k8⟩:=at4 a7
 go_wp2_with fail
 clear o5 o6 o7 o8 o9 k6 k7 k8
 replace a5:=bD a5
 replace a8:=hid (OwnP.drew (a8.out))
 replace a4:=kD a4
 replace a7:=kD a7
 refine wp_region_held_drew (S:=(fun W'=>Blk W' (w.heap.size) 25 #[.int .i64 p1,.int .i64 p2,.int .i64 p3,.int .i64 p4])) (by kernel_rfl) a4.out (fun _=>?_)
 obtain ⟨h1,h3⟩:∃ w',w'=(((w.alloc (.cells #[.int .i64 p1,.int .i64 p2,.int .i64 p3,.int .i64 p4] 25)).alloc (.cells #[.int .i64 0,.int .i64 0,.int .i64 0,.int .i64 0] 25)).drew):=⟨_,rfl⟩
 rw [← h3] at a5 a8 a4 a7
 rw [← h3]
 clear h3
 refine' tkH 0 a4.out ?j2 ?_
 case j2=>(rintro W' hS0;have hc0:=Blk.nth hS0 0;have hc1:=Blk.nth hS0 1;have hc2:=Blk.nth hS0 2;have hc3:=Blk.nth hS0 3;clear hS0;go_simp;try with_reducible rfl)
 refine' tkH 1 a4.out ?j3 ?_
 case j3=>(rintro W' hS0;have hc0:=Blk.nth hS0 0;have hc1:=Blk.nth hS0 1;have hc2:=Blk.nth hS0 2;have hc3:=Blk.nth hS0 3;clear hS0;go_simp;try with_reducible rfl)
 try simp only [pq]
 refine wpAnyH_ready (rs:=[2,3]) (by kernel_rfl) (by simp) ?_
 refine rdH rfl (fun K hK=>?_) ?_
 · -- 2: alloc
  go_simp
  have f3:=hid (a5.out.size)
  have e5:=hid (Nat.ne_of_lt (OwnP.lt a8.out))
  have f4:=hid (Nat.ne_of_lt (Blk.lt a4.out))
  have f5:=hid (Nat.ne_of_lt (Blk.lt a7.out))
  obtain ⟨o_,ho_⟩:∃ o,o=(.cells #[.int .i64 0,.int .i64 0,.int .i64 0,.int .i64 0] 25:Obj):=⟨_,rfl⟩
  replace a5:=bA a5 o_
  replace a8:=hid (OwnP.alloc (a8.out) (o_))
  replace a4:=kA a4 o_
  replace a7:=kA a7 o_
  subst ho_
  have a6:=hid (Blk.new (h1) 25 #[.int .i64 0,.int .i64 0,.int .i64 0,.int .i64 0])
  obtain ⟨a0,h4⟩:∃ g,g=(h1).heap.size:=⟨_,rfl⟩
  obtain ⟨i8,h5⟩:∃ w',w'=(h1).alloc (.cells #[.int .i64 0,.int .i64 0,.int .i64 0,.int .i64 0] 25):=⟨_,rfl⟩
  rw [← h5] at a5 a8 a4 a7 a6
  rw [← h4] at f3 e5 f4 f5 a6
  rw [← h4,← h5]
  clear h4 h5
  refine hK.out _ _ a4.out (fun _=>?_);clear hK K
  try simp only [pq]
  refine oneH 3 rfl fun K hK=>?_
  go_simp
  have f6:=hid (a5.out.size)
  have e6:=hid (Nat.ne_of_lt (OwnP.lt a8.out))
  have f7:=hid (Nat.ne_of_lt (Blk.lt a4.out))
  have f8:=hid (Nat.ne_of_lt (Blk.lt a7.out))
  have b0:=hid (Nat.ne_of_lt (Blk.lt a6.out))
  obtain ⟨o_,ho_⟩:∃ o,o=(.cells #[.int .i64 0,.int .i64 0,.int .i64 0,.int .i64 0] 25:Obj):=⟨_,rfl⟩
  replace a5:=bA a5 o_
  replace a8:=hid (OwnP.alloc (a8.out) (o_))
  replace a4:=kA a4 o_
  replace a7:=kA a7 o_
  replace a6:=kA a6 o_
  subst ho_
  have h2:=hid (Blk.new (i8) 25 #[.int .i64 0,.int .i64 0,.int .i64 0,.int .i64 0])
  obtain ⟨a1,h6⟩:∃ g,g=(i8).heap.size:=⟨_,rfl⟩
  obtain ⟨e7,h7⟩:∃ w',w'=(i8).alloc (.cells #[.int .i64 0,.int .i64 0,.int .i64 0,.int .i64 0] 25):=⟨_,rfl⟩
  rw [← h7] at a5 a8 a4 a7 a6 h2
  rw [← h6] at f6 e6 f7 f8 b0 h2
  rw [← h6,← h7]
  clear h6 h7
  refine hK.out _ _ a4.out (fun _=>?_);clear hK K
  try simp only [pq]
  refine oneH 4 rfl fun K hK=>?_
  have k9:(e7).cell? ⟨a0,0,none⟩=some (.int .i64 0):=Blk.cell (a6.out) 0
  have l0:(e7).frozen? ⟨a0,0,none⟩=false:=Blk.frozen (a6.out) 0
  have l5:(e7).cell? ⟨a0,1,none⟩=some (.int .i64 0):=Blk.cell (a6.out) 1
  have l6:(e7).frozen? ⟨a0,1,none⟩=false:=Blk.frozen (a6.out) 1
  have l7:(e7).cell? ⟨a0,2,none⟩=some (.int .i64 0):=Blk.cell (a6.out) 2
  have l8:(e7).frozen? ⟨a0,2,none⟩=false:=Blk.frozen (a6.out) 2
  have l9:(e7).cell? ⟨a0,3,none⟩=some (.int .i64 0):=Blk.cell (a6.out) 3
  have m0:(e7).frozen? ⟨a0,3,none⟩=false:=Blk.frozen (a6.out) 3
  have hlt_:=Blk.lt (a6.out)
  go_simp
  have j4:=hid (Below.setCell (Below.setCell (Below.setCell (Below.setCell (a5.out) (p:=⟨a0,0,none⟩) (f3.out) (.int .i64 p1)) (p:=⟨a0,1,none⟩) (f3.out) (.int .i64 p2)) (p:=⟨a0,2,none⟩) (f3.out) (.int .i64 p3)) (p:=⟨a0,3,none⟩) (f3.out) (.int .i64 p4))
  have j5:=hid (OwnP.far (OwnP.far (OwnP.far (OwnP.far (a8.out) (a:=⟨a0,0,none⟩) (e5.out) (.int .i64 p1)) (a:=⟨a0,1,none⟩) (e5.out) (.int .i64 p2)) (a:=⟨a0,2,none⟩) (e5.out) (.int .i64 p3)) (a:=⟨a0,3,none⟩) (e5.out) (.int .i64 p4))
  have i9:=hid (Blk.far (Blk.far (Blk.far (Blk.far (a4.out) (p:=⟨a0,0,none⟩) (f4.out) (.int .i64 p1)) (p:=⟨a0,1,none⟩) (f4.out) (.int .i64 p2)) (p:=⟨a0,2,none⟩) (f4.out) (.int .i64 p3)) (p:=⟨a0,3,none⟩) (f4.out) (.int .i64 p4))
  have j6:=hid (Blk.far (Blk.far (Blk.far (Blk.far (a7.out) (p:=⟨a0,0,none⟩) (f5.out) (.int .i64 p1)) (p:=⟨a0,1,none⟩) (f5.out) (.int .i64 p2)) (p:=⟨a0,2,none⟩) (f5.out) (.int .i64 p3)) (p:=⟨a0,3,none⟩) (f5.out) (.int .i64 p4))
  have j7:=hid (Blk.set_ (Blk.set_ (Blk.set_ (Blk.set_ (a6.out) 0 (.int .i64 p1)) 1 (.int .i64 p2)) 2 (.int .i64 p3)) 3 (.int .i64 p4))
  have c6:=hid (Blk.far (Blk.far (Blk.far (Blk.far (h2.out) (p:=⟨a0,0,none⟩) ((Ne.symm b0.out)) (.int .i64 p1)) (p:=⟨a0,1,none⟩) ((Ne.symm b0.out)) (.int .i64 p2)) (p:=⟨a0,2,none⟩) ((Ne.symm b0.out)) (.int .i64 p3)) (p:=⟨a0,3,none⟩) ((Ne.symm b0.out)) (.int .i64 p4))
  obtain ⟨e8,h8⟩:∃ w',w'=(((((e7).setCell ⟨a0,0,none⟩ (.int .i64 p1)).setCell ⟨a0,1,none⟩ (.int .i64 p2)).setCell ⟨a0,2,none⟩ (.int .i64 p3)).setCell ⟨a0,3,none⟩ (.int .i64 p4)):=⟨_,rfl⟩
  rw [← h8] at j4 j5 i9 j6 j7 c6
  rw [← h8]
  clear h8 k9 l0 l5 l6 l7 l8 l9 m0 hlt_
  refine hK.out _ _ i9.out (fun _=>?_);clear hK K
  try simp only [pq]
  refine oneH 5 rfl fun K hK=>?_
  have m1:(e8).cell? ⟨a1,0,none⟩=some (.int .i64 0):=Blk.cell (c6.out) 0
  have m2:(e8).frozen? ⟨a1,0,none⟩=false:=Blk.frozen (c6.out) 0
  have m3:(e8).cell? ⟨a1,1,none⟩=some (.int .i64 0):=Blk.cell (c6.out) 1
  have m4:(e8).frozen? ⟨a1,1,none⟩=false:=Blk.frozen (c6.out) 1
  have m5:(e8).cell? ⟨a1,2,none⟩=some (.int .i64 0):=Blk.cell (c6.out) 2
  have m6:(e8).frozen? ⟨a1,2,none⟩=false:=Blk.frozen (c6.out) 2
  have m7:(e8).cell? ⟨a1,3,none⟩=some (.int .i64 0):=Blk.cell (c6.out) 3
  have m8:(e8).frozen? ⟨a1,3,none⟩=false:=Blk.frozen (c6.out) 3
  have hlt_:=Blk.lt (c6.out)
  go_simp
  have j8:=hid (Below.setCell (Below.setCell (Below.setCell (Below.setCell (j4.out) (p:=⟨a1,0,none⟩) (f6.out) (.int .i64 p1)) (p:=⟨a1,1,none⟩) (f6.out) (.int .i64 p2)) (p:=⟨a1,2,none⟩) (f6.out) (.int .i64 p3)) (p:=⟨a1,3,none⟩) (f6.out) (.int .i64 p4))
  have j9:=hid (OwnP.far (OwnP.far (OwnP.far (OwnP.far (j5.out) (a:=⟨a1,0,none⟩) (e6.out) (.int .i64 p1)) (a:=⟨a1,1,none⟩) (e6.out) (.int .i64 p2)) (a:=⟨a1,2,none⟩) (e6.out) (.int .i64 p3)) (a:=⟨a1,3,none⟩) (e6.out) (.int .i64 p4))
  have h9:=hid (Blk.far (Blk.far (Blk.far (Blk.far (i9.out) (p:=⟨a1,0,none⟩) (f7.out) (.int .i64 p1)) (p:=⟨a1,1,none⟩) (f7.out) (.int .i64 p2)) (p:=⟨a1,2,none⟩) (f7.out) (.int .i64 p3)) (p:=⟨a1,3,none⟩) (f7.out) (.int .i64 p4))
  have g5:=hid (Blk.far (Blk.far (Blk.far (Blk.far (j6.out) (p:=⟨a1,0,none⟩) (f8.out) (.int .i64 p1)) (p:=⟨a1,1,none⟩) (f8.out) (.int .i64 p2)) (p:=⟨a1,2,none⟩) (f8.out) (.int .i64 p3)) (p:=⟨a1,3,none⟩) (f8.out) (.int .i64 p4))
  have g6:=hid (Blk.far (Blk.far (Blk.far (Blk.far (j7.out) (p:=⟨a1,0,none⟩) (b0.out) (.int .i64 p1)) (p:=⟨a1,1,none⟩) (b0.out) (.int .i64 p2)) (p:=⟨a1,2,none⟩) (b0.out) (.int .i64 p3)) (p:=⟨a1,3,none⟩) (b0.out) (.int .i64 p4))
  have g7:=hid (Blk.set_ (Blk.set_ (Blk.set_ (Blk.set_ (c6.out) 0 (.int .i64 p1)) 1 (.int .i64 p2)) 2 (.int .i64 p3)) 3 (.int .i64 p4))
  obtain ⟨c4,i0⟩:∃ w',w'=(((((e8).setCell ⟨a1,0,none⟩ (.int .i64 p1)).setCell ⟨a1,1,none⟩ (.int .i64 p2)).setCell ⟨a1,2,none⟩ (.int .i64 p3)).setCell ⟨a1,3,none⟩ (.int .i64 p4)):=⟨_,rfl⟩
  rw [← i0] at j8 j9 h9 g5 g6 g7
  rw [← i0]
  clear i0 m1 m2 m3 m4 m5 m6 m7 m8 hlt_
  refine hK.out _ _ h9.out (fun _=>?_);clear hK K
  try simp only [pq]
  refine wpAnyH_done (by kernel_rfl) ?_ _
  have lt5:=Blk.lt g6.out;have lt6:=Blk.lt g7.out;have ltz:=Blk.lt g5.out;have ltp:=Blk.lt h9.out
  have hne1:=b0.out;have hne2:=Ne.symm b0.out
  have hl5:w.heap.size≤a0:=f3.out;have hl6:w.heap.size≤a1:=f6.out
  have hnp5:w.heap.size≠a0:=f4.out;have hnp6:w.heap.size≠a1:=f7.out
  have hnz5:w.heap.size+1≠a0:=f5.out;have hnz6:w.heap.size+1≠a1:=f8.out
  have OW:=hid (OwnP.far (OwnP.far (OwnP.far (OwnP.far (j9.out) (a:=⟨a0,0,none⟩) e5.out (.int .i64 (p1-1))) (a:=⟨a0,3,none⟩) e5.out (.int .i64 (p4+1))) (a:=⟨a1,1,none⟩) e6.out (.int .i64 (p2+1))) (a:=⟨a1,2,none⟩) e6.out (.int .i64 (p3-1)))
  have HBL:=hid (j8.out)
  obtain ⟨c7,c8,c9,d0⟩:=at4 h9
  obtain ⟨d1,d2,d3,d4⟩:=at4 g5
  obtain ⟨d5,d6,d7,d8⟩:=at4 g6
  obtain ⟨d9,e0,e1,e2⟩:=at4 g7
  have b2:(c4).frozen? ⟨a0,0,none⟩=false:=Blk.frozen g6.out 0
  have b3:(c4).frozen? ⟨a0,1,none⟩=false:=Blk.frozen g6.out 1
  have b4:(c4).frozen? ⟨a0,2,none⟩=false:=Blk.frozen g6.out 2
  have b5:(c4).frozen? ⟨a0,3,none⟩=false:=Blk.frozen g6.out 3
  have b6:(c4).frozen? ⟨a1,0,none⟩=false:=Blk.frozen g7.out 0
  have b7:(c4).frozen? ⟨a1,1,none⟩=false:=Blk.frozen g7.out 1
  have b8:(c4).frozen? ⟨a1,2,none⟩=false:=Blk.frozen g7.out 2
  have b9:(c4).frozen? ⟨a1,3,none⟩=false:=Blk.frozen g7.out 3
  have c0:(c4).frozen? ⟨w.heap.size+1,0,none⟩=false:=Blk.frozen g5.out 0
  have c1:(c4).frozen? ⟨w.heap.size+1,1,none⟩=false:=Blk.frozen g5.out 1
  have c2:(c4).frozen? ⟨w.heap.size+1,2,none⟩=false:=Blk.frozen g5.out 2
  have c3:(c4).frozen? ⟨w.heap.size+1,3,none⟩=false:=Blk.frozen g5.out 3
  go_wp2_with (at_lookup;first|refine wpList_lookup_P _ rfl _ _ rfl b S rfl OW.out (befP ⟨p1,p2,p3,p4⟩) rfl HW1.out q1 HQ1.out ?_|refine wpList_lookup_P _ rfl _ _ rfl b S rfl OW.out (behP ⟨p1,p2,p3,p4⟩) rfl HW2.out q2 HQ2.out ?_)
  · refine bodyPost_ret (v:=.agg #[.int .i64 (p1-1),.int .i64 p2,.int .i64 p3,.int .i64 (p4+1)]) (by simp [results,Tryz.results38,go_sem,c7,c8,c9,d0,d1,d2,d3,d4,d5,d6,d7,d8,d9,e0,e1,e2,b2,b3,b4,b5,b6,b7,b8,b9,c0,c1,c2,c3]) rfl ⟨by rw [HA.out (by assumption)];rfl,(by have hsz_:=Below.size HBL.out;repeat' (first|with_reducible exact HBL.out|with_reducible exact Below.refl _ _|with_reducible refine Below.alloc ?_ ?_ _|with_reducible refine Below.setCell ?_ ?_ _|with_reducible refine Below.drew ?_|with_reducible refine below_setRow ?_ ?_ _|omega | (simp;done) | (simp;omega)))⟩
  · refine bodyPost_ret (v:=.agg #[.int .i64 p1,.int .i64 (p2+1),.int .i64 (p3-1),.int .i64 p4]) (by simp [results,Tryz.results38,go_sem,c7,c8,c9,d0,d1,d2,d3,d4,d5,d6,d7,d8,d9,e0,e1,e2,b2,b3,b4,b5,b6,b7,b8,b9,c0,c1,c2,c3]) rfl ⟨by rw [HBB.out (by assumption) (by assumption)];rfl,(by have hsz_:=Below.size HBL.out;repeat' (first|with_reducible exact HBL.out|with_reducible exact Below.refl _ _|with_reducible refine Below.alloc ?_ ?_ _|with_reducible refine Below.setCell ?_ ?_ _|with_reducible refine Below.drew ?_|with_reducible refine below_setRow ?_ ?_ _|omega | (simp;done) | (simp;omega)))⟩
  · refine bodyPost_ret (v:=.agg #[.int .i64 p1,.int .i64 p2,.int .i64 p3,.int .i64 p4]) (by simp [results,Tryz.results38,go_sem,c7,c8,c9,d0,d1,d2,d3,d4,d5,d6,d7,d8,d9,e0,e1,e2,b2,b3,b4,b5,b6,b7,b8,b9,c0,c1,c2,c3]) rfl ⟨by rw [HC.out (by assumption) (by assumption)];rfl,(by have hsz_:=Below.size HBL.out;repeat' (first|with_reducible exact HBL.out|with_reducible exact Below.refl _ _|with_reducible refine Below.alloc ?_ ?_ _|with_reducible refine Below.setCell ?_ ?_ _|with_reducible refine Below.drew ?_|with_reducible refine below_setRow ?_ ?_ _|omega | (simp;done) | (simp;omega)))⟩
 refine rdH rfl (fun K hK=>?_) ?_
 · -- 3: alloc
  go_simp
  have f9:=hid (a5.out.size)
  have e9:=hid (Nat.ne_of_lt (OwnP.lt a8.out))
  have g0:=hid (Nat.ne_of_lt (Blk.lt a4.out))
  have g1:=hid (Nat.ne_of_lt (Blk.lt a7.out))
  obtain ⟨o_,ho_⟩:∃ o,o=(.cells #[.int .i64 0,.int .i64 0,.int .i64 0,.int .i64 0] 25:Obj):=⟨_,rfl⟩
  replace a5:=bA a5 o_
  replace a8:=hid (OwnP.alloc (a8.out) (o_))
  replace a4:=kA a4 o_
  replace a7:=kA a7 o_
  subst ho_
  have e3:=hid (Blk.new (h1) 25 #[.int .i64 0,.int .i64 0,.int .i64 0,.int .i64 0])
  obtain ⟨a2,i1⟩:∃ g,g=(h1).heap.size:=⟨_,rfl⟩
  obtain ⟨j0,i2⟩:∃ w',w'=(h1).alloc (.cells #[.int .i64 0,.int .i64 0,.int .i64 0,.int .i64 0] 25):=⟨_,rfl⟩
  rw [← i2] at a5 a8 a4 a7 e3
  rw [← i1] at f9 e9 g0 g1 e3
  rw [← i1,← i2]
  clear i1 i2
  refine hK.out _ _ a4.out (fun _=>?_);clear hK K
  try simp only [pq]
  refine oneH 2 rfl fun K hK=>?_
  go_simp
  have g2:=hid (a5.out.size)
  have f0:=hid (Nat.ne_of_lt (OwnP.lt a8.out))
  have g3:=hid (Nat.ne_of_lt (Blk.lt a4.out))
  have g4:=hid (Nat.ne_of_lt (Blk.lt a7.out))
  have b1:=hid (Nat.ne_of_lt (Blk.lt e3.out))
  obtain ⟨o_,ho_⟩:∃ o,o=(.cells #[.int .i64 0,.int .i64 0,.int .i64 0,.int .i64 0] 25:Obj):=⟨_,rfl⟩
  replace a5:=bA a5 o_
  replace a8:=hid (OwnP.alloc (a8.out) (o_))
  replace a4:=kA a4 o_
  replace a7:=kA a7 o_
  replace e3:=kA e3 o_
  subst ho_
  have a9:=hid (Blk.new (j0) 25 #[.int .i64 0,.int .i64 0,.int .i64 0,.int .i64 0])
  obtain ⟨a3,i3⟩:∃ g,g=(j0).heap.size:=⟨_,rfl⟩
  obtain ⟨f1,i4⟩:∃ w',w'=(j0).alloc (.cells #[.int .i64 0,.int .i64 0,.int .i64 0,.int .i64 0] 25):=⟨_,rfl⟩
  rw [← i4] at a5 a8 a4 a7 e3 a9
  rw [← i3] at g2 f0 g3 g4 b1 a9
  rw [← i3,← i4]
  clear i3 i4
  refine hK.out _ _ a4.out (fun _=>?_);clear hK K
  try simp only [pq]
  refine oneH 4 rfl fun K hK=>?_
  have m9:(f1).cell? ⟨a3,0,none⟩=some (.int .i64 0):=Blk.cell (a9.out) 0
  have n0:(f1).frozen? ⟨a3,0,none⟩=false:=Blk.frozen (a9.out) 0
  have n1:(f1).cell? ⟨a3,1,none⟩=some (.int .i64 0):=Blk.cell (a9.out) 1
  have n2:(f1).frozen? ⟨a3,1,none⟩=false:=Blk.frozen (a9.out) 1
  have n3:(f1).cell? ⟨a3,2,none⟩=some (.int .i64 0):=Blk.cell (a9.out) 2
  have n4:(f1).frozen? ⟨a3,2,none⟩=false:=Blk.frozen (a9.out) 2
  have n5:(f1).cell? ⟨a3,3,none⟩=some (.int .i64 0):=Blk.cell (a9.out) 3
  have n6:(f1).frozen? ⟨a3,3,none⟩=false:=Blk.frozen (a9.out) 3
  have hlt_:=Blk.lt (a9.out)
  go_simp
  have k0:=hid (Below.setCell (Below.setCell (Below.setCell (Below.setCell (a5.out) (p:=⟨a3,0,none⟩) (g2.out) (.int .i64 p1)) (p:=⟨a3,1,none⟩) (g2.out) (.int .i64 p2)) (p:=⟨a3,2,none⟩) (g2.out) (.int .i64 p3)) (p:=⟨a3,3,none⟩) (g2.out) (.int .i64 p4))
  have k1:=hid (OwnP.far (OwnP.far (OwnP.far (OwnP.far (a8.out) (a:=⟨a3,0,none⟩) (f0.out) (.int .i64 p1)) (a:=⟨a3,1,none⟩) (f0.out) (.int .i64 p2)) (a:=⟨a3,2,none⟩) (f0.out) (.int .i64 p3)) (a:=⟨a3,3,none⟩) (f0.out) (.int .i64 p4))
  have j1:=hid (Blk.far (Blk.far (Blk.far (Blk.far (a4.out) (p:=⟨a3,0,none⟩) (g3.out) (.int .i64 p1)) (p:=⟨a3,1,none⟩) (g3.out) (.int .i64 p2)) (p:=⟨a3,2,none⟩) (g3.out) (.int .i64 p3)) (p:=⟨a3,3,none⟩) (g3.out) (.int .i64 p4))
  have k2:=hid (Blk.far (Blk.far (Blk.far (Blk.far (a7.out) (p:=⟨a3,0,none⟩) (g4.out) (.int .i64 p1)) (p:=⟨a3,1,none⟩) (g4.out) (.int .i64 p2)) (p:=⟨a3,2,none⟩) (g4.out) (.int .i64 p3)) (p:=⟨a3,3,none⟩) (g4.out) (.int .i64 p4))
  have e4:=hid (Blk.far (Blk.far (Blk.far (Blk.far (e3.out) (p:=⟨a3,0,none⟩) (b1.out) (.int .i64 p1)) (p:=⟨a3,1,none⟩) (b1.out) (.int .i64 p2)) (p:=⟨a3,2,none⟩) (b1.out) (.int .i64 p3)) (p:=⟨a3,3,none⟩) (b1.out) (.int .i64 p4))
  have k3:=hid (Blk.set_ (Blk.set_ (Blk.set_ (Blk.set_ (a9.out) 0 (.int .i64 p1)) 1 (.int .i64 p2)) 2 (.int .i64 p3)) 3 (.int .i64 p4))
  obtain ⟨f2,i5⟩:∃ w',w'=(((((f1).setCell ⟨a3,0,none⟩ (.int .i64 p1)).setCell ⟨a3,1,none⟩ (.int .i64 p2)).setCell ⟨a3,2,none⟩ (.int .i64 p3)).setCell ⟨a3,3,none⟩ (.int .i64 p4)):=⟨_,rfl⟩
  rw [← i5] at k0 k1 j1 k2 e4 k3
  rw [← i5]
  clear i5 m9 n0 n1 n2 n3 n4 n5 n6 hlt_
  refine hK.out _ _ j1.out (fun _=>?_);clear hK K
  try simp only [pq]
  refine oneH 5 rfl fun K hK=>?_
  have n7:(f2).cell? ⟨a2,0,none⟩=some (.int .i64 0):=Blk.cell (e4.out) 0
  have n8:(f2).frozen? ⟨a2,0,none⟩=false:=Blk.frozen (e4.out) 0
  have n9:(f2).cell? ⟨a2,1,none⟩=some (.int .i64 0):=Blk.cell (e4.out) 1
  have o0:(f2).frozen? ⟨a2,1,none⟩=false:=Blk.frozen (e4.out) 1
  have o1:(f2).cell? ⟨a2,2,none⟩=some (.int .i64 0):=Blk.cell (e4.out) 2
  have o2:(f2).frozen? ⟨a2,2,none⟩=false:=Blk.frozen (e4.out) 2
  have o3:(f2).cell? ⟨a2,3,none⟩=some (.int .i64 0):=Blk.cell (e4.out) 3
  have o4:(f2).frozen? ⟨a2,3,none⟩=false:=Blk.frozen (e4.out) 3
  have hlt_:=Blk.lt (e4.out)
  go_simp
  have k4:=hid (Below.setCell (Below.setCell (Below.setCell (Below.setCell (k0.out) (p:=⟨a2,0,none⟩) (f9.out) (.int .i64 p1)) (p:=⟨a2,1,none⟩) (f9.out) (.int .i64 p2)) (p:=⟨a2,2,none⟩) (f9.out) (.int .i64 p3)) (p:=⟨a2,3,none⟩) (f9.out) (.int .i64 p4))
  have k5:=hid (OwnP.far (OwnP.far (OwnP.far (OwnP.far (k1.out) (a:=⟨a2,0,none⟩) (e9.out) (.int .i64 p1)) (a:=⟨a2,1,none⟩) (e9.out) (.int .i64 p2)) (a:=⟨a2,2,none⟩) (e9.out) (.int .i64 p3)) (a:=⟨a2,3,none⟩) (e9.out) (.int .i64 p4))
  have i6:=hid (Blk.far (Blk.far (Blk.far (Blk.far (j1.out) (p:=⟨a2,0,none⟩) (g0.out) (.int .i64 p1)) (p:=⟨a2,1,none⟩) (g0.out) (.int .i64 p2)) (p:=⟨a2,2,none⟩) (g0.out) (.int .i64 p3)) (p:=⟨a2,3,none⟩) (g0.out) (.int .i64 p4))
  have g8:=hid (Blk.far (Blk.far (Blk.far (Blk.far (k2.out) (p:=⟨a2,0,none⟩) (g1.out) (.int .i64 p1)) (p:=⟨a2,1,none⟩) (g1.out) (.int .i64 p2)) (p:=⟨a2,2,none⟩) (g1.out) (.int .i64 p3)) (p:=⟨a2,3,none⟩) (g1.out) (.int .i64 p4))
  have g9:=hid (Blk.set_ (Blk.set_ (Blk.set_ (Blk.set_ (e4.out) 0 (.int .i64 p1)) 1 (.int .i64 p2)) 2 (.int .i64 p3)) 3 (.int .i64 p4))
  have h0:=hid (Blk.far (Blk.far (Blk.far (Blk.far (k3.out) (p:=⟨a2,0,none⟩) ((Ne.symm b1.out)) (.int .i64 p1)) (p:=⟨a2,1,none⟩) ((Ne.symm b1.out)) (.int .i64 p2)) (p:=⟨a2,2,none⟩) ((Ne.symm b1.out)) (.int .i64 p3)) (p:=⟨a2,3,none⟩) ((Ne.symm b1.out)) (.int .i64 p4))
  obtain ⟨c5,i7⟩:∃ w',w'=(((((f2).setCell ⟨a2,0,none⟩ (.int .i64 p1)).setCell ⟨a2,1,none⟩ (.int .i64 p2)).setCell ⟨a2,2,none⟩ (.int .i64 p3)).setCell ⟨a2,3,none⟩ (.int .i64 p4)):=⟨_,rfl⟩
  rw [← i7] at k4 k5 i6 g8 g9 h0
  rw [← i7]
  clear i7 n7 n8 n9 o0 o1 o2 o3 o4 hlt_
  refine hK.out _ _ i6.out (fun _=>?_);clear hK K
  try simp only [pq]
  refine wpAnyH_done (by kernel_rfl) ?_ _
  have lt5:=Blk.lt h0.out;have lt6:=Blk.lt g9.out;have ltz:=Blk.lt g8.out;have ltp:=Blk.lt i6.out
  have hne1:=b1.out;have hne2:=Ne.symm b1.out
  have hl5:w.heap.size≤a3:=g2.out;have hl6:w.heap.size≤a2:=f9.out
  have hnp5:w.heap.size≠a3:=g3.out;have hnp6:w.heap.size≠a2:=g0.out
  have hnz5:w.heap.size+1≠a3:=g4.out;have hnz6:w.heap.size+1≠a2:=g1.out
  have OW:=hid (OwnP.far (OwnP.far (OwnP.far (OwnP.far (k5.out) (a:=⟨a3,0,none⟩) f0.out (.int .i64 (p1-1))) (a:=⟨a3,3,none⟩) f0.out (.int .i64 (p4+1))) (a:=⟨a2,1,none⟩) e9.out (.int .i64 (p2+1))) (a:=⟨a2,2,none⟩) e9.out (.int .i64 (p3-1)))
  have HBL:=hid (k4.out)
  obtain ⟨c7,c8,c9,d0⟩:=at4 i6
  obtain ⟨d1,d2,d3,d4⟩:=at4 g8
  obtain ⟨d5,d6,d7,d8⟩:=at4 h0
  obtain ⟨d9,e0,e1,e2⟩:=at4 g9
  have b2:(c5).frozen? ⟨a3,0,none⟩=false:=Blk.frozen h0.out 0
  have b3:(c5).frozen? ⟨a3,1,none⟩=false:=Blk.frozen h0.out 1
  have b4:(c5).frozen? ⟨a3,2,none⟩=false:=Blk.frozen h0.out 2
  have b5:(c5).frozen? ⟨a3,3,none⟩=false:=Blk.frozen h0.out 3
  have b6:(c5).frozen? ⟨a2,0,none⟩=false:=Blk.frozen g9.out 0
  have b7:(c5).frozen? ⟨a2,1,none⟩=false:=Blk.frozen g9.out 1
  have b8:(c5).frozen? ⟨a2,2,none⟩=false:=Blk.frozen g9.out 2
  have b9:(c5).frozen? ⟨a2,3,none⟩=false:=Blk.frozen g9.out 3
  have c0:(c5).frozen? ⟨w.heap.size+1,0,none⟩=false:=Blk.frozen g8.out 0
  have c1:(c5).frozen? ⟨w.heap.size+1,1,none⟩=false:=Blk.frozen g8.out 1
  have c2:(c5).frozen? ⟨w.heap.size+1,2,none⟩=false:=Blk.frozen g8.out 2
  have c3:(c5).frozen? ⟨w.heap.size+1,3,none⟩=false:=Blk.frozen g8.out 3
  go_wp2_with (at_lookup;first|refine wpList_lookup_P _ rfl _ _ rfl b S rfl OW.out (befP ⟨p1,p2,p3,p4⟩) rfl HW1.out q1 HQ1.out ?_|refine wpList_lookup_P _ rfl _ _ rfl b S rfl OW.out (behP ⟨p1,p2,p3,p4⟩) rfl HW2.out q2 HQ2.out ?_)
  · refine bodyPost_ret (v:=.agg #[.int .i64 (p1-1),.int .i64 p2,.int .i64 p3,.int .i64 (p4+1)]) (by simp [results,Tryz.results38,go_sem,c7,c8,c9,d0,d1,d2,d3,d4,d5,d6,d7,d8,d9,e0,e1,e2,b2,b3,b4,b5,b6,b7,b8,b9,c0,c1,c2,c3]) rfl ⟨by rw [HA.out (by assumption)];rfl,(by have hsz_:=Below.size HBL.out;repeat' (first|with_reducible exact HBL.out|with_reducible exact Below.refl _ _|with_reducible refine Below.alloc ?_ ?_ _|with_reducible refine Below.setCell ?_ ?_ _|with_reducible refine Below.drew ?_|with_reducible refine below_setRow ?_ ?_ _|omega | (simp;done) | (simp;omega)))⟩
  · refine bodyPost_ret (v:=.agg #[.int .i64 p1,.int .i64 (p2+1),.int .i64 (p3-1),.int .i64 p4]) (by simp [results,Tryz.results38,go_sem,c7,c8,c9,d0,d1,d2,d3,d4,d5,d6,d7,d8,d9,e0,e1,e2,b2,b3,b4,b5,b6,b7,b8,b9,c0,c1,c2,c3]) rfl ⟨by rw [HBB.out (by assumption) (by assumption)];rfl,(by have hsz_:=Below.size HBL.out;repeat' (first|with_reducible exact HBL.out|with_reducible exact Below.refl _ _|with_reducible refine Below.alloc ?_ ?_ _|with_reducible refine Below.setCell ?_ ?_ _|with_reducible refine Below.drew ?_|with_reducible refine below_setRow ?_ ?_ _|omega | (simp;done) | (simp;omega)))⟩
  · refine bodyPost_ret (v:=.agg #[.int .i64 p1,.int .i64 p2,.int .i64 p3,.int .i64 p4]) (by simp [results,Tryz.results38,go_sem,c7,c8,c9,d0,d1,d2,d3,d4,d5,d6,d7,d8,d9,e0,e1,e2,b2,b3,b4,b5,b6,b7,b8,b9,c0,c1,c2,c3]) rfl ⟨by rw [HC.out (by assumption) (by assumption)];rfl,(by have hsz_:=Below.size HBL.out;repeat' (first|with_reducible exact HBL.out|with_reducible exact Below.refl _ _|with_reducible refine Below.alloc ?_ ?_ _|with_reducible refine Below.setCell ?_ ?_ _|with_reducible refine Below.drew ?_|with_reducible refine below_setRow ?_ ?_ _|omega | (simp;done) | (simp;omega)))⟩
 exact AllReadyH.nil
end Go.Proofs.YtebkniakflhhkaaGreatDoor
