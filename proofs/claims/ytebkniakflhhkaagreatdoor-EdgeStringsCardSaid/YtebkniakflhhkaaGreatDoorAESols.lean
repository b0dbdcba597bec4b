import Derived.Test.YtebkniakflhhkaaGreatDoorASolve
import Derived.Test.YtebkniakflhhkaaGreatDoorAEPairOf
import Derived.Test.YtebkniakflhhkaaGreatDoorAEWays
import Derived.Test.YtebkniakflhhkaaGreatDoorAEFitM
set_option maxHeartbeats 4000000
set_option linter.unusedSimpArgs false
set_option linter.unusedVariables false
namespace Go.Proofs.YtebkniakflhhkaaGreatDoor
open Go.Lib (hid)
open Go.RowKit
theorem chk_range {P:Int} {l:List Bnd} (h:chk P l=0) (hP:P≤17):∀ x∈l,0≤x.f∧x.f≤16∧0≤x.t∧x.t≤16:=fun x hx=>by
 have:=edges60 h x hx
 omega
theorem rdB_len {w:World} {A:Option Addr} {n c:Nat} {l:List Bnd} (h:RdB w A n c l) (hl:l.length≤400):n≤400:=by rw [← h.len];exact hl
set_option maxRecDepth 100000 in
theorem ways_q (c:Int) (A B:Option Addr) (n k m j:Nat) (ws ts:List Bnd) (d:Int) (C D:Option Addr) (n2 k2 m2 j2:Nat) (ws2 ts2:List Bnd) (p1 p2 p3 p4:Int) (w:World) (h1:RdB w A n k ws) (h2:RdB w B m j ts) (hn:n≤maxLen) (hm:m≤maxLen) (h3:RdB w C n2 k2 ws2) (h4:RdB w D m2 j2 ts2) (hn2:n2≤maxLen) (hm2:m2≤maxLen) (hq:chkP ⟨c,ws,ts⟩ ⟨d,ws2,ts2⟩ ⟨p1,p2,p3,p4⟩=0) :
 Calls Tryz.prog 33 #[.agg #[.int .i64 c,.slice A n k,.slice B m j,.int .i64 d,.slice C n2 k2,.slice D m2 j2,.int .i64 p1,.int .i64 p2,.int .i64 p3,.int .i64 p4]] w fun e w'=>∃ Ar nr kr,e=.returned (.agg #[.int .i64 (wayP ⟨c,ws,ts⟩ ⟨d,ws2,ts2⟩ ⟨p1,p2,p3,p4⟩),.slice Ar nr kr])∧RdB w' Ar nr kr (wayL ⟨c,ws,ts⟩ ⟨d,ws2,ts2⟩ ⟨p1,p2,p3,p4⟩)∧Below w.heap.size w w':=by
 obtain ⟨oa,ob,sa,sb,hk⟩:=chkP_ok hq
 obtain ⟨l1,l2,l3,l4⟩:=chkP_lens hq
 obtain ⟨a1,a2,a3,a4⟩:=chkO_ok oa
 obtain ⟨b1,b2,b3,b4⟩:=chkO_ok ob
 exact ways_any c A B n k m j ws ts d C D n2 k2 m2 j2 ws2 ts2 p1 p2 p3 p4 w h1 h2 hn hm h3 h4 hn2 hm2 ⟨a1,a2⟩ ⟨b1,b2⟩ sa sb (rdB_len h1 l1) (rdB_len h3 l3) (chk_range b3 (by omega))
set_option maxRecDepth 100000 in
theorem turns_q (c:Int) (A B:Option Addr) (n k m j:Nat) (ws ts:List Bnd) (d:Int) (C D:Option Addr) (n2 k2 m2 j2:Nat) (ws2 ts2:List Bnd) (p1 p2 p3 p4:Int) (w:World) (h1:RdB w A n k ws) (h2:RdB w B m j ts) (hn:n≤maxLen) (hm:m≤maxLen) (h3:RdB w C n2 k2 ws2) (h4:RdB w D m2 j2 ts2) (hn2:n2≤maxLen) (hm2:m2≤maxLen) (hq:chkP ⟨c,ws,ts⟩ ⟨d,ws2,ts2⟩ ⟨p1,p2,p3,p4⟩=0) :
 Calls Tryz.prog 44 #[.agg #[.int .i64 c,.slice A n k,.slice B m j,.int .i64 d,.slice C n2 k2,.slice D m2 j2,.int .i64 p1,.int .i64 p2,.int .i64 p3,.int .i64 p4]] w fun e w'=>∃ Ar nr kr,e=.returned (.agg #[.int .i64 (turnP ⟨c,ws,ts⟩ ⟨d,ws2,ts2⟩ ⟨p1,p2,p3,p4⟩),.slice Ar nr kr])∧RdB w' Ar nr kr (turnL ⟨c,ws,ts⟩ ⟨d,ws2,ts2⟩ ⟨p1,p2,p3,p4⟩)∧Below w.heap.size w w':=by
 obtain ⟨oa,ob,sa,sb,hk⟩:=chkP_ok hq
 obtain ⟨l1,l2,l3,l4⟩:=chkP_lens hq
 obtain ⟨a1,a2,a3,a4⟩:=chkO_ok oa
 obtain ⟨b1,b2,b3,b4⟩:=chkO_ok ob
 exact turns_any c A B n k m j ws ts d C D n2 k2 m2 j2 ws2 ts2 p1 p2 p3 p4 w h1 h2 hn hm h3 h4 hn2 hm2 ⟨a1,a2⟩ ⟨b1,b2⟩ sa sb (rdB_len h2 l2) (rdB_len h4 l4) (chk_range b4 (by omega))
theorem solveV_of {P:Int} {l:List Bnd} (hk:chk P l=0):(solveV P l).2=(slv P l,0):=by
 have hg:gcode P l []=0:=by unfold gcode;rw [if_pos hk];rfl
 unfold solveV slv
 rw [if_pos hg]
 cases settle l P.toNat zeros<;>rfl
set_option maxRecDepth 100000 in
theorem makers_any (c:Int) (A B:Option Addr) (n k m j:Nat) (d:Int) (C D:Option Addr) (n2 k2 m2 j2:Nat) (p1 p2 p3 p4:Int) (w:World) :
 Calls Tryz.prog 88 #[.agg #[.int .i64 c,.slice A n k,.slice B m j,.int .i64 d,.slice C n2 k2,.slice D m2 j2,.int .i64 p1,.int .i64 p2,.int .i64 p3,.int .i64 p4]] w fun e w'=>e=.returned (.agg #[.func (.func 33) #[.agg #[.int .i64 c,.slice A n k,.slice B m j,.int .i64 d,.slice C n2 k2,.slice D m2 j2,.int .i64 p1,.int .i64 p2,.int .i64 p3,.int .i64 p4]] #[],.func (.func 44) #[.agg #[.int .i64 c,.slice A n k,.slice B m j,.int .i64 d,.slice C n2 k2,.slice D m2 j2,.int .i64 p1,.int .i64 p2,.int .i64 p3,.int .i64 p4]] #[]])∧Below w.heap.size w w':=by
  go_enter Tryz.func88,Tryz.ntmps88
  obtain ⟨a1,a0⟩:=ent1 w #[.int .i64 c,.slice A n k,.slice B m j,.int .i64 d,.slice C n2 k2,.slice D m2 j2,.int .i64 p1,.int .i64 p2,.int .i64 p3,.int .i64 p4] 78
  obtain ⟨a5,a6,a7,a8,a9,b0,b1,a2,a3,a4⟩:=at10 a1
  have hmf:∀ (fn:Fn) (first cap:Array Value) (w:World),(Instr.makeFunc fn first cap).run Tryz.prog w=.ok (.func fn first cap) w:=fun _ _ _ _=>rfl
  have b2:=Blk.new (w.alloc (.cells #[.int .i64 c,.slice A n k,.slice B m j,.int .i64 d,.slice C n2 k2,.slice D m2 j2,.int .i64 p1,.int .i64 p2,.int .i64 p3,.int .i64 p4] 78)) 150 #[.nilFunc,.nilFunc]
  simp only [World.size_alloc] at b2
  have B2:=hid b2;clear b2
  go_wp2_with (refine wpList_store_row rfl 150 (.tmp 2) (.tmp 7) rfl (w.heap.size+1) #[.func (.func 33) #[.agg #[.int .i64 c,.slice A n k,.slice B m j,.int .i64 d,.slice C n2 k2,.slice D m2 j2,.int .i64 p1,.int .i64 p2,.int .i64 p3,.int .i64 p4]] #[],.func (.func 44) #[.agg #[.int .i64 c,.slice A n k,.slice B m j,.int .i64 d,.slice C n2 k2,.slice D m2 j2,.int .i64 p1,.int .i64 p2,.int .i64 p3,.int .i64 p4]] #[]] rfl rfl 150 #[.nilFunc,.nilFunc] B2.out (by kernel_rfl) rfl (by simp [Value.oneCell']) ?_;have B3:=hid (Blk.row B2.out #[.func (.func 33) #[.agg #[.int .i64 c,.slice A n k,.slice B m j,.int .i64 d,.slice C n2 k2,.slice D m2 j2,.int .i64 p1,.int .i64 p2,.int .i64 p3,.int .i64 p4]] #[],.func (.func 44) #[.agg #[.int .i64 c,.slice A n k,.slice B m j,.int .i64 d,.slice C n2 k2,.slice D m2 j2,.int .i64 p1,.int .i64 p2,.int .i64 p3,.int .i64 p4]] #[]]);have BE:=hid (below_setRow (Below.alloc a0.out (a0.out.size) (.cells #[.nilFunc,.nilFunc] 150)) (g:=w.heap.size+1) (by simp) #[.func (.func 33) #[.agg #[.int .i64 c,.slice A n k,.slice B m j,.int .i64 d,.slice C n2 k2,.slice D m2 j2,.int .i64 p1,.int .i64 p2,.int .i64 p3,.int .i64 p4]] #[],.func (.func 44) #[.agg #[.int .i64 c,.slice A n k,.slice B m j,.int .i64 d,.slice C n2 k2,.slice D m2 j2,.int .i64 p1,.int .i64 p2,.int .i64 p3,.int .i64 p4]] #[]]);generalize World.setRow _ _ _=wF at *)
  clear a5 a6 a7 a8 a9 b0 b1 a2 a3 a4
  have c0_:=Blk.cell B3.out 0;have c1_:=Blk.cell B3.out 1
  simp only [List.getElem?_toArray,List.getElem?_cons_zero,List.getElem?_cons_succ] at c0_ c1_
  refine bodyPost_ret (v:=.agg #[.func (.func 33) #[.agg #[.int .i64 c,.slice A n k,.slice B m j,.int .i64 d,.slice C n2 k2,.slice D m2 j2,.int .i64 p1,.int .i64 p2,.int .i64 p3,.int .i64 p4]] #[],.func (.func 44) #[.agg #[.int .i64 c,.slice A n k,.slice B m j,.int .i64 d,.slice C n2 k2,.slice D m2 j2,.int .i64 p1,.int .i64 p2,.int .i64 p3,.int .i64 p4]] #[]]) (by simp [results,Tryz.results88,go_sem,c0_,c1_]) rfl ⟨rfl,BE.out⟩
def RetM (b:Bool) (Z Y:List Int) (w:World) (e:Ending) (w':World):Prop :=
 ∃ A1 n1 c1 A2 n2 c2,e=.returned (.tuple #[.agg #[.slice A1 n1 c1,.slice A2 n2 c2],.bool b])∧(b=true→RdI w' A1 n1 c1 Z∧RdI w' A2 n2 c2 Y)∧Below w.heap.size w w'
theorem rdI_setc {w:World} {A:Option Addr} {n c:Nat} {l:List Int} (h:RdI w A n c l) (a:Addr) (u:Value) {t:TypeId} {cs:Array Value} (hb:Blk w a.block t cs) (hc:∀ v∈cs.toList,∀ x,v≠.int .i64 x):RdI (w.setCell a u) A n c l:=by
 refine ⟨h.len,h.cap,h.nil,?_⟩
 rcases h.cells with h0|⟨b,o,e,hlt,hj⟩
 · exact .inl h0
 · refine .inr ⟨b,o,e,by rw [show (w.setCell a u).heap.size=w.heap.size by simp];exact hlt,fun j v hv=>?_⟩
   have h1:=hj j v hv
   by_cases hbb:b=a.block
   · exfalso
     subst hbb
     rw [hb.cell] at h1
     obtain ⟨x,_,rfl⟩:=List.mem_map.1 (List.mem_of_getElem? hv)
     exact hc _ (List.mem_of_getElem? (by rw [Array.getElem?_toList];exact h1)) x rfl
   · rw [World.cell?_of_block (a:=⟨b,o+j,none⟩) (heap_setCell_other w a b u hbb)]
     exact h1
set_option maxRecDepth 100000 in
theorem solutions_any (c:Int) (A B:Option Addr) (n k m j:Nat) (ws ts:List Bnd) (d:Int) (C D:Option Addr) (n2 k2 m2 j2:Nat) (ws2 ts2:List Bnd) (p1 p2 p3 p4:Int) (w:World) (h1:RdB w A n k ws) (h2:RdB w B m j ts) (hn:n≤maxLen) (hm:m≤maxLen) (h3:RdB w C n2 k2 ws2) (h4:RdB w D m2 j2 ts2) (hn2:n2≤maxLen) (hm2:m2≤maxLen) (hq:asked ⟨c,ws,ts⟩ ⟨d,ws2,ts2⟩ ⟨p1,p2,p3,p4⟩=0) (Z Y:List Int) (hZ:(solveV (wayP ⟨c,ws,ts⟩ ⟨d,ws2,ts2⟩ ⟨p1,p2,p3,p4⟩) (wayL ⟨c,ws,ts⟩ ⟨d,ws2,ts2⟩ ⟨p1,p2,p3,p4⟩)).1=Z) (hY:(solveV (turnP ⟨c,ws,ts⟩ ⟨d,ws2,ts2⟩ ⟨p1,p2,p3,p4⟩) (turnL ⟨c,ws,ts⟩ ⟨d,ws2,ts2⟩ ⟨p1,p2,p3,p4⟩)).1=Y) :
 Calls Tryz.prog 58 #[.agg #[.int .i64 c,.slice A n k,.slice B m j,.int .i64 d,.slice C n2 k2,.slice D m2 j2,.int .i64 p1,.int .i64 p2,.int .i64 p3,.int .i64 p4]] w (RetM (meetsB ⟨c,ws,ts⟩ ⟨d,ws2,ts2⟩ ⟨p1,p2,p3,p4⟩) Z Y w):=by
 have RA0:=hid h1;have RB0:=hid h2;have RC0:=hid h3;have RD0:=hid h4;clear h1 h2 h3 h4
 obtain ⟨hq1,hq2,hq3⟩:=asked_ok hq
 have EWY:=hid (show solveV (wayP ⟨c,ws,ts⟩ ⟨d,ws2,ts2⟩ ⟨p1,p2,p3,p4⟩) (wayL ⟨c,ws,ts⟩ ⟨d,ws2,ts2⟩ ⟨p1,p2,p3,p4⟩)=(Z,slv (wayP ⟨c,ws,ts⟩ ⟨d,ws2,ts2⟩ ⟨p1,p2,p3,p4⟩) (wayL ⟨c,ws,ts⟩ ⟨d,ws2,ts2⟩ ⟨p1,p2,p3,p4⟩),0) from Prod.ext hZ (solveV_of (wayL_chk hq)))
 have ET:=hid (show solveV (turnP ⟨c,ws,ts⟩ ⟨d,ws2,ts2⟩ ⟨p1,p2,p3,p4⟩) (turnL ⟨c,ws,ts⟩ ⟨d,ws2,ts2⟩ ⟨p1,p2,p3,p4⟩)=(Y,slv (turnP ⟨c,ws,ts⟩ ⟨d,ws2,ts2⟩ ⟨p1,p2,p3,p4⟩) (turnL ⟨c,ws,ts⟩ ⟨d,ws2,ts2⟩ ⟨p1,p2,p3,p4⟩),0) from Prod.ext hY (solveV_of (turnL_chk hq)))
 have HQ:=hid hq1
 have HWL:=hid (show (wayL ⟨c,ws,ts⟩ ⟨d,ws2,ts2⟩ ⟨p1,p2,p3,p4⟩).length≤400 from (chk_ok (wayL_chk hq)).2.2.1)
 have HTL:=hid (show (turnL ⟨c,ws,ts⟩ ⟨d,ws2,ts2⟩ ⟨p1,p2,p3,p4⟩).length≤400 from (chk_ok (turnL_chk hq)).2.2.1)
 clear hq hq1 hq2 hq3 hZ hY
 unfold meetsB wayS turnS
 obtain ⟨PW,hPW⟩:∃ P,wayP ⟨c,ws,ts⟩ ⟨d,ws2,ts2⟩ ⟨p1,p2,p3,p4⟩=P:=⟨_,rfl⟩
 obtain ⟨PT_,hPT⟩:∃ P,turnP ⟨c,ws,ts⟩ ⟨d,ws2,ts2⟩ ⟨p1,p2,p3,p4⟩=P:=⟨_,rfl⟩
 obtain ⟨LW,hLW⟩:∃ P,wayL ⟨c,ws,ts⟩ ⟨d,ws2,ts2⟩ ⟨p1,p2,p3,p4⟩=P:=⟨_,rfl⟩
 obtain ⟨LT_,hLT⟩:∃ P,turnL ⟨c,ws,ts⟩ ⟨d,ws2,ts2⟩ ⟨p1,p2,p3,p4⟩=P:=⟨_,rfl⟩
 rw [hPW,hPT,hLW,hLT]
 rw [hPW,hLW] at EWY
 rw [hPT,hLT] at ET
 rw [hLW] at HWL
 rw [hLT] at HTL
 have HPW:=hid hPW;have HPT:=hid hPT;have HLW:=hid hLW;have HLT:=hid hLT;clear hPW hPT hLW hLT
 go_enter Tryz.func58,Tryz.ntmps58
 obtain ⟨e7,e8,f2⟩:=ent2 w #[.int .i64 c,.slice A n k,.slice B m j,.int .i64 d,.slice C n2 k2,.slice D m2 j2,.int .i64 p1,.int .i64 p2,.int .i64 p3,.int .i64 p4] 78 #[.slice none 0 0,.slice none 0 0] 114
 obtain ⟨i9,j0,j1,j3,j4,j5,g7,g8,g9,h0⟩:=at10 e7
 obtain ⟨h5,h6⟩:=at2 e8
 have hi0:∀ W,(Instr.index 150 (.agg #[.func (.func 33) #[.agg #[.int .i64 c,.slice A n k,.slice B m j,.int .i64 d,.slice C n2 k2,.slice D m2 j2,.int .i64 p1,.int .i64 p2,.int .i64 p3,.int .i64 p4]] #[],.func (.func 44) #[.agg #[.int .i64 c,.slice A n k,.slice B m j,.int .i64 d,.slice C n2 k2,.slice D m2 j2,.int .i64 p1,.int .i64 p2,.int .i64 p3,.int .i64 p4]] #[]]) (.int .i64 0)).run Tryz.prog W=.ok (.func (.func 33) #[.agg #[.int .i64 c,.slice A n k,.slice B m j,.int .i64 d,.slice C n2 k2,.slice D m2 j2,.int .i64 p1,.int .i64 p2,.int .i64 p3,.int .i64 p4]] #[]) W:=fun W=>by kernel_rfl
 have hi1:∀ W,(Instr.index 150 (.agg #[.func (.func 33) #[.agg #[.int .i64 c,.slice A n k,.slice B m j,.int .i64 d,.slice C n2 k2,.slice D m2 j2,.int .i64 p1,.int .i64 p2,.int .i64 p3,.int .i64 p4]] #[],.func (.func 44) #[.agg #[.int .i64 c,.slice A n k,.slice B m j,.int .i64 d,.slice C n2 k2,.slice D m2 j2,.int .i64 p1,.int .i64 p2,.int .i64 p3,.int .i64 p4]] #[]]) (.int .i64 1)).run Tryz.prog W=.ok (.func (.func 44) #[.agg #[.int .i64 c,.slice A n k,.slice B m j,.int .i64 d,.slice C n2 k2,.slice D m2 j2,.int .i64 p1,.int .i64 p2,.int .i64 p3,.int .i64 p4]] #[]) W:=fun W=>by kernel_rfl
 have hc:=makers_any c A B n k m j d C D n2 k2 m2 j2 p1 p2 p3 p4 (((w.alloc (.cells #[.int .i64 c,.slice A n k,.slice B m j,.int .i64 d,.slice C n2 k2,.slice D m2 j2,.int .i64 p1,.int .i64 p2,.int .i64 p3,.int .i64 p4] 78)).alloc (.cells #[.slice none 0 0,.slice none 0 0] 114)))
 have HC:=hid hc;clear hc
 go_wp2_with fail
 refine HC.out.mono ?_
 rintro e j8 ⟨rfl,hb⟩
 clear HC
 clear i9 j0 j1 j3 j4 j5 g7 g8 g9 h0 h5 h6
 have f7:=hid hb
 clear hb
 replace e7:=kH e7 f7
 obtain ⟨h7,h8,h9,i0,i1,i2,i3,i4,i5,i6⟩:=at10 e7
 replace e8:=kH e8 f7
 obtain ⟨i7,i8⟩:=at2 e8
 go_wp2
 clear h7 h8 h9 i0 i1 i2 i3 i4 i5 i6 i7 i8
 replace f2:=bH f2 f7
 go_loopw [8] (fun i wr=>((i=.int .i64 0∧Blk wr (w.heap.size+1) 114 #[.slice none 0 0,.slice none 0 0])∨(i=.int .i64 1∧slv PW LW=true∧∃ A1 n1 c1,Blk wr (w.heap.size+1) 114 #[.slice A1 n1 c1,.slice none 0 0]∧RdI wr A1 n1 c1 Z)∨(i=.int .i64 2∧slv PW LW=true∧slv PT_ LT_=true∧∃ A1 n1 c1 A2 n3 c2,Blk wr (w.heap.size+1) 114 #[.slice A1 n1 c1,.slice A2 n3 c2]∧RdI wr A1 n1 c1 Z∧RdI wr A2 n3 c2 Y))∧Blk wr (w.heap.size) 78 #[.int .i64 c,.slice A n k,.slice B m j,.int .i64 d,.slice C n2 k2,.slice D m2 j2,.int .i64 p1,.int .i64 p2,.int .i64 p3,.int .i64 p4]∧Below w.heap.size w wr) (fun i _=>2-(intOf i).toNat)
 case atStart=>exact ⟨.inl ⟨rfl,e8.out⟩,e7.out,f2.out⟩
 case round =>
  clear f2 e7 e8
  obtain ⟨hi,hbx,hbel⟩:=hrel
  have a2:=hid (hbx)
  have a1:=hid (hbel)
  clear hbx hbel
  rcases hi with ⟨rfl,hby⟩|⟨rfl,hs1,A1,n1,c1,hby,hz1⟩|⟨rfl,hs1,hs2,A1,n1,c1,A2,n3,c2,hby,hz1,hz2⟩
  · have a0:=hid (hby)
    clear hby
    obtain ⟨g5,f3,a9,b0,b1,b2,b3,b4,b5,b6⟩:=at10 a2
    obtain ⟨b7,b8⟩:=at2 a0
    have hc:=ways_q c A B n k m j ws ts d C D n2 k2 m2 j2 ws2 ts2 p1 p2 p3 p4 wr (RA0.out.below a1.out) (RB0.out.below a1.out) hn hm (RC0.out.below a1.out) (RD0.out.below a1.out) hn2 hm2 HQ.out
    rw [HPW.out,HLW.out] at hc
    have hc:=hc
    have HC:=hid hc;clear hc
    go_wp2_with fail
    refine HC.out.mono ?_
    rintro e j6 ⟨Ar,nr,kr,rfl,hrd,hb⟩
    clear HC
    clear g5 f3 a9 b0 b1 b2 b3 b4 b5 b6 b7 b8
    have e9:=hid hb
    clear hb
    have a6:=hid (hrd)
    clear hrd
    replace a2:=kH a2 e9
    obtain ⟨f8,b9,c0,c3,c4,c5,c6,c7,c8,d0⟩:=at10 a2
    replace a0:=kH a0 e9
    obtain ⟨d1,d2⟩:=at2 a0
    have hl_:nr≤maxLen:=by have h1:=(a6.out).len;have h2:=HWL.out;unfold maxLen;omega
    replace a1:=bH a1 e9
    cases hb:slv PW LW
    · have HB:=hid hb;clear hb
      have hv:solveV PW LW=(Z,false,0):=by rw [EWY.out,HB.out]
      have hc:=Solve_any PW Ar nr kr LW _ a6.out hl_
      rw [hv] at hc
      unfold RetI at hc
      dsimp only at hc
      clear hv
      have hc:=hc
      have HC:=hid hc;clear hc
      go_wp2_with fail
      refine HC.out.mono ?_
      rintro e d3 ⟨A9,n9,c9,rfl,ho9,hb⟩
      clear HC
      clear f8 b9 c0 c3 c4 c5 c6 c7 c8 d0 d1 d2
      have a5:=hid hb
      clear hb
      have hrd9:=(OwnI.rd ho9).1
      clear ho9
      have f0:=hid (hrd9)
      clear hrd9
      replace a2:=kH a2 a5
      obtain ⟨f9,d4,d5,d6,d7,d8,d9,e0,e1,e2⟩:=at10 a2
      replace a0:=kH a0 a5
      obtain ⟨e3,e4⟩:=at2 a0
      have f5:(d3).frozen? ⟨w.heap.size+1,0,none⟩=false:=Blk.frozen a0.out 0
      have a7:(d3).frozen? ⟨w.heap.size+1,1,none⟩=false:=Blk.frozen a0.out 1
      have hlb_:=Blk.lt a0.out
      replace a1:=bH a1 a5
      have bx_:=a2.out;have by_:=a0.out;have bel_:=a1.out;have z9_:=f0.out
      have HK:=hid (And.intro bx_ (And.intro by_ (And.intro bel_ z9_)));clear bx_ by_ bel_ z9_
      go_wp2
      obtain ⟨bx_,by_,bel_,z9_⟩:=HK.out
      refine bodyPost_ret (v:=.tuple #[.agg #[.slice none 0 0,.slice none 0 0],.bool false]) (by simp [results,Tryz.results58,go_sem,f9,d4,d5,d6,d7,d8,d9,e0,e1,e2,e3,e4,f5,a7]) rfl ?_
      exact ⟨none,0,0,none,0,0,by rw [HB.out];simp,fun h=>by rw [HB.out] at h;simp at h,(by have hsz_:=Below.size bel_;repeat' (first|with_reducible exact bel_|with_reducible exact Below.refl _ _|with_reducible refine Below.alloc ?_ ?_ _|with_reducible refine Below.setCell ?_ ?_ _|with_reducible refine Below.drew ?_|with_reducible refine below_setRow ?_ ?_ _|omega | (simp;done) | (simp;omega)))⟩
    · have HB:=hid hb;clear hb
      have hv:solveV PW LW=(Z,true,0):=by rw [EWY.out,HB.out]
      have hc:=Solve_any PW Ar nr kr LW _ a6.out hl_
      rw [hv] at hc
      unfold RetI at hc
      dsimp only at hc
      clear hv
      have hc:=hc
      have HC:=hid hc;clear hc
      go_wp2_with fail
      refine HC.out.mono ?_
      rintro e d3 ⟨A9,n9,c9,rfl,ho9,hb⟩
      clear HC
      clear f8 b9 c0 c3 c4 c5 c6 c7 c8 d0 d1 d2
      have a5:=hid hb
      clear hb
      have hrd9:=(OwnI.rd ho9).1
      clear ho9
      have f0:=hid (hrd9)
      clear hrd9
      replace a2:=kH a2 a5
      obtain ⟨f9,d4,d5,d6,d7,d8,d9,e0,e1,e2⟩:=at10 a2
      replace a0:=kH a0 a5
      obtain ⟨e3,e4⟩:=at2 a0
      have f5:(d3).frozen? ⟨w.heap.size+1,0,none⟩=false:=Blk.frozen a0.out 0
      have a7:(d3).frozen? ⟨w.heap.size+1,1,none⟩=false:=Blk.frozen a0.out 1
      have hlb_:=Blk.lt a0.out
      replace a1:=bH a1 a5
      have bx_:=a2.out;have by_:=a0.out;have bel_:=a1.out;have z9_:=f0.out
      have HK:=hid (And.intro bx_ (And.intro by_ (And.intro bel_ z9_)));clear bx_ by_ bel_ z9_
      go_wp2
      obtain ⟨bx_,by_,bel_,z9_⟩:=HK.out
      replace a6:=rH a6 a5
      go_roundw
      case rel=>exact ⟨.inr (.inl ⟨by go_num,HB.out,A9,n9,c9,Blk.set_ by_ 0 (.slice A9 n9 c9),rdI_setc z9_ ⟨w.heap.size+1,0,none⟩ (.slice A9 n9 c9) by_ (by simp)⟩),Blk.far bx_ (p:=⟨w.heap.size+1,0,none⟩) (by simp) (.slice A9 n9 c9),Below.setCell bel_ (p:=⟨w.heap.size+1,0,none⟩) (by simp) (.slice A9 n9 c9)⟩
      case measure=>simp [intOf]
  · have HS1:=hid hs1;clear hs1
    have a0:=hid (hby)
    clear hby
    have a3:=hid (hz1)
    clear hz1
    obtain ⟨f3,a9,b0,b1,b2,b3,b4,b5,b6,b7⟩:=at10 a2
    obtain ⟨b8,f4⟩:=at2 a0
    have hc:=turns_q c A B n k m j ws ts d C D n2 k2 m2 j2 ws2 ts2 p1 p2 p3 p4 wr (RA0.out.below a1.out) (RB0.out.below a1.out) hn hm (RC0.out.below a1.out) (RD0.out.below a1.out) hn2 hm2 HQ.out
    rw [HPT.out,HLT.out] at hc
    have hc:=hc
    have HC:=hid hc;clear hc
    go_wp2_with fail
    refine HC.out.mono ?_
    rintro e j7 ⟨Ar,nr,kr,rfl,hrd,hb⟩
    clear HC
    clear f3 a9 b0 b1 b2 b3 b4 b5 b6 b7 b8 f4
    have e6:=hid hb
    clear hb
    have a8:=hid (hrd)
    clear hrd
    replace a2:=kH a2 e6
    obtain ⟨b9,c0,c3,c4,c5,c6,c7,c8,d0,d1⟩:=at10 a2
    replace a0:=kH a0 e6
    obtain ⟨d2,g0⟩:=at2 a0
    have hl_:nr≤maxLen:=by have h1:=(a8.out).len;have h2:=HTL.out;unfold maxLen;omega
    replace a1:=bH a1 e6
    replace a3:=iH a3 e6
    cases hb:slv PT_ LT_
    · have HB:=hid hb;clear hb
      have hv:solveV PT_ LT_=(Y,false,0):=by rw [ET.out,HB.out]
      have hc:=Solve_any PT_ Ar nr kr LT_ _ a8.out hl_
      rw [hv] at hc
      unfold RetI at hc
      dsimp only at hc
      clear hv
      have hc:=hc
      have HC:=hid hc;clear hc
      go_wp2_with fail
      refine HC.out.mono ?_
      rintro e e5 ⟨A9,n9,c9,rfl,ho9,hb⟩
      clear HC
      clear b9 c0 c3 c4 c5 c6 c7 c8 d0 d1 d2 g0
      have a4:=hid hb
      clear hb
      have hrd9:=(OwnI.rd ho9).1
      clear ho9
      have f1:=hid (hrd9)
      clear hrd9
      replace a2:=kH a2 a4
      obtain ⟨d4,d5,d6,d7,d8,d9,e0,e1,e2,e3⟩:=at10 a2
      replace a0:=kH a0 a4
      obtain ⟨e4,g1⟩:=at2 a0
      have a7:(e5).frozen? ⟨w.heap.size+1,0,none⟩=false:=Blk.frozen a0.out 0
      have f6:(e5).frozen? ⟨w.heap.size+1,1,none⟩=false:=Blk.frozen a0.out 1
      have hlb_:=Blk.lt a0.out
      replace a1:=bH a1 a4
      have bx_:=a2.out;have by_:=a0.out;have bel_:=a1.out;have z9_:=f1.out
      replace a3:=iH a3 a4
      have z1_:=a3.out
      have HK:=hid (And.intro bx_ (And.intro by_ (And.intro bel_ (And.intro z9_ z1_))));clear bx_ by_ bel_ z9_ z1_
      go_wp2
      obtain ⟨bx_,by_,bel_,z9_,z1_⟩:=HK.out
      refine bodyPost_ret (v:=.tuple #[.agg #[.slice none 0 0,.slice none 0 0],.bool false]) (by simp [results,Tryz.results58,go_sem,d4,d5,d6,d7,d8,d9,e0,e1,e2,e3,e4,g1,a7,f6]) rfl ?_
      exact ⟨none,0,0,none,0,0,by rw [HB.out];simp,fun h=>by rw [HB.out] at h;simp at h,(by have hsz_:=Below.size bel_;repeat' (first|with_reducible exact bel_|with_reducible exact Below.refl _ _|with_reducible refine Below.alloc ?_ ?_ _|with_reducible refine Below.setCell ?_ ?_ _|with_reducible refine Below.drew ?_|with_reducible refine below_setRow ?_ ?_ _|omega | (simp;done) | (simp;omega)))⟩
    · have HB:=hid hb;clear hb
      have hv:solveV PT_ LT_=(Y,true,0):=by rw [ET.out,HB.out]
      have hc:=Solve_any PT_ Ar nr kr LT_ _ a8.out hl_
      rw [hv] at hc
      unfold RetI at hc
      dsimp only at hc
      clear hv
      have hc:=hc
      have HC:=hid hc;clear hc
      go_wp2_with fail
      refine HC.out.mono ?_
      rintro e e5 ⟨A9,n9,c9,rfl,ho9,hb⟩
      clear HC
      clear b9 c0 c3 c4 c5 c6 c7 c8 d0 d1 d2 g0
      have a4:=hid hb
      clear hb
      have hrd9:=(OwnI.rd ho9).1
      clear ho9
      have f1:=hid (hrd9)
      clear hrd9
      replace a2:=kH a2 a4
      obtain ⟨d4,d5,d6,d7,d8,d9,e0,e1,e2,e3⟩:=at10 a2
      replace a0:=kH a0 a4
      obtain ⟨e4,g1⟩:=at2 a0
      have a7:(e5).frozen? ⟨w.heap.size+1,0,none⟩=false:=Blk.frozen a0.out 0
      have f6:(e5).frozen? ⟨w.heap.size+1,1,none⟩=false:=Blk.frozen a0.out 1
      have hlb_:=Blk.lt a0.out
      replace a1:=bH a1 a4
      have bx_:=a2.out;have by_:=a0.out;have bel_:=a1.out;have z9_:=f1.out
      replace a3:=iH a3 a4
      have z1_:=a3.out
      have HK:=hid (And.intro bx_ (And.intro by_ (And.intro bel_ (And.intro z9_ z1_))));clear bx_ by_ bel_ z9_ z1_
      go_wp2
      obtain ⟨bx_,by_,bel_,z9_,z1_⟩:=HK.out
      replace a8:=rH a8 a4
      go_roundw
      case rel=>exact ⟨.inr (.inr ⟨by go_num,HS1.out,HB.out,A1,n1,c1,A9,n9,c9,Blk.set_ by_ 1 (.slice A9 n9 c9),rdI_setc z1_ ⟨w.heap.size+1,1,none⟩ (.slice A9 n9 c9) by_ (by simp),rdI_setc z9_ ⟨w.heap.size+1,1,none⟩ (.slice A9 n9 c9) by_ (by simp)⟩),Blk.far bx_ (p:=⟨w.heap.size+1,1,none⟩) (by simp) (.slice A9 n9 c9),Below.setCell bel_ (p:=⟨w.heap.size+1,1,none⟩) (by simp) (.slice A9 n9 c9)⟩
      case measure=>simp [intOf]
  · have HS1:=hid hs1;clear hs1;have HS2:=hid hs2;clear hs2
    have a0:=hid (hby)
    clear hby
    have a3:=hid (hz1)
    have g2:=hid (hz2)
    clear hz1 hz2
    obtain ⟨a9,b0,b1,b2,b3,b4,b5,b6,b7,b8⟩:=at10 a2
    obtain ⟨f4,g6⟩:=at2 a0
    have g3:(wr).frozen? ⟨w.heap.size+1,0,none⟩=false:=Blk.frozen a0.out 0
    have g4:(wr).frozen? ⟨w.heap.size+1,1,none⟩=false:=Blk.frozen a0.out 1
    have hlb_:=Blk.lt a0.out
    have HK:=hid (And.intro (a0.out) (And.intro (a1.out) (And.intro (a3.out) (g2.out))))
    go_wp2
    obtain ⟨by_,bel_,z1_,z2_⟩:=HK.out
    refine bodyPost_ret (v:=.tuple #[.agg #[.slice A1 n1 c1,.slice A2 n3 c2],.bool true]) (by simp [results,Tryz.results58,go_sem,a9,b0,b1,b2,b3,b4,b5,b6,b7,b8,f4,g6,g3,g4]) rfl ?_
    exact ⟨A1,n1,c1,A2,n3,c2,by rw [HS1.out,HS2.out];rfl,fun _=>⟨rdI_setc (rdI_setc z1_ ⟨w.heap.size+1,0,none⟩ (.slice A1 n1 c1) by_ (by simp)) ⟨w.heap.size+1,1,none⟩ (.slice A2 n3 c2) (Blk.set_ by_ 0 (.slice A1 n1 c1)) (by simp),rdI_setc (rdI_setc z2_ ⟨w.heap.size+1,0,none⟩ (.slice A1 n1 c1) by_ (by simp)) ⟨w.heap.size+1,1,none⟩ (.slice A2 n3 c2) (Blk.set_ by_ 0 (.slice A1 n1 c1)) (by simp)⟩,(by have hsz_:=Below.size bel_;repeat' (first|with_reducible exact bel_|with_reducible exact Below.refl _ _|with_reducible refine Below.alloc ?_ ?_ _|with_reducible refine Below.setCell ?_ ?_ _|with_reducible refine Below.drew ?_|with_reducible refine below_setRow ?_ ?_ _|omega | (simp;done) | (simp;omega)))⟩
end Go.Proofs.YtebkniakflhhkaaGreatDoor
