import Derived.Test.YtebkniakflhhkaaGreatDoorAPath
import Derived.Test.YtebkniakflhhkaaGreatDoorAESols
set_option maxHeartbeats 4000000
set_option linter.unusedSimpArgs false
set_option linter.unusedVariables false
namespace Go.Proofs.YtebkniakflhhkaaGreatDoor
open Go.Lib (hid)
open Go.RowKit
set_option maxRecDepth 100000 in
theorem meets_q (c:Int) (A B:Option Addr) (n k m j:Nat) (ws ts:List Bnd) (d:Int) (C D:Option Addr) (n2 k2 m2 j2:Nat) (ws2 ts2:List Bnd) (p1 p2 p3 p4:Int) (w:World) (h1:RdB w A n k ws) (h2:RdB w B m j ts) (hn:n≤maxLen) (hm:m≤maxLen) (h3:RdB w C n2 k2 ws2) (h4:RdB w D m2 j2 ts2) (hn2:n2≤maxLen) (hm2:m2≤maxLen) (hq:asked ⟨c,ws,ts⟩ ⟨d,ws2,ts2⟩ ⟨p1,p2,p3,p4⟩=0) :
 Calls Tryz.prog 31 #[.agg #[.int .i64 c,.slice A n k,.slice B m j,.int .i64 d,.slice C n2 k2,.slice D m2 j2,.int .i64 p1,.int .i64 p2,.int .i64 p3,.int .i64 p4]] w fun e w'=>e=.returned (.bool (meetsB ⟨c,ws,ts⟩ ⟨d,ws2,ts2⟩ ⟨p1,p2,p3,p4⟩))∧Below w.heap.size w w':=by
  go_enter Tryz.func31,Tryz.ntmps31
  obtain ⟨a2,a0⟩:=ent1 w #[.int .i64 c,.slice A n k,.slice B m j,.int .i64 d,.slice C n2 k2,.slice D m2 j2,.int .i64 p1,.int .i64 p2,.int .i64 p3,.int .i64 p4] 78
  have a3:=rI h1 a0
  have a4:=rI h2 a0
  have a5:=rI h3 a0
  have a6:=rI h4 a0
  clear h1 h2 h3 h4
  obtain ⟨b4,b5,b6,a7,a8,a9,b0,b1,b2,b3⟩:=at10 a2
  have hc:=solutions_any c A B n k m j ws ts d C D n2 k2 m2 j2 ws2 ts2 p1 p2 p3 p4 _ a3.out a4.out hn hm a5.out a6.out hn2 hm2 hq _ _ rfl rfl
  unfold RetM at hc
  have hc:=hc
  have HC:=hid hc;clear hc
  go_wp2_with fail
  refine HC.out.mono ?_
  rintro e b7 ⟨A1,n1,c1,A2,n3,c2,rfl,-,hb⟩
  clear HC
  clear b4 b5 b6 a7 a8 a9 b0 b1 b2 b3
  have a1:=hid hb
  clear hb
  go_wp2
  go_ret
  replace a0:=bH a0 a1
  exact ⟨rfl,(by have hsz_:=Below.size a0.out;repeat' (first|with_reducible exact a0.out|with_reducible exact Below.refl _ _|with_reducible refine Below.alloc ?_ ?_ _|with_reducible refine Below.setCell ?_ ?_ _|with_reducible refine Below.drew ?_|with_reducible refine below_setRow ?_ ?_ _|omega | (simp;done) | (simp;omega)))⟩
def jP (u:Bool) (a b:Otl) (p:Prg):Int:=if u then turnP a b p else wayP a b p
def jL (u:Bool) (a b:Otl) (p:Prg):List Bnd:=if u then turnL a b p else wayL a b p
theorem rdB_set2 {w:World} {A:Option Addr} {n c:Nat} {l:List Bnd} (h:RdB w A n c l) (a b:Addr) (u v:Value) {t:TypeId} {x:Int} {S:Option Addr} {sn sc:Nat} (hb:Blk w a.block t #[.int .i64 x,.slice S sn sc]) (hab:b.block=a.block):RdB ((w.setCell a u).setCell b v) A n c l:=by
 refine ⟨h.len,h.cap,h.nil,?_⟩
 rcases h.cells with h0|⟨k,o,e,hlt,hj⟩
 · exact .inl h0
 · refine .inr ⟨k,o,e,by rw [show ((w.setCell a u).setCell b v).heap.size=w.heap.size by simp];exact hlt,fun j q hq=>?_⟩
   have h1:=hj j q hq
   by_cases hbb:k=a.block
   · exfalso
     subst hbb
     cases l with
     | nil=>simp [bcells] at hq
     | cons y l =>
      have h2:=hj 1 (.int .i64 y.t) (by simp [bcells,Bnd.cells])
      rw [hb.cell] at h2
      cases o with
      | zero=>simp at h2
      | succ o=>simp at h2
   · rw [World.cell?_of_block (a:=⟨k,o+j,none⟩) ((heap_setCell_other (w.setCell a u) b k v (by rw [hab];exact hbb)).trans (heap_setCell_other w a k u hbb))]
     exact h1
set_option maxRecDepth 100000 in
theorem joint_q (u:Bool) (c:Int) (A B:Option Addr) (n k m j:Nat) (ws ts:List Bnd) (d:Int) (C D:Option Addr) (n2 k2 m2 j2:Nat) (ws2 ts2:List Bnd) (p1 p2 p3 p4:Int) (w:World) (h1:RdB w A n k ws) (h2:RdB w B m j ts) (hn:n≤maxLen) (hm:m≤maxLen) (h3:RdB w C n2 k2 ws2) (h4:RdB w D m2 j2 ts2) (hn2:n2≤maxLen) (hm2:m2≤maxLen) (hq:chkP ⟨c,ws,ts⟩ ⟨d,ws2,ts2⟩ ⟨p1,p2,p3,p4⟩=0) :
 Calls Tryz.prog 46 #[.agg #[.int .i64 c,.slice A n k,.slice B m j,.int .i64 d,.slice C n2 k2,.slice D m2 j2,.int .i64 p1,.int .i64 p2,.int .i64 p3,.int .i64 p4],.bool u] w fun e w'=>∃ Ar nr kr,e=.returned (.agg #[.int .i64 (jP u ⟨c,ws,ts⟩ ⟨d,ws2,ts2⟩ ⟨p1,p2,p3,p4⟩),.slice Ar nr kr])∧RdB w' Ar nr kr (jL u ⟨c,ws,ts⟩ ⟨d,ws2,ts2⟩ ⟨p1,p2,p3,p4⟩)∧Below w.heap.size w w':=by
 cases u
 · unfold jP jL
   simp only [Bool.false_eq_true,if_false]
   go_enter Tryz.func46,Tryz.ntmps46
   obtain ⟨a2,a1,a0⟩:=ent2 w #[.int .i64 c,.slice A n k,.slice B m j,.int .i64 d,.slice C n2 k2,.slice D m2 j2,.int .i64 p1,.int .i64 p2,.int .i64 p3,.int .i64 p4] 78 #[.int .i64 0,.slice none 0 0] 84
   have a8:=rI h1 a0
   have a9:=rI h2 a0
   have b0:=rI h3 a0
   have b1:=rI h4 a0
   clear h1 h2 h3 h4
   obtain ⟨d4,d5,b2,b3,b4,b5,b6,b7,b8,b9⟩:=at10 a2
   obtain ⟨c0,c1⟩:=at2 a1
   have hc:=ways_q c A B n k m j ws ts d C D n2 k2 m2 j2 ws2 ts2 p1 p2 p3 p4 _ a8.out a9.out hn hm b0.out b1.out hn2 hm2 hq
   have HC:=hid hc;clear hc
   go_wp2_with fail
   refine HC.out.mono ?_
   rintro e a4 ⟨Ar,nr,kr,rfl,hrd,hb⟩
   clear HC
   clear d4 d5 b2 b3 b4 b5 b6 b7 b8 b9 c0 c1
   have a3:=hid hb
   clear hb
   have a5:=hid (hrd)
   clear hrd
   replace a2:=kH a2 a3
   obtain ⟨c2,c3,c4,c5,c6,c7,c8,c9,d0,d1⟩:=at10 a2
   replace a1:=kH a1 a3
   obtain ⟨d2,d3⟩:=at2 a1
   have a6:(a4).frozen? ⟨w.heap.size+1,0,none⟩=false:=Blk.frozen a1.out 0
   have a7:(a4).frozen? ⟨w.heap.size+1,1,none⟩=false:=Blk.frozen a1.out 1
   replace a0:=bH a0 a3
   have hlb_:=Blk.lt a1.out;have bz_:=a1.out;have bel_:=a0.out;have rl_:=a5.out
   have HK:=hid (And.intro bz_ (And.intro bel_ rl_));clear bz_ bel_ rl_
   go_wp2
   obtain ⟨bz_,bel_,rl_⟩:=HK.out
   refine bodyPost_ret (v:=.agg #[.int .i64 (wayP ⟨c,ws,ts⟩ ⟨d,ws2,ts2⟩ ⟨p1,p2,p3,p4⟩),.slice Ar nr kr]) (by simp [results,Tryz.results46,go_sem,c2,c3,c4,c5,c6,c7,c8,c9,d0,d1,d2,d3,a6,a7]) rfl ?_
   exact ⟨Ar,nr,kr,rfl,rdB_set2 rl_ ⟨w.heap.size+1,0,none⟩ ⟨w.heap.size+1,1,none⟩ (.int .i64 (wayP ⟨c,ws,ts⟩ ⟨d,ws2,ts2⟩ ⟨p1,p2,p3,p4⟩)) (.slice Ar nr kr) bz_ rfl,(by have hsz_:=Below.size bel_;repeat' (first|with_reducible exact bel_|with_reducible exact Below.refl _ _|with_reducible refine Below.alloc ?_ ?_ _|with_reducible refine Below.setCell ?_ ?_ _|with_reducible refine Below.drew ?_|with_reducible refine below_setRow ?_ ?_ _|omega | (simp;done) | (simp;omega)))⟩
 · unfold jP jL
   simp only [if_true]
   go_enter Tryz.func46,Tryz.ntmps46
   obtain ⟨a2,a1,a0⟩:=ent2 w #[.int .i64 c,.slice A n k,.slice B m j,.int .i64 d,.slice C n2 k2,.slice D m2 j2,.int .i64 p1,.int .i64 p2,.int .i64 p3,.int .i64 p4] 78 #[.int .i64 0,.slice none 0 0] 84
   have a8:=rI h1 a0
   have a9:=rI h2 a0
   have b0:=rI h3 a0
   have b1:=rI h4 a0
   clear h1 h2 h3 h4
   obtain ⟨d4,d5,b2,b3,b4,b5,b6,b7,b8,b9⟩:=at10 a2
   obtain ⟨c0,c1⟩:=at2 a1
   have hc:=turns_q c A B n k m j ws ts d C D n2 k2 m2 j2 ws2 ts2 p1 p2 p3 p4 _ a8.out a9.out hn hm b0.out b1.out hn2 hm2 hq
   have HC:=hid hc;clear hc
   go_wp2_with fail
   refine HC.out.mono ?_
   rintro e a4 ⟨Ar,nr,kr,rfl,hrd,hb⟩
   clear HC
   clear d4 d5 b2 b3 b4 b5 b6 b7 b8 b9 c0 c1
   have a3:=hid hb
   clear hb
   have a5:=hid (hrd)
   clear hrd
   replace a2:=kH a2 a3
   obtain ⟨c2,c3,c4,c5,c6,c7,c8,c9,d0,d1⟩:=at10 a2
   replace a1:=kH a1 a3
   obtain ⟨d2,d3⟩:=at2 a1
   have a6:(a4).frozen? ⟨w.heap.size+1,0,none⟩=false:=Blk.frozen a1.out 0
   have a7:(a4).frozen? ⟨w.heap.size+1,1,none⟩=false:=Blk.frozen a1.out 1
   replace a0:=bH a0 a3
   have hlb_:=Blk.lt a1.out;have bz_:=a1.out;have bel_:=a0.out;have rl_:=a5.out
   have HK:=hid (And.intro bz_ (And.intro bel_ rl_));clear bz_ bel_ rl_
   go_wp2
   obtain ⟨bz_,bel_,rl_⟩:=HK.out
   refine bodyPost_ret (v:=.agg #[.int .i64 (turnP ⟨c,ws,ts⟩ ⟨d,ws2,ts2⟩ ⟨p1,p2,p3,p4⟩),.slice Ar nr kr]) (by simp [results,Tryz.results46,go_sem,c2,c3,c4,c5,c6,c7,c8,c9,d0,d1,d2,d3,a6,a7]) rfl ?_
   exact ⟨Ar,nr,kr,rfl,rdB_set2 rl_ ⟨w.heap.size+1,0,none⟩ ⟨w.heap.size+1,1,none⟩ (.int .i64 (turnP ⟨c,ws,ts⟩ ⟨d,ws2,ts2⟩ ⟨p1,p2,p3,p4⟩)) (.slice Ar nr kr) bz_ rfl,(by have hsz_:=Below.size bel_;repeat' (first|with_reducible exact bel_|with_reducible exact Below.refl _ _|with_reducible refine Below.alloc ?_ ?_ _|with_reducible refine Below.setCell ?_ ?_ _|with_reducible refine Below.drew ?_|with_reducible refine below_setRow ?_ ?_ _|omega | (simp;done) | (simp;omega)))⟩
def meetsV (a b:Otl) (p:Prg):Bool × Int:=if asked a b p=0 then (meetsB a b p,0) else (false,asked a b p)
set_option maxRecDepth 100000 in
theorem Meets_any (c:Int) (A B:Option Addr) (n k m j:Nat) (ws ts:List Bnd) (d:Int) (C D:Option Addr) (n2 k2 m2 j2:Nat) (ws2 ts2:List Bnd) (p1 p2 p3 p4:Int) (w:World) (h1:RdB w A n k ws) (h2:RdB w B m j ts) (hn:n≤maxLen) (hm:m≤maxLen) (h3:RdB w C n2 k2 ws2) (h4:RdB w D m2 j2 ts2) (hn2:n2≤maxLen) (hm2:m2≤maxLen):Calls Tryz.prog 11 #[.agg #[.int .i64 c,.slice A n k,.slice B m j],.agg #[.int .i64 d,.slice C n2 k2,.slice D m2 j2],.agg #[.int .i64 p1,.int .i64 p2,.int .i64 p3,.int .i64 p4]] w fun e w'=>e=.returned (.tuple #[.bool (meetsV ⟨c,ws,ts⟩ ⟨d,ws2,ts2⟩ ⟨p1,p2,p3,p4⟩).1,.int .i64 (meetsV ⟨c,ws,ts⟩ ⟨d,ws2,ts2⟩ ⟨p1,p2,p3,p4⟩).2])∧Below w.heap.size w w':=by
 unfold meetsV
 by_cases hq:asked ⟨c,ws,ts⟩ ⟨d,ws2,ts2⟩ ⟨p1,p2,p3,p4⟩=0
 · rw [if_pos hq]
   go_enter Tryz.func11,Tryz.ntmps11
   obtain ⟨a2,a3,a4,a0⟩:=ent3 w #[.int .i64 c,.slice A n k,.slice B m j] 35 #[.int .i64 d,.slice C n2 k2,.slice D m2 j2] 35 #[.int .i64 p1,.int .i64 p2,.int .i64 p3,.int .i64 p4] 25
   have a5:=rI h1 a0
   have a6:=rI h2 a0
   have a7:=rI h3 a0
   have a8:=rI h4 a0
   clear h1 h2 h3 h4
   obtain ⟨d0,b0,b1⟩:=at3 a2
   obtain ⟨b2,b3,b4⟩:=at3 a3
   obtain ⟨b5,b6,b7,b8⟩:=at4 a4
   have hc:=pairOf_yes c A B n k m j ws ts d C D n2 k2 m2 j2 ws2 ts2 p1 p2 p3 p4 _ a5.out a6.out hn hm a7.out a8.out hn2 hm2 hq
   have HC:=hid hc;clear hc
   go_wp2_with fail
   refine HC.out.mono ?_
   rintro e b9 ⟨rfl,hb⟩
   clear HC
   clear d0 b0 b1 b2 b3 b4 b5 b6 b7 b8
   have a1:=hid hb
   clear hb
   replace a2:=kH a2 a1
   obtain ⟨c0,c1,c2⟩:=at3 a2
   replace a3:=kH a3 a1
   obtain ⟨c3,c4,c5⟩:=at3 a3
   replace a4:=kH a4 a1
   obtain ⟨c6,c7,c8,c9⟩:=at4 a4
   clear c0 c1 c2 c3 c4 c5 c6 c7 c8 c9
   obtain ⟨o_,ho_⟩:∃ o,o=((.cells #[.int .i64 c,.slice A n k,.slice B m j,.int .i64 d,.slice C n2 k2,.slice D m2 j2,.int .i64 p1,.int .i64 p2,.int .i64 p3,.int .i64 p4] 78):Obj):=⟨_,rfl⟩
   replace a0:=bA (bH a0 a1) o_
   replace a5:=rA (rH a5 a1) o_
   replace a6:=rA (rH a6 a1) o_
   replace a7:=rA (rH a7 a1) o_
   replace a8:=rA (rH a8 a1) o_
   replace a2:=kA a2 o_
   replace a3:=kA a3 o_
   replace a4:=kA a4 o_
   subst ho_
   have a9:=hid (Blk.new b9 78 #[.int .i64 c,.slice A n k,.slice B m j,.int .i64 d,.slice C n2 k2,.slice D m2 j2,.int .i64 p1,.int .i64 p2,.int .i64 p3,.int .i64 p4])
   obtain ⟨d1,d2,d3⟩:=at3 a2
   obtain ⟨d4,d5,d6⟩:=at3 a3
   obtain ⟨d7,d8,d9,e0⟩:=at4 a4
   obtain ⟨e1,e2,e3,e4,e5,e6,e7,e8,e9,f0⟩:=at10 a9
   have hc:=meets_q c A B n k m j ws ts d C D n2 k2 m2 j2 ws2 ts2 p1 p2 p3 p4 _ a5.out a6.out hn hm a7.out a8.out hn2 hm2 hq
   have HC:=hid hc;clear hc
   go_wp2_with fail
   refine HC.out.mono ?_
   rintro e f2 ⟨rfl,hb⟩
   clear HC
   clear d1 d2 d3 d4 d5 d6 d7 d8 d9 e0 e1 e2 e3 e4 e5 e6 e7 e8 e9 f0
   have f1:=hid hb
   clear hb
   go_wp2
   go_ret2
   replace a0:=bH a0 f1
   exact ⟨rfl,a0.out⟩
 · rw [if_neg hq]
   obtain ⟨q,hq2⟩:∃ q,asked ⟨c,ws,ts⟩ ⟨d,ws2,ts2⟩ ⟨p1,p2,p3,p4⟩=q:=⟨_,rfl⟩
   rw [hq2] at hq
   rw [hq2]
   have hne:=hq
   have hqe:(q == 0)=false:=by simpa using hq
   clear hq
   have hq:=hq2;clear hq2
   go_enter Tryz.func11,Tryz.ntmps11
   obtain ⟨a2,a3,a4,a0⟩:=ent3 w #[.int .i64 c,.slice A n k,.slice B m j] 35 #[.int .i64 d,.slice C n2 k2,.slice D m2 j2] 35 #[.int .i64 p1,.int .i64 p2,.int .i64 p3,.int .i64 p4] 25
   have a5:=rI h1 a0
   have a6:=rI h2 a0
   have a7:=rI h3 a0
   have a8:=rI h4 a0
   clear h1 h2 h3 h4
   obtain ⟨d0,b0,b1⟩:=at3 a2
   obtain ⟨b2,b3,b4⟩:=at3 a3
   obtain ⟨b5,b6,b7,b8⟩:=at4 a4
   have hc:=pairOf_no c A B n k m j ws ts d C D n2 k2 m2 j2 ws2 ts2 p1 p2 p3 p4 _ a5.out a6.out hn hm a7.out a8.out hn2 hm2 q hq hne
   have HC:=hid hc;clear hc
   go_wp2_with fail
   refine HC.out.mono ?_
   rintro e b9 ⟨rfl,hb⟩
   clear HC
   clear d0 b0 b1 b2 b3 b4 b5 b6 b7 b8
   have a1:=hid hb
   clear hb
   replace a2:=kH a2 a1
   obtain ⟨c0,c1,c2⟩:=at3 a2
   replace a3:=kH a3 a1
   obtain ⟨c3,c4,c5⟩:=at3 a3
   replace a4:=kH a4 a1
   obtain ⟨c6,c7,c8,c9⟩:=at4 a4
   clear c0 c1 c2 c3 c4 c5 c6 c7 c8 c9
   obtain ⟨o_,ho_⟩:∃ o,o=((.cells #[.int .i64 0,.slice none 0 0,.slice none 0 0,.int .i64 0,.slice none 0 0,.slice none 0 0,.int .i64 0,.int .i64 0,.int .i64 0,.int .i64 0] 78):Obj):=⟨_,rfl⟩
   replace a0:=bA (bH a0 a1) o_
   replace a5:=rA (rH a5 a1) o_
   replace a6:=rA (rH a6 a1) o_
   replace a7:=rA (rH a7 a1) o_
   replace a8:=rA (rH a8 a1) o_
   replace a2:=kA a2 o_
   replace a3:=kA a3 o_
   replace a4:=kA a4 o_
   subst ho_
   have a9:=hid (Blk.new b9 78 #[.int .i64 0,.slice none 0 0,.slice none 0 0,.int .i64 0,.slice none 0 0,.slice none 0 0,.int .i64 0,.int .i64 0,.int .i64 0,.int .i64 0])
   obtain ⟨d1,d2,d3⟩:=at3 a2
   obtain ⟨d4,d5,d6⟩:=at3 a3
   obtain ⟨d7,d8,d9,e0⟩:=at4 a4
   obtain ⟨e1,e2,e3,e4,e5,e6,e7,e8,e9,f0⟩:=at10 a9
   go_wp2
   go_ret2
   exact ⟨rfl,a0.out⟩
def flawV (P:Int) (l:List Bnd) (Q:Int) (k:List Bnd):List Int × Bool × Bool :=
 if (circleV P l).2.1 then ((circleV P l).1,false,true) else if (circleV Q k).2.1 then ((circleV Q k).1,true,true) else ([],false,false)
def RetF (V:List Int × Bool × Bool) (w:World) (e:Ending) (w':World):Prop :=
 ∃ A n c,e=.returned (.tuple #[.agg #[.bool V.2.1,.slice A n c],.bool V.2.2])∧RdI w' A n c V.1∧n≤maxLen∧Below w.heap.size w w'
theorem circleV_form (P:Int) (l:List Bnd):∃ Z b q,circleV P l=(Z,b,q):=⟨_,_,_,rfl⟩
set_option maxRecDepth 100000 in
theorem flawIn_any (P Q:Int) (A B:Option Addr) (n k m j:Nat) (l1 l2:List Bnd) (w:World) (h1:RdB w A n k l1) (h2:RdB w B m j l2) (hn:n≤maxLen) (hm:m≤maxLen) :
 Calls Tryz.prog 43 #[.agg #[.int .i64 P,.slice A n k],.agg #[.int .i64 Q,.slice B m j]] w (RetF (flawV P l1 Q l2) w):=by
 obtain ⟨Z,b,q,hz⟩:=circleV_form P l1
 obtain ⟨Y,b2,q2,hy⟩:=circleV_form Q l2
 unfold flawV
 rw [hz,hy]
 have E1:=hid hz;have E2:=hid hy;clear hz hy
 dsimp only
 cases b
 · cases b2
   · simp only [Bool.false_eq_true,if_false]
     unfold RetF
     dsimp only
     go_enter Tryz.func43,Tryz.ntmps43
     obtain ⟨a3,a4,a0,a1⟩:=ent3 w #[.int .i64 P,.slice A n k] 84 #[.int .i64 Q,.slice B m j] 84 #[.bool false,.slice none 0 0] 53
     have a7:=rI h1 a1
     have a6:=rI h2 a1
     clear h1 h2
     obtain ⟨c3,c4⟩:=at2 a3
     obtain ⟨c5,a8⟩:=at2 a4
     obtain ⟨a9,b0⟩:=at2 a0
     have hc:=Circle_any P A n k l1 _ a7.out hn
     rw [E1.out] at hc
     unfold RetI at hc
     dsimp only at hc
     have hc:=hc
     have HC:=hid hc;clear hc
     go_wp2_with fail
     refine HC.out.mono ?_
     rintro e b9 ⟨A8,n8,c8,rfl,ho8,hb⟩
     clear HC
     clear c3 c4 c5 a8 a9 b0
     have a2:=hid hb
     clear hb
     have hrd8:=OwnI.rd ho8;clear ho8
     have hmx8:=Nat.le_trans hrd8.1.cap hrd8.2
     have hrd8:=hrd8.1
     have c0:=hid (hrd8)
     clear hrd8
     replace a3:=kH a3 a2
     obtain ⟨b1,b3⟩:=at2 a3
     replace a4:=kH a4 a2
     obtain ⟨b4,b5⟩:=at2 a4
     replace a0:=kH a0 a2
     obtain ⟨b6,b7⟩:=at2 a0
     replace a6:=rH a6 a2
     have hc:=Circle_any Q B m j l2 _ a6.out hm
     rw [E2.out] at hc
     unfold RetI at hc
     dsimp only at hc
     have hc:=hc
     have HC:=hid hc;clear hc
     go_wp2_with fail
     refine HC.out.mono ?_
     rintro e b8 ⟨A9,n9,c9,rfl,ho9,hb⟩
     clear HC
     clear b1 b3 b4 b5 b6 b7
     have a5:=hid hb
     clear hb
     have hrd9:=OwnI.rd ho9;clear ho9
     have hmx9:=Nat.le_trans hrd9.1.cap hrd9.2
     have hrd9:=hrd9.1
     have d4:=hid (hrd9)
     clear hrd9
     replace a3:=kH a3 a5
     obtain ⟨c6,c7⟩:=at2 a3
     replace a4:=kH a4 a5
     obtain ⟨d0,d1⟩:=at2 a4
     replace a0:=kH a0 a5
     obtain ⟨d2,d3⟩:=at2 a0
     have c1:(b8).frozen? ⟨w.heap.size+1+1,0,none⟩=false:=Blk.frozen a0.out 0
     have c2:(b8).frozen? ⟨w.heap.size+1+1,1,none⟩=false:=Blk.frozen a0.out 1
     have hlb_:=Blk.lt a0.out
     replace a1:=bH (bH a1 a2) a5
     have HK:=hid (And.intro a0.out (And.intro a1.out (trivial)))
     go_wp2
     obtain ⟨bz_,bel_,z_⟩:=HK.out
     refine bodyPost_ret (v:=.tuple #[.agg #[.bool false,.slice none 0 0],.bool false]) (by simp [results,Tryz.results43,go_sem,c6,c7,d0,d1,d2,d3,c1,c2]) rfl ?_
     exact ⟨none,0,0,rfl,RdI.nil_ _,by unfold maxLen;omega,(by have hsz_:=Below.size bel_;repeat' (first|with_reducible exact bel_|with_reducible exact Below.refl _ _|with_reducible refine Below.alloc ?_ ?_ _|with_reducible refine Below.setCell ?_ ?_ _|with_reducible refine Below.drew ?_|with_reducible refine below_setRow ?_ ?_ _|omega | (simp;done) | (simp;omega)))⟩
   · simp only [Bool.false_eq_true,if_false,if_true]
     unfold RetF
     dsimp only
     go_enter Tryz.func43,Tryz.ntmps43
     obtain ⟨a3,a4,a0,a1⟩:=ent3 w #[.int .i64 P,.slice A n k] 84 #[.int .i64 Q,.slice B m j] 84 #[.bool false,.slice none 0 0] 53
     have a7:=rI h1 a1
     have a6:=rI h2 a1
     clear h1 h2
     obtain ⟨c3,c4⟩:=at2 a3
     obtain ⟨c5,a8⟩:=at2 a4
     obtain ⟨a9,b0⟩:=at2 a0
     have hc:=Circle_any P A n k l1 _ a7.out hn
     rw [E1.out] at hc
     unfold RetI at hc
     dsimp only at hc
     have hc:=hc
     have HC:=hid hc;clear hc
     go_wp2_with fail
     refine HC.out.mono ?_
     rintro e b9 ⟨A8,n8,c8,rfl,ho8,hb⟩
     clear HC
     clear c3 c4 c5 a8 a9 b0
     have a2:=hid hb
     clear hb
     have hrd8:=OwnI.rd ho8;clear ho8
     have hmx8:=Nat.le_trans hrd8.1.cap hrd8.2
     have hrd8:=hrd8.1
     have c0:=hid (hrd8)
     clear hrd8
     replace a3:=kH a3 a2
     obtain ⟨b1,b3⟩:=at2 a3
     replace a4:=kH a4 a2
     obtain ⟨b4,b5⟩:=at2 a4
     replace a0:=kH a0 a2
     obtain ⟨b6,b7⟩:=at2 a0
     replace a6:=rH a6 a2
     have hc:=Circle_any Q B m j l2 _ a6.out hm
     rw [E2.out] at hc
     unfold RetI at hc
     dsimp only at hc
     have hc:=hc
     have HC:=hid hc;clear hc
     go_wp2_with fail
     refine HC.out.mono ?_
     rintro e b8 ⟨A9,n9,c9,rfl,ho9,hb⟩
     clear HC
     clear b1 b3 b4 b5 b6 b7
     have a5:=hid hb
     clear hb
     have hrd9:=OwnI.rd ho9;clear ho9
     have hmx9:=Nat.le_trans hrd9.1.cap hrd9.2
     have hrd9:=hrd9.1
     have d4:=hid (hrd9)
     clear hrd9
     replace a3:=kH a3 a5
     obtain ⟨c6,c7⟩:=at2 a3
     replace a4:=kH a4 a5
     obtain ⟨d0,d1⟩:=at2 a4
     replace a0:=kH a0 a5
     obtain ⟨d2,d3⟩:=at2 a0
     have c1:(b8).frozen? ⟨w.heap.size+1+1,0,none⟩=false:=Blk.frozen a0.out 0
     have c2:(b8).frozen? ⟨w.heap.size+1+1,1,none⟩=false:=Blk.frozen a0.out 1
     have hlb_:=Blk.lt a0.out
     replace a1:=bH (bH a1 a2) a5
     have HK:=hid (And.intro a0.out (And.intro a1.out (d4.out)))
     go_wp2
     obtain ⟨bz_,bel_,z_⟩:=HK.out
     refine bodyPost_ret (v:=.tuple #[.agg #[.bool true,.slice A9 n9 c9],.bool true]) (by simp [results,Tryz.results43,go_sem,c6,c7,d0,d1,d2,d3,c1,c2]) rfl ?_
     exact ⟨A9,n9,c9,rfl,rdI_setc (rdI_setc z_ ⟨w.heap.size+1+1,0,none⟩ (.bool true) bz_ (by simp)) ⟨w.heap.size+1+1,1,none⟩ (.slice A9 n9 c9) (Blk.set_ bz_ 0 (.bool true)) (by simp),hmx9,(by have hsz_:=Below.size bel_;repeat' (first|with_reducible exact bel_|with_reducible exact Below.refl _ _|with_reducible refine Below.alloc ?_ ?_ _|with_reducible refine Below.setCell ?_ ?_ _|with_reducible refine Below.drew ?_|with_reducible refine below_setRow ?_ ?_ _|omega | (simp;done) | (simp;omega)))⟩
 · simp only [if_true]
   unfold RetF
   dsimp only
   go_enter Tryz.func43,Tryz.ntmps43
   obtain ⟨a3,a4,a0,a1⟩:=ent3 w #[.int .i64 P,.slice A n k] 84 #[.int .i64 Q,.slice B m j] 84 #[.bool false,.slice none 0 0] 53
   have a7:=rI h1 a1
   have a6:=rI h2 a1
   clear h1 h2
   obtain ⟨c3,c4⟩:=at2 a3
   obtain ⟨c5,a8⟩:=at2 a4
   obtain ⟨a9,b0⟩:=at2 a0
   have hc:=Circle_any P A n k l1 _ a7.out hn
   rw [E1.out] at hc
   unfold RetI at hc
   dsimp only at hc
   have hc:=hc
   have HC:=hid hc;clear hc
   go_wp2_with fail
   refine HC.out.mono ?_
   rintro e b9 ⟨A8,n8,c8,rfl,ho8,hb⟩
   clear HC
   clear c3 c4 c5 a8 a9 b0
   have a2:=hid hb
   clear hb
   have hrd8:=OwnI.rd ho8;clear ho8
   have hmx8:=Nat.le_trans hrd8.1.cap hrd8.2
   have hrd8:=hrd8.1
   have c0:=hid (hrd8)
   clear hrd8
   replace a3:=kH a3 a2
   obtain ⟨b1,b3⟩:=at2 a3
   replace a4:=kH a4 a2
   obtain ⟨b4,b5⟩:=at2 a4
   replace a0:=kH a0 a2
   obtain ⟨b6,b7⟩:=at2 a0
   have d5:(b9).frozen? ⟨w.heap.size+1+1,0,none⟩=false:=Blk.frozen a0.out 0
   have d6:(b9).frozen? ⟨w.heap.size+1+1,1,none⟩=false:=Blk.frozen a0.out 1
   have hlb_:=Blk.lt a0.out
   replace a1:=bH a1 a2
   have HK:=hid (And.intro a0.out (And.intro a1.out (c0.out)))
   go_wp2
   obtain ⟨bz_,bel_,z_⟩:=HK.out
   refine bodyPost_ret (v:=.tuple #[.agg #[.bool false,.slice A8 n8 c8],.bool true]) (by simp [results,Tryz.results43,go_sem,b1,b3,b4,b5,b6,b7,d5,d6]) rfl ?_
   exact ⟨A8,n8,c8,rfl,rdI_setc (rdI_setc z_ ⟨w.heap.size+1+1,0,none⟩ (.bool false) bz_ (by simp)) ⟨w.heap.size+1+1,1,none⟩ (.slice A8 n8 c8) (Blk.set_ bz_ 0 (.bool false)) (by simp),hmx8,(by have hsz_:=Below.size bel_;repeat' (first|with_reducible exact bel_|with_reducible exact Below.refl _ _|with_reducible refine Below.alloc ?_ ?_ _|with_reducible refine Below.setCell ?_ ?_ _|with_reducible refine Below.drew ?_|with_reducible refine below_setRow ?_ ?_ _|omega | (simp;done) | (simp;omega)))⟩
def clashV (a b:Otl) (p:Prg):(List Int × Bool × Bool) × Int:=if asked a b p=0 then (flawV (wayP a b p) (wayL a b p) (turnP a b p) (turnL a b p),0) else (([],false,false),asked a b p)
def RetFE (V:(List Int × Bool × Bool) × Int) (w:World) (e:Ending) (w':World):Prop :=
 ∃ A n c,e=.returned (.tuple #[.agg #[.bool V.1.2.1,.slice A n c],.bool V.1.2.2,.int .i64 V.2])∧RdI w' A n c V.1.1∧n≤maxLen∧Below w.heap.size w w'
theorem flawIn_wide (P Q:Int) (A B:Option Addr) (n k m j:Nat) (l1 l2:List Bnd) (w:World) (h1:RdB w A n k l1) (h2:RdB w B m j l2) (hn:l1.length≤400) (hm:l2.length≤400) (V:List Int × Bool × Bool) (hV:flawV P l1 Q l2=V) :
 Calls Tryz.prog 43 #[.agg #[.int .i64 P,.slice A n k],.agg #[.int .i64 Q,.slice B m j]] w fun e w'=>∃ A n c,e=.returned (.tuple #[.agg #[.bool V.2.1,.slice A n c],.bool V.2.2])∧RdI w' A n c V.1∧n≤maxLen∧Below w.heap.size w w':=by
 subst hV
 exact flawIn_any P Q A B n k m j l1 l2 w h1 h2 (by have:=h1.len;unfold maxLen;omega) (by have:=h2.len;unfold maxLen;omega)
set_option maxRecDepth 100000 in
theorem Clash_any (c:Int) (A B:Option Addr) (n k m j:Nat) (ws ts:List Bnd) (d:Int) (C D:Option Addr) (n2 k2 m2 j2:Nat) (ws2 ts2:List Bnd) (p1 p2 p3 p4:Int) (w:World) (h1:RdB w A n k ws) (h2:RdB w B m j ts) (hn:n≤maxLen) (hm:m≤maxLen) (h3:RdB w C n2 k2 ws2) (h4:RdB w D m2 j2 ts2) (hn2:n2≤maxLen) (hm2:m2≤maxLen):Calls Tryz.prog 17 #[.agg #[.int .i64 c,.slice A n k,.slice B m j],.agg #[.int .i64 d,.slice C n2 k2,.slice D m2 j2],.agg #[.int .i64 p1,.int .i64 p2,.int .i64 p3,.int .i64 p4]] w (RetFE (clashV ⟨c,ws,ts⟩ ⟨d,ws2,ts2⟩ ⟨p1,p2,p3,p4⟩) w):=by
 unfold clashV
 by_cases hq:asked ⟨c,ws,ts⟩ ⟨d,ws2,ts2⟩ ⟨p1,p2,p3,p4⟩=0
 · rw [if_pos hq]
   obtain ⟨V,hV⟩:∃ V,flawV (wayP ⟨c,ws,ts⟩ ⟨d,ws2,ts2⟩ ⟨p1,p2,p3,p4⟩) (wayL ⟨c,ws,ts⟩ ⟨d,ws2,ts2⟩ ⟨p1,p2,p3,p4⟩) (turnP ⟨c,ws,ts⟩ ⟨d,ws2,ts2⟩ ⟨p1,p2,p3,p4⟩) (turnL ⟨c,ws,ts⟩ ⟨d,ws2,ts2⟩ ⟨p1,p2,p3,p4⟩)=V:=⟨_,rfl⟩
   rw [hV]
   have HV:=hid hV;clear hV
   obtain ⟨V1,V2,V3⟩:=V
   unfold RetFE
   dsimp only
   go_enter Tryz.func17,Tryz.ntmps17
   obtain ⟨a3,a4,a5,a2,a1⟩:=ent4 w #[.int .i64 c,.slice A n k,.slice B m j] 35 #[.int .i64 d,.slice C n2 k2,.slice D m2 j2] 35 #[.int .i64 p1,.int .i64 p2,.int .i64 p3,.int .i64 p4] 25 #[.bool false,.slice none 0 0] 53
   have a6:=rI h1 a1
   have a7:=rI h2 a1
   have a8:=rI h3 a1
   have a9:=rI h4 a1
   clear h1 h2 h3 h4
   obtain ⟨i4,i5,i6⟩:=at3 a3
   obtain ⟨i7,i8,i9⟩:=at3 a4
   obtain ⟨j0,j1,j3,j4⟩:=at4 a5
   obtain ⟨j5,j6⟩:=at2 a2
   have hc:=pairOf_yes c A B n k m j ws ts d C D n2 k2 m2 j2 ws2 ts2 p1 p2 p3 p4 _ a6.out a7.out hn hm a8.out a9.out hn2 hm2 hq
   have HC:=hid hc;clear hc
   go_wp2_with fail
   refine HC.out.mono ?_
   rintro e d3 ⟨rfl,hb⟩
   clear HC
   clear i4 i5 i6 i7 i8 i9 j0 j1 j3 j4 j5 j6
   have b3:=hid hb
   clear hb
   replace a3:=kH a3 b3
   obtain ⟨j7,j8,j9⟩:=at3 a3
   replace a4:=kH a4 b3
   obtain ⟨k0,k4,k6⟩:=at3 a4
   replace a5:=kH a5 b3
   obtain ⟨k7,k8,k9,l0⟩:=at4 a5
   replace a2:=kH a2 b3
   obtain ⟨l1,l2⟩:=at2 a2
   clear j7 j8 j9 k0 k4 k6 k7 k8 k9 l0 l1 l2
   obtain ⟨o_,ho_⟩:∃ o,o=((.cells #[.int .i64 c,.slice A n k,.slice B m j,.int .i64 d,.slice C n2 k2,.slice D m2 j2,.int .i64 p1,.int .i64 p2,.int .i64 p3,.int .i64 p4] 78):Obj):=⟨_,rfl⟩
   replace a1:=bA (bH a1 b3) o_
   replace a6:=rA (rH a6 b3) o_
   replace a7:=rA (rH a7 b3) o_
   replace a8:=rA (rH a8 b3) o_
   replace a9:=rA (rH a9 b3) o_
   replace a3:=kA a3 o_
   replace a4:=kA a4 o_
   replace a5:=kA a5 o_
   replace a2:=kA a2 o_
   subst ho_
   have a0:=hid (Blk.new d3 78 #[.int .i64 c,.slice A n k,.slice B m j,.int .i64 d,.slice C n2 k2,.slice D m2 j2,.int .i64 p1,.int .i64 p2,.int .i64 p3,.int .i64 p4])
   obtain ⟨l3,l4,l5⟩:=at3 a3
   obtain ⟨l6,l7,l8⟩:=at3 a4
   obtain ⟨l9,m0,m1,m3⟩:=at4 a5
   obtain ⟨m4,m5⟩:=at2 a2
   obtain ⟨m6,m7,m8,m9,n0,n1,n3,n4,n5,n6⟩:=at10 a0
   have HQ1:=hid (asked_ok hq).1
   have HL1:=hid (show (wayL ⟨c,ws,ts⟩ ⟨d,ws2,ts2⟩ ⟨p1,p2,p3,p4⟩).length≤400 from (chk_ok (wayL_chk hq)).2.2.1)
   have HL2:=hid (show (turnL ⟨c,ws,ts⟩ ⟨d,ws2,ts2⟩ ⟨p1,p2,p3,p4⟩).length≤400 from (chk_ok (turnL_chk hq)).2.2.1)
   clear hq
   go_wp2_with fail
   clear l3 l4 l5 l6 l7 l8 l9 m0 m1 m3 m4 m5 m6 m7 m8 m9 n0 n1 n3 n4 n5 n6
   obtain ⟨w1,hW⟩:∃ w',w'=(d3.alloc (.cells #[.int .i64 c,.slice A n k,.slice B m j,.int .i64 d,.slice C n2 k2,.slice D m2 j2,.int .i64 p1,.int .i64 p2,.int .i64 p3,.int .i64 p4] 78)):=⟨_,rfl⟩
   rw [← hW] at a1 a6 a7 a8 a9 a3 a4 a5 a2 a0
   rw [← hW]
   clear hW
   go_cut [11,12] from 24 to 31 (fun s11 s12 wx=>∃ (gF:Nat) (A9:Option Addr) (n9 c9:Nat),s11=.pointer (some ⟨gF,0,none⟩)∧s12=.bool V3∧Blk wx gF 53 #[.bool V2,.slice A9 n9 c9]∧Blk wx (w.heap.size+1+1+1) 53 #[.bool false,.slice none 0 0]∧RdI wx A9 n9 c9 V1∧n9≤maxLen∧Below w.heap.size w wx)
   case first =>
    replace a1:=bD a1
    replace a6:=rD a6
    replace a7:=rD a7
    replace a8:=rD a8
    replace a9:=rD a9
    replace a3:=kD a3
    replace a4:=kD a4
    replace a5:=kD a5
    replace a2:=kD a2
    replace a0:=kD a0
    refine wp_region_held_drew (S:=(fun W'=>Blk W' (d3.heap.size) 78 #[.int .i64 c,.slice A n k,.slice B m j,.int .i64 d,.slice C n2 k2,.slice D m2 j2,.int .i64 p1,.int .i64 p2,.int .i64 p3,.int .i64 p4])) (by kernel_rfl) a0.out (fun _=>?_)
    obtain ⟨n7,e2⟩:∃ w',w'=(w1.drew):=⟨_,rfl⟩
    rw [← e2] at a1 a6 a7 a8 a9 a3 a4 a5 a2 a0
    rw [← e2]
    clear e2
    refine' tkH 0 a0.out ?p5 ?_
    case p5=>(rintro W' hS0;have hc0:=Blk.nth hS0 0;have hc1:=Blk.nth hS0 1;have hc2:=Blk.nth hS0 2;have hc3:=Blk.nth hS0 3;have hc4:=Blk.nth hS0 4;have hc5:=Blk.nth hS0 5;have hc6:=Blk.nth hS0 6;have hc7:=Blk.nth hS0 7;have hc8:=Blk.nth hS0 8;have hc9:=Blk.nth hS0 9;clear hS0;go_simp;try with_reducible rfl)
    refine' tkH 2 a0.out ?p6 ?_
    case p6=>(rintro W' hS0;have hc0:=Blk.nth hS0 0;have hc1:=Blk.nth hS0 1;have hc2:=Blk.nth hS0 2;have hc3:=Blk.nth hS0 3;have hc4:=Blk.nth hS0 4;have hc5:=Blk.nth hS0 5;have hc6:=Blk.nth hS0 6;have hc7:=Blk.nth hS0 7;have hc8:=Blk.nth hS0 8;have hc9:=Blk.nth hS0 9;clear hS0;go_simp;try with_reducible rfl)
    try simp only [pq]
    refine wpAnyH_ready (rs:=[1,8]) (by kernel_rfl) (by simp) ?_
    refine rdH rfl (fun K hK=>?_) ?_
    · -- 1: call
     go_simp
     go_at_call 33
     refine (ways_q c A B n k m j ws ts d C D n2 k2 m2 j2 ws2 ts2 p1 p2 p3 p4 _ a6.out a7.out hn hm a8.out a9.out hn2 hm2 HQ1.out).mono ?_
     rintro e n8 ⟨A21,n21,i3,rfl,hr1,b1⟩
     dsimp only
     replace b1:=hid b1
     have b0:=hid (hr1)
     replace a0:=kH a0 b1
     refine hK.out _ _ a0.out (fun _=>?_);clear hK K
     try simp only [pq]
     refine wpAnyH_ready (rs:=[3,8]) (by kernel_rfl) (by simp) ?_
     refine rdH rfl (fun K hK=>?_) ?_
     · -- 3: call
      replace a6:=rH a6 b1
      replace a7:=rH a7 b1
      replace a8:=rH a8 b1
      replace a9:=rH a9 b1
      go_simp
      go_at_call 44
      refine (turns_q c A B n k m j ws ts d C D n2 k2 m2 j2 ws2 ts2 p1 p2 p3 p4 _ a6.out a7.out hn hm a8.out a9.out hn2 hm2 HQ1.out).mono ?_
      rintro e o0 ⟨A22,n22,e1,rfl,hr2,b2⟩
      dsimp only
      replace b2:=hid b2
      have c1:=hid (hr2)
      replace a0:=kH a0 b2
      refine hK.out _ _ a0.out (fun _=>?_);clear hK K
      try simp only [pq]
      refine wpAnyH_ready (rs:=[4,8]) (by kernel_rfl) (by simp) ?_
      refine rdH rfl (fun K hK=>?_) ?_
      · -- 4: call
       replace b0:=rH b0 b2
       go_simp
       go_at_call 43
       refine (flawIn_wide _ _ A21 A22 n21 i3 n22 e1 _ _ _ b0.out c1.out HL1.out HL2.out _ HV.out).mono ?_
       rintro e o1 ⟨A9,n9,c9,rfl,hz9,hm9,c5⟩
       dsimp only
       replace c5:=hid c5
       have d4:=hid (hz9)
       replace a0:=kH a0 c5
       refine hK.out _ _ a0.out (fun _=>?_);clear hK K
       try simp only [pq]
       refine' twH 5 a0.out ?_
       refine' twH 6 a0.out ?_
       refine' twH 7 a0.out ?_
       try simp only [pq]
       refine oneH 8 rfl fun K hK=>?_
       replace a1:=bH (bH (bH a1 b1) b2) c5
       replace a6:=rH (rH a6 b2) c5
       replace a7:=rH (rH a7 b2) c5
       replace a8:=rH (rH a8 b2) c5
       replace a9:=rH (rH a9 b2) c5
       replace a3:=kH (kH (kH a3 b1) b2) c5
       replace a4:=kH (kH (kH a4 b1) b2) c5
       replace a5:=kH (kH (kH a5 b1) b2) c5
       replace a2:=kH (kH (kH a2 b1) b2) c5
       replace b0:=rH b0 c5
       replace c1:=rH c1 c5
       go_simp
       have e3:=hid (a1.out.size)
       have e4:=hid (Nat.ne_of_lt (Blk.lt a3.out))
       have e5:=hid (Nat.ne_of_lt (Blk.lt a4.out))
       have e6:=hid (Nat.ne_of_lt (Blk.lt a5.out))
       have e7:=hid (Nat.ne_of_lt (Blk.lt a2.out))
       have e8:=hid (Nat.ne_of_lt (Blk.lt a0.out))
       obtain ⟨o_,ho_⟩:∃ o,o=(.cells #[.bool false,.slice none 0 0] 53:Obj):=⟨_,rfl⟩
       replace a1:=bA a1 o_
       replace a6:=rA a6 o_
       replace a7:=rA a7 o_
       replace a8:=rA a8 o_
       replace a9:=rA a9 o_
       replace a3:=kA a3 o_
       replace a4:=kA a4 o_
       replace a5:=kA a5 o_
       replace a2:=kA a2 o_
       replace a0:=kA a0 o_
       replace b0:=rA b0 o_
       replace c1:=rA c1 o_
       replace d4:=iA d4 o_
       subst ho_
       have d0:=hid (Blk.new (o1) 53 #[.bool false,.slice none 0 0])
       obtain ⟨b4,e9⟩:∃ g,g=(o1).heap.size:=⟨_,rfl⟩
       obtain ⟨d5,f0⟩:∃ w',w'=(o1).alloc (.cells #[.bool false,.slice none 0 0] 53):=⟨_,rfl⟩
       rw [← f0] at a1 a6 a7 a8 a9 a3 a4 a5 a2 a0 b0 c1 d4 d0
       rw [← e9] at e3 e4 e5 e6 e7 e8 d0
       rw [← e9,← f0]
       clear e9 f0
       refine hK.out _ _ a0.out (fun _=>?_);clear hK K
       try simp only [pq]
       refine oneH 9 rfl fun K hK=>?_
       have s2:(d5).cell? ⟨b4,0,none⟩=some (.bool false):=Blk.cell (d0.out) 0
       have s3:(d5).frozen? ⟨b4,0,none⟩=false:=Blk.frozen (d0.out) 0
       have s4:(d5).cell? ⟨b4,1,none⟩=some (.slice none 0 0):=Blk.cell (d0.out) 1
       have s5:(d5).frozen? ⟨b4,1,none⟩=false:=Blk.frozen (d0.out) 1
       have hlt_:=Blk.lt (d0.out)
       go_simp
       have p7:=hid (Below.setCell (Below.setCell (a1.out) (p:=⟨b4,0,none⟩) (e3.out) (.bool V2)) (p:=⟨b4,1,none⟩) (e3.out) (.slice A9 n9 c9))
       have s6:=hid (Blk.far (Blk.far (a3.out) (p:=⟨b4,0,none⟩) (e4.out) (.bool V2)) (p:=⟨b4,1,none⟩) (e4.out) (.slice A9 n9 c9))
       have s7:=hid (Blk.far (Blk.far (a4.out) (p:=⟨b4,0,none⟩) (e5.out) (.bool V2)) (p:=⟨b4,1,none⟩) (e5.out) (.slice A9 n9 c9))
       have s8:=hid (Blk.far (Blk.far (a5.out) (p:=⟨b4,0,none⟩) (e6.out) (.bool V2)) (p:=⟨b4,1,none⟩) (e6.out) (.slice A9 n9 c9))
       have p8:=hid (Blk.far (Blk.far (a2.out) (p:=⟨b4,0,none⟩) (e7.out) (.bool V2)) (p:=⟨b4,1,none⟩) (e7.out) (.slice A9 n9 c9))
       have o2:=hid (Blk.far (Blk.far (a0.out) (p:=⟨b4,0,none⟩) (e8.out) (.bool V2)) (p:=⟨b4,1,none⟩) (e8.out) (.slice A9 n9 c9))
       have p9:=hid (rdI_setc (rdI_setc (d4.out) ⟨b4,0,none⟩ (.bool V2) (d0.out) (by simp)) ⟨b4,1,none⟩ (.slice A9 n9 c9) (Blk.set_ (d0.out) 0 (.bool V2)) (by simp))
       have q0:=hid (Blk.set_ (Blk.set_ (d0.out) 0 (.bool V2)) 1 (.slice A9 n9 c9))
       obtain ⟨v0,f1⟩:∃ w',w'=(((d5).setCell ⟨b4,0,none⟩ (.bool V2)).setCell ⟨b4,1,none⟩ (.slice A9 n9 c9)):=⟨_,rfl⟩
       rw [← f1] at p7 s6 s7 s8 p8 o2 p9 q0
       rw [← f1]
       clear f1 s2 s3 s4 s5 hlt_
       refine hK.out _ _ o2.out (fun _=>?_);clear hK K
       try simp only [pq]
       refine' twH 10 o2.out ?_
       try simp only [pq]
       refine wpAnyH_done (by kernel_rfl) ?_ _
       go_wp2
       go_meet
       exact ⟨_,A9,n9,c9,rfl,rfl,q0.out,p8.out,p9.out,hm9,p7.out⟩
      refine rdH rfl (fun K hK=>?_) ?_
      · -- 8: alloc
       replace a1:=bH (bH a1 b1) b2
       replace a6:=rH a6 b2
       replace a7:=rH a7 b2
       replace a8:=rH a8 b2
       replace a9:=rH a9 b2
       replace a3:=kH (kH a3 b1) b2
       replace a4:=kH (kH a4 b1) b2
       replace a5:=kH (kH a5 b1) b2
       replace a2:=kH (kH a2 b1) b2
       replace b0:=rH b0 b2
       go_simp
       have f2:=hid (a1.out.size)
       have f3:=hid (Nat.ne_of_lt (Blk.lt a3.out))
       have f4:=hid (Nat.ne_of_lt (Blk.lt a4.out))
       have f5:=hid (Nat.ne_of_lt (Blk.lt a5.out))
       have f6:=hid (Nat.ne_of_lt (Blk.lt a2.out))
       have f7:=hid (Nat.ne_of_lt (Blk.lt a0.out))
       obtain ⟨o_,ho_⟩:∃ o,o=(.cells #[.bool false,.slice none 0 0] 53:Obj):=⟨_,rfl⟩
       replace a1:=bA a1 o_
       replace a6:=rA a6 o_
       replace a7:=rA a7 o_
       replace a8:=rA a8 o_
       replace a9:=rA a9 o_
       replace a3:=kA a3 o_
       replace a4:=kA a4 o_
       replace a5:=kA a5 o_
       replace a2:=kA a2 o_
       replace a0:=kA a0 o_
       replace b0:=rA b0 o_
       replace c1:=rA c1 o_
       subst ho_
       have c2:=hid (Blk.new (o0) 53 #[.bool false,.slice none 0 0])
       obtain ⟨b5,f8⟩:∃ g,g=(o0).heap.size:=⟨_,rfl⟩
       obtain ⟨v1,f9⟩:∃ w',w'=(o0).alloc (.cells #[.bool false,.slice none 0 0] 53):=⟨_,rfl⟩
       rw [← f9] at a1 a6 a7 a8 a9 a3 a4 a5 a2 a0 b0 c1 c2
       rw [← f8] at f2 f3 f4 f5 f6 f7 c2
       rw [← f8,← f9]
       clear f8 f9
       refine hK.out _ _ a0.out (fun _=>?_);clear hK K
       try simp only [pq]
       refine oneH 4 rfl fun K hK=>?_
       go_simp
       go_at_call 43
       refine (flawIn_wide _ _ A21 A22 n21 i3 n22 e1 _ _ _ b0.out c1.out HL1.out HL2.out _ HV.out).mono ?_
       rintro e d6 ⟨A9,n9,c9,rfl,hz9,hm9,b8⟩
       dsimp only
       replace b8:=hid b8
       have q1:=hid (hz9)
       replace a0:=kH a0 b8
       refine hK.out _ _ a0.out (fun _=>?_);clear hK K
       try simp only [pq]
       refine' twH 5 a0.out ?_
       refine' twH 6 a0.out ?_
       refine' twH 7 a0.out ?_
       try simp only [pq]
       refine oneH 9 rfl fun K hK=>?_
       replace c2:=kH c2 b8
       replace a1:=bH a1 b8
       replace a6:=rH a6 b8
       replace a7:=rH a7 b8
       replace a8:=rH a8 b8
       replace a9:=rH a9 b8
       replace a3:=kH a3 b8
       replace a4:=kH a4 b8
       replace a5:=kH a5 b8
       replace a2:=kH a2 b8
       replace b0:=rH b0 b8
       replace c1:=rH c1 b8
       have s9:(d6).cell? ⟨b5,0,none⟩=some (.bool false):=Blk.cell (c2.out) 0
       have t0:(d6).frozen? ⟨b5,0,none⟩=false:=Blk.frozen (c2.out) 0
       have t1:(d6).cell? ⟨b5,1,none⟩=some (.slice none 0 0):=Blk.cell (c2.out) 1
       have t2:(d6).frozen? ⟨b5,1,none⟩=false:=Blk.frozen (c2.out) 1
       have hlt_:=Blk.lt (c2.out)
       go_simp
       have q2:=hid (Below.setCell (Below.setCell (a1.out) (p:=⟨b5,0,none⟩) (f2.out) (.bool V2)) (p:=⟨b5,1,none⟩) (f2.out) (.slice A9 n9 c9))
       have t3:=hid (Blk.far (Blk.far (a3.out) (p:=⟨b5,0,none⟩) (f3.out) (.bool V2)) (p:=⟨b5,1,none⟩) (f3.out) (.slice A9 n9 c9))
       have t4:=hid (Blk.far (Blk.far (a4.out) (p:=⟨b5,0,none⟩) (f4.out) (.bool V2)) (p:=⟨b5,1,none⟩) (f4.out) (.slice A9 n9 c9))
       have t5:=hid (Blk.far (Blk.far (a5.out) (p:=⟨b5,0,none⟩) (f5.out) (.bool V2)) (p:=⟨b5,1,none⟩) (f5.out) (.slice A9 n9 c9))
       have q3:=hid (Blk.far (Blk.far (a2.out) (p:=⟨b5,0,none⟩) (f6.out) (.bool V2)) (p:=⟨b5,1,none⟩) (f6.out) (.slice A9 n9 c9))
       have o3:=hid (Blk.far (Blk.far (a0.out) (p:=⟨b5,0,none⟩) (f7.out) (.bool V2)) (p:=⟨b5,1,none⟩) (f7.out) (.slice A9 n9 c9))
       have q4:=hid (Blk.set_ (Blk.set_ (c2.out) 0 (.bool V2)) 1 (.slice A9 n9 c9))
       have q5:=hid (rdI_setc (rdI_setc (q1.out) ⟨b5,0,none⟩ (.bool V2) (c2.out) (by simp)) ⟨b5,1,none⟩ (.slice A9 n9 c9) (Blk.set_ (c2.out) 0 (.bool V2)) (by simp))
       obtain ⟨v2,g0⟩:∃ w',w'=(((d6).setCell ⟨b5,0,none⟩ (.bool V2)).setCell ⟨b5,1,none⟩ (.slice A9 n9 c9)):=⟨_,rfl⟩
       rw [← g0] at q2 t3 t4 t5 q3 o3 q4 q5
       rw [← g0]
       clear g0 s9 t0 t1 t2 hlt_
       refine hK.out _ _ o3.out (fun _=>?_);clear hK K
       try simp only [pq]
       refine' twH 10 o3.out ?_
       try simp only [pq]
       refine wpAnyH_done (by kernel_rfl) ?_ _
       go_wp2
       go_meet
       exact ⟨_,A9,n9,c9,rfl,rfl,q4.out,q3.out,q5.out,hm9,q2.out⟩
      exact AllReadyH.nil
     refine rdH rfl (fun K hK=>?_) ?_
     · -- 8: alloc
      replace a1:=bH a1 b1
      replace a6:=rH a6 b1
      replace a7:=rH a7 b1
      replace a8:=rH a8 b1
      replace a9:=rH a9 b1
      replace a3:=kH a3 b1
      replace a4:=kH a4 b1
      replace a5:=kH a5 b1
      replace a2:=kH a2 b1
      go_simp
      have g1:=hid (a1.out.size)
      have g2:=hid (Nat.ne_of_lt (Blk.lt a3.out))
      have g3:=hid (Nat.ne_of_lt (Blk.lt a4.out))
      have g4:=hid (Nat.ne_of_lt (Blk.lt a5.out))
      have g5:=hid (Nat.ne_of_lt (Blk.lt a2.out))
      have g6:=hid (Nat.ne_of_lt (Blk.lt a0.out))
      obtain ⟨o_,ho_⟩:∃ o,o=(.cells #[.bool false,.slice none 0 0] 53:Obj):=⟨_,rfl⟩
      replace a1:=bA a1 o_
      replace a6:=rA a6 o_
      replace a7:=rA a7 o_
      replace a8:=rA a8 o_
      replace a9:=rA a9 o_
      replace a3:=kA a3 o_
      replace a4:=kA a4 o_
      replace a5:=kA a5 o_
      replace a2:=kA a2 o_
      replace a0:=kA a0 o_
      replace b0:=rA b0 o_
      subst ho_
      have c3:=hid (Blk.new (n8) 53 #[.bool false,.slice none 0 0])
      obtain ⟨b6,g7⟩:∃ g,g=(n8).heap.size:=⟨_,rfl⟩
      obtain ⟨v3,g8⟩:∃ w',w'=(n8).alloc (.cells #[.bool false,.slice none 0 0] 53):=⟨_,rfl⟩
      rw [← g8] at a1 a6 a7 a8 a9 a3 a4 a5 a2 a0 b0 c3
      rw [← g7] at g1 g2 g3 g4 g5 g6 c3
      rw [← g7,← g8]
      clear g7 g8
      refine hK.out _ _ a0.out (fun _=>?_);clear hK K
      try simp only [pq]
      refine oneH 3 rfl fun K hK=>?_
      go_simp
      go_at_call 44
      refine (turns_q c A B n k m j ws ts d C D n2 k2 m2 j2 ws2 ts2 p1 p2 p3 p4 _ a6.out a7.out hn hm a8.out a9.out hn2 hm2 HQ1.out).mono ?_
      rintro e v4 ⟨A22,n22,e1,rfl,hr2,c6⟩
      dsimp only
      replace c6:=hid c6
      have d7:=hid (hr2)
      replace a0:=kH a0 c6
      refine hK.out _ _ a0.out (fun _=>?_);clear hK K
      try simp only [pq]
      refine oneH 4 rfl fun K hK=>?_
      replace b0:=rH b0 c6
      go_simp
      go_at_call 43
      refine (flawIn_wide _ _ A21 A22 n21 i3 n22 e1 _ _ _ b0.out d7.out HL1.out HL2.out _ HV.out).mono ?_
      rintro e d8 ⟨A9,n9,c9,rfl,hz9,hm9,b9⟩
      dsimp only
      replace b9:=hid b9
      have q6:=hid (hz9)
      replace a0:=kH a0 b9
      refine hK.out _ _ a0.out (fun _=>?_);clear hK K
      try simp only [pq]
      refine' twH 5 a0.out ?_
      refine' twH 6 a0.out ?_
      refine' twH 7 a0.out ?_
      try simp only [pq]
      refine oneH 9 rfl fun K hK=>?_
      replace c3:=kH (kH c3 c6) b9
      replace a1:=bH (bH a1 c6) b9
      replace a6:=rH (rH a6 c6) b9
      replace a7:=rH (rH a7 c6) b9
      replace a8:=rH (rH a8 c6) b9
      replace a9:=rH (rH a9 c6) b9
      replace a3:=kH (kH a3 c6) b9
      replace a4:=kH (kH a4 c6) b9
      replace a5:=kH (kH a5 c6) b9
      replace a2:=kH (kH a2 c6) b9
      replace b0:=rH b0 b9
      replace d7:=rH d7 b9
      have t6:(d8).cell? ⟨b6,0,none⟩=some (.bool false):=Blk.cell (c3.out) 0
      have t7:(d8).frozen? ⟨b6,0,none⟩=false:=Blk.frozen (c3.out) 0
      have t8:(d8).cell? ⟨b6,1,none⟩=some (.slice none 0 0):=Blk.cell (c3.out) 1
      have t9:(d8).frozen? ⟨b6,1,none⟩=false:=Blk.frozen (c3.out) 1
      have hlt_:=Blk.lt (c3.out)
      go_simp
      have q7:=hid (Below.setCell (Below.setCell (a1.out) (p:=⟨b6,0,none⟩) (g1.out) (.bool V2)) (p:=⟨b6,1,none⟩) (g1.out) (.slice A9 n9 c9))
      have u0:=hid (Blk.far (Blk.far (a3.out) (p:=⟨b6,0,none⟩) (g2.out) (.bool V2)) (p:=⟨b6,1,none⟩) (g2.out) (.slice A9 n9 c9))
      have u1:=hid (Blk.far (Blk.far (a4.out) (p:=⟨b6,0,none⟩) (g3.out) (.bool V2)) (p:=⟨b6,1,none⟩) (g3.out) (.slice A9 n9 c9))
      have u2:=hid (Blk.far (Blk.far (a5.out) (p:=⟨b6,0,none⟩) (g4.out) (.bool V2)) (p:=⟨b6,1,none⟩) (g4.out) (.slice A9 n9 c9))
      have q8:=hid (Blk.far (Blk.far (a2.out) (p:=⟨b6,0,none⟩) (g5.out) (.bool V2)) (p:=⟨b6,1,none⟩) (g5.out) (.slice A9 n9 c9))
      have o4:=hid (Blk.far (Blk.far (a0.out) (p:=⟨b6,0,none⟩) (g6.out) (.bool V2)) (p:=⟨b6,1,none⟩) (g6.out) (.slice A9 n9 c9))
      have q9:=hid (Blk.set_ (Blk.set_ (c3.out) 0 (.bool V2)) 1 (.slice A9 n9 c9))
      have r0:=hid (rdI_setc (rdI_setc (q6.out) ⟨b6,0,none⟩ (.bool V2) (c3.out) (by simp)) ⟨b6,1,none⟩ (.slice A9 n9 c9) (Blk.set_ (c3.out) 0 (.bool V2)) (by simp))
      obtain ⟨v5,g9⟩:∃ w',w'=(((d8).setCell ⟨b6,0,none⟩ (.bool V2)).setCell ⟨b6,1,none⟩ (.slice A9 n9 c9)):=⟨_,rfl⟩
      rw [← g9] at q7 u0 u1 u2 q8 o4 q9 r0
      rw [← g9]
      clear g9 t6 t7 t8 t9 hlt_
      refine hK.out _ _ o4.out (fun _=>?_);clear hK K
      try simp only [pq]
      refine' twH 10 o4.out ?_
      try simp only [pq]
      refine wpAnyH_done (by kernel_rfl) ?_ _
      go_wp2
      go_meet
      exact ⟨_,A9,n9,c9,rfl,rfl,q9.out,q8.out,r0.out,hm9,q7.out⟩
     exact AllReadyH.nil
    refine rdH rfl (fun K hK=>?_) ?_
    · -- 8: alloc
     go_simp
     have h0:=hid (a1.out.size)
     have h5:=hid (Nat.ne_of_lt (Blk.lt a3.out))
     have h6:=hid (Nat.ne_of_lt (Blk.lt a4.out))
     have h7:=hid (Nat.ne_of_lt (Blk.lt a5.out))
     have h8:=hid (Nat.ne_of_lt (Blk.lt a2.out))
     have h9:=hid (Nat.ne_of_lt (Blk.lt a0.out))
     obtain ⟨o_,ho_⟩:∃ o,o=(.cells #[.bool false,.slice none 0 0] 53:Obj):=⟨_,rfl⟩
     replace a1:=bA a1 o_
     replace a6:=rA a6 o_
     replace a7:=rA a7 o_
     replace a8:=rA a8 o_
     replace a9:=rA a9 o_
     replace a3:=kA a3 o_
     replace a4:=kA a4 o_
     replace a5:=kA a5 o_
     replace a2:=kA a2 o_
     replace a0:=kA a0 o_
     subst ho_
     have c4:=hid (Blk.new (n7) 53 #[.bool false,.slice none 0 0])
     obtain ⟨b7,i0⟩:∃ g,g=(n7).heap.size:=⟨_,rfl⟩
     obtain ⟨v6,i1⟩:∃ w',w'=(n7).alloc (.cells #[.bool false,.slice none 0 0] 53):=⟨_,rfl⟩
     rw [← i1] at a1 a6 a7 a8 a9 a3 a4 a5 a2 a0 c4
     rw [← i0] at h0 h5 h6 h7 h8 h9 c4
     rw [← i0,← i1]
     clear i0 i1
     refine hK.out _ _ a0.out (fun _=>?_);clear hK K
     try simp only [pq]
     refine oneH 1 rfl fun K hK=>?_
     go_simp
     go_at_call 33
     refine (ways_q c A B n k m j ws ts d C D n2 k2 m2 j2 ws2 ts2 p1 p2 p3 p4 _ a6.out a7.out hn hm a8.out a9.out hn2 hm2 HQ1.out).mono ?_
     rintro e v7 ⟨A21,n21,i3,rfl,hr1,c8⟩
     dsimp only
     replace c8:=hid c8
     have d2:=hid (hr1)
     replace a0:=kH a0 c8
     refine hK.out _ _ a0.out (fun _=>?_);clear hK K
     try simp only [pq]
     refine oneH 3 rfl fun K hK=>?_
     replace a6:=rH a6 c8
     replace a7:=rH a7 c8
     replace a8:=rH a8 c8
     replace a9:=rH a9 c8
     go_simp
     go_at_call 44
     refine (turns_q c A B n k m j ws ts d C D n2 k2 m2 j2 ws2 ts2 p1 p2 p3 p4 _ a6.out a7.out hn hm a8.out a9.out hn2 hm2 HQ1.out).mono ?_
     rintro e v8 ⟨A22,n22,e1,rfl,hr2,c7⟩
     dsimp only
     replace c7:=hid c7
     have d9:=hid (hr2)
     replace a0:=kH a0 c7
     refine hK.out _ _ a0.out (fun _=>?_);clear hK K
     try simp only [pq]
     refine oneH 4 rfl fun K hK=>?_
     replace d2:=rH d2 c7
     go_simp
     go_at_call 43
     refine (flawIn_wide _ _ A21 A22 n21 i3 n22 e1 _ _ _ d2.out d9.out HL1.out HL2.out _ HV.out).mono ?_
     rintro e e0 ⟨A9,n9,c9,rfl,hz9,hm9,c0⟩
     dsimp only
     replace c0:=hid c0
     have r1:=hid (hz9)
     replace a0:=kH a0 c0
     refine hK.out _ _ a0.out (fun _=>?_);clear hK K
     try simp only [pq]
     refine' twH 5 a0.out ?_
     refine' twH 6 a0.out ?_
     refine' twH 7 a0.out ?_
     try simp only [pq]
     refine oneH 9 rfl fun K hK=>?_
     replace c4:=kH (kH (kH c4 c8) c7) c0
     replace a1:=bH (bH (bH a1 c8) c7) c0
     replace a6:=rH (rH a6 c7) c0
     replace a7:=rH (rH a7 c7) c0
     replace a8:=rH (rH a8 c7) c0
     replace a9:=rH (rH a9 c7) c0
     replace a3:=kH (kH (kH a3 c8) c7) c0
     replace a4:=kH (kH (kH a4 c8) c7) c0
     replace a5:=kH (kH (kH a5 c8) c7) c0
     replace a2:=kH (kH (kH a2 c8) c7) c0
     replace d2:=rH d2 c0
     replace d9:=rH d9 c0
     have u3:(e0).cell? ⟨b7,0,none⟩=some (.bool false):=Blk.cell (c4.out) 0
     have u4:(e0).frozen? ⟨b7,0,none⟩=false:=Blk.frozen (c4.out) 0
     have u5:(e0).cell? ⟨b7,1,none⟩=some (.slice none 0 0):=Blk.cell (c4.out) 1
     have u6:(e0).frozen? ⟨b7,1,none⟩=false:=Blk.frozen (c4.out) 1
     have hlt_:=Blk.lt (c4.out)
     go_simp
     have r2:=hid (Below.setCell (Below.setCell (a1.out) (p:=⟨b7,0,none⟩) (h0.out) (.bool V2)) (p:=⟨b7,1,none⟩) (h0.out) (.slice A9 n9 c9))
     have u7:=hid (Blk.far (Blk.far (a3.out) (p:=⟨b7,0,none⟩) (h5.out) (.bool V2)) (p:=⟨b7,1,none⟩) (h5.out) (.slice A9 n9 c9))
     have u8:=hid (Blk.far (Blk.far (a4.out) (p:=⟨b7,0,none⟩) (h6.out) (.bool V2)) (p:=⟨b7,1,none⟩) (h6.out) (.slice A9 n9 c9))
     have u9:=hid (Blk.far (Blk.far (a5.out) (p:=⟨b7,0,none⟩) (h7.out) (.bool V2)) (p:=⟨b7,1,none⟩) (h7.out) (.slice A9 n9 c9))
     have r3:=hid (Blk.far (Blk.far (a2.out) (p:=⟨b7,0,none⟩) (h8.out) (.bool V2)) (p:=⟨b7,1,none⟩) (h8.out) (.slice A9 n9 c9))
     have o5:=hid (Blk.far (Blk.far (a0.out) (p:=⟨b7,0,none⟩) (h9.out) (.bool V2)) (p:=⟨b7,1,none⟩) (h9.out) (.slice A9 n9 c9))
     have r4:=hid (Blk.set_ (Blk.set_ (c4.out) 0 (.bool V2)) 1 (.slice A9 n9 c9))
     have r5:=hid (rdI_setc (rdI_setc (r1.out) ⟨b7,0,none⟩ (.bool V2) (c4.out) (by simp)) ⟨b7,1,none⟩ (.slice A9 n9 c9) (Blk.set_ (c4.out) 0 (.bool V2)) (by simp))
     obtain ⟨v9,i2⟩:∃ w',w'=(((e0).setCell ⟨b7,0,none⟩ (.bool V2)).setCell ⟨b7,1,none⟩ (.slice A9 n9 c9)):=⟨_,rfl⟩
     rw [← i2] at r2 u7 u8 u9 r3 o5 r4 r5
     rw [← i2]
     clear i2 u3 u4 u5 u6 hlt_
     refine hK.out _ _ o5.out (fun _=>?_);clear hK K
     try simp only [pq]
     refine' twH 10 o5.out ?_
     try simp only [pq]
     refine wpAnyH_done (by kernel_rfl) ?_ _
     go_wp2
     go_meet
     exact ⟨_,A9,n9,c9,rfl,rfl,r4.out,r3.out,r5.out,hm9,r2.out⟩
    exact AllReadyH.nil
   case rest =>
    obtain ⟨gF,A9,n9,c9,rfl,rfl,k1,k2,k3,hm9,k5⟩:=hcut
    clear a1 a6 a7 a8 a9 a3 a4 a5 a2 a0
    have o7:=hid (k1)
    have d1:=hid (k2)
    have o8:=hid (k3)
    have o6:=hid (k5)
    clear k1 k2 k3 k5
    obtain ⟨r6,r7⟩:=at2 o7
    obtain ⟨r8,r9⟩:=at2 d1
    have o9:(wc).frozen? ⟨w.heap.size+1+1+1,0,none⟩=false:=Blk.frozen d1.out 0
    have p0:(wc).frozen? ⟨w.heap.size+1+1+1,1,none⟩=false:=Blk.frozen d1.out 1
    have hlb_:=Blk.lt d1.out
    have HK:=hid (And.intro (d1.out) (And.intro o6.out o8.out))
    go_wp2
    obtain ⟨bz_,bel_,z_⟩:=HK.out
    refine bodyPost_ret (v:=.tuple #[.agg #[.bool V2,.slice A9 n9 c9],.bool V3,.int .i64 0]) (by simp [results,Tryz.results17,go_sem,r6,r7,r8,r9,o9,p0]) rfl ?_
    exact ⟨A9,n9,c9,rfl,rdI_setc (rdI_setc z_ ⟨w.heap.size+1+1+1,0,none⟩ (.bool V2) bz_ (by simp)) ⟨w.heap.size+1+1+1,1,none⟩ (.slice A9 n9 c9) (Blk.set_ bz_ 0 (.bool V2)) (by simp),hm9,(by have hsz_:=Below.size bel_;repeat' (first|with_reducible exact bel_|with_reducible exact Below.refl _ _|with_reducible refine Below.alloc ?_ ?_ _|with_reducible refine Below.setCell ?_ ?_ _|with_reducible refine Below.drew ?_|with_reducible refine below_setRow ?_ ?_ _|omega | (simp;done) | (simp;omega)))⟩
 · rw [if_neg hq]
   obtain ⟨q,hq2⟩:∃ q,asked ⟨c,ws,ts⟩ ⟨d,ws2,ts2⟩ ⟨p1,p2,p3,p4⟩=q:=⟨_,rfl⟩
   rw [hq2] at hq
   rw [hq2]
   have hne:=hq
   have hqe:(q != 0)=true:=by simpa using hq
   clear hq
   have hq:=hq2;clear hq2
   unfold RetFE
   dsimp only
   go_enter Tryz.func17,Tryz.ntmps17
   obtain ⟨a3,a4,a5,a2,a1⟩:=ent4 w #[.int .i64 c,.slice A n k,.slice B m j] 35 #[.int .i64 d,.slice C n2 k2,.slice D m2 j2] 35 #[.int .i64 p1,.int .i64 p2,.int .i64 p3,.int .i64 p4] 25 #[.bool false,.slice none 0 0] 53
   have a6:=rI h1 a1
   have a7:=rI h2 a1
   have a8:=rI h3 a1
   have a9:=rI h4 a1
   clear h1 h2 h3 h4
   obtain ⟨i4,i5,i6⟩:=at3 a3
   obtain ⟨i7,i8,i9⟩:=at3 a4
   obtain ⟨j0,j1,j3,j4⟩:=at4 a5
   obtain ⟨j5,j6⟩:=at2 a2
   have hc:=pairOf_no c A B n k m j ws ts d C D n2 k2 m2 j2 ws2 ts2 p1 p2 p3 p4 _ a6.out a7.out hn hm a8.out a9.out hn2 hm2 q hq hne
   have HC:=hid hc;clear hc
   go_wp2_with fail
   refine HC.out.mono ?_
   rintro e d3 ⟨rfl,hb⟩
   clear HC
   clear i4 i5 i6 i7 i8 i9 j0 j1 j3 j4 j5 j6
   have b3:=hid hb
   clear hb
   replace a3:=kH a3 b3
   obtain ⟨j7,j8,j9⟩:=at3 a3
   replace a4:=kH a4 b3
   obtain ⟨k0,k4,k6⟩:=at3 a4
   replace a5:=kH a5 b3
   obtain ⟨k7,k8,k9,l0⟩:=at4 a5
   replace a2:=kH a2 b3
   obtain ⟨l1,l2⟩:=at2 a2
   clear j7 j8 j9 k0 k4 k6 k7 k8 k9 l0 l1 l2
   obtain ⟨o_,ho_⟩:∃ o,o=((.cells #[.int .i64 0,.slice none 0 0,.slice none 0 0,.int .i64 0,.slice none 0 0,.slice none 0 0,.int .i64 0,.int .i64 0,.int .i64 0,.int .i64 0] 78):Obj):=⟨_,rfl⟩
   replace a1:=bA (bH a1 b3) o_
   replace a6:=rA (rH a6 b3) o_
   replace a7:=rA (rH a7 b3) o_
   replace a8:=rA (rH a8 b3) o_
   replace a9:=rA (rH a9 b3) o_
   replace a3:=kA a3 o_
   replace a4:=kA a4 o_
   replace a5:=kA a5 o_
   replace a2:=kA a2 o_
   subst ho_
   have a0:=hid (Blk.new d3 78 #[.int .i64 0,.slice none 0 0,.slice none 0 0,.int .i64 0,.slice none 0 0,.slice none 0 0,.int .i64 0,.int .i64 0,.int .i64 0,.int .i64 0])
   obtain ⟨l3,l4,l5⟩:=at3 a3
   obtain ⟨l6,l7,l8⟩:=at3 a4
   obtain ⟨l9,m0,m1,m3⟩:=at4 a5
   obtain ⟨m4,m5⟩:=at2 a2
   obtain ⟨m6,m7,m8,m9,n0,n1,n3,n4,n5,n6⟩:=at10 a0
   have s0:((d3.alloc (.cells #[.int .i64 0,.slice none 0 0,.slice none 0 0,.int .i64 0,.slice none 0 0,.slice none 0 0,.int .i64 0,.int .i64 0,.int .i64 0,.int .i64 0] 78))).frozen? ⟨w.heap.size+1+1+1,0,none⟩=false:=Blk.frozen a2.out 0
   have s1:((d3.alloc (.cells #[.int .i64 0,.slice none 0 0,.slice none 0 0,.int .i64 0,.slice none 0 0,.slice none 0 0,.int .i64 0,.int .i64 0,.int .i64 0,.int .i64 0] 78))).frozen? ⟨w.heap.size+1+1+1,1,none⟩=false:=Blk.frozen a2.out 1
   have hlb_:=Blk.lt a2.out
   have HK:=hid (a1.out)
   go_wp2
   have bel_:=HK.out
   refine bodyPost_ret (v:=.tuple #[.agg #[.bool false,.slice none 0 0],.bool false,.int .i64 q]) (by simp [results,Tryz.results17,go_sem,l3,l4,l5,l6,l7,l8,l9,m0,m1,m3,m4,m5,m6,m7,m8,m9,n0,n1,n3,n4,n5,n6,s0,s1]) rfl ?_
   exact ⟨none,0,0,rfl,RdI.nil_ _,by unfold maxLen;omega,(by have hsz_:=Below.size bel_;repeat' (first|with_reducible exact bel_|with_reducible exact Below.refl _ _|with_reducible refine Below.alloc ?_ ?_ _|with_reducible refine Below.setCell ?_ ?_ _|with_reducible refine Below.drew ?_|with_reducible refine below_setRow ?_ ?_ _|omega | (simp;done) | (simp;omega)))⟩
end Go.Proofs.YtebkniakflhhkaaGreatDoor
