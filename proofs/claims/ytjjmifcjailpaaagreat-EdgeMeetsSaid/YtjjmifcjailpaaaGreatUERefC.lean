import Derived.Test.YtjjmifcjailpaaaGreatUERefP
set_option maxHeartbeats 4000000
set_option linter.unusedSimpArgs false
set_option linter.unusedVariables false
namespace Go.Proofs.YtjjmifcjailpaaaGreat
open Go.Lib (hid)
open Go.RowKit
set_option maxRecDepth 100000 in
theorem rmany_1 (c:Int) (A B:Option Addr) (n k m j:Nat) (ws ts:List Bnd) (d:Int) (C D:Option Addr) (n2 k2 m2 j2:Nat) (ws2 ts2:List Bnd) (w:World) (h1:RdB w A n k ws) (h2:RdB w B m j ts) (hn:n≤maxLen) (hm:m≤maxLen) (h3:RdB w C n2 k2 ws2) (h4:RdB w D m2 j2 ts2) (hn2:n2≤maxLen) (hm2:m2≤maxLen) (l1:n≤400) (l2:m≤400) (l3:n2≤400) (l4:m2≤400) (h:(400:Int)<(n:Int)+n2):Calls Tryz.prog 86 #[.agg #[.int .i64 c,.slice A n k,.slice B m j],.agg #[.int .i64 d,.slice C n2 k2,.slice D m2 j2]] w fun e w'=>e=.returned (.int .i64 2)∧Below w.heap.size w w':=by
 go_enter Tryz.func86,Tryz.ntmps86
 obtain ⟨a1,a2,a0⟩:=ent2 w #[.int .i64 c,.slice A n k,.slice B m j] 24 #[.int .i64 d,.slice C n2 k2,.slice D m2 j2] 24
 have a3:=rI h1 a0
 have a4:=rI h2 a0
 have a5:=rI h3 a0
 have a6:=rI h4 a0
 clear h1 h2 h3 h4
 obtain ⟨b1,b2,a7⟩:=at3 a1
 obtain ⟨a8,a9,b0⟩:=at3 a2
 go_wp2
 go_ret
 exact ⟨rfl,a0.out⟩
set_option maxRecDepth 100000 in
theorem rmany_2 (c:Int) (A B:Option Addr) (n k m j:Nat) (ws ts:List Bnd) (d:Int) (C D:Option Addr) (n2 k2 m2 j2:Nat) (ws2 ts2:List Bnd) (w:World) (h1:RdB w A n k ws) (h2:RdB w B m j ts) (hn:n≤maxLen) (hm:m≤maxLen) (h3:RdB w C n2 k2 ws2) (h4:RdB w D m2 j2 ts2) (hn2:n2≤maxLen) (hm2:m2≤maxLen) (l1:n≤400) (l2:m≤400) (l3:n2≤400) (l4:m2≤400) (h:¬ (400:Int)<(n:Int)+n2) (h':(400:Int)<(m:Int)+m2):Calls Tryz.prog 86 #[.agg #[.int .i64 c,.slice A n k,.slice B m j],.agg #[.int .i64 d,.slice C n2 k2,.slice D m2 j2]] w fun e w'=>e=.returned (.int .i64 2)∧Below w.heap.size w w':=by
 go_enter Tryz.func86,Tryz.ntmps86
 obtain ⟨a1,a2,a0⟩:=ent2 w #[.int .i64 c,.slice A n k,.slice B m j] 24 #[.int .i64 d,.slice C n2 k2,.slice D m2 j2] 24
 have a3:=rI h1 a0
 have a4:=rI h2 a0
 have a5:=rI h3 a0
 have a6:=rI h4 a0
 clear h1 h2 h3 h4
 obtain ⟨b1,b2,a7⟩:=at3 a1
 obtain ⟨a8,a9,b0⟩:=at3 a2
 go_wp2
 go_ret
 exact ⟨rfl,a0.out⟩
set_option maxRecDepth 100000 in
theorem rmany_3 (c:Int) (A B:Option Addr) (n k m j:Nat) (ws ts:List Bnd) (d:Int) (C D:Option Addr) (n2 k2 m2 j2:Nat) (ws2 ts2:List Bnd) (w:World) (h1:RdB w A n k ws) (h2:RdB w B m j ts) (hn:n≤maxLen) (hm:m≤maxLen) (h3:RdB w C n2 k2 ws2) (h4:RdB w D m2 j2 ts2) (hn2:n2≤maxLen) (hm2:m2≤maxLen) (l1:n≤400) (l2:m≤400) (l3:n2≤400) (l4:m2≤400) (h:¬ (400:Int)<(n:Int)+n2) (h':¬ (400:Int)<(m:Int)+m2):Calls Tryz.prog 86 #[.agg #[.int .i64 c,.slice A n k,.slice B m j],.agg #[.int .i64 d,.slice C n2 k2,.slice D m2 j2]] w fun e w'=>e=.returned (.int .i64 0)∧Below w.heap.size w w':=by
 go_enter Tryz.func86,Tryz.ntmps86
 obtain ⟨a1,a2,a0⟩:=ent2 w #[.int .i64 c,.slice A n k,.slice B m j] 24 #[.int .i64 d,.slice C n2 k2,.slice D m2 j2] 24
 have a3:=rI h1 a0
 have a4:=rI h2 a0
 have a5:=rI h3 a0
 have a6:=rI h4 a0
 clear h1 h2 h3 h4
 obtain ⟨b1,b2,a7⟩:=at3 a1
 obtain ⟨a8,a9,b0⟩:=at3 a2
 go_wp2
 go_ret
 exact ⟨rfl,a0.out⟩
theorem rmany_is (c:Int) (A B:Option Addr) (n k m j:Nat) (ws ts:List Bnd) (d:Int) (C D:Option Addr) (n2 k2 m2 j2:Nat) (ws2 ts2:List Bnd) (w:World) (h1:RdB w A n k ws) (h2:RdB w B m j ts) (hn:n≤maxLen) (hm:m≤maxLen) (h3:RdB w C n2 k2 ws2) (h4:RdB w D m2 j2 ts2) (hn2:n2≤maxLen) (hm2:m2≤maxLen) (l1:n≤400) (l2:m≤400) (l3:n2≤400) (l4:m2≤400) {q:Int} (hq:(if large ⟨c,ws,ts⟩ ⟨d,ws2,ts2⟩ then (2:Int) else 0)=q):Calls Tryz.prog 86 #[.agg #[.int .i64 c,.slice A n k,.slice B m j],.agg #[.int .i64 d,.slice C n2 k2,.slice D m2 j2]] w fun e w'=>e=.returned (.int .i64 q)∧Below w.heap.size w w':=by
 have e1:=h1.len;have e2:=h2.len;have e3:=h3.len;have e4:=h4.len
 subst hq
 by_cases g:(400:Int)<(n:Int)+n2
 · rw [if_pos (by simp [large];omega)]
   exact rmany_1 c A B n k m j ws ts d C D n2 k2 m2 j2 ws2 ts2 w h1 h2 hn hm h3 h4 hn2 hm2 l1 l2 l3 l4 g
 · by_cases g':(400:Int)<(m:Int)+m2
   · rw [if_pos (by simp [large];omega)]
     exact rmany_2 c A B n k m j ws ts d C D n2 k2 m2 j2 ws2 ts2 w h1 h2 hn hm h3 h4 hn2 hm2 l1 l2 l3 l4 g g'
   · rw [if_neg (by simp [large];omega)]
     exact rmany_3 c A B n k m j ws ts d C D n2 k2 m2 j2 ws2 ts2 w h1 h2 hn hm h3 h4 hn2 hm2 l1 l2 l3 l4 g g'
set_option maxRecDepth 100000 in
theorem rAsked_e (c:Int) (A B:Option Addr) (n k m j:Nat) (ws ts:List Bnd) (d:Int) (C D:Option Addr) (n2 k2 m2 j2:Nat) (ws2 ts2:List Bnd) (p1 p2 p3 p4:Int) (w:World) (h1:RdB w A n k ws) (h2:RdB w B m j ts) (hn:n≤maxLen) (hm:m≤maxLen) (h3:RdB w C n2 k2 ws2) (h4:RdB w D m2 j2 ts2) (hn2:n2≤maxLen) (hm2:m2≤maxLen) (q:Int) (hq:(q != 0)=true) (hq2:(q == 0)=false) (E1:Hid (chkP ⟨c,ws,ts⟩ ⟨d,ws2,ts2⟩ ⟨p1,p2,p3,p4⟩=q)) :
 Calls Tryz.prog 43 #[.agg #[.int .i64 c,.slice A n k,.slice B m j],.agg #[.int .i64 d,.slice C n2 k2,.slice D m2 j2],.agg #[.int .i64 p1,.int .i64 p2,.int .i64 p3,.int .i64 p4]] w fun e w'=>e=.returned (.int .i64 q)∧Below w.heap.size w w':=by
  go_enter Tryz.func43,Tryz.ntmps43
  obtain ⟨a2,a3,a4,a0⟩:=ent3 w #[.int .i64 c,.slice A n k,.slice B m j] 24 #[.int .i64 d,.slice C n2 k2,.slice D m2 j2] 24 #[.int .i64 p1,.int .i64 p2,.int .i64 p3,.int .i64 p4] 28
  have a5:=rI h1 a0
  have a6:=rI h2 a0
  have a7:=rI h3 a0
  have a8:=rI h4 a0
  clear h1 h2 h3 h4
  obtain ⟨b8,a9,b0⟩:=at3 a2
  obtain ⟨b1,b2,b3⟩:=at3 a3
  obtain ⟨b4,b5,b6,b7⟩:=at4 a4
  have hc:=rCheckPairing_any c A B n k m j ws ts d C D n2 k2 m2 j2 ws2 ts2 p1 p2 p3 p4 _ a5.out a6.out hn hm a7.out a8.out hn2 hm2
  rw [E1.out] at hc
  try dsimp only at hc
  have HC:=hid hc;clear hc
  go_wp2_with fail
  refine HC.out.mono ?_
  rintro e b9 ⟨rfl,hb⟩
  clear HC
  clear b8 a9 b0 b1 b2 b3 b4 b5 b6 b7
  have a1:=hid hb
  clear hb
  replace a2:=kH a2 a1
  obtain ⟨c0,c1,c2⟩:=at3 a2
  replace a3:=kH a3 a1
  obtain ⟨c3,c4,c5⟩:=at3 a3
  replace a4:=kH a4 a1
  obtain ⟨c6,c7,c8,c9⟩:=at4 a4
  go_wp2
  go_ret
  replace a0:=bH a0 a1
  exact ⟨rfl,a0.out⟩
set_option maxRecDepth 100000 in
theorem rAsked_o (c:Int) (A B:Option Addr) (n k m j:Nat) (ws ts:List Bnd) (d:Int) (C D:Option Addr) (n2 k2 m2 j2:Nat) (ws2 ts2:List Bnd) (p1 p2 p3 p4:Int) (w:World) (h1:RdB w A n k ws) (h2:RdB w B m j ts) (hn:n≤maxLen) (hm:m≤maxLen) (h3:RdB w C n2 k2 ws2) (h4:RdB w D m2 j2 ts2) (hn2:n2≤maxLen) (hm2:m2≤maxLen) (l1:n≤400) (l2:m≤400) (l3:n2≤400) (l4:m2≤400) (q:Int) (E1:Hid (chkP ⟨c,ws,ts⟩ ⟨d,ws2,ts2⟩ ⟨p1,p2,p3,p4⟩=0)) (EM:Hid ((if large ⟨c,ws,ts⟩ ⟨d,ws2,ts2⟩ then (2:Int) else 0)=q)) :
 Calls Tryz.prog 43 #[.agg #[.int .i64 c,.slice A n k,.slice B m j],.agg #[.int .i64 d,.slice C n2 k2,.slice D m2 j2],.agg #[.int .i64 p1,.int .i64 p2,.int .i64 p3,.int .i64 p4]] w fun e w'=>e=.returned (.int .i64 q)∧Below w.heap.size w w':=by
  go_enter Tryz.func43,Tryz.ntmps43
  obtain ⟨a2,a3,a4,a1⟩:=ent3 w #[.int .i64 c,.slice A n k,.slice B m j] 24 #[.int .i64 d,.slice C n2 k2,.slice D m2 j2] 24 #[.int .i64 p1,.int .i64 p2,.int .i64 p3,.int .i64 p4] 28
  have a6:=rI h1 a1
  have a7:=rI h2 a1
  have a8:=rI h3 a1
  have a9:=rI h4 a1
  clear h1 h2 h3 h4
  obtain ⟨c9,b0,b1⟩:=at3 a2
  obtain ⟨b2,b3,b4⟩:=at3 a3
  obtain ⟨b5,b6,b7,b8⟩:=at4 a4
  have hc:=rCheckPairing_any c A B n k m j ws ts d C D n2 k2 m2 j2 ws2 ts2 p1 p2 p3 p4 _ a6.out a7.out hn hm a8.out a9.out hn2 hm2
  rw [E1.out] at hc
  try dsimp only at hc
  have HC:=hid hc;clear hc
  go_wp2_with fail
  refine HC.out.mono ?_
  rintro e d0 ⟨rfl,hb⟩
  clear HC
  clear c9 b0 b1 b2 b3 b4 b5 b6 b7 b8
  have a0:=hid hb
  clear hb
  replace a2:=kH a2 a0
  obtain ⟨b9,c0,c1⟩:=at3 a2
  replace a3:=kH a3 a0
  obtain ⟨c2,c3,c4⟩:=at3 a3
  replace a4:=kH a4 a0
  obtain ⟨c5,c6,c7,c8⟩:=at4 a4
  replace a6:=rH a6 a0
  replace a7:=rH a7 a0
  replace a8:=rH a8 a0
  replace a9:=rH a9 a0
  have hc:=rmany_is c A B n k m j ws ts d C D n2 k2 m2 j2 ws2 ts2 _ a6.out a7.out hn hm a8.out a9.out hn2 hm2 l1 l2 l3 l4 EM.out
  have HC:=hid hc;clear hc
  go_wp2_with fail
  refine HC.out.mono ?_
  rintro e d1 ⟨rfl,hb⟩
  clear HC
  clear b9 c0 c1 c2 c3 c4 c5 c6 c7 c8
  have a5:=hid hb
  clear hb
  replace a2:=kH a2 a5
  obtain ⟨d2,d3,d4⟩:=at3 a2
  replace a3:=kH a3 a5
  obtain ⟨d5,d6,d7⟩:=at3 a3
  replace a4:=kH a4 a5
  obtain ⟨d8,d9,e0,e1⟩:=at4 a4
  go_wp2
  go_ret
  replace a1:=bH (bH a1 a0) a5
  exact ⟨rfl,a1.out⟩
theorem rAsked_any (c:Int) (A B:Option Addr) (n k m j:Nat) (ws ts:List Bnd) (d:Int) (C D:Option Addr) (n2 k2 m2 j2:Nat) (ws2 ts2:List Bnd) (p1 p2 p3 p4:Int) (w:World) (h1:RdB w A n k ws) (h2:RdB w B m j ts) (hn:n≤maxLen) (hm:m≤maxLen) (h3:RdB w C n2 k2 ws2) (h4:RdB w D m2 j2 ts2) (hn2:n2≤maxLen) (hm2:m2≤maxLen) :
 Calls Tryz.prog 43 #[.agg #[.int .i64 c,.slice A n k,.slice B m j],.agg #[.int .i64 d,.slice C n2 k2,.slice D m2 j2],.agg #[.int .i64 p1,.int .i64 p2,.int .i64 p3,.int .i64 p4]] w fun e w'=>e=.returned (.int .i64 (asked ⟨c,ws,ts⟩ ⟨d,ws2,ts2⟩ ⟨p1,p2,p3,p4⟩))∧Below w.heap.size w w':=by
 unfold asked
 by_cases h:chkP ⟨c,ws,ts⟩ ⟨d,ws2,ts2⟩ ⟨p1,p2,p3,p4⟩=0
 · obtain ⟨g1,g2,g3,g4⟩:=chkP_lens h
   dsimp only at g1 g2 g3 g4
   rw [if_neg (by simpa using h)]
   have e1:=h1.len;have e2:=h2.len;have e3:=h3.len;have e4:=h4.len
   exact rAsked_o c A B n k m j ws ts d C D n2 k2 m2 j2 ws2 ts2 p1 p2 p3 p4 w h1 h2 hn hm h3 h4 hn2 hm2 (by omega) (by omega) (by omega) (by omega) _ (hid h) (hid rfl)
 · rw [if_pos h]
   exact rAsked_e c A B n k m j ws ts d C D n2 k2 m2 j2 ws2 ts2 p1 p2 p3 p4 w h1 h2 hn hm h3 h4 hn2 hm2 _ (by simpa using h) (by simpa using h) (hid rfl)
end Go.Proofs.YtjjmifcjailpaaaGreat
