import Derived.Test.YtjjmifcjailpaaaGreatPGraph
import Derived.Test.YtjjmifcjailpaaaGreatPRef
import Derived.Test.YtjjmifcjailpaaaGreatPESys
import Derived.Deep.AppendLies
import Derived.Deep.DeepCutAuto
import Derived.Deep.OwnRows
import Derived.Great.BuildSlice
import Derived.Laws.AppendOwnNone
import Derived.Lib.SmallJoins
import Derived.Maps.OwnIn
import Derived.Shelf.SlIterI.Nil
import Derived.Shelf.Slices.Reverse
import Derived.Shelf.SortM.Plain
import Derived.Shelf.SortM.SortNone
import Derived.Sort.OwnSortedInts
import Derived.Test.YtjjmifcjailpaaaGreatPOnw
import Derived.Test.YtjjmifcjailpaaaGreatPEPairs
import Derived.Test.YtjjmifcjailpaaaGreatPEWith
import Derived.Test.YtjjmifcjailpaaaGreatPERefS
set_option maxHeartbeats 4000000
set_option linter.unusedSimpArgs false
set_option linter.unusedVariables false
namespace Go.Proofs.YtjjmifcjailpaaaGreat
open Go.Lib (hid)
open Go.RowKit
theorem rways_any (c:Int) (A B:Option Addr) (n k m j:Nat) (w:World) (hc:-1000000≤c) (hc':c≤1000000) :
 Calls Tryz.prog 134 #[.agg #[.int .i64 c,.slice A n k,.slice B m j]] w fun e w'=>e=.returned (.agg #[.int .i64 (c+1),.slice A n k])∧Below w.heap.size w w':=by
 go_enter Tryz.func134,Tryz.ntmps134
 go_wp2
 refine bodyPost_ret (v:=.agg #[.int .i64 (c+1),.slice A n k]) (by simp [results,Tryz.results134,go_sem]) rfl ⟨rfl,(by (repeat (first|exact Below.refl _ _|refine Below.drew ?_|refine Below.alloc ?_ (by simp) _)))⟩
theorem rturns_any (c:Int) (A B:Option Addr) (n k m j:Nat) (w:World) :
 Calls Tryz.prog 135 #[.agg #[.int .i64 c,.slice A n k,.slice B m j]] w fun e w'=>e=.returned (.agg #[.int .i64 c,.slice B m j])∧Below w.heap.size w w':=by
 go_enter Tryz.func135,Tryz.ntmps135
 go_wp2
 refine bodyPost_ret (v:=.agg #[.int .i64 c,.slice B m j]) (by simp [results,Tryz.results135,go_sem]) rfl ⟨rfl,(by (repeat (first|exact Below.refl _ _|refine Below.drew ?_|refine Below.alloc ?_ (by simp) _)))⟩
set_option maxRecDepth 100000 in
theorem rCheckOutline_any (c:Int) (A B:Option Addr) (n k m j:Nat) (ws ts:List Bnd) (w:World) (h1:RdB w A n k ws) (h2:RdB w B m j ts) (hn:n≤maxLen) (hm:m≤maxLen) :
 Calls Tryz.prog 108 #[.agg #[.int .i64 c,.slice A n k,.slice B m j]] w fun e w'=>e=.returned (.int .i64 (chkO ⟨c,ws,ts⟩))∧Below w.heap.size w w':=by
 by_cases h3:3≤c
 · by_cases h16:c≤16
   · obtain ⟨q,hq⟩:∃ q,chk (c+1) ws=q:=⟨_,rfl⟩
     obtain ⟨q2,hq2⟩:∃ q,chk c ts=q:=⟨_,rfl⟩
     unfold chkO
     rw [if_neg (by simp;omega)]
     dsimp only
     rw [hq,hq2]
     have E1:=hid hq;have E2:=hid hq2;clear hq hq2
     by_cases h0:q=0
     · rw [if_neg (by simpa using h0)]
       subst h0
       go_enter Tryz.func108,Tryz.ntmps108
       obtain ⟨a0,a1⟩:=ent1 w #[.int .i64 c,.slice A n k,.slice B m j] 24
       have a4:=rI h1 a1
       have a5:=rI h2 a1
       clear h1 h2
       obtain ⟨b1,b2,b3⟩:=at3 a0
       have hc:=rways_any c A B n k m j ((w.alloc (.cells #[.int .i64 c,.slice A n k,.slice B m j] 24))) (by omega) (by omega)
       have HC:=hid hc;clear hc
       go_wp2_with fail
       refine HC.out.mono ?_
       rintro e b4 ⟨rfl,hb⟩
       clear HC
       clear b1 b2 b3
       have a2:=hid hb
       clear hb
       replace a0:=kH a0 a2
       obtain ⟨a7,a8,a9⟩:=at3 a0
       replace a4:=rH a4 a2
       have hc:=rCheckSystem_any (c+1) A n k ws (b4) a4.out hn
       rw [E1.out] at hc
       try dsimp only at hc
       have HC:=hid hc;clear hc
       go_wp2_with fail
       refine HC.out.mono ?_
       rintro e b5 ⟨rfl,hb⟩
       clear HC
       clear a7 a8 a9
       have a3:=hid hb
       clear hb
       replace a0:=kH a0 a3
       obtain ⟨b6,b7,b8⟩:=at3 a0
       have hc:=rturns_any c A B n k m j (b5)
       have HC:=hid hc;clear hc
       go_wp2_with fail
       refine HC.out.mono ?_
       rintro e b9 ⟨rfl,hb⟩
       clear HC
       clear b6 b7 b8
       have a6:=hid hb
       clear hb
       replace a0:=kH a0 a6
       obtain ⟨c0,c1,c2⟩:=at3 a0
       replace a5:=rH (rH (rH a5 a2) a3) a6
       have hc:=rCheckSystem_any c B m j ts (b9) a5.out hm
       rw [E2.out] at hc
       try dsimp only at hc
       have HC:=hid hc;clear hc
       go_wp2_with fail
       refine HC.out.mono ?_
       rintro e c3 ⟨rfl,hb⟩
       clear HC
       clear c0 c1 c2
       have b0:=hid hb
       clear hb
       replace a0:=kH a0 b0
       obtain ⟨c4,c5,c6⟩:=at3 a0
       go_wp2
       go_ret
       replace a1:=bH (bH (bH (bH a1 a2) a3) a6) b0
       exact ⟨rfl,a1.out⟩
     · rw [if_pos h0]
       have hne:(q == 0)=false:=by simpa using h0
       clear h0
       go_enter Tryz.func108,Tryz.ntmps108
       obtain ⟨a0,a1⟩:=ent1 w #[.int .i64 c,.slice A n k,.slice B m j] 24
       have a4:=rI h1 a1
       have a5:=rI h2 a1
       clear h1 h2
       obtain ⟨b1,b2,b3⟩:=at3 a0
       have hc:=rways_any c A B n k m j ((w.alloc (.cells #[.int .i64 c,.slice A n k,.slice B m j] 24))) (by omega) (by omega)
       have HC:=hid hc;clear hc
       go_wp2_with fail
       refine HC.out.mono ?_
       rintro e b4 ⟨rfl,hb⟩
       clear HC
       clear b1 b2 b3
       have a2:=hid hb
       clear hb
       replace a0:=kH a0 a2
       obtain ⟨a7,a8,a9⟩:=at3 a0
       replace a4:=rH a4 a2
       have hc:=rCheckSystem_any (c+1) A n k ws (b4) a4.out hn
       rw [E1.out] at hc
       try dsimp only at hc
       have HC:=hid hc;clear hc
       go_wp2_with fail
       refine HC.out.mono ?_
       rintro e b5 ⟨rfl,hb⟩
       clear HC
       clear a7 a8 a9
       have a3:=hid hb
       clear hb
       replace a0:=kH a0 a3
       obtain ⟨b6,b7,b8⟩:=at3 a0
       go_wp2
       go_ret
       replace a1:=bH (bH a1 a2) a3
       exact ⟨rfl,a1.out⟩
   · go_enter Tryz.func108,Tryz.ntmps108
     go_wp2
     go_ret
     exact ⟨ret_int (by unfold chkO;rw [if_pos (by simp;omega)]),(by (repeat (first|exact Below.refl _ _|refine Below.drew ?_|refine Below.alloc ?_ (by simp) _)))⟩
 · go_enter Tryz.func108,Tryz.ntmps108
   go_wp2
   go_ret
   exact ⟨ret_int (by unfold chkO;rw [if_pos (by simp;omega)]),(by (repeat (first|exact Below.refl _ _|refine Below.drew ?_|refine Below.alloc ?_ (by simp) _)))⟩
set_option maxRecDepth 100000 in
theorem rmany_1 (c:Int) (A B:Option Addr) (n k m j:Nat) (ws ts:List Bnd) (d:Int) (C D:Option Addr) (n2 k2 m2 j2:Nat) (ws2 ts2:List Bnd) (w:World) (h1:RdB w A n k ws) (h2:RdB w B m j ts) (hn:n≤maxLen) (hm:m≤maxLen) (h3:RdB w C n2 k2 ws2) (h4:RdB w D m2 j2 ts2) (hn2:n2≤maxLen) (hm2:m2≤maxLen) (l1:n≤400) (l2:m≤400) (l3:n2≤400) (l4:m2≤400) (h:(400:Int)<(n:Int)+n2):Calls Tryz.prog 86 #[.agg #[.int .i64 c,.slice A n k,.slice B m j],.agg #[.int .i64 d,.slice C n2 k2,.slice D m2 j2]] w fun e w'=>e=.returned (.int .i64 2)∧Below w.heap.size w w':=by
 go_enter Tryz.func86,Tryz.ntmps86
 obtain ⟨a1,a2,a0⟩:=ent2 w #[.int .i64 c,.slice A n k,.slice B m j] 24 #[.int .i64 d,.slice C n2 k2,.slice D m2 j2] 24
 have a3:=rI h1 a0
 have a4:=rI h2 a0
 have a5:=rI h3 a0
 have a6:=rI h4 a0
 clear h1 h2 h3 h4
 obtain ⟨b1,b2,a7⟩:=at3 a1
 obtain ⟨a8,a9,b0⟩:=at3 a2
 go_wp2
 go_ret
 exact ⟨rfl,a0.out⟩
set_option maxRecDepth 100000 in
theorem rmany_2 (c:Int) (A B:Option Addr) (n k m j:Nat) (ws ts:List Bnd) (d:Int) (C D:Option Addr) (n2 k2 m2 j2:Nat) (ws2 ts2:List Bnd) (w:World) (h1:RdB w A n k ws) (h2:RdB w B m j ts) (hn:n≤maxLen) (hm:m≤maxLen) (h3:RdB w C n2 k2 ws2) (h4:RdB w D m2 j2 ts2) (hn2:n2≤maxLen) (hm2:m2≤maxLen) (l1:n≤400) (l2:m≤400) (l3:n2≤400) (l4:m2≤400) (h:¬ (400:Int)<(n:Int)+n2) (h':(400:Int)<(m:Int)+m2):Calls Tryz.prog 86 #[.agg #[.int .i64 c,.slice A n k,.slice B m j],.agg #[.int .i64 d,.slice C n2 k2,.slice D m2 j2]] w fun e w'=>e=.returned (.int .i64 2)∧Below w.heap.size w w':=by
 go_enter Tryz.func86,Tryz.ntmps86
 obtain ⟨a1,a2,a0⟩:=ent2 w #[.int .i64 c,.slice A n k,.slice B m j] 24 #[.int .i64 d,.slice C n2 k2,.slice D m2 j2] 24
 have a3:=rI h1 a0
 have a4:=rI h2 a0
 have a5:=rI h3 a0
 have a6:=rI h4 a0
 clear h1 h2 h3 h4
 obtain ⟨b1,b2,a7⟩:=at3 a1
 obtain ⟨a8,a9,b0⟩:=at3 a2
 go_wp2
 go_ret
 exact ⟨rfl,a0.out⟩
set_option maxRecDepth 100000 in
theorem rmany_3 (c:Int) (A B:Option Addr) (n k m j:Nat) (ws ts:List Bnd) (d:Int) (C D:Option Addr) (n2 k2 m2 j2:Nat) (ws2 ts2:List Bnd) (w:World) (h1:RdB w A n k ws) (h2:RdB w B m j ts) (hn:n≤maxLen) (hm:m≤maxLen) (h3:RdB w C n2 k2 ws2) (h4:RdB w D m2 j2 ts2) (hn2:n2≤maxLen) (hm2:m2≤maxLen) (l1:n≤400) (l2:m≤400) (l3:n2≤400) (l4:m2≤400) (h:¬ (400:Int)<(n:Int)+n2) (h':¬ (400:Int)<(m:Int)+m2):Calls Tryz.prog 86 #[.agg #[.int .i64 c,.slice A n k,.slice B m j],.agg #[.int .i64 d,.slice C n2 k2,.slice D m2 j2]] w fun e w'=>e=.returned (.int .i64 0)∧Below w.heap.size w w':=by
 go_enter Tryz.func86,Tryz.ntmps86
 obtain ⟨a1,a2,a0⟩:=ent2 w #[.int .i64 c,.slice A n k,.slice B m j] 24 #[.int .i64 d,.slice C n2 k2,.slice D m2 j2] 24
 have a3:=rI h1 a0
 have a4:=rI h2 a0
 have a5:=rI h3 a0
 have a6:=rI h4 a0
 clear h1 h2 h3 h4
 obtain ⟨b1,b2,a7⟩:=at3 a1
 obtain ⟨a8,a9,b0⟩:=at3 a2
 go_wp2
 go_ret
 exact ⟨rfl,a0.out⟩
theorem rmany_is (c:Int) (A B:Option Addr) (n k m j:Nat) (ws ts:List Bnd) (d:Int) (C D:Option Addr) (n2 k2 m2 j2:Nat) (ws2 ts2:List Bnd) (w:World) (h1:RdB w A n k ws) (h2:RdB w B m j ts) (hn:n≤maxLen) (hm:m≤maxLen) (h3:RdB w C n2 k2 ws2) (h4:RdB w D m2 j2 ts2) (hn2:n2≤maxLen) (hm2:m2≤maxLen) (l1:n≤400) (l2:m≤400) (l3:n2≤400) (l4:m2≤400) {q:Int} (hq:(if large ⟨c,ws,ts⟩ ⟨d,ws2,ts2⟩ then (2:Int) else 0)=q):Calls Tryz.prog 86 #[.agg #[.int .i64 c,.slice A n k,.slice B m j],.agg #[.int .i64 d,.slice C n2 k2,.slice D m2 j2]] w fun e w'=>e=.returned (.int .i64 q)∧Below w.heap.size w w':=by
 have e1:=h1.len;have e2:=h2.len;have e3:=h3.len;have e4:=h4.len
 subst hq
 by_cases g:(400:Int)<(n:Int)+n2
 · rw [if_pos (by simp [large];omega)]
   exact rmany_1 c A B n k m j ws ts d C D n2 k2 m2 j2 ws2 ts2 w h1 h2 hn hm h3 h4 hn2 hm2 l1 l2 l3 l4 g
 · by_cases g':(400:Int)<(m:Int)+m2
   · rw [if_pos (by simp [large];omega)]
     exact rmany_2 c A B n k m j ws ts d C D n2 k2 m2 j2 ws2 ts2 w h1 h2 hn hm h3 h4 hn2 hm2 l1 l2 l3 l4 g g'
   · rw [if_neg (by simp [large];omega)]
     exact rmany_3 c A B n k m j ws ts d C D n2 k2 m2 j2 ws2 ts2 w h1 h2 hn hm h3 h4 hn2 hm2 l1 l2 l3 l4 g g'
set_option maxRecDepth 100000 in
theorem rboth_a (c:Int) (A B:Option Addr) (n k m j:Nat) (ws ts:List Bnd) (d:Int) (C D:Option Addr) (n2 k2 m2 j2:Nat) (ws2 ts2:List Bnd) (w:World) (h1:RdB w A n k ws) (h2:RdB w B m j ts) (hn:n≤maxLen) (hm:m≤maxLen) (h3:RdB w C n2 k2 ws2) (h4:RdB w D m2 j2 ts2) (hn2:n2≤maxLen) (hm2:m2≤maxLen) (q:Int) (hq:(q == 0)=false) (E1:Hid (chkO ⟨c,ws,ts⟩=q)):Calls Tryz.prog 63 #[.agg #[.int .i64 c,.slice A n k,.slice B m j],.agg #[.int .i64 d,.slice C n2 k2,.slice D m2 j2]] w fun e w'=>e=.returned (.int .i64 q)∧Below w.heap.size w w':=by
 go_enter Tryz.func63,Tryz.ntmps63
 obtain ⟨a1,a2,a0⟩:=ent2 w #[.int .i64 c,.slice A n k,.slice B m j] 24 #[.int .i64 d,.slice C n2 k2,.slice D m2 j2] 24
 have a4:=rI h1 a0
 have a5:=rI h2 a0
 have b2:=rI h3 a0
 have b3:=rI h4 a0
 clear h1 h2 h3 h4
 obtain ⟨b0,b1,a6⟩:=at3 a1
 obtain ⟨a7,a8,a9⟩:=at3 a2
 have hc:=rCheckOutline_any c A B n k m j ws ts _ a4.out a5.out hn hm
 rw [E1.out] at hc
 try dsimp only at hc
 have HC:=hid hc;clear hc
 go_wp2_with fail
 refine HC.out.mono ?_
 rintro e b4 ⟨rfl,hb⟩
 clear HC
 clear b0 b1 a6 a7 a8 a9
 have a3:=hid hb
 clear hb
 replace a1:=kH a1 a3
 obtain ⟨b5,b6,b7⟩:=at3 a1
 replace a2:=kH a2 a3
 obtain ⟨b8,b9,c0⟩:=at3 a2
 go_wp2
 go_ret
 replace a0:=bH a0 a3
 exact ⟨rfl,a0.out⟩
set_option maxRecDepth 100000 in
theorem rboth_b (c:Int) (A B:Option Addr) (n k m j:Nat) (ws ts:List Bnd) (d:Int) (C D:Option Addr) (n2 k2 m2 j2:Nat) (ws2 ts2:List Bnd) (w:World) (h1:RdB w A n k ws) (h2:RdB w B m j ts) (hn:n≤maxLen) (hm:m≤maxLen) (h3:RdB w C n2 k2 ws2) (h4:RdB w D m2 j2 ts2) (hn2:n2≤maxLen) (hm2:m2≤maxLen) (E1:Hid (chkO ⟨c,ws,ts⟩=0)) (q:Int) (hq:(q == 0)=false) (E2:Hid (chkO ⟨d,ws2,ts2⟩=q)):Calls Tryz.prog 63 #[.agg #[.int .i64 c,.slice A n k,.slice B m j],.agg #[.int .i64 d,.slice C n2 k2,.slice D m2 j2]] w fun e w'=>e=.returned (.int .i64 q)∧Below w.heap.size w w':=by
 go_enter Tryz.func63,Tryz.ntmps63
 obtain ⟨a1,a2,a0⟩:=ent2 w #[.int .i64 c,.slice A n k,.slice B m j] 24 #[.int .i64 d,.slice C n2 k2,.slice D m2 j2] 24
 have a7:=rI h1 a0
 have a8:=rI h2 a0
 have a5:=rI h3 a0
 have a6:=rI h4 a0
 clear h1 h2 h3 h4
 obtain ⟨b9,c0,a9⟩:=at3 a1
 obtain ⟨b0,b1,b2⟩:=at3 a2
 have hc:=rCheckOutline_any c A B n k m j ws ts _ a7.out a8.out hn hm
 rw [E1.out] at hc
 try dsimp only at hc
 have HC:=hid hc;clear hc
 go_wp2_with fail
 refine HC.out.mono ?_
 rintro e c1 ⟨rfl,hb⟩
 clear HC
 clear b9 c0 a9 b0 b1 b2
 have a3:=hid hb
 clear hb
 replace a1:=kH a1 a3
 obtain ⟨b3,b4,b5⟩:=at3 a1
 replace a2:=kH a2 a3
 obtain ⟨b6,b7,b8⟩:=at3 a2
 replace a5:=rH a5 a3
 replace a6:=rH a6 a3
 have hc:=rCheckOutline_any d C D n2 k2 m2 j2 ws2 ts2 _ a5.out a6.out hn2 hm2
 rw [E2.out] at hc
 try dsimp only at hc
 have HC:=hid hc;clear hc
 go_wp2_with fail
 refine HC.out.mono ?_
 rintro e c2 ⟨rfl,hb⟩
 clear HC
 clear b3 b4 b5 b6 b7 b8
 have a4:=hid hb
 clear hb
 replace a1:=kH a1 a4
 obtain ⟨c3,c4,c5⟩:=at3 a1
 replace a2:=kH a2 a4
 obtain ⟨c6,c7,c8⟩:=at3 a2
 go_wp2
 go_ret
 replace a0:=bH (bH a0 a3) a4
 exact ⟨rfl,a0.out⟩
set_option maxRecDepth 100000 in
theorem rboth_c (c:Int) (A B:Option Addr) (n k m j:Nat) (ws ts:List Bnd) (d:Int) (C D:Option Addr) (n2 k2 m2 j2:Nat) (ws2 ts2:List Bnd) (w:World) (h1:RdB w A n k ws) (h2:RdB w B m j ts) (hn:n≤maxLen) (hm:m≤maxLen) (h3:RdB w C n2 k2 ws2) (h4:RdB w D m2 j2 ts2) (hn2:n2≤maxLen) (hm2:m2≤maxLen) (l1:n≤400) (l2:m≤400) (l3:n2≤400) (l4:m2≤400) (E1:Hid (chkO ⟨c,ws,ts⟩=0)) (E2:Hid (chkO ⟨d,ws2,ts2⟩=0)) (q:Int) (EM:Hid ((if large ⟨c,ws,ts⟩ ⟨d,ws2,ts2⟩ then (2:Int) else 0)=q)):Calls Tryz.prog 63 #[.agg #[.int .i64 c,.slice A n k,.slice B m j],.agg #[.int .i64 d,.slice C n2 k2,.slice D m2 j2]] w fun e w'=>e=.returned (.int .i64 q)∧Below w.heap.size w w':=by
 go_enter Tryz.func63,Tryz.ntmps63
 obtain ⟨a0,a1,a2⟩:=ent2 w #[.int .i64 c,.slice A n k,.slice B m j] 24 #[.int .i64 d,.slice C n2 k2,.slice D m2 j2] 24
 have a7:=rI h1 a2
 have a8:=rI h2 a2
 have a5:=rI h3 a2
 have a6:=rI h4 a2
 clear h1 h2 h3 h4
 obtain ⟨c6,c7,b0⟩:=at3 a0
 obtain ⟨b1,b2,b3⟩:=at3 a1
 have hc:=rCheckOutline_any c A B n k m j ws ts _ a7.out a8.out hn hm
 rw [E1.out] at hc
 try dsimp only at hc
 have HC:=hid hc;clear hc
 go_wp2_with fail
 refine HC.out.mono ?_
 rintro e c8 ⟨rfl,hb⟩
 clear HC
 clear c6 c7 b0 b1 b2 b3
 have a3:=hid hb
 clear hb
 replace a0:=kH a0 a3
 obtain ⟨b4,b5,b6⟩:=at3 a0
 replace a1:=kH a1 a3
 obtain ⟨b7,b8,b9⟩:=at3 a1
 replace a5:=rH a5 a3
 replace a6:=rH a6 a3
 have hc:=rCheckOutline_any d C D n2 k2 m2 j2 ws2 ts2 _ a5.out a6.out hn2 hm2
 rw [E2.out] at hc
 try dsimp only at hc
 have HC:=hid hc;clear hc
 go_wp2_with fail
 refine HC.out.mono ?_
 rintro e c9 ⟨rfl,hb⟩
 clear HC
 clear b4 b5 b6 b7 b8 b9
 have a4:=hid hb
 clear hb
 replace a0:=kH a0 a4
 obtain ⟨c0,c1,c2⟩:=at3 a0
 replace a1:=kH a1 a4
 obtain ⟨c3,c4,c5⟩:=at3 a1
 replace a7:=rH (rH a7 a3) a4
 replace a8:=rH (rH a8 a3) a4
 replace a5:=rH a5 a4
 replace a6:=rH a6 a4
 have hc:=rmany_is c A B n k m j ws ts d C D n2 k2 m2 j2 ws2 ts2 _ a7.out a8.out hn hm a5.out a6.out hn2 hm2 l1 l2 l3 l4 EM.out
 have HC:=hid hc;clear hc
 go_wp2_with fail
 refine HC.out.mono ?_
 rintro e d0 ⟨rfl,hb⟩
 clear HC
 clear c0 c1 c2 c3 c4 c5
 have a9:=hid hb
 clear hb
 replace a0:=kH a0 a9
 obtain ⟨d1,d2,d3⟩:=at3 a0
 replace a1:=kH a1 a9
 obtain ⟨d4,d5,d6⟩:=at3 a1
 go_wp2
 go_ret
 replace a2:=bH (bH (bH a2 a3) a4) a9
 exact ⟨rfl,a2.out⟩
theorem rboth_any (c:Int) (A B:Option Addr) (n k m j:Nat) (ws ts:List Bnd) (d:Int) (C D:Option Addr) (n2 k2 m2 j2:Nat) (ws2 ts2:List Bnd) (w:World) (h1:RdB w A n k ws) (h2:RdB w B m j ts) (hn:n≤maxLen) (hm:m≤maxLen) (h3:RdB w C n2 k2 ws2) (h4:RdB w D m2 j2 ts2) (hn2:n2≤maxLen) (hm2:m2≤maxLen):Calls Tryz.prog 63 #[.agg #[.int .i64 c,.slice A n k,.slice B m j],.agg #[.int .i64 d,.slice C n2 k2,.slice D m2 j2]] w fun e w'=>e=.returned (.int .i64 (both ⟨c,ws,ts⟩ ⟨d,ws2,ts2⟩))∧Below w.heap.size w w':=by
 unfold both
 by_cases ha:chkO ⟨c,ws,ts⟩=0
 · have e:chkOO ⟨c,ws,ts⟩ ⟨d,ws2,ts2⟩=chkO ⟨d,ws2,ts2⟩:=by unfold chkOO;simp [ha]
   rw [e]
   obtain ⟨-,-,a3,a4⟩:=chkO_ok ha
   have e1:=h1.len;have e2:=h2.len;have e3:=h3.len;have e4:=h4.len
   have la:=(chk_ok a3).2.2.1;have lb:=(chk_ok a4).2.2.1
   by_cases hb:chkO ⟨d,ws2,ts2⟩=0
   · rw [if_neg (by simpa using hb)]
     obtain ⟨-,-,b3,b4⟩:=chkO_ok hb
     have lc:=(chk_ok b3).2.2.1;have ld:=(chk_ok b4).2.2.1
     dsimp only at la lb lc ld
     exact rboth_c c A B n k m j ws ts d C D n2 k2 m2 j2 ws2 ts2 w h1 h2 hn hm h3 h4 hn2 hm2 (by omega) (by omega) (by omega) (by omega) (hid ha) (hid hb) _ (hid rfl)
   · rw [if_pos hb]
     exact rboth_b c A B n k m j ws ts d C D n2 k2 m2 j2 ws2 ts2 w h1 h2 hn hm h3 h4 hn2 hm2 (hid ha) _ (by simpa using hb) (hid rfl)
 · have e:chkOO ⟨c,ws,ts⟩ ⟨d,ws2,ts2⟩=chkO ⟨c,ws,ts⟩:=by unfold chkOO;simp [ha]
   rw [e,if_pos ha]
   exact rboth_a c A B n k m j ws ts d C D n2 k2 m2 j2 ws2 ts2 w h1 h2 hn hm h3 h4 hn2 hm2 _ (by simpa using ha) (hid rfl)
def rowP (a b:Otl) (s q p:Nat):List Prg:=((List.range p).map fun j=>prAt (s:Int) q j).filter (meetsB a b)
def uptoP (a b:Otl) (s q:Nat):List Prg:=(List.range q).flatMap fun i=>rowP a b s i (b.c-(s:Int)+1).toNat
theorem rowP_zero (a b:Otl) (s q:Nat):rowP a b s q 0=[]:=rfl
theorem rowP_succ (a b:Otl) (s q p:Nat):rowP a b s q (p+1)=rowP a b s q p++(if meetsB a b ⟨(q:Int),(q:Int)+(s:Int),(p:Int),(p:Int)+(s:Int)⟩ then [⟨(q:Int),(q:Int)+(s:Int),(p:Int),(p:Int)+(s:Int)⟩] else []):=by
 unfold rowP
 rw [List.range_succ,List.map_append,List.filter_append]
 congr 1
 simp only [List.map_cons,List.map_nil,List.filter,prAt]
 cases meetsB a b ⟨(q:Int),(q:Int)+(s:Int),(p:Int),(p:Int)+(s:Int)⟩<;>rfl
theorem rowP_len (a b:Otl) (s q p:Nat):(rowP a b s q p).length≤p:=by
 unfold rowP
 have:=List.length_filter_le (meetsB a b) ((List.range p).map fun j=>prAt (s:Int) q j)
 simpa using this
theorem uptoP_succ (a b:Otl) (s q nJ:Nat) (hJ:nJ=(b.c-(s:Int)+1).toNat):uptoP a b s (q+1)=uptoP a b s q++rowP a b s q nJ:=by
 subst hJ
 unfold uptoP
 rw [List.range_succ,List.flatMap_append]
 simp
theorem uptoP_len (a b:Otl) (s nJ:Nat) (hJ:nJ=(b.c-(s:Int)+1).toNat):∀ q:Nat,(uptoP a b s q).length≤q * nJ
 | 0=>by simp [uptoP]
 | q+1=>by
  rw [uptoP_succ a b s q nJ hJ,List.length_append,Nat.succ_mul]
  exact Nat.add_le_add (uptoP_len a b s nJ hJ q) (rowP_len a b s q nJ)
theorem uptoP_all (a b:Otl) (s:Nat) (hs:1≤s):uptoP a b s (a.c-(s:Int)+1).toNat=meetL a b s:=by
 unfold uptoP meetL pairsL rowP
 rw [if_neg (by omega),List.filter_flatMap]
theorem askP {a b:Otl} (h:both a b=0) {s:Int} (hs:1≤s) {q p:Nat} (h1:(q:Int)+s≤a.c) (h2:(p:Int)+s≤b.c):asked a b ⟨(q:Int),(q:Int)+s,(p:Int),(p:Int)+s⟩=0:=by
 obtain ⟨oa,ob,-,-⟩:=both_ok h
 exact both_asked h (pairsL_chkP oa ob (s:=s) (mem_pairsL.2 ⟨hs,Int.natCast_nonneg _,rfl,h1,Int.natCast_nonneg _,rfl,h2⟩))
set_option maxRecDepth 100000 in
theorem rPairs_err (c:Int) (A B:Option Addr) (n k m j:Nat) (ws ts:List Bnd) (d:Int) (C D:Option Addr) (n2 k2 m2 j2:Nat) (ws2 ts2:List Bnd) (s:Int) (w:World) (h1:RdB w A n k ws) (h2:RdB w B m j ts) (hn:n≤maxLen) (hm:m≤maxLen) (h3:RdB w C n2 k2 ws2) (h4:RdB w D m2 j2 ts2) (hn2:n2≤maxLen) (hm2:m2≤maxLen) (q:Int) (hne:(q != 0)=true) (HQ:Hid (both ⟨c,ws,ts⟩ ⟨d,ws2,ts2⟩=q)):Calls Tryz.prog 26 #[.agg #[.int .i64 c,.slice A n k,.slice B m j],.agg #[.int .i64 d,.slice C n2 k2,.slice D m2 j2],.int .i64 s] w (RetPL ([],q) w):=by
 unfold RetPL
 have H1:=hid h1;have H2:=hid h2;have H3:=hid h3;have H4:=hid h4;clear h1 h2 h3 h4
 go_enter Tryz.func26,Tryz.ntmps26
 obtain ⟨a1,a2,a0⟩:=ent2 w #[.int .i64 c,.slice A n k,.slice B m j] 24 #[.int .i64 d,.slice C n2 k2,.slice D m2 j2] 24
 obtain ⟨a4,a5,a6⟩:=at3 a1
 obtain ⟨a7,a8,a9⟩:=at3 a2
 have hc:=rboth_any c A B n k m j ws ts d C D n2 k2 m2 j2 ws2 ts2 _ (RdB.below H1.out a0.out) (RdB.below H2.out a0.out) hn hm (RdB.below H3.out a0.out) (RdB.below H4.out a0.out) hn2 hm2
 rw [HQ.out] at hc
 try dsimp only at hc
 have HC:=hid hc;clear hc
 go_wp2_with fail
 refine HC.out.mono ?_
 rintro e b0 ⟨rfl,hb⟩
 clear HC
 clear a4 a5 a6 a7 a8 a9
 have a3:=hid hb
 clear hb
 replace a1:=kH a1 a3
 obtain ⟨b1,b2,b3⟩:=at3 a1
 replace a2:=kH a2 a3
 obtain ⟨b4,b5,b6⟩:=at3 a2
 go_wp2
 go_ret2
 replace a0:=bH a0 a3
 exact ⟨none,0,0,rfl,RdB.nil_ _,by unfold maxLen;omega,a0.out⟩
set_option maxRecDepth 100000 in
theorem rPairs_low (c:Int) (A B:Option Addr) (n k m j:Nat) (ws ts:List Bnd) (d:Int) (C D:Option Addr) (n2 k2 m2 j2:Nat) (ws2 ts2:List Bnd) (s:Int) (w:World) (h1:RdB w A n k ws) (h2:RdB w B m j ts) (hn:n≤maxLen) (hm:m≤maxLen) (h3:RdB w C n2 k2 ws2) (h4:RdB w D m2 j2 ts2) (hn2:n2≤maxLen) (hm2:m2≤maxLen) (hs:s<1) (HQ:Hid (both ⟨c,ws,ts⟩ ⟨d,ws2,ts2⟩=0)):Calls Tryz.prog 26 #[.agg #[.int .i64 c,.slice A n k,.slice B m j],.agg #[.int .i64 d,.slice C n2 k2,.slice D m2 j2],.int .i64 s] w (RetPL ([],0) w):=by
 unfold RetPL
 have H1:=hid h1;have H2:=hid h2;have H3:=hid h3;have H4:=hid h4;clear h1 h2 h3 h4
 go_enter Tryz.func26,Tryz.ntmps26
 obtain ⟨a1,a2,a0⟩:=ent2 w #[.int .i64 c,.slice A n k,.slice B m j] 24 #[.int .i64 d,.slice C n2 k2,.slice D m2 j2] 24
 obtain ⟨a4,a5,a6⟩:=at3 a1
 obtain ⟨a7,a8,a9⟩:=at3 a2
 have hc:=rboth_any c A B n k m j ws ts d C D n2 k2 m2 j2 ws2 ts2 _ (RdB.below H1.out a0.out) (RdB.below H2.out a0.out) hn hm (RdB.below H3.out a0.out) (RdB.below H4.out a0.out) hn2 hm2
 rw [HQ.out] at hc
 try dsimp only at hc
 have HC:=hid hc;clear hc
 go_wp2_with fail
 refine HC.out.mono ?_
 rintro e b0 ⟨rfl,hb⟩
 clear HC
 clear a4 a5 a6 a7 a8 a9
 have a3:=hid hb
 clear hb
 replace a1:=kH a1 a3
 obtain ⟨b1,b2,b3⟩:=at3 a1
 replace a2:=kH a2 a3
 obtain ⟨b4,b5,b6⟩:=at3 a2
 go_wp2
 go_ret2
 replace a0:=bH a0 a3
 exact ⟨none,0,0,rfl,RdB.nil_ _,by unfold maxLen;omega,a0.out⟩
set_option maxRecDepth 100000 in
theorem rPairs_high (c:Int) (A B:Option Addr) (n k m j:Nat) (ws ts:List Bnd) (d:Int) (C D:Option Addr) (n2 k2 m2 j2:Nat) (ws2 ts2:List Bnd) (s:Int) (w:World) (h1:RdB w A n k ws) (h2:RdB w B m j ts) (hn:n≤maxLen) (hm:m≤maxLen) (h3:RdB w C n2 k2 ws2) (h4:RdB w D m2 j2 ts2) (hn2:n2≤maxLen) (hm2:m2≤maxLen) (hs1:¬ s<1) (hs:16<s) (HQ:Hid (both ⟨c,ws,ts⟩ ⟨d,ws2,ts2⟩=0)):Calls Tryz.prog 26 #[.agg #[.int .i64 c,.slice A n k,.slice B m j],.agg #[.int .i64 d,.slice C n2 k2,.slice D m2 j2],.int .i64 s] w (RetPL ([],0) w):=by
 unfold RetPL
 have H1:=hid h1;have H2:=hid h2;have H3:=hid h3;have H4:=hid h4;clear h1 h2 h3 h4
 go_enter Tryz.func26,Tryz.ntmps26
 obtain ⟨a1,a2,a0⟩:=ent2 w #[.int .i64 c,.slice A n k,.slice B m j] 24 #[.int .i64 d,.slice C n2 k2,.slice D m2 j2] 24
 obtain ⟨a4,a5,a6⟩:=at3 a1
 obtain ⟨a7,a8,a9⟩:=at3 a2
 have hc:=rboth_any c A B n k m j ws ts d C D n2 k2 m2 j2 ws2 ts2 _ (RdB.below H1.out a0.out) (RdB.below H2.out a0.out) hn hm (RdB.below H3.out a0.out) (RdB.below H4.out a0.out) hn2 hm2
 rw [HQ.out] at hc
 try dsimp only at hc
 have HC:=hid hc;clear hc
 go_wp2_with fail
 refine HC.out.mono ?_
 rintro e b0 ⟨rfl,hb⟩
 clear HC
 clear a4 a5 a6 a7 a8 a9
 have a3:=hid hb
 clear hb
 replace a1:=kH a1 a3
 obtain ⟨b1,b2,b3⟩:=at3 a1
 replace a2:=kH a2 a3
 obtain ⟨b4,b5,b6⟩:=at3 a2
 go_wp2
 go_ret2
 replace a0:=bH a0 a3
 exact ⟨none,0,0,rfl,RdB.nil_ _,by unfold maxLen;omega,a0.out⟩
set_option maxRecDepth 100000 in
theorem rPairs_ok (c:Int) (A B:Option Addr) (n k m j:Nat) (ws ts:List Bnd) (d:Int) (C D:Option Addr) (n2 k2 m2 j2:Nat) (ws2 ts2:List Bnd) (s:Nat) (w:World) (h1:RdB w A n k ws) (h2:RdB w B m j ts) (hn:n≤maxLen) (hm:m≤maxLen) (h3:RdB w C n2 k2 ws2) (h4:RdB w D m2 j2 ts2) (hn2:n2≤maxLen) (hm2:m2≤maxLen) (hs1:¬ (s:Int)<1) (hs2:¬ (16:Int)<(s:Int)) (hc1:3≤c) (hc2:c≤16) (hd1:3≤d) (hd2:d≤16) (nI nJ:Nat) (HNI:Hid (nI=(c-(s:Int)+1).toNat)) (HNJ:Hid (nJ=(d-(s:Int)+1).toNat)) (HJ:Hid (nJ=((Otl.mk d ws2 ts2).c-(s:Int)+1).toNat)) (HNB:Hid (nI≤17∧nJ≤17)) (HQ:Hid (both ⟨c,ws,ts⟩ ⟨d,ws2,ts2⟩=0)) :
 Calls Tryz.prog 26 #[.agg #[.int .i64 c,.slice A n k,.slice B m j],.agg #[.int .i64 d,.slice C n2 k2,.slice D m2 j2],.int .i64 (s:Int)] w (RetPL (uptoP ⟨c,ws,ts⟩ ⟨d,ws2,ts2⟩ s nI,0) w):=by
 unfold RetPL
 have H1:=hid h1;have H2:=hid h2;have H3:=hid h3;have H4:=hid h4;clear h1 h2 h3 h4
 go_enter Tryz.func26,Tryz.ntmps26
 obtain ⟨b0,b1,a6⟩:=ent2 w #[.int .i64 c,.slice A n k,.slice B m j] 24 #[.int .i64 d,.slice C n2 k2,.slice D m2 j2] 24
 obtain ⟨f4,f5,f6⟩:=at3 b0
 obtain ⟨f7,f8,f9⟩:=at3 b1
 have hc:=rboth_any c A B n k m j ws ts d C D n2 k2 m2 j2 ws2 ts2 _ (RdB.below H1.out a6.out) (RdB.below H2.out a6.out) hn hm (RdB.below H3.out a6.out) (RdB.below H4.out a6.out) hn2 hm2
 rw [HQ.out] at hc
 try dsimp only at hc
 have HC:=hid hc;clear hc
 go_wp2_with fail
 refine HC.out.mono ?_
 rintro e g0 ⟨rfl,hb⟩
 clear HC
 clear f4 f5 f6 f7 f8 f9
 have b9:=hid hb
 clear hb
 replace b0:=kH b0 b9
 obtain ⟨e8,e9,f0⟩:=at3 b0
 replace b1:=kH b1 b9
 obtain ⟨f1,f2,f3⟩:=at3 b1
 go_wp2
 clear e8 e9 f0 f1 f2 f3
 replace a6:=bH a6 b9
 go_loopw [9,10] (fun v i wr=>∃ q:Nat,q≤nI∧i=.int .i64 q∧wr.ownsRow (w.heap.size+1+1) 28 4 v (uptoP ⟨c,ws,ts⟩ ⟨d,ws2,ts2⟩ s q).length (bcells ((uptoP ⟨c,ws,ts⟩ ⟨d,ws2,ts2⟩ s q).map pB))∧Blk wr (w.heap.size) 24 #[.int .i64 c,.slice A n k,.slice B m j]∧Blk wr (w.heap.size+1) 24 #[.int .i64 d,.slice C n2 k2,.slice D m2 j2]∧Below w.heap.size w wr) (fun v i _=>nI-(intOf i).toNat)
 case atStart=>exact ⟨0,Nat.zero_le _,rfl,World.ownsRow_nil _ _ _ _,b0.out,b1.out,a6.out⟩
 case round =>
  clear a6 b0 b1
  obtain ⟨q,hq,rfl,i1,i2,i3,i4⟩:=hrel
  obtain ⟨wo,rfl⟩:∃ wo,wo=wr:=⟨wr,rfl⟩
  have b2:=hid (i1)
  have a7:=hid (i2)
  have a8:=hid (i3)
  have a9:=hid (i4)
  clear i1 i2 i3 i4
  by_cases hlt:q<nI
  · have hle:(q:Int)+(s:Int)≤c:=by have:=HNI.out;omega
    have hwq:IntKind.i64.wrap ((q:Int)+(s:Int))=(q:Int)+(s:Int):=IntWalk.i64_in _ (by omega)
    have HLT:=hid hlt;clear hlt
    obtain ⟨c0,c1,c2⟩:=at3 a7
    obtain ⟨c3,c4,c5⟩:=at3 a8
    go_wp2
    clear c0 c1 c2 c3 c4 c5
    go_loopw [9,11] (fun v i wr=>∃ p:Nat,p≤nJ∧i=.int .i64 p∧wr.ownsRow (w.heap.size+1+1) 28 4 v (uptoP ⟨c,ws,ts⟩ ⟨d,ws2,ts2⟩ s q++rowP ⟨c,ws,ts⟩ ⟨d,ws2,ts2⟩ s q p).length (bcells ((uptoP ⟨c,ws,ts⟩ ⟨d,ws2,ts2⟩ s q++rowP ⟨c,ws,ts⟩ ⟨d,ws2,ts2⟩ s q p).map pB))∧Blk wr (w.heap.size) 24 #[.int .i64 c,.slice A n k,.slice B m j]∧Blk wr (w.heap.size+1) 24 #[.int .i64 d,.slice C n2 k2,.slice D m2 j2]∧Below w.heap.size w wr) (fun v i _=>nJ-(intOf i).toNat)
    case atStart=>exact ⟨0,Nat.zero_le _,rfl,by rw [rowP_zero,List.append_nil];exact b2.out,a7.out,a8.out,a9.out⟩
    case round =>
     clear b2 a7 a8 a9
     obtain ⟨p,hp,rfl,i1,i2,i3,i4⟩:=hrel
     obtain ⟨wi,rfl⟩:∃ wi,wi=wr:=⟨wr,rfl⟩
     have a4:=hid (i1)
     have a2:=hid (i2)
     have a1:=hid (i3)
     have a0:=hid (i4)
     clear i1 i2 i3 i4
     by_cases hpt:p<nJ
     · have hle2:(p:Int)+(s:Int)≤d:=by have:=HNJ.out;omega
       have hwp:IntKind.i64.wrap ((p:Int)+(s:Int))=(p:Int)+(s:Int):=IntWalk.i64_in _ (by omega)
       have HAS:=hid (askP HQ.out (show (1:Int)≤(s:Int) by omega) hle hle2);have HPT:=hid hpt;clear hpt
       have hst:=rowP_succ ⟨c,ws,ts⟩ ⟨d,ws2,ts2⟩ s q p;have HST:=hid hst;clear hst
       have hln:(uptoP ⟨c,ws,ts⟩ ⟨d,ws2,ts2⟩ s q++rowP ⟨c,ws,ts⟩ ⟨d,ws2,ts2⟩ s q p).length≤100000:=by have h1:=uptoP_len ⟨c,ws,ts⟩ ⟨d,ws2,ts2⟩ s nJ HJ.out q;have h2:=rowP_len ⟨c,ws,ts⟩ ⟨d,ws2,ts2⟩ s q p;rw [List.length_append];have h3:=HLT.out;have h4:=HPT.out;have h5:=HNB.out;exact Nat.le_trans (Nat.add_le_add h1 h2) (by have:q * nJ≤17 * 17:=Nat.mul_le_mul (by omega) (by omega);omega)
       have HLN:=hid hln;clear hln
       obtain ⟨b3,b4,b5⟩:=at3 a2
       obtain ⟨b6,b7,b8⟩:=at3 a1
       obtain ⟨o_,ho_⟩:∃ o,o=((.cells #[.int .i64 (q:Int),.int .i64 ((q:Int)+(s:Int)),.int .i64 (p:Int),.int .i64 ((p:Int)+(s:Int))] 28):Obj):=⟨_,rfl⟩
       replace a4:=hid (World.ownsRow.alloc (a4.out) (o_))
       replace a2:=kA a2 o_
       replace a1:=kA a1 o_
       replace a0:=bA a0 o_
       subst ho_
       have a5:=hid (Blk.new wi 28 #[.int .i64 (q:Int),.int .i64 ((q:Int)+(s:Int)),.int .i64 (p:Int),.int .i64 ((p:Int)+(s:Int))])
       obtain ⟨c6,c7,c8⟩:=at3 a2
       obtain ⟨d0,d1,d2⟩:=at3 a1
       obtain ⟨d3,d4,d5,d6⟩:=at4 a5
       cases hmm:meetsB ⟨c,ws,ts⟩ ⟨d,ws2,ts2⟩ ⟨(q:Int),(q:Int)+(s:Int),(p:Int),(p:Int)+(s:Int)⟩
       · have HMM:=hid hmm;clear hmm
         have hc:=rmeets_any c A B n k m j ws ts d C D n2 k2 m2 j2 ws2 ts2 (q:Int) ((q:Int)+(s:Int)) (p:Int) ((p:Int)+(s:Int)) _ (RdB.below H1.out a0.out) (RdB.below H2.out a0.out) hn hm (RdB.below H3.out a0.out) (RdB.below H4.out a0.out) hn2 hm2 HAS.out
         rw [HMM.out] at hc
         try dsimp only at hc
         have HC:=hid hc;clear hc
         go_wp2_with fail
         refine HC.out.mono ?_
         rintro e d7 ⟨rfl,hb⟩
         clear HC
         clear b3 b4 b5 b6 b7 b8 c6 c7 c8 d0 d1 d2 d3 d4 d5 d6
         have a3:=hid hb
         clear hb
         replace a2:=kH a2 a3
         obtain ⟨d8,d9,e0⟩:=at3 a2
         replace a1:=kH a1 a3
         obtain ⟨e1,e2,e3⟩:=at3 a1
         replace a5:=kH a5 a3
         obtain ⟨e4,e5,e6,e7⟩:=at4 a5
         go_wp2
         replace a4:=hid (owns_below (a4.out) a3.out)
         replace a0:=bH a0 a3
         go_roundw
         case rel=>exact ⟨p+1,by have:=HPT.out;omega,by go_num,by rw [HST.out,HMM.out,if_neg (by simp),List.append_nil];exact a4.out,a2.out,a1.out,a0.out⟩
         case measure=>have:=HPT.out;simp [intOf];omega
       · have HMM:=hid hmm;clear hmm
         have hc:=rmeets_any c A B n k m j ws ts d C D n2 k2 m2 j2 ws2 ts2 (q:Int) ((q:Int)+(s:Int)) (p:Int) ((p:Int)+(s:Int)) _ (RdB.below H1.out a0.out) (RdB.below H2.out a0.out) hn hm (RdB.below H3.out a0.out) (RdB.below H4.out a0.out) hn2 hm2 HAS.out
         rw [HMM.out] at hc
         try dsimp only at hc
         have HC:=hid hc;clear hc
         go_wp2_with fail
         refine HC.out.mono ?_
         rintro e d7 ⟨rfl,hb⟩
         clear HC
         clear b3 b4 b5 b6 b7 b8 c6 c7 c8 d0 d1 d2 d3 d4 d5 d6
         have a3:=hid hb
         clear hb
         replace a2:=kH a2 a3
         obtain ⟨d8,d9,e0⟩:=at3 a2
         replace a1:=kH a1 a3
         obtain ⟨e1,e2,e3⟩:=at3 a1
         replace a5:=kH a5 a3
         obtain ⟨e4,e5,e6,e7⟩:=at4 a5
         have HML:=hid (show (uptoP ⟨c,ws,ts⟩ ⟨d,ws2,ts2⟩ s q++rowP ⟨c,ws,ts⟩ ⟨d,ws2,ts2⟩ s q p).length+1≤maxLen∧((uptoP ⟨c,ws,ts⟩ ⟨d,ws2,ts2⟩ s q++rowP ⟨c,ws,ts⟩ ⟨d,ws2,ts2⟩ s q p).length+1) * 32≤140737488355328 by have h:=HLN.out;unfold maxLen;omega)
         obtain ⟨i0,hi,hz0,hz1,hz2⟩:=info_parts TryzinfoPR
         have HI:=hid hi;have HZ0:=hid hz0;have HZ1:=hid hz1;have HZ2:=hid hz2;clear hi hz0 hz1 hz2
         have hszE:=Nat.succ_le_of_lt (Blk.lt a1.out)
         replace a4:=hid (owns_below (a4.out) a3.out)
         have ownA:=(a4.out).alloc (.cells #[.int .i64 (q:Int),.int .i64 ((q:Int)+(s:Int)),.int .i64 (p:Int),.int .i64 ((p:Int)+(s:Int))] 28)
         have OWA:=hid ownA;have hlr:=World.ownsRow.lt ownA;have HLR:=hid hlr;clear ownA hlr
         go_wp2_with (at_builtin;refine wpList_append_own _ rfl _ _ 56 rfl (w.heap.size+1+1) 28 i0 _ 4 32 Tryz.underlying56 HI.out HZ0.out HZ1.out HZ2.out rfl (by decide) _ _ _ rfl OWA.out ⟨(d7).heap.size,0,none⟩ 1 1 [.int .i64 (q:Int),.int .i64 ((q:Int)+(s:Int)),.int .i64 (p:Int),.int .i64 ((p:Int)+(s:Int))] rfl rfl (cells_new4 _ _ _ _ _ _) (by simp [Value.oneCell']) HML.out.1 HML.out.2 (by simp;omega) ?_;intro v2 w7 hown7 hgrow7 _)
         have bA:=blk_grown (Blk.alloc a2.out (.cells #[.int .i64 (q:Int),.int .i64 ((q:Int)+(s:Int)),.int .i64 (p:Int),.int .i64 ((p:Int)+(s:Int))] 28)) hgrow7 (fun e=>by have:=(HLR.out _ e).1;omega)
         have bB:=blk_grown (Blk.alloc a1.out (.cells #[.int .i64 (q:Int),.int .i64 ((q:Int)+(s:Int)),.int .i64 (p:Int),.int .i64 ((p:Int)+(s:Int))] 28)) hgrow7 (fun e=>by have:=(HLR.out _ e).1;omega)
         replace a0:=bH a0 a3
         have beA:=Below.alloc a0.out ((a0.out).size) (.cells #[.int .i64 (q:Int),.int .i64 ((q:Int)+(s:Int)),.int .i64 (p:Int),.int .i64 ((p:Int)+(s:Int))] 28)
         have be7:=Below.grown beA hgrow7 (Below.size beA) (fun q e=>by have:=(HLR.out _ e).1;omega)
         have H7:=hid (And.intro hown7 (And.intro bA (And.intro bB be7)));clear hown7 bA bB be7 beA hgrow7
         go_wp2
         go_roundw
         case rel=>exact ⟨p+1,by have:=HPT.out;omega,by go_num,by rw [HST.out,HMM.out,if_pos rfl,← List.append_assoc,List.map_append,bcells_append,List.length_append];exact H7.out.1,H7.out.2.1,H7.out.2.2.1,H7.out.2.2.2⟩
         case measure=>have:=HPT.out;simp [intOf];omega
     · obtain rfl:p=nJ:=by omega
       have hgt:¬ (p:Int)+(s:Int)≤d:=by have:=HNJ.out;omega
       have hwp:IntKind.i64.wrap ((p:Int)+(s:Int))=(p:Int)+(s:Int):=IntWalk.i64_in _ (by have:=HNJ.out;omega)
       have hup:=uptoP_succ ⟨c,ws,ts⟩ ⟨d,ws2,ts2⟩ s q p HJ.out;have HUP:=hid hup;clear hup
       obtain ⟨b3,b4,b5⟩:=at3 a2
       obtain ⟨b6,b7,b8⟩:=at3 a1
       go_wp2
       go_roundw
       case rel=>exact ⟨q+1,by have:=HLT.out;omega,by go_num,by rw [HUP.out];exact a4.out,a2.out,a1.out,a0.out⟩
       case measure=>have:=HLT.out;simp [intOf];omega
  · obtain rfl:q=nI:=by omega
    have hgt:¬ (q:Int)+(s:Int)≤c:=by have:=HNI.out;omega
    have hwq:IntKind.i64.wrap ((q:Int)+(s:Int))=(q:Int)+(s:Int):=IntWalk.i64_in _ (by have:=HNI.out;omega)
    obtain ⟨A9,c9,rfl,h91,h92,h93,h94⟩:=own_form (b2.out)
    have H9:=hid (And.intro h91 (And.intro h92 (And.intro h93 h94)));clear h91 h92 h93 h94
    obtain ⟨c0,c1,c2⟩:=at3 a7
    obtain ⟨c3,c4,c5⟩:=at3 a8
    go_wp2
    go_ret2
    exact ⟨A9,_,c9,rfl,⟨by rw [List.length_map],H9.out.1,H9.out.2.2.1,H9.out.2.2.2⟩,Nat.le_trans H9.out.1 H9.out.2.1,a9.out⟩
theorem rPairs_any (c:Int) (A B:Option Addr) (n k m j:Nat) (ws ts:List Bnd) (d:Int) (C D:Option Addr) (n2 k2 m2 j2:Nat) (ws2 ts2:List Bnd) (s:Int) (w:World) (h1:RdB w A n k ws) (h2:RdB w B m j ts) (hn:n≤maxLen) (hm:m≤maxLen) (h3:RdB w C n2 k2 ws2) (h4:RdB w D m2 j2 ts2) (hn2:n2≤maxLen) (hm2:m2≤maxLen):Calls Tryz.prog 26 #[.agg #[.int .i64 c,.slice A n k,.slice B m j],.agg #[.int .i64 d,.slice C n2 k2,.slice D m2 j2],.int .i64 s] w (RetPL (pairsV ⟨c,ws,ts⟩ ⟨d,ws2,ts2⟩ s) w):=by
 unfold pairsV
 by_cases hq:both ⟨c,ws,ts⟩ ⟨d,ws2,ts2⟩=0
 · rw [if_pos hq]
   by_cases hs:s<1
   · have:meetL ⟨c,ws,ts⟩ ⟨d,ws2,ts2⟩ s=[]:=by unfold meetL pairsL;rw [if_pos hs];rfl
     rw [this]
     exact rPairs_low c A B n k m j ws ts d C D n2 k2 m2 j2 ws2 ts2 s w h1 h2 hn hm h3 h4 hn2 hm2 hs (hid hq)
   · obtain ⟨oa,ob,-,-⟩:=both_ok hq
     obtain ⟨a1,a2,-,-⟩:=chkO_ok oa
     obtain ⟨b1,b2,-,-⟩:=chkO_ok ob
     by_cases hs2:16<s
     · have:meetL ⟨c,ws,ts⟩ ⟨d,ws2,ts2⟩ s=[]:=by
        refine List.eq_nil_iff_forall_not_mem.2 fun p hp=>?_
        obtain ⟨h1,h2,h3,h4,h5,h6,h7⟩:=mem_pairsL.1 (mem_meetL.1 hp).1
        omega
       rw [this]
       exact rPairs_high c A B n k m j ws ts d C D n2 k2 m2 j2 ws2 ts2 s w h1 h2 hn hm h3 h4 hn2 hm2 hs hs2 (hid hq)
     · obtain ⟨s,rfl⟩:=Int.eq_ofNat_of_zero_le (show 0≤s by omega)
       rw [← uptoP_all _ _ s (by omega)]
       dsimp only at a1 a2 b1 b2 ⊢
       exact rPairs_ok c A B n k m j ws ts d C D n2 k2 m2 j2 ws2 ts2 s w h1 h2 hn hm h3 h4 hn2 hm2 hs hs2 a1 a2 b1 b2 _ _ (hid rfl) (hid rfl) (hid rfl) (hid ⟨by omega,by omega⟩) (hid hq)
 · rw [if_neg hq]
   exact rPairs_err c A B n k m j ws ts d C D n2 k2 m2 j2 ws2 ts2 s w h1 h2 hn hm h3 h4 hn2 hm2 _ (by simpa using hq) (hid rfl)
end Go.Proofs.YtjjmifcjailpaaaGreat
