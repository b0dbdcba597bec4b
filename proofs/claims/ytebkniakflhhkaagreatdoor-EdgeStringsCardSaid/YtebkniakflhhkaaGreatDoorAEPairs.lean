import Derived.Test.YtebkniakflhhkaaGreatDoorAEIter
set_option maxHeartbeats 4000000
set_option linter.unusedSimpArgs false
set_option linter.unusedVariables false
namespace Go.Proofs.YtebkniakflhhkaaGreatDoor
open Go.Lib (hid)
open Go.RowKit Go.Shelf
theorem chkOO_lens {a b:Otl} (h:chkOO a b=0):a.ws.length≤400∧a.ts.length≤400∧b.ws.length≤400∧b.ts.length≤400:=by
 obtain ⟨oa,ob⟩:=chkOO_ok h
 obtain ⟨a1,a2,a3,a4⟩:=chkO_ok oa
 obtain ⟨b1,b2,b3,b4⟩:=chkO_ok ob
 exact ⟨(chk_ok a3).2.2.1,(chk_ok a4).2.2.1,(chk_ok b3).2.2.1,(chk_ok b4).2.2.1⟩
set_option maxRecDepth 100000 in
theorem outlinesOf_yes (c:Int) (A B:Option Addr) (n k m j:Nat) (ws ts:List Bnd) (d:Int) (C D:Option Addr) (n2 k2 m2 j2:Nat) (ws2 ts2:List Bnd) (w:World) (h1:RdB w A n k ws) (h2:RdB w B m j ts) (hn:n≤maxLen) (hm:m≤maxLen) (h3:RdB w C n2 k2 ws2) (h4:RdB w D m2 j2 ts2) (hn2:n2≤maxLen) (hm2:m2≤maxLen) (h0:both ⟨c,ws,ts⟩ ⟨d,ws2,ts2⟩=0) :
 Calls Tryz.prog 35 #[.agg #[.int .i64 c,.slice A n k,.slice B m j],.agg #[.int .i64 d,.slice C n2 k2,.slice D m2 j2]] w fun e w'=>e=.returned (.tuple #[.agg #[.int .i64 c,.slice A n k,.slice B m j,.int .i64 d,.slice C n2 k2,.slice D m2 j2],.int .i64 0])∧Below w.heap.size w w':=by
 unfold both at h0
 split at h0
 · rename_i h1;exact absurd h0 h1
 · rename_i h1
   split at h0
   · cases h0
   · rename_i h2
     have hoo:chkOO ⟨c,ws,ts⟩ ⟨d,ws2,ts2⟩=0:=by simpa using h1
     have HL4:=hid (chkOO_lens hoo)
     have E1:=hid hoo;have E2:=hid (show large ⟨c,ws,ts⟩ ⟨d,ws2,ts2⟩=false by simpa using h2);clear h0 h1 h2 hoo
     go_enter Tryz.func35,Tryz.ntmps35
     obtain ⟨a2,a3,a0,a1⟩:=ent3 w #[.int .i64 c,.slice A n k,.slice B m j] 35 #[.int .i64 d,.slice C n2 k2,.slice D m2 j2] 35 #[.int .i64 0,.slice none 0 0,.slice none 0 0,.int .i64 0,.slice none 0 0,.slice none 0 0] 76
     have a8:=rI h1 a1
     have a9:=rI h2 a1
     have b0:=rI h3 a1
     have b1:=rI h4 a1
     clear h1 h2 h3 h4
     have la:=a8.out.len
     have lb:=a9.out.len
     have lc:=b0.out.len
     have ld:=b1.out.len
     obtain ⟨f4,b8,b9⟩:=at3 a2
     obtain ⟨c0,c1,c2⟩:=at3 a3
     obtain ⟨c3,c4,c5,c6,c7,c8⟩:=at6 a0
     have hc:=checkOutlines_any c A B n k m j ws ts d C D n2 k2 m2 j2 ws2 ts2 _ a8.out a9.out hn hm b0.out b1.out hn2 hm2
     rw [E1.out] at hc
     try dsimp only at hc
     have HC:=hid hc;clear hc
     go_wp2_with fail
     refine HC.out.mono ?_
     rintro e c9 ⟨rfl,hb⟩
     clear HC
     clear f4 b8 b9 c0 c1 c2 c3 c4 c5 c6 c7 c8
     have a5:=hid hb
     clear hb
     replace a2:=kH a2 a5
     obtain ⟨d0,d1,d2⟩:=at3 a2
     replace a3:=kH a3 a5
     obtain ⟨d3,d4,d5⟩:=at3 a3
     replace a0:=kH a0 a5
     obtain ⟨d6,d7,d8,d9,e0,e1⟩:=at6 a0
     have hc:=areLarge_any c A B n k m j ws ts d C D n2 k2 m2 j2 ws2 ts2 (c9) ⟨la,lb,lc,ld⟩ HL4.out
     rw [E2.out] at hc
     try dsimp only at hc
     have HC:=hid hc;clear hc
     go_wp2_with fail
     refine HC.out.mono ?_
     rintro e a4 ⟨rfl,hb⟩
     clear HC
     clear d0 d1 d2 d3 d4 d5 d6 d7 d8 d9 e0 e1
     have a6:=hid hb
     clear hb
     replace a2:=kH a2 a6
     obtain ⟨e2,e3,e4⟩:=at3 a2
     replace a3:=kH a3 a6
     obtain ⟨e5,e6,e7⟩:=at3 a3
     replace a0:=kH a0 a6
     obtain ⟨e8,e9,f0,f1,f2,f3⟩:=at6 a0
     clear la lb lc ld
     have b2:(a4).frozen? ⟨w.heap.size+1+1,0,none⟩=false:=Blk.frozen a0.out 0
     have b3:(a4).frozen? ⟨w.heap.size+1+1,1,none⟩=false:=Blk.frozen a0.out 1
     have b4:(a4).frozen? ⟨w.heap.size+1+1,2,none⟩=false:=Blk.frozen a0.out 2
     have b5:(a4).frozen? ⟨w.heap.size+1+1,3,none⟩=false:=Blk.frozen a0.out 3
     have b6:(a4).frozen? ⟨w.heap.size+1+1,4,none⟩=false:=Blk.frozen a0.out 4
     have b7:(a4).frozen? ⟨w.heap.size+1+1,5,none⟩=false:=Blk.frozen a0.out 5
     replace a1:=bH (bH a1 a5) a6
     have a7:=a1.out
     go_wp2
     refine bodyPost_ret (v:=.tuple #[.agg #[.int .i64 c,.slice A n k,.slice B m j,.int .i64 d,.slice C n2 k2,.slice D m2 j2],.int .i64 0]) (by simp [results,Tryz.results35,go_sem,e2,e3,e4,e5,e6,e7,e8,e9,f0,f1,f2,f3,b2,b3,b4,b5,b6,b7]) rfl ⟨rfl,(by have hsz_:=Below.size a7;repeat' (first|with_reducible exact a7|with_reducible exact Below.refl _ _|with_reducible refine Below.alloc ?_ ?_ _|with_reducible refine Below.setCell ?_ ?_ _|with_reducible refine Below.drew ?_|with_reducible refine below_setRow ?_ ?_ _|omega | (simp;done) | (simp;omega)))⟩
set_option maxRecDepth 100000 in
theorem outlinesOf_no (c:Int) (A B:Option Addr) (n k m j:Nat) (ws ts:List Bnd) (d:Int) (C D:Option Addr) (n2 k2 m2 j2:Nat) (ws2 ts2:List Bnd) (w:World) (h1:RdB w A n k ws) (h2:RdB w B m j ts) (hn:n≤maxLen) (hm:m≤maxLen) (h3:RdB w C n2 k2 ws2) (h4:RdB w D m2 j2 ts2) (hn2:n2≤maxLen) (hm2:m2≤maxLen) (q:Int) (h0:both ⟨c,ws,ts⟩ ⟨d,ws2,ts2⟩=q) (hne:q≠0) :
 Calls Tryz.prog 35 #[.agg #[.int .i64 c,.slice A n k,.slice B m j],.agg #[.int .i64 d,.slice C n2 k2,.slice D m2 j2]] w fun e w'=>e=.returned (.tuple #[.agg #[.int .i64 0,.slice none 0 0,.slice none 0 0,.int .i64 0,.slice none 0 0,.slice none 0 0],.int .i64 q])∧Below w.heap.size w w':=by
 unfold both at h0
 split at h0
 · have E1:=hid h0;clear h0
   have hq:(q != 0)=true:=by simpa using hne
   clear hne
   rename_i h1;clear h1
   go_enter Tryz.func35,Tryz.ntmps35
   obtain ⟨a2,a3,a0,a1⟩:=ent3 w #[.int .i64 c,.slice A n k,.slice B m j] 35 #[.int .i64 d,.slice C n2 k2,.slice D m2 j2] 35 #[.int .i64 0,.slice none 0 0,.slice none 0 0,.int .i64 0,.slice none 0 0,.slice none 0 0] 76
   have a8:=rI h1 a1
   have a9:=rI h2 a1
   have b0:=rI h3 a1
   have b1:=rI h4 a1
   clear h1 h2 h3 h4
   have la:=a8.out.len
   have lb:=a9.out.len
   have lc:=b0.out.len
   have ld:=b1.out.len
   obtain ⟨d7,b2,b3⟩:=at3 a2
   obtain ⟨b4,b5,b6⟩:=at3 a3
   obtain ⟨b7,b8,b9,c0,c1,c2⟩:=at6 a0
   have hc:=checkOutlines_any c A B n k m j ws ts d C D n2 k2 m2 j2 ws2 ts2 _ a8.out a9.out hn hm b0.out b1.out hn2 hm2
   rw [E1.out] at hc
   try dsimp only at hc
   have HC:=hid hc;clear hc
   go_wp2_with fail
   refine HC.out.mono ?_
   rintro e a5 ⟨rfl,hb⟩
   clear HC
   clear d7 b2 b3 b4 b5 b6 b7 b8 b9 c0 c1 c2
   have a4:=hid hb
   clear hb
   replace a2:=kH a2 a4
   obtain ⟨c3,c4,c5⟩:=at3 a2
   replace a3:=kH a3 a4
   obtain ⟨c6,c7,c8⟩:=at3 a3
   replace a0:=kH a0 a4
   obtain ⟨c9,d0,d1,d2,d3,d4⟩:=at6 a0
   have d8:(a5).frozen? ⟨w.heap.size+1+1,0,none⟩=false:=Blk.frozen a0.out 0
   have d9:(a5).frozen? ⟨w.heap.size+1+1,1,none⟩=false:=Blk.frozen a0.out 1
   have e0:(a5).frozen? ⟨w.heap.size+1+1,2,none⟩=false:=Blk.frozen a0.out 2
   have e1:(a5).frozen? ⟨w.heap.size+1+1,3,none⟩=false:=Blk.frozen a0.out 3
   have e2:(a5).frozen? ⟨w.heap.size+1+1,4,none⟩=false:=Blk.frozen a0.out 4
   have e3:(a5).frozen? ⟨w.heap.size+1+1,5,none⟩=false:=Blk.frozen a0.out 5
   replace a1:=bH a1 a4
   have d5:=a1.out
   go_wp2
   refine bodyPost_ret (v:=.tuple #[.agg #[.int .i64 0,.slice none 0 0,.slice none 0 0,.int .i64 0,.slice none 0 0,.slice none 0 0],.int .i64 q]) (by simp [results,Tryz.results35,go_sem,c3,c4,c5,c6,c7,c8,c9,d0,d1,d2,d3,d4,d8,d9,e0,e1,e2,e3]) rfl ⟨rfl,(by have hsz_:=Below.size d5;repeat' (first|with_reducible exact d5|with_reducible exact Below.refl _ _|with_reducible refine Below.alloc ?_ ?_ _|with_reducible refine Below.setCell ?_ ?_ _|with_reducible refine Below.drew ?_|with_reducible refine below_setRow ?_ ?_ _|omega | (simp;done) | (simp;omega)))⟩
 · rename_i h1
   split at h0
   · rename_i h2
     subst h0
     have hoo:chkOO ⟨c,ws,ts⟩ ⟨d,ws2,ts2⟩=0:=by simpa using h1
     have HL4:=hid (chkOO_lens hoo)
     have E1:=hid hoo;have E2:=hid h2;clear hne h1 h2 hoo
     go_enter Tryz.func35,Tryz.ntmps35
     obtain ⟨a2,a3,a0,a1⟩:=ent3 w #[.int .i64 c,.slice A n k,.slice B m j] 35 #[.int .i64 d,.slice C n2 k2,.slice D m2 j2] 35 #[.int .i64 0,.slice none 0 0,.slice none 0 0,.int .i64 0,.slice none 0 0,.slice none 0 0] 76
     have a8:=rI h1 a1
     have a9:=rI h2 a1
     have b0:=rI h3 a1
     have b1:=rI h4 a1
     clear h1 h2 h3 h4
     have la:=a8.out.len
     have lb:=a9.out.len
     have lc:=b0.out.len
     have ld:=b1.out.len
     obtain ⟨d7,b2,b3⟩:=at3 a2
     obtain ⟨b4,b5,b6⟩:=at3 a3
     obtain ⟨b7,b8,b9,c0,c1,c2⟩:=at6 a0
     have hc:=checkOutlines_any c A B n k m j ws ts d C D n2 k2 m2 j2 ws2 ts2 _ a8.out a9.out hn hm b0.out b1.out hn2 hm2
     rw [E1.out] at hc
     try dsimp only at hc
     have HC:=hid hc;clear hc
     go_wp2_with fail
     refine HC.out.mono ?_
     rintro e a5 ⟨rfl,hb⟩
     clear HC
     clear d7 b2 b3 b4 b5 b6 b7 b8 b9 c0 c1 c2
     have a4:=hid hb
     clear hb
     replace a2:=kH a2 a4
     obtain ⟨c3,c4,c5⟩:=at3 a2
     replace a3:=kH a3 a4
     obtain ⟨c6,c7,c8⟩:=at3 a3
     replace a0:=kH a0 a4
     obtain ⟨c9,d0,d1,d2,d3,d4⟩:=at6 a0
     have hc:=areLarge_any c A B n k m j ws ts d C D n2 k2 m2 j2 ws2 ts2 (a5) ⟨la,lb,lc,ld⟩ HL4.out
     rw [E2.out] at hc
     try dsimp only at hc
     have HC:=hid hc;clear hc
     go_wp2_with fail
     refine HC.out.mono ?_
     rintro e a6 ⟨rfl,hb⟩
     clear HC
     clear c3 c4 c5 c6 c7 c8 c9 d0 d1 d2 d3 d4
     have a7:=hid hb
     clear hb
     replace a2:=kH a2 a7
     obtain ⟨f0,f1,f2⟩:=at3 a2
     replace a3:=kH a3 a7
     obtain ⟨f3,f4,f5⟩:=at3 a3
     replace a0:=kH a0 a7
     obtain ⟨f6,f7,f8,f9,g0,g1⟩:=at6 a0
     clear la lb lc ld
     have e4:(a6).frozen? ⟨w.heap.size+1+1,0,none⟩=false:=Blk.frozen a0.out 0
     have e5:(a6).frozen? ⟨w.heap.size+1+1,1,none⟩=false:=Blk.frozen a0.out 1
     have e6:(a6).frozen? ⟨w.heap.size+1+1,2,none⟩=false:=Blk.frozen a0.out 2
     have e7:(a6).frozen? ⟨w.heap.size+1+1,3,none⟩=false:=Blk.frozen a0.out 3
     have e8:(a6).frozen? ⟨w.heap.size+1+1,4,none⟩=false:=Blk.frozen a0.out 4
     have e9:(a6).frozen? ⟨w.heap.size+1+1,5,none⟩=false:=Blk.frozen a0.out 5
     replace a1:=bH (bH a1 a4) a7
     have d6:=a1.out
     go_wp2
     refine bodyPost_ret (v:=.tuple #[.agg #[.int .i64 0,.slice none 0 0,.slice none 0 0,.int .i64 0,.slice none 0 0,.slice none 0 0],.int .i64 2]) (by simp [results,Tryz.results35,go_sem,f0,f1,f2,f3,f4,f5,f6,f7,f8,f9,g0,g1,e4,e5,e6,e7,e8,e9]) rfl ⟨rfl,(by have hsz_:=Below.size d6;repeat' (first|with_reducible exact d6|with_reducible exact Below.refl _ _|with_reducible refine Below.alloc ?_ ?_ _|with_reducible refine Below.setCell ?_ ?_ _|with_reducible refine Below.drew ?_|with_reducible refine below_setRow ?_ ?_ _|omega | (simp;done) | (simp;omega)))⟩
   · exact absurd h0.symm hne
set_option maxRecDepth 100000 in
theorem most_any (c:Int) (A B:Option Addr) (n k m j:Nat) (d:Int) (C D:Option Addr) (n2 k2 m2 j2:Nat) (w:World) :
 Calls Tryz.prog 36 #[.agg #[.int .i64 c,.slice A n k,.slice B m j,.int .i64 d,.slice C n2 k2,.slice D m2 j2]] w fun e w'=>e=.returned (.int .i64 (min c d))∧Below w.heap.size w w':=by
  go_enter Tryz.func36,Tryz.ntmps36
  obtain ⟨a1,a0⟩:=ent1 w #[.int .i64 c,.slice A n k,.slice B m j,.int .i64 d,.slice C n2 k2,.slice D m2 j2] 76
  obtain ⟨a2,a3,a4,a5,a6,a7⟩:=at6 a1
  go_wp2
  go_ret
  exact ⟨ret_int (by omega),a0.out⟩
theorem meeting_any (c:Int) (A B:Option Addr) (n k m j:Nat) (d:Int) (C D:Option Addr) (n2 k2 m2 j2:Nat) (s:Int) (w:World) :
 Calls Tryz.prog 37 #[.agg #[.int .i64 c,.slice A n k,.slice B m j,.int .i64 d,.slice C n2 k2,.slice D m2 j2],.int .i64 s] w fun e w'=>∃ g,e=.returned (.func (.func 62) #[] #[.pointer (some ⟨g,0,none⟩),.pointer (some ⟨g+1,0,none⟩)]) ∧
  (Blk w' g 76 #[.int .i64 c,.slice A n k,.slice B m j,.int .i64 d,.slice C n2 k2,.slice D m2 j2]∧Blk w' (g+1) 3 #[.int .i64 s])∧Below w.heap.size w w':=by
 refine (callsIn_wide.1 (meeting_in 9 c A B n k m j d C D n2 k2 m2 j2 s w)).mono ?_
 rintro e w' ⟨rfl,rfl⟩
 refine ⟨w.heap.size,rfl,⟨(Blk.new w _ _).alloc _,?_⟩,((Below.refl _ w).alloc (Nat.le_refl _) _).alloc (by simp) _⟩
 have h:=Blk.new (w.alloc (.cells #[.int .i64 c,.slice A n k,.slice B m j,.int .i64 d,.slice C n2 k2,.slice D m2 j2] 76)) 3 #[.int .i64 s]
 rwa [World.size_alloc] at h
end Go.Proofs.YtebkniakflhhkaaGreatDoor
