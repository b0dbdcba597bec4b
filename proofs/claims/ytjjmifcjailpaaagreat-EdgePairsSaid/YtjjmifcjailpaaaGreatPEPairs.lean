import Derived.Test.YtjjmifcjailpaaaGreatPECollect
set_option maxHeartbeats 4000000
set_option linter.unusedSimpArgs false
set_option linter.unusedVariables false
namespace Go.Proofs.YtjjmifcjailpaaaGreat
open Go.Lib (hid)
open Go.RowKit Go.Shelf
theorem chkOO_lens {a b:Otl} (h:chkOO a b=0):a.ws.length≤400∧a.ts.length≤400∧b.ws.length≤400∧b.ts.length≤400:=by
 obtain ⟨oa,ob⟩:=chkOO_ok h
 obtain ⟨a1,a2,a3,a4⟩:=chkO_ok oa
 obtain ⟨b1,b2,b3,b4⟩:=chkO_ok ob
 exact ⟨(chk_ok a3).2.2.1,(chk_ok a4).2.2.1,(chk_ok b3).2.2.1,(chk_ok b4).2.2.1⟩
set_option maxRecDepth 100000 in
theorem outlinesOf_yes (c:Int) (A B:Option Addr) (n k m j:Nat) (ws ts:List Bnd) (d:Int) (C D:Option Addr) (n2 k2 m2 j2:Nat) (ws2 ts2:List Bnd) (w:World) (h1:RdB w A n k ws) (h2:RdB w B m j ts) (hn:n≤maxLen) (hm:m≤maxLen) (h3:RdB w C n2 k2 ws2) (h4:RdB w D m2 j2 ts2) (hn2:n2≤maxLen) (hm2:m2≤maxLen) (h0:both ⟨c,ws,ts⟩ ⟨d,ws2,ts2⟩=0) :
 Calls Tryz.prog 60 #[.agg #[.int .i64 c,.slice A n k,.slice B m j],.agg #[.int .i64 d,.slice C n2 k2,.slice D m2 j2]] w fun e w'=>e=.returned (.tuple #[.agg #[.int .i64 c,.slice A n k,.slice B m j,.int .i64 d,.slice C n2 k2,.slice D m2 j2],.int .i64 0])∧Below w.heap.size w w':=by
 unfold both at h0
 split at h0
 · rename_i h1;exact absurd h0 h1
 · rename_i h1
   split at h0
   · cases h0
   · rename_i h2
     have hoo:chkOO ⟨c,ws,ts⟩ ⟨d,ws2,ts2⟩=0:=by simpa using h1
     have HL4:=hid (chkOO_lens hoo)
     have E1:=hid hoo;have E2:=hid (show large ⟨c,ws,ts⟩ ⟨d,ws2,ts2⟩=false by simpa using h2);clear h0 h1 h2 hoo
     go_enter Tryz.func60,Tryz.ntmps60
     obtain ⟨a2,a3,a0,a1⟩:=ent3 w #[.int .i64 c,.slice A n k,.slice B m j] 24 #[.int .i64 d,.slice C n2 k2,.slice D m2 j2] 24 #[.int .i64 0,.slice none 0 0,.slice none 0 0,.int .i64 0,.slice none 0 0,.slice none 0 0] 72
     have a8:=rI h1 a1
     have a9:=rI h2 a1
     have b0:=rI h3 a1
     have b1:=rI h4 a1
     clear h1 h2 h3 h4
     have la:=a8.out.len
     have lb:=a9.out.len
     have lc:=b0.out.len
     have ld:=b1.out.len
     obtain ⟨f4,b8,b9⟩:=at3 a2
     obtain ⟨c0,c1,c2⟩:=at3 a3
     obtain ⟨c3,c4,c5,c6,c7,c8⟩:=at6 a0
     have hc:=checkOutlines_any c A B n k m j ws ts d C D n2 k2 m2 j2 ws2 ts2 _ a8.out a9.out hn hm b0.out b1.out hn2 hm2
     rw [E1.out] at hc
     try dsimp only at hc
     have HC:=hid hc;clear hc
     go_wp2_with fail
     refine HC.out.mono ?_
     rintro e c9 ⟨rfl,hb⟩
     clear HC
     clear f4 b8 b9 c0 c1 c2 c3 c4 c5 c6 c7 c8
     have a5:=hid hb
     clear hb
     replace a2:=kH a2 a5
     obtain ⟨d0,d1,d2⟩:=at3 a2
     replace a3:=kH a3 a5
     obtain ⟨d3,d4,d5⟩:=at3 a3
     replace a0:=kH a0 a5
     obtain ⟨d6,d7,d8,d9,e0,e1⟩:=at6 a0
     have hc:=areLarge_any c A B n k m j ws ts d C D n2 k2 m2 j2 ws2 ts2 (c9) ⟨la,lb,lc,ld⟩ HL4.out
     rw [E2.out] at hc
     try dsimp only at hc
     have HC:=hid hc;clear hc
     go_wp2_with fail
     refine HC.out.mono ?_
     rintro e a4 ⟨rfl,hb⟩
     clear HC
     clear d0 d1 d2 d3 d4 d5 d6 d7 d8 d9 e0 e1
     have a6:=hid hb
     clear hb
     replace a2:=kH a2 a6
     obtain ⟨e2,e3,e4⟩:=at3 a2
     replace a3:=kH a3 a6
     obtain ⟨e5,e6,e7⟩:=at3 a3
     replace a0:=kH a0 a6
     obtain ⟨e8,e9,f0,f1,f2,f3⟩:=at6 a0
     clear la lb lc ld
     have b2:(a4).frozen? ⟨w.heap.size+1+1,0,none⟩=false:=Blk.frozen a0.out 0
     have b3:(a4).frozen? ⟨w.heap.size+1+1,1,none⟩=false:=Blk.frozen a0.out 1
     have b4:(a4).frozen? ⟨w.heap.size+1+1,2,none⟩=false:=Blk.frozen a0.out 2
     have b5:(a4).frozen? ⟨w.heap.size+1+1,3,none⟩=false:=Blk.frozen a0.out 3
     have b6:(a4).frozen? ⟨w.heap.size+1+1,4,none⟩=false:=Blk.frozen a0.out 4
     have b7:(a4).frozen? ⟨w.heap.size+1+1,5,none⟩=false:=Blk.frozen a0.out 5
     replace a1:=bH (bH a1 a5) a6
     have a7:=a1.out
     go_wp2
     refine bodyPost_ret (v:=.tuple #[.agg #[.int .i64 c,.slice A n k,.slice B m j,.int .i64 d,.slice C n2 k2,.slice D m2 j2],.int .i64 0]) (by simp [results,Tryz.results60,go_sem,e2,e3,e4,e5,e6,e7,e8,e9,f0,f1,f2,f3,b2,b3,b4,b5,b6,b7]) rfl ⟨rfl,(by have hsz_:=Below.size a7;repeat' (first|with_reducible exact a7|with_reducible exact Below.refl _ _|with_reducible refine Below.alloc ?_ ?_ _|with_reducible refine Below.setCell ?_ ?_ _|with_reducible refine Below.drew ?_|with_reducible refine below_setRow ?_ ?_ _|omega | (simp;done) | (simp;omega)))⟩
set_option maxRecDepth 100000 in
theorem outlinesOf_no (c:Int) (A B:Option Addr) (n k m j:Nat) (ws ts:List Bnd) (d:Int) (C D:Option Addr) (n2 k2 m2 j2:Nat) (ws2 ts2:List Bnd) (w:World) (h1:RdB w A n k ws) (h2:RdB w B m j ts) (hn:n≤maxLen) (hm:m≤maxLen) (h3:RdB w C n2 k2 ws2) (h4:RdB w D m2 j2 ts2) (hn2:n2≤maxLen) (hm2:m2≤maxLen) (q:Int) (h0:both ⟨c,ws,ts⟩ ⟨d,ws2,ts2⟩=q) (hne:q≠0) :
 Calls Tryz.prog 60 #[.agg #[.int .i64 c,.slice A n k,.slice B m j],.agg #[.int .i64 d,.slice C n2 k2,.slice D m2 j2]] w fun e w'=>e=.returned (.tuple #[.agg #[.int .i64 0,.slice none 0 0,.slice none 0 0,.int .i64 0,.slice none 0 0,.slice none 0 0],.int .i64 q])∧Below w.heap.size w w':=by
 unfold both at h0
 split at h0
 · have E1:=hid h0;clear h0
   have hq:(q != 0)=true:=by simpa using hne
   clear hne
   rename_i h1;clear h1
   go_enter Tryz.func60,Tryz.ntmps60
   obtain ⟨a2,a3,a0,a1⟩:=ent3 w #[.int .i64 c,.slice A n k,.slice B m j] 24 #[.int .i64 d,.slice C n2 k2,.slice D m2 j2] 24 #[.int .i64 0,.slice none 0 0,.slice none 0 0,.int .i64 0,.slice none 0 0,.slice none 0 0] 72
   have a8:=rI h1 a1
   have a9:=rI h2 a1
   have b0:=rI h3 a1
   have b1:=rI h4 a1
   clear h1 h2 h3 h4
   have la:=a8.out.len
   have lb:=a9.out.len
   have lc:=b0.out.len
   have ld:=b1.out.len
   obtain ⟨d7,b2,b3⟩:=at3 a2
   obtain ⟨b4,b5,b6⟩:=at3 a3
   obtain ⟨b7,b8,b9,c0,c1,c2⟩:=at6 a0
   have hc:=checkOutlines_any c A B n k m j ws ts d C D n2 k2 m2 j2 ws2 ts2 _ a8.out a9.out hn hm b0.out b1.out hn2 hm2
   rw [E1.out] at hc
   try dsimp only at hc
   have HC:=hid hc;clear hc
   go_wp2_with fail
   refine HC.out.mono ?_
   rintro e a5 ⟨rfl,hb⟩
   clear HC
   clear d7 b2 b3 b4 b5 b6 b7 b8 b9 c0 c1 c2
   have a4:=hid hb
   clear hb
   replace a2:=kH a2 a4
   obtain ⟨c3,c4,c5⟩:=at3 a2
   replace a3:=kH a3 a4
   obtain ⟨c6,c7,c8⟩:=at3 a3
   replace a0:=kH a0 a4
   obtain ⟨c9,d0,d1,d2,d3,d4⟩:=at6 a0
   have d8:(a5).frozen? ⟨w.heap.size+1+1,0,none⟩=false:=Blk.frozen a0.out 0
   have d9:(a5).frozen? ⟨w.heap.size+1+1,1,none⟩=false:=Blk.frozen a0.out 1
   have e0:(a5).frozen? ⟨w.heap.size+1+1,2,none⟩=false:=Blk.frozen a0.out 2
   have e1:(a5).frozen? ⟨w.heap.size+1+1,3,none⟩=false:=Blk.frozen a0.out 3
   have e2:(a5).frozen? ⟨w.heap.size+1+1,4,none⟩=false:=Blk.frozen a0.out 4
   have e3:(a5).frozen? ⟨w.heap.size+1+1,5,none⟩=false:=Blk.frozen a0.out 5
   replace a1:=bH a1 a4
   have d5:=a1.out
   go_wp2
   refine bodyPost_ret (v:=.tuple #[.agg #[.int .i64 0,.slice none 0 0,.slice none 0 0,.int .i64 0,.slice none 0 0,.slice none 0 0],.int .i64 q]) (by simp [results,Tryz.results60,go_sem,c3,c4,c5,c6,c7,c8,c9,d0,d1,d2,d3,d4,d8,d9,e0,e1,e2,e3]) rfl ⟨rfl,(by have hsz_:=Below.size d5;repeat' (first|with_reducible exact d5|with_reducible exact Below.refl _ _|with_reducible refine Below.alloc ?_ ?_ _|with_reducible refine Below.setCell ?_ ?_ _|with_reducible refine Below.drew ?_|with_reducible refine below_setRow ?_ ?_ _|omega | (simp;done) | (simp;omega)))⟩
 · rename_i h1
   split at h0
   · rename_i h2
     subst h0
     have hoo:chkOO ⟨c,ws,ts⟩ ⟨d,ws2,ts2⟩=0:=by simpa using h1
     have HL4:=hid (chkOO_lens hoo)
     have E1:=hid hoo;have E2:=hid h2;clear hne h1 h2 hoo
     go_enter Tryz.func60,Tryz.ntmps60
     obtain ⟨a2,a3,a0,a1⟩:=ent3 w #[.int .i64 c,.slice A n k,.slice B m j] 24 #[.int .i64 d,.slice C n2 k2,.slice D m2 j2] 24 #[.int .i64 0,.slice none 0 0,.slice none 0 0,.int .i64 0,.slice none 0 0,.slice none 0 0] 72
     have a8:=rI h1 a1
     have a9:=rI h2 a1
     have b0:=rI h3 a1
     have b1:=rI h4 a1
     clear h1 h2 h3 h4
     have la:=a8.out.len
     have lb:=a9.out.len
     have lc:=b0.out.len
     have ld:=b1.out.len
     obtain ⟨d7,b2,b3⟩:=at3 a2
     obtain ⟨b4,b5,b6⟩:=at3 a3
     obtain ⟨b7,b8,b9,c0,c1,c2⟩:=at6 a0
     have hc:=checkOutlines_any c A B n k m j ws ts d C D n2 k2 m2 j2 ws2 ts2 _ a8.out a9.out hn hm b0.out b1.out hn2 hm2
     rw [E1.out] at hc
     try dsimp only at hc
     have HC:=hid hc;clear hc
     go_wp2_with fail
     refine HC.out.mono ?_
     rintro e a5 ⟨rfl,hb⟩
     clear HC
     clear d7 b2 b3 b4 b5 b6 b7 b8 b9 c0 c1 c2
     have a4:=hid hb
     clear hb
     replace a2:=kH a2 a4
     obtain ⟨c3,c4,c5⟩:=at3 a2
     replace a3:=kH a3 a4
     obtain ⟨c6,c7,c8⟩:=at3 a3
     replace a0:=kH a0 a4
     obtain ⟨c9,d0,d1,d2,d3,d4⟩:=at6 a0
     have hc:=areLarge_any c A B n k m j ws ts d C D n2 k2 m2 j2 ws2 ts2 (a5) ⟨la,lb,lc,ld⟩ HL4.out
     rw [E2.out] at hc
     try dsimp only at hc
     have HC:=hid hc;clear hc
     go_wp2_with fail
     refine HC.out.mono ?_
     rintro e a6 ⟨rfl,hb⟩
     clear HC
     clear c3 c4 c5 c6 c7 c8 c9 d0 d1 d2 d3 d4
     have a7:=hid hb
     clear hb
     replace a2:=kH a2 a7
     obtain ⟨f0,f1,f2⟩:=at3 a2
     replace a3:=kH a3 a7
     obtain ⟨f3,f4,f5⟩:=at3 a3
     replace a0:=kH a0 a7
     obtain ⟨f6,f7,f8,f9,g0,g1⟩:=at6 a0
     clear la lb lc ld
     have e4:(a6).frozen? ⟨w.heap.size+1+1,0,none⟩=false:=Blk.frozen a0.out 0
     have e5:(a6).frozen? ⟨w.heap.size+1+1,1,none⟩=false:=Blk.frozen a0.out 1
     have e6:(a6).frozen? ⟨w.heap.size+1+1,2,none⟩=false:=Blk.frozen a0.out 2
     have e7:(a6).frozen? ⟨w.heap.size+1+1,3,none⟩=false:=Blk.frozen a0.out 3
     have e8:(a6).frozen? ⟨w.heap.size+1+1,4,none⟩=false:=Blk.frozen a0.out 4
     have e9:(a6).frozen? ⟨w.heap.size+1+1,5,none⟩=false:=Blk.frozen a0.out 5
     replace a1:=bH (bH a1 a4) a7
     have d6:=a1.out
     go_wp2
     refine bodyPost_ret (v:=.tuple #[.agg #[.int .i64 0,.slice none 0 0,.slice none 0 0,.int .i64 0,.slice none 0 0,.slice none 0 0],.int .i64 2]) (by simp [results,Tryz.results60,go_sem,f0,f1,f2,f3,f4,f5,f6,f7,f8,f9,g0,g1,e4,e5,e6,e7,e8,e9]) rfl ⟨rfl,(by have hsz_:=Below.size d6;repeat' (first|with_reducible exact d6|with_reducible exact Below.refl _ _|with_reducible refine Below.alloc ?_ ?_ _|with_reducible refine Below.setCell ?_ ?_ _|with_reducible refine Below.drew ?_|with_reducible refine below_setRow ?_ ?_ _|omega | (simp;done) | (simp;omega)))⟩
   · exact absurd h0.symm hne
set_option maxRecDepth 100000 in
theorem most_any (c:Int) (A B:Option Addr) (n k m j:Nat) (d:Int) (C D:Option Addr) (n2 k2 m2 j2:Nat) (w:World) :
 Calls Tryz.prog 64 #[.agg #[.int .i64 c,.slice A n k,.slice B m j,.int .i64 d,.slice C n2 k2,.slice D m2 j2]] w fun e w'=>e=.returned (.int .i64 (min c d))∧Below w.heap.size w w':=by
  go_enter Tryz.func64,Tryz.ntmps64
  obtain ⟨a1,a0⟩:=ent1 w #[.int .i64 c,.slice A n k,.slice B m j,.int .i64 d,.slice C n2 k2,.slice D m2 j2] 72
  obtain ⟨a2,a3,a4,a5,a6,a7⟩:=at6 a1
  go_wp2
  go_ret
  exact ⟨ret_int (by omega),a0.out⟩
theorem rdP_of {w:World} {base:Nat} {e:TypeId} {A:Option Addr} {n c:Nat} {l:List Bnd} (h:w.ownsRow base e 4 (.slice A n c) n (bcells l)) (hl:l.length=n):RdB w A n c l∧n≤maxLen:=by
 obtain ⟨A',c',h1,h2,h3,h4,h5⟩:=own_form h
 injection h1 with h6 h7 h8
 subst h6 h8
 exact ⟨⟨hl,h2,h4,h5⟩,Nat.le_trans h2 h3⟩
theorem Collect_any (Bo Bs:Nat) (c:Int) (A B:Option Addr) (n k m j:Nat) (ws ts:List Bnd) (d:Int) (C D:Option Addr) (n2 k2 m2 j2:Nat) (ws2 ts2:List Bnd) (s:Int) (hs:Wf s) (w:World) (h1:RdB w A n k ws) (h2:RdB w B m j ts) (hn:n≤maxLen) (hm:m≤maxLen) (h3:RdB w C n2 k2 ws2) (h4:RdB w D m2 j2 ts2) (hn2:n2≤maxLen) (hm2:m2≤maxLen) (hq:both ⟨c,ws,ts⟩ ⟨d,ws2,ts2⟩=0) (w':World) (hw:Below w.heap.size w w')
 (ho:Blk w' Bo 72 #[.int .i64 c,.slice A n k,.slice B m j,.int .i64 d,.slice C n2 k2,.slice D m2 j2]) (hsb:Blk w' Bs 3 #[.int .i64 s]) :
 Calls Tryz.prog 61 #[.func (.func 106) #[] #[.pointer (some ⟨Bo,0,none⟩),.pointer (some ⟨Bs,0,none⟩)]] w' fun e W' =>
  ∃ A9 n9 c9,e=.returned (.slice A9 n9 c9)∧RdB W' A9 n9 c9 ((meetL ⟨c,ws,ts⟩ ⟨d,ws2,ts2⟩ s).map pB)∧n9≤maxLen∧Below w'.heap.size w' W':=by
 have hlen:(pairsL c d s).length≤1000:=pairsL_length hq s
 have hc:=callsIn_wide.1 (appendSeq_in (a:=⟨c,ws,ts⟩) (b:=⟨d,ws2,ts2⟩) 106 #[.pointer (some ⟨Bo,0,none⟩),.pointer (some ⟨Bs,0,none⟩)] w.heap.size Bo Bs _ _ _ w' w' (meeting_stops Bo Bs c A B n k m j ws ts d C D n2 k2 m2 j2 ws2 ts2 s hs w h1 h2 hn hm h3 h4 hn2 hm2 hq w' hw ho hsb)
  (Below.refl _ _) (enters_of Tryz.func106 (by kernel_rfl) rfl) hw.size ho.lt hsb.lt hlen)
 have hc2:Calls Tryz.prog 105 #[.slice none 0 0,.func (.func 106) #[] #[.pointer (some ⟨Bo,0,none⟩),.pointer (some ⟨Bs,0,none⟩)]] w' fun e W' =>
  ∃ A9 n9 c9,e=.returned (.slice A9 n9 c9)∧RdB W' A9 n9 c9 ((meetL ⟨c,ws,ts⟩ ⟨d,ws2,ts2⟩ s).map pB)∧n9≤maxLen∧Below w'.heap.size w' W':=hc.mono fun e W' ⟨v,ys,hS,he,hown,_,hb⟩=>by
  obtain ⟨A',c',rfl,-,-,-,-⟩:=own_form hown
  have hr:=rdP_of hown (by rw [List.length_map,prs_length])
  exact ⟨A',_,c',he,by rw [← hS];exact hr.1,hr.2,hb⟩
 have HC:=hid hc2;clear hc2 hc hlen ho hsb hw h1 h2 h3 h4
 go_enter Tryz.func61,Tryz.ntmps61
 go_wp2_with (go_at_call 105;refine HC.out.mono ?_;rintro e w9 ⟨A9,n9,c9,rfl,hrd,hmx,hb⟩;have HR:=hid hrd;clear hrd)
 go_ret
 exact ⟨A9,n9,c9,rfl,HR.out,hmx,hb⟩
theorem meeting_any (c:Int) (A B:Option Addr) (n k m j:Nat) (d:Int) (C D:Option Addr) (n2 k2 m2 j2:Nat) (s:Int) (w:World) :
 Calls Tryz.prog 62 #[.agg #[.int .i64 c,.slice A n k,.slice B m j,.int .i64 d,.slice C n2 k2,.slice D m2 j2],.int .i64 s] w fun e w'=>∃ g,e=.returned (.func (.func 106) #[] #[.pointer (some ⟨g,0,none⟩),.pointer (some ⟨g+1,0,none⟩)]) ∧
  (Blk w' g 72 #[.int .i64 c,.slice A n k,.slice B m j,.int .i64 d,.slice C n2 k2,.slice D m2 j2]∧Blk w' (g+1) 3 #[.int .i64 s])∧Below w.heap.size w w':=by
 refine (callsIn_wide.1 (meeting_in 9 c A B n k m j d C D n2 k2 m2 j2 s w)).mono ?_
 rintro e w' ⟨rfl,rfl⟩
 refine ⟨w.heap.size,rfl,⟨(Blk.new w _ _).alloc _,?_⟩,((Below.refl _ w).alloc (Nat.le_refl _) _).alloc (by simp) _⟩
 have h:=Blk.new (w.alloc (.cells #[.int .i64 c,.slice A n k,.slice B m j,.int .i64 d,.slice C n2 k2,.slice D m2 j2] 72)) 3 #[.int .i64 s]
 rwa [World.size_alloc] at h
def RetPL (V:List Prg × Int) (w:World) (e:Ending) (w':World):Prop :=
 ∃ A n c,e=.returned (.tuple #[.slice A n c,.int .i64 V.2])∧RdB w' A n c (V.1.map pB)∧n≤maxLen∧Below w.heap.size w w'
set_option maxRecDepth 100000 in
theorem Pairs_any (c:Int) (A B:Option Addr) (n k m j:Nat) (ws ts:List Bnd) (d:Int) (C D:Option Addr) (n2 k2 m2 j2:Nat) (ws2 ts2:List Bnd) (s:Int) (hs:Wf s) (w:World) (h1:RdB w A n k ws) (h2:RdB w B m j ts) (hn:n≤maxLen) (hm:m≤maxLen) (h3:RdB w C n2 k2 ws2) (h4:RdB w D m2 j2 ts2) (hn2:n2≤maxLen) (hm2:m2≤maxLen) :
 Calls Tryz.prog 25 #[.agg #[.int .i64 c,.slice A n k,.slice B m j],.agg #[.int .i64 d,.slice C n2 k2,.slice D m2 j2],.int .i64 s] w (RetPL (pairsV ⟨c,ws,ts⟩ ⟨d,ws2,ts2⟩ s) w):=by
 have HS:=hid hs;clear hs
 have H1:=hid h1;have H2:=hid h2;have H3:=hid h3;have H4:=hid h4
 unfold pairsV
 by_cases hq:both ⟨c,ws,ts⟩ ⟨d,ws2,ts2⟩=0
 · rw [if_pos hq]
   have HQ:=hid hq;clear hq
   unfold RetPL
   dsimp only
   go_enter Tryz.func25,Tryz.ntmps25
   obtain ⟨a1,a2,a0⟩:=ent2 w #[.int .i64 c,.slice A n k,.slice B m j] 24 #[.int .i64 d,.slice C n2 k2,.slice D m2 j2] 24
   have a5:=rI h1 a0
   have a6:=rI h2 a0
   have a7:=rI h3 a0
   have a8:=rI h4 a0
   clear h1 h2 h3 h4
   obtain ⟨c2,c3,b2⟩:=at3 a1
   obtain ⟨b3,b4,b5⟩:=at3 a2
   have hc:=outlinesOf_yes c A B n k m j ws ts d C D n2 k2 m2 j2 ws2 ts2 _ a5.out a6.out hn hm a7.out a8.out hn2 hm2 HQ.out
   have HC:=hid hc;clear hc
   go_wp2_with fail
   refine HC.out.mono ?_
   rintro e b1 ⟨rfl,hb⟩
   clear HC
   clear c2 c3 b2 b3 b4 b5
   have a3:=hid hb
   clear hb
   replace a1:=kH a1 a3
   obtain ⟨b6,b7,b8⟩:=at3 a1
   replace a2:=kH a2 a3
   obtain ⟨b9,c0,c1⟩:=at3 a2
   clear b6 b7 b8 b9 c0 c1
   obtain ⟨o_,ho_⟩:∃ o,o=((.cells #[.int .i64 c,.slice A n k,.slice B m j,.int .i64 d,.slice C n2 k2,.slice D m2 j2] 72):Obj):=⟨_,rfl⟩
   replace a0:=bA (bH a0 a3) o_
   replace a5:=rA (rH a5 a3) o_
   replace a6:=rA (rH a6 a3) o_
   replace a7:=rA (rH a7 a3) o_
   replace a8:=rA (rH a8 a3) o_
   replace a1:=kA a1 o_
   replace a2:=kA a2 o_
   subst ho_
   have a4:=hid (Blk.new b1 72 #[.int .i64 c,.slice A n k,.slice B m j,.int .i64 d,.slice C n2 k2,.slice D m2 j2])
   obtain ⟨c4,c5,c6⟩:=at3 a1
   obtain ⟨c7,c8,d0⟩:=at3 a2
   obtain ⟨d1,d2,d3,d4,d5,d6⟩:=at6 a4
   have hc:=meeting_any c A B n k m j d C D n2 k2 m2 j2 s ((b1.alloc (.cells #[.int .i64 c,.slice A n k,.slice B m j,.int .i64 d,.slice C n2 k2,.slice D m2 j2] 72)))
   have HC:=hid hc;clear hc
   go_wp2_with fail
   refine HC.out.mono ?_
   rintro e w8 ⟨g,rfl,⟨hbo,hbs⟩,hb⟩
   clear HC
   clear c4 c5 c6 c7 c8 d0 d1 d2 d3 d4 d5 d6
   have a9:=hid hb
   clear hb
   have d7:=hid (hbo)
   have d8:=hid (hbs)
   clear hbo hbs
   replace a1:=kH a1 a9
   obtain ⟨e0,e1,e2⟩:=at3 a1
   replace a2:=kH a2 a9
   obtain ⟨e3,e4,e5⟩:=at3 a2
   replace a4:=kH a4 a9
   obtain ⟨e6,e7,e8,e9,f0,f1⟩:=at6 a4
   replace a0:=bH a0 a9
   have hc:=Collect_any g (g+1) c A B n k m j ws ts d C D n2 k2 m2 j2 ws2 ts2 s HS.out w H1.out H2.out hn hm H3.out H4.out hn2 hm2 HQ.out w8 a0.out d7.out d8.out
   have HC:=hid hc;clear hc
   go_wp2_with fail
   refine HC.out.mono ?_
   rintro e w9 ⟨A9,n9,c9,rfl,hrd,hmx,hb⟩
   clear HC
   clear e0 e1 e2 e3 e4 e5 e6 e7 e8 e9 f0 f1
   have b0:=hid hb
   clear hb
   have d9:=hid (hrd)
   clear hrd
   replace a1:=kH a1 b0
   obtain ⟨f2,f3,f4⟩:=at3 a1
   replace a2:=kH a2 b0
   obtain ⟨f5,f6,f7⟩:=at3 a2
   replace a4:=kH a4 b0
   obtain ⟨f8,f9,g0,g1,g2,g3⟩:=at6 a4
   replace a0:=bH a0 b0
   have HK:=hid (And.intro (a0.out) (d9.out))
   go_wp2
   go_ret2
   exact ⟨A9,n9,c9,rfl,HK.out.2,hmx,HK.out.1⟩
 · rw [if_neg hq]
   obtain ⟨q,hq2⟩:∃ q,both ⟨c,ws,ts⟩ ⟨d,ws2,ts2⟩=q:=⟨_,rfl⟩
   rw [hq2] at hq
   rw [hq2]
   have HQ:=hid hq2
   have HNE:=hid hq
   have hqe:(q != 0)=true:=by simpa using hq
   clear hq hq2
   unfold RetPL
   dsimp only
   go_enter Tryz.func25,Tryz.ntmps25
   obtain ⟨a1,a2,a0⟩:=ent2 w #[.int .i64 c,.slice A n k,.slice B m j] 24 #[.int .i64 d,.slice C n2 k2,.slice D m2 j2] 24
   have a5:=rI h1 a0
   have a6:=rI h2 a0
   have a7:=rI h3 a0
   have a8:=rI h4 a0
   clear h1 h2 h3 h4
   obtain ⟨c2,c3,b2⟩:=at3 a1
   obtain ⟨b3,b4,b5⟩:=at3 a2
   have hc:=outlinesOf_no c A B n k m j ws ts d C D n2 k2 m2 j2 ws2 ts2 _ a5.out a6.out hn hm a7.out a8.out hn2 hm2 q HQ.out HNE.out
   have HC:=hid hc;clear hc
   go_wp2_with fail
   refine HC.out.mono ?_
   rintro e b1 ⟨rfl,hb⟩
   clear HC
   clear c2 c3 b2 b3 b4 b5
   have a3:=hid hb
   clear hb
   replace a1:=kH a1 a3
   obtain ⟨b6,b7,b8⟩:=at3 a1
   replace a2:=kH a2 a3
   obtain ⟨b9,c0,c1⟩:=at3 a2
   clear b6 b7 b8 b9 c0 c1
   obtain ⟨o_,ho_⟩:∃ o,o=((.cells #[.int .i64 0,.slice none 0 0,.slice none 0 0,.int .i64 0,.slice none 0 0,.slice none 0 0] 72):Obj):=⟨_,rfl⟩
   replace a0:=bA (bH a0 a3) o_
   replace a5:=rA (rH a5 a3) o_
   replace a6:=rA (rH a6 a3) o_
   replace a7:=rA (rH a7 a3) o_
   replace a8:=rA (rH a8 a3) o_
   replace a1:=kA a1 o_
   replace a2:=kA a2 o_
   subst ho_
   have a4:=hid (Blk.new b1 72 #[.int .i64 0,.slice none 0 0,.slice none 0 0,.int .i64 0,.slice none 0 0,.slice none 0 0])
   obtain ⟨c4,c5,c6⟩:=at3 a1
   obtain ⟨c7,c8,d0⟩:=at3 a2
   obtain ⟨d1,d2,d3,d4,d5,d6⟩:=at6 a4
   have HK:=hid (a0.out)
   go_wp2
   go_ret2
   exact ⟨none,0,0,rfl,RdB.nil_ _,by unfold maxLen;omega,(by have hsz_:=Below.size HK.out;repeat' (first|with_reducible exact HK.out|with_reducible exact Below.refl _ _|with_reducible refine Below.alloc ?_ ?_ _|with_reducible refine Below.setCell ?_ ?_ _|with_reducible refine Below.drew ?_|with_reducible refine below_setRow ?_ ?_ _|omega | (simp;done) | (simp;omega)))⟩
end Go.Proofs.YtjjmifcjailpaaaGreat
