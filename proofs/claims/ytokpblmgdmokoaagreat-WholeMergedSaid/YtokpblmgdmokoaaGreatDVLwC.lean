import Derived.Test.YtokpblmgdmokoaaGreatDVFew
import Derived.Test.YtokpblmgdmokoaaGreatAVIas
import Derived.Test.YtokpblmgdmokoaaGreatAVNmb
import Derived.Test.YtokpblmgdmokoaaGreatAVTol
import Derived.Test.YtokpblmgdmokoaaGreatDVMge
import Derived.Test.YtokpblmgdmokoaaGreatDVT9
set_option maxHeartbeats 4000000
set_option linter.unusedSimpArgs false
set_option linter.unusedVariables false
namespace Go.Proofs.YtokpblmgdmokoaaGreat
open Go.Lib (hid)
open Go.RowKit
def smlB (c:Cse) (M:Int):Bool:=fewB c&&decide ((c.ps.length:Int)≤M)
set_option maxRecDepth 100000 in
theorem small_any (ware:ByteArray) (lim by_:Int) (A:Option Addr) (n k:Nat) (ps:List Prt) (M:Int) (w:World) (hr:RdP w A n k ps) (hn:n≤maxLen):Calls Tryz.prog 48 #[.agg #[.string ware,.int .i64 lim,.int .i64 by_,.slice A n k],.int .i64 M] w fun e w'=>e=.returned (.bool (smlB ⟨ware,lim,by_,ps⟩ M))∧Below w.heap.size w w':=by
 have hl:=hr.len
 cases hf:fewB ⟨ware,lim,by_,ps⟩
 · have HF:=hid hf
   have HS:=hid (show smlB ⟨ware,lim,by_,ps⟩ M=false by unfold smlB;rw [hf];rfl);clear hf
   rw [HS.out]
   go_enter Tryz.func48,Tryz.ntmps48
   obtain ⟨a1,a0⟩:=ent1 w #[.string ware,.int .i64 lim,.int .i64 by_,.slice A n k] 24
   have a3:=hid (RdP.below (hr) a0.out)
   clear hr
   obtain ⟨a4,a5,a6,a7⟩:=at4 a1
   have hc:=few_is ware lim by_ A n k ps ((w.alloc (.cells #[.string ware,.int .i64 lim,.int .i64 by_,.slice A n k] 24))) a3.out hn _ HF.out
   have HC:=hid hc;clear hc
   go_wp2_with fail
   refine HC.out.mono ?_
   rintro e b2 ⟨rfl,hb⟩
   clear HC
   clear a4 a5 a6 a7
   have a2:=hid hb
   clear hb
   replace a1:=kH a1 a2
   obtain ⟨a8,a9,b0,b1⟩:=at4 a1
   go_wp2
   go_ret
   replace a0:=bH a0 a2
   exact ⟨rfl,a0.out⟩
 · have HF:=hid hf
   by_cases hM:(n:Int)≤M
   · have HS:=hid (show smlB ⟨ware,lim,by_,ps⟩ M=true by unfold smlB;rw [hf,hl];simp [hM]);clear hf
     rw [HS.out]
     have HM:=hid hM
     go_enter Tryz.func48,Tryz.ntmps48
     obtain ⟨a1,a0⟩:=ent1 w #[.string ware,.int .i64 lim,.int .i64 by_,.slice A n k] 24
     have a3:=hid (RdP.below (hr) a0.out)
     clear hr
     obtain ⟨a4,a5,a6,a7⟩:=at4 a1
     have hc:=few_is ware lim by_ A n k ps ((w.alloc (.cells #[.string ware,.int .i64 lim,.int .i64 by_,.slice A n k] 24))) a3.out hn _ HF.out
     have HC:=hid hc;clear hc
     go_wp2_with fail
     refine HC.out.mono ?_
     rintro e b2 ⟨rfl,hb⟩
     clear HC
     clear a4 a5 a6 a7
     have a2:=hid hb
     clear hb
     replace a1:=kH a1 a2
     obtain ⟨a8,a9,b0,b1⟩:=at4 a1
     go_wp2
     go_ret
     replace a0:=bH a0 a2
     exact ⟨by simp [HM.out],a0.out⟩
   · have HS:=hid (show smlB ⟨ware,lim,by_,ps⟩ M=false by unfold smlB;rw [hf,hl];simp [hM]);clear hf
     rw [HS.out]
     have HM:=hid (decide_eq_false hM)
     go_enter Tryz.func48,Tryz.ntmps48
     obtain ⟨a1,a0⟩:=ent1 w #[.string ware,.int .i64 lim,.int .i64 by_,.slice A n k] 24
     have a3:=hid (RdP.below (hr) a0.out)
     clear hr
     obtain ⟨a4,a5,a6,a7⟩:=at4 a1
     have hc:=few_is ware lim by_ A n k ps ((w.alloc (.cells #[.string ware,.int .i64 lim,.int .i64 by_,.slice A n k] 24))) a3.out hn _ HF.out
     have HC:=hid hc;clear hc
     go_wp2_with fail
     refine HC.out.mono ?_
     rintro e b2 ⟨rfl,hb⟩
     clear HC
     clear a4 a5 a6 a7
     have a2:=hid hb
     clear hb
     replace a1:=kH a1 a2
     obtain ⟨a8,a9,b0,b1⟩:=at4 a1
     go_wp2
     go_ret
     replace a0:=bH a0 a2
     exact ⟨by simp [HM.out],a0.out⟩
theorem small_is (ware:ByteArray) (lim by_:Int) (A:Option Addr) (n k:Nat) (ps:List Prt) (M:Int) (w:World) (hr:RdP w A n k ps) (hn:n≤maxLen) (v:Bool) (hv:smlB ⟨ware,lim,by_,ps⟩ M=v):Calls Tryz.prog 48 #[.agg #[.string ware,.int .i64 lim,.int .i64 by_,.slice A n k],.int .i64 M] w fun e w'=>e=.returned (.bool v)∧Below w.heap.size w w':=by
 subst hv
 exact small_any ware lim by_ A n k ps M w hr hn
open Go.RowKit Go.Maps Go.Shelf
set_option maxRecDepth 100000 in
theorem CheckAssign_yes (ware:ByteArray) (lim by_:Int) (A:Option Addr) (n k:Nat) (ps:List Prt) (B:Option Addr) (m d:Nat) (l:List Int) (w:World) (hr:RdP w A n k ps) (hl:RdI w B m d l) (hn:n≤maxLen) (hm:m≤maxLen) (hq:chkC ⟨ware,lim,by_,ps⟩=0):Calls Tryz.prog 52 #[.agg #[.string ware,.int .i64 lim,.int .i64 by_,.slice A n k],.slice B m d] w fun e w'=>e=.returned (.tuple #[.bool (isAB ps lim l),.int .i64 0])∧Below w.heap.size w w':=by
 have HQ:=hid hq;clear hq
 go_enter Tryz.func52,Tryz.ntmps52
 obtain ⟨a1,a0⟩:=ent1 w #[.string ware,.int .i64 lim,.int .i64 by_,.slice A n k] 24
 have a4:=hid (RdP.below (hr) a0.out)
 have a3:=iI hl a0
 clear hr hl
 obtain ⟨a5,a6,a7,a8⟩:=at4 a1
 have hc:=viewOf_yes ware lim by_ A n k ps none 0 0 [] ((w.alloc (.cells #[.string ware,.int .i64 lim,.int .i64 by_,.slice A n k] 24))) a4.out (rdI_none _) hn (by unfold maxLen;omega) ((askP_nil _).trans HQ.out)
 have HC:=hid hc;clear hc
 go_wp2_with fail
 refine HC.out.mono ?_
 rintro e a9 ⟨⟨g,rfl,hvw⟩,hb⟩
 have HVW:=hid hvw;clear hvw
 clear HC
 clear a5 a6 a7 a8
 have a2:=hid hb
 clear hb
 replace a1:=kH a1 a2
 obtain ⟨b0,b1,b2,b3⟩:=at4 a1
 replace a3:=iH a3 a2
 have HC:=hid (isAssign_any g ware lim by_ A n k ps B m d l (a9) HVW.out a3.out hm)
 go_wp2_with fail
 refine HC.out.mono ?_
 rintro e _ ⟨rfl,rfl⟩
 clear HC
 go_wp2
 replace a0:=bH a0 a2
 refine bodyPost_ret (v:=.tuple #[.bool (isAB ps lim l),.int .i64 0]) (by simp [results,Tryz.results52,go_sem]) rfl ⟨rfl,a0.out⟩
end Go.Proofs.YtokpblmgdmokoaaGreat
namespace Go.Proofs.YtokpblmgdmokoaaGreat
open Go.Lib (hid)
open Go.RowKit
theorem allV_succ (v:List Int) (lo h q:Nat):allV v lo h (q+1)=allV v lo h q++[v.getD (tau lo h q) 0]:=by
 unfold allV;rw [List.range_succ,List.map_append];rfl
set_option maxRecDepth 100000 in
theorem wm_w1 (w:World) (ware:ByteArray) (lim by_:Int) (A:Option Addr) (n k:Nat) (ps:List Prt) (B:Option Addr) (m d:Nat) (l:List Int) (hr:RdP w A n k ps) (hn:n≤maxLen) (hl:RdI w B m d l) (hm:m≤maxLen) (a b:Int) (hf:smlB ⟨ware,lim,by_,ps⟩ 12=false):Calls Tryz.prog 14 #[.agg #[.string ware,.int .i64 lim,.int .i64 by_,.slice A n k],.int .i64 a,.int .i64 b,.slice B m d] w fun e w'=>e=.returned (.bool true)∧Below w.heap.size w w':=by
 have HF:=hid hf;clear hf
 go_enter Tryz.func14,Tryz.ntmps14
 obtain ⟨a0,a1⟩:=ent1 w #[.string ware,.int .i64 lim,.int .i64 by_,.slice A n k] 24
 have a4:=hid (RdP.below (hr) a1.out)
 have b4:=iI hl a1
 clear hr hl
 obtain ⟨a9,b0,b1,b2⟩:=at4 a0
 have hc:=small_is ware lim by_ A n k ps 12 ((w.alloc (.cells #[.string ware,.int .i64 lim,.int .i64 by_,.slice A n k] 24))) a4.out hn _ HF.out
 have HC:=hid hc;clear hc
 go_wp2_with fail
 refine HC.out.mono ?_
 rintro e b3 ⟨rfl,hb⟩
 clear HC
 clear a9 b0 b1 b2
 have a2:=hid hb
 clear hb
 replace a0:=kH a0 a2
 obtain ⟨a5,a6,a7,a8⟩:=at4 a0
 have hc:=told_any (b3)
 have HC:=hid hc;clear hc
 go_wp2_with fail
 refine HC.out.mono ?_
 rintro e b5 ⟨rfl,hb⟩
 clear HC
 clear a5 a6 a7 a8
 have a3:=hid hb
 clear hb
 replace a0:=kH a0 a3
 obtain ⟨b6,b7,b8,b9⟩:=at4 a0
 go_wp2
 go_ret
 replace a1:=bH (bH a1 a2) a3
 exact ⟨rfl,a1.out⟩
set_option maxRecDepth 100000 in
theorem wm_w2 (w:World) (ware:ByteArray) (lim by_:Int) (A:Option Addr) (n k:Nat) (ps:List Prt) (B:Option Addr) (m d:Nat) (l:List Int) (hr:RdP w A n k ps) (hn:n≤maxLen) (hl:RdI w B m d l) (hm:m≤maxLen) (a b:Int) (hf:smlB ⟨ware,lim,by_,ps⟩ 12=true) (h60:(60:Int)<m):Calls Tryz.prog 14 #[.agg #[.string ware,.int .i64 lim,.int .i64 by_,.slice A n k],.int .i64 a,.int .i64 b,.slice B m d] w fun e w'=>e=.returned (.bool true)∧Below w.heap.size w w':=by
 have HF:=hid hf;clear hf
 go_enter Tryz.func14,Tryz.ntmps14
 obtain ⟨a0,a1⟩:=ent1 w #[.string ware,.int .i64 lim,.int .i64 by_,.slice A n k] 24
 have a4:=hid (RdP.below (hr) a1.out)
 have b4:=iI hl a1
 clear hr hl
 obtain ⟨a9,b0,b1,b2⟩:=at4 a0
 have hc:=small_is ware lim by_ A n k ps 12 ((w.alloc (.cells #[.string ware,.int .i64 lim,.int .i64 by_,.slice A n k] 24))) a4.out hn _ HF.out
 have HC:=hid hc;clear hc
 go_wp2_with fail
 refine HC.out.mono ?_
 rintro e b3 ⟨rfl,hb⟩
 clear HC
 clear a9 b0 b1 b2
 have a2:=hid hb
 clear hb
 replace a0:=kH a0 a2
 obtain ⟨a5,a6,a7,a8⟩:=at4 a0
 have hc:=told_any (b3)
 have HC:=hid hc;clear hc
 go_wp2_with fail
 refine HC.out.mono ?_
 rintro e b5 ⟨rfl,hb⟩
 clear HC
 clear a5 a6 a7 a8
 have a3:=hid hb
 clear hb
 replace a0:=kH a0 a3
 obtain ⟨b6,b7,b8,b9⟩:=at4 a0
 go_wp2
 go_ret
 replace a1:=bH (bH a1 a2) a3
 exact ⟨rfl,a1.out⟩
set_option maxRecDepth 100000 in
theorem wm_no (w:World) (ware:ByteArray) (lim by_:Int) (A:Option Addr) (n k:Nat) (ps:List Prt) (B:Option Addr) (m d:Nat) (l:List Int) (hr:RdP w A n k ps) (hn:n≤maxLen) (hl:RdI w B m d l) (hm:m≤maxLen) (a b:Int) (hf:smlB ⟨ware,lim,by_,ps⟩ 12=true) (h60:¬ (60:Int)<m) (q:Int) (hq:askP2 ⟨ware,lim,by_,ps⟩ a b=q) (hne:q≠0):Calls Tryz.prog 14 #[.agg #[.string ware,.int .i64 lim,.int .i64 by_,.slice A n k],.int .i64 a,.int .i64 b,.slice B m d] w fun e w'=>e=.returned (.bool true)∧Below w.heap.size w w':=by
 have HF:=hid hf;have HQ:=hid hq;clear hf hq
 go_enter Tryz.func14,Tryz.ntmps14
 obtain ⟨a0,a1⟩:=ent1 w #[.string ware,.int .i64 lim,.int .i64 by_,.slice A n k] 24
 have a2:=hid (RdP.below (hr) a1.out)
 have a7:=iI hl a1
 clear hr hl
 obtain ⟨c1,c2,c3,c4⟩:=at4 a0
 have hc:=small_is ware lim by_ A n k ps 12 ((w.alloc (.cells #[.string ware,.int .i64 lim,.int .i64 by_,.slice A n k] 24))) a2.out hn _ HF.out
 have HC:=hid hc;clear hc
 go_wp2_with fail
 refine HC.out.mono ?_
 rintro e c5 ⟨rfl,hb⟩
 clear HC
 clear c1 c2 c3 c4
 have a3:=hid hb
 clear hb
 replace a0:=kH a0 a3
 obtain ⟨a9,b0,b1,b2⟩:=at4 a0
 replace a2:=hid (RdP.below (a2.out) a3.out)
 have hc:=Merge_no ware lim by_ A n k ps a b (c5) a2.out hn q HQ.out hne
 have HC:=hid hc;clear hc
 go_wp2_with fail
 refine HC.out.mono ?_
 rintro e a8 ⟨rfl,hb⟩
 clear HC
 clear a9 b0 b1 b2
 have a4:=hid hb
 clear hb
 obtain ⟨o_,ho_⟩:∃ o,o=((.cells #[.string ⟨#[]⟩,.int .i64 0,.int .i64 0,.slice none 0 0] 24):Obj):=⟨_,rfl⟩
 replace a1:=bA (bH (bH a1 a3) a4) o_
 replace a2:=hid (RdP.alloc ((hid (RdP.below (a2.out) a4.out)).out) (o_))
 replace a7:=iA (iH (iH a7 a3) a4) o_
 replace a0:=kA (kH a0 a4) o_
 subst ho_
 have a5:=hid (Blk.new a8 24 #[.string ⟨#[]⟩,.int .i64 0,.int .i64 0,.slice none 0 0])
 obtain ⟨b3,b4,b5,b6⟩:=at4 a0
 obtain ⟨b7,b8,b9,c0⟩:=at4 a5
 have hc:=told_any ((a8.alloc (.cells #[.string ⟨#[]⟩,.int .i64 0,.int .i64 0,.slice none 0 0] 24)))
 have HC:=hid hc;clear hc
 go_wp2_with fail
 refine HC.out.mono ?_
 rintro e c6 ⟨rfl,hb⟩
 clear HC
 clear b3 b4 b5 b6 b7 b8 b9 c0
 have a6:=hid hb
 clear hb
 replace a0:=kH a0 a6
 obtain ⟨c7,c8,c9,d0⟩:=at4 a0
 replace a5:=kH a5 a6
 obtain ⟨d1,d2,d3,d4⟩:=at4 a5
 go_wp2
 go_ret
 replace a1:=bH a1 a6
 exact ⟨rfl,a1.out⟩
set_option maxRecDepth 100000 in
theorem wm_clash (w:World) (ware:ByteArray) (lim by_:Int) (A:Option Addr) (n k:Nat) (ps:List Prt) (B:Option Addr) (m d:Nat) (l:List Int) (hr:RdP w A n k ps) (hn:n≤maxLen) (hl:RdI w B m d l) (hm:m≤maxLen) (hf:smlB ⟨ware,lim,by_,ps⟩ 12=true) (h60:¬ (60:Int)<m) (a b:Nat) (hq:askP2 ⟨ware,lim,by_,ps⟩ (a:Int) (b:Int)=0) (hcl:clN ps a b=true):Calls Tryz.prog 14 #[.agg #[.string ware,.int .i64 lim,.int .i64 by_,.slice A n k],.int .i64 a,.int .i64 b,.slice B m d] w fun e w'=>e=.returned (.bool true)∧Below w.heap.size w w':=by
 have HF:=hid hf;have HQ:=hid hq;have HCL:=hid hcl;clear hf hq hcl
 go_enter Tryz.func14,Tryz.ntmps14
 obtain ⟨a0,a1⟩:=ent1 w #[.string ware,.int .i64 lim,.int .i64 by_,.slice A n k] 24
 have a2:=hid (RdP.below (hr) a1.out)
 have a7:=iI hl a1
 clear hr hl
 obtain ⟨c1,c2,c3,c4⟩:=at4 a0
 have hc:=small_is ware lim by_ A n k ps 12 ((w.alloc (.cells #[.string ware,.int .i64 lim,.int .i64 by_,.slice A n k] 24))) a2.out hn _ HF.out
 have HC:=hid hc;clear hc
 go_wp2_with fail
 refine HC.out.mono ?_
 rintro e c5 ⟨rfl,hb⟩
 clear HC
 clear c1 c2 c3 c4
 have a3:=hid hb
 clear hb
 replace a0:=kH a0 a3
 obtain ⟨a9,b0,b1,b2⟩:=at4 a0
 replace a2:=hid (RdP.below (a2.out) a3.out)
 have hc:=Merge_clash ware lim by_ A n k ps a b (c5) a2.out hn HQ.out HCL.out
 have HC:=hid hc;clear hc
 go_wp2_with fail
 refine HC.out.mono ?_
 rintro e a8 ⟨rfl,hb⟩
 clear HC
 clear a9 b0 b1 b2
 have a4:=hid hb
 clear hb
 obtain ⟨o_,ho_⟩:∃ o,o=((.cells #[.string ⟨#[]⟩,.int .i64 0,.int .i64 0,.slice none 0 0] 24):Obj):=⟨_,rfl⟩
 replace a1:=bA (bH (bH a1 a3) a4) o_
 replace a2:=hid (RdP.alloc ((hid (RdP.below (a2.out) a4.out)).out) (o_))
 replace a7:=iA (iH (iH a7 a3) a4) o_
 replace a0:=kA (kH a0 a4) o_
 subst ho_
 have a5:=hid (Blk.new a8 24 #[.string ⟨#[]⟩,.int .i64 0,.int .i64 0,.slice none 0 0])
 obtain ⟨b3,b4,b5,b6⟩:=at4 a0
 obtain ⟨b7,b8,b9,c0⟩:=at4 a5
 have hc:=told_any ((a8.alloc (.cells #[.string ⟨#[]⟩,.int .i64 0,.int .i64 0,.slice none 0 0] 24)))
 have HC:=hid hc;clear hc
 go_wp2_with fail
 refine HC.out.mono ?_
 rintro e c6 ⟨rfl,hb⟩
 clear HC
 clear b3 b4 b5 b6 b7 b8 b9 c0
 have a6:=hid hb
 clear hb
 replace a0:=kH a0 a6
 obtain ⟨c7,c8,c9,d0⟩:=at4 a0
 replace a5:=kH a5 a6
 obtain ⟨d1,d2,d3,d4⟩:=at4 a5
 go_wp2
 go_ret
 replace a1:=bH a1 a6
 exact ⟨rfl,a1.out⟩
set_option maxRecDepth 100000 in
theorem wm_big (w:World) (ware:ByteArray) (lim by_:Int) (A:Option Addr) (n k:Nat) (ps:List Prt) (B:Option Addr) (m d:Nat) (l:List Int) (hr:RdP w A n k ps) (hn:n≤maxLen) (hl:RdI w B m d l) (hm:m≤maxLen) (hf:smlB ⟨ware,lim,by_,ps⟩ 12=true) (h60:¬ (60:Int)<m) (a b:Nat) (hq:askP2 ⟨ware,lim,by_,ps⟩ (a:Int) (b:Int)=0) (hcl:clN ps a b=false) (hbg:¬ ((mrgP (ps.getD (min a b) default) (ps.getD (max a b) default)).sh.length≤40∧(mrgP (ps.getD (min a b) default) (ps.getD (max a b) default)).rs.length≤200)):Calls Tryz.prog 14 #[.agg #[.string ware,.int .i64 lim,.int .i64 by_,.slice A n k],.int .i64 a,.int .i64 b,.slice B m d] w fun e w'=>e=.returned (.bool true)∧Below w.heap.size w w':=by
 have HF:=hid hf;have HQ:=hid hq;have HCL:=hid hcl;clear hf hq hcl
 have HBG:=hid (show 40<(mrgP (ps.getD (min a b) default) (ps.getD (max a b) default)).sh.length∨200<(mrgP (ps.getD (min a b) default) (ps.getD (max a b) default)).rs.length by omega);clear hbg
 go_enter Tryz.func14,Tryz.ntmps14
 obtain ⟨a0,a1⟩:=ent1 w #[.string ware,.int .i64 lim,.int .i64 by_,.slice A n k] 24
 have a2:=hid (RdP.below (hr) a1.out)
 have a7:=iI hl a1
 clear hr hl
 obtain ⟨c1,c2,c3,c4⟩:=at4 a0
 have hc:=small_is ware lim by_ A n k ps 12 ((w.alloc (.cells #[.string ware,.int .i64 lim,.int .i64 by_,.slice A n k] 24))) a2.out hn _ HF.out
 have HC:=hid hc;clear hc
 go_wp2_with fail
 refine HC.out.mono ?_
 rintro e c5 ⟨rfl,hb⟩
 clear HC
 clear c1 c2 c3 c4
 have a3:=hid hb
 clear hb
 replace a0:=kH a0 a3
 obtain ⟨a9,b0,b1,b2⟩:=at4 a0
 replace a2:=hid (RdP.below (a2.out) a3.out)
 have hc:=Merge_big ware lim by_ A n k ps a b (c5) a2.out hn HQ.out HCL.out HBG.out
 have HC:=hid hc;clear hc
 go_wp2_with fail
 refine HC.out.mono ?_
 rintro e a8 ⟨rfl,hb⟩
 clear HC
 clear a9 b0 b1 b2
 have a4:=hid hb
 clear hb
 obtain ⟨o_,ho_⟩:∃ o,o=((.cells #[.string ⟨#[]⟩,.int .i64 0,.int .i64 0,.slice none 0 0] 24):Obj):=⟨_,rfl⟩
 replace a1:=bA (bH (bH a1 a3) a4) o_
 replace a2:=hid (RdP.alloc ((hid (RdP.below (a2.out) a4.out)).out) (o_))
 replace a7:=iA (iH (iH a7 a3) a4) o_
 replace a0:=kA (kH a0 a4) o_
 subst ho_
 have a5:=hid (Blk.new a8 24 #[.string ⟨#[]⟩,.int .i64 0,.int .i64 0,.slice none 0 0])
 obtain ⟨b3,b4,b5,b6⟩:=at4 a0
 obtain ⟨b7,b8,b9,c0⟩:=at4 a5
 have hc:=told_any ((a8.alloc (.cells #[.string ⟨#[]⟩,.int .i64 0,.int .i64 0,.slice none 0 0] 24)))
 have HC:=hid hc;clear hc
 go_wp2_with fail
 refine HC.out.mono ?_
 rintro e c6 ⟨rfl,hb⟩
 clear HC
 clear b3 b4 b5 b6 b7 b8 b9 c0
 have a6:=hid hb
 clear hb
 replace a0:=kH a0 a6
 obtain ⟨c7,c8,c9,d0⟩:=at4 a0
 replace a5:=kH a5 a6
 obtain ⟨d1,d2,d3,d4⟩:=at4 a5
 go_wp2
 go_ret
 replace a1:=bH a1 a6
 exact ⟨rfl,a1.out⟩
set_option maxRecDepth 100000 in
theorem wm_wrong (w:World) (ware:ByteArray) (lim by_:Int) (A:Option Addr) (n k:Nat) (ps:List Prt) (B:Option Addr) (m d:Nat) (l:List Int) (hr:RdP w A n k ps) (hn:n≤maxLen) (hl:RdI w B m d l) (hm:m≤maxLen) (hf:smlB ⟨ware,lim,by_,ps⟩ 12=true) (h60:¬ (60:Int)<m) (a b:Nat) (hq:askP2 ⟨ware,lim,by_,ps⟩ (a:Int) (b:Int)=0) (hcl:clN ps a b=false) (hbg:(mrgP (ps.getD (min a b) default) (ps.getD (max a b) default)).sh.length≤40∧(mrgP (ps.getD (min a b) default) (ps.getD (max a b) default)).rs.length≤200) (hv:isAB (jntL ps a b) lim l=false):Calls Tryz.prog 14 #[.agg #[.string ware,.int .i64 lim,.int .i64 by_,.slice A n k],.int .i64 a,.int .i64 b,.slice B m d] w fun e w'=>e=.returned (.bool true)∧Below w.heap.size w w':=by
 have hpl:=hr.len
 obtain ⟨hck,ha,hb,hab⟩:=askP2_ok hq
 dsimp only at ha hb
 rw [hpl] at ha hb
 have h12:n≤12:=by have:=hf;unfold smlB at this;rw [Bool.and_eq_true,decide_eq_true_eq] at this;have:=this.2;dsimp only at this;omega
 have h20:n<20:=by omega
 have h203:n-1<20:=by omega
 have hn3:n-1≤maxLen:=by unfold maxLen;omega
 have hxm:max a b<n:=by omega
 have HQD:=hid (chk_jnt (ware:=ware) (lim:=lim) (by_:=by_) hpl ha hb hab hcl hck hbg.1 hbg.2)
 have hw1:∀ p∈ps,p.lo≤p.hi:=fun p hp=>(prtB_ok ((chkC_ok hck).2.2.2.2.2.1 p hp)).2.2.2.2.1
 have hw2:∀ p∈jntL ps a b,p.lo≤p.hi:=fun p hp=>(prtB_ok ((chkC_ok HQD.out).2.2.2.2.2.1 p hp)).2.2.2.2.1
 have g1:=ves_least hw1 (jnt_more hpl ha hb hab hcl (ves_col (jntL ps a b)))
 have g2:=ves_least hw2 (jnt_one hpl ha hb hab (ves_col ps))
 have g3:=(vesL_ok hpl).1
 obtain ⟨i0,hi0,hz0,hz1,hz2⟩:=info_parts infoIv
 have HI:=hid hi0;have HZ0:=hid hz0;have HZ1:=hid hz1;have HZ2:=hid hz2;clear hi0 hz0 hz1 hz2
 obtain ⟨N1,hN1⟩:∃ v,(vesL ps).length=v:=⟨_,rfl⟩
 obtain ⟨N2,hN2⟩:∃ v,(vesL (jntL ps a b)).length=v:=⟨_,rfl⟩
 rw [hN1,hN2] at g1 g2
 rw [hN1] at g3
 have y1:¬ ((N2:Int)<(N1:Int)):=by omega
 have y2:¬ ((N1:Int)+1<(N2:Int)):=by omega
 have y3:IntKind.i64.wrap ((N1:Int)+1)=(N1:Int)+1:=IntWalk.i64_in _ (by omega)
 have HF:=hid hf;have HQ:=hid hq;have HQC:=hid hck;have HN1:=hid hN1;have HN2:=hid hN2;have HBG:=hid hbg;have HCL:=hid hcl;have HAB:=hid hv
 clear hf hq hck hN1 hN2 hbg hcl hv hw1 hw2 g1 g2 hpl
 go_enter Tryz.func14,Tryz.ntmps14
 obtain ⟨a0,a3⟩:=ent1 w #[.string ware,.int .i64 lim,.int .i64 by_,.slice A n k] 24
 have a4:=hid (RdP.below (hr) a3.out)
 have a9:=iI hl a3
 clear hr hl
 obtain ⟨f2,f3,f4,f5⟩:=at4 a0
 have hc:=small_is ware lim by_ A n k ps 12 ((w.alloc (.cells #[.string ware,.int .i64 lim,.int .i64 by_,.slice A n k] 24))) a4.out hn _ HF.out
 have HC:=hid hc;clear hc
 go_wp2_with fail
 refine HC.out.mono ?_
 rintro e f6 ⟨rfl,hb⟩
 clear HC
 clear f2 f3 f4 f5
 have a7:=hid hb
 clear hb
 replace a0:=kH a0 a7
 obtain ⟨b3,b4,b5,b6⟩:=at4 a0
 replace a4:=hid (RdP.below (a4.out) a7.out)
 have hc:=Merge_yes ware lim by_ A n k ps a b (f6) a4.out hn HQ.out HCL.out HBG.out
 have HC:=hid hc;clear hc
 go_wp2_with fail
 refine HC.out.mono ?_
 rintro e b2 ⟨⟨R,k1,rfl,hopt⟩,hb⟩
 clear HC
 clear b3 b4 b5 b6
 have a8:=hid hb
 clear hb
 have hrd2:=OwnPt.rd hopt
 have a2:=hid (hrd2)
 clear hrd2 hopt
 obtain ⟨o_,ho_⟩:∃ o,o=((.cells #[.string ware,.int .i64 lim,.int .i64 by_,.slice R (n-1) k1] 24):Obj):=⟨_,rfl⟩
 replace a3:=bA (bH (bH a3 a7) a8) o_
 replace a4:=hid (RdP.alloc ((hid (RdP.below (a4.out) a8.out)).out) (o_))
 replace a9:=iA (iH (iH a9 a7) a8) o_
 replace a0:=kA (kH a0 a8) o_
 replace a2:=hid (RdP.alloc (a2.out) (o_))
 subst ho_
 have a1:=hid (Blk.new b2 24 #[.string ware,.int .i64 lim,.int .i64 by_,.slice R (n-1) k1])
 obtain ⟨b7,b8,b9,c0⟩:=at4 a0
 obtain ⟨c1,c2,c3,c4⟩:=at4 a1
 have hc:=Least_yes ware lim by_ A n k ps ((b2.alloc (.cells #[.string ware,.int .i64 lim,.int .i64 by_,.slice R (n-1) k1] 24))) a4.out hn HQC.out h20
 rw [HN1.out] at hc
 try dsimp only at hc
 have HC:=hid hc;clear hc
 go_wp2_with fail
 refine HC.out.mono ?_
 rintro e c5 ⟨rfl,hb⟩
 clear HC
 clear b7 b8 b9 c0 c1 c2 c3 c4
 have a5:=hid hb
 clear hb
 replace a0:=kH a0 a5
 obtain ⟨c6,c7,c8,c9⟩:=at4 a0
 replace a1:=kH a1 a5
 obtain ⟨d0,d1,d2,d3⟩:=at4 a1
 replace a2:=hid (RdP.below (a2.out) a5.out)
 have hc:=Least_yes ware lim by_ R (n-1) k1 (jntL ps a b) (c5) a2.out hn3 HQD.out h203
 rw [HN2.out] at hc
 try dsimp only at hc
 have HC:=hid hc;clear hc
 go_wp2_with fail
 refine HC.out.mono ?_
 rintro e d4 ⟨rfl,hb⟩
 clear HC
 clear c6 c7 c8 c9 d0 d1 d2 d3
 have a6:=hid hb
 clear hb
 replace a0:=kH a0 a6
 obtain ⟨d5,d6,d7,d8⟩:=at4 a0
 replace a1:=kH a1 a6
 obtain ⟨d9,e0,e1,e2⟩:=at4 a1
 replace a2:=hid (RdP.below (a2.out) a6.out)
 replace a9:=iH (iH a9 a5) a6
 have hc:=CheckAssign_yes ware lim by_ R (n-1) k1 (jntL ps a b) B m d l (d4) a2.out a9.out hn3 hm HQD.out
 rw [HAB.out] at hc
 try dsimp only at hc
 have HC:=hid hc;clear hc
 go_wp2_with fail
 refine HC.out.mono ?_
 rintro e e3 ⟨rfl,hb⟩
 clear HC
 clear d5 d6 d7 d8 d9 e0 e1 e2
 have b0:=hid hb
 clear hb
 replace a0:=kH a0 b0
 obtain ⟨e4,e5,e6,e7⟩:=at4 a0
 replace a1:=kH a1 b0
 obtain ⟨e8,e9,f0,f1⟩:=at4 a1
 have hc:=told_any (e3)
 have HC:=hid hc;clear hc
 go_wp2_with fail
 refine HC.out.mono ?_
 rintro e f7 ⟨rfl,hb⟩
 clear HC
 clear e4 e5 e6 e7 e8 e9 f0 f1
 have b1:=hid hb
 clear hb
 replace a0:=kH a0 b1
 obtain ⟨f8,f9,g0,g4⟩:=at4 a0
 replace a1:=kH a1 b1
 obtain ⟨g5,g6,g7,g8⟩:=at4 a1
 go_wp2
 go_ret
 replace a3:=bH (bH (bH (bH a3 a5) a6) b0) b1
 exact ⟨rfl,a3.out⟩
end Go.Proofs.YtokpblmgdmokoaaGreat
