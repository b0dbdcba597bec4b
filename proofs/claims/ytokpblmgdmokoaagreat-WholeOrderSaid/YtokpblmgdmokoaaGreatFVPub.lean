import Derived.Test.YtokpblmgdmokoaaGreatAVIsw
import Derived.Test.YtokpblmgdmokoaaGreatFVOf
set_option maxHeartbeats 4000000
set_option linter.unusedSimpArgs false
set_option linter.unusedVariables false
namespace Go.Proofs.YtokpblmgdmokoaaGreat
open Go.Lib (hid)
open Go.RowKit Go.Maps Go.Shelf
set_option maxRecDepth 100000 in
theorem Least_no (ware:ByteArray) (lim by_:Int) (A:Option Addr) (n k:Nat) (ps:List Prt) (w:World) (hr:RdP w A n k ps) (hn:n≤maxLen) (q:Int) (hq:chkC ⟨ware,lim,by_,ps⟩=q) (hne:q≠0):Calls Tryz.prog 42 #[.agg #[.string ware,.int .i64 lim,.int .i64 by_,.slice A n k]] w fun e w'=>e=.returned (.tuple #[.int .i64 0,.int .i64 q])∧Below w.heap.size w w':=by
 have HQ:=hid hq;clear hq
 go_enter Tryz.func42,Tryz.ntmps42
 obtain ⟨a1,a0⟩:=ent1 w #[.string ware,.int .i64 lim,.int .i64 by_,.slice A n k] 24
 have a3:=hid (RdP.below (hr) a0.out)
 clear hr
 obtain ⟨a4,a5,a6,a7⟩:=at4 a1
 have hc:=viewOf_no ware lim by_ A n k ps none 0 0 [] ((w.alloc (.cells #[.string ware,.int .i64 lim,.int .i64 by_,.slice A n k] 24))) a3.out (rdI_none _) hn (by unfold maxLen;omega) q ((askP_nil _).trans HQ.out) hne
 have HC:=hid hc;clear hc
 go_wp2_with fail
 refine HC.out.mono ?_
 rintro e b2 ⟨rfl,hb⟩
 clear HC
 clear a4 a5 a6 a7
 have a2:=hid hb
 clear hb
 replace a1:=kH a1 a2
 obtain ⟨a8,a9,b0,b1⟩:=at4 a1
 go_wp2
 replace a0:=bH a0 a2
 refine bodyPost_ret (v:=.tuple #[.int .i64 0,.int .i64 q]) (by simp [results,Tryz.results42,go_sem]) rfl ⟨rfl,a0.out⟩
set_option maxRecDepth 100000 in
theorem Numbers_no (ware:ByteArray) (lim by_:Int) (A:Option Addr) (n k:Nat) (ps:List Prt) (w:World) (hr:RdP w A n k ps) (hn:n≤maxLen) (q:Int) (hq:chkC ⟨ware,lim,by_,ps⟩=q) (hne:q≠0):Calls Tryz.prog 46 #[.agg #[.string ware,.int .i64 lim,.int .i64 by_,.slice A n k]] w fun e w'=>e=.returned (.tuple #[.int .i64 0,.int .i64 0,.bool false,.int .i64 q])∧Below w.heap.size w w':=by
 have HQ:=hid hq;clear hq
 go_enter Tryz.func46,Tryz.ntmps46
 obtain ⟨a1,a0⟩:=ent1 w #[.string ware,.int .i64 lim,.int .i64 by_,.slice A n k] 24
 have a3:=hid (RdP.below (hr) a0.out)
 clear hr
 obtain ⟨a4,a5,a6,a7⟩:=at4 a1
 have hc:=viewOf_no ware lim by_ A n k ps none 0 0 [] ((w.alloc (.cells #[.string ware,.int .i64 lim,.int .i64 by_,.slice A n k] 24))) a3.out (rdI_none _) hn (by unfold maxLen;omega) q ((askP_nil _).trans HQ.out) hne
 have HC:=hid hc;clear hc
 go_wp2_with fail
 refine HC.out.mono ?_
 rintro e b2 ⟨rfl,hb⟩
 clear HC
 clear a4 a5 a6 a7
 have a2:=hid hb
 clear hb
 replace a1:=kH a1 a2
 obtain ⟨a8,a9,b0,b1⟩:=at4 a1
 go_wp2
 replace a0:=bH a0 a2
 refine bodyPost_ret (v:=.tuple #[.int .i64 0,.int .i64 0,.bool false,.int .i64 q]) (by simp [results,Tryz.results46,go_sem]) rfl ⟨rfl,a0.out⟩
end Go.Proofs.YtokpblmgdmokoaaGreat
