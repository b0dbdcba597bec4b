import Derived.Test.YtokpblmgdmokoaaGreatFVFew
set_option linter.unusedSimpArgs false
set_option linter.unusedVariables false
namespace Go.Proofs.YtokpblmgdmokoaaGreat
open Go.Lib (hid)
open Go.RowKit
def smlB (c:Cse) (M:Int):Bool:=fewB c&&decide ((c.ps.length:Int)≤M)
set_option maxRecDepth 100000 in
set_option maxHeartbeats 4000000 in
theorem small_any (ware:ByteArray) (lim by_:Int) (A:Option Addr) (n k:Nat) (ps:List Prt) (M:Int) (w:World) (hr:RdP w A n k ps) (hn:n≤maxLen):Calls Tryz.prog 48 #[.agg #[.string ware,.int .i64 lim,.int .i64 by_,.slice A n k],.int .i64 M] w fun e w'=>e=.returned (.bool (smlB ⟨ware,lim,by_,ps⟩ M))∧Below w.heap.size w w':=by
 have hl:=hr.len
 cases hf:fewB ⟨ware,lim,by_,ps⟩
 · have HF:=hid hf
   have HS:=hid (show smlB ⟨ware,lim,by_,ps⟩ M=false by unfold smlB;rw [hf];rfl);clear hf
   rw [HS.out]
   go_enter Tryz.func48,Tryz.ntmps48
   obtain ⟨a1,a0⟩:=ent1 w #[.string ware,.int .i64 lim,.int .i64 by_,.slice A n k] 24
   have a3:=hid (RdP.below (hr) a0.out)
   clear hr
   obtain ⟨a4,a5,a6,a7⟩:=at4 a1
   have hc:=few_is ware lim by_ A n k ps ((w.alloc (.cells #[.string ware,.int .i64 lim,.int .i64 by_,.slice A n k] 24))) a3.out hn _ HF.out
   have HC:=hid hc;clear hc
   go_wp2_with fail
   refine HC.out.mono ?_
   rintro e b2 ⟨rfl,hb⟩
   clear HC
   clear a4 a5 a6 a7
   have a2:=hid hb
   clear hb
   replace a1:=kH a1 a2
   obtain ⟨a8,a9,b0,b1⟩:=at4 a1
   go_wp2
   go_ret
   replace a0:=bH a0 a2
   exact ⟨rfl,a0.out⟩
 · have HF:=hid hf
   by_cases hM:(n:Int)≤M
   · have HS:=hid (show smlB ⟨ware,lim,by_,ps⟩ M=true by unfold smlB;rw [hf,hl];simp [hM]);clear hf
     rw [HS.out]
     have HM:=hid hM
     go_enter Tryz.func48,Tryz.ntmps48
     obtain ⟨a1,a0⟩:=ent1 w #[.string ware,.int .i64 lim,.int .i64 by_,.slice A n k] 24
     have a3:=hid (RdP.below (hr) a0.out)
     clear hr
     obtain ⟨a4,a5,a6,a7⟩:=at4 a1
     have hc:=few_is ware lim by_ A n k ps ((w.alloc (.cells #[.string ware,.int .i64 lim,.int .i64 by_,.slice A n k] 24))) a3.out hn _ HF.out
     have HC:=hid hc;clear hc
     go_wp2_with fail
     refine HC.out.mono ?_
     rintro e b2 ⟨rfl,hb⟩
     clear HC
     clear a4 a5 a6 a7
     have a2:=hid hb
     clear hb
     replace a1:=kH a1 a2
     obtain ⟨a8,a9,b0,b1⟩:=at4 a1
     go_wp2
     go_ret
     replace a0:=bH a0 a2
     exact ⟨by simp [HM.out],a0.out⟩
   · have HS:=hid (show smlB ⟨ware,lim,by_,ps⟩ M=false by unfold smlB;rw [hf,hl];simp [hM]);clear hf
     rw [HS.out]
     have HM:=hid (decide_eq_false hM)
     go_enter Tryz.func48,Tryz.ntmps48
     obtain ⟨a1,a0⟩:=ent1 w #[.string ware,.int .i64 lim,.int .i64 by_,.slice A n k] 24
     have a3:=hid (RdP.below (hr) a0.out)
     clear hr
     obtain ⟨a4,a5,a6,a7⟩:=at4 a1
     have hc:=few_is ware lim by_ A n k ps ((w.alloc (.cells #[.string ware,.int .i64 lim,.int .i64 by_,.slice A n k] 24))) a3.out hn _ HF.out
     have HC:=hid hc;clear hc
     go_wp2_with fail
     refine HC.out.mono ?_
     rintro e b2 ⟨rfl,hb⟩
     clear HC
     clear a4 a5 a6 a7
     have a2:=hid hb
     clear hb
     replace a1:=kH a1 a2
     obtain ⟨a8,a9,b0,b1⟩:=at4 a1
     go_wp2
     go_ret
     replace a0:=bH a0 a2
     exact ⟨by simp [HM.out],a0.out⟩
theorem small_is (ware:ByteArray) (lim by_:Int) (A:Option Addr) (n k:Nat) (ps:List Prt) (M:Int) (w:World) (hr:RdP w A n k ps) (hn:n≤maxLen) (v:Bool) (hv:smlB ⟨ware,lim,by_,ps⟩ M=v):Calls Tryz.prog 48 #[.agg #[.string ware,.int .i64 lim,.int .i64 by_,.slice A n k],.int .i64 M] w fun e w'=>e=.returned (.bool v)∧Below w.heap.size w w':=by
 subst hv
 exact small_any ware lim by_ A n k ps M w hr hn
end Go.Proofs.YtokpblmgdmokoaaGreat
