import Derived.Test.YtebkniakflhhkaaGreatDoorAFrom
import Derived.Test.YtebkniakflhhkaaGreatDoorAGraph
set_option linter.unusedSimpArgs false
set_option linter.unusedVariables false
namespace Go.Proofs.YtebkniakflhhkaaGreatDoor
open Go.Lib (hid)
open Go.RowKit
theorem sysR_yes (p:Int) (A:Option Addr) (n c:Nat):sysR 0 p A n c=.tuple #[.agg #[.int .i64 p,.slice A n c],.int .i64 0]:=by unfold sysR;rw [if_pos rfl]
theorem sysR_no {q:Int} (h:q≠0) (p:Int) (A:Option Addr) (n c:Nat):sysR q p A n c=.tuple #[.agg #[.int .i64 0,.slice none 0 0],.int .i64 q]:=by unfold sysR;rw [if_neg h]
theorem gcode_ok {p:Int} {l:List Bnd} {ps:List Int} (h:gcode p l ps=0):chk p l=0∧ps.all (isPt p)=true:=by
 unfold gcode at h
 split at h
 · rename_i h1
   refine ⟨h1,?_⟩
   split at h
   · assumption
   · cases h
 · rename_i h1;exact absurd h h1
theorem okB_of {p:Int} {l:List Bnd} (h:chk p l=0):OkB l:=by
 obtain ⟨h1,h2,_,h4⟩:=chk_ok h
 intro b hb
 have:=of_decide_eq_true (h4 b hb)
 omega
def scode (p:Int) (l:List Bnd) (ps:List Int):Int:=if gcode p l ps=0 then (if (settle l p.toNat zeros).isSome then 0 else 10) else gcode p l ps
set_option maxHeartbeats 2000000 in
theorem solvable_any (p:Int) (A B:Option Addr) (n c m d:Nat) (l:List Bnd) (ps:List Int) (w:World) (hr:RdB w A n c l) (hn:n≤maxLen) (hq:RdI w B m d ps) (hm:m≤100000) :
 Calls Tryz.prog 90 #[.agg #[.int .i64 p,.slice A n c],.slice B m d] w fun e w'=>e=.returned (sysR (scode p l ps) p A n c)∧Below w.heap.size w w':=by
 have hB:Below w.heap.size w ((w.alloc (.cells #[.int .i64 p,.slice A n c] 84)).alloc (.cells #[.int .i64 0,.slice none 0 0] 133)):=((Below.refl _ w).alloc (Nat.le_refl _) _).alloc (by simp) _
 have hc:=graphOf_any p A B n c m d l ps _ (hr.below hB) hn (hq.below hB) hm
 have b1:=Blk.new (w.alloc (.cells #[.int .i64 p,.slice A n c] 84)) 133 #[.int .i64 0,.slice none 0 0]
 simp only [World.size_alloc] at b1
 have HC:=hid hc;have B1:=hid b1;have HR:=hid hr;clear hc b1 hr hq
 by_cases hg:gcode p l ps=0
 · obtain ⟨hk,-⟩:=gcode_ok hg
   obtain ⟨hp1,hp2,hlen,-⟩:=chk_ok hk
   have hok:=okB_of hk
   have hsc:scode p l ps=if (settle l p.toNat zeros).isSome then 0 else 10:=by unfold scode;rw [if_pos hg]
   rw [hg,sysR_yes] at HC
   rw [hsc]
   obtain ⟨p,rfl⟩:=Int.eq_ofNat_of_zero_le (show 0≤p by omega)
   rw [Int.toNat_natCast]
   have hn2:n≤402:=by have:=HR.out.len;omega
   have hsol:=fun w' hw'=>solution_any p A n c l (by omega) hn2 hok w' (HR.out.below hw')
   have hzl:=setL_length (l:=l) (p:=p) zeros_length
   generalize (settle l p zeros).isSome=q at *
   generalize setL l p zeros=z at *
   have HS:=hid hsol;have HZL:=hid hzl;clear hsol hzl hg hk hok hsc
   cases q
   all_goals
    go_enter Tryz.func90,Tryz.ntmps90
    go_wp2_with fail
    refine HC.out.mono ?_
    rintro e w1 ⟨rfl,hb1⟩
    have hB1:=hB.trans (hb1.mono hB.size)
    have c1:=B1.out.keep hb1
    have C1:=hid c1;clear c1
    have hlt:=C1.out.lt
    go_wp2_with fail
    refine (HS.out _ (hB1.alloc hB1.size _)).mono ?_
    rintro e w2 ⟨rfl,hb2⟩
    have hB2:=(hB1.alloc hB1.size (.cells #[.int .i64 (p:Int),.slice A n c] 133)).trans (hb2.mono (hB1.alloc hB1.size _).size)
    have c1:=(C1.out.alloc (.cells #[.int .i64 (p:Int),.slice A n c] 133)).keep hb2
    have c2:=(Blk.new w1 133 #[.int .i64 (p:Int),.slice A n c]).keep hb2
    have v0:w2.cell? ⟨w.heap.size+1,0,none⟩=some (.int .i64 0):=c1.cell 0
    have v1:w2.cell? ⟨w.heap.size+1,1,none⟩=some (.slice none 0 0):=c1.cell 1
    have f0:w2.frozen? ⟨w.heap.size+1,0,none⟩=false:=c1.frozen 0
    have f1:w2.frozen? ⟨w.heap.size+1,1,none⟩=false:=c1.frozen 1
    have y0:w2.cell? ⟨w1.heap.size,0,none⟩=some (.int .i64 (p:Int)):=c2.cell 0
    have y1:w2.cell? ⟨w1.heap.size,1,none⟩=some (.slice A n c):=c2.cell 1
    have l1:=c1.lt;have l2:=c2.lt
    have z3:=Blk.new w2 196 (arr zeros)
    have Z3:=hid z3;clear z3 c1 c2
    go_wp2_with (first | (refine wpList_alloc_row rfl 196 rfl (arr zeros) zero_sums.1 ?_;simp only [World.size_alloc]) | (refine wpList_store_row rfl 196 (.tmp 8) (.tmp 23) rfl _ (arr z) rfl rfl _ (arr zeros) Z3.out (size_sums HZL.out) ((arr_size _).trans (zeros_length.trans (HZL.out.symm.trans (arr_size _).symm))) (arr_one _) ?_;rw [World.setRow_alloc_new]))
   · refine bodyPost_ret (v:=sysR 10 p A n c) (by rw [sysR_no (by omega)];simp [results,Tryz.results90,go_sem,v0,v1,l1]) rfl ⟨rfl,?_⟩
     exact (by have hsz_:=Below.size hB2;repeat' (first|with_reducible exact hB2|with_reducible exact Below.refl _ _|with_reducible refine Below.alloc ?_ ?_ _|with_reducible refine Below.setCell ?_ ?_ _|with_reducible refine Below.drew ?_|with_reducible refine below_setRow ?_ ?_ _|omega | (simp;done) | (simp;omega)))
   · refine bodyPost_ret (v:=sysR 0 p A n c) (by rw [sysR_yes];simp [results,Tryz.results90,go_sem,v0,v1,l1]) rfl ⟨rfl,?_⟩
     exact (by have hsz_:=Below.size hB2;repeat' (first|with_reducible exact hB2|with_reducible exact Below.refl _ _|with_reducible refine Below.alloc ?_ ?_ _|with_reducible refine Below.setCell ?_ ?_ _|with_reducible refine Below.drew ?_|with_reducible refine below_setRow ?_ ?_ _|omega | (simp;done) | (simp;omega)))
 · have hsc:scode p l ps=gcode p l ps:=by unfold scode;rw [if_neg hg]
   rw [hsc]
   generalize gcode p l ps=q at *
   rw [sysR_no hg] at HC ⊢
   have hne:(q != 0)=true:=by simpa using hg
   have HG:=hid hg;clear hg hsc
   go_enter Tryz.func90,Tryz.ntmps90
   go_wp2_with fail
   refine HC.out.mono ?_
   rintro e w1 ⟨rfl,hb1⟩
   have hB1:=hB.trans (hb1.mono hB.size)
   have c1:=B1.out.keep hb1
   have v0:w1.cell? ⟨w.heap.size+1,0,none⟩=some (.int .i64 0):=c1.cell 0
   have v1:w1.cell? ⟨w.heap.size+1,1,none⟩=some (.slice none 0 0):=c1.cell 1
   have f0:w1.frozen? ⟨w.heap.size+1,0,none⟩=false:=c1.frozen 0
   have f1:w1.frozen? ⟨w.heap.size+1,1,none⟩=false:=c1.frozen 1
   have hlt:=c1.lt
   clear c1
   go_wp2
   refine bodyPost_ret (v:=.tuple #[.agg #[.int .i64 0,.slice none 0 0],.int .i64 q]) (by simp [results,Tryz.results90,go_sem,v0,v1,hlt]) rfl ⟨rfl,?_⟩
   exact (by have hsz_:=Below.size hB1;repeat' (first|with_reducible exact hB1|with_reducible exact Below.refl _ _|with_reducible refine Below.alloc ?_ ?_ _|with_reducible refine Below.setCell ?_ ?_ _|with_reducible refine Below.drew ?_|with_reducible refine below_setRow ?_ ?_ _|omega | (simp;done) | (simp;omega)))
end Go.Proofs.YtebkniakflhhkaaGreatDoor
