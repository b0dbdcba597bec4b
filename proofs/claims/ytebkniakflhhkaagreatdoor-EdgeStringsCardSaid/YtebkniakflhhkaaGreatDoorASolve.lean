import Derived.Test.YtebkniakflhhkaaGreatDoorASolv
set_option maxHeartbeats 2000000
set_option linter.unusedSimpArgs false
set_option linter.unusedVariables false
namespace Go.Proofs.YtebkniakflhhkaaGreatDoor
open Go.Lib (hid)
open Go.RowKit
theorem OwnI.nil_ (w:World) (base:Nat):OwnI w base none 0 0 []:=World.ownsRow_nil w base _ _
theorem OwnB.nil_ (w:World) (base:Nat):OwnB w base none 0 0 []:=World.ownsRow_nil w base _ _
theorem list_any (p:Nat) (A:Option Addr) (n c:Nat) (x:List Int) (hx:x.length=60) (hp:p≤60) (w:World) :
 Calls Tryz.prog 127 #[.agg #[.int .i64 (p:Int),.slice A n c],.agg (arr x)] w fun e w'=>∃ g,e=.returned (.slice (some ⟨g,0,none⟩) p p)∧OwnI w' w.heap.size (some ⟨g,0,none⟩) p p (x.take p)∧Below w.heap.size w w':=by
 have hB:Below w.heap.size w ((w.alloc (.cells #[.int .i64 (p:Int),.slice A n c] 133)).alloc (.cells (arr x) 196)):=((Below.refl _ w).alloc (Nat.le_refl _) _).alloc (by simp) _
 have b1:=Blk.new (w.alloc (.cells #[.int .i64 (p:Int),.slice A n c] 133)) 196 (arr x)
 have hr:RdI ((w.alloc (.cells #[.int .i64 (p:Int),.slice A n c] 133)).alloc (.cells (arr x) 196)) (some ⟨w.heap.size+1,0,none⟩) p 60 (x.take p):=by
  refine ⟨by simp;omega,hp,(fun h=>by cases h),.inr ⟨w.heap.size+1,0,rfl,by simp,fun j u hu=>?_⟩⟩
  rw [Nat.zero_add]
  have:=b1.cell j
  rw [World.size_alloc] at this
  rw [this]
  rw [List.getElem?_map,List.getElem?_take] at hu
  split at hu
  · rename_i h
    rw [← hu]
    simp [arr]
  · simp at hu
 have hj:=joinedI_any _ none p 60 0 0 (x.take p) [] _ hr (RdI.nil_ _) (by omega)
 have HJ:=hid hj;clear hj hr b1
 have hp':(p:Int)≤60:=by omega
 go_enter Tryz.func127,Tryz.ntmps127
 go_wp2_with (go_at_call 157;refine HJ.out.mono ?_;rintro e w1 ⟨g,rfl,ho,hb1⟩;have HO:=hid ho;clear ho)
 go_ret
 refine ⟨g,rfl,?_,hB.trans (hb1.mono hB.size)⟩
 have:=HO.out
 rw [List.append_nil] at this
 exact owns_base this hB.size
def solveV (p:Int) (l:List Bnd):List Int × Bool × Int :=
 if gcode p l []=0 then (match settle l p.toNat zeros with|some y=>(y.take p.toNat,true,0)|none=>([],false,0)) else ([],false,gcode p l [])
def RetI (V:List Int × Bool × Int) (w:World) (e:Ending) (w':World):Prop :=
 ∃ A n c,e=.returned (.tuple #[.slice A n c,.bool V.2.1,.int .i64 V.2.2])∧OwnI w' w.heap.size A n c V.1∧Below w.heap.size w w'
theorem Solve_any (p:Int) (A:Option Addr) (n c:Nat) (l:List Bnd) (w:World) (hr:RdB w A n c l) (hn:n≤maxLen) :
 Calls Tryz.prog 89 #[.agg #[.int .i64 p,.slice A n c]] w (RetI (solveV p l) w):=by
 have hB:Below w.heap.size w (w.alloc (.cells #[.int .i64 p,.slice A n c] 84)):=(Below.refl _ w).alloc (Nat.le_refl _) _
 have hc:=graphOf_any p A none n c 0 0 l [] _ (hr.below hB) hn (RdI.nil_ _) (by omega)
 have HC:=hid hc;have HR:=hid hr;clear hc hr
 unfold solveV
 by_cases hg:gcode p l []=0
 · obtain ⟨hk,-⟩:=gcode_ok hg
   obtain ⟨hp1,hp2,hlen,-⟩:=chk_ok hk
   have hok:=okB_of hk
   rw [if_pos hg]
   rw [hg,sysR_yes] at HC
   clear hg hk
   obtain ⟨p,rfl⟩:=Int.eq_ofNat_of_zero_le (show 0≤p by omega)
   rw [Int.toNat_natCast]
   have hn2:n≤402:=by have:=HR.out.len;omega
   have hsol:=fun w' hw'=>solution_any p A n c l (by omega) hn2 hok w' (HR.out.below hw')
   have hzl:=setL_length (l:=l) (p:=p) zeros_length
   have hq2:setL l p zeros=(settle l p zeros).getD zeros:=rfl
   generalize setL l p zeros=z at *
   have HS:=hid hsol;have HZL:=hid hzl;have HZ:=hid hq2;clear hsol hzl hq2 hok
   cases hq:settle l p zeros with
   | none =>
    rw [hq] at HS
    have HQ:=hid hq;clear hq
    go_enter Tryz.func89,Tryz.ntmps89
    go_wp2_with fail
    refine HC.out.mono ?_
    rintro e w1 ⟨rfl,hb1⟩
    have hB1:=hB.trans (hb1.mono hB.size)
    go_wp2_with fail
    refine (HS.out _ (hB1.alloc hB1.size _)).mono ?_
    rintro e w2 ⟨rfl,hb2⟩
    have hB2:=(hB1.alloc hB1.size (.cells #[.int .i64 (p:Int),.slice A n c] 133)).trans (hb2.mono (hB1.alloc hB1.size _).size)
    have z3:=Blk.new w2 196 (arr zeros)
    have Z3:=hid z3;clear z3
    go_wp2_with (first | (refine wpList_alloc_row rfl 196 rfl (arr zeros) zero_sums.1 ?_;simp only [World.size_alloc]) | (refine wpList_store_row rfl 196 (.tmp 7) (.tmp 20) rfl _ (arr z) rfl rfl _ (arr zeros) Z3.out (size_sums HZL.out) ((arr_size _).trans (zeros_length.trans (HZL.out.symm.trans (arr_size _).symm))) (arr_one _) ?_;rw [World.setRow_alloc_new]))
    go_ret3
    exact ⟨none,0,0,rfl,OwnI.nil_ _ _,(by have hsz_:=Below.size hB2;repeat' (first|with_reducible exact hB2|with_reducible exact Below.refl _ _|with_reducible refine Below.alloc ?_ ?_ _|with_reducible refine Below.setCell ?_ ?_ _|with_reducible refine Below.drew ?_|with_reducible refine below_setRow ?_ ?_ _|omega | (simp;done) | (simp;omega)))⟩
   | some y =>
    rw [hq] at HS
    have hzy:z=y:=by rw [HZ.out,hq];rfl
    subst hzy
    have HQ:=hid hq;clear hq
    go_enter Tryz.func89,Tryz.ntmps89
    go_wp2_with fail
    refine HC.out.mono ?_
    rintro e w1 ⟨rfl,hb1⟩
    have hB1:=hB.trans (hb1.mono hB.size)
    go_wp2_with fail
    refine (HS.out _ (hB1.alloc hB1.size _)).mono ?_
    rintro e w2 ⟨rfl,hb2⟩
    have hB2:=(hB1.alloc hB1.size (.cells #[.int .i64 (p:Int),.slice A n c] 133)).trans (hb2.mono (hB1.alloc hB1.size _).size)
    have z3:=Blk.new w2 196 (arr zeros)
    have z4:=Blk.new w2 196 (arr z)
    have c2:=((Blk.new w1 133 #[.int .i64 (p:Int),.slice A n c]).keep hb2).alloc (.cells (arr z) 196)
    have y0:(w2.alloc (.cells (arr z) 196)).cell? ⟨w1.heap.size,0,none⟩=some (.int .i64 (p:Int)):=c2.cell 0
    have y1:(w2.alloc (.cells (arr z) 196)).cell? ⟨w1.heap.size,1,none⟩=some (.slice A n c):=c2.cell 1
    have Z3:=hid z3;have Z4:=hid z4;clear z3 z4 c2
    go_wp2_with (first | (refine wpList_alloc_row rfl 196 rfl (arr zeros) zero_sums.1 ?_;simp only [World.size_alloc]) | (refine wpList_store_row rfl 196 (.tmp 7) (.tmp 20) rfl _ (arr z) rfl rfl _ (arr zeros) Z3.out (size_sums HZL.out) ((arr_size _).trans (zeros_length.trans (HZL.out.symm.trans (arr_size _).symm))) (arr_one _) ?_;rw [World.setRow_alloc_new]) | (refine wpList_load_row rfl 196 (.tmp 25) rfl _ rfl _ (arr z) (0,0) _ Z4.out Tryz.underlying196 rfl (size_sums HZL.out) ?_) | (refine wpList_load_row rfl 196 (.tmp 7) rfl _ rfl _ (arr z) (0,0) _ Z4.out Tryz.underlying196 rfl (size_sums HZL.out) ?_))
    refine (list_any p A n c z HZL.out (by omega) _).mono ?_
    rintro e w3 ⟨g,rfl,ho,hb3⟩
    have hB3:=(hB2.alloc hB2.size (.cells (arr z) 196)).trans (hb3.mono (hB2.alloc hB2.size _).size)
    have HO:=hid ho;clear ho
    go_wp2
    go_ret3
    exact ⟨_,_,_,rfl,owns_base HO.out (hB2.alloc hB2.size _).size,hB3⟩
 · rw [if_neg hg]
   generalize gcode p l []=q at *
   rw [sysR_no hg] at HC
   have hne:(q != 0)=true:=by simpa using hg
   clear hg
   go_enter Tryz.func89,Tryz.ntmps89
   go_wp2_with fail
   refine HC.out.mono ?_
   rintro e w1 ⟨rfl,hb1⟩
   have hB1:=hB.trans (hb1.mono hB.size)
   go_wp2
   go_ret3
   exact ⟨none,0,0,rfl,OwnI.nil_ _ _,(by have hsz_:=Below.size hB1;repeat' (first|with_reducible exact hB1|with_reducible exact Below.refl _ _|with_reducible refine Below.alloc ?_ ?_ _|with_reducible refine Below.setCell ?_ ?_ _|with_reducible refine Below.drew ?_|with_reducible refine below_setRow ?_ ?_ _|omega | (simp;done) | (simp;omega)))⟩
end Go.Proofs.YtebkniakflhhkaaGreatDoor
