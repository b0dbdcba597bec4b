import Derived.Test.YtebkniakflhhkaaGreatDoorACircle
set_option linter.unusedSimpArgs false
set_option linter.unusedVariables false
namespace Go.Proofs.YtebkniakflhhkaaGreatDoor
open Go.Lib (hid)
open Go.RowKit
def circleV (p:Int) (l:List Bnd):List Int × Bool × Int :=
 if gcode p l []=0 then (circleL l p.toNat,(circleO l p.toNat).isSome,0) else ([],false,gcode p l [])
set_option maxHeartbeats 2000000 in
theorem Circle_any (p:Int) (A:Option Addr) (n c:Nat) (l:List Bnd) (w:World) (hr:RdB w A n c l) (hn:n≤maxLen) :
 Calls Tryz.prog 70 #[.agg #[.int .i64 p,.slice A n c]] w (RetI (circleV p l) w):=by
 have hB:Below w.heap.size w (w.alloc (.cells #[.int .i64 p,.slice A n c] 84)):=(Below.refl _ w).alloc (Nat.le_refl _) _
 have hc:=graphOf_any p A none n c 0 0 l [] _ (hr.below hB) hn (RdI.nil_ _) (by omega)
 have HC:=hid hc;have HR:=hid hr;clear hc hr
 unfold circleV
 by_cases hg:gcode p l []=0
 · obtain ⟨hk,-⟩:=gcode_ok hg
   obtain ⟨hp1,hp2,hlen,-⟩:=chk_ok hk
   have hok:=okB_of hk
   rw [if_pos hg]
   rw [hg,sysR_yes] at HC
   clear hg hk
   obtain ⟨p,rfl⟩:=Int.eq_ofNat_of_zero_le (show 0≤p by omega)
   rw [Int.toNat_natCast]
   have hn2:n≤402:=by have:=HR.out.len;omega
   have hci:=fun w' hw'=>circle_any p A n c l (by omega) hn2 hok w' (HR.out.below hw')
   unfold RetB at hci
   generalize circleL l p=V at *
   generalize (circleO l p).isSome=ok at *
   have HCI:=hid hci;clear hci hok
   go_enter Tryz.func70,Tryz.ntmps70
   go_wp2_with fail
   refine HC.out.mono ?_
   rintro e w1 ⟨rfl,hb1⟩
   have hB1:=hB.trans (hb1.mono hB.size)
   go_wp2_with fail
   refine (HCI.out _ (hB1.alloc hB1.size _)).mono ?_
   rintro e w2 ⟨A2,n2,c2,rfl,ho,hb2⟩
   have HO:=hid ho;clear ho
   have hB2:=(hB1.alloc hB1.size (.cells #[.int .i64 (p:Int),.slice A n c] 133)).trans (hb2.mono (hB1.alloc hB1.size _).size)
   go_wp2
   go_ret3
   exact ⟨A2,n2,c2,rfl,owns_base HO.out (hB1.alloc hB1.size _).size,hB2⟩
 · rw [if_neg hg]
   generalize gcode p l []=q at *
   rw [sysR_no hg] at HC
   have hne:(q != 0)=true:=by simpa using hg
   clear hg
   go_enter Tryz.func70,Tryz.ntmps70
   go_wp2_with fail
   refine HC.out.mono ?_
   rintro e w1 ⟨rfl,hb1⟩
   have hB1:=hB.trans (hb1.mono hB.size)
   go_wp2
   go_ret3
   exact ⟨none,0,0,rfl,OwnI.nil_ _ _,(by have hsz_:=Below.size hB1;repeat' (first|with_reducible exact hB1|with_reducible exact Below.refl _ _|with_reducible refine Below.alloc ?_ ?_ _|with_reducible refine Below.setCell ?_ ?_ _|with_reducible refine Below.drew ?_|with_reducible refine below_setRow ?_ ?_ _|omega | (simp;done) | (simp;omega)))⟩
end Go.Proofs.YtebkniakflhhkaaGreatDoor
