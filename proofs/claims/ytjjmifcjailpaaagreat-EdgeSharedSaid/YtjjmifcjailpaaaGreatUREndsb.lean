import Derived.Test.YtjjmifcjailpaaaGreatUGraph
import Derived.Test.YtjjmifcjailpaaaGreatURef
import Derived.Test.YtjjmifcjailpaaaGreatUEPlace
import Derived.Deep.DeepCutAuto
import Derived.Deep.OwnRows
import Derived.Laws.AppendOwnNone
import Derived.Lib.SmallJoins
import Derived.Maps.OwnIn
import Derived.Shelf.SlIterI.Nil
import Derived.Shelf.Slices.Reverse
import Derived.Shelf.SortM.Plain
import Derived.Shelf.SortM.SortNone
import Derived.Sort.OwnSortedInts
import Derived.Test.YtjjmifcjailpaaaGreatUEnds
import Derived.Test.YtjjmifcjailpaaaGreatURGreatb
set_option maxHeartbeats 4000000
set_option linter.unusedSimpArgs false
set_option linter.unusedVariables false
namespace Go.Proofs.YtjjmifcjailpaaaGreat
open Go.Lib (hid)
open Go.RowKit
end Go.Proofs.YtjjmifcjailpaaaGreat
/- The reference's CheckSystem. -/
namespace Go.Proofs.YtjjmifcjailpaaaGreat
open Go.Lib (hid)
open Go.RowKit
end Go.Proofs.YtjjmifcjailpaaaGreat
/- The reference's asked. -/
namespace Go.Proofs.YtjjmifcjailpaaaGreat
open Go.Lib (hid)
open Go.RowKit
theorem asked_any (p a b:Int) (A:Option Addr) (n c:Nat) (l:List Bnd) (w:World) (hr:RdB w A n c l) (hn:n≤maxLen) :
 Calls Tryz.prog 101 #[.agg #[.int .i64 p,.slice A n c],.int .i64 a,.int .i64 b] w fun e w'=>e=.returned (.int .i64 (gcode p l [a,b]))∧Below w.heap.size w w':=by
 have hB:Below w.heap.size w (w.alloc (.cells #[.int .i64 p,.slice A n c] 84)):=(Below.refl _ w).alloc (Nat.le_refl _) _
 have b0:=Blk.new w 84 #[.int .i64 p,.slice A n c]
 have hc:=rCheckSystem_any p A n c l _ (hr.below hB) hn
 have HC:=hid hc;have B0:=hid b0;clear hc hr b0
 unfold gcode
 by_cases hk:chk p l=0
 · rw [if_pos hk]
   rw [hk] at HC
   clear hk
   by_cases ha:0≤a∧a≤p-1
   · have hpf:=fun w=>rpoint_yes p A n c a w ha
     by_cases hb:0≤b∧b≤p-1
     · have hpt:=fun w=>rpoint_yes p A n c b w hb
       rw [if_pos (by simp [isPt];omega)]
       have HPF:=hid hpf;have HPT:=hid hpt;have HA:=hid ha;have HB:=hid hb;clear hpf hpt ha hb
       go_enter Tryz.func101,Tryz.ntmps101
       go_wp2_with fail
       refine HC.out.mono ?_
       rintro e w1 ⟨rfl,hb1⟩
       have hB1:=hB.trans (hb1.mono hB.size)
       have c1:=B0.out.keep hb1
       have hz:=c1.lt
       have y0:w1.cell? ⟨w.heap.size,0,none⟩=some (.int .i64 p):=c1.cell 0
       have y1:w1.cell? ⟨w.heap.size,1,none⟩=some (.slice A n c):=c1.cell 1
       clear c1
       go_wp2_with (first | (go_at_call 119;with_reducible refine (HPF.out _).mono ?_;rintro e w' ⟨rfl,rfl⟩) | (go_at_call 119;with_reducible refine (HPT.out _).mono ?_;rintro e w' ⟨rfl,rfl⟩))
       go_ret
       exact ⟨rfl,(by have hsz_:=Below.size hB1;repeat' (first|with_reducible exact hB1|with_reducible exact Below.refl _ _|with_reducible refine Below.alloc ?_ ?_ _|with_reducible refine Below.setCell ?_ ?_ _|with_reducible refine Below.drew ?_|with_reducible refine below_setRow ?_ ?_ _|omega | (simp;done) | (simp;omega)))⟩
     · have hpt:=fun w=>rpoint_no p A n c b w hb
       rw [if_neg (by simp [isPt];omega)]
       have HPF:=hid hpf;have HPT:=hid hpt;have HA:=hid ha;have HB:=hid hb;clear hpf hpt ha hb
       go_enter Tryz.func101,Tryz.ntmps101
       go_wp2_with fail
       refine HC.out.mono ?_
       rintro e w1 ⟨rfl,hb1⟩
       have hB1:=hB.trans (hb1.mono hB.size)
       have c1:=B0.out.keep hb1
       have hz:=c1.lt
       have y0:w1.cell? ⟨w.heap.size,0,none⟩=some (.int .i64 p):=c1.cell 0
       have y1:w1.cell? ⟨w.heap.size,1,none⟩=some (.slice A n c):=c1.cell 1
       clear c1
       go_wp2_with (first | (go_at_call 119;with_reducible refine (HPF.out _).mono ?_;rintro e w' ⟨rfl,rfl⟩) | (go_at_call 119;with_reducible refine (HPT.out _).mono ?_;rintro e w' ⟨rfl,rfl⟩))
       go_ret
       exact ⟨rfl,(by have hsz_:=Below.size hB1;repeat' (first|with_reducible exact hB1|with_reducible exact Below.refl _ _|with_reducible refine Below.alloc ?_ ?_ _|with_reducible refine Below.setCell ?_ ?_ _|with_reducible refine Below.drew ?_|with_reducible refine below_setRow ?_ ?_ _|omega | (simp;done) | (simp;omega)))⟩
   · have hpf:=fun w=>rpoint_no p A n c a w ha
     rw [if_neg (by simp [isPt];omega)]
     have hpt:=fun w=>rpoint_any p A n c b w
     generalize (decide (0≤b)&&decide (b<p))=bt at *
     have HPF:=hid hpf;have HPT:=hid hpt;have HA:=hid ha;clear hpf hpt ha
     go_enter Tryz.func101,Tryz.ntmps101
     go_wp2_with fail
     refine HC.out.mono ?_
     rintro e w1 ⟨rfl,hb1⟩
     have hB1:=hB.trans (hb1.mono hB.size)
     have c1:=B0.out.keep hb1
     have hz:=c1.lt
     have y0:w1.cell? ⟨w.heap.size,0,none⟩=some (.int .i64 p):=c1.cell 0
     have y1:w1.cell? ⟨w.heap.size,1,none⟩=some (.slice A n c):=c1.cell 1
     clear c1
     go_wp2_with (first | (go_at_call 119;with_reducible refine (HPF.out _).mono ?_;rintro e w' ⟨rfl,rfl⟩) | (go_at_call 119;with_reducible refine (HPT.out _).mono ?_;rintro e w' ⟨rfl,rfl⟩))
     go_ret
     exact ⟨rfl,(by have hsz_:=Below.size hB1;repeat' (first|with_reducible exact hB1|with_reducible exact Below.refl _ _|with_reducible refine Below.alloc ?_ ?_ _|with_reducible refine Below.setCell ?_ ?_ _|with_reducible refine Below.drew ?_|with_reducible refine below_setRow ?_ ?_ _|omega | (simp;done) | (simp;omega)))⟩
 · rw [if_neg hk]
   generalize chk p l=q at *
   have hne:(q != 0)=true:=by simpa using hk
   clear hk
   go_enter Tryz.func101,Tryz.ntmps101
   go_wp2_with fail
   refine HC.out.mono ?_
   rintro e w1 ⟨rfl,hb1⟩
   go_wp2
   go_ret
   exact ⟨rfl,hB.trans (hb1.mono hB.size)⟩
end Go.Proofs.YtjjmifcjailpaaaGreat
/- The reference's copied. -/
namespace Go.Proofs.YtjjmifcjailpaaaGreat
open Go.Lib (hid)
open Go.RowKit
end Go.Proofs.YtjjmifcjailpaaaGreat
/- The reference's SameSystem. -/
namespace Go.Proofs.YtjjmifcjailpaaaGreat
open Go.Lib (hid)
open Go.RowKit
end Go.Proofs.YtjjmifcjailpaaaGreat
/- wide, small, three: what the laws of layer 1 begin with. -/
namespace Go.Proofs.YtjjmifcjailpaaaGreat
open Go.Lib (hid)
open Go.RowKit
set_option maxRecDepth 100000 in
theorem rSolved_yes (p:Nat) (A:Option Addr) (n k:Nat) (l:List Bnd) (w:World) (hr:RdB w A n k l) (hn:n≤maxLen) (hn4:n≤402) (hp1:1≤p) (hp:p≤60) (HE:Hid (OkP p l)) (hS:(settle l p zeros).isSome=true) :
 Calls Tryz.prog 102 #[.agg #[.int .i64 (p:Int),.slice A n k]] w fun e w'=>e=.returned (.int .i64 0)∧Below w.heap.size w w':=by
 go_enter Tryz.func102,Tryz.ntmps102
 have a0:=hid (show Below w.heap.size w w from Below.refl _ w)
 have a1:=hid (hr)
 clear hr
 obtain ⟨o_,ho_⟩:∃ o,o=((.cells #[.int .i64 (p:Int),.slice A n k] 84):Obj):=⟨_,rfl⟩
 replace a0:=bA a0 o_
 replace a1:=rA a1 o_
 subst ho_
 have a3:=hid (Blk.new w 84 #[.int .i64 (p:Int),.slice A n k])
 go_wp2_with fail
 have hc:=rsolve_any p A n k l _ a1.out hn4 hp1 hp HE.out
 unfold RetB at hc
 rw [hS] at hc
 have HC:=hid hc;clear hc
 refine HC.out.mono ?_
 rintro e w9 ⟨A2,n2,c2,rfl,ho,hb⟩
 clear HC
 have a2:=hid hb
 clear ho hb
 go_wp2
 go_ret
 replace a0:=bH a0 a2
 exact ⟨rfl,a0.out⟩
set_option maxRecDepth 100000 in
theorem rSolved_no (p:Nat) (A:Option Addr) (n k:Nat) (l:List Bnd) (w:World) (hr:RdB w A n k l) (hn:n≤maxLen) (hn4:n≤402) (hp1:1≤p) (hp:p≤60) (HE:Hid (OkP p l)) (hS:(settle l p zeros).isSome=false) :
 Calls Tryz.prog 102 #[.agg #[.int .i64 (p:Int),.slice A n k]] w fun e w'=>e=.returned (.int .i64 10)∧Below w.heap.size w w':=by
 go_enter Tryz.func102,Tryz.ntmps102
 have a0:=hid (show Below w.heap.size w w from Below.refl _ w)
 have a1:=hid (hr)
 clear hr
 obtain ⟨o_,ho_⟩:∃ o,o=((.cells #[.int .i64 (p:Int),.slice A n k] 84):Obj):=⟨_,rfl⟩
 replace a0:=bA a0 o_
 replace a1:=rA a1 o_
 subst ho_
 have a3:=hid (Blk.new w 84 #[.int .i64 (p:Int),.slice A n k])
 go_wp2_with fail
 have hc:=rsolve_any p A n k l _ a1.out hn4 hp1 hp HE.out
 unfold RetB at hc
 rw [hS] at hc
 have HC:=hid hc;clear hc
 refine HC.out.mono ?_
 rintro e w9 ⟨A2,n2,c2,rfl,ho,hb⟩
 clear HC
 have a2:=hid hb
 clear ho hb
 go_wp2
 go_ret
 replace a0:=bH a0 a2
 exact ⟨rfl,a0.out⟩
def greatT (p:Int) (l:List Bnd) (a b:Int):Int × Bool × Int:=if scode p l [a,b]=0 then (fin (dist l p.toNat a.toNat b.toNat),isF (dist l p.toNat a.toNat b.toNat),0) else (0,false,scode p l [a,b])
def leastT (p:Int) (l:List Bnd) (a b:Int):Int × Bool × Int:=if scode p l [a,b]=0 then (-fin (dist l p.toNat b.toNat a.toNat),isF (dist l p.toNat b.toNat a.toNat),0) else (0,false,scode p l [a,b])
def tup (V:Int × Bool × Int):Value:=.tuple #[.int .i64 V.1,.bool V.2.1,.int .i64 V.2.2]
theorem gcode_pts {P:Int} {l:List Bnd} {a b:Int} (h:gcode P l [a,b]=0):chk P l=0∧(0≤a∧a<P)∧0≤b∧b<P:=by
 obtain ⟨hk,hp⟩:=gcode_ok h
 simp only [List.all_cons,List.all_nil,Bool.and_true,Bool.and_eq_true,isPt,decide_eq_true_eq] at hp
 exact ⟨hk,by omega,by omega⟩
set_option maxRecDepth 100000 in
theorem rGreatest_err (P a b:Int) (A:Option Addr) (n k:Nat) (l:List Bnd) (w:World) (hr:RdB w A n k l) (hn:n≤maxLen) (q:Int) (hq:(q != 0)=true) (E0:Hid (gcode P l [a,b]=q)) :
 Calls Tryz.prog 59 #[.agg #[.int .i64 P,.slice A n k],.int .i64 (a:Int),.int .i64 (b:Int)] w fun e w'=>e=.returned (.tuple #[.int .i64 0,.bool false,.int .i64 q])∧Below w.heap.size w w':=by
 go_enter Tryz.func59,Tryz.ntmps59
 have a0:=hid (show Below w.heap.size w w from Below.refl _ w)
 have a2:=hid (hr)
 clear hr
 obtain ⟨o_,ho_⟩:∃ o,o=((.cells #[.int .i64 P,.slice A n k] 84):Obj):=⟨_,rfl⟩
 replace a0:=bA a0 o_
 replace a2:=rA a2 o_
 subst ho_
 have a1:=hid (Blk.new w 84 #[.int .i64 P,.slice A n k])
 have hc:=asked_any P a b A n k l _ a2.out hn
 rw [E0.out] at hc
 try dsimp only at hc
 have HC:=hid hc;clear hc
 go_wp2_with fail
 refine HC.out.mono ?_
 rintro e a4 ⟨rfl,hb⟩
 clear HC
 have a3:=hid hb
 clear hb
 replace a1:=kH a1 a3
 have a5:(a4).cell? ⟨w.heap.size,0,none⟩=some (.int .i64 P):=Blk.cell a1.out 0
 have a6:(a4).cell? ⟨w.heap.size,1,none⟩=some (.slice A n k):=Blk.cell a1.out 1
 go_wp2
 go_ret3
 replace a0:=bH a0 a3
 exact ⟨rfl,a0.out⟩
set_option maxRecDepth 100000 in
theorem rGreatest_circ (p a b:Nat) (A:Option Addr) (n k:Nat) (l:List Bnd) (w:World) (hr:RdB w A n k l) (hn:n≤maxLen) (hn4:n≤402) (hp1:1≤p) (hp:p≤60) (ha:a<p) (hb:b<p) (HE:Hid (OkP p l)) (hS:(settle l p zeros).isSome=false) (E0:Hid (gcode p l [(a:Int),(b:Int)]=0)) :
 Calls Tryz.prog 59 #[.agg #[.int .i64 (p:Int),.slice A n k],.int .i64 (a:Int),.int .i64 (b:Int)] w fun e w'=>e=.returned (.tuple #[.int .i64 0,.bool false,.int .i64 10])∧Below w.heap.size w w':=by
 go_enter Tryz.func59,Tryz.ntmps59
 have a1:=hid (show Below w.heap.size w w from Below.refl _ w)
 have a2:=hid (hr)
 clear hr
 obtain ⟨o_,ho_⟩:∃ o,o=((.cells #[.int .i64 (p:Int),.slice A n k] 84):Obj):=⟨_,rfl⟩
 replace a1:=bA a1 o_
 replace a2:=rA a2 o_
 subst ho_
 have a0:=hid (Blk.new w 84 #[.int .i64 (p:Int),.slice A n k])
 have hc:=asked_any p a b A n k l _ a2.out hn
 rw [E0.out] at hc
 try dsimp only at hc
 have HC:=hid hc;clear hc
 go_wp2_with fail
 refine HC.out.mono ?_
 rintro e a5 ⟨rfl,hb⟩
 clear HC
 have a3:=hid hb
 clear hb
 replace a0:=kH a0 a3
 have a7:(a5).cell? ⟨w.heap.size,0,none⟩=some (.int .i64 (p:Int)):=Blk.cell a0.out 0
 have a8:(a5).cell? ⟨w.heap.size,1,none⟩=some (.slice A n k):=Blk.cell a0.out 1
 replace a2:=rH a2 a3
 have hc:=rSolved_no p A n k l _ a2.out hn hn4 hp1 hp HE hS
 have HC:=hid hc;clear hc
 go_wp2_with fail
 refine HC.out.mono ?_
 rintro e a6 ⟨rfl,hb⟩
 clear HC
 clear a7 a8
 have a4:=hid hb
 clear hb
 replace a0:=kH a0 a4
 have a9:(a6).cell? ⟨w.heap.size,0,none⟩=some (.int .i64 (p:Int)):=Blk.cell a0.out 0
 have b0:(a6).cell? ⟨w.heap.size,1,none⟩=some (.slice A n k):=Blk.cell a0.out 1
 go_wp2
 go_ret3
 replace a1:=bH (bH a1 a3) a4
 exact ⟨rfl,a1.out⟩
set_option maxRecDepth 100000 in
theorem rGreatest_ok (p a b:Nat) (A:Option Addr) (n k:Nat) (l:List Bnd) (w:World) (hr:RdB w A n k l) (hn:n≤maxLen) (hn4:n≤402) (hp1:1≤p) (hp:p≤60) (ha:a<p) (hb:b<p) (HE:Hid (OkP p l)) (hk:chk p l=0) (hS:(settle l p zeros).isSome=true) (E0:Hid (gcode p l [(a:Int),(b:Int)]=0)) (X:Int) (t:Bool) (F1:Hid (fin (dist l p a b)=X)) (I1:Hid (isF (dist l p a b)=t)) :
 Calls Tryz.prog 59 #[.agg #[.int .i64 (p:Int),.slice A n k],.int .i64 (a:Int),.int .i64 (b:Int)] w fun e w'=>e=.returned (.tuple #[.int .i64 X,.bool t,.int .i64 0])∧Below w.heap.size w w':=by
 go_enter Tryz.func59,Tryz.ntmps59
 have a2:=hid (show Below w.heap.size w w from Below.refl _ w)
 have a1:=hid (hr)
 clear hr
 obtain ⟨o_,ho_⟩:∃ o,o=((.cells #[.int .i64 (p:Int),.slice A n k] 84):Obj):=⟨_,rfl⟩
 replace a2:=bA a2 o_
 replace a1:=rA a1 o_
 subst ho_
 have a0:=hid (Blk.new w 84 #[.int .i64 (p:Int),.slice A n k])
 have hc:=asked_any p a b A n k l _ a1.out hn
 rw [E0.out] at hc
 try dsimp only at hc
 have HC:=hid hc;clear hc
 go_wp2_with fail
 refine HC.out.mono ?_
 rintro e a7 ⟨rfl,hb⟩
 clear HC
 have a3:=hid hb
 clear hb
 replace a0:=kH a0 a3
 have b1:(a7).cell? ⟨w.heap.size,0,none⟩=some (.int .i64 (p:Int)):=Blk.cell a0.out 0
 have b2:(a7).cell? ⟨w.heap.size,1,none⟩=some (.slice A n k):=Blk.cell a0.out 1
 replace a1:=rH a1 a3
 have hc:=rSolved_yes p A n k l _ a1.out hn hn4 hp1 hp HE hS
 have HC:=hid hc;clear hc
 go_wp2_with fail
 refine HC.out.mono ?_
 rintro e a8 ⟨rfl,hb⟩
 clear HC
 clear b1 b2
 have a4:=hid hb
 clear hb
 replace a0:=kH a0 a4
 have a9:(a8).cell? ⟨w.heap.size,0,none⟩=some (.int .i64 (p:Int)):=Blk.cell a0.out 0
 have b0:(a8).cell? ⟨w.heap.size,1,none⟩=some (.slice A n k):=Blk.cell a0.out 1
 replace a1:=rH a1 a4
 have hc:=rgreat_any p a b A n k l _ a1.out hn4 hk hS ha hb
 rw [F1.out] at hc
 rw [I1.out] at hc
 try dsimp only at hc
 have HC:=hid hc;clear hc
 go_wp2_with fail
 refine HC.out.mono ?_
 rintro e a6 ⟨rfl,hb⟩
 clear HC
 clear a9 b0
 have a5:=hid hb
 clear hb
 replace a0:=kH a0 a5
 have b3:(a6).cell? ⟨w.heap.size,0,none⟩=some (.int .i64 (p:Int)):=Blk.cell a0.out 0
 have b4:(a6).cell? ⟨w.heap.size,1,none⟩=some (.slice A n k):=Blk.cell a0.out 1
 go_wp2
 go_ret3
 replace a2:=bH (bH (bH a2 a3) a4) a5
 exact ⟨rfl,a2.out⟩
theorem scode_of_gcode {P:Int} {l:List Bnd} {ps:List Int} (h:¬ gcode P l ps=0):scode P l ps=gcode P l ps:=by unfold scode;rw [if_neg h]
theorem scode_swap (P:Int) (l:List Bnd) (a b:Int):scode P l [a,b]=scode P l [b,a]:=by
 have:gcode P l [a,b]=gcode P l [b,a]:=by
  unfold gcode
  simp only [List.all_cons,List.all_nil,Bool.and_true]
  rw [Bool.and_comm]
 unfold scode
 rw [this]
theorem rGreatest_any (P a b:Int) (A:Option Addr) (n k:Nat) (l:List Bnd) (w:World) (hr:RdB w A n k l) (hn:n≤maxLen):Calls Tryz.prog 59 #[.agg #[.int .i64 P,.slice A n k],.int .i64 (a:Int),.int .i64 (b:Int)] w fun e w'=>e=.returned (tup (greatT P l a b))∧Below w.heap.size w w':=by
 by_cases hg:gcode P l [a,b]=0
 · obtain ⟨hk,⟨a0,a1⟩,b0,b1⟩:=gcode_pts hg
   obtain ⟨hp1,hp2,hlen,-⟩:=chk_ok hk
   have he:=okP_of hk
   obtain ⟨p,rfl⟩:=Int.eq_ofNat_of_zero_le (show 0≤P by omega)
   obtain ⟨a,rfl⟩:=Int.eq_ofNat_of_zero_le a0
   obtain ⟨b,rfl⟩:=Int.eq_ofNat_of_zero_le b0
   rw [Int.toNat_natCast] at he
   have hn4:n≤402:=by have:=hr.len;omega
   cases hS:(settle l p zeros).isSome
   · have hs:scode p l [(a:Int),(b:Int)]=10:=by unfold scode;rw [if_pos hg,Int.toNat_natCast,hS];rfl
     unfold tup greatT
     simp only [hs]
     exact rGreatest_circ p a b A n k l w hr hn hn4 (by omega) (by omega) (by omega) (by omega) (hid he) hS (hid hg)
   · have hs:scode p l [(a:Int),(b:Int)]=0:=by unfold scode;rw [if_pos hg,Int.toNat_natCast,hS];rfl
     unfold tup greatT
     simp only [hs,if_pos,Int.toNat_natCast]
     exact rGreatest_ok p a b A n k l w hr hn hn4 (by omega) (by omega) (by omega) (by omega) (hid he) hk hS (hid hg) _ _ (hid rfl) (hid rfl)
 · have hs:=scode_of_gcode hg
   have hs':¬ scode P l [a,b]=0:=by rw [hs];exact hg
   unfold tup greatT
   simp only [if_neg hs']
   rw [hs]
   exact rGreatest_err P a b A n k l w hr hn _ (by simpa using hg) (hid rfl)
set_option maxRecDepth 100000 in
theorem rLeast_err (P a b:Int) (A:Option Addr) (n k:Nat) (l:List Bnd) (w:World) (hr:RdB w A n k l) (hn:n≤maxLen) (q:Int) (hq:(q != 0)=true) (E0:Hid (gcode P l [a,b]=q)) :
 Calls Tryz.prog 58 #[.agg #[.int .i64 P,.slice A n k],.int .i64 (a:Int),.int .i64 (b:Int)] w fun e w'=>e=.returned (.tuple #[.int .i64 0,.bool false,.int .i64 q])∧Below w.heap.size w w':=by
 go_enter Tryz.func58,Tryz.ntmps58
 have a0:=hid (show Below w.heap.size w w from Below.refl _ w)
 have a2:=hid (hr)
 clear hr
 obtain ⟨o_,ho_⟩:∃ o,o=((.cells #[.int .i64 P,.slice A n k] 84):Obj):=⟨_,rfl⟩
 replace a0:=bA a0 o_
 replace a2:=rA a2 o_
 subst ho_
 have a1:=hid (Blk.new w 84 #[.int .i64 P,.slice A n k])
 have hc:=asked_any P a b A n k l _ a2.out hn
 rw [E0.out] at hc
 try dsimp only at hc
 have HC:=hid hc;clear hc
 go_wp2_with fail
 refine HC.out.mono ?_
 rintro e a4 ⟨rfl,hb⟩
 clear HC
 have a3:=hid hb
 clear hb
 replace a1:=kH a1 a3
 have a5:(a4).cell? ⟨w.heap.size,0,none⟩=some (.int .i64 P):=Blk.cell a1.out 0
 have a6:(a4).cell? ⟨w.heap.size,1,none⟩=some (.slice A n k):=Blk.cell a1.out 1
 go_wp2
 go_ret3
 replace a0:=bH a0 a3
 exact ⟨rfl,a0.out⟩
set_option maxRecDepth 100000 in
theorem rLeast_ok (P a b:Int) (A:Option Addr) (n k:Nat) (l:List Bnd) (w:World) (hr:RdB w A n k l) (hn:n≤maxLen) (E0:Hid (gcode P l [a,b]=0)) (X q:Int) (t:Bool) (hX1:-6000000000≤X) (hX2:X≤6000000000) (E1:Hid (tup (greatT P l b a)=.tuple #[.int .i64 X,.bool t,.int .i64 q])) :
 Calls Tryz.prog 58 #[.agg #[.int .i64 P,.slice A n k],.int .i64 (a:Int),.int .i64 (b:Int)] w fun e w'=>e=.returned (.tuple #[.int .i64 (-X),.bool t,.int .i64 q])∧Below w.heap.size w w':=by
 go_enter Tryz.func58,Tryz.ntmps58
 have a1:=hid (show Below w.heap.size w w from Below.refl _ w)
 have a2:=hid (hr)
 clear hr
 obtain ⟨o_,ho_⟩:∃ o,o=((.cells #[.int .i64 P,.slice A n k] 84):Obj):=⟨_,rfl⟩
 replace a1:=bA a1 o_
 replace a2:=rA a2 o_
 subst ho_
 have a0:=hid (Blk.new w 84 #[.int .i64 P,.slice A n k])
 have hc:=asked_any P a b A n k l _ a2.out hn
 rw [E0.out] at hc
 try dsimp only at hc
 have HC:=hid hc;clear hc
 go_wp2_with fail
 refine HC.out.mono ?_
 rintro e a5 ⟨rfl,hb⟩
 clear HC
 have a3:=hid hb
 clear hb
 replace a0:=kH a0 a3
 have a7:(a5).cell? ⟨w.heap.size,0,none⟩=some (.int .i64 P):=Blk.cell a0.out 0
 have a8:(a5).cell? ⟨w.heap.size,1,none⟩=some (.slice A n k):=Blk.cell a0.out 1
 replace a2:=rH a2 a3
 have hc:=rGreatest_any P b a A n k l _ a2.out hn
 rw [E1.out] at hc
 try dsimp only at hc
 have HC:=hid hc;clear hc
 go_wp2_with fail
 refine HC.out.mono ?_
 rintro e a6 ⟨rfl,hb⟩
 clear HC
 clear a7 a8
 have a4:=hid hb
 clear hb
 replace a0:=kH a0 a4
 have a9:(a6).cell? ⟨w.heap.size,0,none⟩=some (.int .i64 P):=Blk.cell a0.out 0
 have b0:(a6).cell? ⟨w.heap.size,1,none⟩=some (.slice A n k):=Blk.cell a0.out 1
 go_wp2
 go_ret3
 replace a1:=bH (bH a1 a3) a4
 exact ⟨rfl,a1.out⟩
theorem rLeast_any (P a b:Int) (A:Option Addr) (n k:Nat) (l:List Bnd) (w:World) (hr:RdB w A n k l) (hn:n≤maxLen):Calls Tryz.prog 58 #[.agg #[.int .i64 P,.slice A n k],.int .i64 (a:Int),.int .i64 (b:Int)] w fun e w'=>e=.returned (tup (leastT P l a b))∧Below w.heap.size w w':=by
 by_cases hg:gcode P l [a,b]=0
 · obtain ⟨hk,⟨a0,a1⟩,b0,b1⟩:=gcode_pts hg
   obtain ⟨hp1,hp2,hlen,-⟩:=chk_ok hk
   have hbd:=fin_bd (p:=P.toNat) (a:=b.toNat) (b:=a.toNat) (okB_of hk) (by omega) (by omega) (by omega)
   by_cases hs:scode P l [b,a]=0
   · have hs':scode P l [a,b]=0:=by rw [scode_swap];exact hs
     unfold tup leastT
     simp only [if_pos hs']
     exact rLeast_ok P a b A n k l w hr hn (hid hg) _ _ _ hbd.1 hbd.2 (hid (by unfold tup greatT;simp only [if_pos hs]))
   · have hs':¬ scode P l [a,b]=0:=by rw [scode_swap];exact hs
     unfold tup leastT
     simp only [if_neg hs']
     have:=rLeast_ok P a b A n k l w hr hn (hid hg) 0 (scode P l [a,b]) false (by omega) (by omega) (hid (by unfold tup greatT;simp only [if_neg hs];rw [scode_swap]))
     exact this
 · have hs:=scode_of_gcode hg
   have hs':¬ scode P l [a,b]=0:=by rw [hs];exact hg
   unfold tup leastT
   simp only [if_neg hs']
   rw [hs]
   exact rLeast_err P a b A n k l w hr hn _ (by simpa using hg) (hid rfl)
end Go.Proofs.YtjjmifcjailpaaaGreat
