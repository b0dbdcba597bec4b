import Derived.Test.YtebkniakflhhkaaGreatDoorAJoined
set_option maxHeartbeats 2000000
set_option linter.unusedSimpArgs false
set_option linter.unusedVariables false
namespace Go.Proofs.YtebkniakflhhkaaGreatDoor
open Go.Lib (hid)
open Go.RowKit
def sysR (code p:Int) (A:Option Addr) (n c:Nat):Value:=if code=0 then .tuple #[.agg #[.int .i64 p,.slice A n c],.int .i64 0] else .tuple #[.agg #[.int .i64 0,.slice none 0 0],.int .i64 code]
def isPt (p x:Int):Bool:=decide (0≤x∧x≤p-1)
theorem need_ok (p:Int) (A B:Option Addr) (n c m d:Nat) (ps:List Int) (w:World) (hr:RdI w B m d ps) (hm:m≤100000) (hp:1≤p∧p≤60) (hall:ps.all (isPt p)=true) :
 Calls Tryz.prog 109 #[.agg #[.int .i64 p,.slice A n c],.slice B m d] w fun e w'=>e=.returned (.tuple #[])∧Below w.heap.size w w':=by
 have HR:=hid hr;have HALL:=hid hall;clear hr hall
 obtain ⟨hp1,hp2⟩:=hp
 go_enter Tryz.func109,Tryz.ntmps109
 go_wp2
 go_loopw [8] (fun i wr=>∃ k:Nat,k≤m∧i=.int .i64 k∧Below (w.heap.size+1) (w.alloc (.cells #[.int .i64 p,.slice A n c] 133)) wr) (fun i _=>m-(intOf i).toNat)
 case atStart=>exact ⟨0,Nat.zero_le _,rfl,Below.refl _ _⟩
 case round =>
  obtain ⟨k,hk,rfl,hb⟩:=hrel
  have hz:=box_size hb
  have hc:wr.cell? ⟨w.heap.size,0,none⟩=some (.int .i64 p):=box_cell hb 0
  have ho:=box_out hb
  by_cases hlt:k<m
  · obtain ⟨b,o,x,rfl,hbw,hx,c0⟩:=(HR.out.below ho).get hlt
    have hpt:isPt p x=true:=List.all_eq_true.1 HALL.out x (List.mem_of_getElem? hx)
    have HX:=hid hx;clear hx
    have hpt2:0≤x∧x≤p-1:=of_decide_eq_true hpt
    have HP:=hid hpt2;clear hpt hpt2
    go_wp2_with (go_at_call 75;refine (within_yes _ _ _ _ HP.out).mono ?_;rintro e w' ⟨rfl,rfl⟩)
    go_roundw
    case rel=>exact ⟨k+1,by omega,by go_num,hb⟩
    case measure=>simp [intOf];omega
  · obtain rfl:k=m:=by omega
    go_wp2
    go_end0
    exact ⟨rfl,ho⟩
theorem need_bad (p:Int) (A B:Option Addr) (n c m d:Nat) (ps:List Int) (w:World) (hr:RdI w B m d ps) (hm:m≤100000) (hp:1≤p∧p≤60) (hall:ps.all (isPt p)=false) :
 Calls Tryz.prog 109 #[.agg #[.int .i64 p,.slice A n c],.slice B m d] w fun e w'=>∃ x,e=.panicked [{ v:=.iface 211 (.int .i64 x),recovered:=false }]∧Below w.heap.size w w':=by
 have HR:=hid hr;have HALL:=hid hall;clear hr hall
 obtain ⟨hp1,hp2⟩:=hp
 go_enter Tryz.func109,Tryz.ntmps109
 go_wp2
 go_loopw [8] (fun i wr=>∃ k:Nat,k≤m∧i=.int .i64 k∧(ps.take k).all (isPt p)=true∧Below (w.heap.size+1) (w.alloc (.cells #[.int .i64 p,.slice A n c] 133)) wr) (fun i _=>m-(intOf i).toNat)
 case atStart=>exact ⟨0,Nat.zero_le _,rfl,rfl,Below.refl _ _⟩
 case round =>
  obtain ⟨k,hk,rfl,hall,hb⟩:=hrel
  have HA:=hid hall;clear hall
  have hz:=box_size hb
  have hc:wr.cell? ⟨w.heap.size,0,none⟩=some (.int .i64 p):=box_cell hb 0
  have ho:=box_out hb
  by_cases hlt:k<m
  · obtain ⟨b,o,x,rfl,hbw,hx,c0⟩:=(HR.out.below ho).get hlt
    have HX:=hid hx;clear hx
    cases hpt:isPt p x
    · have hpt2:¬ (0≤x∧x≤p-1):=of_decide_eq_false hpt
      have HP:=hid hpt2;clear hpt hpt2
      go_wp2_with (go_at_call 75;refine (within_no _ _ _ _ HP.out).mono ?_;rintro e w' ⟨rfl,rfl⟩)
      exact ⟨rfl,x,rfl,ho⟩
    · have hpt2:0≤x∧x≤p-1:=of_decide_eq_true hpt
      have HPT:=hid hpt
      have HP:=hid hpt2;clear hpt hpt2
      go_wp2_with (go_at_call 75;refine (within_yes _ _ _ _ HP.out).mono ?_;rintro e w' ⟨rfl,rfl⟩)
      go_roundw
      case rel=>exact ⟨k+1,by omega,by go_num,by rw [List.take_add_one,List.all_append,HA.out,HX.out];simpa using HPT.out,hb⟩
      case measure=>simp [intOf];omega
  · obtain rfl:k=m:=by omega
    exfalso
    have:=HA.out
    rw [List.take_of_length_le (by rw [HR.out.len];exact Nat.le_refl _),HALL.out] at this
    cases this
theorem catch_panicking (b1 b2:Nat) (u0 u1 u2:Value) (u:TypeId) (pv:Value) (older:List PanicEntry) (w:World)
 (hc0:w.cell? ⟨b1,0,none⟩=some u0) (hc1:w.cell? ⟨b1,1,none⟩=some u1) (hc2:w.cell? ⟨b2,0,none⟩=some u2) (hf0:w.frozen? ⟨b1,0,none⟩=false) (hf1:w.frozen? ⟨b1,1,none⟩=false) (hf2:w.frozen? ⟨b2,0,none⟩=false) (hne:b1≠b2) :
 CallsD Tryz.prog 108 #[.pointer (some ⟨b1,0,none⟩),.pointer (some ⟨b2,0,none⟩)] (.panicking ({ v:=.iface u pv,recovered:=false }::older)) w fun e u' w' =>
  e=.returned (.tuple #[])∧u'=.panicking ({ v:=.iface u pv,recovered:=true }::older)∧w'=((w.setCell ⟨b1,0,none⟩ (.int .i64 0)).setCell ⟨b1,1,none⟩ (.slice none 0 0)).setCell ⟨b2,0,none⟩ (.int .i64 1):=by
 refine callsD_of_wpS Tryz.func108 rfl fun c₀ cs hu=>?_
 apply wpS_seq
 apply wpS_region
 simp [wpOpsS,go_sem,recoverD,hu,Tryz.ntmps108,Exit.thenS]
 refine wpS_cond (t:=true) (by simp [Act.eval,Array.replicate]) ?_
 simp only [if_true]
 apply wpS_region
 simp [wpOpsS,go_sem,hc0,hc1,hc2,hf0,hf1,hf2,hne,bodyPostS,results,Tryz.results108]
theorem catch_idle (b1 b2:Nat) (w:World) :
 CallsD Tryz.prog 108 #[.pointer (some ⟨b1,0,none⟩),.pointer (some ⟨b2,0,none⟩)] .returning w fun e u' w'=>e=.returned (.tuple #[])∧u'=.returning∧w'=w:=by
 refine callsD_of_wpS Tryz.func108 rfl fun c₀ cs hu=>?_
 apply wpS_seq
 apply wpS_region
 simp [wpOpsS,go_sem,recoverD,hu,Tryz.ntmps108,Exit.thenS]
 refine wpS_cond (t:=false) (by simp [Act.eval,Array.replicate]) ?_
 simp only [Bool.false_eq_true,if_false]
 refine wpS_of_wp (wp_skip ?_)
 cases c₀
 simp_all [bodyPostS,results,Tryz.results108]
def gcode (p:Int) (l:List Bnd) (ps:List Int):Int:=if chk p l=0 then (if ps.all (isPt p) then 0 else 1) else chk p l
theorem graphOf_any (p:Int) (A B:Option Addr) (n c m d:Nat) (l:List Bnd) (ps:List Int) (w:World) (hr:RdB w A n c l) (hn:n≤maxLen) (hq:RdI w B m d ps) (hm:m≤100000) :
 Calls Tryz.prog 73 #[.agg #[.int .i64 p,.slice A n c],.slice B m d] w fun e w'=>e=.returned (sysR (gcode p l ps) p A n c)∧Below w.heap.size w w':=by
 have hmf:∀ (fn:Fn) (first cap:Array Value) (w:World),(Instr.makeFunc fn first cap).run Tryz.prog w=.ok (.func fn first cap) w:=fun _ _ _ _=>rfl
 have hB:Below w.heap.size w (((w.alloc (.cells #[.int .i64 p,.slice A n c] 84)).alloc (.cells #[.int .i64 0,.slice none 0 0] 133)).alloc (.cells #[.int .i64 0] 27)):=(((Below.refl _ w).alloc (Nat.le_refl _) _).alloc (by simp) _).alloc (by simp;omega) _
 have hc:=checkSystem_any p A n c l _ (hr.below hB) hn
 have b0:=((Blk.new w 84 #[.int .i64 p,.slice A n c]).alloc (.cells #[.int .i64 0,.slice none 0 0] 133)).alloc (.cells #[.int .i64 0] 27)
 have b1:=(Blk.new (w.alloc (.cells #[.int .i64 p,.slice A n c] 84)) 133 #[.int .i64 0,.slice none 0 0]).alloc (.cells #[.int .i64 0] 27)
 have b2:=Blk.new ((w.alloc (.cells #[.int .i64 p,.slice A n c] 84)).alloc (.cells #[.int .i64 0,.slice none 0 0] 133)) 27 #[.int .i64 0]
 simp only [World.size_alloc] at b1 b2
 have HC:=hid hc;have B0:=hid b0;have B1:=hid b1;have B2:=hid b2;have HR:=hid hr;have HQ:=hid hq;clear hc b0 b1 b2 hr hq
 by_cases hk:chk p l=0
 · have HCK:=hid hk
   obtain ⟨hp1,hp2,-,-⟩:=chk_ok hk
   rw [hk] at HC
   clear hk
   cases hall:ps.all (isPt p)
   · have HALL:=hid hall;clear hall
     go_enter_defers Tryz.func73,Tryz.ntmps73
     go_wp2_with fail
     refine HC.out.mono ?_
     rintro e w1 ⟨rfl,hb1⟩
     have c0:=B0.out.keep hb1;have c1:=B1.out.keep hb1;have c2:=B2.out.keep hb1
     have u0:w1.cell? ⟨w.heap.size,0,none⟩=some (.int .i64 p):=c0.cell 0
     have u1:w1.cell? ⟨w.heap.size,1,none⟩=some (.slice A n c):=c0.cell 1
     have hB1:=hB.trans (hb1.mono hB.size)
     have C1:=hid c1;have C2:=hid c2;clear c0 c1 c2
     go_wp2_with fail
     refine (need_bad p A B n c m d ps w1 (HQ.out.below hB1) hm ⟨hp1,hp2⟩ HALL.out).mono ?_
     rintro e w2 ⟨x,rfl,hb2⟩
     have c1:=C1.out.keep hb2;have c2:=C2.out.keep hb2
     have v0:w2.cell? ⟨w.heap.size+1,0,none⟩=some (.int .i64 0):=c1.cell 0
     have v1:w2.cell? ⟨w.heap.size+1,1,none⟩=some (.slice none 0 0):=c1.cell 1
     have v2:w2.cell? ⟨w.heap.size+1+1,0,none⟩=some (.int .i64 0):=c2.cell 0
     have f0:w2.frozen? ⟨w.heap.size+1,0,none⟩=false:=c1.frozen 0
     have f1:w2.frozen? ⟨w.heap.size+1,1,none⟩=false:=c1.frozen 1
     have f2:w2.frozen? ⟨w.heap.size+1+1,0,none⟩=false:=c2.frozen 0
     have hB2:=hB1.trans (hb2.mono hB1.size)
     clear c1 c2
     go_wp2
     refine leaves_cons (f:=108) (args:=#[.pointer (some ⟨w.heap.size+1,0,none⟩),.pointer (some ⟨w.heap.size+1+1,0,none⟩)]) (by simp) (by simp [go_sem]) ?_
     refine (catch_panicking (w.heap.size+1) (w.heap.size+1+1) _ _ _ _ _ [] _ v0 v1 v2 f0 f1 f2 (by omega)).mono ?_
     rintro e u' w'' ⟨rfl,rfl,rfl⟩
     have hfin:Below w.heap.size w (((w2.setCell ⟨w.heap.size+1,0,none⟩ (.int .i64 0)).setCell ⟨w.heap.size+1,1,none⟩ (.slice none 0 0)).setCell ⟨w.heap.size+1+1,0,none⟩ (.int .i64 1)) :=
      ((hB2.setCell (p:=⟨w.heap.size+1,0,none⟩) (by simp) _).setCell (p:=⟨w.heap.size+1,1,none⟩) (by simp) _).setCell (p:=⟨w.heap.size+1+1,0,none⟩) (by simp;omega) _
     have hg:gcode p l ps=1:=by unfold gcode;rw [if_pos HCK.out,if_neg (by rw [HALL.out];simp)]
     simp [Leaves,_root_.Go.settle,results,Tryz.results73,go_sem,v0,v1,v2,hg,sysR,hfin]
   · have HALL:=hid hall;clear hall
     go_enter_defers Tryz.func73,Tryz.ntmps73
     go_wp2_with fail
     refine HC.out.mono ?_
     rintro e w1 ⟨rfl,hb1⟩
     have c0:=B0.out.keep hb1;have c1:=B1.out.keep hb1;have c2:=B2.out.keep hb1
     have u0:w1.cell? ⟨w.heap.size,0,none⟩=some (.int .i64 p):=c0.cell 0
     have u1:w1.cell? ⟨w.heap.size,1,none⟩=some (.slice A n c):=c0.cell 1
     have hB1:=hB.trans (hb1.mono hB.size)
     have C1:=hid c1;have C2:=hid c2;clear c0 c1 c2
     go_wp2_with fail
     refine (need_ok p A B n c m d ps w1 (HQ.out.below hB1) hm ⟨hp1,hp2⟩ HALL.out).mono ?_
     rintro e w2 ⟨rfl,hb2⟩
     have c1:=C1.out.keep hb2;have c2:=C2.out.keep hb2
     have c0:=(B0.out.keep hb1).keep hb2
     have y0:w2.cell? ⟨w.heap.size,0,none⟩=some (.int .i64 p):=c0.cell 0
     have y1:w2.cell? ⟨w.heap.size,1,none⟩=some (.slice A n c):=c0.cell 1
     have v0:w2.cell? ⟨w.heap.size+1,0,none⟩=some (.int .i64 0):=c1.cell 0
     have v1:w2.cell? ⟨w.heap.size+1,1,none⟩=some (.slice none 0 0):=c1.cell 1
     have v2:w2.cell? ⟨w.heap.size+1+1,0,none⟩=some (.int .i64 0):=c2.cell 0
     have f0:w2.frozen? ⟨w.heap.size+1,0,none⟩=false:=c1.frozen 0
     have f1:w2.frozen? ⟨w.heap.size+1,1,none⟩=false:=c1.frozen 1
     have f2:w2.frozen? ⟨w.heap.size+1+1,0,none⟩=false:=c2.frozen 0
     have hB2:=hB1.trans (hb2.mono hB1.size)
     clear c0 c1 c2
     go_wp2
     refine leaves_cons (f:=108) (args:=#[.pointer (some ⟨w.heap.size+1,0,none⟩),.pointer (some ⟨w.heap.size+1+1,0,none⟩)]) (by simp) (by simp [go_sem]) ?_
     refine (catch_idle (w.heap.size+1) (w.heap.size+1+1) _).mono ?_
     rintro e u' w'' ⟨rfl,rfl,rfl⟩
     have hfin:Below w.heap.size w (((w2.setCell ⟨w.heap.size+1,0,none⟩ (.int .i64 p)).setCell ⟨w.heap.size+1,1,none⟩ (.slice A n c)).setCell ⟨w.heap.size+1+1,0,none⟩ (.int .i64 0)) :=
      ((hB2.setCell (p:=⟨w.heap.size+1,0,none⟩) (by simp) _).setCell (p:=⟨w.heap.size+1,1,none⟩) (by simp) _).setCell (p:=⟨w.heap.size+1+1,0,none⟩) (by simp;omega) _
     have hg:gcode p l ps=0:=by unfold gcode;rw [if_pos HCK.out,if_pos HALL.out]
     simp [Leaves,_root_.Go.settle,results,Tryz.results73,go_sem,v0,v1,v2,hg,sysR,hfin]
 · have hg:gcode p l ps=chk p l:=by unfold gcode;rw [if_neg hk]
   rw [hg]
   generalize chk p l=q at *
   have hne:(q != 0)=true:=by simpa using hk
   have HK:=hid hk;clear hk hg
   go_enter_defers Tryz.func73,Tryz.ntmps73
   go_wp2_with fail
   refine HC.out.mono ?_
   rintro e w1 ⟨rfl,hb1⟩
   have c1:=B1.out.keep hb1;have c2:=B2.out.keep hb1
   have v0:w1.cell? ⟨w.heap.size+1,0,none⟩=some (.int .i64 0):=c1.cell 0
   have v1:w1.cell? ⟨w.heap.size+1,1,none⟩=some (.slice none 0 0):=c1.cell 1
   have v2:w1.cell? ⟨w.heap.size+1+1,0,none⟩=some (.int .i64 0):=c2.cell 0
   have f0:w1.frozen? ⟨w.heap.size+1,0,none⟩=false:=c1.frozen 0
   have f1:w1.frozen? ⟨w.heap.size+1,1,none⟩=false:=c1.frozen 1
   have f2:w1.frozen? ⟨w.heap.size+1+1,0,none⟩=false:=c2.frozen 0
   have hB1:=hB.trans (hb1.mono hB.size)
   clear c1 c2
   go_wp2
   have hfin:Below w.heap.size w (((w1.setCell ⟨w.heap.size+1,0,none⟩ (.int .i64 0)).setCell ⟨w.heap.size+1,1,none⟩ (.slice none 0 0)).setCell ⟨w.heap.size+1+1,0,none⟩ (.int .i64 q)) :=
    ((hB1.setCell (p:=⟨w.heap.size+1,0,none⟩) (by simp) _).setCell (p:=⟨w.heap.size+1,1,none⟩) (by simp) _).setCell (p:=⟨w.heap.size+1+1,0,none⟩) (by simp;omega) _
   simp [bodyPostD,Leaves,_root_.Go.settle,results,Tryz.results73,go_sem,v0,v1,v2,sysR,HK.out,hfin]
end Go.Proofs.YtebkniakflhhkaaGreatDoor
