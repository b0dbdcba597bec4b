import Derived.Test.YtjjmifcjailpaaaGreatPSet
set_option maxHeartbeats 2000000
set_option linter.unusedSimpArgs false
set_option linter.unusedVariables false
namespace Go.Proofs.YtjjmifcjailpaaaGreat
open Go.Lib (hid)
open Go.RowKit
theorem Cells.hc {w:World} {A:Option Addr} {cs:List Value} (h:Cells w A cs):∀ ad,A=some ad→∀ j u,cs[j]?=some u→w.cell? (ad.add j)=some u:=by
 intro ad hA j u hu
 rcases h with rfl|⟨b,o,e,_,hc⟩
 · simp at hu
 · rw [hA] at e
   injection e with e
   subst e
   rw [Addr.add_lit]
   exact hc j u hu
theorem infoB:(Tryz.prog.info? 70).map (fun i=>(i.zero,i.size,i.bytes))=some (some (.agg #[.int .i64 0,.int .i64 0,.int .i64 0,.int .i64 0]),4,32):=by kernel_rfl
theorem infoI:(Tryz.prog.info? 3).map (fun i=>(i.zero,i.size,i.bytes))=some (some (.int .i64 0),1,8):=by kernel_rfl
theorem bcells_append (l m:List Bnd):bcells (l++m)=bcells l++bcells m:=by simp [bcells]
theorem RdB.nil_ (w:World):RdB w none 0 0 []:=⟨rfl,Nat.le_refl _,fun _=>⟨rfl,rfl⟩,.inl rfl⟩
theorem RdI.nil_ (w:World):RdI w none 0 0 []:=⟨rfl,Nat.le_refl _,fun _=>⟨rfl,rfl⟩,.inl rfl⟩
theorem RdB.grown {w w':World} {A:Option Addr} {n c:Nat} {l:List Bnd} (h:RdB w A n c l) {B:Nat} (hB:w.heap.size≤B) {wm:World} (h1:Below w.heap.size w wm) {row:Option Nat} (hg:wm.grownBy w' row) (hr:∀ k,row=some k→B≤k) (hBm:B≤wm.heap.size):RdB w' A n c l :=
 h.below (h1.grown hg (Nat.le_trans hB hBm) (fun k e=>Nat.le_trans hB (hr k e)))
set_option maxRecDepth 100000 in
theorem joinedI_any (A B:Option Addr) (n c m d:Nat) (l k:List Int) (w:World) (hl:RdI w A n c l) (hk:RdI w B m d k) (hs:n+m≤100000) :
 Calls Tryz.prog 148 #[.slice A n c,.slice B m d] w fun e w'=>∃ g,e=.returned (.slice (some ⟨g,0,none⟩) (n+m) (n+m))∧OwnI w' w.heap.size (some ⟨g,0,none⟩) (n+m) (n+m) (l++k)∧Below w.heap.size w w':=by
 obtain ⟨i0,hi0,hz0,hz1,hz2⟩:=info_parts infoI
 have HLA:=hid hl;have HKB:=hid hk;clear hl hk
 have HI:=hid hi0;have HZ0:=hid hz0;have HZ1:=hid hz1;have HZ2:=hid hz2;clear hi0 hz0 hz1 hz2
 have hnm:((n:Int)+(m:Int))=((n+m:Nat):Int):=by omega
 have HNM:=hid hnm;clear hnm
 go_enter Tryz.func148,Tryz.ntmps148
 go_wp2_with (first
  | (at_make;(refine wpList_make_own _ rfl _ _ 34 rfl w.heap.size 3 i0 _ 1 Tryz.underlying34 HI.out HZ0.out HZ1.out .i64 .i64 _ (n+m) rfl rfl HNM.out (by rw [HZ2.out];omega) (by unfold maxLen;omega) (Nat.le_refl _) ?_);intro w1 hown1 hg1;have HO1:=hid hown1;have HG1:=hid hg1;clear hown1 hg1)
  | (at_builtin;refine wpList_append_fits_any _ rfl (.tmp 12) (.tmp 13) 34 rfl w.heap.size 3 i0 1 Tryz.underlying34 HI.out HZ1.out w.heap.size 0 (n+m) [] rfl HO1.out A n c (l.map (Value.int .i64)) rfl (by rw [List.length_map,HLA.out.len,Nat.mul_one]) HLA.out.nil (HLA.out.below ((Below.refl _ w).grown HG1.out (Nat.le_refl _) (fun _ e=>by cases e))).cells.hc (ints_oneCell _ l) (by omega) ?_;intro w2 hown2 hg2;simp only [Nat.zero_add,List.nil_append] at hown2;have HO2:=hid hown2;have HG2:=hid hg2;clear hown2 hg2)
  | (at_builtin;(refine wpList_append_fits_any _ rfl (.tmp 15) (.tmp 16) 34 rfl w.heap.size 3 i0 1 Tryz.underlying34 HI.out HZ1.out w.heap.size n (n+m) (l.map (Value.int .i64)) rfl HO2.out B m d (k.map (Value.int .i64)) rfl (by rw [List.length_map,HKB.out.len,Nat.mul_one]) HKB.out.nil (HKB.out.below (((Below.refl _ w).grown HG1.out (Nat.le_refl _) (fun _ e=>by cases e)).grown HG2.out HG1.out.size (fun g e=>by injection e with e;omega))).cells.hc (ints_oneCell _ k) (by omega) ?_);intro w3 hown3 hg3;have HO3:=hid hown3;have HG3:=hid hg3;clear hown3 hg3))
 go_ret
 refine ⟨w.heap.size,rfl,by unfold OwnI;rw [List.map_append];exact HO3.out,?_⟩
 exact (((Below.refl _ w).grown HG1.out (Nat.le_refl _) (fun _ e=>by cases e)).grown HG2.out HG1.out.size (fun g e=>by injection e with e;omega)).grown HG3.out (Nat.le_trans HG1.out.size HG2.out.size) (fun g e=>by injection e with e;omega)
def sysR (code p:Int) (A:Option Addr) (n c:Nat):Value:=if code=0 then .tuple #[.agg #[.int .i64 p,.slice A n c],.int .i64 0] else .tuple #[.agg #[.int .i64 0,.slice none 0 0],.int .i64 code]
def isPt (p x:Int):Bool:=decide (0≤x∧x≤p-1)
theorem need_ok (p:Int) (A B:Option Addr) (n c m d:Nat) (ps:List Int) (w:World) (hr:RdI w B m d ps) (hm:m≤100000) (hp:1≤p∧p≤60) (hall:ps.all (isPt p)=true) :
 Calls Tryz.prog 125 #[.agg #[.int .i64 p,.slice A n c],.slice B m d] w fun e w'=>e=.returned (.tuple #[])∧Below w.heap.size w w':=by
 have HR:=hid hr;have HALL:=hid hall;clear hr hall
 obtain ⟨hp1,hp2⟩:=hp
 go_enter Tryz.func125,Tryz.ntmps125
 go_wp2
 go_loopw [8] (fun i wr=>∃ k:Nat,k≤m∧i=.int .i64 k∧Below (w.heap.size+1) (w.alloc (.cells #[.int .i64 p,.slice A n c] 128)) wr) (fun i _=>m-(intOf i).toNat)
 case atStart=>exact ⟨0,Nat.zero_le _,rfl,Below.refl _ _⟩
 case round =>
  obtain ⟨k,hk,rfl,hb⟩:=hrel
  have hz:=box_size hb
  have hc:wr.cell? ⟨w.heap.size,0,none⟩=some (.int .i64 p):=box_cell hb 0
  have ho:=box_out hb
  by_cases hlt:k<m
  · obtain ⟨b,o,x,rfl,hbw,hx,c0⟩:=(HR.out.below ho).get hlt
    have hpt:isPt p x=true:=List.all_eq_true.1 HALL.out x (List.mem_of_getElem? hx)
    have HX:=hid hx;clear hx
    have hpt2:0≤x∧x≤p-1:=of_decide_eq_true hpt
    have HP:=hid hpt2;clear hpt hpt2
    go_wp2_with (go_at_call 97;refine (within_yes _ _ _ _ HP.out).mono ?_;rintro e w' ⟨rfl,rfl⟩)
    go_roundw
    case rel=>exact ⟨k+1,by omega,by go_num,hb⟩
    case measure=>simp [intOf];omega
  · obtain rfl:k=m:=by omega
    go_wp2
    go_end0
    exact ⟨rfl,ho⟩
theorem need_bad (p:Int) (A B:Option Addr) (n c m d:Nat) (ps:List Int) (w:World) (hr:RdI w B m d ps) (hm:m≤100000) (hp:1≤p∧p≤60) (hall:ps.all (isPt p)=false) :
 Calls Tryz.prog 125 #[.agg #[.int .i64 p,.slice A n c],.slice B m d] w fun e w'=>∃ x,e=.panicked [{ v:=.iface 190 (.int .i64 x),recovered:=false }]∧Below w.heap.size w w':=by
 have HR:=hid hr;have HALL:=hid hall;clear hr hall
 obtain ⟨hp1,hp2⟩:=hp
 go_enter Tryz.func125,Tryz.ntmps125
 go_wp2
 go_loopw [8] (fun i wr=>∃ k:Nat,k≤m∧i=.int .i64 k∧(ps.take k).all (isPt p)=true∧Below (w.heap.size+1) (w.alloc (.cells #[.int .i64 p,.slice A n c] 128)) wr) (fun i _=>m-(intOf i).toNat)
 case atStart=>exact ⟨0,Nat.zero_le _,rfl,rfl,Below.refl _ _⟩
 case round =>
  obtain ⟨k,hk,rfl,hall,hb⟩:=hrel
  have HA:=hid hall;clear hall
  have hz:=box_size hb
  have hc:wr.cell? ⟨w.heap.size,0,none⟩=some (.int .i64 p):=box_cell hb 0
  have ho:=box_out hb
  by_cases hlt:k<m
  · obtain ⟨b,o,x,rfl,hbw,hx,c0⟩:=(HR.out.below ho).get hlt
    have HX:=hid hx;clear hx
    cases hpt:isPt p x
    · have hpt2:¬ (0≤x∧x≤p-1):=of_decide_eq_false hpt
      have HP:=hid hpt2;clear hpt hpt2
      go_wp2_with (go_at_call 97;refine (within_no _ _ _ _ HP.out).mono ?_;rintro e w' ⟨rfl,rfl⟩)
      exact ⟨rfl,x,rfl,ho⟩
    · have hpt2:0≤x∧x≤p-1:=of_decide_eq_true hpt
      have HPT:=hid hpt
      have HP:=hid hpt2;clear hpt hpt2
      go_wp2_with (go_at_call 97;refine (within_yes _ _ _ _ HP.out).mono ?_;rintro e w' ⟨rfl,rfl⟩)
      go_roundw
      case rel=>exact ⟨k+1,by omega,by go_num,by rw [List.take_add_one,List.all_append,HA.out,HX.out];simpa using HPT.out,hb⟩
      case measure=>simp [intOf];omega
  · obtain rfl:k=m:=by omega
    exfalso
    have:=HA.out
    rw [List.take_of_length_le (by rw [HR.out.len];exact Nat.le_refl _),HALL.out] at this
    cases this
theorem catch_panicking (b1 b2:Nat) (u0 u1 u2:Value) (u:TypeId) (pv:Value) (older:List PanicEntry) (w:World)
 (hc0:w.cell? ⟨b1,0,none⟩=some u0) (hc1:w.cell? ⟨b1,1,none⟩=some u1) (hc2:w.cell? ⟨b2,0,none⟩=some u2) (hf0:w.frozen? ⟨b1,0,none⟩=false) (hf1:w.frozen? ⟨b1,1,none⟩=false) (hf2:w.frozen? ⟨b2,0,none⟩=false) (hne:b1≠b2) :
 CallsD Tryz.prog 124 #[.pointer (some ⟨b1,0,none⟩),.pointer (some ⟨b2,0,none⟩)] (.panicking ({ v:=.iface u pv,recovered:=false }::older)) w fun e u' w' =>
  e=.returned (.tuple #[])∧u'=.panicking ({ v:=.iface u pv,recovered:=true }::older)∧w'=((w.setCell ⟨b1,0,none⟩ (.int .i64 0)).setCell ⟨b1,1,none⟩ (.slice none 0 0)).setCell ⟨b2,0,none⟩ (.int .i64 1):=by
 refine callsD_of_wpS Tryz.func124 rfl fun c₀ cs hu=>?_
 apply wpS_seq
 apply wpS_region
 simp [wpOpsS,go_sem,recoverD,hu,Tryz.ntmps124,Exit.thenS]
 refine wpS_cond (t:=true) (by simp [Act.eval,Array.replicate]) ?_
 simp only [if_true]
 apply wpS_region
 simp [wpOpsS,go_sem,hc0,hc1,hc2,hf0,hf1,hf2,hne,bodyPostS,results,Tryz.results124]
theorem catch_idle (b1 b2:Nat) (w:World) :
 CallsD Tryz.prog 124 #[.pointer (some ⟨b1,0,none⟩),.pointer (some ⟨b2,0,none⟩)] .returning w fun e u' w'=>e=.returned (.tuple #[])∧u'=.returning∧w'=w:=by
 refine callsD_of_wpS Tryz.func124 rfl fun c₀ cs hu=>?_
 apply wpS_seq
 apply wpS_region
 simp [wpOpsS,go_sem,recoverD,hu,Tryz.ntmps124,Exit.thenS]
 refine wpS_cond (t:=false) (by simp [Act.eval,Array.replicate]) ?_
 simp only [Bool.false_eq_true,if_false]
 refine wpS_of_wp (wp_skip ?_)
 cases c₀
 simp_all [bodyPostS,results,Tryz.results124]
def gcode (p:Int) (l:List Bnd) (ps:List Int):Int:=if chk p l=0 then (if ps.all (isPt p) then 0 else 1) else chk p l
theorem graphOf_any (p:Int) (A B:Option Addr) (n c m d:Nat) (l:List Bnd) (ps:List Int) (w:World) (hr:RdB w A n c l) (hn:n≤maxLen) (hq:RdI w B m d ps) (hm:m≤100000) :
 Calls Tryz.prog 94 #[.agg #[.int .i64 p,.slice A n c],.slice B m d] w fun e w'=>e=.returned (sysR (gcode p l ps) p A n c)∧Below w.heap.size w w':=by
 have hmf:∀ (fn:Fn) (first cap:Array Value) (w:World),(Instr.makeFunc fn first cap).run Tryz.prog w=.ok (.func fn first cap) w:=fun _ _ _ _=>rfl
 have hB:Below w.heap.size w (((w.alloc (.cells #[.int .i64 p,.slice A n c] 84)).alloc (.cells #[.int .i64 0,.slice none 0 0] 128)).alloc (.cells #[.int .i64 0] 31)):=(((Below.refl _ w).alloc (Nat.le_refl _) _).alloc (by simp) _).alloc (by simp;omega) _
 have hc:=checkSystem_any p A n c l _ (hr.below hB) hn
 have b0:=((Blk.new w 84 #[.int .i64 p,.slice A n c]).alloc (.cells #[.int .i64 0,.slice none 0 0] 128)).alloc (.cells #[.int .i64 0] 31)
 have b1:=(Blk.new (w.alloc (.cells #[.int .i64 p,.slice A n c] 84)) 128 #[.int .i64 0,.slice none 0 0]).alloc (.cells #[.int .i64 0] 31)
 have b2:=Blk.new ((w.alloc (.cells #[.int .i64 p,.slice A n c] 84)).alloc (.cells #[.int .i64 0,.slice none 0 0] 128)) 31 #[.int .i64 0]
 simp only [World.size_alloc] at b1 b2
 have HC:=hid hc;have B0:=hid b0;have B1:=hid b1;have B2:=hid b2;have HR:=hid hr;have HQ:=hid hq;clear hc b0 b1 b2 hr hq
 by_cases hk:chk p l=0
 · have HCK:=hid hk
   obtain ⟨hp1,hp2,-,-⟩:=chk_ok hk
   rw [hk] at HC
   clear hk
   cases hall:ps.all (isPt p)
   · have HALL:=hid hall;clear hall
     go_enter_defers Tryz.func94,Tryz.ntmps94
     go_wp2_with fail
     refine HC.out.mono ?_
     rintro e w1 ⟨rfl,hb1⟩
     have c0:=B0.out.keep hb1;have c1:=B1.out.keep hb1;have c2:=B2.out.keep hb1
     have u0:w1.cell? ⟨w.heap.size,0,none⟩=some (.int .i64 p):=c0.cell 0
     have u1:w1.cell? ⟨w.heap.size,1,none⟩=some (.slice A n c):=c0.cell 1
     have hB1:=hB.trans (hb1.mono hB.size)
     have C1:=hid c1;have C2:=hid c2;clear c0 c1 c2
     go_wp2_with fail
     refine (need_bad p A B n c m d ps w1 (HQ.out.below hB1) hm ⟨hp1,hp2⟩ HALL.out).mono ?_
     rintro e w2 ⟨x,rfl,hb2⟩
     have c1:=C1.out.keep hb2;have c2:=C2.out.keep hb2
     have v0:w2.cell? ⟨w.heap.size+1,0,none⟩=some (.int .i64 0):=c1.cell 0
     have v1:w2.cell? ⟨w.heap.size+1,1,none⟩=some (.slice none 0 0):=c1.cell 1
     have v2:w2.cell? ⟨w.heap.size+1+1,0,none⟩=some (.int .i64 0):=c2.cell 0
     have f0:w2.frozen? ⟨w.heap.size+1,0,none⟩=false:=c1.frozen 0
     have f1:w2.frozen? ⟨w.heap.size+1,1,none⟩=false:=c1.frozen 1
     have f2:w2.frozen? ⟨w.heap.size+1+1,0,none⟩=false:=c2.frozen 0
     have hB2:=hB1.trans (hb2.mono hB1.size)
     clear c1 c2
     go_wp2
     refine leaves_cons (f:=124) (args:=#[.pointer (some ⟨w.heap.size+1,0,none⟩),.pointer (some ⟨w.heap.size+1+1,0,none⟩)]) (by simp) (by simp [go_sem]) ?_
     refine (catch_panicking (w.heap.size+1) (w.heap.size+1+1) _ _ _ _ _ [] _ v0 v1 v2 f0 f1 f2 (by omega)).mono ?_
     rintro e u' w'' ⟨rfl,rfl,rfl⟩
     have hfin:Below w.heap.size w (((w2.setCell ⟨w.heap.size+1,0,none⟩ (.int .i64 0)).setCell ⟨w.heap.size+1,1,none⟩ (.slice none 0 0)).setCell ⟨w.heap.size+1+1,0,none⟩ (.int .i64 1)) :=
      ((hB2.setCell (p:=⟨w.heap.size+1,0,none⟩) (by simp) _).setCell (p:=⟨w.heap.size+1,1,none⟩) (by simp) _).setCell (p:=⟨w.heap.size+1+1,0,none⟩) (by simp;omega) _
     have hg:gcode p l ps=1:=by unfold gcode;rw [if_pos HCK.out,if_neg (by rw [HALL.out];simp)]
     simp [Leaves,_root_.Go.settle,results,Tryz.results94,go_sem,v0,v1,v2,hg,sysR,hfin]
   · have HALL:=hid hall;clear hall
     go_enter_defers Tryz.func94,Tryz.ntmps94
     go_wp2_with fail
     refine HC.out.mono ?_
     rintro e w1 ⟨rfl,hb1⟩
     have c0:=B0.out.keep hb1;have c1:=B1.out.keep hb1;have c2:=B2.out.keep hb1
     have u0:w1.cell? ⟨w.heap.size,0,none⟩=some (.int .i64 p):=c0.cell 0
     have u1:w1.cell? ⟨w.heap.size,1,none⟩=some (.slice A n c):=c0.cell 1
     have hB1:=hB.trans (hb1.mono hB.size)
     have C1:=hid c1;have C2:=hid c2;clear c0 c1 c2
     go_wp2_with fail
     refine (need_ok p A B n c m d ps w1 (HQ.out.below hB1) hm ⟨hp1,hp2⟩ HALL.out).mono ?_
     rintro e w2 ⟨rfl,hb2⟩
     have c1:=C1.out.keep hb2;have c2:=C2.out.keep hb2
     have c0:=(B0.out.keep hb1).keep hb2
     have y0:w2.cell? ⟨w.heap.size,0,none⟩=some (.int .i64 p):=c0.cell 0
     have y1:w2.cell? ⟨w.heap.size,1,none⟩=some (.slice A n c):=c0.cell 1
     have v0:w2.cell? ⟨w.heap.size+1,0,none⟩=some (.int .i64 0):=c1.cell 0
     have v1:w2.cell? ⟨w.heap.size+1,1,none⟩=some (.slice none 0 0):=c1.cell 1
     have v2:w2.cell? ⟨w.heap.size+1+1,0,none⟩=some (.int .i64 0):=c2.cell 0
     have f0:w2.frozen? ⟨w.heap.size+1,0,none⟩=false:=c1.frozen 0
     have f1:w2.frozen? ⟨w.heap.size+1,1,none⟩=false:=c1.frozen 1
     have f2:w2.frozen? ⟨w.heap.size+1+1,0,none⟩=false:=c2.frozen 0
     have hB2:=hB1.trans (hb2.mono hB1.size)
     clear c0 c1 c2
     go_wp2
     refine leaves_cons (f:=124) (args:=#[.pointer (some ⟨w.heap.size+1,0,none⟩),.pointer (some ⟨w.heap.size+1+1,0,none⟩)]) (by simp) (by simp [go_sem]) ?_
     refine (catch_idle (w.heap.size+1) (w.heap.size+1+1) _).mono ?_
     rintro e u' w'' ⟨rfl,rfl,rfl⟩
     have hfin:Below w.heap.size w (((w2.setCell ⟨w.heap.size+1,0,none⟩ (.int .i64 p)).setCell ⟨w.heap.size+1,1,none⟩ (.slice A n c)).setCell ⟨w.heap.size+1+1,0,none⟩ (.int .i64 0)) :=
      ((hB2.setCell (p:=⟨w.heap.size+1,0,none⟩) (by simp) _).setCell (p:=⟨w.heap.size+1,1,none⟩) (by simp) _).setCell (p:=⟨w.heap.size+1+1,0,none⟩) (by simp;omega) _
     have hg:gcode p l ps=0:=by unfold gcode;rw [if_pos HCK.out,if_pos HALL.out]
     simp [Leaves,_root_.Go.settle,results,Tryz.results94,go_sem,v0,v1,v2,hg,sysR,hfin]
 · have hg:gcode p l ps=chk p l:=by unfold gcode;rw [if_neg hk]
   rw [hg]
   generalize chk p l=q at *
   have hne:(q != 0)=true:=by simpa using hk
   have HK:=hid hk;clear hk hg
   go_enter_defers Tryz.func94,Tryz.ntmps94
   go_wp2_with fail
   refine HC.out.mono ?_
   rintro e w1 ⟨rfl,hb1⟩
   have c1:=B1.out.keep hb1;have c2:=B2.out.keep hb1
   have v0:w1.cell? ⟨w.heap.size+1,0,none⟩=some (.int .i64 0):=c1.cell 0
   have v1:w1.cell? ⟨w.heap.size+1,1,none⟩=some (.slice none 0 0):=c1.cell 1
   have v2:w1.cell? ⟨w.heap.size+1+1,0,none⟩=some (.int .i64 0):=c2.cell 0
   have f0:w1.frozen? ⟨w.heap.size+1,0,none⟩=false:=c1.frozen 0
   have f1:w1.frozen? ⟨w.heap.size+1,1,none⟩=false:=c1.frozen 1
   have f2:w1.frozen? ⟨w.heap.size+1+1,0,none⟩=false:=c2.frozen 0
   have hB1:=hB.trans (hb1.mono hB.size)
   clear c1 c2
   go_wp2
   have hfin:Below w.heap.size w (((w1.setCell ⟨w.heap.size+1,0,none⟩ (.int .i64 0)).setCell ⟨w.heap.size+1,1,none⟩ (.slice none 0 0)).setCell ⟨w.heap.size+1+1,0,none⟩ (.int .i64 q)) :=
    ((hB1.setCell (p:=⟨w.heap.size+1,0,none⟩) (by simp) _).setCell (p:=⟨w.heap.size+1,1,none⟩) (by simp) _).setCell (p:=⟨w.heap.size+1+1,0,none⟩) (by simp;omega) _
   simp [bodyPostD,Leaves,_root_.Go.settle,results,Tryz.results94,go_sem,v0,v1,v2,sysR,HK.out,hfin]
end Go.Proofs.YtjjmifcjailpaaaGreat
