import Derived.Test.YtjjmifcjailpaaaGreatPRef
import Derived.Test.YtjjmifcjailpaaaGreatPSums
import Derived.Test.YtjjmifcjailpaaaGreatPRMath
set_option maxHeartbeats 4000000
set_option linter.unusedSimpArgs false
set_option linter.unusedVariables false
namespace Go.Proofs.YtjjmifcjailpaaaGreat
open Go.Lib (hid)
open Go.RowKit
theorem wp_make_ints {w:World} {o:Oper} {a:Act} {K:Act→World→Prop} {Q:Exit→Act→World→Prop}
 (l c:Operand) (hop:o.op=Op.makeSlice 34 l c) (L C:Int) (n:Nat) (hl:a.eval l=.int .i64 L) (hc:a.eval c=.int .i64 C) (hL:L=(n:Int)) (hC:C=(n:Int)) (hn:n≤100000)
 (hK:K (a.put o.dst (.slice (some ⟨w.heap.size,0,none⟩) n n)) (w.alloc (.cells (arr (List.replicate n 0)) 3))):o.wp Tryz.prog a w K Q:=by
 subst hL hC
 obtain ⟨i,hi,hz,hs,hb⟩:=info_parts (show (Tryz.prog.info? 3).map (fun i=>(i.zero,i.size,i.bytes))=some (some (.int .i64 0),1,8) by kernel_rfl)
 have hrun:=run_make_row (P:=Tryz.prog) 34 3 i _ Tryz.underlying34 hi hz hs rfl .i64 .i64 n (by rw [hb];omega) (by omega) w
 rw [made_arr] at hrun
 unfold Oper.wp
 simp [execOp,hop,hl,hc,hrun,Result.andThen]
 exact hK
theorem bd_repl {p:Nat} {x:Int} (h1:-1000000000000≤x) (h2:x≤1000000000000):Bd 0 (List.replicate p x):=fun v hv=>by
 rw [List.length_replicate] at hv
 rw [at_repl hv];omega
theorem sums_solve (p:Nat) (A:Option Addr) (n c g:Nat) (l:List Bnd) (w:World) (hr:RdB w A n c l) (hn400:n≤402) (hp1:1≤p) (hp:p≤60) (he:OkP p l) (hq:RdI w (some ⟨g,0,none⟩) p p (List.replicate p 0)) :
 Calls Tryz.prog 132 #[.agg #[.int .i64 (p:Int),.slice A n c],.slice (some ⟨g,0,none⟩) p p,.int .i64 1000000000] w (RetB (solL l p) (settle l p zeros).isSome w):=by
 have h:=sums_any p 1000000000 A (some ⟨g,0,none⟩) n c p p l (List.replicate p 0) w hr hn400 he hp1 hp hq (by simp) (bd_repl (by omega) (by omega)) (by omega) (by omega)
 rw [rsolve_eq hp1 hp he] at h
 unfold solL
 cases hz:settle l p zeros<;>rw [hz] at h<;>exact h
set_option maxRecDepth 100000 in
theorem rsolve_any (p:Nat) (A:Option Addr) (n c:Nat) (l:List Bnd) (w:World) (hr:RdB w A n c l) (hn400:n≤402) (hp1:1≤p) (hp:p≤60) (he:OkP p l) :
 Calls Tryz.prog 122 #[.agg #[.int .i64 (p:Int),.slice A n c]] w (RetB (solL l p) (settle l p zeros).isSome w):=by
 have HE:=hid he;clear he
 have hB:Below w.heap.size w (w.alloc (.cells #[.int .i64 (p:Int),.slice A n c] 84)):=(Below.refl _ w).alloc (Nat.le_refl _) _
 have B0:=hid (Blk.drew (Blk.new w 84 #[.int .i64 (p:Int),.slice A n c]))
 have RD:=hid (RdB.drew (hr.below hB))
 have BE:=hid (Below.drew hB)
 clear hr
 go_enter Tryz.func122,Tryz.ntmps122
 go_wp2_with fail
 generalize w.alloc (.cells #[.int .i64 (p:Int),.slice A n c] 84)=W0 at *
 refine wp_region_held_drew (S:=(fun W'=>Blk W' w.heap.size 84 #[.int .i64 (p:Int),.slice A n c])) (by kernel_rfl) B0.out (fun _=>?_)
 obtain ⟨a5,a2⟩:∃ w',w'=W0.drew:=⟨_,rfl⟩
 rw [← a2] at B0 BE RD
 rw [← a2]
 clear a2
 refine' tkH 0 B0.out ?a6 ?_
 case a6=>(rintro W' hS0;have hc0:=Blk.nth hS0 0;have hc1:=Blk.nth hS0 1;clear hS0;go_simp;try with_reducible rfl)
 refine' twH 1 B0.out ?_
 refine' tkH 2 B0.out ?a7 ?_
 case a7=>(rintro W' hS0;have hc0:=Blk.nth hS0 0;clear hS0;go_simp;try with_reducible rfl)
 try simp only [pq]
 refine oneH 3 rfl fun K hK=>?_
 refine wp_make_ints _ _ rfl _ _ p rfl rfl rfl rfl (by omega) ?_
 have a8:=hid (Nat.ne_of_lt (Blk.lt B0.out))
 have a9:=hid (BE.out.size)
 obtain ⟨o_,ho_⟩:∃ o,o=(.cells (arr (List.replicate p 0)) 3:Obj):=⟨_,rfl⟩
 replace B0:=kA B0 o_
 replace BE:=bA BE o_
 replace RD:=rA RD o_
 subst ho_
 have a1:=hid (Blk.new (a5) 3 (arr (List.replicate p 0)))
 obtain ⟨b0,a3⟩:∃ g,g=(a5).heap.size:=⟨_,rfl⟩
 obtain ⟨b1,a4⟩:∃ w',w'=(a5).alloc (.cells (arr (List.replicate p 0)) 3):=⟨_,rfl⟩
 rw [← a4] at B0 BE RD a1
 rw [← a3] at a8 a9 a1
 rw [← a3,← a4]
 clear a3 a4
 refine hK.out _ _ B0.out (fun _=>?_);clear hK K
 try simp only [pq]
 refine oneH 4 rfl fun K hK=>?_
 have hq_:=(OwnI.rd (own_of_blk (base:=0) (n:=p) a1.out (Nat.zero_le _) (by simp) (by unfold maxLen;omega))).1
 go_simp
 go_at_call 132
 refine (sums_solve p A n c b0 l _ RD.out hn400 hp1 hp HE.out hq_).mono ?_
 rintro e b2 ⟨A2,n2,c2,rfl,ho,a0⟩
 dsimp only
 have HO:=hid (owns_base ho (BE.out.size));clear ho hq_
 replace a0:=hid a0
 replace B0:=kH B0 a0
 refine hK.out _ _ B0.out (fun _=>?_);clear hK K
 try simp only [pq]
 refine' twH 5 B0.out ?_
 refine' twH 6 B0.out ?_
 refine' twH 7 B0.out ?_
 refine' twH 8 B0.out ?_
 try simp only [pq]
 refine wpAnyH_done (by kernel_rfl) ?_ _
 replace BE:=bH BE a0
 go_wp2
 go_ret2
 exact ⟨A2,n2,c2,rfl,HO.out,BE.out⟩
set_option maxRecDepth 100000 in
theorem rSolve_no (P:Int) (A:Option Addr) (n k:Nat) (l:List Bnd) (w:World) (hr:RdB w A n k l) (hn:n≤maxLen) (q:Int) (hq:(q != 0)=true) (E0:Hid (chk P l=q)) :
 Calls Tryz.prog 91 #[.agg #[.int .i64 P,.slice A n k]] w (RetI ([],false,q) w):=by
 go_enter Tryz.func91,Tryz.ntmps91
 have a0:=hid (show Below w.heap.size w w from Below.refl _ w)
 have a2:=hid (hr)
 clear hr
 obtain ⟨o_,ho_⟩:∃ o,o=((.cells #[.int .i64 P,.slice A n k] 84):Obj):=⟨_,rfl⟩
 replace a0:=bA a0 o_
 replace a2:=rA a2 o_
 subst ho_
 have a1:=hid (Blk.new w 84 #[.int .i64 P,.slice A n k])
 have hc:=rCheckSystem_any P A n k l _ a2.out hn
 rw [E0.out] at hc
 try dsimp only at hc
 have HC:=hid hc;clear hc
 go_wp2_with fail
 refine HC.out.mono ?_
 rintro e a4 ⟨rfl,hb⟩
 clear HC
 have a3:=hid hb
 clear hb
 replace a1:=kH a1 a3
 have a5:(a4).cell? ⟨w.heap.size,0,none⟩=some (.int .i64 P):=Blk.cell a1.out 0
 have a6:(a4).cell? ⟨w.heap.size,1,none⟩=some (.slice A n k):=Blk.cell a1.out 1
 go_wp2
 go_ret3
 replace a0:=bH a0 a3
 exact ⟨none,0,0,rfl,OwnI.nil_ _ _,a0.out⟩
set_option maxRecDepth 100000 in
theorem rSolve_yes (p:Nat) (A:Option Addr) (n k:Nat) (l:List Bnd) (w:World) (hr:RdB w A n k l) (hn:n≤maxLen) (hn4:n≤402) (hp1:1≤p) (hp:p≤60) (HE:Hid (OkP p l)) (E0:Hid (chk p l=0)) :
 Calls Tryz.prog 91 #[.agg #[.int .i64 (p:Int),.slice A n k]] w (RetI (solL l p,(settle l p zeros).isSome,0) w):=by
 go_enter Tryz.func91,Tryz.ntmps91
 have a0:=hid (show Below w.heap.size w w from Below.refl _ w)
 have a1:=hid (hr)
 clear hr
 obtain ⟨o_,ho_⟩:∃ o,o=((.cells #[.int .i64 (p:Int),.slice A n k] 84):Obj):=⟨_,rfl⟩
 replace a0:=bA a0 o_
 replace a1:=rA a1 o_
 subst ho_
 have a2:=hid (Blk.new w 84 #[.int .i64 (p:Int),.slice A n k])
 have hc:=rCheckSystem_any p A n k l _ a1.out hn
 rw [E0.out] at hc
 try dsimp only at hc
 have HC:=hid hc;clear hc
 go_wp2_with fail
 refine HC.out.mono ?_
 rintro e a4 ⟨rfl,hb⟩
 clear HC
 have a3:=hid hb
 clear hb
 replace a2:=kH a2 a3
 have a6:(a4).cell? ⟨w.heap.size,0,none⟩=some (.int .i64 (p:Int)):=Blk.cell a2.out 0
 have a7:(a4).cell? ⟨w.heap.size,1,none⟩=some (.slice A n k):=Blk.cell a2.out 1
 go_wp2_with fail
 replace a1:=rH a1 a3
 have hc:=rsolve_any p A n k l _ a1.out hn4 hp1 hp HE.out
 unfold RetB at hc
 have HC:=hid hc;clear hc
 refine HC.out.mono ?_
 rintro e w9 ⟨A2,n2,c2,rfl,ho,hb⟩
 clear HC
 replace a0:=bH a0 a3
 have HO:=hid (owns_base ho (a0.out.size))
 clear a6 a7
 have a5:=hid hb
 clear ho hb
 go_wp2
 go_ret3
 replace a0:=bH a0 a5
 exact ⟨A2,n2,c2,rfl,HO.out,a0.out⟩
theorem solveV_eq {p:Nat} {l:List Bnd} (hk:chk p l=0):solveV p l=(solL l p,(settle l p zeros).isSome,0):=by
 have hg:gcode p l []=0:=by unfold gcode;simp [hk]
 unfold solveV solL
 rw [if_pos hg,Int.toNat_natCast]
 cases settle l p zeros<;>rfl
theorem rSolve_any (P:Int) (A:Option Addr) (n k:Nat) (l:List Bnd) (w:World) (hr:RdB w A n k l) (hn:n≤maxLen):Calls Tryz.prog 91 #[.agg #[.int .i64 P,.slice A n k]] w (RetI (solveV P l) w):=by
 by_cases hk:chk P l=0
 · obtain ⟨hp1,hp2,hlen,-⟩:=chk_ok hk
   have he:=okP_of hk
   obtain ⟨p,rfl⟩:=Int.eq_ofNat_of_zero_le (show 0≤P by omega)
   rw [Int.toNat_natCast] at he
   rw [solveV_eq hk]
   exact rSolve_yes p A n k l w hr hn (by have:=hr.len;omega) (by omega) (by omega) (hid he) (hid hk)
 · have hg:¬ gcode P l []=0:=by unfold gcode;rw [if_neg hk];exact hk
   have hv:solveV P l=([],false,chk P l):=by unfold solveV;rw [if_neg hg];unfold gcode;rw [if_neg hk]
   rw [hv]
   exact rSolve_no P A n k l w hr hn (chk P l) (by simpa using hk) (hid rfl)
end Go.Proofs.YtjjmifcjailpaaaGreat
