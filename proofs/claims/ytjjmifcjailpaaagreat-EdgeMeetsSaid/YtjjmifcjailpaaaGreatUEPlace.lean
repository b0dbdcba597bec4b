import Derived.Deep.DeepCutAuto
import Derived.Laws.AppendOwnNone
import Derived.Lib.SmallJoins
import Derived.Maps.OwnIn
import Derived.Shelf.SlIterI.Nil
import Derived.Shelf.Slices.Reverse
import Derived.Shelf.SortM.Plain
import Derived.Shelf.SortM.SortNone
import Derived.Sort.OwnSortedInts
import Derived.Test.YtjjmifcjailpaaaGreatUClosed
import Derived.Test.YtjjmifcjailpaaaGreatURef
import Derived.Test.YtjjmifcjailpaaaGreatUSums
import Derived.Test.YtjjmifcjailpaaaGreatUEPlaces
import Derived.Test.YtjjmifcjailpaaaGreatUESols
import Derived.Test.YtjjmifcjailpaaaGreatUEWith
import Derived.Test.YtjjmifcjailpaaaGreatUEZero
import Derived.Test.YtjjmifcjailpaaaGreatUEPlaceR
set_option maxHeartbeats 4000000
set_option linter.unusedSimpArgs false
set_option linter.unusedVariables false
namespace Go.Proofs.YtjjmifcjailpaaaGreat
open Go.Lib (hid)
open Go.RowKit
def OkP (p:Nat) (l:List Bnd):Prop:=∀ c∈l,0≤c.f∧c.f<p∧0≤c.t∧c.t<p∧c.f≠c.t∧-100000000≤c.m∧c.m≤100000000
theorem okP_of {p:Int} {l:List Bnd} (hk:chk p l=0):OkP p.toNat l:=fun c hc=>by have:=edges60 hk c hc;omega
def solL (l:List Bnd) (p:Nat):List Int:=((settle l p zeros).map (·.take p)).getD []
theorem at_repl {p:Nat} {x:Int} {v:Nat} (hv:v<p):at_ (List.replicate p x) v=x:=by
 simp [at_,List.getD_eq_getElem?_getD,hv]
theorem at_take {x:List Int} {v n:Nat} (hv:v<n):at_ (x.take n) v=at_ x v:=by
 simp [at_,List.getD_eq_getElem?_getD,List.getElem?_take,hv]
theorem rsolve_eq {p:Nat} {l:List Bnd} (hp1:1≤p) (hp:p≤60) (he:OkP p l):rsums 1000000000 l (p+1) (List.replicate p 0)=(settle l p zeros).map (·.take p):=by
 have hg:∀ c∈l,c.f.toNat<p∧c.t.toNat<p:=fun c hc=>by have:=he c hc;omega
 cases hz:settle l p zeros with
 | some z =>
  obtain ⟨hst,hzz,hl,hle⟩:=stable_settle hg (by rw [zeros_length];omega) hz
  rw [zeros_length] at hl
  obtain ⟨k,-,e,hfix⟩:=settle_some hz
  have hlim:=limit_soon (l:=l) (x:=zeros) hp1 hg (by rw [zeros_length];omega) (fun v=>by rw [at_zeros];unfold Inf;omega) (n:=k) (by rw [← e];exact hfix)
  rw [← e] at hlim
  have h0:∀ v,at_ z v≤0:=fun v=>by have:=hle v;rw [at_zeros] at this;exact this
  obtain ⟨y,h1,h2,h3⟩:=rsums_eq (far:=1000000000) (l:=l) (p:=p) (x:=zeros) (y:=List.replicate p 0) hp1 hg (by rw [zeros_length];omega) (by simp) (fun v hv=>by rw [at_repl hv,at_zeros];unfold conv Inf;rw [if_neg (by omega)]) (fun k v _ _ _=>by have:=rounds_le0 l zeros v k;rw [at_zeros] at this;omega) (by unfold Inf;omega) (by rw [hlim];exact hzz)
  rw [h1,Option.map_some]
  congr 1
  apply ext_at (by rw [h2,List.length_take];omega)
  intro v hv
  rw [h2] at hv
  rw [h3 v hv,hlim,at_take hv]
  unfold conv
  rw [if_neg (by have:=h0 v;unfold Inf;omega)]
 | none =>
  cases hr:rsums 1000000000 l (p+1) (List.replicate p 0) with
  | none=>rfl
  | some y =>
   exfalso
   obtain ⟨k,-,e,hfix⟩:=rsums_some hr
   have hlen:y.length=p:=by rw [e,rrounds_length,List.length_replicate]
   have hle:∀ k v,at_ (rrounds 1000000000 l k (List.replicate p 0)) v≤0:=by
    intro k
    induction k with
    | zero =>
     intro v
     by_cases hv:v<p
     · show at_ (List.replicate p 0) v≤0;rw [at_repl hv];exact Int.le_refl _
     · show at_ (List.replicate p 0) v≤0;rw [at_out (by simp;omega)];exact Int.le_refl _
    | succ k ih=>intro v;exact Int.le_trans (rfold_le _ _ _ _) (ih v)
   have h0:∀ v,at_ y v≤0:=fun v=>by rw [e];exact hle k v
   have hst:Stable l y:=fun c hc _=>by
    have:=rfold_edge 1000000000 (c:=c) (A:=at_ y c.f.toNat) (by have:=h0 c.f.toNat;omega) l y hc (Int.le_refl _) (by rw [hlen];exact (hg c hc).2)
    have hf:l.foldl (rrelax 1000000000) y=y:=hfix
    rw [hf] at this
    exact this
   obtain ⟨h,-⟩:=settle_of_stable (p:=p) (x:=zeros) (y:=y) hp1 hg (by rw [zeros_length];omega) (fun v=>by rw [at_zeros];unfold Inf;omega) hst (fun v=>by rw [at_zeros];exact h0 v)
   rw [hz] at h
   cases h
theorem wp_make_ints {w:World} {o:Oper} {a:Act} {K:Act→World→Prop} {Q:Exit→Act→World→Prop}
 (l c:Operand) (hop:o.op=Op.makeSlice 34 l c) (L C:Int) (n:Nat) (hl:a.eval l=.int .i64 L) (hc:a.eval c=.int .i64 C) (hL:L=(n:Int)) (hC:C=(n:Int)) (hn:n≤100000)
 (hK:K (a.put o.dst (.slice (some ⟨w.heap.size,0,none⟩) n n)) (w.alloc (.cells (arr (List.replicate n 0)) 3))):o.wp Tryz.prog a w K Q:=by
 subst hL hC
 obtain ⟨i,hi,hz,hs,hb⟩:=info_parts (show (Tryz.prog.info? 3).map (fun i=>(i.zero,i.size,i.bytes))=some (some (.int .i64 0),1,8) by kernel_rfl)
 have hrun:=run_make_row (P:=Tryz.prog) 34 3 i _ Tryz.underlying34 hi hz hs rfl .i64 .i64 n (by rw [hb];omega) (by omega) w
 rw [made_arr] at hrun
 unfold Oper.wp
 simp [execOp,hop,hl,hc,hrun,Result.andThen]
 exact hK
theorem bd_repl {p:Nat} {x:Int} (h1:-1000000000000≤x) (h2:x≤1000000000000):Bd 0 (List.replicate p x):=fun v hv=>by
 rw [List.length_replicate] at hv
 rw [at_repl hv];omega
theorem sums_solve (p:Nat) (A:Option Addr) (n c g:Nat) (l:List Bnd) (w:World) (hr:RdB w A n c l) (hn400:n≤402) (hp1:1≤p) (hp:p≤60) (he:OkP p l) (hq:RdI w (some ⟨g,0,none⟩) p p (List.replicate p 0)) :
 Calls Tryz.prog 132 #[.agg #[.int .i64 (p:Int),.slice A n c],.slice (some ⟨g,0,none⟩) p p,.int .i64 1000000000] w (RetB (solL l p) (settle l p zeros).isSome w):=by
 have h:=sums_any p 1000000000 A (some ⟨g,0,none⟩) n c p p l (List.replicate p 0) w hr hn400 he hp1 hp hq (by simp) (bd_repl (by omega) (by omega)) (by omega) (by omega)
 rw [rsolve_eq hp1 hp he] at h
 unfold solL
 cases hz:settle l p zeros<;>rw [hz] at h<;>exact h
set_option maxRecDepth 100000 in
theorem rsolve_any (p:Nat) (A:Option Addr) (n c:Nat) (l:List Bnd) (w:World) (hr:RdB w A n c l) (hn400:n≤402) (hp1:1≤p) (hp:p≤60) (he:OkP p l) :
 Calls Tryz.prog 122 #[.agg #[.int .i64 (p:Int),.slice A n c]] w (RetB (solL l p) (settle l p zeros).isSome w):=by
 have HE:=hid he;clear he
 have hB:Below w.heap.size w (w.alloc (.cells #[.int .i64 (p:Int),.slice A n c] 84)):=(Below.refl _ w).alloc (Nat.le_refl _) _
 have B0:=hid (Blk.drew (Blk.new w 84 #[.int .i64 (p:Int),.slice A n c]))
 have RD:=hid (RdB.drew (hr.below hB))
 have BE:=hid (Below.drew hB)
 clear hr
 go_enter Tryz.func122,Tryz.ntmps122
 go_wp2_with fail
 generalize w.alloc (.cells #[.int .i64 (p:Int),.slice A n c] 84)=W0 at *
 refine wp_region_held_drew (S:=(fun W'=>Blk W' w.heap.size 84 #[.int .i64 (p:Int),.slice A n c])) (by kernel_rfl) B0.out (fun _=>?_)
 obtain ⟨a5,a2⟩:∃ w',w'=W0.drew:=⟨_,rfl⟩
 rw [← a2] at B0 BE RD
 rw [← a2]
 clear a2
 refine' tkH 0 B0.out ?a6 ?_
 case a6=>(rintro W' hS0;have hc0:=Blk.nth hS0 0;have hc1:=Blk.nth hS0 1;clear hS0;go_simp;try with_reducible rfl)
 refine' twH 1 B0.out ?_
 refine' tkH 2 B0.out ?a7 ?_
 case a7=>(rintro W' hS0;have hc0:=Blk.nth hS0 0;clear hS0;go_simp;try with_reducible rfl)
 try simp only [pq]
 refine oneH 3 rfl fun K hK=>?_
 refine wp_make_ints _ _ rfl _ _ p rfl rfl rfl rfl (by omega) ?_
 have a8:=hid (Nat.ne_of_lt (Blk.lt B0.out))
 have a9:=hid (BE.out.size)
 obtain ⟨o_,ho_⟩:∃ o,o=(.cells (arr (List.replicate p 0)) 3:Obj):=⟨_,rfl⟩
 replace B0:=kA B0 o_
 replace BE:=bA BE o_
 replace RD:=rA RD o_
 subst ho_
 have a1:=hid (Blk.new (a5) 3 (arr (List.replicate p 0)))
 obtain ⟨b0,a3⟩:∃ g,g=(a5).heap.size:=⟨_,rfl⟩
 obtain ⟨b1,a4⟩:∃ w',w'=(a5).alloc (.cells (arr (List.replicate p 0)) 3):=⟨_,rfl⟩
 rw [← a4] at B0 BE RD a1
 rw [← a3] at a8 a9 a1
 rw [← a3,← a4]
 clear a3 a4
 refine hK.out _ _ B0.out (fun _=>?_);clear hK K
 try simp only [pq]
 refine oneH 4 rfl fun K hK=>?_
 have hq_:=(OwnI.rd (own_of_blk (base:=0) (n:=p) a1.out (Nat.zero_le _) (by simp) (by unfold maxLen;omega))).1
 go_simp
 go_at_call 132
 refine (sums_solve p A n c b0 l _ RD.out hn400 hp1 hp HE.out hq_).mono ?_
 rintro e b2 ⟨A2,n2,c2,rfl,ho,a0⟩
 dsimp only
 have HO:=hid (owns_base ho (BE.out.size));clear ho hq_
 replace a0:=hid a0
 replace B0:=kH B0 a0
 refine hK.out _ _ B0.out (fun _=>?_);clear hK K
 try simp only [pq]
 refine' twH 5 B0.out ?_
 refine' twH 6 B0.out ?_
 refine' twH 7 B0.out ?_
 refine' twH 8 B0.out ?_
 try simp only [pq]
 refine wpAnyH_done (by kernel_rfl) ?_ _
 replace BE:=bH BE a0
 go_wp2
 go_ret2
 exact ⟨A2,n2,c2,rfl,HO.out,BE.out⟩
set_option maxRecDepth 100000 in
theorem rSolve_no (P:Int) (A:Option Addr) (n k:Nat) (l:List Bnd) (w:World) (hr:RdB w A n k l) (hn:n≤maxLen) (q:Int) (hq:(q != 0)=true) (E0:Hid (chk P l=q)) :
 Calls Tryz.prog 91 #[.agg #[.int .i64 P,.slice A n k]] w (RetI ([],false,q) w):=by
 go_enter Tryz.func91,Tryz.ntmps91
 have a0:=hid (show Below w.heap.size w w from Below.refl _ w)
 have a2:=hid (hr)
 clear hr
 obtain ⟨o_,ho_⟩:∃ o,o=((.cells #[.int .i64 P,.slice A n k] 84):Obj):=⟨_,rfl⟩
 replace a0:=bA a0 o_
 replace a2:=rA a2 o_
 subst ho_
 have a1:=hid (Blk.new w 84 #[.int .i64 P,.slice A n k])
 have hc:=rCheckSystem_any P A n k l _ a2.out hn
 rw [E0.out] at hc
 try dsimp only at hc
 have HC:=hid hc;clear hc
 go_wp2_with fail
 refine HC.out.mono ?_
 rintro e a4 ⟨rfl,hb⟩
 clear HC
 have a3:=hid hb
 clear hb
 replace a1:=kH a1 a3
 have a5:(a4).cell? ⟨w.heap.size,0,none⟩=some (.int .i64 P):=Blk.cell a1.out 0
 have a6:(a4).cell? ⟨w.heap.size,1,none⟩=some (.slice A n k):=Blk.cell a1.out 1
 go_wp2
 go_ret3
 replace a0:=bH a0 a3
 exact ⟨none,0,0,rfl,OwnI.nil_ _ _,a0.out⟩
set_option maxRecDepth 100000 in
theorem rSolve_yes (p:Nat) (A:Option Addr) (n k:Nat) (l:List Bnd) (w:World) (hr:RdB w A n k l) (hn:n≤maxLen) (hn4:n≤402) (hp1:1≤p) (hp:p≤60) (HE:Hid (OkP p l)) (E0:Hid (chk p l=0)) :
 Calls Tryz.prog 91 #[.agg #[.int .i64 (p:Int),.slice A n k]] w (RetI (solL l p,(settle l p zeros).isSome,0) w):=by
 go_enter Tryz.func91,Tryz.ntmps91
 have a0:=hid (show Below w.heap.size w w from Below.refl _ w)
 have a1:=hid (hr)
 clear hr
 obtain ⟨o_,ho_⟩:∃ o,o=((.cells #[.int .i64 (p:Int),.slice A n k] 84):Obj):=⟨_,rfl⟩
 replace a0:=bA a0 o_
 replace a1:=rA a1 o_
 subst ho_
 have a2:=hid (Blk.new w 84 #[.int .i64 (p:Int),.slice A n k])
 have hc:=rCheckSystem_any p A n k l _ a1.out hn
 rw [E0.out] at hc
 try dsimp only at hc
 have HC:=hid hc;clear hc
 go_wp2_with fail
 refine HC.out.mono ?_
 rintro e a4 ⟨rfl,hb⟩
 clear HC
 have a3:=hid hb
 clear hb
 replace a2:=kH a2 a3
 have a6:(a4).cell? ⟨w.heap.size,0,none⟩=some (.int .i64 (p:Int)):=Blk.cell a2.out 0
 have a7:(a4).cell? ⟨w.heap.size,1,none⟩=some (.slice A n k):=Blk.cell a2.out 1
 go_wp2_with fail
 replace a1:=rH a1 a3
 have hc:=rsolve_any p A n k l _ a1.out hn4 hp1 hp HE.out
 unfold RetB at hc
 have HC:=hid hc;clear hc
 refine HC.out.mono ?_
 rintro e w9 ⟨A2,n2,c2,rfl,ho,hb⟩
 clear HC
 replace a0:=bH a0 a3
 have HO:=hid (owns_base ho (a0.out.size))
 clear a6 a7
 have a5:=hid hb
 clear ho hb
 go_wp2
 go_ret3
 replace a0:=bH a0 a5
 exact ⟨A2,n2,c2,rfl,HO.out,a0.out⟩
theorem solveV_eq {p:Nat} {l:List Bnd} (hk:chk p l=0):solveV p l=(solL l p,(settle l p zeros).isSome,0):=by
 have hg:gcode p l []=0:=by unfold gcode;simp [hk]
 unfold solveV solL
 rw [if_pos hg,Int.toNat_natCast]
 cases settle l p zeros<;>rfl
theorem rSolve_any (P:Int) (A:Option Addr) (n k:Nat) (l:List Bnd) (w:World) (hr:RdB w A n k l) (hn:n≤maxLen):Calls Tryz.prog 91 #[.agg #[.int .i64 P,.slice A n k]] w (RetI (solveV P l) w):=by
 by_cases hk:chk P l=0
 · obtain ⟨hp1,hp2,hlen,-⟩:=chk_ok hk
   have he:=okP_of hk
   obtain ⟨p,rfl⟩:=Int.eq_ofNat_of_zero_le (show 0≤P by omega)
   rw [Int.toNat_natCast] at he
   rw [solveV_eq hk]
   exact rSolve_yes p A n k l w hr hn (by have:=hr.len;omega) (by omega) (by omega) (hid he) (hid hk)
 · have hg:¬ gcode P l []=0:=by unfold gcode;rw [if_neg hk];exact hk
   have hv:solveV P l=([],false,chk P l):=by unfold solveV;rw [if_neg hg];unfold gcode;rw [if_neg hk]
   rw [hv]
   exact rSolve_no P A n k l w hr hn (chk P l) (by simpa using hk) (hid rfl)
def plNear (x:List Int) (P:Int):Bool:=x.all near1&&decide ((x.length:Int)=P)
theorem kept_ref {P:Int} {l:List Bnd} {x:List Int} (hk:chk P l=0):keptV P l x=(plNear x P&&l.all (keepB x)):=by
 rw [Bool.eq_iff_iff]
 unfold keptV plNear
 simp only [Bool.and_eq_true,decide_eq_true_eq]
 constructor
 · rintro ⟨h1,h2⟩
   obtain ⟨-,hn,hc⟩:=kept_spec (q:=(keepsV P l x).2) (Prod.ext h2 rfl)
   refine ⟨⟨h1,(nums_at hn).1⟩,List.all_eq_true.2 fun b hb=>?_⟩
   have:=hc b hb
   simp only [keepB,decide_eq_true_eq]
   omega
 · rintro ⟨⟨h1,h2⟩,h3⟩
   refine ⟨h1,?_⟩
   have hn:nums P x=true:=by
    unfold nums
    rw [Bool.and_eq_true,decide_eq_true_eq]
    refine ⟨h2,List.all_eq_true.2 fun v hv=>?_⟩
    have:=List.all_eq_true.1 h1 v hv
    simp only [near1,decide_eq_true_eq] at this
    simp [isNum]
    omega
   have hb:l.findIdx? (fun b=>!keepB x b)=none:=brk_none fun j hj b hb=>List.all_eq_true.1 h3 b (List.mem_of_getElem? hb)
   unfold keepsV breaksV
   rw [if_neg (by simpa using hk),if_neg (by rw [hn];simp),hb]
   rfl
theorem plNear_at {x:List Int} {P:Int} (h:plNear x P=true):(x.length:Int)=P∧∀ i,i<x.length→-100000000≤at_ x i∧at_ x i≤100000000:=by
 unfold plNear at h
 rw [Bool.and_eq_true,decide_eq_true_eq] at h
 refine ⟨h.2,fun i hi=>?_⟩
 have:=List.all_eq_true.1 h.1 (x[i]) (List.getElem_mem hi)
 simp only [near1,decide_eq_true_eq] at this
 simpa [at_,List.getD_eq_getElem?_getD,List.getElem?_eq_getElem hi] using this
theorem at_range (φ:Nat→Int) {n i:Nat} (hi:i<n):at_ ((List.range n).map φ) i=φ i:=by
 unfold at_
 rw [List.getD_eq_getElem?_getD,List.getElem?_map,List.getElem?_range hi]
 rfl
theorem look_range (φ:Nat→Int) {n:Nat} {i:Int} (h0:0≤i) (hi:i<n):look ((List.range n).map φ) i=φ i.toNat:=by
 rw [look_eq,at_range φ (by omega)]
def made (n:Nat) (φ:Nat→Int):List Int:=(List.range n).map fun i=>φ i-φ 0
theorem made_length (n:Nat) (φ:Nat→Int):(made n φ).length=n:=by simp [made]
theorem look_made (φ:Nat→Int) {n:Nat} {i:Int} (h0:0≤i) (hi:i<n):look (made n φ) i=φ i.toNat-φ 0:=look_range _ h0 hi
theorem made_kept {P:Int} {l:List Bnd} {φ:Nat→Int} {n:Nat} (hn:(n:Int)=P) (hk:chk P l=0) (hs:Sol l φ) (hb:∀ i j,i<n→j<n→φ i-φ j≤100000000):keptV P l (made n φ)=true:=by
 obtain ⟨hp1,hp2,-,hall⟩:=chk_ok hk
 have he:=edges60 hk
 rw [kept_ref hk,Bool.and_eq_true]
 constructor
 · unfold plNear
   rw [Bool.and_eq_true,decide_eq_true_eq,made_length]
   refine ⟨List.all_eq_true.2 fun v hv=>?_,hn⟩
   obtain ⟨i,hi,rfl⟩:=List.mem_map.1 hv
   have hi:=List.mem_range.1 hi
   have h1:=hb i 0 hi (by omega)
   have h2:=hb 0 i (by omega) hi
   simp only [near1,decide_eq_true_eq]
   omega
 · refine List.all_eq_true.2 fun c hc=>?_
   have h1:=hs c hc
   have h2:=he c hc
   unfold keepB
   rw [decide_eq_true_eq,look_made φ (by omega) (by omega),look_made φ (by omega) (by omega)]
   omega
theorem solve_sol {P:Int} {l:List Bnd} (hk:chk P l=0) (hs:slv P l=true):((solveV P l).1.length:Int)=P∧Sol l (at_ (solveV P l).1)∧∀ i,-60000000≤at_ (solveV P l).1 i∧at_ (solveV P l).1 i≤0:=by
 obtain ⟨z,hz⟩:=Option.isSome_iff_exists.1 hs
 obtain ⟨z1,z2,z3,z4⟩:=sol_spec hk hz
 obtain ⟨hp1,hp2,-,hall⟩:=chk_ok hk
 have hg:gcode P l []=0:=by unfold gcode;rw [if_pos hk];rfl
 have he:(solveV P l).1=z.take P.toNat:=by unfold solveV;rw [if_pos hg,hz]
 rw [he]
 refine ⟨by rw [List.length_take];omega,fun c hc=>?_,fun i=>?_⟩
 · have h2:=edges60 hk c hc
   rw [at_take (by omega),at_take (by omega)]
   exact z2 c hc
 · by_cases hi:i<P.toNat
   · rw [at_take hi];exact ⟨z4 i,z3 i⟩
   · rw [at_out (by rw [List.length_take];omega)];omega
section
variable {a b:Otl} {p:Prg}
def mkA (a:Otl) (Z:List Int):List Int:=made (a.c.toNat+1) (at_ Z)
def mkB (a b:Otl) (p:Prg) (Z:List Int):List Int:=made (b.c.toNat+1) fun i=>-at_ Z (cor a p i).toNat
def mkC (a:Otl) (Y:List Int):List Int:=made a.c.toNat (at_ Y)
def mkD (a b:Otl) (p:Prg) (Y:List Int):List Int:=made b.c.toNat fun i=>at_ Y (sid a p i).toNat
theorem mk_placed (h:asked a b p=0) (hm:meetsB a b p=true) :
 plB a b p (mkA a (solveV (wayP a b p) (wayL a b p)).1) (mkB a b p (solveV (wayP a b p) (wayL a b p)).1) (mkC a (solveV (turnP a b p) (turnL a b p)).1) (mkD a b p (solveV (turnP a b p) (turnL a b p)).1)=true:=by
 obtain ⟨h1,-,-⟩:=asked_ok h
 obtain ⟨oa,ob,sa,sb,hk⟩:=chkP_ok h1
 obtain ⟨a1,a2,a3,a4⟩:=chkO_ok oa
 obtain ⟨b1,b2,b3,b4⟩:=chkO_ok ob
 unfold meetsB at hm
 rw [Bool.and_eq_true] at hm
 obtain ⟨-,s1,bd1⟩:=solve_sol (wayL_chk h) hm.1
 obtain ⟨-,s2,bd2⟩:=solve_sol (turnL_chk h) hm.2
 generalize (solveV (wayP a b p) (wayL a b p)).1=Z at s1 bd1 ⊢
 generalize (solveV (turnP a b p) (turnL a b p)).1=Y at s2 bd2 ⊢
 obtain ⟨f1,f2,f3⟩:=way_fit h s1
 obtain ⟨t1,t2,t3⟩:=turn_fit h s2
 unfold plB
 rw [Bool.and_eq_true,Bool.and_eq_true,Bool.and_eq_true,Bool.and_eq_true]
 refine ⟨⟨⟨⟨made_kept (by omega) a3 f1 ?_,made_kept (by omega) b3 f2 ?_⟩,made_kept (by omega) a4 t1 ?_⟩,made_kept (by omega) b4 t2 ?_⟩,?_⟩
 · intro i j _ _;have:=bd1 i;have:=bd1 j;omega
 · intro i j _ _;have:=bd1 (cor a p i).toNat;have:=bd1 (cor a p j).toNat;omega
 · intro i j _ _;have:=bd2 i;have:=bd2 j;omega
 · intro i j _ _;have:=bd2 (sid a p i).toNat;have:=bd2 (sid a p j).toNat;omega
 · unfold ties
   refine List.all_eq_true.2 fun j hj=>?_
   have hj:=List.mem_range.1 hj
   rw [Bool.and_eq_true]
   have g1:=f3 (p.bf+j) (by omega) (by omega)
   have g2:=t3 (p.bf+j) (by omega) (by omega)
   dsimp only at g1 g2
   refine ⟨?_,?_⟩
   · unfold tieW mkA mkB
     rw [decide_eq_true_eq,look_made _ (by omega) (by omega),look_made _ (by omega) (by omega),look_made _ (by omega) (by omega),look_made _ (by omega) (by omega)]
     omega
   · unfold tieT mkC mkD
     rw [decide_eq_true_eq,look_made _ (by omega) (by omega),look_made _ (by omega) (by omega),look_made _ (by omega) (by omega),look_made _ (by omega) (by omega)]
     omega
theorem kept_sol {P:Int} {l:List Bnd} {x:List Int} (hk:chk P l=0) (h:keptV P l x=true):Sol l (at_ x)∧(x.length:Int)=P∧∀ i,-100000000≤at_ x i∧at_ x i≤100000000:=by
 rw [kept_ref hk,Bool.and_eq_true] at h
 obtain ⟨h1,h2⟩:=plNear_at h.1
 refine ⟨fun c hc=>?_,h1,fun i=>?_⟩
 · have:=List.all_eq_true.1 h.2 c hc
   unfold keepB at this
   rw [decide_eq_true_eq,look_eq,look_eq] at this
   omega
 · by_cases hi:i<x.length
   · exact h2 i hi
   · rw [at_out (by omega)];omega
theorem placed_fit (h:asked a b p=0) {xa xb ya yb:List Int} (hp:plB a b p xa xb ya yb=true) :
 FW a b p (at_ xa) (at_ xb)∧FT a b p (at_ ya) (at_ yb)∧(xa.length:Int)=a.c+1∧∀ i,-100000000≤at_ xa i∧at_ xa i≤100000000:=by
 obtain ⟨h1,-,-⟩:=asked_ok h
 obtain ⟨oa,ob,sa,sb,hk⟩:=chkP_ok h1
 obtain ⟨a1,a2,a3,a4⟩:=chkO_ok oa
 obtain ⟨b1,b2,b3,b4⟩:=chkO_ok ob
 unfold plB at hp
 rw [Bool.and_eq_true,Bool.and_eq_true,Bool.and_eq_true,Bool.and_eq_true] at hp
 obtain ⟨⟨⟨⟨k1,k2⟩,k3⟩,k4⟩,k5⟩:=hp
 obtain ⟨s1,l1,r1⟩:=kept_sol a3 k1
 obtain ⟨s2,-,-⟩:=kept_sol b3 k2
 obtain ⟨s3,-,-⟩:=kept_sol a4 k3
 obtain ⟨s4,-,-⟩:=kept_sol b4 k4
 unfold ties at k5
 have ht:∀ q:Int,p.bf≤q→q<p.bt→tieW p xa xb q=true∧tieT p ya yb q=true:=fun q h2 h3=>by
  have:=List.all_eq_true.1 k5 (q-p.bf).toNat (List.mem_range.2 (by omega))
  rw [Bool.and_eq_true,show p.bf+(((q-p.bf).toNat:Nat):Int)=q by omega] at this
  exact this
 refine ⟨⟨s1,s2,fun q h2 h3=>?_⟩,⟨s3,s4,fun q h2 h3=>?_⟩,l1,r1⟩
 · by_cases e:q=p.bt
   · subst e
     rw [show p.af+p.bt-p.bt=p.af by omega]
     omega
   · have:=(ht q h2 (by omega)).1
     unfold tieW at this
     rw [decide_eq_true_eq] at this
     exact this
 · have:=(ht q h2 h3).2
   unfold tieT at this
   rw [decide_eq_true_eq] at this
   exact this
theorem placed_meets (h:asked a b p=0) {xa xb ya yb:List Int} (hp:plB a b p xa xb ya yb=true):meetsB a b p=true:=by
 obtain ⟨h1,h2,-,-⟩:=placed_fit h hp
 unfold meetsB
 rw [Bool.and_eq_true]
 exact ⟨(wayS_iff h).2 ⟨_,_,h1⟩,(turnS_iff h).2 ⟨_,_,h2⟩⟩
end
theorem Cl.farT {w:World} {g h:Nat} {n x lo hi:Int} {t:TypeId} {cs:Array Value} (hc:Cl w g n x lo hi) (hb:Blk w h t cs) (ht:3≠t) (i:Nat) (v:Value):Cl (w.setCell ⟨h,i,none⟩ v) g n x lo hi :=
 ⟨hc.n0.far (p:=⟨h,i,none⟩) (blk_ne hc.n0 hb ht) v,hc.x0.far (p:=⟨h,i,none⟩) (blk_ne hc.x0 hb ht) v,hc.l0.far (p:=⟨h,i,none⟩) (blk_ne hc.l0 hb ht) v,hc.h0.far (p:=⟨h,i,none⟩) (blk_ne hc.h0 hb ht) v⟩
set_option maxRecDepth 100000 in
theorem placement_any (c:Nat) (A B:Option Addr) (n k m j:Nat) (ws ts:List Bnd) (d:Nat) (C D:Option Addr) (n2 k2 m2 j2:Nat) (ws2 ts2:List Bnd) (p1 p2 p3 p4:Int) (w:World) (Z1:Option Addr) (zn zc:Nat) (Y1:Option Addr) (yn yc:Nat) (Z Y:List Int) (hz:RdI w Z1 zn zc Z) (hy:RdI w Y1 yn yc Y) (hzn:(zn:Int)=wayP ⟨c,ws,ts⟩ ⟨d,ws2,ts2⟩ ⟨p1,p2,p3,p4⟩) (hyn:(yn:Int)=turnP ⟨c,ws,ts⟩ ⟨d,ws2,ts2⟩ ⟨p1,p2,p3,p4⟩) (hzb:∀ i,-1000000000000≤at_ Z i∧at_ Z i≤1000000000000) (hyb:∀ i,-1000000000000≤at_ Y i∧at_ Y i≤1000000000000) (hq:asked ⟨c,ws,ts⟩ ⟨d,ws2,ts2⟩ ⟨p1,p2,p3,p4⟩=0):Calls Tryz.prog 39 #[.agg #[.int .i64 c,.slice A n k,.slice B m j,.int .i64 d,.slice C n2 k2,.slice D m2 j2,.int .i64 p1,.int .i64 p2,.int .i64 p3,.int .i64 p4],.agg #[.slice Z1 zn zc,.slice Y1 yn yc]] w fun e w'=>∃ B1 e1 B2 e2 B3 e3 B4 e4,e=.returned (.agg #[.slice B1 (c+1) e1,.slice B2 (d+1) e2,.slice B3 c e3,.slice B4 d e4])∧RdI w' B1 (c+1) e1 (mkA ⟨c,ws,ts⟩ Z)∧RdI w' B2 (d+1) e2 (mkB ⟨c,ws,ts⟩ ⟨d,ws2,ts2⟩ ⟨p1,p2,p3,p4⟩ Z)∧RdI w' B3 c e3 (mkC ⟨c,ws,ts⟩ Y)∧RdI w' B4 d e4 (mkD ⟨c,ws,ts⟩ ⟨d,ws2,ts2⟩ ⟨p1,p2,p3,p4⟩ Y)∧Below w.heap.size w w':=by
 obtain ⟨hq1,-,-⟩:=asked_ok hq
 obtain ⟨oa,ob,sa,sb,hk⟩:=chkP_ok hq1
 obtain ⟨a1,a2,-,-⟩:=chkO_ok oa
 obtain ⟨b1,b2,-,-⟩:=chkO_ok ob
 obtain ⟨jw,-⟩:=way_jn hq
 obtain ⟨jt,-⟩:=turn_jn hq
 dsimp only at a1 a2 b1 b2 sa sb hk jw jt
 unfold wayP at hzn
 unfold turnP at hyn
 dsimp only at hzn hyn
 have RW:=hid (fun (i:Nat) (hi:i<d+1)=>show ren ((c:Int)+1) p1 p3 p4 i=((cor ⟨c,ws,ts⟩ ⟨p1,p2,p3,p4⟩ i).toNat:Int)∧(cor ⟨c,ws,ts⟩ ⟨p1,p2,p3,p4⟩ i).toNat<zn from by
  have h:=ren_in jw (q:=(i:Int)) (by omega) (by omega)
  unfold cor;dsimp only;omega)
 have RS:=hid (fun (i:Nat) (hi:i<d)=>show ren (c:Int) p1 p3 (p4-1) i=((sid ⟨c,ws,ts⟩ ⟨p1,p2,p3,p4⟩ i).toNat:Int)∧(sid ⟨c,ws,ts⟩ ⟨p1,p2,p3,p4⟩ i).toNat<yn from by
  have h:=ren_in jt (q:=(i:Int)) (by omega) (by omega)
  unfold sid;dsimp only;omega)
 have HZN:=hid (show c+1≤zn by omega);have HYN:=hid (show c≤yn by omega)
 clear hq hq1 oa ob jw jt hzn hyn
 obtain ⟨sa1,sa2,sa3⟩:=sa
 obtain ⟨sb1,sb2,sb3⟩:=sb
 have Z0:=hid hz;have Y0:=hid hy;have HZB:=hid hzb;have HYB:=hid hyb;clear hz hy hzb hyb
 go_enter Tryz.func39,Tryz.ntmps39
 obtain ⟨b3,b4,b5,a4⟩:=ent3 w #[.int .i64 c,.slice A n k,.slice B m j,.int .i64 d,.slice C n2 k2,.slice D m2 j2,.int .i64 p1,.int .i64 p2,.int .i64 p3,.int .i64 p4] 74 #[.slice Z1 zn zc,.slice Y1 yn yc] 77 #[.slice none 0 0,.slice none 0 0,.slice none 0 0,.slice none 0 0] 36
 have hmf:∀ (fn:Fn) (first cap:Array Value) (w:World),(Instr.makeFunc fn first cap).run Tryz.prog w=.ok (.func fn first cap) w:=fun _ _ _ _=>rfl
 have JJ:=hid (And.intro b3.out (And.intro b4.out (And.intro b5.out (And.intro a4.out (show w.heap.size+3≤(((w.alloc (.cells #[.int .i64 c,.slice A n k,.slice B m j,.int .i64 d,.slice C n2 k2,.slice D m2 j2,.int .i64 p1,.int .i64 p2,.int .i64 p3,.int .i64 p4] 74)).alloc (.cells #[.slice Z1 zn zc,.slice Y1 yn yc] 77)).alloc (.cells #[.slice none 0 0,.slice none 0 0,.slice none 0 0,.slice none 0 0] 36)).heap.size by simp)))))
 clear a4 b3 b4 b5
 go_upto_region 1 with fail
 refine wp_region_held_drew (S:=(fun W=>Blk W w.heap.size 74 #[.int .i64 c,.slice A n k,.slice B m j,.int .i64 d,.slice C n2 k2,.slice D m2 j2,.int .i64 p1,.int .i64 p2,.int .i64 p3,.int .i64 p4]∧Blk W (w.heap.size+1) 77 #[.slice Z1 zn zc,.slice Y1 yn yc]∧Blk W (w.heap.size+1+1) 36 #[.slice none 0 0,.slice none 0 0,.slice none 0 0,.slice none 0 0]∧Below w.heap.size w W∧w.heap.size+3≤W.heap.size)) (by kernel_rfl) ?_ (fun hj=>?_)
 · obtain ⟨k1,k2,k3,k4,k5⟩:=JJ.out
   exact ⟨k1.drew,k2.drew,k3.drew,k4.drew,k5⟩
 clear JJ
 have HJ0:=hid hj;clear hj
 refine' tkH 0 HJ0.out ?a5 ?_
 case a5=>(rintro W' hS0;have hS1:=hS0.1;clear hS0;have z0:W'.cell? ⟨w.heap.size,0,none⟩=some (.int .i64 c):=Blk.cell hS1 0;have z1:W'.cell? ⟨w.heap.size,1,none⟩=some (.slice A n k):=Blk.cell hS1 1;have z2:W'.cell? ⟨w.heap.size,2,none⟩=some (.slice B m j):=Blk.cell hS1 2;have z3:W'.cell? ⟨w.heap.size,3,none⟩=some (.int .i64 d):=Blk.cell hS1 3;have z4:W'.cell? ⟨w.heap.size,4,none⟩=some (.slice C n2 k2):=Blk.cell hS1 4;have z5:W'.cell? ⟨w.heap.size,5,none⟩=some (.slice D m2 j2):=Blk.cell hS1 5;have z6:W'.cell? ⟨w.heap.size,6,none⟩=some (.int .i64 p1):=Blk.cell hS1 6;have z7:W'.cell? ⟨w.heap.size,7,none⟩=some (.int .i64 p2):=Blk.cell hS1 7;have z8:W'.cell? ⟨w.heap.size,8,none⟩=some (.int .i64 p3):=Blk.cell hS1 8;have z9:W'.cell? ⟨w.heap.size,9,none⟩=some (.int .i64 p4):=Blk.cell hS1 9;clear hS1;go_simp;try with_reducible rfl)
 refine' tkH 2 HJ0.out ?a6 ?_
 case a6=>(rintro W' hS0;have hS1:=hS0.1;clear hS0;have z0:W'.cell? ⟨w.heap.size,0,none⟩=some (.int .i64 c):=Blk.cell hS1 0;have z1:W'.cell? ⟨w.heap.size,1,none⟩=some (.slice A n k):=Blk.cell hS1 1;have z2:W'.cell? ⟨w.heap.size,2,none⟩=some (.slice B m j):=Blk.cell hS1 2;have z3:W'.cell? ⟨w.heap.size,3,none⟩=some (.int .i64 d):=Blk.cell hS1 3;have z4:W'.cell? ⟨w.heap.size,4,none⟩=some (.slice C n2 k2):=Blk.cell hS1 4;have z5:W'.cell? ⟨w.heap.size,5,none⟩=some (.slice D m2 j2):=Blk.cell hS1 5;have z6:W'.cell? ⟨w.heap.size,6,none⟩=some (.int .i64 p1):=Blk.cell hS1 6;have z7:W'.cell? ⟨w.heap.size,7,none⟩=some (.int .i64 p2):=Blk.cell hS1 7;have z8:W'.cell? ⟨w.heap.size,8,none⟩=some (.int .i64 p3):=Blk.cell hS1 8;have z9:W'.cell? ⟨w.heap.size,9,none⟩=some (.int .i64 p4):=Blk.cell hS1 9;clear hS1;go_simp;try with_reducible rfl)
 refine place_r1 c A B n k m j d C D n2 k2 m2 j2 p1 p2 p3 p4 ⟨by omega,by omega⟩ ⟨by omega,by omega⟩ (fun W=>Blk W w.heap.size 74 #[.int .i64 c,.slice A n k,.slice B m j,.int .i64 d,.slice C n2 k2,.slice D m2 j2,.int .i64 p1,.int .i64 p2,.int .i64 p3,.int .i64 p4]∧Blk W (w.heap.size+1) 77 #[.slice Z1 zn zc,.slice Y1 yn yc]∧Blk W (w.heap.size+1+1) 36 #[.slice none 0 0,.slice none 0 0,.slice none 0 0,.slice none 0 0]∧Below w.heap.size w W∧w.heap.size+3≤W.heap.size) (w.heap.size+3) ?_ ?_ ?_ ?_ ?_ _ HJ0.out
 · rintro W ⟨_,_,_,_,h⟩
   exact h
 · rintro W o ⟨k1,k2,k3,k4,k5⟩
   exact ⟨k1.alloc o,k2.alloc o,k3.alloc o,k4.alloc k4.size o,by rw [World.size_alloc];omega⟩
 · rintro W W' ⟨k1,k2,k3,k4,k5⟩ hb
   exact ⟨k1.keep hb,k2.keep hb,k3.keep hb,k4.trans (hb.mono k4.size),Nat.le_trans k5 hb.size⟩
 · rintro W x v ⟨k1,k2,k3,k4,k5⟩ hx
   exact ⟨k1.far (p:=x) (by omega) v,k2.far (p:=x) (by omega) v,k3.far (p:=x) (by omega) v,k4.setCell (p:=x) (by omega) v,by simpa using k5⟩
 rintro g1 g2 h1 h2 u7 u8 u9 u10 W ⟨k1,k2,k3,k4,k5⟩ c1 c2 kc b1 kd b2
 clear HJ0
 have JJ:=hid (And.intro k1 (And.intro k2 (And.intro c1 (And.intro c2 (And.intro kc (And.intro kd (And.intro (show (∃ a0 k0 d0 a1 k1 d1 a2 k2 d2 a3 k3 d3,Blk W (w.heap.size+1+1) 36 #[.slice a0 k0 d0,.slice a1 k1 d1,.slice a2 k2 d2,.slice a3 k3 d3]) from ⟨_,_,_,_,_,_,_,_,_,_,_,_,k3⟩) k4)))))))
 clear k1 k2 k3 k4 k5 c1 c2 kc kd
 go_upto_region 2 with fail
 refine wp_region_held_drew (S:=(fun W=>Blk W w.heap.size 74 #[.int .i64 c,.slice A n k,.slice B m j,.int .i64 d,.slice C n2 k2,.slice D m2 j2,.int .i64 p1,.int .i64 p2,.int .i64 p3,.int .i64 p4]∧Blk W (w.heap.size+1) 77 #[.slice Z1 zn zc,.slice Y1 yn yc]∧Cl W g1 (c+1) p1 p3 p4∧Cl W g2 c p1 p3 (p4-1)∧Blk W h1 119 #[.func (.func 149) #[] #[.pointer (some ⟨g1+1+1,0,none⟩),.pointer (some ⟨g1,0,none⟩),.pointer (some ⟨g1+1+1+1,0,none⟩),.pointer (some ⟨g1+1,0,none⟩)]]∧Blk W h2 119 #[.func (.func 149) #[] #[.pointer (some ⟨g2+1+1,0,none⟩),.pointer (some ⟨g2,0,none⟩),.pointer (some ⟨g2+1+1+1,0,none⟩),.pointer (some ⟨g2+1,0,none⟩)]]∧(∃ a0 k0 d0 a1 k1 d1 a2 k2 d2 a3 k3 d3,Blk W (w.heap.size+1+1) 36 #[.slice a0 k0 d0,.slice a1 k1 d1,.slice a2 k2 d2,.slice a3 k3 d3])∧Below w.heap.size w W)) (by kernel_rfl) ?_ (fun hj=>?_)
 · obtain ⟨k1,k2,k3,k4,k5,k6,⟨a0,j0,d0,a1,j1,d1,a2,j2,d2,a3,j3,d3,k7⟩,k8⟩:=JJ.out
   exact ⟨k1.drew,k2.drew,k3.drew,k4.drew,k5.drew,k6.drew,⟨_,_,_,_,_,_,_,_,_,_,_,_,k7.drew⟩,k8.drew⟩
 clear JJ
 have HJ0:=hid hj;clear hj
 have HWC:=hid (And.intro (show IntKind.i64.wrap ((c:Int)+1)=(c:Int)+1 from IntWalk.i64_in _ (by omega)) (show IntKind.i64.wrap ((d:Int)+1)=(d:Int)+1 from IntWalk.i64_in _ (by omega)))
 refine' twH 0 HJ0.out ?_
 refine' twH 1 HJ0.out ?_
 refine' twH 2 HJ0.out ?_
 refine' tkH 3 HJ0.out ?a7 ?_
 case a7=>(rintro W' hS0;have hS1:=hS0.1;clear hS0;have z0:W'.cell? ⟨w.heap.size,0,none⟩=some (.int .i64 c):=Blk.cell hS1 0;have z1:W'.cell? ⟨w.heap.size,1,none⟩=some (.slice A n k):=Blk.cell hS1 1;have z2:W'.cell? ⟨w.heap.size,2,none⟩=some (.slice B m j):=Blk.cell hS1 2;have z3:W'.cell? ⟨w.heap.size,3,none⟩=some (.int .i64 d):=Blk.cell hS1 3;have z4:W'.cell? ⟨w.heap.size,4,none⟩=some (.slice C n2 k2):=Blk.cell hS1 4;have z5:W'.cell? ⟨w.heap.size,5,none⟩=some (.slice D m2 j2):=Blk.cell hS1 5;have z6:W'.cell? ⟨w.heap.size,6,none⟩=some (.int .i64 p1):=Blk.cell hS1 6;have z7:W'.cell? ⟨w.heap.size,7,none⟩=some (.int .i64 p2):=Blk.cell hS1 7;have z8:W'.cell? ⟨w.heap.size,8,none⟩=some (.int .i64 p3):=Blk.cell hS1 8;have z9:W'.cell? ⟨w.heap.size,9,none⟩=some (.int .i64 p4):=Blk.cell hS1 9;clear hS1;go_simp;try with_reducible rfl)
 try simp only [pq]
 refine' twH 4 HJ0.out ?_
 refine' twH 5 HJ0.out ?_
 refine' twH 7 HJ0.out ?_
 refine' twH 8 HJ0.out ?_
 try simp only [pq]
 refine' twH 9 HJ0.out ?_
 refine' tkH 10 HJ0.out ?a8 ?_
 case a8=>(rintro W' hS0;have hS1:=hS0.1;clear hS0;have z0:W'.cell? ⟨w.heap.size,0,none⟩=some (.int .i64 c):=Blk.cell hS1 0;have z1:W'.cell? ⟨w.heap.size,1,none⟩=some (.slice A n k):=Blk.cell hS1 1;have z2:W'.cell? ⟨w.heap.size,2,none⟩=some (.slice B m j):=Blk.cell hS1 2;have z3:W'.cell? ⟨w.heap.size,3,none⟩=some (.int .i64 d):=Blk.cell hS1 3;have z4:W'.cell? ⟨w.heap.size,4,none⟩=some (.slice C n2 k2):=Blk.cell hS1 4;have z5:W'.cell? ⟨w.heap.size,5,none⟩=some (.slice D m2 j2):=Blk.cell hS1 5;have z6:W'.cell? ⟨w.heap.size,6,none⟩=some (.int .i64 p1):=Blk.cell hS1 6;have z7:W'.cell? ⟨w.heap.size,7,none⟩=some (.int .i64 p2):=Blk.cell hS1 7;have z8:W'.cell? ⟨w.heap.size,8,none⟩=some (.int .i64 p3):=Blk.cell hS1 8;have z9:W'.cell? ⟨w.heap.size,9,none⟩=some (.int .i64 p4):=Blk.cell hS1 9;clear hS1;go_simp;try with_reducible rfl)
 refine' twH 11 HJ0.out ?_
 refine' twH 12 HJ0.out ?_
 try simp only [pq]
 refine' twH 14 HJ0.out ?_
 refine' twH 15 HJ0.out ?_
 refine' twH 16 HJ0.out ?_
 refine' tkH 17 HJ0.out ?a9 ?_
 case a9=>(rintro W' hS0;have hS1:=hS0.1;clear hS0;have z0:W'.cell? ⟨w.heap.size,0,none⟩=some (.int .i64 c):=Blk.cell hS1 0;have z1:W'.cell? ⟨w.heap.size,1,none⟩=some (.slice A n k):=Blk.cell hS1 1;have z2:W'.cell? ⟨w.heap.size,2,none⟩=some (.slice B m j):=Blk.cell hS1 2;have z3:W'.cell? ⟨w.heap.size,3,none⟩=some (.int .i64 d):=Blk.cell hS1 3;have z4:W'.cell? ⟨w.heap.size,4,none⟩=some (.slice C n2 k2):=Blk.cell hS1 4;have z5:W'.cell? ⟨w.heap.size,5,none⟩=some (.slice D m2 j2):=Blk.cell hS1 5;have z6:W'.cell? ⟨w.heap.size,6,none⟩=some (.int .i64 p1):=Blk.cell hS1 6;have z7:W'.cell? ⟨w.heap.size,7,none⟩=some (.int .i64 p2):=Blk.cell hS1 7;have z8:W'.cell? ⟨w.heap.size,8,none⟩=some (.int .i64 p3):=Blk.cell hS1 8;have z9:W'.cell? ⟨w.heap.size,9,none⟩=some (.int .i64 p4):=Blk.cell hS1 9;clear hS1;go_simp;try with_reducible rfl)
 try simp only [pq]
 refine' twH 18 HJ0.out ?_
 refine' twH 20 HJ0.out ?_
 refine' twH 21 HJ0.out ?_
 refine' twH 22 HJ0.out ?_
 try simp only [pq]
 refine' tkH 23 HJ0.out ?b0 ?_
 case b0=>(rintro W' hS0;have hS1:=hS0.1;clear hS0;have z0:W'.cell? ⟨w.heap.size,0,none⟩=some (.int .i64 c):=Blk.cell hS1 0;have z1:W'.cell? ⟨w.heap.size,1,none⟩=some (.slice A n k):=Blk.cell hS1 1;have z2:W'.cell? ⟨w.heap.size,2,none⟩=some (.slice B m j):=Blk.cell hS1 2;have z3:W'.cell? ⟨w.heap.size,3,none⟩=some (.int .i64 d):=Blk.cell hS1 3;have z4:W'.cell? ⟨w.heap.size,4,none⟩=some (.slice C n2 k2):=Blk.cell hS1 4;have z5:W'.cell? ⟨w.heap.size,5,none⟩=some (.slice D m2 j2):=Blk.cell hS1 5;have z6:W'.cell? ⟨w.heap.size,6,none⟩=some (.int .i64 p1):=Blk.cell hS1 6;have z7:W'.cell? ⟨w.heap.size,7,none⟩=some (.int .i64 p2):=Blk.cell hS1 7;have z8:W'.cell? ⟨w.heap.size,8,none⟩=some (.int .i64 p3):=Blk.cell hS1 8;have z9:W'.cell? ⟨w.heap.size,9,none⟩=some (.int .i64 p4):=Blk.cell hS1 9;clear hS1;go_simp;try with_reducible rfl)
 refine' twH 24 HJ0.out ?_
 try simp only [pq]
 rw [HWC.out.1,HWC.out.2]
 refine place_r2 (w.heap.size+1+1) (fun W=>Blk W w.heap.size 74 #[.int .i64 c,.slice A n k,.slice B m j,.int .i64 d,.slice C n2 k2,.slice D m2 j2,.int .i64 p1,.int .i64 p2,.int .i64 p3,.int .i64 p4]∧Blk W (w.heap.size+1) 77 #[.slice Z1 zn zc,.slice Y1 yn yc]∧Cl W g1 (c+1) p1 p3 p4∧Cl W g2 c p1 p3 (p4-1)∧Blk W h1 119 #[.func (.func 149) #[] #[.pointer (some ⟨g1+1+1,0,none⟩),.pointer (some ⟨g1,0,none⟩),.pointer (some ⟨g1+1+1+1,0,none⟩),.pointer (some ⟨g1+1,0,none⟩)]]∧Blk W h2 119 #[.func (.func 149) #[] #[.pointer (some ⟨g2+1+1,0,none⟩),.pointer (some ⟨g2,0,none⟩),.pointer (some ⟨g2+1+1+1,0,none⟩),.pointer (some ⟨g2+1,0,none⟩)]]∧(∃ a0 k0 d0 a1 k1 d1 a2 k2 d2 a3 k3 d3,Blk W (w.heap.size+1+1) 36 #[.slice a0 k0 d0,.slice a1 k1 d1,.slice a2 k2 d2,.slice a3 k3 d3])∧Below w.heap.size w W) (c+1) (d+1) c d (mkA ⟨c,ws,ts⟩ Z) (mkB ⟨c,ws,ts⟩ ⟨d,ws2,ts2⟩ ⟨p1,p2,p3,p4⟩ Z) (mkC ⟨c,ws,ts⟩ Y) (mkD ⟨c,ws,ts⟩ ⟨d,ws2,ts2⟩ ⟨p1,p2,p3,p4⟩ Y) ((c:Int)+1) (.func (.func 79) #[] #[.pointer (some ⟨(w.heap.size+1),0,none⟩)]) ((d:Int)+1) (.func (.func 80) #[] #[.pointer (some ⟨(w.heap.size+1),0,none⟩),.pointer (some ⟨h1,0,none⟩)]) (c:Int) (.func (.func 81) #[] #[.pointer (some ⟨(w.heap.size+1),0,none⟩)]) (d:Int) (.func (.func 82) #[] #[.pointer (some ⟨(w.heap.size+1),0,none⟩),.pointer (some ⟨h2,0,none⟩)]) ?_ ?_ ?_ ?_ ?_ ?_ ?_ ?_ ?_ _ HJ0.out
 · rintro W W' ⟨k1,k2,k3,k4,k5,k6,⟨a0,j0,d0,a1,j1,d1,a2,j2,d2,a3,j3,d3,k7⟩,k8⟩ hb
   exact ⟨k1.keep hb,k2.keep hb,k3.keep hb,k4.keep hb,k5.keep hb,k6.keep hb,⟨_,_,_,_,_,_,_,_,_,_,_,_,k7.keep hb⟩,k8.trans (hb.mono k8.size)⟩
 · rintro W ⟨k1,k2,k3,k4,k5,k6,k7,k8⟩
   exact k7
 · rintro W i xA xn xc hi ⟨k1,k2,k3,k4,k5,k6,⟨a0,j0,d0,a1,j1,d1,a2,j2,d2,a3,j3,d3,k7⟩,k8⟩
   refine ⟨k1.far (p:=⟨(w.heap.size+1+1),i,none⟩) (by dsimp only;omega) _,k2.far (p:=⟨(w.heap.size+1+1),i,none⟩) (by dsimp only;omega) _,Cl.farT k3 k7 (by decide) i _,Cl.farT k4 k7 (by decide) i _,k5.far (p:=⟨(w.heap.size+1+1),i,none⟩) (by dsimp only;omega) _,k6.far (p:=⟨(w.heap.size+1+1),i,none⟩) (by dsimp only;omega) _,?_,k8.setCell (p:=⟨(w.heap.size+1+1),i,none⟩) (by dsimp only;omega) _⟩
   have k9:=Blk.set_ k7 i (.slice xA xn xc)
   rcases i with _|_|_|_|i
   · exact ⟨_,_,_,_,_,_,_,_,_,_,_,_,k9⟩
   · exact ⟨_,_,_,_,_,_,_,_,_,_,_,_,k9⟩
   · exact ⟨_,_,_,_,_,_,_,_,_,_,_,_,k9⟩
   · exact ⟨_,_,_,_,_,_,_,_,_,_,_,_,k9⟩
   · omega
 · rintro W ⟨k1,k2,k3,k4,k5,k6,k7,k8⟩
   have h:=from1_any (c+1) (by omega) (by omega) (w.heap.size+1) Z1 zn zc Y1 yn yc Z W k2 (RdI.below Z0.out k8) HZB.out (by have h1:=HZN.out;have h2:=HYN.out;omega)
   rw [show ((c+1:Nat):Int)=((c:Int)+1) from by omega] at h
   exact h
 · rintro W ⟨k1,k2,k3,k4,k5,k6,k7,k8⟩
   have h:=from2_any (d+1) (by omega) (by omega) (w.heap.size+1) Z1 zn zc Y1 yn yc Z W k2 (RdI.below Z0.out k8) HZB.out h1 g1 ((c:Int)+1) p1 p3 p4 (fun i=>(cor ⟨c,ws,ts⟩ ⟨p1,p2,p3,p4⟩ i).toNat) k5 k3 ⟨⟨by omega,by omega⟩,⟨by omega,by omega⟩,⟨by omega,by omega⟩,⟨by omega,by omega⟩⟩ RW.out
   rw [show ((d+1:Nat):Int)=((d:Int)+1) from by omega] at h
   exact h
 · rintro W ⟨k1,k2,k3,k4,k5,k6,k7,k8⟩
   have h:=from3_any (c) (by omega) (by omega) (w.heap.size+1) Z1 zn zc Y1 yn yc Y W k2 (RdI.below Y0.out k8) HYB.out (by have h1:=HZN.out;have h2:=HYN.out;omega)
   exact h
 · rintro W ⟨k1,k2,k3,k4,k5,k6,k7,k8⟩
   have h:=from4_any (d) (by omega) (by omega) (w.heap.size+1) Z1 zn zc Y1 yn yc Y W k2 (RdI.below Y0.out k8) HYB.out h2 g2 (c:Int) p1 p3 (p4-1) (fun i=>(sid ⟨c,ws,ts⟩ ⟨p1,p2,p3,p4⟩ i).toNat) k6 k4 ⟨⟨by omega,by omega⟩,⟨by omega,by omega⟩,⟨by omega,by omega⟩,⟨by omega,by omega⟩⟩ RS.out
   exact h
 · exact fun _ _ _ _ _ h=>h
 rintro B1 e1 B2 e2 B3 e3 B4 e4 u37 W ⟨k1,k2,k3,k4,k5,k6,k7,k8⟩ kb r1 r2 r3 r4
 clear HJ0 k1 k2 k3 k4 k5 k6 k7
 have z0:W.cell? ⟨(w.heap.size+1+1),0,none⟩=some (.slice B1 (c+1) e1):=Blk.cell kb 0
 have z1:W.cell? ⟨(w.heap.size+1+1),1,none⟩=some (.slice B2 (d+1) e2):=Blk.cell kb 1
 have z2:W.cell? ⟨(w.heap.size+1+1),2,none⟩=some (.slice B3 c e3):=Blk.cell kb 2
 have z3:W.cell? ⟨(w.heap.size+1+1),3,none⟩=some (.slice B4 d e4):=Blk.cell kb 3
 have HR:=hid (And.intro r1 (And.intro r2 (And.intro r3 (And.intro r4 k8))));clear r1 r2 r3 r4 k8 kb
 go_wp2
 refine bodyPost_ret (v:=.agg #[.slice B1 (c+1) e1,.slice B2 (d+1) e2,.slice B3 c e3,.slice B4 d e4]) (by simp [results,Tryz.results39,go_sem,z0,z1,z2,z3]) rfl ⟨_,_,_,_,_,_,_,_,rfl,HR.out⟩
theorem placement_q (c:Int) (A B:Option Addr) (n k m j:Nat) (ws ts:List Bnd) (d:Int) (C D:Option Addr) (n2 k2 m2 j2:Nat) (ws2 ts2:List Bnd) (p1 p2 p3 p4:Int) (w:World) (Z1:Option Addr) (zn zc:Nat) (Y1:Option Addr) (yn yc:Nat) (Z Y:List Int) (hz:RdI w Z1 zn zc Z) (hy:RdI w Y1 yn yc Y) (hzn:(zn:Int)=wayP ⟨c,ws,ts⟩ ⟨d,ws2,ts2⟩ ⟨p1,p2,p3,p4⟩) (hyn:(yn:Int)=turnP ⟨c,ws,ts⟩ ⟨d,ws2,ts2⟩ ⟨p1,p2,p3,p4⟩) (hzb:∀ i,-1000000000000≤at_ Z i∧at_ Z i≤1000000000000) (hyb:∀ i,-1000000000000≤at_ Y i∧at_ Y i≤1000000000000) (hq:asked ⟨c,ws,ts⟩ ⟨d,ws2,ts2⟩ ⟨p1,p2,p3,p4⟩=0):Calls Tryz.prog 39 #[.agg #[.int .i64 c,.slice A n k,.slice B m j,.int .i64 d,.slice C n2 k2,.slice D m2 j2,.int .i64 p1,.int .i64 p2,.int .i64 p3,.int .i64 p4],.agg #[.slice Z1 zn zc,.slice Y1 yn yc]] w fun e w'=>∃ B1 m1 e1 B2 m2 e2 B3 m3 e3 B4 m4 e4,e=.returned (.agg #[.slice B1 m1 e1,.slice B2 m2 e2,.slice B3 m3 e3,.slice B4 m4 e4])∧(RdI w' B1 m1 e1 (mkA ⟨c,ws,ts⟩ Z)∧RdI w' B2 m2 e2 (mkB ⟨c,ws,ts⟩ ⟨d,ws2,ts2⟩ ⟨p1,p2,p3,p4⟩ Z)∧RdI w' B3 m3 e3 (mkC ⟨c,ws,ts⟩ Y)∧RdI w' B4 m4 e4 (mkD ⟨c,ws,ts⟩ ⟨d,ws2,ts2⟩ ⟨p1,p2,p3,p4⟩ Y))∧(m1≤17∧m2≤17∧m3≤17∧m4≤17)∧Below w.heap.size w w':=by
 obtain ⟨oa,ob,-⟩:=chkP_ok (asked_ok hq).1
 obtain ⟨a1,a2,-,-⟩:=chkO_ok oa
 obtain ⟨b1,b2,-,-⟩:=chkO_ok ob
 dsimp only at a1 a2 b1 b2
 obtain ⟨c,rfl⟩:=Int.eq_ofNat_of_zero_le (show 0≤c by omega)
 obtain ⟨d,rfl⟩:=Int.eq_ofNat_of_zero_le (show 0≤d by omega)
 refine (placement_any c A B n k m j ws ts d C D n2 k2 m2 j2 ws2 ts2 p1 p2 p3 p4 w Z1 zn zc Y1 yn yc Z Y hz hy hzn hyn hzb hyb hq).mono ?_
 rintro e w' ⟨B1,e1,B2,e2,B3,e3,B4,e4,rfl,r1,r2,r3,r4,hb⟩
 exact ⟨_,_,_,_,_,_,_,_,_,_,_,_,rfl,⟨r1,r2,r3,r4⟩,⟨by omega,by omega,by omega,by omega⟩,hb⟩
def RetPl (b:Bool) (q:Int) (xa xb ya yb:List Int) (w:World) (e:Ending) (w':World):Prop :=
 ∃ B1 m1 e1 B2 m2 e2 B3 m3 e3 B4 m4 e4,e=.returned (.tuple #[.agg #[.slice B1 m1 e1,.slice B2 m2 e2,.slice B3 m3 e3,.slice B4 m4 e4],.bool b,.int .i64 q])∧(RdI w' B1 m1 e1 xa∧RdI w' B2 m2 e2 xb∧RdI w' B3 m3 e3 ya∧RdI w' B4 m4 e4 yb)∧(m1≤17∧m2≤17∧m3≤17∧m4≤17)∧Below w.heap.size w w'
set_option maxRecDepth 100000 in
theorem Place_err (c:Int) (A B:Option Addr) (n k m j:Nat) (ws ts:List Bnd) (d:Int) (C D:Option Addr) (n2 k2 m2 j2:Nat) (ws2 ts2:List Bnd) (p1 p2 p3 p4:Int) (w:World) (h1:RdB w A n k ws) (h2:RdB w B m j ts) (hn:n≤maxLen) (hm:m≤maxLen) (h3:RdB w C n2 k2 ws2) (h4:RdB w D m2 j2 ts2) (hn2:n2≤maxLen) (hm2:m2≤maxLen) (q:Int) (hq:asked ⟨c,ws,ts⟩ ⟨d,ws2,ts2⟩ ⟨p1,p2,p3,p4⟩=q) (hne:q≠0) (hqe:(q != 0)=true):Calls Tryz.prog 11 #[.agg #[.int .i64 c,.slice A n k,.slice B m j],.agg #[.int .i64 d,.slice C n2 k2,.slice D m2 j2],.agg #[.int .i64 p1,.int .i64 p2,.int .i64 p3,.int .i64 p4]] w (RetPl false q [] [] [] [] w):=by
 unfold RetPl
 go_enter Tryz.func11,Tryz.ntmps11
 obtain ⟨a3,a4,a5,a0,a2⟩:=ent4 w #[.int .i64 c,.slice A n k,.slice B m j] 24 #[.int .i64 d,.slice C n2 k2,.slice D m2 j2] 24 #[.int .i64 p1,.int .i64 p2,.int .i64 p3,.int .i64 p4] 28 #[.slice none 0 0,.slice none 0 0,.slice none 0 0,.slice none 0 0] 36
 have a7:=rI h1 a2
 have a8:=rI h2 a2
 have a9:=rI h3 a2
 have b0:=rI h4 a2
 clear h1 h2 h3 h4
 obtain ⟨b7,b8,b9⟩:=at3 a3
 obtain ⟨c0,c1,c2⟩:=at3 a4
 obtain ⟨c3,c4,c5,c6⟩:=at4 a5
 obtain ⟨c7,c8,c9,d0⟩:=at4 a0
 have hc:=pairOf_no c A B n k m j ws ts d C D n2 k2 m2 j2 ws2 ts2 p1 p2 p3 p4 _ a7.out a8.out hn hm a9.out b0.out hn2 hm2 q hq hne
 have HC:=hid hc;clear hc
 go_wp2_with fail
 refine HC.out.mono ?_
 rintro e a6 ⟨rfl,hb⟩
 clear HC
 clear b7 b8 b9 c0 c1 c2 c3 c4 c5 c6 c7 c8 c9 d0
 have a1:=hid hb
 clear hb
 replace a3:=kH a3 a1
 obtain ⟨d1,d2,d3⟩:=at3 a3
 replace a4:=kH a4 a1
 obtain ⟨d4,d5,d6⟩:=at3 a4
 replace a5:=kH a5 a1
 obtain ⟨d7,d8,d9,e0⟩:=at4 a5
 replace a0:=kH a0 a1
 obtain ⟨e1,e2,e3,e4⟩:=at4 a0
 clear d1 d2 d3 d4 d5 d6 d7 d8 d9 e0 e1 e2 e3 e4
 obtain ⟨o_,ho_⟩:∃ o,o=((.cells #[.int .i64 0,.slice none 0 0,.slice none 0 0,.int .i64 0,.slice none 0 0,.slice none 0 0,.int .i64 0,.int .i64 0,.int .i64 0,.int .i64 0] 74):Obj):=⟨_,rfl⟩
 replace a2:=bA (bH a2 a1) o_
 replace a7:=rA (rH a7 a1) o_
 replace a8:=rA (rH a8 a1) o_
 replace a9:=rA (rH a9 a1) o_
 replace b0:=rA (rH b0 a1) o_
 replace a3:=kA a3 o_
 replace a4:=kA a4 o_
 replace a5:=kA a5 o_
 replace a0:=kA a0 o_
 subst ho_
 have b2:=hid (Blk.new a6 74 #[.int .i64 0,.slice none 0 0,.slice none 0 0,.int .i64 0,.slice none 0 0,.slice none 0 0,.int .i64 0,.int .i64 0,.int .i64 0,.int .i64 0])
 obtain ⟨e5,e6,e7⟩:=at3 a3
 obtain ⟨e8,e9,f0⟩:=at3 a4
 obtain ⟨f1,f2,f3,f4⟩:=at4 a5
 obtain ⟨f5,f6,f7,f8⟩:=at4 a0
 obtain ⟨f9,g0,g1,g2,g3,g4,g5,g6,g7,g8⟩:=at10 b2
 have b3:((a6.alloc (.cells #[.int .i64 0,.slice none 0 0,.slice none 0 0,.int .i64 0,.slice none 0 0,.slice none 0 0,.int .i64 0,.int .i64 0,.int .i64 0,.int .i64 0] 74))).frozen? ⟨w.heap.size+1+1+1,0,none⟩=false:=Blk.frozen a0.out 0
 have b4:((a6.alloc (.cells #[.int .i64 0,.slice none 0 0,.slice none 0 0,.int .i64 0,.slice none 0 0,.slice none 0 0,.int .i64 0,.int .i64 0,.int .i64 0,.int .i64 0] 74))).frozen? ⟨w.heap.size+1+1+1,1,none⟩=false:=Blk.frozen a0.out 1
 have b5:((a6.alloc (.cells #[.int .i64 0,.slice none 0 0,.slice none 0 0,.int .i64 0,.slice none 0 0,.slice none 0 0,.int .i64 0,.int .i64 0,.int .i64 0,.int .i64 0] 74))).frozen? ⟨w.heap.size+1+1+1,2,none⟩=false:=Blk.frozen a0.out 2
 have b6:((a6.alloc (.cells #[.int .i64 0,.slice none 0 0,.slice none 0 0,.int .i64 0,.slice none 0 0,.slice none 0 0,.int .i64 0,.int .i64 0,.int .i64 0,.int .i64 0] 74))).frozen? ⟨w.heap.size+1+1+1,3,none⟩=false:=Blk.frozen a0.out 3
 have hlb_:=Blk.lt a0.out
 have b1:=a2.out
 go_wp2
 refine bodyPost_ret (v:=.tuple #[.agg #[.slice none 0 0,.slice none 0 0,.slice none 0 0,.slice none 0 0],.bool false,.int .i64 q]) (by simp [results,Tryz.results11,go_sem,e5,e6,e7,e8,e9,f0,f1,f2,f3,f4,f5,f6,f7,f8,f9,g0,g1,g2,g3,g4,g5,g6,g7,g8,b3,b4,b5,b6]) rfl ?_
 exact ⟨none,0,0,none,0,0,none,0,0,none,0,0,rfl,⟨RdI.nil_ _,RdI.nil_ _,RdI.nil_ _,RdI.nil_ _⟩,⟨by omega,by omega,by omega,by omega⟩,(by have hsz_:=Below.size b1;repeat' (first|with_reducible exact b1|with_reducible exact Below.refl _ _|with_reducible refine Below.alloc ?_ ?_ _|with_reducible refine Below.setCell ?_ ?_ _|with_reducible refine Below.drew ?_|with_reducible refine below_setRow ?_ ?_ _|omega | (simp;done) | (simp;omega)))⟩
set_option maxRecDepth 100000 in
theorem Place_no (c:Int) (A B:Option Addr) (n k m j:Nat) (ws ts:List Bnd) (d:Int) (C D:Option Addr) (n2 k2 m2 j2:Nat) (ws2 ts2:List Bnd) (p1 p2 p3 p4:Int) (w:World) (h1:RdB w A n k ws) (h2:RdB w B m j ts) (hn:n≤maxLen) (hm:m≤maxLen) (h3:RdB w C n2 k2 ws2) (h4:RdB w D m2 j2 ts2) (hn2:n2≤maxLen) (hm2:m2≤maxLen) (hq:asked ⟨c,ws,ts⟩ ⟨d,ws2,ts2⟩ ⟨p1,p2,p3,p4⟩=0) (EM:Hid (meetsB ⟨c,ws,ts⟩ ⟨d,ws2,ts2⟩ ⟨p1,p2,p3,p4⟩=false)):Calls Tryz.prog 11 #[.agg #[.int .i64 c,.slice A n k,.slice B m j],.agg #[.int .i64 d,.slice C n2 k2,.slice D m2 j2],.agg #[.int .i64 p1,.int .i64 p2,.int .i64 p3,.int .i64 p4]] w (RetPl false 0 [] [] [] [] w):=by
 unfold RetPl
 go_enter Tryz.func11,Tryz.ntmps11
 obtain ⟨a4,a5,a6,a0,a2⟩:=ent4 w #[.int .i64 c,.slice A n k,.slice B m j] 24 #[.int .i64 d,.slice C n2 k2,.slice D m2 j2] 24 #[.int .i64 p1,.int .i64 p2,.int .i64 p3,.int .i64 p4] 28 #[.slice none 0 0,.slice none 0 0,.slice none 0 0,.slice none 0 0] 36
 have a7:=rI h1 a2
 have a8:=rI h2 a2
 have a9:=rI h3 a2
 have b0:=rI h4 a2
 clear h1 h2 h3 h4
 obtain ⟨b9,c0,c3⟩:=at3 a4
 obtain ⟨c4,c5,c6⟩:=at3 a5
 obtain ⟨c7,c8,c9,d0⟩:=at4 a6
 obtain ⟨d1,d2,d3,d4⟩:=at4 a0
 have HQ:=hid hq
 have hc:=pairOf_yes c A B n k m j ws ts d C D n2 k2 m2 j2 ws2 ts2 p1 p2 p3 p4 _ a7.out a8.out hn hm a9.out b0.out hn2 hm2 hq
 have HC:=hid hc;clear hc
 go_wp2_with fail
 refine HC.out.mono ?_
 rintro e d5 ⟨rfl,hb⟩
 clear HC
 clear b9 c0 c3 c4 c5 c6 c7 c8 c9 d0 d1 d2 d3 d4
 have a3:=hid hb
 clear hb
 replace a4:=kH a4 a3
 obtain ⟨d6,d7,d8⟩:=at3 a4
 replace a5:=kH a5 a3
 obtain ⟨d9,e0,e1⟩:=at3 a5
 replace a6:=kH a6 a3
 obtain ⟨e2,e3,e4,e5⟩:=at4 a6
 replace a0:=kH a0 a3
 obtain ⟨e6,e7,e8,e9⟩:=at4 a0
 clear d6 d7 d8 d9 e0 e1 e2 e3 e4 e5 e6 e7 e8 e9
 obtain ⟨o_,ho_⟩:∃ o,o=((.cells #[.int .i64 c,.slice A n k,.slice B m j,.int .i64 d,.slice C n2 k2,.slice D m2 j2,.int .i64 p1,.int .i64 p2,.int .i64 p3,.int .i64 p4] 74):Obj):=⟨_,rfl⟩
 replace a2:=bA (bH a2 a3) o_
 replace a7:=rA (rH a7 a3) o_
 replace a8:=rA (rH a8 a3) o_
 replace a9:=rA (rH a9 a3) o_
 replace b0:=rA (rH b0 a3) o_
 replace a4:=kA a4 o_
 replace a5:=kA a5 o_
 replace a6:=kA a6 o_
 replace a0:=kA a0 o_
 subst ho_
 have b1:=hid (Blk.new d5 74 #[.int .i64 c,.slice A n k,.slice B m j,.int .i64 d,.slice C n2 k2,.slice D m2 j2,.int .i64 p1,.int .i64 p2,.int .i64 p3,.int .i64 p4])
 obtain ⟨f0,f1,f2⟩:=at3 a4
 obtain ⟨f3,f4,f5⟩:=at3 a5
 obtain ⟨f6,f7,f8,f9⟩:=at4 a6
 obtain ⟨g0,g1,g2,g3⟩:=at4 a0
 obtain ⟨g4,g5,g6,g7,g8,g9,h0,h5,h6,h7⟩:=at10 b1
 clear hq
 have hc:=solutions_any c A B n k m j ws ts d C D n2 k2 m2 j2 ws2 ts2 p1 p2 p3 p4 _ a7.out a8.out hn hm a9.out b0.out hn2 hm2 HQ.out _ _ rfl rfl
 unfold RetM at hc
 rw [EM.out] at hc
 have hc:=hc
 have HC:=hid hc;clear hc
 go_wp2_with fail
 refine HC.out.mono ?_
 rintro e b2 ⟨A1,n1,c1,A2,n3,c2,rfl,hzy,hb⟩
 clear HC
 clear f0 f1 f2 f3 f4 f5 f6 f7 f8 f9 g0 g1 g2 g3 g4 g5 g6 g7 g8 g9 h0 h5 h6 h7
 have a1:=hid hb
 clear hb
 obtain ⟨o_,ho_⟩:∃ o,o=((.cells #[.slice A1 n1 c1,.slice A2 n3 c2] 77):Obj):=⟨_,rfl⟩
 replace a2:=bA (bH a2 a1) o_
 replace a7:=rA (rH a7 a1) o_
 replace a8:=rA (rH a8 a1) o_
 replace a9:=rA (rH a9 a1) o_
 replace b0:=rA (rH b0 a1) o_
 replace a4:=kA (kH a4 a1) o_
 replace a5:=kA (kH a5 a1) o_
 replace a6:=kA (kH a6 a1) o_
 replace a0:=kA (kH a0 a1) o_
 replace b1:=kA (kH b1 a1) o_
 subst ho_
 have b4:=hid (Blk.new b2 77 #[.slice A1 n1 c1,.slice A2 n3 c2])
 clear hzy
 obtain ⟨h8,h9,i0⟩:=at3 a4
 obtain ⟨i1,i2,i3⟩:=at3 a5
 obtain ⟨i4,i5,i6,i7⟩:=at4 a6
 obtain ⟨i8,i9,j0,j1⟩:=at4 a0
 obtain ⟨j3,j4,j5,j6,j7,j8,j9,k0,k1,k3⟩:=at10 b1
 obtain ⟨k4,k5⟩:=at2 b4
 have b5:((b2.alloc (.cells #[.slice A1 n1 c1,.slice A2 n3 c2] 77))).frozen? ⟨w.heap.size+1+1+1,0,none⟩=false:=Blk.frozen a0.out 0
 have b6:((b2.alloc (.cells #[.slice A1 n1 c1,.slice A2 n3 c2] 77))).frozen? ⟨w.heap.size+1+1+1,1,none⟩=false:=Blk.frozen a0.out 1
 have b7:((b2.alloc (.cells #[.slice A1 n1 c1,.slice A2 n3 c2] 77))).frozen? ⟨w.heap.size+1+1+1,2,none⟩=false:=Blk.frozen a0.out 2
 have b8:((b2.alloc (.cells #[.slice A1 n1 c1,.slice A2 n3 c2] 77))).frozen? ⟨w.heap.size+1+1+1,3,none⟩=false:=Blk.frozen a0.out 3
 have hlb_:=Blk.lt a0.out
 have b3:=a2.out
 go_wp2
 refine bodyPost_ret (v:=.tuple #[.agg #[.slice none 0 0,.slice none 0 0,.slice none 0 0,.slice none 0 0],.bool false,.int .i64 0]) (by simp [results,Tryz.results11,go_sem,h8,h9,i0,i1,i2,i3,i4,i5,i6,i7,i8,i9,j0,j1,j3,j4,j5,j6,j7,j8,j9,k0,k1,k3,k4,k5,b5,b6,b7,b8]) rfl ?_
 exact ⟨none,0,0,none,0,0,none,0,0,none,0,0,rfl,⟨RdI.nil_ _,RdI.nil_ _,RdI.nil_ _,RdI.nil_ _⟩,⟨by omega,by omega,by omega,by omega⟩,(by have hsz_:=Below.size b3;repeat' (first|with_reducible exact b3|with_reducible exact Below.refl _ _|with_reducible refine Below.alloc ?_ ?_ _|with_reducible refine Below.setCell ?_ ?_ _|with_reducible refine Below.drew ?_|with_reducible refine below_setRow ?_ ?_ _|omega | (simp;done) | (simp;omega)))⟩
set_option maxRecDepth 100000 in
theorem Place_yes (c:Int) (A B:Option Addr) (n k m j:Nat) (ws ts:List Bnd) (d:Int) (C D:Option Addr) (n2 k2 m2 j2:Nat) (ws2 ts2:List Bnd) (p1 p2 p3 p4:Int) (w:World) (h1:RdB w A n k ws) (h2:RdB w B m j ts) (hn:n≤maxLen) (hm:m≤maxLen) (h3:RdB w C n2 k2 ws2) (h4:RdB w D m2 j2 ts2) (hn2:n2≤maxLen) (hm2:m2≤maxLen) (hq:asked ⟨c,ws,ts⟩ ⟨d,ws2,ts2⟩ ⟨p1,p2,p3,p4⟩=0) (EM:Hid (meetsB ⟨c,ws,ts⟩ ⟨d,ws2,ts2⟩ ⟨p1,p2,p3,p4⟩=true)):Calls Tryz.prog 11 #[.agg #[.int .i64 c,.slice A n k,.slice B m j],.agg #[.int .i64 d,.slice C n2 k2,.slice D m2 j2],.agg #[.int .i64 p1,.int .i64 p2,.int .i64 p3,.int .i64 p4]] w (RetPl true 0 (mkA ⟨c,ws,ts⟩ (solveV (wayP ⟨c,ws,ts⟩ ⟨d,ws2,ts2⟩ ⟨p1,p2,p3,p4⟩) (wayL ⟨c,ws,ts⟩ ⟨d,ws2,ts2⟩ ⟨p1,p2,p3,p4⟩)).1) (mkB ⟨c,ws,ts⟩ ⟨d,ws2,ts2⟩ ⟨p1,p2,p3,p4⟩ (solveV (wayP ⟨c,ws,ts⟩ ⟨d,ws2,ts2⟩ ⟨p1,p2,p3,p4⟩) (wayL ⟨c,ws,ts⟩ ⟨d,ws2,ts2⟩ ⟨p1,p2,p3,p4⟩)).1) (mkC ⟨c,ws,ts⟩ (solveV (turnP ⟨c,ws,ts⟩ ⟨d,ws2,ts2⟩ ⟨p1,p2,p3,p4⟩) (turnL ⟨c,ws,ts⟩ ⟨d,ws2,ts2⟩ ⟨p1,p2,p3,p4⟩)).1) (mkD ⟨c,ws,ts⟩ ⟨d,ws2,ts2⟩ ⟨p1,p2,p3,p4⟩ (solveV (turnP ⟨c,ws,ts⟩ ⟨d,ws2,ts2⟩ ⟨p1,p2,p3,p4⟩) (turnL ⟨c,ws,ts⟩ ⟨d,ws2,ts2⟩ ⟨p1,p2,p3,p4⟩)).1) w):=by
 have hm:=EM.out
 unfold meetsB at hm
 rw [Bool.and_eq_true] at hm
 have SZ:=hid (solve_sol (wayL_chk hq) hm.1)
 have SY:=hid (solve_sol (turnL_chk hq) hm.2)
 clear hm
 unfold RetPl
 go_enter Tryz.func11,Tryz.ntmps11
 obtain ⟨a2,a3,a4,a0,a1⟩:=ent4 w #[.int .i64 c,.slice A n k,.slice B m j] 24 #[.int .i64 d,.slice C n2 k2,.slice D m2 j2] 24 #[.int .i64 p1,.int .i64 p2,.int .i64 p3,.int .i64 p4] 28 #[.slice none 0 0,.slice none 0 0,.slice none 0 0,.slice none 0 0] 36
 have a9:=rI h1 a1
 have b0:=rI h2 a1
 have b1:=rI h3 a1
 have b2:=rI h4 a1
 clear h1 h2 h3 h4
 obtain ⟨f8,f9,g0⟩:=at3 a2
 obtain ⟨g1,g2,g3⟩:=at3 a3
 obtain ⟨g4,g5,g6,g7⟩:=at4 a4
 obtain ⟨g8,g9,h0,h5⟩:=at4 a0
 have HQ:=hid hq
 have hc:=pairOf_yes c A B n k m j ws ts d C D n2 k2 m2 j2 ws2 ts2 p1 p2 p3 p4 _ a9.out b0.out hn hm b1.out b2.out hn2 hm2 hq
 have HC:=hid hc;clear hc
 go_wp2_with fail
 refine HC.out.mono ?_
 rintro e h6 ⟨rfl,hb⟩
 clear HC
 clear f8 f9 g0 g1 g2 g3 g4 g5 g6 g7 g8 g9 h0 h5
 have a6:=hid hb
 clear hb
 replace a2:=kH a2 a6
 obtain ⟨h7,h8,h9⟩:=at3 a2
 replace a3:=kH a3 a6
 obtain ⟨i0,i1,i2⟩:=at3 a3
 replace a4:=kH a4 a6
 obtain ⟨i3,i4,i5,i6⟩:=at4 a4
 replace a0:=kH a0 a6
 obtain ⟨i7,i8,i9,j0⟩:=at4 a0
 clear h7 h8 h9 i0 i1 i2 i3 i4 i5 i6 i7 i8 i9 j0
 obtain ⟨o_,ho_⟩:∃ o,o=((.cells #[.int .i64 c,.slice A n k,.slice B m j,.int .i64 d,.slice C n2 k2,.slice D m2 j2,.int .i64 p1,.int .i64 p2,.int .i64 p3,.int .i64 p4] 74):Obj):=⟨_,rfl⟩
 replace a1:=bA (bH a1 a6) o_
 replace a9:=rA (rH a9 a6) o_
 replace b0:=rA (rH b0 a6) o_
 replace b1:=rA (rH b1 a6) o_
 replace b2:=rA (rH b2 a6) o_
 replace a2:=kA a2 o_
 replace a3:=kA a3 o_
 replace a4:=kA a4 o_
 replace a0:=kA a0 o_
 subst ho_
 have a7:=hid (Blk.new h6 74 #[.int .i64 c,.slice A n k,.slice B m j,.int .i64 d,.slice C n2 k2,.slice D m2 j2,.int .i64 p1,.int .i64 p2,.int .i64 p3,.int .i64 p4])
 obtain ⟨j1,j3,j4⟩:=at3 a2
 obtain ⟨j5,j6,j7⟩:=at3 a3
 obtain ⟨j8,j9,k0,k1⟩:=at4 a4
 obtain ⟨k3,k4,k5,k6⟩:=at4 a0
 obtain ⟨k7,k8,k9,l0,l1,l2,l3,l4,l5,l6⟩:=at10 a7
 clear hq
 have hc:=solutions_any c A B n k m j ws ts d C D n2 k2 m2 j2 ws2 ts2 p1 p2 p3 p4 _ a9.out b0.out hn hm b1.out b2.out hn2 hm2 HQ.out _ _ rfl rfl
 unfold RetM at hc
 rw [EM.out] at hc
 have hc:=hc
 have HC:=hid hc;clear hc
 go_wp2_with fail
 refine HC.out.mono ?_
 rintro e l7 ⟨A1,n1,c1,A2,n3,c2,rfl,hzy,hb⟩
 clear HC
 clear j1 j3 j4 j5 j6 j7 j8 j9 k0 k1 k3 k4 k5 k6 k7 k8 k9 l0 l1 l2 l3 l4 l5 l6
 have a5:=hid hb
 clear hb
 obtain ⟨o_,ho_⟩:∃ o,o=((.cells #[.slice A1 n1 c1,.slice A2 n3 c2] 77):Obj):=⟨_,rfl⟩
 replace a1:=bA (bH a1 a5) o_
 replace a9:=rA (rH a9 a5) o_
 replace b0:=rA (rH b0 a5) o_
 replace b1:=rA (rH b1 a5) o_
 replace b2:=rA (rH b2 a5) o_
 replace a2:=kA (kH a2 a5) o_
 replace a3:=kA (kH a3 a5) o_
 replace a4:=kA (kH a4 a5) o_
 replace a0:=kA (kH a0 a5) o_
 replace a7:=kA (kH a7 a5) o_
 subst ho_
 have b3:=hid (Blk.new l7 77 #[.slice A1 n1 c1,.slice A2 n3 c2])
 obtain ⟨hz0,hy0⟩:=hzy (by trivial)
 clear hzy
 have b6:=hid (RdI.alloc hz0 (.cells #[.slice A1 n1 c1,.slice A2 n3 c2] 77))
 have b7:=hid (RdI.alloc hy0 (.cells #[.slice A1 n1 c1,.slice A2 n3 c2] 77))
 clear hz0 hy0
 obtain ⟨l8,l9,m0⟩:=at3 a2
 obtain ⟨m5,m6,m7⟩:=at3 a3
 obtain ⟨m8,m9,n0,n4⟩:=at4 a4
 obtain ⟨n5,n6,n7,n8⟩:=at4 a0
 obtain ⟨n9,o0,o1,o2,o3,o4,o5,o6,o7,o8⟩:=at10 a7
 obtain ⟨o9,p0⟩:=at2 b3
 have hc:=placement_q c A B n k m j ws ts d C D n2 k2 m2 j2 ws2 ts2 p1 p2 p3 p4 _ A1 n1 c1 A2 n3 c2 _ _ b6.out b7.out (by rw [← b6.out.len];exact SZ.out.1) (by rw [← b7.out.len];exact SY.out.1) (fun i=>by have:=SZ.out.2.2 i;omega) (fun i=>by have:=SY.out.2.2 i;omega) HQ.out
 have hc:=hc
 have HC:=hid hc;clear hc
 go_wp2_with fail
 refine HC.out.mono ?_
 rintro e b4 ⟨B1,m1,e1,B2,m2_,e2,B3,m3,e3,B4,m4,e4,rfl,⟨r1,r2,r3,r4⟩,ml,hb⟩
 clear HC
 clear l8 l9 m0 m5 m6 m7 m8 m9 n0 n4 n5 n6 n7 n8 n9 o0 o1 o2 o3 o4 o5 o6 o7 o8 o9 p0
 have a8:=hid hb
 clear hb
 have c6:=hid (r1)
 clear r1
 have c7:=hid (r2)
 clear r2
 have b8:=hid (r3)
 clear r3
 have b9:=hid (r4)
 clear r4
 replace a2:=kH a2 a8
 obtain ⟨c8,c9,d0⟩:=at3 a2
 replace a3:=kH a3 a8
 obtain ⟨d1,d2,d3⟩:=at3 a3
 replace a4:=kH a4 a8
 obtain ⟨d4,d5,d6,d7⟩:=at4 a4
 replace a0:=kH a0 a8
 obtain ⟨d8,d9,e0,e5⟩:=at4 a0
 replace a7:=kH a7 a8
 obtain ⟨e6,e7,e8,e9,f0,f1,f2,f3,f4,f5⟩:=at10 a7
 replace b3:=kH b3 a8
 obtain ⟨f6,f7⟩:=at2 b3
 have c0:(b4).frozen? ⟨w.heap.size+1+1+1,0,none⟩=false:=Blk.frozen a0.out 0
 have c3:(b4).frozen? ⟨w.heap.size+1+1+1,1,none⟩=false:=Blk.frozen a0.out 1
 have c4:(b4).frozen? ⟨w.heap.size+1+1+1,2,none⟩=false:=Blk.frozen a0.out 2
 have c5:(b4).frozen? ⟨w.heap.size+1+1+1,3,none⟩=false:=Blk.frozen a0.out 3
 have hlb_:=Blk.lt a0.out
 replace a1:=bH a1 a8
 have b5:=a1.out
 have kb:=a0.out
 have q1:=c6.out
 have q2:=c7.out
 have q3:=b8.out
 have q4:=b9.out
 have HK:=hid (And.intro kb (And.intro q1 (And.intro q2 (And.intro q3 q4))));clear kb q1 q2 q3 q4
 go_wp2
 obtain ⟨kb,q1,q2,q3,q4⟩:=HK.out
 refine bodyPost_ret (v:=.tuple #[.agg #[.slice B1 m1 e1,.slice B2 m2_ e2,.slice B3 m3 e3,.slice B4 m4 e4],.bool true,.int .i64 0]) (by simp [results,Tryz.results11,go_sem,c8,c9,d0,d1,d2,d3,d4,d5,d6,d7,d8,d9,e0,e5,e6,e7,e8,e9,f0,f1,f2,f3,f4,f5,f6,f7,c0,c3,c4,c5]) rfl ?_
 exact ⟨_,_,_,_,_,_,_,_,_,_,_,_,rfl,⟨rdI_setc (rdI_setc (rdI_setc (rdI_setc (q1) ⟨w.heap.size+1+1+1,0,none⟩ (.slice B1 m1 e1) (kb) (by simp)) ⟨w.heap.size+1+1+1,1,none⟩ (.slice B2 m2_ e2) (Blk.set_ (kb) 0 (.slice B1 m1 e1)) (by simp)) ⟨w.heap.size+1+1+1,2,none⟩ (.slice B3 m3 e3) (Blk.set_ (Blk.set_ (kb) 0 (.slice B1 m1 e1)) 1 (.slice B2 m2_ e2)) (by simp)) ⟨w.heap.size+1+1+1,3,none⟩ (.slice B4 m4 e4) (Blk.set_ (Blk.set_ (Blk.set_ (kb) 0 (.slice B1 m1 e1)) 1 (.slice B2 m2_ e2)) 2 (.slice B3 m3 e3)) (by simp),rdI_setc (rdI_setc (rdI_setc (rdI_setc (q2) ⟨w.heap.size+1+1+1,0,none⟩ (.slice B1 m1 e1) (kb) (by simp)) ⟨w.heap.size+1+1+1,1,none⟩ (.slice B2 m2_ e2) (Blk.set_ (kb) 0 (.slice B1 m1 e1)) (by simp)) ⟨w.heap.size+1+1+1,2,none⟩ (.slice B3 m3 e3) (Blk.set_ (Blk.set_ (kb) 0 (.slice B1 m1 e1)) 1 (.slice B2 m2_ e2)) (by simp)) ⟨w.heap.size+1+1+1,3,none⟩ (.slice B4 m4 e4) (Blk.set_ (Blk.set_ (Blk.set_ (kb) 0 (.slice B1 m1 e1)) 1 (.slice B2 m2_ e2)) 2 (.slice B3 m3 e3)) (by simp),rdI_setc (rdI_setc (rdI_setc (rdI_setc (q3) ⟨w.heap.size+1+1+1,0,none⟩ (.slice B1 m1 e1) (kb) (by simp)) ⟨w.heap.size+1+1+1,1,none⟩ (.slice B2 m2_ e2) (Blk.set_ (kb) 0 (.slice B1 m1 e1)) (by simp)) ⟨w.heap.size+1+1+1,2,none⟩ (.slice B3 m3 e3) (Blk.set_ (Blk.set_ (kb) 0 (.slice B1 m1 e1)) 1 (.slice B2 m2_ e2)) (by simp)) ⟨w.heap.size+1+1+1,3,none⟩ (.slice B4 m4 e4) (Blk.set_ (Blk.set_ (Blk.set_ (kb) 0 (.slice B1 m1 e1)) 1 (.slice B2 m2_ e2)) 2 (.slice B3 m3 e3)) (by simp),rdI_setc (rdI_setc (rdI_setc (rdI_setc (q4) ⟨w.heap.size+1+1+1,0,none⟩ (.slice B1 m1 e1) (kb) (by simp)) ⟨w.heap.size+1+1+1,1,none⟩ (.slice B2 m2_ e2) (Blk.set_ (kb) 0 (.slice B1 m1 e1)) (by simp)) ⟨w.heap.size+1+1+1,2,none⟩ (.slice B3 m3 e3) (Blk.set_ (Blk.set_ (kb) 0 (.slice B1 m1 e1)) 1 (.slice B2 m2_ e2)) (by simp)) ⟨w.heap.size+1+1+1,3,none⟩ (.slice B4 m4 e4) (Blk.set_ (Blk.set_ (Blk.set_ (kb) 0 (.slice B1 m1 e1)) 1 (.slice B2 m2_ e2)) 2 (.slice B3 m3 e3)) (by simp)⟩,ml,(by have hsz_:=Below.size b5;repeat' (first|with_reducible exact b5|with_reducible exact Below.refl _ _|with_reducible refine Below.alloc ?_ ?_ _|with_reducible refine Below.setCell ?_ ?_ _|with_reducible refine Below.drew ?_|with_reducible refine below_setRow ?_ ?_ _|omega | (simp;done) | (simp;omega)))⟩
end Go.Proofs.YtjjmifcjailpaaaGreat
