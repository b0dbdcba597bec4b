import Derived.Laws.AppendOwnNone
import Derived.Shelf.Slices.Cells
import Derived.Shelf.Slices.Clone
import Derived.Shelf.Slices.In.SortNone
import Derived.Shelf.SlicesE.Clone
import Derived.Shelf.Sort.Plain
import Derived.Shelf.Spec.SlicesGrow
import Derived.Sort.OwnSortedInts
import Derived.Test.YtokpblmgdmokoaaGreatAVAny
import Derived.Test.YtokpblmgdmokoaaGreatAVDem
import Derived.Test.YtokpblmgdmokoaaGreatAVIsw
import Derived.Test.YtokpblmgdmokoaaGreatAVShw
import Derived.Test.YtokpblmgdmokoaaGreatCVRc
import Derived.Test.YtokpblmgdmokoaaGreatCVRd
set_option maxHeartbeats 4000000
set_option linter.unusedSimpArgs false
set_option linter.unusedVariables false
namespace Go.Proofs.YtokpblmgdmokoaaGreat
open Go.Lib (hid)
theorem apB_comm (p q:Prt):apB p q=apB q p:=by
 unfold apB
 cases p.ft<;>cases q.ft<;>simp [Bool.or_comm]
theorem clB_comm (ps:List Prt) (x y:Int):clB ps x y=clB ps y x:=by
 unfold clB
 rw [apB_comm,show decide (x≠y)=decide (y≠x) from decide_eq_decide.2 ⟨Ne.symm,Ne.symm⟩]
theorem anyN_false {f:Int→Int→Bool} {l:List Int}:anyN f l l.length=false ↔ ∀ i j,i<l.length→j<i→f (l.getD i 0) (l.getD j 0)=false:=by
 constructor
 · intro h i j hi hj
   cases hf:f (l.getD i 0) (l.getD j 0)
   · rfl
   · rw [anyN_hit hi hj hf] at h;exact h
 · intro h
   unfold anyN
   rw [List.any_eq_false]
   intro i hi
   unfold rowN
   rw [Bool.not_eq_true,List.any_eq_false]
   intro j hj
   rw [Bool.not_eq_true]
   exact h i j (List.mem_range.1 hi) (List.mem_range.1 hj)
open Go.RowKit
theorem demF_snoc (ps:List Prt) (p:Prt) (c d:Int):demF (ps++[p]) c d=demF ps c d+(if (p.ft&&liesB p.lo p.hi c d)=true then 1 else 0):=by
 unfold demF;rw [List.countP_append,List.countP_singleton]
theorem demA_snoc (ps:List Prt) (p:Prt) (c d:Int):demA (ps++[p]) c d=(demA ps c d || liesB p.lo p.hi c d):=by
 unfold demA;rw [List.any_append];simp
set_option maxRecDepth 100000 in
theorem xdemand_any (A:Option Addr) (n k:Nat) (ps:List Prt) (c d:Int) (w:World) (hr:RdP w A n k ps) (hn:n≤maxLen):Calls Tryz.prog 91 #[.slice A n k,.agg #[.int .i64 c,.int .i64 d]] w fun e w'=>e=.returned (.int .i64 (demV ps c d))∧Below w.heap.size w w':=by
 have hn2:=hn;unfold maxLen at hn2
 have HR:=hid hr;clear hr
 go_enter Tryz.func91,Tryz.ntmps91
 obtain ⟨a5,a6⟩:=ent1 w #[.int .i64 c,.int .i64 d] 41
 obtain ⟨b7,b8⟩:=at2 a5
 go_wp2
 clear b7 b8
 go_loopw [5,6,7] (fun f y i wr=>∃ (q F:Nat) (Y:Int),q≤n∧f=.int .i64 (F:Int)∧y=.int .i64 Y∧i=.int .i64 q∧demF (ps.take q) c d=F∧(if demA (ps.take q) c d then (1:Int) else 0)=Y∧Blk wr w.heap.size 41 #[.int .i64 c,.int .i64 d]∧Below w.heap.size w wr) (fun _ _ i _=>n-(intOf i).toNat)
 case atStart=>exact ⟨0,0,0,Nat.zero_le _,rfl,rfl,rfl,rfl,rfl,a5.out,a6.out⟩
 case round =>
  clear a6 a5
  obtain ⟨q,F,Y,hq,rfl,rfl,rfl,hF,hY,hbs,hbe⟩:=hrel
  have hFq:F≤q:=by rw [← hF];have:=List.countP_le_length (p:=fun p:Prt=>p.ft&&liesB p.lo p.hi c d) (l:=ps.take q);rw [List.length_take] at this;unfold demF;omega
  have HF:=hid hF;have HY:=hid hY;clear hF hY
  have a1:=hid (hbs)
  have a0:=hid (hbe)
  clear hbs hbe
  by_cases hlt:q<n
  · have hlt':(q:Int)<n:=by omega
    obtain ⟨b,o,p,x,rfl,hbw,hx,-,-,g1,g2,-,-,g5,-,-⟩:=RdP.get HR.out hlt
    have HBW:=hid hbw;have G1:=hid g1;have G2:=hid g2;clear hbw g1 g2
    have HTK:=hid (show ps.take (q+1)=ps.take q++[p] by rw [List.take_add_one,hx];rfl);clear hx
    obtain ⟨ft,hft⟩:∃ f,p.ft=f:=⟨_,rfl⟩
    rw [hft] at g5
    have HFT:=hid hft;have G5:=hid g5;clear hft g5
    go_wp2
    by_cases h1:c≤p.lo
    · by_cases h2:p.hi≤d
      · have HLS:=hid (show liesB p.lo p.hi c d=true by unfold liesB;rw [decide_eq_true h1,decide_eq_true h2];rfl)
        have k1:decide (c≤p.lo)=true:=decide_eq_true h1;have k2:decide (p.hi≤d)=true:=decide_eq_true h2
        replace a1:=kD a1
        replace a0:=bD a0
        refine wp_region_held_drew (S:=(fun W'=>Blk W' (w.heap.size) 41 #[.int .i64 c,.int .i64 d]∧Below w.heap.size w W')) (by kernel_rfl) ⟨a1.out,a0.out⟩ (fun _=>?_)
        obtain ⟨b9,a2⟩:∃ w',w'=(wr.drew):=⟨_,rfl⟩
        rw [← a2] at a1 a0
        rw [← a2]
        clear a2
        refine' twH 0 ⟨a1.out,a0.out⟩ ?_
        refine' twH 1 ⟨a1.out,a0.out⟩ ?_
        refine' twH 2 ⟨a1.out,a0.out⟩ ?_
        refine' twH 3 ⟨a1.out,a0.out⟩ ?_
        try simp only [pq]
        refine' twH 4 ⟨a1.out,a0.out⟩ ?_
        refine' tkH 5 ⟨a1.out,a0.out⟩ ?a7 ?_
        case a7=>(rintro W' ⟨hS0,hS1⟩;have hc0:=(Below.cell hS1 (p:=⟨b,_,none⟩) HBW.out).trans G1.out;clear hS0 hS1;go_simp;try with_reducible rfl)
        refine' twH 6 ⟨a1.out,a0.out⟩ ?_
        refine' tkH 7 ⟨a1.out,a0.out⟩ ?a8 ?_
        case a8=>(rintro W' ⟨hS0,hS1⟩;have hc0:=Blk.nth hS0 0;clear hS0 hS1;go_simp;try with_reducible rfl)
        try simp only [pq]
        refine' twH 8 ⟨a1.out,a0.out⟩ ?_
        refine' twH 9 ⟨a1.out,a0.out⟩ ?_
        refine' twH 10 ⟨a1.out,a0.out⟩ ?_
        refine' twH 11 ⟨a1.out,a0.out⟩ ?_
        try simp only [pq]
        refine' twH 12 ⟨a1.out,a0.out⟩ ?_
        refine' twH 13 ⟨a1.out,a0.out⟩ ?_
        refine' twH 14 ⟨a1.out,a0.out⟩ ?_
        refine' tkH 15 ⟨a1.out,a0.out⟩ ?a9 ?_
        case a9=>(rintro W' ⟨hS0,hS1⟩;have hc0:=(Below.cell hS1 (p:=⟨b,_,none⟩) HBW.out).trans G2.out;clear hS0 hS1;go_simp;try with_reducible rfl)
        try simp only [pq]
        refine' twH 16 ⟨a1.out,a0.out⟩ ?_
        refine' tkH 17 ⟨a1.out,a0.out⟩ ?b0 ?_
        case b0=>(rintro W' ⟨hS0,hS1⟩;have hc0:=Blk.nth hS0 1;clear hS0 hS1;go_simp;try with_reducible rfl)
        refine' twH 18 ⟨a1.out,a0.out⟩ ?_
        refine' twH 19 ⟨a1.out,a0.out⟩ ?_
        try simp only [pq]
        refine wpAnyH_done (by kernel_rfl) ?_ _
        have c5:=(Below.cell a0.out (p:=⟨b,_,none⟩) HBW.out).trans G5.out
        have hnn:=hn2
        cases ft
        · go_wp2
          clear c5
          go_roundw
          case rel=>exact ⟨q+1,F,1,by omega,by go_num,rfl,by go_num,by rw [HTK.out,demF_snoc,HF.out,HFT.out,HLS.out];simp,by rw [HTK.out,demA_snoc,HLS.out];simp,a1.out,a0.out⟩
          case measure=>simp [intOf];omega
        · go_wp2
          clear c5
          go_roundw
          case rel=>exact ⟨q+1,F+1,1,by omega,by go_num,rfl,by go_num,by rw [HTK.out,demF_snoc,HF.out,HFT.out,HLS.out];simp,by rw [HTK.out,demA_snoc,HLS.out];simp,a1.out,a0.out⟩
          case measure=>simp [intOf];omega
      · have HLS:=hid (show liesB p.lo p.hi c d=false by unfold liesB;rw [decide_eq_false h2,Bool.and_false])
        have k1:decide (c≤p.lo)=true:=decide_eq_true h1;have k2:decide (p.hi≤d)=false:=decide_eq_false h2
        replace a1:=kD a1
        replace a0:=bD a0
        refine wp_region_held_drew (S:=(fun W'=>Blk W' (w.heap.size) 41 #[.int .i64 c,.int .i64 d]∧Below w.heap.size w W')) (by kernel_rfl) ⟨a1.out,a0.out⟩ (fun _=>?_)
        obtain ⟨c0,a3⟩:∃ w',w'=(wr.drew):=⟨_,rfl⟩
        rw [← a3] at a1 a0
        rw [← a3]
        clear a3
        refine' twH 0 ⟨a1.out,a0.out⟩ ?_
        refine' twH 1 ⟨a1.out,a0.out⟩ ?_
        refine' twH 2 ⟨a1.out,a0.out⟩ ?_
        refine' twH 3 ⟨a1.out,a0.out⟩ ?_
        try simp only [pq]
        refine' twH 4 ⟨a1.out,a0.out⟩ ?_
        refine' tkH 5 ⟨a1.out,a0.out⟩ ?b1 ?_
        case b1=>(rintro W' ⟨hS0,hS1⟩;have hc0:=(Below.cell hS1 (p:=⟨b,_,none⟩) HBW.out).trans G1.out;clear hS0 hS1;go_simp;try with_reducible rfl)
        refine' twH 6 ⟨a1.out,a0.out⟩ ?_
        refine' tkH 7 ⟨a1.out,a0.out⟩ ?b2 ?_
        case b2=>(rintro W' ⟨hS0,hS1⟩;have hc0:=Blk.nth hS0 0;clear hS0 hS1;go_simp;try with_reducible rfl)
        try simp only [pq]
        refine' twH 8 ⟨a1.out,a0.out⟩ ?_
        refine' twH 9 ⟨a1.out,a0.out⟩ ?_
        refine' twH 10 ⟨a1.out,a0.out⟩ ?_
        refine' twH 11 ⟨a1.out,a0.out⟩ ?_
        try simp only [pq]
        refine' twH 12 ⟨a1.out,a0.out⟩ ?_
        refine' twH 13 ⟨a1.out,a0.out⟩ ?_
        refine' twH 14 ⟨a1.out,a0.out⟩ ?_
        refine' tkH 15 ⟨a1.out,a0.out⟩ ?b3 ?_
        case b3=>(rintro W' ⟨hS0,hS1⟩;have hc0:=(Below.cell hS1 (p:=⟨b,_,none⟩) HBW.out).trans G2.out;clear hS0 hS1;go_simp;try with_reducible rfl)
        try simp only [pq]
        refine' twH 16 ⟨a1.out,a0.out⟩ ?_
        refine' tkH 17 ⟨a1.out,a0.out⟩ ?b4 ?_
        case b4=>(rintro W' ⟨hS0,hS1⟩;have hc0:=Blk.nth hS0 1;clear hS0 hS1;go_simp;try with_reducible rfl)
        refine' twH 18 ⟨a1.out,a0.out⟩ ?_
        refine' twH 19 ⟨a1.out,a0.out⟩ ?_
        try simp only [pq]
        refine wpAnyH_done (by kernel_rfl) ?_ _
        go_wp2
        go_roundw
        case rel=>exact ⟨q+1,F,Y,by omega,by go_num,rfl,by go_num,by rw [HTK.out,demF_snoc,HF.out,HFT.out,HLS.out];simp,by rw [HTK.out,demA_snoc,HLS.out];rw [Bool.or_false,HY.out],a1.out,a0.out⟩
        case measure=>simp [intOf];omega
    · have HLS:=hid (show liesB p.lo p.hi c d=false by unfold liesB;rw [decide_eq_false h1,Bool.false_and])
      have k1:decide (c≤p.lo)=false:=decide_eq_false h1
      replace a1:=kD a1
      replace a0:=bD a0
      refine wp_region_held_drew (S:=(fun W'=>Blk W' (w.heap.size) 41 #[.int .i64 c,.int .i64 d]∧Below w.heap.size w W')) (by kernel_rfl) ⟨a1.out,a0.out⟩ (fun _=>?_)
      obtain ⟨c1,a4⟩:∃ w',w'=(wr.drew):=⟨_,rfl⟩
      rw [← a4] at a1 a0
      rw [← a4]
      clear a4
      refine' twH 0 ⟨a1.out,a0.out⟩ ?_
      refine' twH 1 ⟨a1.out,a0.out⟩ ?_
      refine' twH 2 ⟨a1.out,a0.out⟩ ?_
      refine' twH 3 ⟨a1.out,a0.out⟩ ?_
      try simp only [pq]
      refine' twH 4 ⟨a1.out,a0.out⟩ ?_
      refine' tkH 5 ⟨a1.out,a0.out⟩ ?b5 ?_
      case b5=>(rintro W' ⟨hS0,hS1⟩;have hc0:=(Below.cell hS1 (p:=⟨b,_,none⟩) HBW.out).trans G1.out;clear hS0 hS1;go_simp;try with_reducible rfl)
      refine' twH 6 ⟨a1.out,a0.out⟩ ?_
      refine' tkH 7 ⟨a1.out,a0.out⟩ ?b6 ?_
      case b6=>(rintro W' ⟨hS0,hS1⟩;have hc0:=Blk.nth hS0 0;clear hS0 hS1;go_simp;try with_reducible rfl)
      try simp only [pq]
      refine' twH 8 ⟨a1.out,a0.out⟩ ?_
      refine' twH 9 ⟨a1.out,a0.out⟩ ?_
      refine' tkNH 10 ⟨a1.out,a0.out⟩ ?_
      refine' tkNH 11 ⟨a1.out,a0.out⟩ ?_
      try simp only [pq]
      refine' tkNH 12 ⟨a1.out,a0.out⟩ ?_
      refine' tkNH 13 ⟨a1.out,a0.out⟩ ?_
      refine' tkNH 14 ⟨a1.out,a0.out⟩ ?_
      refine' tkNH 15 ⟨a1.out,a0.out⟩ ?_
      try simp only [pq]
      refine' tkNH 16 ⟨a1.out,a0.out⟩ ?_
      refine' tkNH 17 ⟨a1.out,a0.out⟩ ?_
      refine' tkNH 18 ⟨a1.out,a0.out⟩ ?_
      refine' twH 19 ⟨a1.out,a0.out⟩ ?_
      try simp only [pq]
      refine wpAnyH_done (by kernel_rfl) ?_ _
      go_wp2
      go_roundw
      case rel=>exact ⟨q+1,F,Y,by omega,by go_num,rfl,by go_num,by rw [HTK.out,demF_snoc,HF.out,HFT.out,HLS.out];simp,by rw [HTK.out,demA_snoc,HLS.out];rw [Bool.or_false,HY.out],a1.out,a0.out⟩
      case measure=>simp [intOf];omega
  · obtain rfl:n=q:=by omega
    have hps:ps.take n=ps:=List.take_of_length_le (by have:=HR.out.len;omega)
    have HV:=hid (show demV ps c d=max (F:Int) Y by have h1:=HF.out;have h2:=HY.out;rw [hps] at h1 h2;unfold demV;rw [h1,h2]);clear hps
    obtain ⟨c2,c3⟩:=at2 a1
    by_cases hfy:(F:Int)<Y
    · go_wp2
      go_ret
      exact ⟨ret_int (by have:=HV.out;omega),a0.out⟩
    · go_wp2
      go_ret
      exact ⟨ret_int (by have:=HV.out;omega),a0.out⟩
set_option maxRecDepth 100000 in
theorem xDemand_no (ware:ByteArray) (lim by_:Int) (A:Option Addr) (n k:Nat) (ps:List Prt) (c d:Int) (w:World) (hr:RdP w A n k ps) (hn:n≤maxLen) (q:Int) (hq:chkC ⟨ware,lim,by_,ps⟩=q) (hne:q≠0):Calls Tryz.prog 37 #[.agg #[.string ware,.int .i64 lim,.int .i64 by_,.slice A n k],.agg #[.int .i64 c,.int .i64 d]] w fun e w'=>e=.returned (.tuple #[.int .i64 0,.int .i64 q])∧Below w.heap.size w w':=by
 have HQ:=hid hq;clear hq
 go_enter Tryz.func37,Tryz.ntmps37
 obtain ⟨a1,a2,a0⟩:=ent2 w #[.string ware,.int .i64 lim,.int .i64 by_,.slice A n k] 24 #[.int .i64 c,.int .i64 d] 41
 have a4:=hid (RdP.below (hr) a0.out)
 clear hr
 obtain ⟨a6,a7,a8,a9⟩:=at4 a1
 obtain ⟨b0,a5⟩:=at2 a2
 have hc:=xchk_is ware lim by_ A n k ps (((w.alloc (.cells #[.string ware,.int .i64 lim,.int .i64 by_,.slice A n k] 24)).alloc (.cells #[.int .i64 c,.int .i64 d] 41))) a4.out hn q HQ.out
 have HC:=hid hc;clear hc
 go_wp2_with fail
 refine HC.out.mono ?_
 rintro e b1 ⟨rfl,hb⟩
 clear HC
 clear a6 a7 a8 a9 b0 a5
 have a3:=hid hb
 clear hb
 replace a1:=kH a1 a3
 obtain ⟨b2,b3,b4,b5⟩:=at4 a1
 replace a2:=kH a2 a3
 obtain ⟨b6,b7⟩:=at2 a2
 go_wp2
 go_ret2
 replace a0:=bH a0 a3
 exact ⟨rfl,a0.out⟩
set_option maxRecDepth 100000 in
theorem xDemand_yes (ware:ByteArray) (lim by_:Int) (A:Option Addr) (n k:Nat) (ps:List Prt) (c d:Int) (w:World) (hr:RdP w A n k ps) (hn:n≤maxLen) (hq:chkC ⟨ware,lim,by_,ps⟩=0):Calls Tryz.prog 37 #[.agg #[.string ware,.int .i64 lim,.int .i64 by_,.slice A n k],.agg #[.int .i64 c,.int .i64 d]] w fun e w'=>e=.returned (.tuple #[.int .i64 (demV ps c d),.int .i64 0])∧Below w.heap.size w w':=by
 have HQ:=hid hq;clear hq
 go_enter Tryz.func37,Tryz.ntmps37
 obtain ⟨a0,a1,a2⟩:=ent2 w #[.string ware,.int .i64 lim,.int .i64 by_,.slice A n k] 24 #[.int .i64 c,.int .i64 d] 41
 have a4:=hid (RdP.below (hr) a2.out)
 clear hr
 obtain ⟨b4,b5,b6,b7⟩:=at4 a0
 obtain ⟨b8,a6⟩:=at2 a1
 have hc:=xchk_is ware lim by_ A n k ps (((w.alloc (.cells #[.string ware,.int .i64 lim,.int .i64 by_,.slice A n k] 24)).alloc (.cells #[.int .i64 c,.int .i64 d] 41))) a4.out hn 0 HQ.out
 have HC:=hid hc;clear hc
 go_wp2_with fail
 refine HC.out.mono ?_
 rintro e a7 ⟨rfl,hb⟩
 clear HC
 clear b4 b5 b6 b7 b8 a6
 have a3:=hid hb
 clear hb
 replace a0:=kH a0 a3
 obtain ⟨a8,a9,b0,b1⟩:=at4 a0
 replace a1:=kH a1 a3
 obtain ⟨b2,b3⟩:=at2 a1
 replace a4:=hid (RdP.below (a4.out) a3.out)
 have hc:=xdemand_any A n k ps c d (a7) a4.out hn
 have HC:=hid hc;clear hc
 go_wp2_with fail
 refine HC.out.mono ?_
 rintro e b9 ⟨rfl,hb⟩
 clear HC
 clear a8 a9 b0 b1 b2 b3
 have a5:=hid hb
 clear hb
 replace a0:=kH a0 a5
 obtain ⟨c0,c1,c2,c3⟩:=at4 a0
 replace a1:=kH a1 a5
 obtain ⟨c4,c5⟩:=at2 a1
 go_wp2
 go_ret2
 replace a2:=bH (bH a2 a3) a5
 exact ⟨rfl,a2.out⟩
def AllCl (ps:List Prt) (l:List Int):Prop:=∀ (i j:Nat) (x y:Int),j<i→l[i]?=some x→l[j]?=some y→clB ps y x=true
theorem allCl_zero {ps:List Prt} {l:List Int}:AllCl ps (l.take 0):=by intro i j x y _ h;simp at h
theorem allCl_snoc {ps:List Prt} {l:List Int} {v:Int} (h:AllCl ps l) (hv:∀ z∈l,clB ps z v=true):AllCl ps (l++[v]):=by
 intro i j x y hji hx hy
 obtain ⟨hi,rfl⟩:=List.getElem?_eq_some_iff.1 hx
 obtain ⟨hj,rfl⟩:=List.getElem?_eq_some_iff.1 hy
 simp only [List.length_append,List.length_singleton] at hi hj
 have hjl:j<l.length:=by omega
 rw [List.getElem_append_left hjl]
 by_cases hil:i<l.length
 · rw [List.getElem_append_left hil]
   exact h i j _ _ hji (List.getElem?_eq_getElem hil) (List.getElem?_eq_getElem hjl)
 · obtain rfl:i=l.length:=by omega
   rw [List.getElem_concat_length rfl]
   exact hv _ (List.getElem_mem _)
theorem wit_no {v:Bool} {P:Prop} (hv:v=true ↔ P) (h:¬ P):v=false:=by
 cases v
 · rfl
 · exact absurd (hv.1 rfl) h
set_option maxRecDepth 100000 in
theorem xwit_any (A:Option Addr) (n k:Nat) (ps:List Prt) (B:Option Addr) (m d:Nat) (l:List Int) (w:World) (hr:RdP w A n k ps) (hl:RdI w B m d l) (hn:n≤maxLen) (hm:m≤maxLen) (v:Bool) (hv:v=true ↔ (ascN l 0 ((n:Int)-1)=true∧AllCl ps l)):Calls Tryz.prog 93 #[.slice A n k,.slice B m d] w fun e w'=>e=.returned (.bool v)∧Below w.heap.size w w':=by
 obtain ⟨A0,hA0⟩:∃ X,X=A:=⟨_,rfl⟩
 subst hA0
 have hn2:=hn;have hm2:=hm;unfold maxLen at hn2 hm2
 have HR:=hid hr;have HL:=hid hl;have HVV:=hid hv;clear hr hl hv
 obtain ⟨asc,hasc⟩:∃ q,ascN l 0 ((n:Int)-1)=q:=⟨_,rfl⟩
 have HA0:=hid hasc
 have HA:=hid (show ascN (l.drop 0) 0 ((n:Int)-1)=asc from hasc);clear hasc
 go_enter Tryz.func93,Tryz.ntmps93
 have b1:=hid (show Below w.heap.size w w from Below.refl _ w)
 go_wp2
 go_loopw [5] (fun i wr=>∃ (q:Nat) (zz:Int),q≤m∧i=.int .i64 q∧ascN (l.drop q) zz ((n:Int)-1)=asc∧((q=0∧zz=0)∨∃ (j:Nat) (u:Int),q=j+1∧l[j]?=some u∧zz=u+1∧0≤u)∧AllCl ps (l.take q)∧(∀ x∈l.take q,∃ a:Nat,x=a∧a<n)∧Below w.heap.size w wr) (fun i _=>m-(intOf i).toNat)
 case atStart=>exact ⟨0,0,Nat.zero_le _,rfl,HA.out,.inl ⟨rfl,rfl⟩,allCl_zero,by simp,b1.out⟩
 case round =>
  clear b1
  obtain ⟨q,zz,hq,rfl,ha,hz,hcl,hin,hbe⟩:=hrel
  have HB:=hid ha;have HZ:=hid hz;have HCL:=hid hcl;have HIN:=hid hin;clear ha hz hcl hin
  obtain ⟨wa,rfl⟩:∃ v,v=wr:=⟨wr,rfl⟩
  have a0:=hid (hbe)
  clear hbe
  by_cases hlt:q<m
  · have hlt':(q:Int)<m:=by omega
    have hnw:IntKind.i64.wrap ((n:Int)-1)=(n:Int)-1:=IntWalk.i64_in _ (by omega)
    obtain ⟨b,o,v,hA,hbw,hx,e0⟩:=RdI.get HL.out hlt
    subst hA
    have HE:=hid e0;have HBB:=hid hbw;have HX:=hid hx;clear e0 hbw hx
    have HS:=hid (ascN_step (z:=zz) (hi:=(n:Int)-1) HX.out)
    cases hin:inR v 0 ((n:Int)-1)
    · have HI:=hid hin;clear hin
      have HN:=hid (show asc=false by rw [← HB.out,HS.out];have h1:=HI.out;have h2:=HZ.out;have h3:inR v zz ((n:Int)-1)=false:=(by unfold inR at h1 ⊢;simp only [Bool.and_eq_false_iff,decide_eq_false_iff_not] at h1 ⊢;rcases h2 with ⟨-,rfl⟩|⟨j,u,-,-,rfl,hu⟩<;>omega);rw [h3];rfl)
      go_wp2
      replace a0:=bD a0
      refine wp_region_held_drew (S:=(fun W'=>Below w.heap.size w W')) (by kernel_rfl) a0.out (fun _=>?_)
      obtain ⟨c6,a2⟩:∃ w',w'=(wa.drew):=⟨_,rfl⟩
      rw [← a2] at a0
      rw [← a2]
      clear a2
      refine' twH 0 a0.out ?_
      refine' twH 1 a0.out ?_
      refine' twH 2 a0.out ?_
      refine' tkH 3 a0.out ?b3 ?_
      case b3=>(rintro W' hS0;have hc0:=(Below.cell hS0 (p:=⟨b,_,none⟩) HBB.out).trans HE.out;clear hS0;go_simp;try with_reducible rfl)
      try simp only [pq]
      refine' twH 4 a0.out ?_
      try simp only [pq]
      refine oneH 5 rfl fun K hK=>?_
      go_simp
      refine hK.out _ _ a0.out (fun _=>?_);clear hK K
      try simp only [pq]
      refine' twH 6 a0.out ?_
      try simp only [pq]
      refine oneH 7 rfl fun K hK=>?_
      go_simp
      go_at_call 78
      refine (xwithin_is v 0 ((n:Int)-1) _ HI.out (c6)).mono ?_
      rintro e d2 ⟨rfl,rfl⟩
      dsimp only
      refine hK.out _ _ a0.out (fun _=>?_);clear hK K
      try simp only [pq]
      refine' twH 8 a0.out ?_
      refine' twH 9 a0.out ?_
      refine' tkNH 10 a0.out ?_
      refine' tkNH 11 a0.out ?_
      try simp only [pq]
      refine' tkNH 12 a0.out ?_
      refine' tkNH 13 a0.out ?_
      refine' tkNH 14 a0.out ?_
      refine' tkNH 15 a0.out ?_
      try simp only [pq]
      refine' tkNH 16 a0.out ?_
      refine' tkNH 17 a0.out ?_
      refine' tkNH 18 a0.out ?_
      refine' tkNH 19 a0.out ?_
      try simp only [pq]
      refine' tkNH 20 a0.out ?_
      refine' tkNH 21 a0.out ?_
      refine' tkNH 22 a0.out ?_
      refine' tkNH 23 a0.out ?_
      try simp only [pq]
      refine' twH 24 a0.out ?_
      try simp only [pq]
      refine wpAnyH_done (by kernel_rfl) ?_ _
      go_wp2
      go_ret
      exact ⟨ret_bool (wit_no HVV.out (fun h=>by have h1:=HA0.out.symm.trans h.1;rw [HN.out] at h1;cases h1)).symm,a0.out⟩
    · have HI:=hid hin;clear hin
      rcases Nat.eq_zero_or_pos q with hk0|hk0
      · subst hk0
        have hz1:zz=0:=by rcases HZ.out with ⟨-,h⟩|⟨j,u,h,-⟩;exact h;omega
        subst hz1
        have HN:=hid (show ascN (l.drop (0+1)) (v+1) ((n:Int)-1)=asc by rw [← HB.out,HS.out,HI.out];rfl)
        go_wp2
        replace a0:=bD a0
        refine wp_region_held_drew (S:=(fun W'=>Below w.heap.size w W')) (by kernel_rfl) a0.out (fun _=>?_)
        obtain ⟨c7,a3⟩:∃ w',w'=(wa.drew):=⟨_,rfl⟩
        rw [← a3] at a0
        rw [← a3]
        clear a3
        refine' twH 0 a0.out ?_
        refine' twH 1 a0.out ?_
        refine' twH 2 a0.out ?_
        refine' tkH 3 a0.out ?b4 ?_
        case b4=>(rintro W' hS0;have hc0:=(Below.cell hS0 (p:=⟨b,_,none⟩) HBB.out).trans HE.out;simp only [Nat.add_zero] at hc0;clear hS0;go_simp;try with_reducible rfl)
        try simp only [pq]
        refine' twH 4 a0.out ?_
        try simp only [pq]
        refine oneH 5 rfl fun K hK=>?_
        go_simp
        refine hK.out _ _ a0.out (fun _=>?_);clear hK K
        try simp only [pq]
        refine' twH 6 a0.out ?_
        try simp only [pq]
        refine oneH 7 rfl fun K hK=>?_
        go_simp
        go_at_call 78
        refine (xwithin_is v 0 ((n:Int)-1) _ HI.out (c7)).mono ?_
        rintro e d3 ⟨rfl,rfl⟩
        dsimp only
        refine hK.out _ _ a0.out (fun _=>?_);clear hK K
        try simp only [pq]
        refine' twH 8 a0.out ?_
        refine' twH 9 a0.out ?_
        refine' twH 10 a0.out ?_
        refine' twH 11 a0.out ?_
        try simp only [pq]
        refine' twH 12 a0.out ?_
        refine' tkNH 13 a0.out ?_
        refine' tkNH 14 a0.out ?_
        refine' tkNH 15 a0.out ?_
        try simp only [pq]
        refine' tkNH 16 a0.out ?_
        refine' tkNH 17 a0.out ?_
        refine' tkNH 18 a0.out ?_
        refine' tkNH 19 a0.out ?_
        try simp only [pq]
        refine' tkNH 20 a0.out ?_
        refine' tkNH 21 a0.out ?_
        refine' tkNH 22 a0.out ?_
        refine' twH 23 a0.out ?_
        try simp only [pq]
        refine' twH 24 a0.out ?_
        try simp only [pq]
        refine wpAnyH_done (by kernel_rfl) ?_ _
        obtain ⟨iv,hiv,hivn⟩:∃ a:Nat,v=a∧a<n:=by have:=HI.out;simp only [inR,Bool.and_eq_true,decide_eq_true_eq] at this;exact ⟨v.toNat,by omega,by omega⟩
        subst hiv
        go_wp2
        go_loopw [6] (fun i' wr=>∃ j':Nat,j'≤0∧i'=.int .i64 j'∧(∀ z∈l.take j',clB ps z iv=true)∧Below w.heap.size w wr) (fun i' _=>0-(intOf i').toNat)
        case atStart=>exact ⟨0,Nat.zero_le _,rfl,by simp,a0.out⟩
        case round =>
         clear a0
         obtain ⟨j9,hj,rfl,hal,hbe⟩:=hrel
         have HAL:=hid hal;clear hal
         have b0:=hid (hbe)
         clear hbe
         by_cases hjq:j9<0
         · exact absurd hjq (Nat.not_lt_zero _)
         · obtain rfl:j9=0:=by omega
           go_wp2
           go_roundw
           case rel=>exact ⟨0+1,(iv:Int)+1,by omega,by go_num,HN.out,.inr ⟨0,iv,rfl,HX.out,rfl,by omega⟩,by rw [List.take_add_one,HX.out];exact allCl_snoc HCL.out HAL.out,by rw [List.take_add_one,HX.out];intro z hz;rcases List.mem_append.1 hz with hz|hz;exact HIN.out z hz;obtain rfl:=List.mem_singleton.1 hz;exact ⟨iv,rfl,hivn⟩,b0.out⟩
           case measure=>simp [intOf];omega
      · obtain ⟨j,u,rfl,hxu,rfl,hu⟩:∃ (j:Nat) (u:Int),q=j+1∧l[j]?=some u∧zz=u+1∧0≤u:=by rcases HZ.out with ⟨h,-⟩|h;omega;exact h
        obtain ⟨b2,o2,u2,hA2,-,hx2,e2⟩:=RdI.get HL.out (k:=j) (by omega)
        injection hA2 with hA2;injection hA2 with hA3 hA4;subst hA3 hA4
        obtain rfl:u2=u:=by rw [hxu] at hx2;injection hx2 with hx2;exact hx2.symm
        have HU:=hid e2;have HU1:=hid hu;clear e2 hx2 hxu hu
        have hj1:(((j+1:Nat):Int)-1)=(j:Int):=by omega
        have hj3:(0:Int)≤(j:Int)+1:=by omega
        have hj4:(j:Int)+1<m:=by omega
        have hj2:(j:Int)<m:=by omega
        have hjw:IntKind.i64.wrap (j:Int)=(j:Int):=IntWalk.i64_in _ (by omega)
        go_wp2
        by_cases huv:v≤u2
        · have HN:=hid (show asc=false by rw [← HB.out,HS.out];have h3:inR v (u2+1) ((n:Int)-1)=false:=(by unfold inR;simp only [Bool.and_eq_false_iff,decide_eq_false_iff_not];omega);rw [h3];rfl)
          replace a0:=bD a0
          refine wp_region_held_drew (S:=(fun W'=>Below w.heap.size w W')) (by kernel_rfl) a0.out (fun _=>?_)
          obtain ⟨c8,a4⟩:∃ w',w'=(wa.drew):=⟨_,rfl⟩
          rw [← a4] at a0
          rw [← a4]
          clear a4
          refine' twH 0 a0.out ?_
          refine' twH 1 a0.out ?_
          refine' twH 2 a0.out ?_
          refine' tkH 3 a0.out ?b5 ?_
          case b5=>(rintro W' hS0;have hc0:=(Below.cell hS0 (p:=⟨b,_,none⟩) HBB.out).trans HE.out;clear hS0;go_simp;try with_reducible rfl)
          try simp only [pq]
          refine' twH 4 a0.out ?_
          try simp only [pq]
          refine oneH 5 rfl fun K hK=>?_
          go_simp
          refine hK.out _ _ a0.out (fun _=>?_);clear hK K
          try simp only [pq]
          refine' twH 6 a0.out ?_
          try simp only [pq]
          refine oneH 7 rfl fun K hK=>?_
          go_simp
          go_at_call 78
          refine (xwithin_is v 0 ((n:Int)-1) _ HI.out (c8)).mono ?_
          rintro e d4 ⟨rfl,rfl⟩
          dsimp only
          refine hK.out _ _ a0.out (fun _=>?_);clear hK K
          try simp only [pq]
          refine' twH 8 a0.out ?_
          refine' twH 9 a0.out ?_
          refine' twH 10 a0.out ?_
          refine' twH 11 a0.out ?_
          try simp only [pq]
          refine' twH 12 a0.out ?_
          refine' twH 13 a0.out ?_
          refine' twH 14 a0.out ?_
          refine' twH 15 a0.out ?_
          try simp only [pq]
          refine' twH 16 a0.out ?_
          refine' tkH 17 a0.out ?b6 ?_
          case b6=>(rintro W' hS0;have hc0:=(Below.cell hS0 (p:=⟨b,_,none⟩) HBB.out).trans HU.out;clear hS0;go_simp;try with_reducible rfl)
          refine' twH 18 a0.out ?_
          refine' twH 19 a0.out ?_
          try simp only [pq]
          refine' twH 20 a0.out ?_
          refine' tkH 21 a0.out ?b7 ?_
          case b7=>(rintro W' hS0;have hc0:=(Below.cell hS0 (p:=⟨b,_,none⟩) HBB.out).trans HE.out;clear hS0;go_simp;try with_reducible rfl)
          refine' twH 22 a0.out ?_
          refine' twH 23 a0.out ?_
          try simp only [pq]
          refine' twH 24 a0.out ?_
          try simp only [pq]
          refine wpAnyH_done (by kernel_rfl) ?_ _
          go_wp2
          go_ret
          exact ⟨ret_bool (wit_no HVV.out (fun h=>by have h1:=HA0.out.symm.trans h.1;rw [HN.out] at h1;cases h1)).symm,a0.out⟩
        · have HN:=hid (show ascN (l.drop (j+1+1)) (v+1) ((n:Int)-1)=asc by rw [← HB.out,HS.out];have h1:=HI.out;have h3:inR v (u2+1) ((n:Int)-1)=true:=(by unfold inR at h1 ⊢;simp only [Bool.and_eq_true,decide_eq_true_eq] at h1 ⊢;omega);rw [h3];rfl)
          replace a0:=bD a0
          refine wp_region_held_drew (S:=(fun W'=>Below w.heap.size w W')) (by kernel_rfl) a0.out (fun _=>?_)
          obtain ⟨c9,a5⟩:∃ w',w'=(wa.drew):=⟨_,rfl⟩
          rw [← a5] at a0
          rw [← a5]
          clear a5
          refine' twH 0 a0.out ?_
          refine' twH 1 a0.out ?_
          refine' twH 2 a0.out ?_
          refine' tkH 3 a0.out ?b9 ?_
          case b9=>(rintro W' hS0;have hc0:=(Below.cell hS0 (p:=⟨b,_,none⟩) HBB.out).trans HE.out;clear hS0;go_simp;try with_reducible rfl)
          try simp only [pq]
          refine' twH 4 a0.out ?_
          try simp only [pq]
          refine oneH 5 rfl fun K hK=>?_
          go_simp
          refine hK.out _ _ a0.out (fun _=>?_);clear hK K
          try simp only [pq]
          refine' twH 6 a0.out ?_
          try simp only [pq]
          refine oneH 7 rfl fun K hK=>?_
          go_simp
          go_at_call 78
          refine (xwithin_is v 0 ((n:Int)-1) _ HI.out (c9)).mono ?_
          rintro e d5 ⟨rfl,rfl⟩
          dsimp only
          refine hK.out _ _ a0.out (fun _=>?_);clear hK K
          try simp only [pq]
          refine' twH 8 a0.out ?_
          refine' twH 9 a0.out ?_
          refine' twH 10 a0.out ?_
          refine' twH 11 a0.out ?_
          try simp only [pq]
          refine' twH 12 a0.out ?_
          refine' twH 13 a0.out ?_
          refine' twH 14 a0.out ?_
          refine' twH 15 a0.out ?_
          try simp only [pq]
          refine' twH 16 a0.out ?_
          refine' tkH 17 a0.out ?c0 ?_
          case c0=>(rintro W' hS0;have hc0:=(Below.cell hS0 (p:=⟨b,_,none⟩) HBB.out).trans HU.out;clear hS0;go_simp;try with_reducible rfl)
          refine' twH 18 a0.out ?_
          refine' twH 19 a0.out ?_
          try simp only [pq]
          refine' twH 20 a0.out ?_
          refine' tkH 21 a0.out ?c1 ?_
          case c1=>(rintro W' hS0;have hc0:=(Below.cell hS0 (p:=⟨b,_,none⟩) HBB.out).trans HE.out;clear hS0;go_simp;try with_reducible rfl)
          refine' twH 22 a0.out ?_
          refine' twH 23 a0.out ?_
          try simp only [pq]
          refine' twH 24 a0.out ?_
          try simp only [pq]
          refine wpAnyH_done (by kernel_rfl) ?_ _
          obtain ⟨iv,hiv,hivn⟩:∃ a:Nat,v=a∧a<n:=by have:=HI.out;simp only [inR,Bool.and_eq_true,decide_eq_true_eq] at this;exact ⟨v.toNat,by omega,by omega⟩
          subst hiv
          go_wp2
          go_loopw [6] (fun i' wr=>∃ j':Nat,j'≤j+1∧i'=.int .i64 j'∧(∀ z∈l.take j',clB ps z iv=true)∧Below w.heap.size w wr) (fun i' _=>j+1-(intOf i').toNat)
          case atStart=>exact ⟨0,Nat.zero_le _,rfl,by simp,a0.out⟩
          case round =>
           clear a0
           obtain ⟨j9,hj,rfl,hal,hbe⟩:=hrel
           have HAL:=hid hal;clear hal
           have a1:=hid (hbe)
           clear hbe
           by_cases hjq:j9<j+1
           · have hjq':(j9:Int)<(j+1:Nat):=by omega
             have hjm:(j9:Int)<m:=by omega
             obtain ⟨b8,o8,v2,hA2,-,hv2,e2⟩:=RdI.get HL.out (k:=j9) (by omega)
             injection hA2 with hA2;injection hA2 with hA3 hA4;subst hA3 hA4
             obtain ⟨i2,hi2e,hi2⟩:=HIN.out v2 (List.mem_of_getElem? (show (l.take (j+1))[j9]?=some v2 by rw [List.getElem?_take_of_lt hjq];exact hv2))
             subst hi2e
             have HV2:=hid hv2;have E2:=hid e2;clear hv2 e2
             have HTJ:=hid (show l.take (j9+1)=l.take j9++[(i2:Int)] by rw [List.take_add_one,HV2.out];rfl)
             go_wp2
             cases hcl:clB ps i2 iv
             · have HC:=hid hcl;clear hcl
               replace a1:=bD a1
               refine wp_region_held_drew (S:=(fun W'=>Below w.heap.size w W')) (by kernel_rfl) a1.out (fun _=>?_)
               obtain ⟨d0,a6⟩:∃ w',w'=(wr.drew):=⟨_,rfl⟩
               rw [← a6] at a1
               rw [← a6]
               clear a6
               refine' twH 0 a1.out ?_
               refine' twH 1 a1.out ?_
               refine' twH 2 a1.out ?_
               refine' twH 3 a1.out ?_
               try simp only [pq]
               refine' tkH 4 a1.out ?c2 ?_
               case c2=>(rintro W' hS0;have hc0:=(Below.cell hS0 (p:=⟨b,_,none⟩) HBB.out).trans E2.out;clear hS0;go_simp;try with_reducible rfl)
               refine' twH 5 a1.out ?_
               refine' twH 6 a1.out ?_
               refine' twH 7 a1.out ?_
               try simp only [pq]
               refine' tkH 8 a1.out ?c3 ?_
               case c3=>(rintro W' hS0;have hc0:=(Below.cell hS0 (p:=⟨b,_,none⟩) HBB.out).trans HE.out;clear hS0;go_simp;try with_reducible rfl)
               try simp only [pq]
               refine oneH 9 rfl fun K hK=>?_
               go_simp
               go_at_call 70
               refine (xclash_is A0 n k ps (d0) (HR.out.below a1.out) hn i2 iv hi2 hivn _ HC.out).mono ?_
               rintro e d6 ⟨rfl,a7⟩
               dsimp only
               replace a7:=hid a7
               replace a1:=bH a1 a7
               refine hK.out _ _ a1.out (fun _=>?_);clear hK K
               try simp only [pq]
               refine' twH 10 a1.out ?_
               try simp only [pq]
               refine wpAnyH_done (by kernel_rfl) ?_ _
               go_wp2
               go_ret
               exact ⟨ret_bool (wit_no HVV.out (fun h=>by have:=h.2 _ _ _ _ hjq HX.out HV2.out;rw [HC.out] at this;cases this)).symm,a1.out⟩
             · have HC:=hid hcl;clear hcl
               replace a1:=bD a1
               refine wp_region_held_drew (S:=(fun W'=>Below w.heap.size w W')) (by kernel_rfl) a1.out (fun _=>?_)
               obtain ⟨d1,a8⟩:∃ w',w'=(wr.drew):=⟨_,rfl⟩
               rw [← a8] at a1
               rw [← a8]
               clear a8
               refine' twH 0 a1.out ?_
               refine' twH 1 a1.out ?_
               refine' twH 2 a1.out ?_
               refine' twH 3 a1.out ?_
               try simp only [pq]
               refine' tkH 4 a1.out ?c4 ?_
               case c4=>(rintro W' hS0;have hc0:=(Below.cell hS0 (p:=⟨b,_,none⟩) HBB.out).trans E2.out;clear hS0;go_simp;try with_reducible rfl)
               refine' twH 5 a1.out ?_
               refine' twH 6 a1.out ?_
               refine' twH 7 a1.out ?_
               try simp only [pq]
               refine' tkH 8 a1.out ?c5 ?_
               case c5=>(rintro W' hS0;have hc0:=(Below.cell hS0 (p:=⟨b,_,none⟩) HBB.out).trans HE.out;clear hS0;go_simp;try with_reducible rfl)
               try simp only [pq]
               refine oneH 9 rfl fun K hK=>?_
               go_simp
               go_at_call 70
               refine (xclash_is A0 n k ps (d1) (HR.out.below a1.out) hn i2 iv hi2 hivn _ HC.out).mono ?_
               rintro e d7 ⟨rfl,a9⟩
               dsimp only
               replace a9:=hid a9
               replace a1:=bH a1 a9
               refine hK.out _ _ a1.out (fun _=>?_);clear hK K
               try simp only [pq]
               refine' twH 10 a1.out ?_
               try simp only [pq]
               refine wpAnyH_done (by kernel_rfl) ?_ _
               go_wp2
               go_roundw
               case rel=>exact ⟨j9+1,by omega,by go_num,by rw [HTJ.out];intro z hz;rcases List.mem_append.1 hz with hz|hz;exact HAL.out z hz;obtain rfl:=List.mem_singleton.1 hz;exact HC.out,a1.out⟩
               case measure=>simp [intOf];omega
           · obtain rfl:j9=j+1:=by omega
             go_wp2
             go_roundw
             case rel=>exact ⟨j+1+1,(iv:Int)+1,by omega,by go_num,HN.out,.inr ⟨j+1,iv,rfl,HX.out,rfl,by omega⟩,by rw [List.take_add_one,HX.out];exact allCl_snoc HCL.out HAL.out,by rw [List.take_add_one,HX.out];intro z hz;rcases List.mem_append.1 hz with hz|hz;exact HIN.out z hz;obtain rfl:=List.mem_singleton.1 hz;exact ⟨iv,rfl,hivn⟩,a1.out⟩
             case measure=>simp [intOf];omega
  · obtain rfl:m=q:=by omega
    have hln:=HL.out.len
    have HN:=hid (show asc=true by rw [← HB.out,List.drop_of_length_le (by omega)];rfl)
    have HC:=hid (show AllCl ps l by have:=HCL.out;rwa [List.take_of_length_le (by omega)] at this)
    clear hln
    go_wp2
    go_ret
    exact ⟨ret_bool (HVV.out.2 ⟨HA0.out.trans HN.out,HC.out⟩).symm,a0.out⟩
theorem isWB_iff {ps:List Prt} {n:Nat} {l:List Int} (hn:ps.length=n):isWB ps l=true ↔ (ascN l 0 ((n:Int)-1)=true∧AllCl ps l):=by
 unfold isWB
 rw [Bool.and_eq_true,Bool.not_eq_true',anyN_false,hn]
 refine and_congr_right fun _=>?_
 constructor
 · intro h i j x y hji hx hy
   obtain ⟨hi,rfl⟩:=List.getElem?_eq_some_iff.1 hx
   have:=h i j hi hji
   rw [List.getD_eq_getElem?_getD,hx,List.getD_eq_getElem?_getD,hy] at this
   rw [clB_comm]
   simpa using this
 · intro h i j hi hj
   have:=h i j _ _ hj (List.getElem?_eq_getElem hi) (List.getElem?_eq_getElem (Nat.lt_trans hj hi))
   rw [List.getD_eq_getElem?_getD,List.getD_eq_getElem?_getD,List.getElem?_eq_getElem hi,List.getElem?_eq_getElem (Nat.lt_trans hj hi)]
   rw [clB_comm] at this
   simpa using this
set_option maxRecDepth 100000 in
theorem xCheckWitness_no (ware:ByteArray) (lim by_:Int) (A:Option Addr) (n k:Nat) (ps:List Prt) (B:Option Addr) (m d:Nat) (l:List Int) (w:World) (hr:RdP w A n k ps) (hl:RdI w B m d l) (hn:n≤maxLen) (hm:m≤maxLen) (q:Int) (hq:chkC ⟨ware,lim,by_,ps⟩=q) (hne:q≠0):Calls Tryz.prog 39 #[.agg #[.string ware,.int .i64 lim,.int .i64 by_,.slice A n k],.slice B m d] w fun e w'=>e=.returned (.tuple #[.bool false,.int .i64 q])∧Below w.heap.size w w':=by
 have HQ:=hid hq;clear hq
 go_enter Tryz.func39,Tryz.ntmps39
 obtain ⟨a1,a0⟩:=ent1 w #[.string ware,.int .i64 lim,.int .i64 by_,.slice A n k] 24
 have a3:=hid (RdP.below (hr) a0.out)
 have a8:=iI hl a0
 clear hr hl
 obtain ⟨a4,a5,a6,a7⟩:=at4 a1
 have hc:=xchk_is ware lim by_ A n k ps ((w.alloc (.cells #[.string ware,.int .i64 lim,.int .i64 by_,.slice A n k] 24))) a3.out hn q HQ.out
 have HC:=hid hc;clear hc
 go_wp2_with fail
 refine HC.out.mono ?_
 rintro e b3 ⟨rfl,hb⟩
 clear HC
 clear a4 a5 a6 a7
 have a2:=hid hb
 clear hb
 replace a1:=kH a1 a2
 obtain ⟨a9,b0,b1,b2⟩:=at4 a1
 go_wp2
 go_ret2
 replace a0:=bH a0 a2
 exact ⟨rfl,a0.out⟩
set_option maxRecDepth 100000 in
theorem xCheckWitness_yes (ware:ByteArray) (lim by_:Int) (A:Option Addr) (n k:Nat) (ps:List Prt) (B:Option Addr) (m d:Nat) (l:List Int) (w:World) (hr:RdP w A n k ps) (hl:RdI w B m d l) (hn:n≤maxLen) (hm:m≤maxLen) (hq:chkC ⟨ware,lim,by_,ps⟩=0):Calls Tryz.prog 39 #[.agg #[.string ware,.int .i64 lim,.int .i64 by_,.slice A n k],.slice B m d] w fun e w'=>e=.returned (.tuple #[.bool (isWB ps l),.int .i64 0])∧Below w.heap.size w w':=by
 have HQ:=hid hq;clear hq
 have hr0:=hr
 go_enter Tryz.func39,Tryz.ntmps39
 obtain ⟨a0,a1⟩:=ent1 w #[.string ware,.int .i64 lim,.int .i64 by_,.slice A n k] 24
 have a3:=hid (RdP.below (hr) a1.out)
 have a4:=iI hl a1
 clear hr hl
 obtain ⟨b0,b1,b2,b3⟩:=at4 a0
 have hc:=xchk_is ware lim by_ A n k ps ((w.alloc (.cells #[.string ware,.int .i64 lim,.int .i64 by_,.slice A n k] 24))) a3.out hn 0 HQ.out
 have HC:=hid hc;clear hc
 go_wp2_with fail
 refine HC.out.mono ?_
 rintro e b4 ⟨rfl,hb⟩
 clear HC
 clear b0 b1 b2 b3
 have a2:=hid hb
 clear hb
 replace a0:=kH a0 a2
 obtain ⟨a6,a7,a8,a9⟩:=at4 a0
 replace a3:=hid (RdP.below (a3.out) a2.out)
 replace a4:=iH a4 a2
 have hc:=xwit_any A n k ps B m d l (b4) a3.out a4.out hn hm _ (isWB_iff hr0.len)
 have HC:=hid hc;clear hc
 go_wp2_with fail
 refine HC.out.mono ?_
 rintro e b5 ⟨rfl,hb⟩
 clear HC
 clear a6 a7 a8 a9
 have a5:=hid hb
 clear hb
 replace a0:=kH a0 a5
 obtain ⟨b6,b7,b8,b9⟩:=at4 a0
 go_wp2
 go_ret2
 replace a1:=bH (bH a1 a2) a5
 exact ⟨rfl,a1.out⟩
end Go.Proofs.YtokpblmgdmokoaaGreat
