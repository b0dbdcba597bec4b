import Derived.Test.YtokpblmgdmokoaaGreatAVOf
import Derived.Test.YtokpblmgdmokoaaGreatBVRc
set_option maxHeartbeats 4000000
set_option linter.unusedSimpArgs false
set_option linter.unusedVariables false
namespace Go.Proofs.YtokpblmgdmokoaaGreat
open Go.Lib (hid)
open Go.RowKit
theorem all_bad {l:List Int} {j:Nat} {v z:Int} (h:l[j]?=some v) (hv:inR v 0 z=false):l.all (fun p=>inR p 0 z)=false:=by
 rw [List.all_eq_false]
 exact ⟨v,List.mem_of_getElem? h,by simp [hv]⟩
set_option maxRecDepth 100000 in
theorem xasked_any (ware:ByteArray) (lim by_:Int) (A:Option Addr) (n k:Nat) (ps:List Prt) (B:Option Addr) (m d:Nat) (l:List Int) (w:World) (hr:RdP w A n k ps) (hl:RdI w B m d l) (hn:n≤maxLen) (hm:m≤maxLen):Calls Tryz.prog 69 #[.agg #[.string ware,.int .i64 lim,.int .i64 by_,.slice A n k],.slice B m d] w fun e w'=>e=.returned (.int .i64 (askP ⟨ware,lim,by_,ps⟩ l))∧Below w.heap.size w w':=by
 obtain ⟨q,hq⟩:∃ q,chkC ⟨ware,lim,by_,ps⟩=q:=⟨_,rfl⟩
 by_cases hne:q=0
 · subst hne
   have HA:=hid (show askP ⟨ware,lim,by_,ps⟩ l=if l.all (fun p=>inR p 0 ((n:Int)-1)) then 0 else 1 by unfold askP;rw [hq,if_neg (by simp),← hr.len])
   have HQ:=hid hq;have HL:=hid hl;clear hq hl
   have hm2:=hm;have hn2:=hn
   unfold maxLen at hm2 hn2
   have hN:=hr.len
   go_enter Tryz.func69,Tryz.ntmps69
   obtain ⟨a3,a2⟩:=ent1 w #[.string ware,.int .i64 lim,.int .i64 by_,.slice A n k] 24
   have a4:=hid (RdP.below (hr) a2.out)
   clear hr
   obtain ⟨a8,a9,b0,b1⟩:=at4 a3
   have hc:=xchk_is ware lim by_ A n k ps ((w.alloc (.cells #[.string ware,.int .i64 lim,.int .i64 by_,.slice A n k] 24))) a4.out hn 0 HQ.out
   have HC:=hid hc;clear hc
   go_wp2_with fail
   refine HC.out.mono ?_
   rintro e c3 ⟨rfl,hb⟩
   clear HC
   clear a8 a9 b0 b1
   have a5:=hid hb
   clear hb
   replace a3:=kH a3 a5
   obtain ⟨b2,b3,b4,b5⟩:=at4 a3
   go_wp2
   clear b2 b3 b4 b5
   replace a2:=bH a2 a5
   replace a4:=hid (RdP.below (a4.out) a5.out)
   go_loopw [6] (fun i wr=>∃ j:Nat,j≤m∧i=.int .i64 j∧(∀ x∈l.take j,inR x 0 ((n:Int)-1)=true)∧Blk wr w.heap.size 24 #[.string ware,.int .i64 lim,.int .i64 by_,.slice A n k]∧Below w.heap.size w wr) (fun i _=>m-(intOf i).toNat)
   case atStart=>exact ⟨0,Nat.zero_le _,rfl,by simp,a3.out,a2.out⟩
   case round =>
    clear a2 a4 a3
    obtain ⟨j,hj,rfl,hall,hbc,hbe⟩:=hrel
    have HALL:=hid hall;clear hall
    have a1:=hid (hbc)
    have a0:=hid (hbe)
    clear hbc hbe
    by_cases hjt:j<m
    · have hjt':(j:Int)<m:=by omega
      obtain ⟨b9,o9,v,rfl,hb9,hv,e0⟩:=RdI.get HL.out hjt
      have HV:=hid hv;have HB9:=hid hb9;have E0:=hid e0;clear hv hb9 e0
      have HTS:=hid (show l.take (j+1)=l.take j++[v] by rw [List.take_add_one,HV.out];rfl)
      have hnw:IntKind.i64.wrap ((n:Int)-1)=(n:Int)-1:=IntWalk.i64_in _ (by omega)
      cases hin:inR v 0 ((n:Int)-1)
      · have HI:=hid hin;clear hin
        go_wp2
        replace a1:=kD a1
        replace a0:=bD a0
        refine wp_region_held_drew (S:=(fun W'=>Blk W' (w.heap.size) 24 #[.string ware,.int .i64 lim,.int .i64 by_,.slice A n k]∧Below w.heap.size w W')) (by kernel_rfl) ⟨a1.out,a0.out⟩ (fun _=>?_)
        obtain ⟨c1,a6⟩:∃ w',w'=(wr.drew):=⟨_,rfl⟩
        rw [← a6] at a1 a0
        rw [← a6]
        clear a6
        refine' twH 0 ⟨a1.out,a0.out⟩ ?_
        refine' twH 1 ⟨a1.out,a0.out⟩ ?_
        refine' twH 2 ⟨a1.out,a0.out⟩ ?_
        refine' tkH 3 ⟨a1.out,a0.out⟩ ?b6 ?_
        case b6=>(rintro W' ⟨hS0,hS1⟩;have hc0:=(Below.cell hS1 (p:=⟨b9,_,none⟩) HB9.out).trans E0.out;clear hS0 hS1;go_simp;try with_reducible rfl)
        try simp only [pq]
        refine' twH 4 ⟨a1.out,a0.out⟩ ?_
        refine' tkH 5 ⟨a1.out,a0.out⟩ ?b7 ?_
        case b7=>(rintro W' ⟨hS0,hS1⟩;have hc0:=Blk.nth hS0 3;clear hS0 hS1;go_simp;try with_reducible rfl)
        try simp only [pq]
        refine oneH 6 rfl fun K hK=>?_
        go_simp
        refine hK.out _ _ ⟨a1.out,a0.out⟩ (fun _=>?_);clear hK K
        try simp only [pq]
        refine' twH 7 ⟨a1.out,a0.out⟩ ?_
        try simp only [pq]
        refine oneH 8 rfl fun K hK=>?_
        go_simp
        go_at_call 78
        refine (xwithin_is v 0 ((n:Int)-1) _ HI.out (c1)).mono ?_
        rintro e c8 ⟨rfl,rfl⟩
        dsimp only
        refine hK.out _ _ ⟨a1.out,a0.out⟩ (fun _=>?_);clear hK K
        try simp only [pq]
        refine' twH 9 ⟨a1.out,a0.out⟩ ?_
        try simp only [pq]
        refine wpAnyH_done (by kernel_rfl) ?_ _
        go_wp2
        go_ret
        exact ⟨ret_int (by rw [HA.out,all_bad HV.out HI.out];rfl),a0.out⟩
      · have HI:=hid hin;clear hin
        go_wp2
        replace a1:=kD a1
        replace a0:=bD a0
        refine wp_region_held_drew (S:=(fun W'=>Blk W' (w.heap.size) 24 #[.string ware,.int .i64 lim,.int .i64 by_,.slice A n k]∧Below w.heap.size w W')) (by kernel_rfl) ⟨a1.out,a0.out⟩ (fun _=>?_)
        obtain ⟨c2,a7⟩:∃ w',w'=(wr.drew):=⟨_,rfl⟩
        rw [← a7] at a1 a0
        rw [← a7]
        clear a7
        refine' twH 0 ⟨a1.out,a0.out⟩ ?_
        refine' twH 1 ⟨a1.out,a0.out⟩ ?_
        refine' twH 2 ⟨a1.out,a0.out⟩ ?_
        refine' tkH 3 ⟨a1.out,a0.out⟩ ?b8 ?_
        case b8=>(rintro W' ⟨hS0,hS1⟩;have hc0:=(Below.cell hS1 (p:=⟨b9,_,none⟩) HB9.out).trans E0.out;clear hS0 hS1;go_simp;try with_reducible rfl)
        try simp only [pq]
        refine' twH 4 ⟨a1.out,a0.out⟩ ?_
        refine' tkH 5 ⟨a1.out,a0.out⟩ ?c0 ?_
        case c0=>(rintro W' ⟨hS0,hS1⟩;have hc0:=Blk.nth hS0 3;clear hS0 hS1;go_simp;try with_reducible rfl)
        try simp only [pq]
        refine oneH 6 rfl fun K hK=>?_
        go_simp
        refine hK.out _ _ ⟨a1.out,a0.out⟩ (fun _=>?_);clear hK K
        try simp only [pq]
        refine' twH 7 ⟨a1.out,a0.out⟩ ?_
        try simp only [pq]
        refine oneH 8 rfl fun K hK=>?_
        go_simp
        go_at_call 78
        refine (xwithin_is v 0 ((n:Int)-1) _ HI.out (c2)).mono ?_
        rintro e c9 ⟨rfl,rfl⟩
        dsimp only
        refine hK.out _ _ ⟨a1.out,a0.out⟩ (fun _=>?_);clear hK K
        try simp only [pq]
        refine' twH 9 ⟨a1.out,a0.out⟩ ?_
        try simp only [pq]
        refine wpAnyH_done (by kernel_rfl) ?_ _
        go_wp2
        go_roundw
        case rel=>exact ⟨j+1,by omega,by go_num,by rw [HTS.out];intro z hz;rcases List.mem_append.1 hz with hz|hz;exact HALL.out z hz;obtain rfl:=List.mem_singleton.1 hz;exact HI.out,a1.out,a0.out⟩
        case measure=>simp [intOf];omega
    · obtain rfl:m=j:=by omega
      have hln:=HL.out.len
      have HY:=hid (show l.all (fun p=>inR p 0 ((n:Int)-1))=true by rw [List.all_eq_true];have:=HALL.out;rwa [List.take_of_length_le (by omega)] at this)
      clear hln HALL
      obtain ⟨c4,c5,c6,c7⟩:=at4 a1
      go_wp2
      go_ret
      exact ⟨ret_int (by rw [HA.out,HY.out];rfl),a0.out⟩
 · have HA:=hid (show askP ⟨ware,lim,by_,ps⟩ l=q by unfold askP;rw [hq,if_pos hne])
   rw [HA.out]
   have HQ:=hid hq;clear hq
   go_enter Tryz.func69,Tryz.ntmps69
   obtain ⟨a3,a2⟩:=ent1 w #[.string ware,.int .i64 lim,.int .i64 by_,.slice A n k] 24
   have a4:=hid (RdP.below (hr) a2.out)
   clear hr
   obtain ⟨a8,a9,b0,b1⟩:=at4 a3
   have hc:=xchk_is ware lim by_ A n k ps ((w.alloc (.cells #[.string ware,.int .i64 lim,.int .i64 by_,.slice A n k] 24))) a4.out hn q HQ.out
   have HC:=hid hc;clear hc
   go_wp2_with fail
   refine HC.out.mono ?_
   rintro e c3 ⟨rfl,hb⟩
   clear HC
   clear a8 a9 b0 b1
   have a5:=hid hb
   clear hb
   replace a3:=kH a3 a5
   obtain ⟨b2,b3,b4,b5⟩:=at4 a3
   go_wp2
   go_ret
   replace a2:=bH a2 a5
   exact ⟨rfl,a2.out⟩
theorem xasked_is (ware:ByteArray) (lim by_:Int) (A:Option Addr) (n k:Nat) (ps:List Prt) (B:Option Addr) (m d:Nat) (l:List Int) (w:World) (hr:RdP w A n k ps) (hl:RdI w B m d l) (hn:n≤maxLen) (hm:m≤maxLen) (q:Int) (hq:askP ⟨ware,lim,by_,ps⟩ l=q):Calls Tryz.prog 69 #[.agg #[.string ware,.int .i64 lim,.int .i64 by_,.slice A n k],.slice B m d] w fun e w'=>e=.returned (.int .i64 q)∧Below w.heap.size w w':=by
 subst hq
 exact xasked_any ware lim by_ A n k ps B m d l w hr hl hn hm
theorem ptA_at {ps:List Prt} {a:Nat} {p:Prt} (h:ps[a]?=some p):ptA ps (a:Int)=p:=by
 unfold ptA;rw [Int.toNat_natCast,List.getD_eq_getElem?_getD,h];rfl
set_option maxRecDepth 100000 in
theorem xclash_any (A:Option Addr) (n k:Nat) (ps:List Prt) (w:World) (hr:RdP w A n k ps) (hn:n≤maxLen) (a b':Nat) (ha:a<n) (hb:b'<n):Calls Tryz.prog 70 #[.slice A n k,.int .i64 a,.int .i64 b'] w fun e w'=>e=.returned (.bool (clB ps a b'))∧Below w.heap.size w w':=by
 unfold maxLen at hn
 by_cases hab:a=b'
 · subst hab
   have HZ:=hid (show clB ps a a=false by simp [clB])
   rw [HZ.out]
   clear HZ hr
   go_enter Tryz.func70,Tryz.ntmps70
   go_wp2
   go_ret
   exact ⟨rfl,Below.refl _ _⟩
 · have hab1:((a:Int) == (b':Int))=false:=by rw [beq_eq_false_iff_ne];omega
   have hab2:((a:Int)=(b':Int))=False:=eq_false (by omega)
   obtain ⟨b,o,p,x,rfl,hbw,hx,-,g0,g1,g2,g3,g4,g5,g6,g7⟩:=RdP.get hr ha
   obtain ⟨p2,x2,-,hx2,-,k0,k1,k2,k3,k4,k5,k6,k7⟩:=RdP.at hr hb
   have ha':(a:Int)<n:=by omega
   have hb':(b':Int)<n:=by omega
   have HZ:=hid (show clB ps a b'=((p.ft&&p2.ft) || decide (p.hi<p2.lo) || decide (p2.hi<p.lo)) by unfold clB;rw [ptA_at hx,ptA_at hx2,decide_eq_true (by omega),Bool.true_and];rfl)
   clear hx hx2 hr hab
   obtain ⟨ft,hft⟩:∃ f,p.ft=f:=⟨_,rfl⟩
   obtain ⟨ft2,hft2⟩:∃ f,p2.ft=f:=⟨_,rfl⟩
   rw [hft] at g5 HZ
   rw [hft2] at k5 HZ
   clear hft hft2
   by_cases hc:p.hi<p2.lo<;>by_cases hd:p2.hi<p.lo<;>have HC:=hid hc<;>have HD:=hid hd<;>cases ft<;>cases ft2
   · skip
     go_enter Tryz.func70,Tryz.ntmps70
     have a0:=hid (show Below w.heap.size w w from Below.refl _ w)
     have c0:=g0
     have c1:=g1
     have c2:=g2
     have c3:=g3
     have c4:=g4
     have c5:=g5
     have c6:=g6
     have c7:=g7
     obtain ⟨o_,ho_⟩:∃ o,o=((.cells #[.slice x.A x.n x.c,.int .i64 p.lo,.int .i64 p.hi,.int .i64 p.lb,.int .i64 p.hb,.bool false,.int .i64 p.fb,.slice x.B x.m x.d] 48):Obj):=⟨_,rfl⟩
     replace a0:=bA a0 o_
     subst ho_
     have a1:=hid (Blk.new w 48 #[.slice x.A x.n x.c,.int .i64 p.lo,.int .i64 p.hi,.int .i64 p.lb,.int .i64 p.hb,.bool false,.int .i64 p.fb,.slice x.B x.m x.d])
     have d0:=(Below.cell a0.out (p:=⟨b,_,none⟩) hbw).trans k0
     have d1:=(Below.cell a0.out (p:=⟨b,_,none⟩) hbw).trans k1
     have d2:=(Below.cell a0.out (p:=⟨b,_,none⟩) hbw).trans k2
     have d3:=(Below.cell a0.out (p:=⟨b,_,none⟩) hbw).trans k3
     have d4:=(Below.cell a0.out (p:=⟨b,_,none⟩) hbw).trans k4
     have d5:=(Below.cell a0.out (p:=⟨b,_,none⟩) hbw).trans k5
     have d6:=(Below.cell a0.out (p:=⟨b,_,none⟩) hbw).trans k6
     have d7:=(Below.cell a0.out (p:=⟨b,_,none⟩) hbw).trans k7
     obtain ⟨o_,ho_⟩:∃ o,o=((.cells #[.slice x2.A x2.n x2.c,.int .i64 p2.lo,.int .i64 p2.hi,.int .i64 p2.lb,.int .i64 p2.hb,.bool false,.int .i64 p2.fb,.slice x2.B x2.m x2.d] 48):Obj):=⟨_,rfl⟩
     replace a0:=bA a0 o_
     replace a1:=kA a1 o_
     subst ho_
     have a2:=hid (Blk.new (w.alloc (.cells #[.slice x.A x.n x.c,.int .i64 p.lo,.int .i64 p.hi,.int .i64 p.lb,.int .i64 p.hb,.bool false,.int .i64 p.fb,.slice x.B x.m x.d] 48)) 48 #[.slice x2.A x2.n x2.c,.int .i64 p2.lo,.int .i64 p2.hi,.int .i64 p2.lb,.int .i64 p2.hb,.bool false,.int .i64 p2.fb,.slice x2.B x2.m x2.d])
     obtain ⟨b3,b4,b5,b6,b7,b8,a3,a4⟩:=at8 a1
     obtain ⟨a5,a6,a7,a8,a9,b0,b1,b2⟩:=at8 a2
     clear g0 g1 g2 g3 g4 g5 g6 g7 k0 k1 k2 k3 k4 k5 k6 k7
     go_wp2
     go_ret
     exact ⟨ret_bool (by rw [HZ.out];have hc:=HC.out;have hd:=HD.out;first|rfl | (simp;done) | (simp;omega)),a0.out⟩
   · skip
     go_enter Tryz.func70,Tryz.ntmps70
     have a0:=hid (show Below w.heap.size w w from Below.refl _ w)
     have c0:=g0
     have c1:=g1
     have c2:=g2
     have c3:=g3
     have c4:=g4
     have c5:=g5
     have c6:=g6
     have c7:=g7
     obtain ⟨o_,ho_⟩:∃ o,o=((.cells #[.slice x.A x.n x.c,.int .i64 p.lo,.int .i64 p.hi,.int .i64 p.lb,.int .i64 p.hb,.bool false,.int .i64 p.fb,.slice x.B x.m x.d] 48):Obj):=⟨_,rfl⟩
     replace a0:=bA a0 o_
     subst ho_
     have a1:=hid (Blk.new w 48 #[.slice x.A x.n x.c,.int .i64 p.lo,.int .i64 p.hi,.int .i64 p.lb,.int .i64 p.hb,.bool false,.int .i64 p.fb,.slice x.B x.m x.d])
     have d0:=(Below.cell a0.out (p:=⟨b,_,none⟩) hbw).trans k0
     have d1:=(Below.cell a0.out (p:=⟨b,_,none⟩) hbw).trans k1
     have d2:=(Below.cell a0.out (p:=⟨b,_,none⟩) hbw).trans k2
     have d3:=(Below.cell a0.out (p:=⟨b,_,none⟩) hbw).trans k3
     have d4:=(Below.cell a0.out (p:=⟨b,_,none⟩) hbw).trans k4
     have d5:=(Below.cell a0.out (p:=⟨b,_,none⟩) hbw).trans k5
     have d6:=(Below.cell a0.out (p:=⟨b,_,none⟩) hbw).trans k6
     have d7:=(Below.cell a0.out (p:=⟨b,_,none⟩) hbw).trans k7
     obtain ⟨o_,ho_⟩:∃ o,o=((.cells #[.slice x2.A x2.n x2.c,.int .i64 p2.lo,.int .i64 p2.hi,.int .i64 p2.lb,.int .i64 p2.hb,.bool true,.int .i64 p2.fb,.slice x2.B x2.m x2.d] 48):Obj):=⟨_,rfl⟩
     replace a0:=bA a0 o_
     replace a1:=kA a1 o_
     subst ho_
     have a2:=hid (Blk.new (w.alloc (.cells #[.slice x.A x.n x.c,.int .i64 p.lo,.int .i64 p.hi,.int .i64 p.lb,.int .i64 p.hb,.bool false,.int .i64 p.fb,.slice x.B x.m x.d] 48)) 48 #[.slice x2.A x2.n x2.c,.int .i64 p2.lo,.int .i64 p2.hi,.int .i64 p2.lb,.int .i64 p2.hb,.bool true,.int .i64 p2.fb,.slice x2.B x2.m x2.d])
     obtain ⟨b3,b4,b5,b6,b7,b8,a3,a4⟩:=at8 a1
     obtain ⟨a5,a6,a7,a8,a9,b0,b1,b2⟩:=at8 a2
     clear g0 g1 g2 g3 g4 g5 g6 g7 k0 k1 k2 k3 k4 k5 k6 k7
     go_wp2
     go_ret
     exact ⟨ret_bool (by rw [HZ.out];have hc:=HC.out;have hd:=HD.out;first|rfl | (simp;done) | (simp;omega)),a0.out⟩
   · skip
     go_enter Tryz.func70,Tryz.ntmps70
     have a0:=hid (show Below w.heap.size w w from Below.refl _ w)
     have c0:=g0
     have c1:=g1
     have c2:=g2
     have c3:=g3
     have c4:=g4
     have c5:=g5
     have c6:=g6
     have c7:=g7
     obtain ⟨o_,ho_⟩:∃ o,o=((.cells #[.slice x.A x.n x.c,.int .i64 p.lo,.int .i64 p.hi,.int .i64 p.lb,.int .i64 p.hb,.bool true,.int .i64 p.fb,.slice x.B x.m x.d] 48):Obj):=⟨_,rfl⟩
     replace a0:=bA a0 o_
     subst ho_
     have a1:=hid (Blk.new w 48 #[.slice x.A x.n x.c,.int .i64 p.lo,.int .i64 p.hi,.int .i64 p.lb,.int .i64 p.hb,.bool true,.int .i64 p.fb,.slice x.B x.m x.d])
     have d0:=(Below.cell a0.out (p:=⟨b,_,none⟩) hbw).trans k0
     have d1:=(Below.cell a0.out (p:=⟨b,_,none⟩) hbw).trans k1
     have d2:=(Below.cell a0.out (p:=⟨b,_,none⟩) hbw).trans k2
     have d3:=(Below.cell a0.out (p:=⟨b,_,none⟩) hbw).trans k3
     have d4:=(Below.cell a0.out (p:=⟨b,_,none⟩) hbw).trans k4
     have d5:=(Below.cell a0.out (p:=⟨b,_,none⟩) hbw).trans k5
     have d6:=(Below.cell a0.out (p:=⟨b,_,none⟩) hbw).trans k6
     have d7:=(Below.cell a0.out (p:=⟨b,_,none⟩) hbw).trans k7
     obtain ⟨o_,ho_⟩:∃ o,o=((.cells #[.slice x2.A x2.n x2.c,.int .i64 p2.lo,.int .i64 p2.hi,.int .i64 p2.lb,.int .i64 p2.hb,.bool false,.int .i64 p2.fb,.slice x2.B x2.m x2.d] 48):Obj):=⟨_,rfl⟩
     replace a0:=bA a0 o_
     replace a1:=kA a1 o_
     subst ho_
     have a2:=hid (Blk.new (w.alloc (.cells #[.slice x.A x.n x.c,.int .i64 p.lo,.int .i64 p.hi,.int .i64 p.lb,.int .i64 p.hb,.bool true,.int .i64 p.fb,.slice x.B x.m x.d] 48)) 48 #[.slice x2.A x2.n x2.c,.int .i64 p2.lo,.int .i64 p2.hi,.int .i64 p2.lb,.int .i64 p2.hb,.bool false,.int .i64 p2.fb,.slice x2.B x2.m x2.d])
     obtain ⟨b3,b4,b5,b6,b7,b8,a3,a4⟩:=at8 a1
     obtain ⟨a5,a6,a7,a8,a9,b0,b1,b2⟩:=at8 a2
     clear g0 g1 g2 g3 g4 g5 g6 g7 k0 k1 k2 k3 k4 k5 k6 k7
     go_wp2
     go_ret
     exact ⟨ret_bool (by rw [HZ.out];have hc:=HC.out;have hd:=HD.out;first|rfl | (simp;done) | (simp;omega)),a0.out⟩
   · skip
     go_enter Tryz.func70,Tryz.ntmps70
     have a0:=hid (show Below w.heap.size w w from Below.refl _ w)
     have c0:=g0
     have c1:=g1
     have c2:=g2
     have c3:=g3
     have c4:=g4
     have c5:=g5
     have c6:=g6
     have c7:=g7
     obtain ⟨o_,ho_⟩:∃ o,o=((.cells #[.slice x.A x.n x.c,.int .i64 p.lo,.int .i64 p.hi,.int .i64 p.lb,.int .i64 p.hb,.bool true,.int .i64 p.fb,.slice x.B x.m x.d] 48):Obj):=⟨_,rfl⟩
     replace a0:=bA a0 o_
     subst ho_
     have a1:=hid (Blk.new w 48 #[.slice x.A x.n x.c,.int .i64 p.lo,.int .i64 p.hi,.int .i64 p.lb,.int .i64 p.hb,.bool true,.int .i64 p.fb,.slice x.B x.m x.d])
     have d0:=(Below.cell a0.out (p:=⟨b,_,none⟩) hbw).trans k0
     have d1:=(Below.cell a0.out (p:=⟨b,_,none⟩) hbw).trans k1
     have d2:=(Below.cell a0.out (p:=⟨b,_,none⟩) hbw).trans k2
     have d3:=(Below.cell a0.out (p:=⟨b,_,none⟩) hbw).trans k3
     have d4:=(Below.cell a0.out (p:=⟨b,_,none⟩) hbw).trans k4
     have d5:=(Below.cell a0.out (p:=⟨b,_,none⟩) hbw).trans k5
     have d6:=(Below.cell a0.out (p:=⟨b,_,none⟩) hbw).trans k6
     have d7:=(Below.cell a0.out (p:=⟨b,_,none⟩) hbw).trans k7
     obtain ⟨o_,ho_⟩:∃ o,o=((.cells #[.slice x2.A x2.n x2.c,.int .i64 p2.lo,.int .i64 p2.hi,.int .i64 p2.lb,.int .i64 p2.hb,.bool true,.int .i64 p2.fb,.slice x2.B x2.m x2.d] 48):Obj):=⟨_,rfl⟩
     replace a0:=bA a0 o_
     replace a1:=kA a1 o_
     subst ho_
     have a2:=hid (Blk.new (w.alloc (.cells #[.slice x.A x.n x.c,.int .i64 p.lo,.int .i64 p.hi,.int .i64 p.lb,.int .i64 p.hb,.bool true,.int .i64 p.fb,.slice x.B x.m x.d] 48)) 48 #[.slice x2.A x2.n x2.c,.int .i64 p2.lo,.int .i64 p2.hi,.int .i64 p2.lb,.int .i64 p2.hb,.bool true,.int .i64 p2.fb,.slice x2.B x2.m x2.d])
     obtain ⟨b3,b4,b5,b6,b7,b8,a3,a4⟩:=at8 a1
     obtain ⟨a5,a6,a7,a8,a9,b0,b1,b2⟩:=at8 a2
     clear g0 g1 g2 g3 g4 g5 g6 g7 k0 k1 k2 k3 k4 k5 k6 k7
     go_wp2
     go_ret
     exact ⟨ret_bool (by rw [HZ.out];have hc:=HC.out;have hd:=HD.out;first|rfl | (simp;done) | (simp;omega)),a0.out⟩
   · skip
     go_enter Tryz.func70,Tryz.ntmps70
     have a0:=hid (show Below w.heap.size w w from Below.refl _ w)
     have c0:=g0
     have c1:=g1
     have c2:=g2
     have c3:=g3
     have c4:=g4
     have c5:=g5
     have c6:=g6
     have c7:=g7
     obtain ⟨o_,ho_⟩:∃ o,o=((.cells #[.slice x.A x.n x.c,.int .i64 p.lo,.int .i64 p.hi,.int .i64 p.lb,.int .i64 p.hb,.bool false,.int .i64 p.fb,.slice x.B x.m x.d] 48):Obj):=⟨_,rfl⟩
     replace a0:=bA a0 o_
     subst ho_
     have a1:=hid (Blk.new w 48 #[.slice x.A x.n x.c,.int .i64 p.lo,.int .i64 p.hi,.int .i64 p.lb,.int .i64 p.hb,.bool false,.int .i64 p.fb,.slice x.B x.m x.d])
     have d0:=(Below.cell a0.out (p:=⟨b,_,none⟩) hbw).trans k0
     have d1:=(Below.cell a0.out (p:=⟨b,_,none⟩) hbw).trans k1
     have d2:=(Below.cell a0.out (p:=⟨b,_,none⟩) hbw).trans k2
     have d3:=(Below.cell a0.out (p:=⟨b,_,none⟩) hbw).trans k3
     have d4:=(Below.cell a0.out (p:=⟨b,_,none⟩) hbw).trans k4
     have d5:=(Below.cell a0.out (p:=⟨b,_,none⟩) hbw).trans k5
     have d6:=(Below.cell a0.out (p:=⟨b,_,none⟩) hbw).trans k6
     have d7:=(Below.cell a0.out (p:=⟨b,_,none⟩) hbw).trans k7
     obtain ⟨o_,ho_⟩:∃ o,o=((.cells #[.slice x2.A x2.n x2.c,.int .i64 p2.lo,.int .i64 p2.hi,.int .i64 p2.lb,.int .i64 p2.hb,.bool false,.int .i64 p2.fb,.slice x2.B x2.m x2.d] 48):Obj):=⟨_,rfl⟩
     replace a0:=bA a0 o_
     replace a1:=kA a1 o_
     subst ho_
     have a2:=hid (Blk.new (w.alloc (.cells #[.slice x.A x.n x.c,.int .i64 p.lo,.int .i64 p.hi,.int .i64 p.lb,.int .i64 p.hb,.bool false,.int .i64 p.fb,.slice x.B x.m x.d] 48)) 48 #[.slice x2.A x2.n x2.c,.int .i64 p2.lo,.int .i64 p2.hi,.int .i64 p2.lb,.int .i64 p2.hb,.bool false,.int .i64 p2.fb,.slice x2.B x2.m x2.d])
     obtain ⟨b3,b4,b5,b6,b7,b8,a3,a4⟩:=at8 a1
     obtain ⟨a5,a6,a7,a8,a9,b0,b1,b2⟩:=at8 a2
     clear g0 g1 g2 g3 g4 g5 g6 g7 k0 k1 k2 k3 k4 k5 k6 k7
     go_wp2
     go_ret
     exact ⟨ret_bool (by rw [HZ.out];have hc:=HC.out;have hd:=HD.out;first|rfl | (simp;done) | (simp;omega)),a0.out⟩
   · skip
     go_enter Tryz.func70,Tryz.ntmps70
     have a0:=hid (show Below w.heap.size w w from Below.refl _ w)
     have c0:=g0
     have c1:=g1
     have c2:=g2
     have c3:=g3
     have c4:=g4
     have c5:=g5
     have c6:=g6
     have c7:=g7
     obtain ⟨o_,ho_⟩:∃ o,o=((.cells #[.slice x.A x.n x.c,.int .i64 p.lo,.int .i64 p.hi,.int .i64 p.lb,.int .i64 p.hb,.bool false,.int .i64 p.fb,.slice x.B x.m x.d] 48):Obj):=⟨_,rfl⟩
     replace a0:=bA a0 o_
     subst ho_
     have a1:=hid (Blk.new w 48 #[.slice x.A x.n x.c,.int .i64 p.lo,.int .i64 p.hi,.int .i64 p.lb,.int .i64 p.hb,.bool false,.int .i64 p.fb,.slice x.B x.m x.d])
     have d0:=(Below.cell a0.out (p:=⟨b,_,none⟩) hbw).trans k0
     have d1:=(Below.cell a0.out (p:=⟨b,_,none⟩) hbw).trans k1
     have d2:=(Below.cell a0.out (p:=⟨b,_,none⟩) hbw).trans k2
     have d3:=(Below.cell a0.out (p:=⟨b,_,none⟩) hbw).trans k3
     have d4:=(Below.cell a0.out (p:=⟨b,_,none⟩) hbw).trans k4
     have d5:=(Below.cell a0.out (p:=⟨b,_,none⟩) hbw).trans k5
     have d6:=(Below.cell a0.out (p:=⟨b,_,none⟩) hbw).trans k6
     have d7:=(Below.cell a0.out (p:=⟨b,_,none⟩) hbw).trans k7
     obtain ⟨o_,ho_⟩:∃ o,o=((.cells #[.slice x2.A x2.n x2.c,.int .i64 p2.lo,.int .i64 p2.hi,.int .i64 p2.lb,.int .i64 p2.hb,.bool true,.int .i64 p2.fb,.slice x2.B x2.m x2.d] 48):Obj):=⟨_,rfl⟩
     replace a0:=bA a0 o_
     replace a1:=kA a1 o_
     subst ho_
     have a2:=hid (Blk.new (w.alloc (.cells #[.slice x.A x.n x.c,.int .i64 p.lo,.int .i64 p.hi,.int .i64 p.lb,.int .i64 p.hb,.bool false,.int .i64 p.fb,.slice x.B x.m x.d] 48)) 48 #[.slice x2.A x2.n x2.c,.int .i64 p2.lo,.int .i64 p2.hi,.int .i64 p2.lb,.int .i64 p2.hb,.bool true,.int .i64 p2.fb,.slice x2.B x2.m x2.d])
     obtain ⟨b3,b4,b5,b6,b7,b8,a3,a4⟩:=at8 a1
     obtain ⟨a5,a6,a7,a8,a9,b0,b1,b2⟩:=at8 a2
     clear g0 g1 g2 g3 g4 g5 g6 g7 k0 k1 k2 k3 k4 k5 k6 k7
     go_wp2
     go_ret
     exact ⟨ret_bool (by rw [HZ.out];have hc:=HC.out;have hd:=HD.out;first|rfl | (simp;done) | (simp;omega)),a0.out⟩
   · skip
     go_enter Tryz.func70,Tryz.ntmps70
     have a0:=hid (show Below w.heap.size w w from Below.refl _ w)
     have c0:=g0
     have c1:=g1
     have c2:=g2
     have c3:=g3
     have c4:=g4
     have c5:=g5
     have c6:=g6
     have c7:=g7
     obtain ⟨o_,ho_⟩:∃ o,o=((.cells #[.slice x.A x.n x.c,.int .i64 p.lo,.int .i64 p.hi,.int .i64 p.lb,.int .i64 p.hb,.bool true,.int .i64 p.fb,.slice x.B x.m x.d] 48):Obj):=⟨_,rfl⟩
     replace a0:=bA a0 o_
     subst ho_
     have a1:=hid (Blk.new w 48 #[.slice x.A x.n x.c,.int .i64 p.lo,.int .i64 p.hi,.int .i64 p.lb,.int .i64 p.hb,.bool true,.int .i64 p.fb,.slice x.B x.m x.d])
     have d0:=(Below.cell a0.out (p:=⟨b,_,none⟩) hbw).trans k0
     have d1:=(Below.cell a0.out (p:=⟨b,_,none⟩) hbw).trans k1
     have d2:=(Below.cell a0.out (p:=⟨b,_,none⟩) hbw).trans k2
     have d3:=(Below.cell a0.out (p:=⟨b,_,none⟩) hbw).trans k3
     have d4:=(Below.cell a0.out (p:=⟨b,_,none⟩) hbw).trans k4
     have d5:=(Below.cell a0.out (p:=⟨b,_,none⟩) hbw).trans k5
     have d6:=(Below.cell a0.out (p:=⟨b,_,none⟩) hbw).trans k6
     have d7:=(Below.cell a0.out (p:=⟨b,_,none⟩) hbw).trans k7
     obtain ⟨o_,ho_⟩:∃ o,o=((.cells #[.slice x2.A x2.n x2.c,.int .i64 p2.lo,.int .i64 p2.hi,.int .i64 p2.lb,.int .i64 p2.hb,.bool false,.int .i64 p2.fb,.slice x2.B x2.m x2.d] 48):Obj):=⟨_,rfl⟩
     replace a0:=bA a0 o_
     replace a1:=kA a1 o_
     subst ho_
     have a2:=hid (Blk.new (w.alloc (.cells #[.slice x.A x.n x.c,.int .i64 p.lo,.int .i64 p.hi,.int .i64 p.lb,.int .i64 p.hb,.bool true,.int .i64 p.fb,.slice x.B x.m x.d] 48)) 48 #[.slice x2.A x2.n x2.c,.int .i64 p2.lo,.int .i64 p2.hi,.int .i64 p2.lb,.int .i64 p2.hb,.bool false,.int .i64 p2.fb,.slice x2.B x2.m x2.d])
     obtain ⟨b3,b4,b5,b6,b7,b8,a3,a4⟩:=at8 a1
     obtain ⟨a5,a6,a7,a8,a9,b0,b1,b2⟩:=at8 a2
     clear g0 g1 g2 g3 g4 g5 g6 g7 k0 k1 k2 k3 k4 k5 k6 k7
     go_wp2
     go_ret
     exact ⟨ret_bool (by rw [HZ.out];have hc:=HC.out;have hd:=HD.out;first|rfl | (simp;done) | (simp;omega)),a0.out⟩
   · skip
     go_enter Tryz.func70,Tryz.ntmps70
     have a0:=hid (show Below w.heap.size w w from Below.refl _ w)
     have c0:=g0
     have c1:=g1
     have c2:=g2
     have c3:=g3
     have c4:=g4
     have c5:=g5
     have c6:=g6
     have c7:=g7
     obtain ⟨o_,ho_⟩:∃ o,o=((.cells #[.slice x.A x.n x.c,.int .i64 p.lo,.int .i64 p.hi,.int .i64 p.lb,.int .i64 p.hb,.bool true,.int .i64 p.fb,.slice x.B x.m x.d] 48):Obj):=⟨_,rfl⟩
     replace a0:=bA a0 o_
     subst ho_
     have a1:=hid (Blk.new w 48 #[.slice x.A x.n x.c,.int .i64 p.lo,.int .i64 p.hi,.int .i64 p.lb,.int .i64 p.hb,.bool true,.int .i64 p.fb,.slice x.B x.m x.d])
     have d0:=(Below.cell a0.out (p:=⟨b,_,none⟩) hbw).trans k0
     have d1:=(Below.cell a0.out (p:=⟨b,_,none⟩) hbw).trans k1
     have d2:=(Below.cell a0.out (p:=⟨b,_,none⟩) hbw).trans k2
     have d3:=(Below.cell a0.out (p:=⟨b,_,none⟩) hbw).trans k3
     have d4:=(Below.cell a0.out (p:=⟨b,_,none⟩) hbw).trans k4
     have d5:=(Below.cell a0.out (p:=⟨b,_,none⟩) hbw).trans k5
     have d6:=(Below.cell a0.out (p:=⟨b,_,none⟩) hbw).trans k6
     have d7:=(Below.cell a0.out (p:=⟨b,_,none⟩) hbw).trans k7
     obtain ⟨o_,ho_⟩:∃ o,o=((.cells #[.slice x2.A x2.n x2.c,.int .i64 p2.lo,.int .i64 p2.hi,.int .i64 p2.lb,.int .i64 p2.hb,.bool true,.int .i64 p2.fb,.slice x2.B x2.m x2.d] 48):Obj):=⟨_,rfl⟩
     replace a0:=bA a0 o_
     replace a1:=kA a1 o_
     subst ho_
     have a2:=hid (Blk.new (w.alloc (.cells #[.slice x.A x.n x.c,.int .i64 p.lo,.int .i64 p.hi,.int .i64 p.lb,.int .i64 p.hb,.bool true,.int .i64 p.fb,.slice x.B x.m x.d] 48)) 48 #[.slice x2.A x2.n x2.c,.int .i64 p2.lo,.int .i64 p2.hi,.int .i64 p2.lb,.int .i64 p2.hb,.bool true,.int .i64 p2.fb,.slice x2.B x2.m x2.d])
     obtain ⟨b3,b4,b5,b6,b7,b8,a3,a4⟩:=at8 a1
     obtain ⟨a5,a6,a7,a8,a9,b0,b1,b2⟩:=at8 a2
     clear g0 g1 g2 g3 g4 g5 g6 g7 k0 k1 k2 k3 k4 k5 k6 k7
     go_wp2
     go_ret
     exact ⟨ret_bool (by rw [HZ.out];have hc:=HC.out;have hd:=HD.out;first|rfl | (simp;done) | (simp;omega)),a0.out⟩
   · skip
     go_enter Tryz.func70,Tryz.ntmps70
     have a0:=hid (show Below w.heap.size w w from Below.refl _ w)
     have c0:=g0
     have c1:=g1
     have c2:=g2
     have c3:=g3
     have c4:=g4
     have c5:=g5
     have c6:=g6
     have c7:=g7
     obtain ⟨o_,ho_⟩:∃ o,o=((.cells #[.slice x.A x.n x.c,.int .i64 p.lo,.int .i64 p.hi,.int .i64 p.lb,.int .i64 p.hb,.bool false,.int .i64 p.fb,.slice x.B x.m x.d] 48):Obj):=⟨_,rfl⟩
     replace a0:=bA a0 o_
     subst ho_
     have a1:=hid (Blk.new w 48 #[.slice x.A x.n x.c,.int .i64 p.lo,.int .i64 p.hi,.int .i64 p.lb,.int .i64 p.hb,.bool false,.int .i64 p.fb,.slice x.B x.m x.d])
     have d0:=(Below.cell a0.out (p:=⟨b,_,none⟩) hbw).trans k0
     have d1:=(Below.cell a0.out (p:=⟨b,_,none⟩) hbw).trans k1
     have d2:=(Below.cell a0.out (p:=⟨b,_,none⟩) hbw).trans k2
     have d3:=(Below.cell a0.out (p:=⟨b,_,none⟩) hbw).trans k3
     have d4:=(Below.cell a0.out (p:=⟨b,_,none⟩) hbw).trans k4
     have d5:=(Below.cell a0.out (p:=⟨b,_,none⟩) hbw).trans k5
     have d6:=(Below.cell a0.out (p:=⟨b,_,none⟩) hbw).trans k6
     have d7:=(Below.cell a0.out (p:=⟨b,_,none⟩) hbw).trans k7
     obtain ⟨o_,ho_⟩:∃ o,o=((.cells #[.slice x2.A x2.n x2.c,.int .i64 p2.lo,.int .i64 p2.hi,.int .i64 p2.lb,.int .i64 p2.hb,.bool false,.int .i64 p2.fb,.slice x2.B x2.m x2.d] 48):Obj):=⟨_,rfl⟩
     replace a0:=bA a0 o_
     replace a1:=kA a1 o_
     subst ho_
     have a2:=hid (Blk.new (w.alloc (.cells #[.slice x.A x.n x.c,.int .i64 p.lo,.int .i64 p.hi,.int .i64 p.lb,.int .i64 p.hb,.bool false,.int .i64 p.fb,.slice x.B x.m x.d] 48)) 48 #[.slice x2.A x2.n x2.c,.int .i64 p2.lo,.int .i64 p2.hi,.int .i64 p2.lb,.int .i64 p2.hb,.bool false,.int .i64 p2.fb,.slice x2.B x2.m x2.d])
     obtain ⟨b3,b4,b5,b6,b7,b8,a3,a4⟩:=at8 a1
     obtain ⟨a5,a6,a7,a8,a9,b0,b1,b2⟩:=at8 a2
     clear g0 g1 g2 g3 g4 g5 g6 g7 k0 k1 k2 k3 k4 k5 k6 k7
     go_wp2
     go_ret
     exact ⟨ret_bool (by rw [HZ.out];have hc:=HC.out;have hd:=HD.out;first|rfl | (simp;done) | (simp;omega)),a0.out⟩
   · skip
     go_enter Tryz.func70,Tryz.ntmps70
     have a0:=hid (show Below w.heap.size w w from Below.refl _ w)
     have c0:=g0
     have c1:=g1
     have c2:=g2
     have c3:=g3
     have c4:=g4
     have c5:=g5
     have c6:=g6
     have c7:=g7
     obtain ⟨o_,ho_⟩:∃ o,o=((.cells #[.slice x.A x.n x.c,.int .i64 p.lo,.int .i64 p.hi,.int .i64 p.lb,.int .i64 p.hb,.bool false,.int .i64 p.fb,.slice x.B x.m x.d] 48):Obj):=⟨_,rfl⟩
     replace a0:=bA a0 o_
     subst ho_
     have a1:=hid (Blk.new w 48 #[.slice x.A x.n x.c,.int .i64 p.lo,.int .i64 p.hi,.int .i64 p.lb,.int .i64 p.hb,.bool false,.int .i64 p.fb,.slice x.B x.m x.d])
     have d0:=(Below.cell a0.out (p:=⟨b,_,none⟩) hbw).trans k0
     have d1:=(Below.cell a0.out (p:=⟨b,_,none⟩) hbw).trans k1
     have d2:=(Below.cell a0.out (p:=⟨b,_,none⟩) hbw).trans k2
     have d3:=(Below.cell a0.out (p:=⟨b,_,none⟩) hbw).trans k3
     have d4:=(Below.cell a0.out (p:=⟨b,_,none⟩) hbw).trans k4
     have d5:=(Below.cell a0.out (p:=⟨b,_,none⟩) hbw).trans k5
     have d6:=(Below.cell a0.out (p:=⟨b,_,none⟩) hbw).trans k6
     have d7:=(Below.cell a0.out (p:=⟨b,_,none⟩) hbw).trans k7
     obtain ⟨o_,ho_⟩:∃ o,o=((.cells #[.slice x2.A x2.n x2.c,.int .i64 p2.lo,.int .i64 p2.hi,.int .i64 p2.lb,.int .i64 p2.hb,.bool true,.int .i64 p2.fb,.slice x2.B x2.m x2.d] 48):Obj):=⟨_,rfl⟩
     replace a0:=bA a0 o_
     replace a1:=kA a1 o_
     subst ho_
     have a2:=hid (Blk.new (w.alloc (.cells #[.slice x.A x.n x.c,.int .i64 p.lo,.int .i64 p.hi,.int .i64 p.lb,.int .i64 p.hb,.bool false,.int .i64 p.fb,.slice x.B x.m x.d] 48)) 48 #[.slice x2.A x2.n x2.c,.int .i64 p2.lo,.int .i64 p2.hi,.int .i64 p2.lb,.int .i64 p2.hb,.bool true,.int .i64 p2.fb,.slice x2.B x2.m x2.d])
     obtain ⟨b3,b4,b5,b6,b7,b8,a3,a4⟩:=at8 a1
     obtain ⟨a5,a6,a7,a8,a9,b0,b1,b2⟩:=at8 a2
     clear g0 g1 g2 g3 g4 g5 g6 g7 k0 k1 k2 k3 k4 k5 k6 k7
     go_wp2
     go_ret
     exact ⟨ret_bool (by rw [HZ.out];have hc:=HC.out;have hd:=HD.out;first|rfl | (simp;done) | (simp;omega)),a0.out⟩
   · skip
     go_enter Tryz.func70,Tryz.ntmps70
     have a0:=hid (show Below w.heap.size w w from Below.refl _ w)
     have c0:=g0
     have c1:=g1
     have c2:=g2
     have c3:=g3
     have c4:=g4
     have c5:=g5
     have c6:=g6
     have c7:=g7
     obtain ⟨o_,ho_⟩:∃ o,o=((.cells #[.slice x.A x.n x.c,.int .i64 p.lo,.int .i64 p.hi,.int .i64 p.lb,.int .i64 p.hb,.bool true,.int .i64 p.fb,.slice x.B x.m x.d] 48):Obj):=⟨_,rfl⟩
     replace a0:=bA a0 o_
     subst ho_
     have a1:=hid (Blk.new w 48 #[.slice x.A x.n x.c,.int .i64 p.lo,.int .i64 p.hi,.int .i64 p.lb,.int .i64 p.hb,.bool true,.int .i64 p.fb,.slice x.B x.m x.d])
     have d0:=(Below.cell a0.out (p:=⟨b,_,none⟩) hbw).trans k0
     have d1:=(Below.cell a0.out (p:=⟨b,_,none⟩) hbw).trans k1
     have d2:=(Below.cell a0.out (p:=⟨b,_,none⟩) hbw).trans k2
     have d3:=(Below.cell a0.out (p:=⟨b,_,none⟩) hbw).trans k3
     have d4:=(Below.cell a0.out (p:=⟨b,_,none⟩) hbw).trans k4
     have d5:=(Below.cell a0.out (p:=⟨b,_,none⟩) hbw).trans k5
     have d6:=(Below.cell a0.out (p:=⟨b,_,none⟩) hbw).trans k6
     have d7:=(Below.cell a0.out (p:=⟨b,_,none⟩) hbw).trans k7
     obtain ⟨o_,ho_⟩:∃ o,o=((.cells #[.slice x2.A x2.n x2.c,.int .i64 p2.lo,.int .i64 p2.hi,.int .i64 p2.lb,.int .i64 p2.hb,.bool false,.int .i64 p2.fb,.slice x2.B x2.m x2.d] 48):Obj):=⟨_,rfl⟩
     replace a0:=bA a0 o_
     replace a1:=kA a1 o_
     subst ho_
     have a2:=hid (Blk.new (w.alloc (.cells #[.slice x.A x.n x.c,.int .i64 p.lo,.int .i64 p.hi,.int .i64 p.lb,.int .i64 p.hb,.bool true,.int .i64 p.fb,.slice x.B x.m x.d] 48)) 48 #[.slice x2.A x2.n x2.c,.int .i64 p2.lo,.int .i64 p2.hi,.int .i64 p2.lb,.int .i64 p2.hb,.bool false,.int .i64 p2.fb,.slice x2.B x2.m x2.d])
     obtain ⟨b3,b4,b5,b6,b7,b8,a3,a4⟩:=at8 a1
     obtain ⟨a5,a6,a7,a8,a9,b0,b1,b2⟩:=at8 a2
     clear g0 g1 g2 g3 g4 g5 g6 g7 k0 k1 k2 k3 k4 k5 k6 k7
     go_wp2
     go_ret
     exact ⟨ret_bool (by rw [HZ.out];have hc:=HC.out;have hd:=HD.out;first|rfl | (simp;done) | (simp;omega)),a0.out⟩
   · skip
     go_enter Tryz.func70,Tryz.ntmps70
     have a0:=hid (show Below w.heap.size w w from Below.refl _ w)
     have c0:=g0
     have c1:=g1
     have c2:=g2
     have c3:=g3
     have c4:=g4
     have c5:=g5
     have c6:=g6
     have c7:=g7
     obtain ⟨o_,ho_⟩:∃ o,o=((.cells #[.slice x.A x.n x.c,.int .i64 p.lo,.int .i64 p.hi,.int .i64 p.lb,.int .i64 p.hb,.bool true,.int .i64 p.fb,.slice x.B x.m x.d] 48):Obj):=⟨_,rfl⟩
     replace a0:=bA a0 o_
     subst ho_
     have a1:=hid (Blk.new w 48 #[.slice x.A x.n x.c,.int .i64 p.lo,.int .i64 p.hi,.int .i64 p.lb,.int .i64 p.hb,.bool true,.int .i64 p.fb,.slice x.B x.m x.d])
     have d0:=(Below.cell a0.out (p:=⟨b,_,none⟩) hbw).trans k0
     have d1:=(Below.cell a0.out (p:=⟨b,_,none⟩) hbw).trans k1
     have d2:=(Below.cell a0.out (p:=⟨b,_,none⟩) hbw).trans k2
     have d3:=(Below.cell a0.out (p:=⟨b,_,none⟩) hbw).trans k3
     have d4:=(Below.cell a0.out (p:=⟨b,_,none⟩) hbw).trans k4
     have d5:=(Below.cell a0.out (p:=⟨b,_,none⟩) hbw).trans k5
     have d6:=(Below.cell a0.out (p:=⟨b,_,none⟩) hbw).trans k6
     have d7:=(Below.cell a0.out (p:=⟨b,_,none⟩) hbw).trans k7
     obtain ⟨o_,ho_⟩:∃ o,o=((.cells #[.slice x2.A x2.n x2.c,.int .i64 p2.lo,.int .i64 p2.hi,.int .i64 p2.lb,.int .i64 p2.hb,.bool true,.int .i64 p2.fb,.slice x2.B x2.m x2.d] 48):Obj):=⟨_,rfl⟩
     replace a0:=bA a0 o_
     replace a1:=kA a1 o_
     subst ho_
     have a2:=hid (Blk.new (w.alloc (.cells #[.slice x.A x.n x.c,.int .i64 p.lo,.int .i64 p.hi,.int .i64 p.lb,.int .i64 p.hb,.bool true,.int .i64 p.fb,.slice x.B x.m x.d] 48)) 48 #[.slice x2.A x2.n x2.c,.int .i64 p2.lo,.int .i64 p2.hi,.int .i64 p2.lb,.int .i64 p2.hb,.bool true,.int .i64 p2.fb,.slice x2.B x2.m x2.d])
     obtain ⟨b3,b4,b5,b6,b7,b8,a3,a4⟩:=at8 a1
     obtain ⟨a5,a6,a7,a8,a9,b0,b1,b2⟩:=at8 a2
     clear g0 g1 g2 g3 g4 g5 g6 g7 k0 k1 k2 k3 k4 k5 k6 k7
     go_wp2
     go_ret
     exact ⟨ret_bool (by rw [HZ.out];have hc:=HC.out;have hd:=HD.out;first|rfl | (simp;done) | (simp;omega)),a0.out⟩
   · skip
     go_enter Tryz.func70,Tryz.ntmps70
     have a0:=hid (show Below w.heap.size w w from Below.refl _ w)
     have c0:=g0
     have c1:=g1
     have c2:=g2
     have c3:=g3
     have c4:=g4
     have c5:=g5
     have c6:=g6
     have c7:=g7
     obtain ⟨o_,ho_⟩:∃ o,o=((.cells #[.slice x.A x.n x.c,.int .i64 p.lo,.int .i64 p.hi,.int .i64 p.lb,.int .i64 p.hb,.bool false,.int .i64 p.fb,.slice x.B x.m x.d] 48):Obj):=⟨_,rfl⟩
     replace a0:=bA a0 o_
     subst ho_
     have a1:=hid (Blk.new w 48 #[.slice x.A x.n x.c,.int .i64 p.lo,.int .i64 p.hi,.int .i64 p.lb,.int .i64 p.hb,.bool false,.int .i64 p.fb,.slice x.B x.m x.d])
     have d0:=(Below.cell a0.out (p:=⟨b,_,none⟩) hbw).trans k0
     have d1:=(Below.cell a0.out (p:=⟨b,_,none⟩) hbw).trans k1
     have d2:=(Below.cell a0.out (p:=⟨b,_,none⟩) hbw).trans k2
     have d3:=(Below.cell a0.out (p:=⟨b,_,none⟩) hbw).trans k3
     have d4:=(Below.cell a0.out (p:=⟨b,_,none⟩) hbw).trans k4
     have d5:=(Below.cell a0.out (p:=⟨b,_,none⟩) hbw).trans k5
     have d6:=(Below.cell a0.out (p:=⟨b,_,none⟩) hbw).trans k6
     have d7:=(Below.cell a0.out (p:=⟨b,_,none⟩) hbw).trans k7
     obtain ⟨o_,ho_⟩:∃ o,o=((.cells #[.slice x2.A x2.n x2.c,.int .i64 p2.lo,.int .i64 p2.hi,.int .i64 p2.lb,.int .i64 p2.hb,.bool false,.int .i64 p2.fb,.slice x2.B x2.m x2.d] 48):Obj):=⟨_,rfl⟩
     replace a0:=bA a0 o_
     replace a1:=kA a1 o_
     subst ho_
     have a2:=hid (Blk.new (w.alloc (.cells #[.slice x.A x.n x.c,.int .i64 p.lo,.int .i64 p.hi,.int .i64 p.lb,.int .i64 p.hb,.bool false,.int .i64 p.fb,.slice x.B x.m x.d] 48)) 48 #[.slice x2.A x2.n x2.c,.int .i64 p2.lo,.int .i64 p2.hi,.int .i64 p2.lb,.int .i64 p2.hb,.bool false,.int .i64 p2.fb,.slice x2.B x2.m x2.d])
     obtain ⟨b3,b4,b5,b6,b7,b8,a3,a4⟩:=at8 a1
     obtain ⟨a5,a6,a7,a8,a9,b0,b1,b2⟩:=at8 a2
     clear g0 g1 g2 g3 g4 g5 g6 g7 k0 k1 k2 k3 k4 k5 k6 k7
     go_wp2
     go_ret
     exact ⟨ret_bool (by rw [HZ.out];have hc:=HC.out;have hd:=HD.out;first|rfl | (simp;done) | (simp;omega)),a0.out⟩
   · skip
     go_enter Tryz.func70,Tryz.ntmps70
     have a0:=hid (show Below w.heap.size w w from Below.refl _ w)
     have c0:=g0
     have c1:=g1
     have c2:=g2
     have c3:=g3
     have c4:=g4
     have c5:=g5
     have c6:=g6
     have c7:=g7
     obtain ⟨o_,ho_⟩:∃ o,o=((.cells #[.slice x.A x.n x.c,.int .i64 p.lo,.int .i64 p.hi,.int .i64 p.lb,.int .i64 p.hb,.bool false,.int .i64 p.fb,.slice x.B x.m x.d] 48):Obj):=⟨_,rfl⟩
     replace a0:=bA a0 o_
     subst ho_
     have a1:=hid (Blk.new w 48 #[.slice x.A x.n x.c,.int .i64 p.lo,.int .i64 p.hi,.int .i64 p.lb,.int .i64 p.hb,.bool false,.int .i64 p.fb,.slice x.B x.m x.d])
     have d0:=(Below.cell a0.out (p:=⟨b,_,none⟩) hbw).trans k0
     have d1:=(Below.cell a0.out (p:=⟨b,_,none⟩) hbw).trans k1
     have d2:=(Below.cell a0.out (p:=⟨b,_,none⟩) hbw).trans k2
     have d3:=(Below.cell a0.out (p:=⟨b,_,none⟩) hbw).trans k3
     have d4:=(Below.cell a0.out (p:=⟨b,_,none⟩) hbw).trans k4
     have d5:=(Below.cell a0.out (p:=⟨b,_,none⟩) hbw).trans k5
     have d6:=(Below.cell a0.out (p:=⟨b,_,none⟩) hbw).trans k6
     have d7:=(Below.cell a0.out (p:=⟨b,_,none⟩) hbw).trans k7
     obtain ⟨o_,ho_⟩:∃ o,o=((.cells #[.slice x2.A x2.n x2.c,.int .i64 p2.lo,.int .i64 p2.hi,.int .i64 p2.lb,.int .i64 p2.hb,.bool true,.int .i64 p2.fb,.slice x2.B x2.m x2.d] 48):Obj):=⟨_,rfl⟩
     replace a0:=bA a0 o_
     replace a1:=kA a1 o_
     subst ho_
     have a2:=hid (Blk.new (w.alloc (.cells #[.slice x.A x.n x.c,.int .i64 p.lo,.int .i64 p.hi,.int .i64 p.lb,.int .i64 p.hb,.bool false,.int .i64 p.fb,.slice x.B x.m x.d] 48)) 48 #[.slice x2.A x2.n x2.c,.int .i64 p2.lo,.int .i64 p2.hi,.int .i64 p2.lb,.int .i64 p2.hb,.bool true,.int .i64 p2.fb,.slice x2.B x2.m x2.d])
     obtain ⟨b3,b4,b5,b6,b7,b8,a3,a4⟩:=at8 a1
     obtain ⟨a5,a6,a7,a8,a9,b0,b1,b2⟩:=at8 a2
     clear g0 g1 g2 g3 g4 g5 g6 g7 k0 k1 k2 k3 k4 k5 k6 k7
     go_wp2
     go_ret
     exact ⟨ret_bool (by rw [HZ.out];have hc:=HC.out;have hd:=HD.out;first|rfl | (simp;done) | (simp;omega)),a0.out⟩
   · skip
     go_enter Tryz.func70,Tryz.ntmps70
     have a0:=hid (show Below w.heap.size w w from Below.refl _ w)
     have c0:=g0
     have c1:=g1
     have c2:=g2
     have c3:=g3
     have c4:=g4
     have c5:=g5
     have c6:=g6
     have c7:=g7
     obtain ⟨o_,ho_⟩:∃ o,o=((.cells #[.slice x.A x.n x.c,.int .i64 p.lo,.int .i64 p.hi,.int .i64 p.lb,.int .i64 p.hb,.bool true,.int .i64 p.fb,.slice x.B x.m x.d] 48):Obj):=⟨_,rfl⟩
     replace a0:=bA a0 o_
     subst ho_
     have a1:=hid (Blk.new w 48 #[.slice x.A x.n x.c,.int .i64 p.lo,.int .i64 p.hi,.int .i64 p.lb,.int .i64 p.hb,.bool true,.int .i64 p.fb,.slice x.B x.m x.d])
     have d0:=(Below.cell a0.out (p:=⟨b,_,none⟩) hbw).trans k0
     have d1:=(Below.cell a0.out (p:=⟨b,_,none⟩) hbw).trans k1
     have d2:=(Below.cell a0.out (p:=⟨b,_,none⟩) hbw).trans k2
     have d3:=(Below.cell a0.out (p:=⟨b,_,none⟩) hbw).trans k3
     have d4:=(Below.cell a0.out (p:=⟨b,_,none⟩) hbw).trans k4
     have d5:=(Below.cell a0.out (p:=⟨b,_,none⟩) hbw).trans k5
     have d6:=(Below.cell a0.out (p:=⟨b,_,none⟩) hbw).trans k6
     have d7:=(Below.cell a0.out (p:=⟨b,_,none⟩) hbw).trans k7
     obtain ⟨o_,ho_⟩:∃ o,o=((.cells #[.slice x2.A x2.n x2.c,.int .i64 p2.lo,.int .i64 p2.hi,.int .i64 p2.lb,.int .i64 p2.hb,.bool false,.int .i64 p2.fb,.slice x2.B x2.m x2.d] 48):Obj):=⟨_,rfl⟩
     replace a0:=bA a0 o_
     replace a1:=kA a1 o_
     subst ho_
     have a2:=hid (Blk.new (w.alloc (.cells #[.slice x.A x.n x.c,.int .i64 p.lo,.int .i64 p.hi,.int .i64 p.lb,.int .i64 p.hb,.bool true,.int .i64 p.fb,.slice x.B x.m x.d] 48)) 48 #[.slice x2.A x2.n x2.c,.int .i64 p2.lo,.int .i64 p2.hi,.int .i64 p2.lb,.int .i64 p2.hb,.bool false,.int .i64 p2.fb,.slice x2.B x2.m x2.d])
     obtain ⟨b3,b4,b5,b6,b7,b8,a3,a4⟩:=at8 a1
     obtain ⟨a5,a6,a7,a8,a9,b0,b1,b2⟩:=at8 a2
     clear g0 g1 g2 g3 g4 g5 g6 g7 k0 k1 k2 k3 k4 k5 k6 k7
     go_wp2
     go_ret
     exact ⟨ret_bool (by rw [HZ.out];have hc:=HC.out;have hd:=HD.out;first|rfl | (simp;done) | (simp;omega)),a0.out⟩
   · skip
     go_enter Tryz.func70,Tryz.ntmps70
     have a0:=hid (show Below w.heap.size w w from Below.refl _ w)
     have c0:=g0
     have c1:=g1
     have c2:=g2
     have c3:=g3
     have c4:=g4
     have c5:=g5
     have c6:=g6
     have c7:=g7
     obtain ⟨o_,ho_⟩:∃ o,o=((.cells #[.slice x.A x.n x.c,.int .i64 p.lo,.int .i64 p.hi,.int .i64 p.lb,.int .i64 p.hb,.bool true,.int .i64 p.fb,.slice x.B x.m x.d] 48):Obj):=⟨_,rfl⟩
     replace a0:=bA a0 o_
     subst ho_
     have a1:=hid (Blk.new w 48 #[.slice x.A x.n x.c,.int .i64 p.lo,.int .i64 p.hi,.int .i64 p.lb,.int .i64 p.hb,.bool true,.int .i64 p.fb,.slice x.B x.m x.d])
     have d0:=(Below.cell a0.out (p:=⟨b,_,none⟩) hbw).trans k0
     have d1:=(Below.cell a0.out (p:=⟨b,_,none⟩) hbw).trans k1
     have d2:=(Below.cell a0.out (p:=⟨b,_,none⟩) hbw).trans k2
     have d3:=(Below.cell a0.out (p:=⟨b,_,none⟩) hbw).trans k3
     have d4:=(Below.cell a0.out (p:=⟨b,_,none⟩) hbw).trans k4
     have d5:=(Below.cell a0.out (p:=⟨b,_,none⟩) hbw).trans k5
     have d6:=(Below.cell a0.out (p:=⟨b,_,none⟩) hbw).trans k6
     have d7:=(Below.cell a0.out (p:=⟨b,_,none⟩) hbw).trans k7
     obtain ⟨o_,ho_⟩:∃ o,o=((.cells #[.slice x2.A x2.n x2.c,.int .i64 p2.lo,.int .i64 p2.hi,.int .i64 p2.lb,.int .i64 p2.hb,.bool true,.int .i64 p2.fb,.slice x2.B x2.m x2.d] 48):Obj):=⟨_,rfl⟩
     replace a0:=bA a0 o_
     replace a1:=kA a1 o_
     subst ho_
     have a2:=hid (Blk.new (w.alloc (.cells #[.slice x.A x.n x.c,.int .i64 p.lo,.int .i64 p.hi,.int .i64 p.lb,.int .i64 p.hb,.bool true,.int .i64 p.fb,.slice x.B x.m x.d] 48)) 48 #[.slice x2.A x2.n x2.c,.int .i64 p2.lo,.int .i64 p2.hi,.int .i64 p2.lb,.int .i64 p2.hb,.bool true,.int .i64 p2.fb,.slice x2.B x2.m x2.d])
     obtain ⟨b3,b4,b5,b6,b7,b8,a3,a4⟩:=at8 a1
     obtain ⟨a5,a6,a7,a8,a9,b0,b1,b2⟩:=at8 a2
     clear g0 g1 g2 g3 g4 g5 g6 g7 k0 k1 k2 k3 k4 k5 k6 k7
     go_wp2
     go_ret
     exact ⟨ret_bool (by rw [HZ.out];have hc:=HC.out;have hd:=HD.out;first|rfl | (simp;done) | (simp;omega)),a0.out⟩
theorem xclash_is (A:Option Addr) (n k:Nat) (ps:List Prt) (w:World) (hr:RdP w A n k ps) (hn:n≤maxLen) (a b':Nat) (ha:a<n) (hb:b'<n) (v:Bool) (hv:clB ps a b'=v):Calls Tryz.prog 70 #[.slice A n k,.int .i64 a,.int .i64 b'] w fun e w'=>e=.returned (.bool v)∧Below w.heap.size w w':=by
 subst hv
 exact xclash_any A n k ps w hr hn a b' ha hb
end Go.Proofs.YtokpblmgdmokoaaGreat
