import Derived.Test.YtjjmifcjailpaaaGreatURChecka
import Derived.Deep.AppendLies
import Derived.Test.YtjjmifcjailpaaaGreatURFewesta
import Derived.Test.YtjjmifcjailpaaaGreatUEShared
import Derived.Test.YtjjmifcjailpaaaGreatUERefC
set_option maxHeartbeats 4000000
set_option linter.unusedSimpArgs false
set_option linter.unusedVariables false
namespace Go.Proofs.YtjjmifcjailpaaaGreat
open Go.Lib (hid)
open Go.RowKit
theorem idx_at {l:List Bnd} {x:List Int} (h:∀ i∈x,∃ k b,i=Int.ofNat k∧l[k]?=some b) {j:Nat} (hj:j<x.length) :
 ∃ (k:Nat) (f t m i:Int),x[j]?=some (k:Int)∧l[k]?=some ⟨f,t,m,i⟩∧bnd l (at_ x j)=⟨f,t,m,i⟩:=by
 obtain ⟨k,b,e,hb⟩:=h (x[j]) (List.getElem_mem hj)
 obtain ⟨f,t,m,i⟩:=b
 have hx:x[j]?=some (k:Int):=by rw [List.getElem?_eq_getElem hj,e];rfl
 refine ⟨k,f,t,m,i,hx,hb,?_⟩
 rw [show at_ x j=(k:Int) from by simp [at_,hx]]
 exact bnd_of (by rw [Int.toNat_natCast];exact hb)
theorem rCheckCircle_any (P:Int) (A:Option Addr) (n k:Nat) (l:List Bnd) (w:World) (hr:RdB w A n k l) (hn:n≤maxLen) (B:Option Addr) (m d:Nat) (x:List Int) (hx:RdI w B m d x) (hm:m≤100) :
 Calls Tryz.prog 47 #[.agg #[.int .i64 P,.slice A n k],.slice B m d] w fun e w'=>e=.returned (.tuple #[.bool (checkCircleV P l x).1,.int .i64 (checkCircleV P l x).2])∧Below w.heap.size w w':=by
 by_cases hk:chk P l=0
 · obtain ⟨hp1,hp2,hlen,-⟩:=chk_ok hk
   have hok:=okB_of hk
   have hn4:n≤402:=by have:=hr.len;omega
   have hxl:=hx.len
   rw [rcirc_eq hk]
   unfold rcircV
   obtain ⟨V,hV⟩:∃ V,walkR l x [] [] 0=V:=⟨_,rfl⟩
   obtain ⟨s,t⟩:=V
   cases t
   · have hV0:=walk_no hok (show (walkR l x [] [] 0).2=false from by rw [hV])
     rw [hV0]
     exact rC_no P A n k l w hr hn B m d x hx hm hn4 (hid hok) (hid hk) (hid hV0)
   · rw [hV]
     by_cases h2:m<2
     · have:decide (2≤x.length)=false:=decide_eq_false (by omega)
       simp only [this,Bool.and_false,Bool.false_and]
       exact rC_short P A n k l w hr hn B m d x hx hm hn4 (hid hok) (hid hk) s (hid hV) h2
     · have h2':decide (2≤x.length)=true:=decide_eq_true (by omega)
       obtain ⟨m,rfl⟩:∃ m',m=m'+1:=⟨m-1,by omega⟩
       have hidx:=walk_idx hok hV
       obtain ⟨k0,f0,t0,m0,i0,a1,a2,a3⟩:=idx_at hidx (j:=0) (by omega)
       obtain ⟨k1,f1,t1,m1,i1,c1,c2,c3⟩:=idx_at hidx (j:=m) (by omega)
       have hlt:lastT l x=t1:=by unfold lastT;rw [show x.length-1=m from by omega,c3]
       simp only [h2',Bool.true_and,a3,hlt]
       by_cases hs:s<0
       · by_cases hf:f0=t1
         · subst hf
           simp only [hs,decide_true,Bool.and_self]
           exact rC_ok2 P A n k l w hr hn B m d x hx hm hn4 (hid hok) (hid hk) s (hid hV) (by omega) k0 k1 f0 t0 m0 i0 f1 m1 i1 a1 c1 a2 c2 (decide_eq_true hs)
         · simp only [hf,decide_false,Bool.and_false]
           exact rC_ok1 P A n k l w hr hn B m d x hx hm hn4 (hid hok) (hid hk) s (hid hV) (by omega) k0 k1 f0 t0 m0 i0 f1 t1 m1 i1 a1 c1 a2 c2 (decide_eq_true hs) (beq_eq_false_iff_ne.2 hf) (decide_eq_false hf) hf
       · simp only [hs,decide_false,Bool.false_and]
         exact rC_ok0 P A n k l w hr hn B m d x hx hm hn4 (hid hok) (hid hk) s (hid hV) (by omega) k0 k1 f0 t0 m0 i0 f1 t1 m1 i1 a1 c1 a2 c2 (decide_eq_false hs)
 · have hg:gcode P l []=chk P l:=by unfold gcode;rw [if_neg hk]
   have hv:checkCircleV P l x=(false,chk P l):=by unfold checkCircleV;rw [if_neg (by rw [hg];exact hk),hg]
   rw [hv]
   exact rC_err P A n k l w hr hn B m d x hx hm _ (by simpa using hk) (hid rfl)
theorem rFewest_at (P:Int) (A:Option Addr) (n k:Nat) (l:List Bnd) (w:World) (hr:RdB w A n k l) (hk:chk P l=0) :
 Calls Tryz.prog 50 #[.agg #[.int .i64 P,.slice A n k]] w fun e w'=>e=.returned (.int .i64 (fewA l P.toNat P.toNat:Nat))∧Below w.heap.size w w':=by
 obtain ⟨hp1,hp2,hlen,-⟩:=chk_ok hk
 have he:=edges60 hk
 obtain ⟨p,rfl⟩:=Int.eq_ofNat_of_zero_le (show 0≤P by omega)
 rw [Int.toNat_natCast] at he ⊢
 exact rFewest_any p A n k l w hr (by have:=hr.len;omega) (fun c hc=>by have:=he c hc;omega) (by omega) (by omega)
theorem rCheckCircle_is (P:Int) (A:Option Addr) (n k:Nat) (l:List Bnd) (w:World) (hr:RdB w A n k l) (hn:n≤maxLen) (B:Option Addr) (m d:Nat) (x:List Int) (hx:RdI w B m d x) (hm:m≤100) (V:Bool × Int) (hV:checkCircleV P l x=V) :
 Calls Tryz.prog 47 #[.agg #[.int .i64 P,.slice A n k],.slice B m d] w fun e w'=>e=.returned (.tuple #[.bool V.1,.int .i64 V.2])∧Below w.heap.size w w':=by
 subst hV
 exact rCheckCircle_any P A n k l w hr hn B m d x hx hm
set_option maxRecDepth 100000 in
theorem rCheckClash_e (c:Int) (A B:Option Addr) (n k m j:Nat) (ws ts:List Bnd) (d:Int) (C D:Option Addr) (n2 k2 m2 j2:Nat) (ws2 ts2:List Bnd) (p1 p2 p3 p4:Int) (w:World) (h1:RdB w A n k ws) (h2:RdB w B m j ts) (hn:n≤maxLen) (hm:m≤maxLen) (h3:RdB w C n2 k2 ws2) (h4:RdB w D m2 j2 ts2) (hn2:n2≤maxLen) (hm2:m2≤maxLen) (u:Bool) (X:Option Addr) (xn xk:Nat) (x:List Int) (hx:RdI w X xn xk x) (hxm:xn≤100) (q:Int) (hq:(q != 0)=true) (E1:Hid (asked ⟨c,ws,ts⟩ ⟨d,ws2,ts2⟩ ⟨p1,p2,p3,p4⟩=q)) :
 Calls Tryz.prog 15 #[.agg #[.int .i64 c,.slice A n k,.slice B m j],.agg #[.int .i64 d,.slice C n2 k2,.slice D m2 j2],.agg #[.int .i64 p1,.int .i64 p2,.int .i64 p3,.int .i64 p4],.agg #[.bool u,.slice X xn xk]] w fun e w'=>e=.returned (.tuple #[.bool false,.int .i64 q])∧Below w.heap.size w w':=by
  go_enter Tryz.func15,Tryz.ntmps15
  obtain ⟨a2,a3,a4,a5,a0⟩:=ent4 w #[.int .i64 c,.slice A n k,.slice B m j] 24 #[.int .i64 d,.slice C n2 k2,.slice D m2 j2] 24 #[.int .i64 p1,.int .i64 p2,.int .i64 p3,.int .i64 p4] 28 #[.bool u,.slice X xn xk] 40
  have a6:=rI h1 a0
  have a7:=rI h2 a0
  have a8:=rI h3 a0
  have a9:=rI h4 a0
  have c2:=iI hx a0
  clear h1 h2 h3 h4 hx
  obtain ⟨b0,b1,b2⟩:=at3 a2
  obtain ⟨b3,b4,b5⟩:=at3 a3
  obtain ⟨b6,b7,b8,b9⟩:=at4 a4
  obtain ⟨c0,c1⟩:=at2 a5
  have hc:=rAsked_any c A B n k m j ws ts d C D n2 k2 m2 j2 ws2 ts2 p1 p2 p3 p4 _ a6.out a7.out hn hm a8.out a9.out hn2 hm2
  rw [E1.out] at hc
  try dsimp only at hc
  have HC:=hid hc;clear hc
  go_wp2_with fail
  refine HC.out.mono ?_
  rintro e c3 ⟨rfl,hb⟩
  clear HC
  clear b0 b1 b2 b3 b4 b5 b6 b7 b8 b9 c0 c1
  have a1:=hid hb
  clear hb
  replace a2:=kH a2 a1
  obtain ⟨c4,c5,c6⟩:=at3 a2
  replace a3:=kH a3 a1
  obtain ⟨c7,c8,c9⟩:=at3 a3
  replace a4:=kH a4 a1
  obtain ⟨d0,d1,d2,d3⟩:=at4 a4
  replace a5:=kH a5 a1
  obtain ⟨d4,d5⟩:=at2 a5
  go_wp2
  go_ret2
  replace a0:=bH a0 a1
  exact ⟨rfl,a0.out⟩
set_option maxRecDepth 100000 in
theorem rCheckClash_o (c:Int) (A B:Option Addr) (n k m j:Nat) (ws ts:List Bnd) (d:Int) (C D:Option Addr) (n2 k2 m2 j2:Nat) (ws2 ts2:List Bnd) (p1 p2 p3 p4:Int) (w:World) (h1:RdB w A n k ws) (h2:RdB w B m j ts) (hn:n≤maxLen) (hm:m≤maxLen) (h3:RdB w C n2 k2 ws2) (h4:RdB w D m2 j2 ts2) (hn2:n2≤maxLen) (hm2:m2≤maxLen) (u:Bool) (X:Option Addr) (xn xk:Nat) (x:List Int) (hx:RdI w X xn xk x) (hxm:xn≤100) (v1:Bool) (v2:Int) (E1:Hid (asked ⟨c,ws,ts⟩ ⟨d,ws2,ts2⟩ ⟨p1,p2,p3,p4⟩=0)) (HQ1:Hid (chkP ⟨c,ws,ts⟩ ⟨d,ws2,ts2⟩ ⟨p1,p2,p3,p4⟩=0)) (HL1:Hid ((jL u ⟨c,ws,ts⟩ ⟨d,ws2,ts2⟩ ⟨p1,p2,p3,p4⟩).length≤400)) (EV:Hid (checkCircleV (jP u ⟨c,ws,ts⟩ ⟨d,ws2,ts2⟩ ⟨p1,p2,p3,p4⟩) (jL u ⟨c,ws,ts⟩ ⟨d,ws2,ts2⟩ ⟨p1,p2,p3,p4⟩) x=(v1,v2))) :
 Calls Tryz.prog 15 #[.agg #[.int .i64 c,.slice A n k,.slice B m j],.agg #[.int .i64 d,.slice C n2 k2,.slice D m2 j2],.agg #[.int .i64 p1,.int .i64 p2,.int .i64 p3,.int .i64 p4],.agg #[.bool u,.slice X xn xk]] w fun e w'=>e=.returned (.tuple #[.bool v1,.int .i64 v2])∧Below w.heap.size w w':=by
  go_enter Tryz.func15,Tryz.ntmps15
  obtain ⟨a0,a1,a2,a3,a4⟩:=ent4 w #[.int .i64 c,.slice A n k,.slice B m j] 24 #[.int .i64 d,.slice C n2 k2,.slice D m2 j2] 24 #[.int .i64 p1,.int .i64 p2,.int .i64 p3,.int .i64 p4] 28 #[.bool u,.slice X xn xk] 40
  have b1:=rI h1 a4
  have b2:=rI h2 a4
  have b3:=rI h3 a4
  have b4:=rI h4 a4
  have a9:=iI hx a4
  clear h1 h2 h3 h4 hx
  obtain ⟨c3,c4,c5⟩:=at3 a0
  obtain ⟨c6,c7,c8⟩:=at3 a1
  obtain ⟨c9,d0,d1,d2⟩:=at4 a2
  obtain ⟨d3,d4⟩:=at2 a3
  have hc:=rAsked_any c A B n k m j ws ts d C D n2 k2 m2 j2 ws2 ts2 p1 p2 p3 p4 _ b1.out b2.out hn hm b3.out b4.out hn2 hm2
  rw [E1.out] at hc
  try dsimp only at hc
  have HC:=hid hc;clear hc
  go_wp2_with fail
  refine HC.out.mono ?_
  rintro e d5 ⟨rfl,hb⟩
  clear HC
  clear c3 c4 c5 c6 c7 c8 c9 d0 d1 d2 d3 d4
  have a5:=hid hb
  clear hb
  replace a0:=kH a0 a5
  obtain ⟨d6,d7,d8⟩:=at3 a0
  replace a1:=kH a1 a5
  obtain ⟨d9,e0,e1⟩:=at3 a1
  replace a2:=kH a2 a5
  obtain ⟨e2,e3,e4,e5⟩:=at4 a2
  replace a3:=kH a3 a5
  obtain ⟨e6,e7⟩:=at2 a3
  go_wp2_with fail
  clear d6 d7 d8 d9 e0 e1 e2 e3 e4 e5 e6 e7
  replace a4:=bD (bH a4 a5)
  replace b1:=rD (rH b1 a5)
  replace b2:=rD (rH b2 a5)
  replace b3:=rD (rH b3 a5)
  replace b4:=rD (rH b4 a5)
  replace a9:=iD (iH a9 a5)
  replace a0:=kD a0
  replace a1:=kD a1
  replace a2:=kD a2
  replace a3:=kD a3
  refine wp_region_held_drew (S:=(fun W'=>Blk W' (w.heap.size) 24 #[.int .i64 c,.slice A n k,.slice B m j]∧Blk W' (w.heap.size+1) 24 #[.int .i64 d,.slice C n2 k2,.slice D m2 j2]∧Blk W' (w.heap.size+1+1) 28 #[.int .i64 p1,.int .i64 p2,.int .i64 p3,.int .i64 p4]∧Blk W' (w.heap.size+1+1+1) 40 #[.bool u,.slice X xn xk])) (by kernel_rfl) ⟨a0.out,a1.out,a2.out,a3.out⟩ (fun _=>?_)
  obtain ⟨e8,b5⟩:∃ w',w'=(d5.drew):=⟨_,rfl⟩
  rw [← b5] at a4 b1 b2 b3 b4 a9 a0 a1 a2 a3
  rw [← b5]
  clear b5
  have a8:=hid (And.intro a0.out (And.intro a1.out (And.intro a2.out a3.out)))
  refine' tkH 0 a8.out ?b7 ?_
  case b7=>(rintro W' ⟨hS0,hS1,hS2,hS3⟩;have hc0:=Blk.nth hS0 0;have hc1:=Blk.nth hS0 1;have hc2:=Blk.nth hS0 2;clear hS0 hS1 hS2 hS3;go_simp;try with_reducible rfl)
  refine' tkH 1 a8.out ?b8 ?_
  case b8=>(rintro W' ⟨hS0,hS1,hS2,hS3⟩;have hc0:=Blk.nth hS1 0;have hc1:=Blk.nth hS1 1;have hc2:=Blk.nth hS1 2;clear hS0 hS1 hS2 hS3;go_simp;try with_reducible rfl)
  refine' tkH 2 a8.out ?b9 ?_
  case b9=>(rintro W' ⟨hS0,hS1,hS2,hS3⟩;have hc0:=Blk.nth hS2 0;have hc1:=Blk.nth hS2 1;have hc2:=Blk.nth hS2 2;have hc3:=Blk.nth hS2 3;clear hS0 hS1 hS2 hS3;go_simp;try with_reducible rfl)
  refine' twH 3 a8.out ?_
  try simp only [pq]
  refine' tkH 4 a8.out ?c0 ?_
  case c0=>(rintro W' ⟨hS0,hS1,hS2,hS3⟩;have hc0:=Blk.nth hS3 0;clear hS0 hS1 hS2 hS3;go_simp;try with_reducible rfl)
  refine' twH 6 a8.out ?_
  refine' tkH 7 a8.out ?c1 ?_
  case c1=>(rintro W' ⟨hS0,hS1,hS2,hS3⟩;have hc0:=Blk.nth hS3 1;clear hS0 hS1 hS2 hS3;go_simp;try with_reducible rfl)
  try simp only [pq]
  refine oneH 5 rfl fun K hK=>?_
  go_simp
  go_at_call 48
  refine (rjoint_any u c A B n k m j ws ts d C D n2 k2 m2 j2 ws2 ts2 p1 p2 p3 p4 _ b1.out b2.out hn hm b3.out b4.out hn2 hm2 HQ1.out).mono ?_
  rintro e e9 ⟨Ar,nr,kr,rfl,hrl,a6⟩
  dsimp only
  replace a6:=hid a6
  have b6:=hid (hrl)
  replace a0:=kH a0 a6
  replace a1:=kH a1 a6
  replace a2:=kH a2 a6
  replace a3:=kH a3 a6
  have c2:=hid (And.intro a0.out (And.intro a1.out (And.intro a2.out a3.out)))
  refine hK.out _ _ c2.out (fun _=>?_);clear hK K
  try simp only [pq]
  refine oneH 8 rfl fun K hK=>?_
  replace a9:=iH a9 a6
  have hl_:nr≤maxLen:=by have h1:=(b6.out).len;have h2:=HL1.out;unfold maxLen;omega
  go_simp
  go_at_call 47
  refine (rCheckCircle_is _ Ar nr kr _ _ b6.out hl_ X xn xk x a9.out hxm _ EV.out).mono ?_
  rintro e f0 ⟨rfl,a7⟩
  dsimp only
  replace a7:=hid a7
  replace a0:=kH a0 a7
  replace a1:=kH a1 a7
  replace a2:=kH a2 a7
  replace a3:=kH a3 a7
  have b0:=hid (And.intro a0.out (And.intro a1.out (And.intro a2.out a3.out)))
  refine hK.out _ _ b0.out (fun _=>?_);clear hK K
  try simp only [pq]
  refine' twH 9 b0.out ?_
  refine' twH 10 b0.out ?_
  refine' twH 11 b0.out ?_
  refine' twH 12 b0.out ?_
  try simp only [pq]
  refine wpAnyH_done (by kernel_rfl) ?_ _
  go_wp2
  go_ret2
  replace a4:=bH (bH a4 a6) a7
  exact ⟨rfl,a4.out⟩
theorem rCheckClash_any (c:Int) (A B:Option Addr) (n k m j:Nat) (ws ts:List Bnd) (d:Int) (C D:Option Addr) (n2 k2 m2 j2:Nat) (ws2 ts2:List Bnd) (p1 p2 p3 p4:Int) (w:World) (h1:RdB w A n k ws) (h2:RdB w B m j ts) (hn:n≤maxLen) (hm:m≤maxLen) (h3:RdB w C n2 k2 ws2) (h4:RdB w D m2 j2 ts2) (hn2:n2≤maxLen) (hm2:m2≤maxLen) (u:Bool) (X:Option Addr) (xn xk:Nat) (x:List Int) (hx:RdI w X xn xk x) (hxm:xn≤100) :
 Calls Tryz.prog 15 #[.agg #[.int .i64 c,.slice A n k,.slice B m j],.agg #[.int .i64 d,.slice C n2 k2,.slice D m2 j2],.agg #[.int .i64 p1,.int .i64 p2,.int .i64 p3,.int .i64 p4],.agg #[.bool u,.slice X xn xk]] w fun e w'=>e=.returned (.tuple #[.bool (checkClashV u ⟨c,ws,ts⟩ ⟨d,ws2,ts2⟩ ⟨p1,p2,p3,p4⟩ x).1,.int .i64 (checkClashV u ⟨c,ws,ts⟩ ⟨d,ws2,ts2⟩ ⟨p1,p2,p3,p4⟩ x).2])∧Below w.heap.size w w':=by
 unfold checkClashV
 by_cases h:asked ⟨c,ws,ts⟩ ⟨d,ws2,ts2⟩ ⟨p1,p2,p3,p4⟩=0
 · rw [if_pos h]
   exact rCheckClash_o c A B n k m j ws ts d C D n2 k2 m2 j2 ws2 ts2 p1 p2 p3 p4 w h1 h2 hn hm h3 h4 hn2 hm2 u X xn xk x hx hxm _ _ (hid h) (hid (asked_ok h).1) (hid (jL_len h u)) (hid rfl)
 · rw [if_neg h]
   exact rCheckClash_e c A B n k m j ws ts d C D n2 k2 m2 j2 ws2 ts2 p1 p2 p3 p4 w h1 h2 hn hm h3 h4 hn2 hm2 u X xn xk x hx hxm _ (by simpa using h) (hid rfl)
end Go.Proofs.YtjjmifcjailpaaaGreat
